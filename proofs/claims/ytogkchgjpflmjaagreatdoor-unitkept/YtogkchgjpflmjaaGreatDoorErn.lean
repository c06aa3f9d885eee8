/- api's Errno.Error, unit's Refusal.Error: a text that is not empty. -/
import Derived.Test.YtogkchgjpflmjaaGreatDoorAsb1
import Derived.Test.YtogkchgjpflmjaaGreatDoorEr5
import Derived.Test.YtogkchgjpflmjaaGreatDoorSetM
import Derived.Shelf.Strconv.Itoa3
import Derived.Laws.IdiomStrings
import Derived.BigQuiet
/- unit's Assemble: the unit in the making abides what a range over a function does beside it. -/
namespace Go.Proofs.YtogkchgjpflmjaaGreatDoor
open Go.ChangeShapes Go.WideShapes Go.ChangeAt Go.RowKit Go.Shelf Go.WideMaps Go.Maps Go.Sort
set_option linter.unusedVariables false
set_option maxRecDepth 100000
variable {lo b m N : Nat} {w w' : World} {A : Asm} {pt pd : List (Itm × Value)} {pe : List ((List UInt8 × Lin) × Value)} {tv dv ev av : Value}
theorem off_none {w : World} {row : Option Nat} {T : TypeId} (h : ∀ r, row = some r → ∃ o : Obj, w.heap[r]? = some o ∧ o.isCells = false) : Off w row T := ⟨fun {lo sz v n xs} ho => by
  cases hv : v.ownBlock with
  | none => exact .inl rfl
  | some g =>
    refine .inr fun e => ?_
    obtain ⟨o, h1, h2⟩ := h g e.symm
    obtain ⟨cur, hc⟩ := own_type ho hv
    rw [hc] at h1
    cases h1
    cases h2⟩
theorem AsmAt.abides (h : AsmAt lo w b m N A pt pd pe tv dv ev av) {B : Nat} (hm : m < B) {row : Option Nat} (hg : w.grownBy w' row) (hr : ∀ r, row = some r → B ≤ r ∧ ∃ o : Obj, w.heap[r]? = some o ∧ o.isCells = false) : AsmAt lo w' b m N A pt pd pe tv dv ev av := by
  have ho : ∀ T, Off w row T := fun T => off_none fun r e => (hr r e).2
  have hbne : some b ≠ row := fun e => by
    obtain ⟨_, o, h1, h2⟩ := hr b e.symm
    rw [h.blk] at h1
    cases h1
    cases h2
  have hmne : some m ≠ row := fun e => by
    have := (hr m e.symm).1
    omega
  exact ⟨by rw [hg.block b h.lt hbne]; exact h.blk, h.text.kept hg ((ho 91).off h.text.row) (ho 123), h.data.kept hg ((ho 91).off h.data.row) (ho 123), h.equs.kept hg ((ho 101).off h.equs.row) (ho 123), h.asked.kept hg ((ho 144).off h.asked), h.set.kept hg hmne, h.blo, h.mlo, h.td, h.et, h.ed, h.ee⟩
theorem AsmIn.abides (h : AsmIn lo w b m N A) {B : Nat} (hm : m < B) {row : Option Nat} (hg : w.grownBy w' row) (hr : ∀ r, row = some r → B ≤ r ∧ ∃ o : Obj, w.heap[r]? = some o ∧ o.isCells = false) : AsmIn lo w' b m N A := by
  obtain ⟨pt, pd, pe, tv, dv, ev, av, h⟩ := h
  exact ⟨pt, pd, pe, tv, dv, ev, av, h.abides hm hg hr⟩
theorem set_new (w : World) : SetIs (w.alloc (.map #[] 0)) w.heap.size 0 [] := ⟨.map [], World.ownsMap_made w Tryz.prog 9 unitE, isMap_empty, fun s => by simp [has]⟩
theorem asm_new {lo : Nat} {w : World} {b m : Nat} (hb : w.heap[b]? = some (.cells #[.slice none 0 0, .slice none 0 0, .slice none 0 0, .slice none 0 0, .int .i64 0, .map (some m), .slice none 0 0] 70 (0, 0))) (hm : SetIs w m 0 []) (hlb : lo ≤ b) (hlm : lo ≤ m) : AsmIn lo w b m 0 asmE :=
  ⟨[], [], [], _, _, _, _, hb, ItOwn.start _ _, ItOwn.start _ _, EqOwn.start _ _, World.ownsRow_nil _ _ _ _, hm, hlb, hlm, .inl rfl, rfl, rfl, rfl⟩
structure UnitO (lo : Nat) (w : World) (A : Asm) (tv dv ev gv : Value) (pt pd : List (Itm × Value)) (pe : List ((List UInt8 × Lin) × Value)) (gs : List (List UInt8)) : Prop where
  text : ItOwn lo w tv pt
  data : ItOwn lo w dv pd
  equs : EqOwn lo w ev pe
  globs : w.ownsRow lo 9 1 gv gs.length (gs.map encStr)
  td : dv.ownBlock = none ∨ dv.ownBlock ≠ tv.ownBlock
  et : A.text = pt.map (·.1)
  ed : A.data = pd.map (·.1)
  ee : A.equs = pe.map (·.1)
def AsbOut (lo : Nat) (w' : World) (R : Except (Nat × Int) Asm) (e : Ending) : Prop :=
  match R with
  | .error f => ∃ q, e = .returned (.tuple #[unitZ, .iface 51 (.pointer (some ⟨q, 0, none⟩))]) ∧ RefAt w' lo q f.1 f.2
  | .ok A => ∃ tv dv ev gv pt pd pe, e = .returned (.tuple #[.agg (unit4 tv dv ev gv), .nilIface]) ∧ UnitO lo w' A tv dv ev gv pt pd pe (globF A)
end Go.Proofs.YtogkchgjpflmjaaGreatDoor
/- unit's Assemble, whatever the source. -/
namespace Go.Proofs.YtogkchgjpflmjaaGreatDoor
open Go.ChangeShapes Go.WideShapes Go.ChangeAt Go.RowKit Go.Shelf
set_option linter.unusedVariables false
set_option maxRecDepth 100000
attribute [local go_sem] Oper.semAt_some
abbrev noUnit : Obj := .cells (unit4 (.slice none 0 0) (.slice none 0 0) (.slice none 0 0) (.slice none 0 0)) 26 (0, 0)
structure AbI (w : World) (b m : Nat) (pre : List LnA) (W : World) : Prop where
  res : W.heap[w.heap.size]? = some noUnit
  err : W.heap[w.heap.size + 1]? = some (.cells #[.nilIface] 28 (0, 0))
  bel : Below w.heap.size w W
  asm : ∃ A, runP asmE pre = .ok A ∧ AsmIn (w.heap.size + 2) W b m (2 * pre.length) A
structure AbX (w : World) (pre : List LnA) (W : World) : Prop where
  bel : Below w.heap.size w W
  res : W.heap[w.heap.size]? = some noUnit
  out : ∃ f q, runP asmE pre = .error f ∧ W.heap[w.heap.size + 1]? = some (.cells #[.iface 51 (.pointer (some ⟨q, 0, none⟩))] 28 (0, 0)) ∧ RefAt W (w.heap.size + 2) q f.1 f.2
theorem heap_abides {A B : World} {row : Option Nat} {k Bn : Nat} {o : Obj} (h : A.heap[k]? = some o) (ho : o.isCells = true) (hg : A.grownBy B row) (hr : ∀ r, row = some r → Bn ≤ r ∧ ∃ o : Obj, A.heap[r]? = some o ∧ o.isCells = false) : B.heap[k]? = some o := by
  rw [hg.block k (blk_lt h) (fun e => by
    obtain ⟨_, o', h1, h2⟩ := hr k e.symm
    rw [h] at h1
    cases h1
    rw [ho] at h2
    cases h2)]
  exact h
theorem abI_own {w : World} {b m Bn : Nat} (hm : m < Bn) (hB : w.heap.size ≤ Bn) : OwnFrom Bn (AbI w b m) := fun s A B row hs hg hr => by
  obtain ⟨C, h1, h2⟩ := hs.asm
  exact ⟨heap_abides hs.res rfl hg hr, heap_abides hs.err rfl hg hr, hs.bel.grown hg hs.bel.size (fun j hj => by have := (hr j hj).1; omega), C, h1, h2.abides hm hg hr⟩
theorem abX_own {w : World} {Bn : Nat} (hB : w.heap.size ≤ Bn) (c : Code) : OwnFrom Bn (fun pre W => c = .ret ∧ AbX w pre W) := fun s A B row hs hg hr => by
  obtain ⟨hc, hs⟩ := hs
  obtain ⟨f, q, h1, h2, h3, h4⟩ := hs.out
  exact ⟨hc, hs.bel.grown hg hs.bel.size (fun j hj => by have := (hr j hj).1; omega), heap_abides hs.res rfl hg hr, f, q, h1, heap_abides h2 rfl hg hr, h3, heap_abides h4 rfl hg hr⟩
theorem str_bs (s : ByteArray) : str (bs s) = s := by
  cases s
  simp [str, bs]
theorem nil_ref (a : Addr) (w : World) : (binOp .neq 28 (.iface 51 (.pointer (some a))) .nilIface).run Tryz.prog w = .ok (.bool true) w := by kernel_rfl
theorem nil_nil28 (w : World) : (binOp .neq 28 .nilIface .nilIface).run Tryz.prog w = .ok (.bool false) w := by kernel_rfl
theorem keepsFrom_of {lo m Bn : Nat} {W W' : World} (h : BelN lo m W W') (hm : m < Bn) (hs : W.heap.size ≤ W'.heap.size) : KeepsFrom Bn W W' := ⟨hs, fun k o hk ho hc => h.oth k o ho hc (by omega)⟩
theorem ret_two {w2 : World} {R : Nat} {c0 c1 c2 c3 x : Value} (r0 : w2.heap[R]? = some (.cells #[c0, c1, c2, c3] 26 (0, 0))) (r1 : w2.heap[R + 1]? = some (.cells #[x] 28 (0, 0))) (v0 v1 v2 v3 ve : Value) {w9 : World}
    (h9 : w9 = ((((w2.setCell ⟨R, 0, none⟩ v0).setCell ⟨R, 1, none⟩ v1).setCell ⟨R, 2, none⟩ v2).setCell ⟨R, 3, none⟩ v3).setCell ⟨R + 1, 0, none⟩ ve) :
    w9.heap[R]? = some (.cells #[v0, v1, v2, v3] 26 (0, 0)) ∧ w9.heap[R + 1]? = some (.cells #[ve] 28 (0, 0)) ∧ (∀ k, k ≠ R → k ≠ R + 1 → w9.heap[k]? = w2.heap[k]?) ∧ w9.heap.size = w2.heap.size ∧ Below R w2 w9 := by
  obtain ⟨s1, s2⟩ := four_set r0 v0 v1 v2 v3
  have e1 := (s2.block (R + 1) (blk_lt r1) (by simp)).trans r1
  obtain ⟨t1, t2⟩ := row_set e1 0 ve
  have hB : Below R w2 w9 := by
    rw [h9]
    have h1 : Below R w2 _ := (Below.refl R w2).grown s2 (by have := blk_lt r0; omega) (fun j hj => by cases hj; exact Nat.le_refl _)
    exact h1.grown t2 (by have := blk_lt e1; omega) (fun j hj => by cases hj; omega)
  subst h9
  refine ⟨(t2.block R (blk_lt s1) (by simp)).trans s1, t1, fun k h1 h2 => ?_, by simp, hB⟩
  rw [heap_setCell_other _ _ _ _ (by simpa using h2), heap_setCell_other _ _ _ _ (by simpa using h1), heap_setCell_other _ _ _ _ (by simpa using h1), heap_setCell_other _ _ _ _ (by simpa using h1), heap_setCell_other _ _ _ _ (by simpa using h1)]
theorem keepsFrom_below {Bn : Nat} {W W' : World} (h : Below W.heap.size W W') : KeepsFrom Bn W W' := ⟨h.size, fun k o _ ho _ => by rw [h.block k (blk_lt ho)]; exact ho⟩
theorem asmF_err {l : List UInt8} (hl : l.length ≤ 65536) (hm : ¬ 4096 < (linesOf l).length) {pre : List LnA} (hpre : pre <+: numbered 1 (linesOf l)) {f : Nat × Int} (h : runP asmE pre = .error f) : asmF l = .error f := by
  obtain ⟨r, hr⟩ := hpre
  have h1 := runP_more pre r asmE f h
  rw [hr, runP_numbered _ (linesOf_short l hl)] at h1
  unfold asmF
  rw [if_neg (by omega), if_neg hm, h1]
theorem asmF_run {l : List UInt8} (hl : l.length ≤ 65536) (hm : ¬ 4096 < (linesOf l).length) {A : Asm} (h : runP asmE (numbered 1 (linesOf l)) = .ok A) : asmF l = match unknownF A with | some n => .error (n, 23) | none => .ok A := by
  rw [runP_numbered _ (linesOf_short l hl)] at h
  unfold asmF
  rw [if_neg (by omega), if_neg hm, h]
  rfl
theorem put_heap {W : World} {D k : Nat} {o o' : Obj} (hD : W.heap[D]? = some o) (ho : o.isCells = false) {cs : Array Value} {T : TypeId} {r : Nat × Nat} (hk : W.heap[k]? = some (.cells cs T r)) : (W.putObj D o').heap[k]? = some (.cells cs T r) :=
  heap_abides (Bn := 0) hk rfl (grownBy_putObj' W D o') (fun j e => by cases e; exact ⟨Nat.zero_le _, o, hD, ho⟩)
set_option maxHeartbeats 4000000 in
theorem asb_all (l : List UInt8) (hl : l.length ≤ 65536) (hm : ¬ 4096 < (linesOf l).length) (w : World) (hT : Tab w) (hE : ErrT w) : Calls Tryz.prog 9 #[.string (str l)] w fun e w' => Below w.heap.size w w' ∧ AsbOut w.heap.size w' (asmF l) e := by
  have hmore := Hid.intro (fun w => hasMore_any l hl w)
  rw [show decide (4096 < (linesOf l).length) = false by simpa using hm] at hmore
  refine (callsIn_wide (n := 8)).1 ?_
  refine callsIn_of_wp_marks Tryz.func9 rfl trivial ?_ rfl
  simp only [Tryz.ntmps9, List.size_toArray, List.length_cons, List.length_nil, Nat.reduceAdd, Nat.reduceSub, Array.replicate_succ, Array.replicate_zero, List.push_toArray, List.append_toArray, List.nil_append, List.cons_append]
  have hsz : (str l).size = l.length := rfl
  have ht : decide ((65536 : Int) < (l.length : Int)) = false := by simp; omega
  have hsz0 : ((w.alloc (.cells (unit4 (.slice none 0 0) (.slice none 0 0) (.slice none 0 0) (.slice none 0 0)) 26)).alloc (.cells #[.nilIface] 28)).heap.size = w.heap.size + 2 := by simp
  have hB0 : Hid (Below w.heap.size w ((w.alloc (.cells (unit4 (.slice none 0 0) (.slice none 0 0) (.slice none 0 0) (.slice none 0 0)) 26)).alloc (.cells #[.nilIface] 28))) := ((Below.refl _ w).alloc (Nat.le_refl _) _).alloc (by simp) _
  have h0 := heap_alloc_new w (.cells (unit4 (.slice none 0 0) (.slice none 0 0) (.slice none 0 0) (.slice none 0 0)) 26)
  have h1 := heap_alloc_new (w.alloc (.cells (unit4 (.slice none 0 0) (.slice none 0 0) (.slice none 0 0) (.slice none 0 0)) 26)) (.cells #[.nilIface] 28)
  rw [World.size_alloc] at h1
  replace h0 := Hid.intro (keepN h0 (.cells #[.nilIface] 28))
  replace h1 := Hid.intro h1
  have hmm := @run_makeMap Tryz.prog
  gi_wp2_with (first | (refine ⟨trivial, ?_⟩; gi_at_call 32; refine (callsIn_wide.2 (hmore.out _)).mono ?_; rintro e w1 ⟨rfl, hb1⟩; replace hb1 := Hid.intro hb1) | (refine ⟨trivial, ?_⟩; gi_at_call 33; refine (callsIn_wide.2 (all_any (str l) _)).mono ?_; rintro e w2 ⟨rfl, rfl⟩))
  have hs1 := hb1.out.size
  rw [hsz0] at hs1
  have hBw1 : Below w.heap.size w w1 := hB0.out.trans (hb1.out.mono hB0.out.size)
  have hr0 := (hb1.out.block w.heap.size (by rw [hsz0]; omega)).trans h0.out
  have hr1 := (hb1.out.block (w.heap.size + 1) (by rw [hsz0]; omega)).trans h1.out
  clear hb1 hB0 h0 h1 hmore hmm hsz0
  have hset := set_new w1
  have hasm := heap_alloc_new (w1.alloc (.map #[] 0)) (.cells #[.slice none 0 0, .slice none 0 0, .slice none 0 0, .slice none 0 0, .int .i64 0, .map (some w1.heap.size), .slice none 0 0] 70)
  rw [World.size_alloc] at hasm
  have hstr := heap_alloc_new ((w1.alloc (.map #[] 0)).alloc (.cells #[.slice none 0 0, .slice none 0 0, .slice none 0 0, .slice none 0 0, .int .i64 0, .map (some w1.heap.size), .slice none 0 0] 70)) (.cells #[.string (str l)] 9)
  rw [World.size_alloc, World.size_alloc] at hstr
  have hset' := (hset.below (below_alloc _ (.cells #[.slice none 0 0, .slice none 0 0, .slice none 0 0, .slice none 0 0, .int .i64 0, .map (some w1.heap.size), .slice none 0 0] 70))).below (below_alloc _ (.cells #[.string (str l)] 9))
  have hasm' := keepN hasm (.cells #[.string (str l)] 9)
  have hBW : Below w1.heap.size w1 (((w1.alloc (.map #[] 0)).alloc (.cells #[.slice none 0 0, .slice none 0 0, .slice none 0 0, .slice none 0 0, .int .i64 0, .map (some w1.heap.size), .slice none 0 0] 70)).alloc (.cells #[.string (str l)] 9)) := (((Below.refl _ w1).alloc (Nat.le_refl _) _).alloc (by simp) _).alloc (by simp; omega) _
  have hszW : (((w1.alloc (.map #[] 0)).alloc (.cells #[.slice none 0 0, .slice none 0 0, .slice none 0 0, .slice none 0 0, .int .i64 0, .map (some w1.heap.size), .slice none 0 0] 70)).alloc (.cells #[.string (str l)] 9)).heap.size = w1.heap.size + 3 := by simp
  clear hset hasm
  generalize (((w1.alloc (.map #[] 0)).alloc (.cells #[.slice none 0 0, .slice none 0 0, .slice none 0 0, .slice none 0 0, .int .i64 0, .map (some w1.heap.size), .slice none 0 0] 70)).alloc (.cells #[.string (str l)] 9)) = W0 at *
  have hI0 : AbI w (w1.heap.size + 1) w1.heap.size [] W0 := ⟨(hBW.block _ (by omega)).trans hr0, (hBW.block _ (by omega)).trans hr1, hBw1.trans (hBW.mono hBw1.size), asmE, rfl, asm_new hasm' hset' (by omega) (by omega)⟩
  have hcS : W0.cell? ⟨w1.heap.size + 1 + 1, 0, none⟩ = some (.string (str l)) := (cell_blockT hstr 0).trans rfl
  have hlinesH := Hid.intro hm
  have hTsz := hT.size
  have hElt := hE.lt
  have hTH := Hid.intro hT
  have hEH := Hid.intro hE
  clear hr0 hr1 hset' hasm' hBW hBw1 hT hE hm hstr
  generalize hmm : w1.heap.size = m at *
  clear hmm
  refine wpIn_rangeFunc_ownG (F := Fence.wide) rfl (by decide) (gf := 65) (lb := #[.pointer (some ⟨m + 1 + 1, 0, none⟩)]) rfl trivial (enters_of Tryz.func65 (by kernel_rfl) rfl)
    (all_stops 7 (by decide) (m + 1 + 1) l hl W0 (by omega) hcS) (fun _ _ => trivial) (fun _ _ _ _ _ _ _ _ => trivial) (Below.refl _ _) (fun _ => rfl)
    (AbI w (m + 1) m) (fun c pre W => c = .ret ∧ AbX w pre W) (abI_own (by omega) (by omega)) (abX_own (by omega)) hI0
    (fun x => { tmps := #[.string (str l), undef, .pointer (some ⟨w.heap.size, 0, none⟩), .pointer (some ⟨w.heap.size + 1, 0, none⟩), .pointer (some ⟨m + 1, 0, none⟩), .int .i64 (x.1.1 : Int), .string x.1.2, undef, undef, undef, .string (str l), .int .i64 (l.length : Int), .bool false, undef, undef, undef, undef, .string (str l), .bool false, undef, undef, undef, undef, .map (some m), .agg #[.slice none 0 0, .slice none 0 0, .slice none 0 0, .slice none 0 0, .int .i64 0, .map (some m), .slice none 0 0], .string (str l), .func (.func 65) #[] #[.pointer (some ⟨m + 1 + 1, 0, none⟩)], .int .i64 (x.1.1 : Int), .string x.1.2, undef, undef, undef, undef, undef, undef, undef, undef, undef, undef, undef, undef, undef, undef, undef, undef, undef, undef, undef, undef], defers := [] }) ?assign ?body ?done ?stop
  case assign =>
    intro lp x W K hK
    gi_wp2
    exact hK
  case body =>
    rintro lp pre x W hI hlt
    obtain ⟨A, hrun, pt, pd, pe, tv, dv, ev, av, hA⟩ := hI.asm
    have hAB := runP_B pre asmE A 0 asmE_B hrun
    have hlines := hlinesH.out
    have hx : (bs x.1.2).length ≤ 65536 := by rw [bs_length]; exact x.2
    have hTW : Tab W := hTH.out.below hI.bel hTsz
    have hEW : ErrT W := hEH.out.below hI.bel hElt
    have hWs := hI.bel.size
    have hmlt := hA.mlt
    have hAl := hA.lt
    have hq1 := hAB.equs
    have hq2 := hAB.asked
    have htake := take_line hA hTW (by omega) x.1.1 (bs x.1.2) hx (by omega) hAB.few (by omega) (by omega)
    rw [str_bs] at htake
    have hsn := runP_snoc pre x asmE
    rw [hrun] at hsn
    simp only at hsn
    have hIH := Hid.intro hI
    have hEWH := Hid.intro hEW
    clear hI hTW hEW hAB hx hq1 hq2 hA hrun
    generalize takeF A x.1.1 (bs x.1.2) = R at htake hsn
    cases R with
    | error k =>
      simp only at hsn
      have htake1 : Hid (Calls Tryz.prog 35 #[.pointer (some ⟨m + 1, 0, none⟩), .int .i64 (x.1.1 : Int), .string x.1.2] W fun e w' => e = .returned (.iface 36 (.int .i64 k)) ∧ BelN (w.heap.size + 2) m W w') := htake.mono fun e w' ⟨h1, h2⟩ => ⟨h2.2, h1⟩
      have hsnH := Hid.intro hsn
      have hnr := nil_ref
      clear htake hsn
      gi_wp2_with (first
        | (refine ⟨trivial, ?_⟩; gi_at_call 35; refine (CallsIn.inRound lp (callsIn_wide.2 htake1.out)).mono ?_; rintro e w1 ⟨rfl, hb1⟩; have hE1 : Hid (ErrT w1) := hEWH.out.below hb1.bel (by omega); replace hb1 := Hid.intro hb1)
        | (refine ⟨trivial, ?_⟩; gi_at_call 34; refine (CallsIn.inRound lp (callsIn_wide.2 (at_errno x.1.1 k w1 hE1.out))).mono ?_; rintro e w2 ⟨hb2, q, hq, rfl, hqh⟩; have hb1s := hb1.out.bel.size; have r0 := (hb2.block w.heap.size (by omega)).trans ((hb1.out.bel.block w.heap.size (by omega)).trans hIH.out.res); have r1 := (hb2.block (w.heap.size + 1) (by omega)).trans ((hb1.out.bel.block (w.heap.size + 1) (by omega)).trans hIH.out.err); obtain ⟨k0, k1, k2, k3⟩ := four_read r0; have k4 := (cell_blockT r1 0).trans rfl; have f0 := fun j => frozen_of_row w2 w.heap.size j _ 26 r0; have f1 := fun j => frozen_of_row w2 (w.heap.size + 1) j _ 28 r1; replace r0 := Hid.intro r0; replace r1 := Hid.intro r1; replace hb2 := Hid.intro hb2; replace hqh := Hid.intro hqh))
      all_goals first | omega | skip
      obtain ⟨w9, h9⟩ : ∃ w9, w9 = ((((w2.setCell ⟨w.heap.size, 0, none⟩ (.slice none 0 0)).setCell ⟨w.heap.size, 1, none⟩ (.slice none 0 0)).setCell ⟨w.heap.size, 2, none⟩ (.slice none 0 0)).setCell ⟨w.heap.size, 3, none⟩ (.slice none 0 0)).setCell ⟨w.heap.size + 1, 0, none⟩ (.iface 51 (.pointer (some ⟨q, 0, none⟩))) := ⟨_, rfl⟩
      obtain ⟨g0, g1, g2, g3, g4⟩ := ret_two r0.out r1.out _ _ _ _ _ h9
      rw [← h9]
      have hb1s := hb1.out.bel.size
      have hb2s := hb2.out.size
      have hBel : Below w.heap.size w w9 := ((hIH.out.bel.trans (hb1.out.bel.mono (by omega))).trans (hb2.out.mono (by omega))).trans g4
      refine ⟨((keepsFrom_of hb1.out (by omega) hb1s).trans (keepsFrom_below hb2.out)).trans ⟨by omega, fun k o hk ho _ => by rw [g2 k (by omega) (by omega)]; exact ho⟩, rfl, hBel, g0, (x.1.1, k), q, hsnH.out, g1, by omega, ?_⟩
      rw [g2 q (by omega) (by omega)]
      exact hqh.out
    | ok B =>
      simp only at hsn
      have htake1 : Hid (Calls Tryz.prog 35 #[.pointer (some ⟨m + 1, 0, none⟩), .int .i64 (x.1.1 : Int), .string x.1.2] W fun e w' => e = .returned .nilIface ∧ BelN (w.heap.size + 2) m W w' ∧ AsmIn (w.heap.size + 2) w' (m + 1) m (2 * pre.length + 2) B) := htake.mono fun e w' ⟨h1, h2⟩ => ⟨h2.1, h1, h2.2⟩
      have hsnH := Hid.intro hsn
      have hnn := nil_nil28
      clear htake hsn
      gi_wp2_with (first
        | (refine ⟨trivial, ?_⟩; gi_at_call 35; refine (CallsIn.inRound lp (callsIn_wide.2 htake1.out)).mono ?_; rintro e w1 ⟨rfl, hb1, hA1⟩; replace hb1 := Hid.intro hb1; replace hA1 := Hid.intro hA1)
        | (refine ⟨trivial, ?_⟩; gi_at_call 34; refine (CallsIn.inRound lp (callsIn_wide.2 (at_nil x.1.1 w1))).mono ?_; rintro e w2 ⟨rfl, hb2⟩; replace hb2 := Hid.intro hb2))
      all_goals first | omega | skip
      have hb1s := hb1.out.bel.size
      refine ⟨(keepsFrom_of hb1.out (by omega) hb1s).trans (keepsFrom_below hb2.out), trivial, (hb2.out.block w.heap.size (by omega)).trans ((hb1.out.bel.block w.heap.size (by omega)).trans hIH.out.res), (hb2.out.block (w.heap.size + 1) (by omega)).trans ((hb1.out.bel.block (w.heap.size + 1) (by omega)).trans hIH.out.err), (hIH.out.bel.trans (hb1.out.bel.mono (by omega))).trans (hb2.out.mono (by omega)), B, hsnH.out, ?_⟩
      obtain ⟨pt', pd', pe', tv', dv', ev', av', hA'⟩ := hA1.out
      exact ⟨pt', pd', pe', tv', dv', ev', av', (hA'.below hb2.out).more (by simp; omega)⟩
  case done =>
    rintro D ys W hD rfl hI hK
    obtain ⟨A, hrun, pt, pd, pe, tv, dv, ev, av, hA⟩ := hI.asm
    have hAB := runP_B _ asmE A 0 asmE_B hrun
    have hlines := hlinesH.out
    rw [numbered_len] at hAB
    have hq1 := hAB.equs
    have hq2 := hAB.asked
    have hunk := Hid.intro (unknown_any hA (by omega) (fun q hq => by have := hAB.names q hq; omega))
    have hres := asmF_run hl hlinesH.out hrun
    have hDl := blk_lt hK
    have hIH := Hid.intro hI
    have hAH := Hid.intro hA
    have hKH := Hid.intro hK
    have hWs := hI.bel.size
    have hmlt := hA.mlt
    have hAl := hA.lt
    have hwhl := Hid.intro (fun w1 (hb : Below W.heap.size W w1) => whole_any (hA.below hb) (by omega))
    clear hI hA hK hAB hq1 hq2 hrun
    unfold unkV at hunk
    cases hU : unknownF A with
    | some n =>
      rw [hU] at hunk hres
      simp only at hunk hres
      replace hres := Hid.intro hres
      clear hU hwhl
      gi_wp2_with (refine ⟨trivial, ?_⟩; gi_at_call 36; refine (callsIn_wide.2 hunk.out).mono ?_; rintro e w1 ⟨hb1, rfl⟩; have hb1s := hb1.size; have r0 := keepN ((hb1.block w.heap.size (by omega)).trans hIH.out.res) (.cells #[.int .i64 (n : Int), .int .i64 23] 55); have r1 := keepN ((hb1.block (w.heap.size + 1) (by omega)).trans hIH.out.err) (.cells #[.int .i64 (n : Int), .int .i64 23] 55); obtain ⟨k0, k1, k2, k3⟩ := four_read r0; have k4 := (cell_blockT r1 0).trans rfl; have f0 := fun j => frozen_of_row (w1.alloc (.cells #[.int .i64 (n : Int), .int .i64 23] 55)) w.heap.size j _ 26 r0; have f1 := fun j => frozen_of_row (w1.alloc (.cells #[.int .i64 (n : Int), .int .i64 23] 55)) (w.heap.size + 1) j _ 28 r1; replace r0 := Hid.intro r0; replace r1 := Hid.intro r1; replace hb1 := Hid.intro hb1)
      all_goals first | omega | skip
      obtain ⟨w9, h9⟩ : ∃ w9, w9 = (((((w1.alloc (.cells #[.int .i64 (n : Int), .int .i64 23] 55)).setCell ⟨w.heap.size, 0, none⟩ (.slice none 0 0)).setCell ⟨w.heap.size, 1, none⟩ (.slice none 0 0)).setCell ⟨w.heap.size, 2, none⟩ (.slice none 0 0)).setCell ⟨w.heap.size, 3, none⟩ (.slice none 0 0)).setCell ⟨w.heap.size + 1, 0, none⟩ (.iface 51 (.pointer (some ⟨w1.heap.size, 0, none⟩))) := ⟨_, rfl⟩
      obtain ⟨g0, g1, g2, g3, g4⟩ := ret_two r0.out r1.out _ _ _ _ _ h9
      rw [← h9]
      have hb1s := hb1.out.size
      have hsA : (w1.alloc (.cells #[.int .i64 (n : Int), .int .i64 23] 55)).heap.size = w1.heap.size + 1 := by simp
      have hBel : Below w.heap.size w w9 := ((hIH.out.bel.trans (hb1.out.mono (by omega))).alloc (by omega) _).trans g4
      have hq : w9.heap[w1.heap.size]? = some (.cells #[.int .i64 (n : Int), .int .i64 23] 55 (0, 0)) := (g2 _ (by omega) (by omega)).trans (heap_alloc_new w1 _)
      have hK9 : w9.heap[D]? = some (.deferred (some [])) := (g2 D (by omega) (by omega)).trans (keepN ((hb1.out.block D hDl).trans hKH.out) _)
      refine ⟨by simp, .inl ⟨_, _, rfl, run_takeDeferred hK9, ?_⟩⟩
      obtain ⟨z0, z1, z2, z3⟩ := four_read (put_heap (o' := .deferred none) hK9 rfl g0)
      have z4 := (cell_blockT (put_heap (o' := .deferred none) hK9 rfl g1) 0).trans rfl
      refine ⟨_, ?_, hBel.trans (belowK_b (w := w) (Nat.le_refl _) _ D _ _ (by omega) hK9 rfl rfl), by rw [hres.out]; exact ⟨w1.heap.size, rfl, by omega, put_heap hK9 rfl hq⟩⟩
      simp [results, Tryz.results9, go_sem, z0, z1, z2, z3, z4]
      try rfl
    | none =>
      rw [hU] at hunk hres
      simp only at hunk hres
      replace hres := Hid.intro hres
      clear hU
      obtain ⟨ta, tc, da, dc, ea, ec, aa, ac, e1, e2, e3, e4⟩ := hAH.out.vals
      subst e1 e2 e3 e4
      gi_wp2_with (first
        | (refine ⟨trivial, ?_⟩; gi_at_call 36; refine (callsIn_wide.2 hunk.out).mono ?_; rintro e w1 ⟨hb1, rfl⟩; replace hb1 := Hid.intro hb1)
        | (refine ⟨trivial, ?_⟩; gi_at_call 37; refine (callsIn_wide.2 (hwhl.out w1 hb1.out)).mono ?_; rintro e w2 ⟨hb2, gv, rfl, hgo⟩; obtain ⟨ga, gc, rfl⟩ := own_slice hgo; have hb1s := hb1.out.size; have r0 := (hb2.block w.heap.size (by omega)).trans ((hb1.out.block w.heap.size (by omega)).trans hIH.out.res); have r1 := (hb2.block (w.heap.size + 1) (by omega)).trans ((hb1.out.block (w.heap.size + 1) (by omega)).trans hIH.out.err); obtain ⟨k0, k1, k2, k3⟩ := four_read r0; have k4 := (cell_blockT r1 0).trans rfl; have f0 := fun j => frozen_of_row w2 w.heap.size j _ 26 r0; have f1 := fun j => frozen_of_row w2 (w.heap.size + 1) j _ 28 r1; replace r0 := Hid.intro r0; replace r1 := Hid.intro r1; replace hb2 := Hid.intro hb2; replace hgo := Hid.intro hgo))
      all_goals first | omega | skip
      obtain ⟨w9, h9⟩ : ∃ w9, w9 = ((((w2.setCell ⟨w.heap.size, 0, none⟩ (.slice ta pt.length tc)).setCell ⟨w.heap.size, 1, none⟩ (.slice da pd.length dc)).setCell ⟨w.heap.size, 2, none⟩ (.slice ea pe.length ec)).setCell ⟨w.heap.size, 3, none⟩ (.slice ga (globF A).length gc)).setCell ⟨w.heap.size + 1, 0, none⟩ .nilIface := ⟨_, rfl⟩
      obtain ⟨g0, g1, g2, g3, g4⟩ := ret_two r0.out r1.out _ _ _ _ _ h9
      rw [← h9]
      have hb1s := hb1.out.size
      have hb2s := hb2.out.size
      have hBel : Below w.heap.size w w9 := ((hIH.out.bel.trans (hb1.out.mono (by omega))).trans (hb2.out.mono (by omega))).trans g4
      have hK9 : w9.heap[D]? = some (.deferred (some [])) := (g2 D (by omega) (by omega)).trans ((hb2.out.block D (by omega)).trans ((hb1.out.block D hDl).trans hKH.out))
      refine ⟨by simp, .inl ⟨_, _, rfl, run_takeDeferred hK9, ?_⟩⟩
      obtain ⟨z0, z1, z2, z3⟩ := four_read (put_heap (o' := .deferred none) hK9 rfl g0)
      have z4 := (cell_blockT (put_heap (o' := .deferred none) hK9 rfl g1) 0).trans rfl
      have hA2 := (hAH.out.below hb1.out).below hb2.out
      have hown : ∀ {T : TypeId} {sz : Nat} {v : Value} {n : Nat} {xs : List Value}, w2.ownsRow (w.heap.size + 2) T sz v n xs → (w9.putObj D (.deferred none)).ownsRow w.heap.size T sz v n xs := fun {T sz v n xs} ho => by
        refine own_weaken ?_ (show w.heap.size ≤ w.heap.size + 2 by omega)
        refine ⟨ho.1, ?_⟩
        rcases ho.2 with h0 | ⟨g, cap, cur, q1, q2, q3, q4⟩
        · exact .inl h0
        · exact .inr ⟨g, cap, cur, q1, q2, put_heap hK9 rfl ((g2 g (by omega) (by omega)).trans q3), q4⟩
      refine ⟨_, ?_, hBel.trans (belowK_b (w := w) (Nat.le_refl _) _ D _ _ (by omega) hK9 rfl rfl), by
        rw [hres.out]
        exact ⟨_, _, _, _, pt, pd, pe, rfl, ⟨hown hA2.text.row, fun q hq => hown (hA2.text.each q hq)⟩, ⟨hown hA2.data.row, fun q hq => hown (hA2.data.each q hq)⟩, ⟨hown hA2.equs.row, fun q hq => hown (hA2.equs.each q hq)⟩, hown (own_weaken hgo.out (by omega)), hA2.td, hA2.et, hA2.ed, hA2.ee⟩⟩
      simp [results, Tryz.results9, go_sem, z0, z1, z2, z3, z4]
      try rfl
  case stop =>
    rintro D c pre W hD hpre ⟨rfl, hX⟩ hK
    obtain ⟨f, q, h1, h2, h3⟩ := hX.out
    have hres := asmF_err hl hlinesH.out hpre h1
    gi_wp2
    refine ⟨by simp, .inl ⟨_, _, rfl, run_takeDeferred hK, ?_⟩⟩
    obtain ⟨z0, z1, z2, z3⟩ := four_read (put_heap (o' := .deferred none) hK rfl hX.res)
    have z4 := (cell_blockT (put_heap (o' := .deferred none) hK rfl h2) 0).trans rfl
    refine ⟨_, ?_, hX.bel.trans (belowK_b (w := w) (Nat.le_refl _) _ D _ _ (by omega) hK rfl rfl), by rw [hres]; exact ⟨q, rfl, by have := h3.1; omega, put_heap hK rfl h3.2⟩⟩
    simp [results, Tryz.results9, go_sem, z0, z1, z2, z3, z4]
    try rfl
theorem assemble_any (l : List UInt8) (w : World) (hT : Tab w) (hE : ErrT w) : Calls Tryz.prog 9 #[.string (str l)] w fun e w' => Below w.heap.size w w' ∧ AsbOut w.heap.size w' (asmF l) e := by
  by_cases h1 : 65536 < l.length
  · have e : asmF l = .error (0, 3) := by unfold asmF; rw [if_pos h1]
    rw [e]
    exact asb_long (str l) h1 w
  · by_cases h2 : 4096 < (linesOf l).length
    · have e : asmF l = .error (4097, 4) := by unfold asmF; rw [if_neg h1, if_pos h2]
      rw [e]
      exact asb_many l (by omega) h2 w
    · exact asb_all l (by omega) h2 w hT hE
end Go.Proofs.YtogkchgjpflmjaaGreatDoor
/- A unit that is read: items, equations, names in memory. -/
namespace Go.Proofs.YtogkchgjpflmjaaGreatDoor
open Go.ChangeShapes Go.WideShapes Go.ChangeAt Go.RowKit Go.Sort
set_option linter.unusedVariables false
set_option maxRecDepth 100000
def ItIn (w : World) (a : Option Addr) (l : List Itm) : Prop := l = [] ∨ ∃ g o, a = some ⟨g, o, none⟩ ∧ g < w.heap.size ∧ ∀ (i : Nat) (x : Itm), l[i]? = some x → ∃ va vc, ItAt w g (o + i * 10) x va x.e.terms.length vc ∧ TmLies w va x.e.terms
def EqIn (w : World) (a : Option Addr) (l : List (List UInt8 × Lin)) : Prop := l = [] ∨ ∃ g o, a = some ⟨g, o, none⟩ ∧ g < w.heap.size ∧ ∀ (i : Nat) (q : List UInt8 × Lin), l[i]? = some q → ∃ va vc, w.cell? ⟨g, o + i * 3, none⟩ = some (.string (str q.1)) ∧ w.cell? ⟨g, o + i * 3 + 1, none⟩ = some (.slice va q.2.terms.length vc) ∧ w.cell? ⟨g, o + i * 3 + 2, none⟩ = some (.int .u32 q.2.const) ∧ TmLies w va q.2.terms
def StIn (w : World) (a : Option Addr) (l : List (List UInt8)) : Prop := l = [] ∨ ∃ g o, a = some ⟨g, o, none⟩ ∧ g < w.heap.size ∧ ∀ (i : Nat) (s : List UInt8), l[i]? = some s → w.cell? ⟨g, o + i, none⟩ = some (.string (str s))
theorem ItIn.below {w w' : World} {a : Option Addr} {l : List Itm} (h : ItIn w a l) (hb : Below w.heap.size w w') : ItIn w' a l := by
  rcases h with h | ⟨g, o, ha, hg, h⟩
  · exact .inl h
  · refine .inr ⟨g, o, ha, Nat.lt_of_lt_of_le hg hb.size, fun i x hi => ?_⟩
    obtain ⟨va, vc, h1, h2⟩ := h i x hi
    exact ⟨va, vc, h1.below hb hg, h2.below hb (Nat.le_refl _)⟩
theorem EqIn.below {w w' : World} {a : Option Addr} {l : List (List UInt8 × Lin)} (h : EqIn w a l) (hb : Below w.heap.size w w') : EqIn w' a l := by
  rcases h with h | ⟨g, o, ha, hg, h⟩
  · exact .inl h
  · refine .inr ⟨g, o, ha, Nat.lt_of_lt_of_le hg hb.size, fun i x hi => ?_⟩
    obtain ⟨va, vc, h1, h2, h3, h4⟩ := h i x hi
    exact ⟨va, vc, (hb.cell (p := ⟨g, _, none⟩) hg).trans h1, (hb.cell (p := ⟨g, _, none⟩) hg).trans h2, (hb.cell (p := ⟨g, _, none⟩) hg).trans h3, h4.below hb (Nat.le_refl _)⟩
theorem StIn.below {w w' : World} {a : Option Addr} {l : List (List UInt8)} (h : StIn w a l) (hb : Below w.heap.size w w') : StIn w' a l := by
  rcases h with h | ⟨g, o, ha, hg, h⟩
  · exact .inl h
  · exact .inr ⟨g, o, ha, Nat.lt_of_lt_of_le hg hb.size, fun i x hi => (hb.cell (p := ⟨g, _, none⟩) hg).trans (h i x hi)⟩
theorem ItOwn.itIn {lo : Nat} {w : World} {a : Option Addr} {n c : Nat} {p : List (Itm × Value)} (h : ItOwn lo w (.slice a n c) p) : ItIn w a (p.map (·.1)) := by
  rcases h.row.2 with ⟨hv, h0⟩ | ⟨g, cap, cur, hv, _, hg, _⟩
  · exact .inl (by rw [List.length_eq_zero_iff.1 h0]; rfl)
  · injection hv with hv1 hv2 hv3
    subst hv1
    refine .inr ⟨g, 0, rfl, (Array.getElem?_eq_some_iff.1 hg).1, fun i x hx => ?_⟩
    rw [List.getElem?_map] at hx
    obtain ⟨q, hq, rfl⟩ := Option.map_eq_some_iff.1 hx
    have hlt := (List.getElem?_eq_some_iff.1 hq).1
    have ho := h.each q (List.mem_of_getElem? hq)
    obtain ⟨va, vc, hva⟩ := own_slice ho
    have hrow := h.row
    rw [hv2] at hrow
    have key : ∀ j, j < 10 → w.cell? ⟨g, 0 + i * 10 + j, none⟩ = (itmCells q.1 q.2).toList[j]? := fun j hj => by
      rw [Nat.zero_add, hrow.cellAt _ (by omega)]
      exact flat_at (fun q : Itm × Value => (itmCells q.1 q.2).toList) 10 (fun _ => rfl) p i j q hq hj
    rw [hva] at key ho
    exact ⟨va, vc, ⟨key 0 (by omega), key 1 (by omega), key 2 (by omega), key 3 (by omega), key 4 (by omega), key 5 (by omega), key 6 (by omega), key 7 (by omega), key 8 (by omega), key 9 (by omega)⟩, own_tmLies ho⟩
theorem EqOwn.eqIn {lo : Nat} {w : World} {a : Option Addr} {n c : Nat} {p : List ((List UInt8 × Lin) × Value)} (h : EqOwn lo w (.slice a n c) p) : EqIn w a (p.map (·.1)) := by
  rcases h.row.2 with ⟨hv, h0⟩ | ⟨g, cap, cur, hv, _, hg, _⟩
  · exact .inl (by rw [List.length_eq_zero_iff.1 h0]; rfl)
  · injection hv with hv1 hv2 hv3
    subst hv1
    refine .inr ⟨g, 0, rfl, (Array.getElem?_eq_some_iff.1 hg).1, fun i x hx => ?_⟩
    rw [List.getElem?_map] at hx
    obtain ⟨q, hq, rfl⟩ := Option.map_eq_some_iff.1 hx
    have hlt := (List.getElem?_eq_some_iff.1 hq).1
    have ho := h.each q (List.mem_of_getElem? hq)
    obtain ⟨va, vc, hva⟩ := own_slice ho
    have hrow := h.row
    rw [hv2] at hrow
    have key : ∀ j, j < 3 → w.cell? ⟨g, 0 + i * 3 + j, none⟩ = (equCells q)[j]? := fun j hj => by
      rw [Nat.zero_add, hrow.cellAt _ (by omega)]
      exact flat_at equCells 3 (fun _ => rfl) p i j q hq hj
    have k1 : w.cell? ⟨g, 0 + i * 3 + 1, none⟩ = some q.2 := key 1 (by omega)
    rw [hva] at k1 ho
    exact ⟨va, vc, (key 0 (by omega)).trans rfl, k1, (key 2 (by omega)).trans rfl, own_tmLies ho⟩
theorem own_stIn {lo : Nat} {w : World} {a : Option Addr} {n c : Nat} {l : List (List UInt8)} (h : w.ownsRow lo 9 1 (.slice a n c) l.length (l.map encStr)) : StIn w a l := by
  rcases h.2 with ⟨hv, h0⟩ | ⟨g, cap, cur, hv, _, hg, _⟩
  · exact .inl (List.length_eq_zero_iff.1 h0)
  · have hn := own_len h
    injection hv with hv1 hv2 hv3
    subst hv1
    refine .inr ⟨g, 0, rfl, (Array.getElem?_eq_some_iff.1 hg).1, fun i s hs => ?_⟩
    have hlt := (List.getElem?_eq_some_iff.1 hs).1
    rw [hn] at h
    rw [Nat.zero_add, h.cellAt i (by omega), List.getElem?_map, hs]
    rfl
structure HeldI (x : Itm) : Prop where
  name : x.name.length ≤ 1100000
  m : -2147483648 ≤ x.m ∧ x.m ≤ 2147483647
  n : -9223372036854775808 ≤ x.n ∧ x.n ≤ 9223372036854775807
  few : x.e.terms.length ≤ 9000000
  names : ∀ t ∈ x.e.terms, t.name.length ≤ 1100000
theorem FineI.held {x : Itm} (h : FineI x) : HeldI x := ⟨by have := h.name; omega, h.m, by have := h.n; omega, by have := h.few; omega, fun t ht => by have := h.names t ht; omega⟩
set_option maxHeartbeats 4000000 in
theorem rightItems_any (a : Option Addr) (c : Nat) (l : List Itm) (sec : Int) (hsec : sec = 0 ∨ sec = 1) (hl : l.length ≤ 1100000) (hH : ∀ x ∈ l, HeldI x) (w : World) (hT : Tab w) (hI : ItIn w a l) :
    Calls Tryz.prog 41 #[.slice a l.length c, .int .i64 sec] w fun e w' => e = .returned (.bool (l.all fun x => okI x sec)) ∧ Below w.heap.size w w' := by
  obtain ⟨n0, hn0⟩ : ∃ n0, n0 = l.length := ⟨_, rfl⟩
  obtain ⟨bv, hbv⟩ : ∃ bv, bv = l.all fun x => okI x sec := ⟨_, rfl⟩
  rw [← hn0, ← hbv]
  rw [← hn0] at hl
  replace hn0 := Hid.intro hn0
  replace hbv := Hid.intro hbv
  have hIH := Hid.intro hI
  have hTH := Hid.intro hT
  have hHH := Hid.intro hH
  clear hI hT hH
  go_enter Tryz.func41, Tryz.ntmps41
  go_wp2
  all_goals first | omega | skip
  go_loopw [9] (fun v9 wr => ∃ i : Nat, i ≤ n0 ∧ v9 = .int .i64 (i : Int) ∧ Hid ((l.take i).all (fun x => okI x sec) = true) ∧ Hid (Below w.heap.size w wr)) (fun v9 wr => n0 - (intOf v9).toNat)
  case atStart => exact ⟨0, by omega, rfl, (by show _ = _; simp), Below.refl _ _⟩
  case round =>
    obtain ⟨i, hi, rfl, hall, hB⟩ := hrel
    by_cases hlt : i < n0
    · obtain ⟨x, hx⟩ : ∃ x, l[i]? = some x := ⟨l[i]'(by rw [← hn0.out]; exact hlt), List.getElem?_eq_getElem _⟩
      rcases hIH.out.below hB.out with h0 | ⟨g, o, rfl, hg, hat⟩
      · rw [h0] at hx; simp at hx
      obtain ⟨va, vc, hI, hTm⟩ := hat i x hx
      obtain ⟨c0, c1, c2, c3, c4, c5, c6, c7, c8, c9⟩ := hI
      have hh := hHH.out x (List.mem_of_getElem? hx)
      have hlt2 : (i : Int) < (n0 : Int) := by omega
      have hTr := hTH.out.below hB.out hTH.out.size
      have hrt := itemRight_any x.kind (str x.name) (by rw [show (str x.name).size = x.name.length from rfl]; exact hh.name) x.op x.a x.b x.m x.form hh.m va vc x.e.terms x.e.const x.n sec hh.n (wr.alloc (.cells (itmCells x (.slice va x.e.terms.length vc)) 91)) (hTr.alloc _) (hTm.below (below_alloc wr _) (Nat.le_refl _)) hh.few hh.names
      have hok : okB x.kind (str x.name) x.op x.a x.b x.m x.form x.e.terms x.e.const x.n sec = okI x sec := rfl
      rw [hok, show rightN sec (okI x sec) = if okI x sec then 0 else 31 by unfold rightN; rw [if_neg (by omega)]] at hrt
      have hnext := Hid.intro (fun (h : okI x sec = true) => show (l.take (i + 1)).all (fun x => okI x sec) = true by rw [List.take_add_one, hx]; simp [h]; simpa using hall.out)
      have hbad : Hid (okI x sec = false → bv = false) := fun h => by
        rw [hbv.out, Bool.eq_false_iff]
        intro h2
        rw [List.all_eq_true] at h2
        have := h2 x (List.mem_of_getElem? hx)
        rw [h] at this
        cases this
      have hbx := heap_alloc_new wr (.cells (itmCells x (.slice va x.e.terms.length vc)) 91)
      obtain ⟨b0, b1, b2, b3, b4, b5, b6, b7, b8, b9⟩ := rowIt hbx
      have hB1 : Hid (Below w.heap.size w (wr.alloc (.cells (itmCells x (.slice va x.e.terms.length vc)) 91))) := hB.out.alloc hB.out.size _
      clear hok hbx hx hh hTr hTm hat
      generalize okI x sec = ok at hrt hnext hbad
      generalize x.e.terms.length = ln at *
      replace hrt := Hid.intro hrt
      cases ok with
      | true =>
        go_wp2_with (go_at_call 79; (with_reducible refine (hrt.out).mono ?_); rintro e w1 ⟨rfl, hb1⟩)
        all_goals first | omega | skip
        go_roundw
        case rel => exact ⟨i + 1, by omega, by go_num, hnext.out (by simp), hB1.out.trans (hb1.mono hB1.out.size)⟩
        case measure => simp [intOf]; omega
      | false =>
        go_wp2_with (go_at_call 79; (with_reducible refine (hrt.out).mono ?_); rintro e w1 ⟨rfl, hb1⟩)
        all_goals first | omega | skip
        go_ret
        rw [hbad.out (by simp)]
        exact ⟨rfl, hB1.out.trans (hb1.mono hB1.out.size)⟩
    · have hin : i = n0 := by omega
      have hres : Hid (bv = true) := by
        show _ = _
        rw [hbv.out]
        have := hall.out
        rwa [hin, hn0.out, List.take_length] at this
      subst hin
      have hlt3 : ¬ ((i : Int) < (i : Int)) := by omega
      go_wp2
      all_goals first | omega | skip
      go_ret
      rw [hres.out]
      exact ⟨rfl, hB.out⟩
end Go.Proofs.YtogkchgjpflmjaaGreatDoor
namespace Go.Proofs.YtogkchgjpflmjaaGreatDoor
open Go.ChangeShapes Go.WideShapes Go.ChangeAt Go.RowKit
set_option linter.unusedVariables false
set_option maxRecDepth 100000
theorem info5 : (Tryz.prog.info? 5).map (fun i => (i.zero, i.size, i.bytes)) = some (some (.int .u8 0), 1, 1) := by kernel_rfl
abbrev byV (l : List UInt8) : List Value := l.map fun b => .int .u8 (b.toNat : Int)
theorem conv_own {w : World} {lo : Nat} {a : Option Addr} {c : Nat} {l : List UInt8} (h : w.ownsRow lo 5 1 (.slice a l.length c) l.length (byV l)) (hne : l ≠ []) : (convert 33 9 (.slice a l.length c)).run Tryz.prog w = .ok (.string (str l)) w := by
  rcases h.2 with ⟨_, h0⟩ | ⟨g, cap, cur, hv, _⟩
  · exact absurd (List.length_eq_zero_iff.1 h0) hne
  · injection hv with hv1 _ _
    subst hv1
    exact run_convert_bytes_back w 33 9 5 ⟨g, 0, none⟩ c l Tryz.underlying33 Tryz.underlying5 Tryz.underlying9 (fun j hj => h.cells (g := g) rfl j _ (by simp [hj]))
def dg0 (k : Nat) : UInt8 := UInt8.ofNat (48 + k % 10)
def dg1 (k : Nat) : UInt8 := UInt8.ofNat (48 + k / 10)
def dgs (k : Nat) : List UInt8 := if k < 10 then [dg0 k] else [dg1 k, dg0 k]
abbrev sRefusal : ByteArray := ⟨#[114, 101, 102, 117, 115, 97, 108, 32]⟩
set_option maxHeartbeats 4000000 in
theorem ern_num (k : Nat) (hk : k ≤ 99) (h0 : k ≠ 0) (h1 : k ≠ 1) (h20 : k ≠ 20) (h23 : k ≠ 23) (w : World) : Calls Tryz.prog 85 #[.int .i64 (k : Int)] w fun e w' => e = .returned (.string (sRefusal ++ str (dgs k))) ∧ Below w.heap.size w w' := by
  have e0 : ((k : Int) == 0) = false := by simp; omega
  have e1 : ((k : Int) == 1) = false := by simp; omega
  have e2 : ((k : Int) == 20) = false := by simp; omega
  have e3 : ((k : Int) == 23) = false := by simp; omega
  have hp : ¬ ((k : Int) < 0) := by omega
  obtain ⟨i0, hi, hz0, hz1, hz2⟩ := info_parts info5
  go_enter Tryz.func85, Tryz.ntmps85
  go_wp2
  all_goals first | omega | skip
  clear e0 e1 e2 e3 hp
  go_loopw [3, 4] (fun v3 v4 wr => ∃ (n : Nat) (a : Option Addr) (c : Nat) (l : List UInt8), n ≤ 99 ∧ ((l = [] ∧ n = k) ∨ (l = [dg0 k] ∧ n = k / 10) ∨ (10 ≤ k ∧ l = [dg1 k, dg0 k] ∧ n = 0)) ∧ v3 = .int .i64 (n : Int) ∧ v4 = .slice a l.length c ∧ Hid (wr.ownsRow w.heap.size 5 1 (.slice a l.length c) l.length (byV l)) ∧ Hid (Below w.heap.size w wr)) (fun v3 v4 wr => (intOf v3).toNat)
  case atStart => exact ⟨k, none, 0, [], hk, .inl ⟨rfl, rfl⟩, rfl, rfl, World.ownsRow_nil _ _ _ _, Below.refl _ _⟩
  case round =>
    obtain ⟨n, a, c, l, hn, hcase, rfl, rfl, hO, hB⟩ := hrel
    have hll : l.length ≤ 2 := by rcases hcase with ⟨rfl, _⟩ | ⟨rfl, _⟩ | ⟨_, rfl, _⟩ <;> simp
    by_cases hn0 : n = 0
    · subst hn0
      have hne : l ≠ [] := by
        rcases hcase with ⟨_, h⟩ | ⟨rfl, _⟩ | ⟨_, rfl, _⟩
        · exact absurd h.symm h0
        · simp
        · simp
      have hdg : Hid (l = dgs k) := by
        show _ = _
        unfold dgs
        rcases hcase with ⟨_, h⟩ | ⟨rfl, h⟩ | ⟨h, rfl, _⟩
        · exact absurd h.symm h0
        · rw [if_pos (by omega)]
        · rw [if_neg (by omega)]
      have hcv := conv_own hO.out hne
      have hl0 : ((l.length : Int) == 0) = false := by
        have : l.length ≠ 0 := fun h => hne (List.length_eq_zero_iff.1 h)
        simp; omega
      have hsz : (str l).size = l.length := rfl
      have hadd : ∀ W : World, (Op.stringOp .add ⟨#[114, 101, 102, 117, 115, 97, 108, 32]⟩ (str l)).run Tryz.prog W = .ok (.string (⟨#[114, 101, 102, 117, 115, 97, 108, 32]⟩ ++ str l)) W := fun W => run_string_add_sum W _ _ (by rw [hsz]; show 8 + l.length ≤ _; omega)
      generalize l.length = ln at *
      clear hcase hne
      go_wp2
      all_goals first | omega | skip
      go_ret
      rw [← hdg.out]
      exact ⟨rfl, hB.out⟩
    · have hpos : (0 : Int) < (n : Int) := by omega
      obtain ⟨d, hdd, hd⟩ : ∃ d : UInt8, d = UInt8.ofNat (48 + n % 10) ∧ (d.toNat : Int) = 48 + (n : Int) % 10 := ⟨UInt8.ofNat (48 + n % 10), rfl, by rw [UInt8.toNat_ofNat']; omega⟩
      have hone : Hid ((wr.alloc (.cells #[.int .u8 (48 + (n : Int) % 10)] 5)).ownsRow w.heap.size 5 1 (.slice (some ⟨wr.heap.size, 0, none⟩) 1 1) 1 [.int .u8 (48 + (n : Int) % 10)]) := ⟨rfl, .inr ⟨wr.heap.size, 1, _, rfl, hB.out.size, heap_alloc_new wr _, Nat.le_refl _, by unfold maxLen; omega, rfl, rfl⟩⟩
      have hsrc : Hid (Src (wr.alloc (.cells #[.int .u8 (48 + (n : Int) % 10)] 5)) (.slice a l.length c) l.length (byV l)) := own_src (own_keptB hO.out (below_alloc wr _))
      have hl1 : Hid ((byV l).length = l.length * 1) := by show _ = _; simp
      have hone1 : Hid (∀ u ∈ byV l, u.oneCell' = true) := fun u hu => by
        obtain ⟨x, _, rfl⟩ := List.mem_map.1 hu
        rfl
      have hbase : w.heap.size ≤ (wr.alloc (.cells #[.int .u8 (48 + (n : Int) % 10)] 5)).heap.size := Nat.le_trans hB.out.size (below_alloc wr _).size
      have hB1 : Hid (Below w.heap.size w (wr.alloc (.cells #[.int .u8 (48 + (n : Int) % 10)] 5))) := hB.out.alloc hB.out.size _
      have hnx : Hid ((d :: l = [dg0 k] ∧ n / 10 = k / 10) ∨ (10 ≤ k ∧ d :: l = [dg1 k, dg0 k] ∧ n / 10 = 0)) := by
        show _ ∨ _
        rcases hcase with ⟨rfl, rfl⟩ | ⟨rfl, rfl⟩ | ⟨_, _, h⟩
        · exact .inl ⟨by rw [hdd]; rfl, rfl⟩
        · refine .inr ⟨by omega, ?_, by omega⟩
          rw [hdd]
          congr 1
          unfold dg1
          rw [Nat.mod_eq_of_lt (by omega)]
        · exact absurd h hn0
      obtain ⟨ln, hln⟩ : ∃ ln, l.length = ln := ⟨_, rfl⟩
      rw [hln] at hsrc hl1 hO hll ⊢
      replace hln := Hid.intro hln
      replace hd := Hid.intro hd
      clear hcase hn0 hdd
      go_wp2_with (at_builtin; go_must (refine wpList_app rfl (.tmp 28) (.tmp 29) 33 rfl w.heap.size 5 i0 _ 1 1 Tryz.underlying33 hi hz0 hz1 hz2 rfl (by decide) (.slice (some ⟨wr.heap.size, 0, none⟩) 1 1) 1 _ rfl hone.out (.slice a ln c) ln (byV l) rfl hsrc.out hl1.out hone1.out (by unfold maxLen; omega) (by omega) hbase ?_; intro v' w3 ho hg hw; rw [Nat.add_comm 1 ln] at ho; obtain ⟨a', c', rfl⟩ := own_slice ho; replace ho := Hid.intro ho; replace hg := Hid.intro hg; clear hw))
      all_goals first | omega | skip
      go_roundw
      case rel =>
        refine ⟨n / 10, a', c', d :: l, by omega, ?_, by simp, by rw [List.length_cons, hln.out], ?_, ?_⟩
        · exact .inr hnx.out
        · have h2 := ho.out
          show World.ownsRow _ _ _ _ _ _ _
          rw [List.length_cons, hln.out]
          have e : byV (d :: l) = [.int .u8 (48 + (n : Int) % 10)] ++ byV l := by simp [hd.out]
          rw [e]
          exact h2
        · exact hB1.out.grown hg.out hB1.out.size (fun j hj => by cases hj; exact hB.out.size)
      case measure =>
        simp [intOf]
        omega
def ernS (k : Nat) : ByteArray :=
  if k = 0 then ⟨#[110, 111, 32, 101, 114, 114, 111, 114]⟩
  else if k = 1 then ⟨#[97, 110, 32, 97, 114, 103, 117, 109, 101, 110, 116, 32, 116, 104, 97, 116, 32, 109, 97, 121, 32, 110, 111, 116, 32, 98, 101]⟩
  else if k = 20 then ⟨#[97, 32, 108, 105, 110, 101, 32, 116, 104, 97, 116, 32, 99, 97, 110, 39, 116, 32, 98, 101, 32, 114, 101, 97, 100]⟩
  else if k = 23 then ⟨#[97, 32, 110, 97, 109, 101, 32, 116, 104, 97, 116, 32, 110, 111, 98, 111, 100, 121, 32, 103, 105, 118, 101, 115]⟩
  else sRefusal ++ str (dgs k)
theorem ernS_size (k : Nat) : (ernS k).size ≤ 100 := by
  unfold ernS
  split
  · decide
  · split
    · decide
    · split
      · decide
      · split
        · decide
        · rw [ByteArray.size_append]
          unfold dgs
          split
          · show 8 + 1 ≤ 100; omega
          · show 8 + 2 ≤ 100; omega
theorem ern_any (k : Nat) (hk : k ≤ 99) (w : World) : Calls Tryz.prog 85 #[.int .i64 (k : Int)] w fun e w' => e = .returned (.string (ernS k)) ∧ Below w.heap.size w w' := by
  unfold ernS
  by_cases h0 : k = 0
  · subst h0
    go_enter Tryz.func85, Tryz.ntmps85
    go_wp2
    go_ret
    exact ⟨rfl, Below.refl _ _⟩
  rw [if_neg h0]
  by_cases h1 : k = 1
  · subst h1
    go_enter Tryz.func85, Tryz.ntmps85
    go_wp2
    go_ret
    exact ⟨rfl, Below.refl _ _⟩
  rw [if_neg h1]
  by_cases h20 : k = 20
  · subst h20
    go_enter Tryz.func85, Tryz.ntmps85
    go_wp2
    go_ret
    exact ⟨rfl, Below.refl _ _⟩
  rw [if_neg h20]
  by_cases h23 : k = 23
  · subst h23
    go_enter Tryz.func85, Tryz.ntmps85
    go_wp2
    go_ret
    exact ⟨rfl, Below.refl _ _⟩
  rw [if_neg h23]
  exact ern_num k hk h0 h1 h20 h23 w
end Go.Proofs.YtogkchgjpflmjaaGreatDoor
