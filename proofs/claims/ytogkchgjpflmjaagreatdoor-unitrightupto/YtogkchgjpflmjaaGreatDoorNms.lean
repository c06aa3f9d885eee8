/- unit's Names. -/
import Derived.Test.YtogkchgjpflmjaaGreatDoorRfe
import Derived.Test.YtogkchgjpflmjaaGreatDoorAsR
import Derived.Test.YtogkchgjpflmjaaGreatDoorT1
import Derived.Test.YtogkchgjpflmjaaGreatDoorLineM
import Derived.Deep.QuietTactic
/- The law's says; what is assembled is right. -/
namespace Go.Proofs.YtogkchgjpflmjaaGreatDoor
open Go.ChangeShapes Go.WideShapes Go.ChangeAt Go.RowKit Go.Sort
set_option linter.unusedVariables false
set_option maxRecDepth 100000
structure Env (w : World) : Prop where
  tab : Tab w
  err : ErrT w
  pow : Pow w
theorem Env.lt {w : World} (h : Env w) : 4 < w.heap.size := h.pow.lt
theorem Env.below {w w' : World} (h : Env w) (hb : Below w.heap.size w w') : Env w' := ⟨h.tab.below hb h.tab.size, h.err.below hb h.err.lt, h.pow.below hb h.pow.lt⟩
set_option maxHeartbeats 4000000 in
theorem says_bad (l : List UInt8) (n k : Nat) (hn : n ≤ 1000000) (hk : k ≤ 99) (hk0 : k ≠ 0) (h : asmF l = .error (n, (k : Int))) (w : World) (hE : Env w) :
    Calls Tryz.prog 13 #[.string (str l), .int .i64 (n : Int), .int .i64 (k : Int)] w fun e w' => e = .returned (.bool true) ∧ Below w.heap.size w w' := by
  have ha := assemble_any l w hE.tab hE.err
  rw [h] at ha
  replace ha : Hid (Calls Tryz.prog 9 #[.string (str l)] w fun e w' => Below w.heap.size w w' ∧ ∃ q, e = .returned (.tuple #[unitZ, .iface 51 (.pointer (some ⟨q, 0, none⟩))]) ∧ RefAt w' w.heap.size q (n : Int) (k : Int)) := ha
  have hr := Hid.intro (fun q w1 (hE1 : Env w1) (hq : w1.heap[q]? = some (.cells #[.int .i64 (n : Int), .int .i64 (k : Int)] 55 (0, 0))) => refused_any q n k hn hk hk0 w1 hE1.pow hq)
  have hEH := Hid.intro hE
  clear hE h hn hk hk0
  generalize str l = S at *
  generalize (n : Int) = N at *
  generalize (k : Int) = K9 at *
  go_enter Tryz.func13, Tryz.ntmps13
  go_wp2_with (first
    | (go_at_call 9; (with_reducible refine (ha.out).mono ?_); rintro e w1 ⟨hb1, q, rfl, hq⟩; have hq1 := Hid.intro (keepN hq.2 (.cells (unit4 (.slice none 0 0) (.slice none 0 0) (.slice none 0 0) (.slice none 0 0)) 26)); have hB2 := Hid.intro (hb1.alloc hb1.size (.cells (unit4 (.slice none 0 0) (.slice none 0 0) (.slice none 0 0) (.slice none 0 0)) 26)); clear hq hb1)
    | (go_at_call 18; (with_reducible refine (hr.out q _ (hEH.out.below hB2.out) hq1.out).mono ?_); rintro e w3 ⟨rfl, hb3⟩))
  go_ret
  exact ⟨rfl, hB2.out.trans (hb3.mono hB2.out.size)⟩
end Go.Proofs.YtogkchgjpflmjaaGreatDoor
/- The law's known. -/
namespace Go.Proofs.YtogkchgjpflmjaaGreatDoor
open Go.ChangeShapes Go.WideShapes Go.ChangeAt Go.RowKit Go.Sort
set_option linter.unusedVariables false
set_option maxRecDepth 100000
theorem asb_ok {l : List UInt8} {A : Asm} (h : asmF l = .ok A) (w : World) (hE : Env w) :
    Calls Tryz.prog 9 #[.string (str l)] w fun e w' => Below w.heap.size w w' ∧ ∃ ta tc da dc ea ec ga gc, e = .returned (.tuple #[.agg (unitV ta tc da dc ea ec ga gc (uvA A)), .nilIface]) ∧ UnitIn w' ta da ea ga (uvA A) := by
  have ha := assemble_any l w hE.tab hE.err
  rw [h] at ha
  refine ha.mono fun e w' ⟨h1, tv, dv, ev, gv, pt, pd, pe, h2, h3⟩ => ?_
  obtain ⟨a1, c1, rfl⟩ := own_slice h3.text.row
  obtain ⟨a2, c2, rfl⟩ := own_slice h3.data.row
  obtain ⟨a3, c3, rfl⟩ := own_slice h3.equs.row
  obtain ⟨a4, c4, rfl⟩ := own_slice h3.globs
  have e1 : (uvA A).text = pt.map (·.1) := h3.et
  have e2 : (uvA A).data = pd.map (·.1) := h3.ed
  have e3 : (uvA A).equs = pe.map (·.1) := h3.ee
  have e4 : (uvA A).globs = globF A := rfl
  refine ⟨h1, a1, c1, a2, c2, a3, c3, a4, c4, ?_, ?_⟩
  · rw [h2]
    unfold unitV
    rw [e1, e2, e3, e4, List.length_map, List.length_map, List.length_map]
  · exact ⟨e1 ▸ h3.text.itIn, e2 ▸ h3.data.itIn, e3 ▸ h3.equs.eqIn, own_stIn h3.globs⟩
def asmT (s : List UInt8) (p : Except (Nat × Int) Asm → Bool) : Bool := p (asmF s)
theorem asmT_err {s : List UInt8} {n : Nat} {k : Int} (h : asmT s (fun | .error f => f.1 == n && f.2 == k | _ => false) = true) : asmF s = .error (n, k) := by
  dsimp only [asmT] at h
  split at h
  · rename_i f e
    rw [e]
    simp only [Bool.and_eq_true, beq_iff_eq] at h
    rw [← h.1, ← h.2]
  · cases h
def aSrc : List UInt8 := [97, 58, 32, 106, 109, 112, 32, 97]
def aaSrc : List UInt8 := [97, 58, 32, 110, 111, 112, 10, 97, 58, 32, 110, 111, 112]
theorem aa_asm : asmF aaSrc = .error (2, 22) := asmT_err (by decide +kernel)
theorem a_asm : ∃ A x y, asmF aSrc = .ok A ∧ A.text = [x, y] ∧ x.name = [97] ∧ y.op = 40 ∧ spanN A.text = 1 := by
  have h : asmT aSrc (fun | .ok A => (match A.text with | [x, y] => x.name == [97] && y.op == 40 && spanN A.text == 1 | _ => false) | _ => false) = true := by decide +kernel
  dsimp only [asmT] at h
  split at h
  · rename_i A e
    split at h
    · rename_i x y e2
      simp only [Bool.and_eq_true, beq_iff_eq] at h
      exact ⟨A, x, y, e, e2, h.1.1, h.1.2, h.2⟩
    · cases h
  · cases h
set_option maxHeartbeats 8000000 in
theorem known_any (w : World) (hE : Env w) : Calls Tryz.prog 15 #[] w fun e w' => e = .returned (.bool true) ∧ Below w.heap.size w w' := by
  obtain ⟨A, x, y, hA, ht, hx, hy, hsp⟩ := a_asm
  obtain ⟨hG, hB, hU⟩ := asmF_ok hA
  have hheld := asm_held hG hB (by omega)
  have hright := (asm_right hG hB (by omega) hU).2
  have ha := Hid.intro (asb_ok hA w hE)
  have hut : (uvA A).text = [x, y] := ht
  have hsp' : spanN (uvA A).text = 1 := hsp
  have hrt := Hid.intro (fun ta tc da dc ea ec ga gc w1 (hT : Tab w1) hI => unitRight_is ta tc da dc ea ec ga gc (uvA A) hheld w1 hT hI 0 hright)
  have hst := Hid.intro (fun ta tc da dc ea ec ga gc w1 (hT : Tab w1) hI => unitSpans_any ta tc da dc ea ec ga gc (uvA A) hheld w1 hT hI 0 hright)
  have h13 : Hid (∀ w1, Env w1 → Calls Tryz.prog 13 #[.string (str aaSrc), .int .i64 2, .int .i64 22] w1 fun e w' => e = .returned (.bool true) ∧ Below w1.heap.size w1 w') := fun w1 hE1 => says_bad aaSrc 2 22 (by omega) (by omega) (by omega) aa_asm w1 hE1
  rw [if_pos rfl, hsp'] at hst
  rw [show str aSrc = ⟨#[97, 58, 32, 106, 109, 112, 32, 97]⟩ from rfl] at ha
  rw [show str aaSrc = ⟨#[97, 58, 32, 110, 111, 112, 10, 97, 58, 32, 110, 111, 112]⟩ from rfl] at h13
  have hEH := Hid.intro hE
  have hcel : ∀ (w1 : World) ta, ItIn w1 ta (uvA A).text → ∃ g o, ta = some ⟨g, o, none⟩ ∧ g < w1.heap.size ∧ w1.cell? ⟨g, o + 1, none⟩ = some (.string ⟨#[97]⟩) ∧ w1.cell? ⟨g, o + 10 + 2, none⟩ = some (.int .i64 40) := fun w1 ta h => by
    rw [hut] at h
    rcases h with h | ⟨g, o, h1, h2, h3⟩
    · cases h
    · obtain ⟨_, _, k1, _⟩ := h3 0 x rfl
      obtain ⟨_, _, k2, _⟩ := h3 1 y rfl
      have k1' := k1.name
      have k2' := k2.op
      rw [hx, show str [97] = ⟨#[97]⟩ from rfl] at k1'
      rw [hy] at k2'
      exact ⟨g, o, h1, h2, by simpa using k1', by simpa using k2'⟩
  have hcelH := Hid.intro hcel
  have hlen : (uvA A).text.length = 2 := by rw [hut]; rfl
  have haa : Hid (Calls Tryz.prog 9 #[.string ⟨#[97, 58, 32, 106, 109, 112, 32, 97]⟩] w fun e w' => Below w.heap.size w w' ∧ ∃ g o tc da dn dc ea en ec ga gn gc, e = .returned (.tuple #[.agg #[.slice (some ⟨g, o, none⟩) 2 tc, .slice da dn dc, .slice ea en ec, .slice ga gn gc], .nilIface]) ∧ g < w'.heap.size ∧ w'.cell? ⟨g, o + 1, none⟩ = some (.string ⟨#[97]⟩) ∧ w'.cell? ⟨g, o + 10 + 2, none⟩ = some (.int .i64 40) ∧ (∀ w2, Env w2 → Below w'.heap.size w' w2 → Calls Tryz.prog 21 #[.agg #[.slice (some ⟨g, o, none⟩) 2 tc, .slice da dn dc, .slice ea en ec, .slice ga gn gc]] w2 fun e w3 => e = .returned (.int .i64 1) ∧ Below w2.heap.size w2 w3) ∧ (∀ w2, Env w2 → Below w'.heap.size w' w2 → Calls Tryz.prog 14 #[.agg #[.slice (some ⟨g, o, none⟩) 2 tc, .slice da dn dc, .slice ea en ec, .slice ga gn gc]] w2 fun e w3 => e = .returned (.int .i64 0) ∧ Below w2.heap.size w2 w3)) := ha.out.mono fun e w' ⟨h1, ta, tc, da, dc, ea, ec, ga, gc, h2, h3⟩ => by
    obtain ⟨g, o, rfl, k1, k2, k3⟩ := hcelH.out w' ta h3.text
    have hst2 := hst.out (some ⟨g, o, none⟩) tc da dc ea ec ga gc
    have hrt2 := hrt.out (some ⟨g, o, none⟩) tc da dc ea ec ga gc
    unfold unitV at h2 hst2 hrt2
    rw [hlen] at h2 hst2 hrt2
    exact ⟨h1, g, o, tc, da, _, dc, ea, _, ec, ga, _, gc, h2, k1, k2, k3, fun w2 hE2 hb2 => hst2 w2 hE2.tab (h3.below hb2), fun w2 hE2 hb2 => hrt2 w2 hE2.tab (h3.below hb2)⟩
  clear hE hG hB hU hheld hright hA hsp hsp' ht ha hrt hst hcelH hcel hlen hut hx hy
  clear x y A
  go_enter Tryz.func15, Tryz.ntmps15
  go_wp2_with (first
    | (go_at_call 9
       (with_reducible refine (haa.out).mono ?_)
       rintro e w1 ⟨hb1, g, o, tc, da, dn, dc, ea, en, ec, ga, gn, gc, rfl, hg, k1, k2, q21, q14⟩
       have hB2 := Hid.intro (hb1.alloc hb1.size (.cells #[.slice (some ⟨g, o, none⟩) 2 tc, .slice da dn dc, .slice ea en ec, .slice ga gn gc] 26))
       have hA2 := Hid.intro (below_alloc w1 (.cells #[.slice (some ⟨g, o, none⟩) 2 tc, .slice da dn dc, .slice ea en ec, .slice ga gn gc] 26))
       have m1 := (hA2.out.cell (p := ⟨g, o + 1, none⟩) hg).trans k1
       have m2 := (hA2.out.cell (p := ⟨g, o + 10 + 2, none⟩) hg).trans k2
       have hbx := Hid.intro (heap_alloc_new w1 (.cells #[.slice (some ⟨g, o, none⟩) 2 tc, .slice da dn dc, .slice ea en ec, .slice ga gn gc] 26))
       have z21 := Hid.intro (q21 _ (hEH.out.below hB2.out) hA2.out)
       have z14 := Hid.intro q14
       clear q21 q14 k1 k2 hb1 hg)
    | (go_at_call 21
       (with_reducible refine (z21.out).mono ?_)
       rintro e w3 ⟨rfl, hb3⟩
       obtain ⟨c0, c1, c2, c3⟩ := four_read ((hb3.block _ (blk_lt hbx.out)).trans hbx.out)
       have hB3 := Hid.intro (hB2.out.trans (hb3.mono hB2.out.size))
       have hA3 := Hid.intro (hA2.out.trans (hb3.mono hA2.out.size))
       have z14' := Hid.intro (z14.out _ (hEH.out.below hB3.out) hA3.out)
       clear hb3)
    | (go_at_call 14
       (with_reducible refine (z14'.out).mono ?_)
       rintro e w4 ⟨rfl, hb4⟩
       have hB4 := Hid.intro (hB3.out.trans (hb4.mono hB3.out.size))
       have z13 := Hid.intro (h13.out _ (hEH.out.below hB4.out))
       clear hb4)
    | (go_at_call 13
       (with_reducible refine (z13.out).mono ?_)
       rintro e w5 ⟨rfl, hb5⟩
       have hB5 := Hid.intro (hB4.out.trans (hb5.mono hB4.out.size))
       clear hb5))
  go_ret
  exact ⟨rfl, hB5.out⟩
end Go.Proofs.YtogkchgjpflmjaaGreatDoor
/- spandrelbook's Same over texts; spandrelkeep's SameEqus, SameUnit. -/
namespace Go.Proofs.YtogkchgjpflmjaaGreatDoor
open Go.ChangeShapes Go.WideShapes Go.ChangeAt Go.RowKit Go.Sort
set_option linter.unusedVariables false
set_option maxRecDepth 100000
theorem stIn_at {w : World} {a : Option Addr} {l : List (List UInt8)} (h : StIn w a l) {i : Nat} {x : List UInt8} (hi : l[i]? = some x) : ∃ g o, a = some ⟨g, o, none⟩ ∧ g < w.heap.size ∧ w.cell? ⟨g, o + i, none⟩ = some (.string (str x)) := by
  rcases h with h | ⟨g, o, h1, h2, h3⟩
  · subst h; cases hi
  · exact ⟨g, o, h1, h2, h3 i x hi⟩
set_option maxHeartbeats 2000000 in
theorem sameStr_any (l : List (List UInt8)) (hm : l.length ≤ 1100000) (ai bi : Option Addr) (ni ci di : Nat) (w : World) (h1 : StIn w ai l) (h2 : StIn w bi l) (hn : Hid (ni = l.length)) :
    Calls Tryz.prog 10 #[.slice ai ni ci, .slice bi ni di] w fun e w' => e = .returned (.bool true) ∧ Below w.heap.size w w' := by
  have hnm : ni ≤ 1100000 := by rw [hn.out]; exact hm
  clear hm
  replace h1 := Hid.intro h1
  replace h2 := Hid.intro h2
  go_enter Tryz.func10, Tryz.ntmps10
  go_wp2
  all_goals first | omega | skip
  go_loopw [5] (fun v5 wr => ∃ i : Nat, i ≤ ni ∧ v5 = .int .i64 (i : Int) ∧ Hid (Below w.heap.size w wr)) (fun v5 wr => ni - (intOf v5).toNat)
  case atStart => exact ⟨0, by omega, rfl, Hid.intro (Below.refl _ _)⟩
  case round =>
    obtain ⟨i, hi, rfl, hB⟩ := hrel
    by_cases hlt : i < ni
    · obtain ⟨x, hx⟩ : ∃ x, l[i]? = some x := ⟨l[i]'(by rw [← hn.out]; exact hlt), List.getElem?_eq_getElem _⟩
      obtain ⟨g, o, hg, hgl, hI⟩ := stIn_at h1.out hx
      obtain ⟨g', o', hg', hgl', hJ⟩ := stIn_at h2.out hx
      subst hg
      subst hg'
      have hP : Hid (∀ p : BelowOf wr, Below w.heap.size w p.wd) := fun p => hB.out.trans (p.h.mono hB.out.size)
      have c0 : ∀ p : BelowOf wr, p.wd.cell? ⟨g, o + i, none⟩ = some (.string (str x)) := fun p => ((hP.out p).cell (p := ⟨g, _, none⟩) hgl).trans hI
      have d0 : ∀ p : BelowOf wr, p.wd.cell? ⟨g', o' + i, none⟩ = some (.string (str x)) := fun p => ((hP.out p).cell (p := ⟨g', _, none⟩) hgl').trans hJ
      clear hI hJ hx hgl hgl'
      have hlt2 : (i : Int) < (ni : Int) := by omega
      have i0 : (0 : Int) ≤ (i : Int) := by omega
      go_wp2_with fail
      all_goals first | omega | skip
      refine wp_region_quiet_below (by kernel_rfl) (by kernel_rfl) ?_
      repeat (first | (with_reducible refine wpQuiet_skip (by with_unfolding_all rfl) ?_; simp only [Act.put, List.setIfInBounds_toArray, List.set_cons_zero, List.set_cons_succ]) | (with_reducible refine wpQuiet_step (fun K hK => ?_); go_simp; first | (with_reducible refine hK _ ?_; clear hK K) | (apply Exists.intro; refine ⟨fun p => ?_, hK _ ?_⟩; fail; clear hK K)))
      with_reducible refine wpQuiet_nil ?_
      intro _ hw'
      obtain ⟨pq, hw''⟩ := hw'
      subst hw''
      clear c0 d0
      have hend := Hid.intro (hP.out pq)
      go_wp2_with fail
      all_goals first | omega | skip
      go_roundw
      case rel => exact ⟨i + 1, by omega, by go_num, hend⟩
      case measure => simp [intOf]; omega
    · have hin : i = ni := by omega
      subst hin
      have hlt3 : ¬ ((i : Int) < (i : Int)) := by omega
      go_wp2
      all_goals first | omega | skip
      go_ret
      exact ⟨rfl, hB.out⟩
end Go.Proofs.YtogkchgjpflmjaaGreatDoor
namespace Go.Proofs.YtogkchgjpflmjaaGreatDoor
open Go.ChangeShapes Go.WideShapes Go.ChangeAt Go.RowKit Go.Sort
set_option linter.unusedVariables false
set_option maxRecDepth 100000
theorem setCell_self {w : World} {g o : Nat} {v : Value} {cs : Array Value} {T : TypeId} {r : Nat × Nat} (hb : w.heap[g]? = some (.cells cs T r)) (hc : cs[o]? = some v) : w.setCell ⟨g, o, none⟩ v = w := by
  have hcs : cs.setIfInBounds o v = cs := by
    obtain ⟨h1, h2⟩ := Array.getElem?_eq_some_iff.1 hc
    rw [Array.setIfInBounds, dif_pos h1, ← h2, Array.set_getElem_self]
  obtain ⟨hl, he⟩ := Array.getElem?_eq_some_iff.1 hb
  have hm : w.heap.modify g (fun | .cells c elem frozen => .cells (if (⟨g, o, none⟩ : Addr).spot.isSome then c else c.setIfInBounds o v) elem frozen | o => o) = w.heap := by
    apply Array.ext
    · simp
    · intro i h1 h2
      rw [Array.getElem_modify]
      split
      · rename_i hgi
        subst hgi
        rw [he]
        simp [hcs]
      · rfl
  unfold World.setCell
  exact congrArg (fun h => { w with heap := h }) hm
set_option maxHeartbeats 4000000 in
theorem names_bad (ta : Option Addr) (tc : Nat) (da : Option Addr) (dc : Nat) (ea : Option Addr) (ec : Nat) (ga : Option Addr) (gc : Nat) (u : UVal) (hu : HeldU u) (w : World) (hT : Tab w) (hI : UnitIn w ta da ea ga u) (n : Int) (hn : RightN u n) (h0 : n ≠ 0) :
    Calls Tryz.prog 11 #[.agg (unitV ta tc da dc ea ec ga gc u)] w fun e w' => e = .returned (.slice none 0 0) ∧ Below w.heap.size w w' := by
  have hB0 : Below w.heap.size w (w.alloc (.cells (unitV ta tc da dc ea ec ga gc u) 26)) := below_alloc w _
  have hr := Hid.intro (unitRight_is ta tc da dc ea ec ga gc u hu _ (hT.alloc (.cells (unitV ta tc da dc ea ec ga gc u) 26)) (hI.below hB0) n hn)
  have hBH := Hid.intro hB0
  have hne : (n == 0) = false := by simpa using h0
  obtain ⟨c0, c1, c2, c3⟩ := four_read (heap_alloc_new w (.cells (unitV ta tc da dc ea ec ga gc u) 26))
  clear hB0 hI hT hn hu
  unfold unitV at *
  go_enter Tryz.func11, Tryz.ntmps11
  go_wp2_with (go_at_call 14; (with_reducible refine (hr.out).mono ?_); rintro e w1 ⟨rfl, hb1⟩; have hb1H := Hid.intro (hBH.out.trans (hb1.mono hBH.out.size)); clear hb1 c0 c1 c2 c3)
  all_goals first | omega | (go_ret; exact ⟨rfl, hb1H.out⟩) | skip
theorem nms_at {w0 : World} {ga : Option Addr} {gc n : Nat} {ns : List (List UInt8)} {wr : World} (h : NmS w0 ga gc ns n wr) {i : Nat} (hi : i < n) : ∃ g x, ga = some ⟨g, 0, none⟩ ∧ ns[i]? = some x ∧ w0.heap.size ≤ g ∧ g < wr.heap.size ∧ wr.cell? ⟨g, i, none⟩ = some (.string (str x)) ∧ wr.frozen? ⟨g, i, none⟩ = false ∧ ∀ w2, Below wr.heap.size wr w2 → w2.setCell ⟨g, i, none⟩ (.string (str x)) = w2 := by
  have hl := h.len
  obtain ⟨x, hx⟩ : ∃ x, ns[i]? = some x := ⟨ns[i]'(by omega), List.getElem?_eq_getElem _⟩
  rcases h.own.2 with ⟨hv, h0⟩ | ⟨g, cap, cur, hv, hlo, hg, h1, h2, h3, h4⟩
  · omega
  · injection hv with hv1 hv2 hv3
    subst hv1
    have hglt := (Array.getElem?_eq_some_iff.1 hg).1
    have hc : wr.cell? ⟨g, i, none⟩ = some (.string (str x)) := by
      rw [h.own.cellAt i (by omega), List.getElem?_map, hx]
      rfl
    refine ⟨g, x, rfl, hx, hlo, hglt, hc, ?_, fun w2 hb => ?_⟩
    · simp [World.frozen?, hg]
    · refine setCell_self ((hb.block g hglt).trans hg) ?_
      have hc2 := hc
      simp [World.cell?, hg] at hc2
      exact hc2
set_option maxHeartbeats 4000000 in
theorem names_ok (ta : Option Addr) (tc : Nat) (da : Option Addr) (dc : Nat) (ea : Option Addr) (ec : Nat) (ga : Option Addr) (gc : Nat) (u : UVal) (hu : HeldU u) (hs : ∀ s ∈ u.names, s.length ≤ 1100000) (w : World) (hT : Tab w) (hI : UnitIn w ta da ea ga u) (hn : RightN u 0) :
    Calls Tryz.prog 11 #[.agg (unitV ta tc da dc ea ec ga gc u)] w fun e w' => ∃ a' c', e = .returned (.slice a' (sortS u.names).length c') ∧ NmS w a' c' (sortS u.names) (sortS u.names).length w' := by
  have hB0 : Below w.heap.size w (w.alloc (.cells (unitV ta tc da dc ea ec ga gc u) 26)) := below_alloc w _
  have hI0 := hI.below hB0
  have hr := Hid.intro (unitRight_is ta tc da dc ea ec ga gc u hu _ (hT.alloc (.cells (unitV ta tc da dc ea ec ga gc u) 26)) hI0 0 hn)
  have hs9 := Hid.intro (fun w1 (hb : Below (w.alloc (.cells (unitV ta tc da dc ea ec ga gc u) 26)).heap.size (w.alloc (.cells (unitV ta tc da dc ea ec ga gc u) 26)) w1) => sortedNames_any ta tc da dc ea ec ga gc u hu w1 (hI0.below hb))
  have hBH := Hid.intro hB0
  have hx := heap_alloc_new w (.cells (unitV ta tc da dc ea ec ga gc u) 26)
  obtain ⟨c0, c1, c2, c3⟩ := four_read hx
  have hfr := Hid.intro (fun w1 (hb : Below (w.alloc (.cells (unitV ta tc da dc ea ec ga gc u) 26)).heap.size (w.alloc (.cells (unitV ta tc da dc ea ec ga gc u) 26)) w1) => four_read ((hb.block _ (blk_lt hx)).trans hx))
  have hlen := sortS_len u.names
  have hsm : Hid (∀ s ∈ sortS u.names, s.length ≤ 1100000) := fun s h => hs s ((sortS_perm _).mem_iff.1 h)
  have hmany : Hid ((sortS u.names).length ≤ 4000000) := by
    have l1 := labN_len u.text
    have l2 := labN_len u.data
    have l3 := hu.text.1
    have l4 := hu.data.1
    have l5 := hu.equs.1
    show (sortS u.names).length ≤ 4000000
    rw [hlen]
    unfold UVal.names
    rw [List.length_append, List.length_append, List.length_map]
    omega
  clear hB0 hI hI0 hT hn hu hs hx hlen
  unfold unitV at *
  generalize sortS u.names = ns at *
  generalize u.text.length = n1 at *
  generalize u.data.length = n2 at *
  generalize u.equs.length = n3 at *
  generalize u.globs.length = n4 at *
  go_enter Tryz.func11, Tryz.ntmps11
  go_wp2_with (first
    | (go_at_call 14
       (with_reducible refine (hr.out).mono ?_)
       rintro e w1 ⟨rfl, hb1⟩
       clear c0 c1 c2 c3
       obtain ⟨c0, c1, c2, c3⟩ := hfr.out w1 hb1
       have hb1H := Hid.intro (hBH.out.trans (hb1.mono hBH.out.size))
       have q := Hid.intro (hs9.out w1 hb1)
       clear hb1)
    | (go_at_call 38
       (with_reducible refine (q.out).mono ?_)
       rintro e w2 ⟨a', c', rfl, hN⟩
       have hN0 : Hid (NmS w a' c' ns ns.length w2) := ⟨hb1H.out.trans (hN.bel.mono hb1H.out.size), own_weaken hN.own hb1H.out.size⟩
       clear hN))
  all_goals first | omega | skip
  have hclone := Hid.intro (fun (x : List UInt8) (h : x ∈ ns) w1 => clone_any (str x) w1 (Nat.le_trans (hsm.out x h) (by omega)))
  clear c0 c1 c2 c3
  generalize ns.length = n0 at *
  go_loopw [4, 5, 13] (fun v4 v5 v13 wr => ∃ i : Nat, i ≤ n0 ∧ v13 = .int .i64 (i : Int) ∧ Hid (NmS w a' c' ns n0 wr)) (fun v4 v5 v13 wr => n0 - (intOf v13).toNat)
  case atStart => exact ⟨0, by omega, rfl, hN0⟩
  case round =>
    obtain ⟨i, hi, rfl, hS⟩ := hrel
    have hm4 := hmany.out
    by_cases hlt : i < n0
    · obtain ⟨g, x, hga, hx, hlo, hgl, hcell, hfz, hset⟩ := nms_at hS.out hlt
      subst hga
      have hlt2 : (i : Int) < (n0 : Int) := by omega
      have i0 : (0 : Int) ≤ (i : Int) := by omega
      have hcl := Hid.intro (hclone.out x (List.mem_of_getElem? hx) wr)
      have hsetH := Hid.intro hset
      have hglH := Hid.intro hgl
      have hfzH := Hid.intro hfz
      have hcellH := Hid.intro hcell
      clear hx hlo hset hgl hfz
      go_wp2_with (go_at_call 39; (with_reducible refine (hcl.out).mono ?_); rintro e w3 ⟨rfl, hb3⟩; have k0 := (hb3.cell (p := ⟨g, i, none⟩) hglH.out).trans hcellH.out; have k1 := (World.frozen?_of_block (a := ⟨g, i, none⟩) (hb3.block g hglH.out)).trans hfzH.out; have hw3 := hsetH.out w3 hb3; have hS3 := Hid.intro (hS.out.below hb3); clear hb3)
      all_goals first | omega | skip
      go_roundw
      case rel => exact ⟨i + 1, by omega, by go_num, hS3⟩
      case measure => simp [intOf]; omega
    · have hin : i = n0 := by omega
      subst hin
      have hlt3 : ¬ ((i : Int) < (i : Int)) := by omega
      go_wp2_with fail
      all_goals first | omega | skip
      go_ret
      have e9 : i = ns.length := hS.out.len
      rw [← e9]
      exact ⟨_, _, rfl, hS.out⟩
end Go.Proofs.YtogkchgjpflmjaaGreatDoor
