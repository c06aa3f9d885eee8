/- object's reader: a global's name. -/
import Derived.Test.YtmndccbeddaphaaGreatDoorOrd13
import Derived.Test.YtmndccbeddaphaaGreatDoorUGl
/- object's reader: a list of equs. -/
namespace Go.Proofs.YtmndccbeddaphaaGreatDoor
open Go.ChangeShapes Go.WideShapes Go.ChangeAt Go.RowKit Go.Sort
set_option linter.unusedVariables false
set_option linter.unusedSimpArgs false
set_option maxRecDepth 100000

/-- k items more: they, the names, the place, the refusal -/
def rdEqLoop (zs : List Int) : Nat → List Eqv → INm → Nat → Rfu → List Eqv × INm × Nat × Rfu
  | 0, acc, g, p, b => (acc, g, p, b)
  | k + 1, acc, g, p, b => if b.isSome then ([], g, p, b) else rdEqLoop zs k (acc ++ [(eqR zs p b).1]) (eqG (eqR zs p b).1 g) (eqR zs p b).2.1 (eqB (eqR zs p b).1 g p (eqR zs p b).2.2)
def rdEqus (zs : List Int) (most : Int) (g : INm) (p : Nat) (b : Rfu) : List Eqv × INm × Nat × Rfu :=
  rdEqLoop zs (rdV zs p 2).toNat [] g (rdP zs p 2) (manyB (rdV zs p 2) most p (rdB zs p 2 b))

/-- the row of some equs, each with the slice of its terms -/
abbrev eqCells (q : Eqv) (v : Value) : Array Value := #[.string (str q.1), v, .int .u32 q.2.const]
def rowE (p : List (Eqv × Value)) : List Value := p.flatMap fun q => (eqCells q.1 q.2).toList
theorem rowE_push (p : List (Eqv × Value)) (q : Eqv × Value) : rowE (p ++ [q]) = rowE p ++ (eqCells q.1 q.2).toList := by simp [rowE]
structure EqOw (lo : Nat) (w : World) (v : Value) (p : List (Eqv × Value)) : Prop where
  row : w.ownsRow lo 90 3 v p.length (rowE p)
  each : ∀ q ∈ p, w.ownsRow lo 107 2 q.2 q.1.2.terms.length (rowT q.1.2.terms)
theorem info90 : (Tryz.prog.info? 90).map (fun i => (i.zero, i.size, i.bytes)) = some (some (.agg #[.string ⟨#[]⟩, .slice none 0 0, .int .u32 0]), 3, 48) := by kernel_rfl

section
variable {w w' w1 : World} {r : Nat} {a : Option Addr} {c : Nat} {zs : List Int} {p : Nat} {bad : Option (Int × Int)} {rp : Option Nat} {mv : Value} {last : List UInt8} {b n : Nat} {g : List (List UInt8)} {q : Nat} {A : Array Value} {w2 : World}

/-- while items are read -/
structure EL (w : World) (r : Nat) (a : Option Addr) (c : Nat) (zs : List Int) (b : Nat) (last : List UInt8) (R : List Eqv × INm × Nat × Rfu) (k : Nat) (L : List (Eqv × Value)) (g : INm) (n : Nat) (p : Nat) (bad : Rfu) (v : Value) (wr : World) : Prop where
  rs : ∃ rp, RS wr r a c zs p bad rp (.map (some b)) last
  own : EqOw w.heap.size wr v L
  gr : G2 w wr r b
  set : SetIs wr b n g
  tab : Tab wr
  res : rdEqLoop zs k (L.map (·.1)) g p bad = R
  lo : 3 ≤ r ∧ 3 ≤ b ∧ r < w.heap.size ∧ b < w.heap.size ∧ b ≠ r
  ab : ∀ x, a = some x → x.block ≠ b

theorem EL.los {R : List Eqv × INm × Nat × Rfu} {k : Nat} {L : List (Eqv × Value)} {v : Value} {wr : World} (h : EL w r a c zs b last R k L g n p bad v wr) : 3 ≤ r ∧ 3 ≤ b ∧ r < wr.heap.size ∧ b < wr.heap.size ∧ b ≠ r := by
  obtain ⟨t0, t1, t2, t3, t4⟩ := h.lo
  have := h.gr.size
  exact ⟨t0, t1, by omega, by omega, t4⟩
theorem EL.mid {R : List Eqv × INm × Nat × Rfu} {k : Nat} {L : List (Eqv × Value)} {v : Value} {wr : World} (h : EL w r a c zs b last R k L g n p bad v wr) {g' : INm} {n' p' : Nat} {bad' : Rfu} (hE : IE wr r a c zs b n' g' last p' bad' w2) (o : Obj) : EqOw w.heap.size (w2.alloc o) v L := by
  obtain ⟨t0, t1, t2, t3, t4⟩ := h.lo
  exact ⟨own_keptB (own_G2 h.own.row hE.gr t2 t3) (below_alloc w2 o), fun q hq => own_keptB (own_G2 (h.own.each q hq) hE.gr t2 t3) (below_alloc w2 o)⟩
theorem EL.next {R : List Eqv × INm × Nat × Rfu} {k : Nat} {L : List (Eqv × Value)} {v v' vt : Value} {wr w4 : World} {n' : Nat} (h : EL w r a c zs b last R (k + 1) L g n p none v wr)
    (hE : IE wr r a c zs b n' (eqG (eqR zs p none).1 g) last (eqR zs p none).2.1 (eqB (eqR zs p none).1 g p (eqR zs p none).2.2) w2) (hvt : w2.ownsRow wr.heap.size 107 2 vt (eqR zs p none).1.2.terms.length (rowT (eqR zs p none).1.2.terms)) (o : Obj)
    (ho : w4.ownsRow w.heap.size 90 3 v' (L.length + 1) (rowE L ++ (eqCells (eqR zs p none).1 vt).toList)) (hg4 : (w2.alloc o).grownBy w4 v.ownBlock) :
    EL w r a c zs b last R k (L ++ [((eqR zs p none).1, vt)]) (eqG (eqR zs p none).1 g) n' (eqR zs p none).2.1 (eqB (eqR zs p none).1 g p (eqR zs p none).2.2) v' w4 := by
  obtain ⟨t0, t1, t2, t3, t4⟩ := h.lo
  have hm := h.mid hE o
  have hb := below_alloc w2 o
  have hbl : ∀ j, v.ownBlock = some j → w.heap.size ≤ j := fun j e => (hm.row.lt j e).1
  obtain ⟨rp, hrs⟩ := hE.rs
  refine ⟨⟨rp, (hrs.below hb).off hm.row t2 (by decide) hg4⟩, ⟨?_, fun q hq => ?_⟩, ?_, ?_, ?_, ?_, h.lo, h.ab⟩
  · rw [rowE_push, List.length_append]
    exact ho
  · rcases List.mem_append.1 hq with h1 | h1
    · exact own_other (hm.each q h1) hm.row (by decide) hg4
    · rw [List.mem_singleton] at h1
      subst h1
      exact own_other (own_keptB (own_weaken hvt h.gr.size) hb) hm.row (by decide) hg4
  · have g0 := (h.gr.trans hE.gr).trans (G2.of (grown_of_below hb) (fun j e => by cases e))
    exact ⟨hg4.os.trans g0.os, hg4.tape.trans g0.tape, hg4.output.trans g0.output, Nat.le_trans g0.size hg4.size, fun j hj h1 h2 => (hg4.block j (Nat.lt_of_lt_of_le hj g0.size) (fun e => by have := hbl j e.symm; omega)).trans (g0.block j hj h1 h2)⟩
  · exact hE.set.blk ((hg4.block b (Nat.lt_of_lt_of_le hE.set.lt hb.size) (fun e => by have := hbl b e.symm; omega)).trans (hb.block b hE.set.lt))
  · exact (hE.tab.below hb hE.tab.size).grownO hg4 (fun j e => by have := hbl j e; omega)
  · have := h.res
    rw [rdEqLoop] at this
    simpa using this

/-- what a list's reading answers -/
def EqsOut (w : World) (r : Nat) (a : Option Addr) (c : Nat) (zs : List Int) (b n : Nat) (last : List UInt8) (R : List Eqv × INm × Nat × Rfu) (e : Ending) (w' : World) : Prop :=
  ∃ v L, e = .returned v ∧ EqOw w.heap.size w' v L ∧ L.map (·.1) = R.1 ∧ IE w r a c zs b (n + 65535) R.2.1 last R.2.2.1 R.2.2.2 w'

set_option maxHeartbeats 16000000 in
theorem equs_is (h : RS w r a c zs p bad rp (.map (some b)) last) (hS : SetIs w b n g) (hn : n ≤ 2000000) (hT : Tab w) (hlo : 3 ≤ r ∧ 3 ≤ b ∧ r < w.heap.size ∧ b < w.heap.size ∧ b ≠ r) (ha : ∀ x, a = some x → x.block ≠ b) (most : Int) (hmo : 0 ≤ most ∧ most ≤ 8192) :
    Calls Tryz.prog 78 #[.pointer (some ⟨r, 0, none⟩), .int .i64 most, .func (.func 79) #[.pointer (some ⟨r, 0, none⟩)] #[]] w fun e w' => EqsOut w r a c zs b n last (rdEqus zs most g p bad) e w' := by
  obtain ⟨i1, hi1, hy0, hy1, hy2⟩ := info_parts info90
  have hbd := rdV_bd h.lies.1 p
  obtain ⟨_, c1, _, _, _⟩ := five_read h.blk
  have h113 := Hid.intro (num2_is h)
  have hR : Hid (rdEqLoop zs (rdV zs p 2).toNat [] g (rdP zs p 2) (manyB (rdV zs p 2) most p (rdB zs p 2 bad)) = rdEqus zs most g p bad) := rfl
  generalize rdEqus zs most g p bad = R at *
  obtain ⟨n0, hn0⟩ : ∃ n0 : Nat, rdV zs p 2 = (n0 : Int) := ⟨(rdV zs p 2).toNat, by omega⟩
  rw [hn0] at h113 hR hbd
  have hn1 : n0 ≤ 65535 := by omega
  rw [Int.toNat_natCast] at hR
  generalize rdP zs p 2 = p1 at *
  generalize rdB zs p 2 bad = b1 at *
  have hSH := Hid.intro hS
  have hTH := Hid.intro hT
  have haH := Hid.intro ha
  have hloH := Hid.intro hlo
  have hst : Hid (∀ w1 (rp1 : Option Nat) b2, w.grownBy w1 (some r) → RS w1 r a c zs p1 b2 rp1 (.map (some b)) last → b2 = manyB n0 most p b1 → EL w r a c zs b last R n0 [] g n p1 b2 (.slice none 0 0) w1) := fun w1 rp1 b2 g1 hR1 hb2 =>
    ⟨⟨rp1, hR1⟩, ⟨World.ownsRow_nil _ _ _ _, fun q hq => by cases hq⟩, G2.of g1 (fun j e => .inl (Option.some.inj e).symm), hS.blk (g1.block b hS.lt (fun e => hlo.2.2.2.2 (Option.some.inj e))), hT.grown g1 hlo.1, by rw [hb2]; exact hR.out, hlo, ha⟩
  clear hn0 hbd h hS hT ha hR
  have hloop : Hid (∀ (w1 : World) (b2 : Rfu), EL w r a c zs b last R n0 [] g n p1 b2 (.slice none 0 0) w1 → True) := fun _ _ _ => trivial
  by_cases hmany : (n0 : Int) > most
  · have hmb : Hid (manyB n0 most p b1 = firstR b1 ((p : Int), 4)) := if_pos hmany
    go_enter Tryz.func78, Tryz.ntmps78
    go_wp2_with (first
      | (go_at_call 113; (with_reducible refine (h113.out).mono ?_); rintro e w1 ⟨rfl, g1, rp1, hR1⟩; replace g1 := Hid.intro g1; replace hR1 := Hid.intro hR1)
      | (go_at_call 82; (with_reducible refine (refuse_is hR1.out _ _).mono ?_); rintro e w2 ⟨rfl, g2, rp2, hR2⟩; have hL0 := Hid.intro (hst.out w2 rp2 _ (grown_trans g1.out g2) hR2 hmb.out.symm); clear g2 hR2))
    all_goals first | omega | skip
    clear h113 hst c1 g1 hR1
    go_loopw [9, 24] (fun v9 v24 wr => ∃ (j : Nat) (L : List (Eqv × Value)) (g' : INm) (n' p' : Nat) (b' : Rfu) (a9 : Option Addr) (l9 c9 : Nat), j ≤ n0 ∧ v24 = .int .i64 (j : Int) ∧ v9 = .slice a9 l9 c9 ∧ l9 ≤ j ∧ n' ≤ n + j ∧ Hid (l9 = L.length) ∧ Hid (EL w r a c zs b last R (n0 - j) L g' n' p' b' (.slice a9 L.length c9) wr)) (fun v9 v24 _ => n0 - (intOf v24).toNat)
    case atStart => exact ⟨0, [], _, _, _, _, none, 0, 0, by omega, rfl, rfl, by omega, by omega, rfl, hL0⟩
    case round =>
      obtain ⟨j, L, g', n', p', b', a9, l9, c9, hj, rfl, rfl, hl9, hn', hl, hL⟩ := hrel
      clear hL0
      by_cases hjn : j < n0
      · have hk : Hid (n0 - j = (n0 - (j + 1)) + 1) := by show _ = _; omega
        obtain ⟨rp', hrs'⟩ := hL.out.rs
        have h32 := Hid.intro (refused_is hrs')
        cases b' with
        | some f =>
          replace hrs' := Hid.intro hrs'
          go_wp2_with (go_at_call 32; (with_reducible refine (h32.out).mono ?_); rintro e w2 ⟨rfl, hw2⟩; subst w2)
          all_goals first | omega | skip
          go_ret
          have hres : R = ([], g', p', some f) := by
            rw [← hL.out.res, hk.out, rdEqLoop]
            rfl
          rw [hres]
          exact ⟨_, [], rfl, ⟨World.ownsRow_nil _ _ _ _, fun q hq => by cases hq⟩, rfl, ⟨⟨rp', hrs'.out⟩, hL.out.gr, hL.out.set.more (by omega), hL.out.tab⟩⟩
        | none =>
          have h76 := Hid.intro (equ_is hrs' hL.out.set (by omega) hL.out.tab hL.out.los hL.out.ab)
          have hnx : Hid (∀ w2 vt v' w4, IE wr r a c zs b (n' + 1) (eqG (eqR zs p' none).1 g') last (eqR zs p' none).2.1 (eqB (eqR zs p' none).1 g' p' (eqR zs p' none).2.2) w2 → w2.ownsRow wr.heap.size 107 2 vt (eqR zs p' none).1.2.terms.length (rowT (eqR zs p' none).1.2.terms) → w4.ownsRow w.heap.size 90 3 v' (l9 + 1) (rowE L ++ (eqCells (eqR zs p' none).1 vt).toList) → (w2.alloc (.cells (eqCells (eqR zs p' none).1 vt) 90)).grownBy w4 (Value.slice a9 l9 c9).ownBlock → EL w r a c zs b last R (n0 - (j + 1)) (L ++ [((eqR zs p' none).1, vt)]) (eqG (eqR zs p' none).1 g') (n' + 1) (eqR zs p' none).2.1 (eqB (eqR zs p' none).1 g' p' (eqR zs p' none).2.2) v' w4) := fun w2 vt v' w4 h1 h2 h3 h4 => by
            have hh := hL.out
            rw [hk.out] at hh
            rw [hl.out] at h3 h4
            exact hh.next h1 h2 _ h3 h4
          have hmid : Hid (∀ w2 vt, IE wr r a c zs b (n' + 1) (eqG (eqR zs p' none).1 g') last (eqR zs p' none).2.1 (eqB (eqR zs p' none).1 g' p' (eqR zs p' none).2.2) w2 → (w2.alloc (.cells (eqCells (eqR zs p' none).1 vt) 90)).ownsRow w.heap.size 90 3 (.slice a9 l9 c9) l9 (rowE L) ∧ w.heap.size ≤ (w2.alloc (.cells (eqCells (eqR zs p' none).1 vt) 90)).heap.size) := fun w2 vt h1 => by
            have := (hL.out.mid h1 (.cells (eqCells (eqR zs p' none).1 vt) 90)).row
            rw [← hl.out] at this
            exact ⟨this, by have := hL.out.gr.size; have := h1.gr.size; simp; omega⟩
          have hll : Hid (∀ vt, l9 + 1 = (L ++ [((eqR zs p' none).1, vt)]).length) := fun vt => by rw [List.length_append, hl.out]; rfl
          unfold EqvOut at h76
          generalize eqB (eqR zs p' none).1 g' p' (eqR zs p' none).2.2 = B3 at *
          generalize eqG (eqR zs p' none).1 g' = G3 at *
          generalize (eqR zs p' none).2.1 = P3 at *
          generalize (eqR zs p' none).1 = X at *
          clear hL hl hk hrs'
          go_wp2_with (first
            | (go_at_call 32; (with_reducible refine (h32.out).mono ?_); rintro e w2 ⟨rfl, hw2⟩; subst w2)
            | (go_at_call 79; (with_reducible refine (h76.out).mono ?_); rintro e w3 ⟨v3, rfl, ho3, hE3⟩; obtain ⟨a3, c3, rfl⟩ := own_slice ho3; obtain ⟨hm1, hm2⟩ := hmid.out w3 (.slice a3 X.2.terms.length c3) hE3; replace ho3 := Hid.intro ho3; replace hE3 := Hid.intro hE3; replace hm1 := Hid.intro hm1)
            | (at_builtin; go_must (refine wpList_app rfl (.tmp 28) (.tmp 31) 27 rfl w.heap.size 90 i1 _ 3 48 Tryz.underlying27 hi1 hy0 hy1 hy2 rfl (by decide) (.slice a9 l9 c9) l9 (rowE L) rfl hm1.out (.slice (some ⟨w3.heap.size, 0, none⟩) 1 1) 1 (eqCells X (.slice a3 X.2.terms.length c3)).toList rfl (.inr ⟨_, _, rfl, cells_new w3 (eqCells X (.slice a3 X.2.terms.length c3)) 90⟩) rfl (by simp [Value.oneCell']) (by unfold maxLen; omega) (by omega) hm2 ?_; intro v' w4 ho4 hg4 hw4; have hn4 := Hid.intro (hnx.out w3 _ v' w4 hE3.out ho3.out ho4 hg4); obtain ⟨a4, c4, rfl⟩ := own_slice ho4; clear ho4 hg4 hw4)))
          all_goals first | omega | skip
          go_roundw
          case rel => exact ⟨j + 1, _, _, n' + 1, _, _, a4, l9 + 1, c4, by omega, by go_num, rfl, by omega, by omega, hll.out _, by rw [← hll.out]; exact hn4⟩
          case measure => simp [intOf]; omega
      · obtain rfl : j = n0 := by omega
        go_wp2_with fail
        all_goals first | omega | skip
        go_ret
        have hres : R = (L.map (·.1), g', p', b') := by
          rw [← hL.out.res, Nat.sub_self, rdEqLoop]
        rw [hres, hl.out]
        exact ⟨_, L, rfl, hL.out.own, rfl, ⟨hL.out.rs, hL.out.gr, hL.out.set.more (by omega), hL.out.tab⟩⟩
  · have hmb : Hid (manyB n0 most p b1 = b1) := if_neg hmany
    go_enter Tryz.func78, Tryz.ntmps78
    go_wp2_with (go_at_call 113; (with_reducible refine (h113.out).mono ?_); rintro e w1 ⟨rfl, g1, rp1, hR1⟩; have hL0 := Hid.intro (hst.out w1 rp1 _ g1 hR1 hmb.out.symm); clear g1 hR1)
    all_goals first | omega | skip
    clear h113 hst c1
    go_loopw [9, 24] (fun v9 v24 wr => ∃ (j : Nat) (L : List (Eqv × Value)) (g' : INm) (n' p' : Nat) (b' : Rfu) (a9 : Option Addr) (l9 c9 : Nat), j ≤ n0 ∧ v24 = .int .i64 (j : Int) ∧ v9 = .slice a9 l9 c9 ∧ l9 ≤ j ∧ n' ≤ n + j ∧ Hid (l9 = L.length) ∧ Hid (EL w r a c zs b last R (n0 - j) L g' n' p' b' (.slice a9 L.length c9) wr)) (fun v9 v24 _ => n0 - (intOf v24).toNat)
    case atStart => exact ⟨0, [], _, _, _, _, none, 0, 0, by omega, rfl, rfl, by omega, by omega, rfl, hL0⟩
    case round =>
      obtain ⟨j, L, g', n', p', b', a9, l9, c9, hj, rfl, rfl, hl9, hn', hl, hL⟩ := hrel
      clear hL0
      by_cases hjn : j < n0
      · have hk : Hid (n0 - j = (n0 - (j + 1)) + 1) := by show _ = _; omega
        obtain ⟨rp', hrs'⟩ := hL.out.rs
        have h32 := Hid.intro (refused_is hrs')
        cases b' with
        | some f =>
          replace hrs' := Hid.intro hrs'
          go_wp2_with (go_at_call 32; (with_reducible refine (h32.out).mono ?_); rintro e w2 ⟨rfl, hw2⟩; subst w2)
          all_goals first | omega | skip
          go_ret
          have hres : R = ([], g', p', some f) := by
            rw [← hL.out.res, hk.out, rdEqLoop]
            rfl
          rw [hres]
          exact ⟨_, [], rfl, ⟨World.ownsRow_nil _ _ _ _, fun q hq => by cases hq⟩, rfl, ⟨⟨rp', hrs'.out⟩, hL.out.gr, hL.out.set.more (by omega), hL.out.tab⟩⟩
        | none =>
          have h76 := Hid.intro (equ_is hrs' hL.out.set (by omega) hL.out.tab hL.out.los hL.out.ab)
          have hnx : Hid (∀ w2 vt v' w4, IE wr r a c zs b (n' + 1) (eqG (eqR zs p' none).1 g') last (eqR zs p' none).2.1 (eqB (eqR zs p' none).1 g' p' (eqR zs p' none).2.2) w2 → w2.ownsRow wr.heap.size 107 2 vt (eqR zs p' none).1.2.terms.length (rowT (eqR zs p' none).1.2.terms) → w4.ownsRow w.heap.size 90 3 v' (l9 + 1) (rowE L ++ (eqCells (eqR zs p' none).1 vt).toList) → (w2.alloc (.cells (eqCells (eqR zs p' none).1 vt) 90)).grownBy w4 (Value.slice a9 l9 c9).ownBlock → EL w r a c zs b last R (n0 - (j + 1)) (L ++ [((eqR zs p' none).1, vt)]) (eqG (eqR zs p' none).1 g') (n' + 1) (eqR zs p' none).2.1 (eqB (eqR zs p' none).1 g' p' (eqR zs p' none).2.2) v' w4) := fun w2 vt v' w4 h1 h2 h3 h4 => by
            have hh := hL.out
            rw [hk.out] at hh
            rw [hl.out] at h3 h4
            exact hh.next h1 h2 _ h3 h4
          have hmid : Hid (∀ w2 vt, IE wr r a c zs b (n' + 1) (eqG (eqR zs p' none).1 g') last (eqR zs p' none).2.1 (eqB (eqR zs p' none).1 g' p' (eqR zs p' none).2.2) w2 → (w2.alloc (.cells (eqCells (eqR zs p' none).1 vt) 90)).ownsRow w.heap.size 90 3 (.slice a9 l9 c9) l9 (rowE L) ∧ w.heap.size ≤ (w2.alloc (.cells (eqCells (eqR zs p' none).1 vt) 90)).heap.size) := fun w2 vt h1 => by
            have := (hL.out.mid h1 (.cells (eqCells (eqR zs p' none).1 vt) 90)).row
            rw [← hl.out] at this
            exact ⟨this, by have := hL.out.gr.size; have := h1.gr.size; simp; omega⟩
          have hll : Hid (∀ vt, l9 + 1 = (L ++ [((eqR zs p' none).1, vt)]).length) := fun vt => by rw [List.length_append, hl.out]; rfl
          unfold EqvOut at h76
          generalize eqB (eqR zs p' none).1 g' p' (eqR zs p' none).2.2 = B3 at *
          generalize eqG (eqR zs p' none).1 g' = G3 at *
          generalize (eqR zs p' none).2.1 = P3 at *
          generalize (eqR zs p' none).1 = X at *
          clear hL hl hk hrs'
          go_wp2_with (first
            | (go_at_call 32; (with_reducible refine (h32.out).mono ?_); rintro e w2 ⟨rfl, hw2⟩; subst w2)
            | (go_at_call 79; (with_reducible refine (h76.out).mono ?_); rintro e w3 ⟨v3, rfl, ho3, hE3⟩; obtain ⟨a3, c3, rfl⟩ := own_slice ho3; obtain ⟨hm1, hm2⟩ := hmid.out w3 (.slice a3 X.2.terms.length c3) hE3; replace ho3 := Hid.intro ho3; replace hE3 := Hid.intro hE3; replace hm1 := Hid.intro hm1)
            | (at_builtin; go_must (refine wpList_app rfl (.tmp 28) (.tmp 31) 27 rfl w.heap.size 90 i1 _ 3 48 Tryz.underlying27 hi1 hy0 hy1 hy2 rfl (by decide) (.slice a9 l9 c9) l9 (rowE L) rfl hm1.out (.slice (some ⟨w3.heap.size, 0, none⟩) 1 1) 1 (eqCells X (.slice a3 X.2.terms.length c3)).toList rfl (.inr ⟨_, _, rfl, cells_new w3 (eqCells X (.slice a3 X.2.terms.length c3)) 90⟩) rfl (by simp [Value.oneCell']) (by unfold maxLen; omega) (by omega) hm2 ?_; intro v' w4 ho4 hg4 hw4; have hn4 := Hid.intro (hnx.out w3 _ v' w4 hE3.out ho3.out ho4 hg4); obtain ⟨a4, c4, rfl⟩ := own_slice ho4; clear ho4 hg4 hw4)))
          all_goals first | omega | skip
          go_roundw
          case rel => exact ⟨j + 1, _, _, n' + 1, _, _, a4, l9 + 1, c4, by omega, by go_num, rfl, by omega, by omega, hll.out _, by rw [← hll.out]; exact hn4⟩
          case measure => simp [intOf]; omega
      · obtain rfl : j = n0 := by omega
        go_wp2_with fail
        all_goals first | omega | skip
        go_ret
        have hres : R = (L.map (·.1), g', p', b') := by
          rw [← hL.out.res, Nat.sub_self, rdEqLoop]
        rw [hres, hl.out]
        exact ⟨_, L, rfl, hL.out.own, rfl, ⟨hL.out.rs, hL.out.gr, hL.out.set.more (by omega), hL.out.tab⟩⟩

end
end Go.Proofs.YtmndccbeddaphaaGreatDoor
namespace Go.Proofs.YtmndccbeddaphaaGreatDoor
open Go.ChangeShapes Go.WideShapes Go.ChangeAt Go.RowKit
set_option linter.unusedVariables false
set_option linter.unusedSimpArgs false
set_option maxRecDepth 100000

section
variable {w w' w1 : World} {r : Nat} {a : Option Addr} {c : Nat} {zs : List Int} {p : Nat} {bad : Option (Int × Int)} {rp : Option Nat} {mv : Value} {last : List UInt8} {b n : Nat} {g : List (List UInt8)} {q : Nat} {A : Array Value} {w2 : World}

def glB (s last : List UInt8) (g : INm) (p : Nat) (b : Rfu) : Rfu := if s ∈ g ∧ nlt last s = true then b else firstR b ((p : Int), 31)
/-- the last name is written -/
theorem RS.lastPut (h : RS w r a c zs p bad rp mv last) (s : List UInt8) : RS (w.setCell ⟨r, 4, none⟩ (.string (str s))) r a c zs p bad rp mv s ∧ w.grownBy (w.setCell ⟨r, 4, none⟩ (.string (str s))) (some r) := by
  obtain ⟨s1, k1⟩ := row_set h.blk 4 (.string (str s))
  exact ⟨h.put k1 h.at_ s1 (h.rf.grown h.rne k1), k1⟩

/-- what one global's reading answers -/
def GlbOut (w : World) (r : Nat) (a : Option Addr) (c : Nat) (zs : List Int) (b n : Nat) (g : List (List UInt8)) (last : List UInt8) (p : Nat) (bad : Option (Int × Int)) (e : Ending) (w' : World) : Prop :=
  e = .returned (.string (str (txL zs p))) ∧ w.grownBy w' (some r) ∧ ∃ rp, RS w' r a c zs (txP zs p) (glB (txL zs p) last g p (txB zs p bad)) rp (.map (some b)) (txL zs p)

set_option maxHeartbeats 16000000 in
theorem global_is (h : RS w r a c zs p bad rp (.map (some b)) last) (hS : SetIs w b n g) (hbr : b ≠ r) :
    Calls Tryz.prog 81 #[.pointer (some ⟨r, 0, none⟩)] w fun e w' => GlbOut w r a c zs b n g last p bad e w' := by
  have hz := h.lies.1
  have n1 : Hid (Calls Tryz.prog 115 #[.pointer (some ⟨r, 0, none⟩)] w fun e w' => e = .returned (.string (str (txL zs p))) ∧ w.grownBy w' (some r) ∧ ∃ rp', RS w' r a c zs (txP zs p) (txB zs p bad) rp' (.map (some b)) last) := by
    rw [str_txL]
    exact text_is h
  have hsz : (txL zs p).length ≤ 65535 := by
    have := txL_le hz p
    rw [ByteArray.size, ← Array.length_toList] at this
    exact this
  have c1 := (five_read h.blk).2.1
  unfold GlbOut glB
  generalize txB zs p bad = b1 at *
  generalize txP zs p = p1 at *
  generalize txL zs p = sN at *
  have hlook : Hid (∀ w1, w.grownBy w1 (some r) → (Instr.lookup 69 (.map (some b)) (.string (str sN)) true).run Tryz.prog w1 = .ok (.tuple #[.agg #[], .bool (decide (sN ∈ g))]) w1) := fun w1 g1 => setlook_run (hS.kept g1 (fun e => hbr (Option.some.inj e))) sN (by omega)
  have hfin : Hid (∀ w1 w4 rp4 b4, w.grownBy w1 (some r) → (w1.alloc (.cells #[] 164)).grownBy w4 (some r) → RS w4 r a c zs p1 b4 rp4 (.map (some b)) last → w.grownBy (w4.setCell ⟨r, 4, none⟩ (.string (str sN))) (some r) ∧ ∃ rp, RS (w4.setCell ⟨r, 4, none⟩ (.string (str sN))) r a c zs p1 b4 rp (.map (some b)) sN) := fun w1 w4 rp4 b4 g1 g4 hR => by
    obtain ⟨k1, k2⟩ := hR.lastPut sN
    exact ⟨grown_trans g1 (grown_trans (World.grownBy_alloc w1 (.cells #[] 164) (some r)) (grown_trans g4 k2)), rp4, k1⟩
  have hcmp := leq_nlt last sN
  have e1 := str_toList sN
  have e2 := str_toList last
  clear h hS hz
  by_cases hg : sN ∈ g
  · rw [decide_eq_true hg] at hlook
    cases hl : nlt last sN with
    | true =>
      rw [if_pos ⟨hg, rfl⟩]
      rw [hl, Bool.not_true] at hcmp
      clear hl
      go_enter Tryz.func81, Tryz.ntmps81
      go_wp2_with (first | (go_at_call 115; (with_reducible refine (n1.out).mono ?_); rintro e w1 ⟨rfl, g1, rp1, hR1⟩; have hlk := hlook.out w1 g1; have hR2 := Hid.intro (hR1.below (below_alloc w1 (.cells #[] 164))); have d3 := (five_read hR1.blk).2.2.2.1; have d4 := (five_read hR2.out.blk).2.2.2.2; have df := fun j => frozen_of_row (w1.alloc (.cells #[] 164)) r j _ 71 hR2.out.blk; replace g1 := Hid.intro g1; clear hR1 n1))
      all_goals first | omega | skip
      have hF := hfin.out w1 (w1.alloc (.cells #[] 164)) rp1 b1 g1.out ⟨rfl, rfl, rfl, Nat.le_refl _, fun _ _ _ => rfl⟩ hR2.out
      go_ret
      exact ⟨rfl, hF⟩
    | false =>
      rw [if_neg (by simp)]
      rw [hl, Bool.not_false] at hcmp
      clear hl
      go_enter Tryz.func81, Tryz.ntmps81
      go_wp2_with (first | (go_at_call 115; (with_reducible refine (n1.out).mono ?_); rintro e w1 ⟨rfl, g1, rp1, hR1⟩; have hlk := hlook.out w1 g1; have hR2 := Hid.intro (hR1.below (below_alloc w1 (.cells #[] 164))); have d3 := (five_read hR1.blk).2.2.2.1; have d4 := (five_read hR2.out.blk).2.2.2.2; have df := fun j => frozen_of_row (w1.alloc (.cells #[] 164)) r j _ 71 hR2.out.blk; replace g1 := Hid.intro g1; clear hR1 n1) | (go_at_call 82; (with_reducible refine (refuse_is hR2.out _ _).mono ?_); rintro e w4 ⟨rfl, g4, rp4, hR4⟩; have d5 := (five_read hR4.blk).2.2.2.2; have df4 := fun j => frozen_of_row w4 r j _ 71 hR4.blk; have hF := Hid.intro (hfin.out w1 w4 rp4 _ g1.out g4 hR4); clear hR4 g4 d4 df))
      all_goals first | omega | skip
      go_ret
      exact ⟨rfl, hF.out⟩
  · rw [decide_eq_false hg] at hlook
    rw [if_neg (by simp [hg])]
    clear hcmp
    go_enter Tryz.func81, Tryz.ntmps81
    go_wp2_with (first | (go_at_call 115; (with_reducible refine (n1.out).mono ?_); rintro e w1 ⟨rfl, g1, rp1, hR1⟩; have hlk := hlook.out w1 g1; have hR2 := Hid.intro (hR1.below (below_alloc w1 (.cells #[] 164))); have d3 := (five_read hR1.blk).2.2.2.1; have d4 := (five_read hR2.out.blk).2.2.2.2; have df := fun j => frozen_of_row (w1.alloc (.cells #[] 164)) r j _ 71 hR2.out.blk; replace g1 := Hid.intro g1; clear hR1 n1) | (go_at_call 82; (with_reducible refine (refuse_is hR2.out _ _).mono ?_); rintro e w4 ⟨rfl, g4, rp4, hR4⟩; have d5 := (five_read hR4.blk).2.2.2.2; have df4 := fun j => frozen_of_row w4 r j _ 71 hR4.blk; have hF := Hid.intro (hfin.out w1 w4 rp4 _ g1.out g4 hR4); clear hR4 g4 d4 df))
    all_goals first | omega | skip
    go_ret
    exact ⟨rfl, hF.out⟩
end
end Go.Proofs.YtmndccbeddaphaaGreatDoor
