/- object's reader: a list of equs. -/
import Derived.Test.YtmndccbeddaphaaGreatDoorOrd12
import Derived.Test.YtmndccbeddaphaaGreatDoorOcGets0
/- object's reader: an equ. -/
namespace Go.Proofs.YtmndccbeddaphaaGreatDoor
open Go.ChangeShapes Go.WideShapes Go.ChangeAt Go.RowKit
set_option linter.unusedVariables false
set_option linter.unusedSimpArgs false
set_option maxRecDepth 100000
abbrev eqZ : Array Value := #[.string ⟨#[]⟩, .slice none 0 0, .int .u32 0]
abbrev put3 (w : World) (g : Nat) (v0 v1 v2 : Value) : World := ((w.setCell ⟨g, 0, none⟩ v0).setCell ⟨g, 1, none⟩ v1).setCell ⟨g, 2, none⟩ v2
theorem put3_is {w : World} {g : Nat} {z0 z1 z2 : Value} (h : w.heap[g]? = some (.cells #[z0, z1, z2] 90 (0, 0))) (v0 v1 v2 : Value) :
    (put3 w g v0 v1 v2).heap[g]? = some (.cells #[v0, v1, v2] 90 (0, 0)) ∧ w.grownBy (put3 w g v0 v1 v2) (some g) := by
  obtain ⟨s0, k0⟩ := row_set h 0 v0
  obtain ⟨s1, k1⟩ := row_set s0 1 v1
  obtain ⟨s2, k2⟩ := row_set s1 2 v2
  exact ⟨s2, grown_trans k0 (grown_trans k1 k2)⟩
abbrev Eqv := List UInt8 × Lin
def eqR (zs : List Int) (p : Nat) (bad : Rfu) : Eqv × Nat × Rfu := ((txL zs p, ⟨liL zs (txP zs p) (txB zs p bad), liN zs (txP zs p) (txB zs p bad)⟩), liP zs (txP zs p) (txB zs p bad), liB zs (txP zs p) (txB zs p bad))
def eqG (q : Eqv) (g : INm) : INm := if okE q then givN g q.1 else g
def eqB (q : Eqv) (g : INm) (p : Nat) (b : Rfu) : Rfu := if okE q = true ∧ q.1 ∉ g then b else firstR b ((p : Int), 31)
def oneE (q : Eqv) : UVal := ⟨[], [], [q], []⟩
theorem oneE_right (q : Eqv) : RightN (oneE q) (if okE q then 0 else 31) := by
  refine .inr ⟨by simp [oneE], ?_⟩
  cases h : okE q with
  | true =>
    refine .inl ⟨⟨rfl, rfl, by simp [oneE, h], ?_, by simp [GlobOk, oneE]⟩, by simp⟩
    rintro ⟨i, s, h1, h2⟩
    have hl := sortS_len (oneE q).names
    have h3 := (List.getElem?_eq_some_iff.1 h2).1
    have h4 : (oneE q).names.length = 1 := rfl
    omega
  | false =>
    refine .inr ⟨fun hR => ?_, by simp⟩
    have := hR.equs
    simp [oneE, h] at this
section
variable {w w' w1 : World} {r : Nat} {a : Option Addr} {c : Nat} {zs : List Int} {p : Nat} {bad : Option (Int × Int)} {rp : Option Nat} {mv : Value} {last : List UInt8} {b n : Nat} {g : List (List UInt8)} {q : Nat} {A : Array Value} {w2 : World}
structure ET (w : World) (r : Nat) (a : Option Addr) (c : Nat) (zs : List Int) (b n : Nat) (g : List (List UInt8)) (last : List UInt8) (q : Nat) (A : Array Value) (p : Nat) (bad : Option (Int × Int)) (rp : Option Nat) (w2 : World) : Prop where
  rs : RS w2 r a c zs p bad rp (.map (some b)) last
  row : w2.heap[q]? = some (.cells A 90 (0, 0))
  res : w2.heap[w.heap.size]? = some (.cells eqZ 90 (0, 0))
  gr : G2 w w2 r b
  set : SetIs w2 b n g
  tab : Tab w2
  lt : w.heap.size < q
  lo : 3 ≤ r ∧ 3 ≤ b ∧ r < w.heap.size ∧ b < w.heap.size ∧ b ≠ r
  ab : ∀ x, a = some x → x.block ≠ b
theorem ET.below {w3 : World} (h : ET w r a c zs b n g last q A p bad rp w2) (hb : Below w2.heap.size w2 w3) : ET w r a c zs b n g last q A p bad rp w3 :=
  ⟨h.rs.below hb, (hb.block q (blk_lt h.row)).trans h.row, (hb.block _ (blk_lt h.res)).trans h.res, h.gr.trans (.of (grown_of_below hb) (fun j e => by cases e)), h.set.blk (hb.block b h.set.lt), h.tab.below hb h.tab.size, h.lt, h.lo, h.ab⟩
theorem ET.num {w3 : World} (h : ET w r a c zs b n g last q A p bad rp w2) {p' : Nat} {bad' : Option (Int × Int)} {rp' : Option Nat} (hg : w2.grownBy w3 (some r)) (hR : RS w3 r a c zs p' bad' rp' (.map (some b)) last) : ET w r a c zs b n g last q A p' bad' rp' w3 := by
  obtain ⟨t0, t1, t2, t3, t4⟩ := h.lo
  have hl := h.lt
  exact ⟨hR, (hg.block q (blk_lt h.row) (fun e => by have := Option.some.inj e; omega)).trans h.row, (hg.block _ (blk_lt h.res) (fun e => by have := Option.some.inj e; omega)).trans h.res, h.gr.trans (.of hg (fun j e => .inl (Option.some.inj e).symm)), h.set.blk (hg.block b h.set.lt (fun e => t4 (Option.some.inj e))), h.tab.grown hg t0, h.lt, h.lo, h.ab⟩
theorem ET.give {w3 : World} {n' : Nat} {g' : List (List UInt8)} (h : ET w r a c zs b n g last q A p bad rp w2) (hg : w2.grownBy w3 (some b)) (hS : SetIs w3 b n' g') : ET w r a c zs b n' g' last q A p bad rp w3 := by
  obtain ⟨t0, t1, t2, t3, t4⟩ := h.lo
  have hl := h.lt
  exact ⟨h.rs.map h.set h.ab hg, (hg.block q (blk_lt h.row) (fun e => by have := Option.some.inj e; omega)).trans h.row, (hg.block _ (blk_lt h.res) (fun e => by have := Option.some.inj e; omega)).trans h.res, h.gr.trans (.of hg (fun j e => .inr (.inl (Option.some.inj e).symm))), hS, h.tab.grown hg t1, h.lt, h.lo, h.ab⟩
theorem ET.end {n' : Nat} (h : ET w r a c zs b n g last q A p bad rp w2) (hn : n ≤ n') (v0 v1 v2 : Value) : IE w r a c zs b n' g last p bad (put3 w2 w.heap.size v0 v1 v2) ∧ (put3 w2 w.heap.size v0 v1 v2).heap[w.heap.size]? = some (.cells #[v0, v1, v2] 90 (0, 0)) ∧ w2.grownBy (put3 w2 w.heap.size v0 v1 v2) (some w.heap.size) := by
  obtain ⟨t0, t1, t2, t3, t4⟩ := h.lo
  obtain ⟨s, k⟩ := put3_is h.res v0 v1 v2
  exact ⟨⟨⟨_, h.rs.far t2 h.res (by decide) k⟩, ⟨k.os.trans h.gr.os, k.tape.trans h.gr.tape, k.output.trans h.gr.output, Nat.le_trans h.gr.size k.size, fun j hj h1 h2 => (k.block j (Nat.lt_of_lt_of_le hj h.gr.size) (fun e => by have := Option.some.inj e; omega)).trans (h.gr.block j hj h1 h2)⟩, (h.set.blk (k.block b h.set.lt (fun e => by have := Option.some.inj e; omega))).more hn, h.tab.grown k (by omega)⟩, s, k⟩
theorem ET.start (hR : RS w2 r a c zs p bad rp (.map (some b)) last) (hg : (w.alloc (.cells eqZ 90)).grownBy w2 (some r)) (hS : SetIs w b n g) (hT : Tab w) (hlo : 3 ≤ r ∧ 3 ≤ b ∧ r < w.heap.size ∧ b < w.heap.size ∧ b ≠ r) (ha : ∀ x, a = some x → x.block ≠ b) (A : Array Value) : ET w r a c zs b n g last w2.heap.size A p bad rp (w2.alloc (.cells A 90)) := by
  have hs : (w.alloc (.cells eqZ 90)).heap.size = w.heap.size + 1 := by simp
  have hz := hg.size
  have hb := below_alloc w2 (.cells A 90)
  have g4 := grown_trans (World.grownBy_alloc w (.cells eqZ 90) (some r)) hg
  obtain ⟨t0, t1, t2, t3, t4⟩ := hlo
  have h0 := heap_alloc_new w (.cells eqZ 90)
  have h2 : w2.heap[w.heap.size]? = some (.cells eqZ 90 (0, 0)) := (hg.block _ (blk_lt h0) (fun e => by have := Option.some.inj e; omega)).trans h0
  exact ⟨hR.below hb, heap_alloc_new w2 _, (hb.block _ (blk_lt h2)).trans h2, (G2.of g4 (fun j e => .inl (Option.some.inj e).symm)).trans (.of (grown_of_below hb) (fun j e => by cases e)), hS.blk ((hb.block b (by omega)).trans (g4.block b t3 (fun e => t4 (Option.some.inj e)))), (hT.grown g4 t0).below hb (hT.grown g4 t0).size, by omega, ⟨t0, t1, t2, t3, t4⟩, ha⟩
def EqvOut (w : World) (r : Nat) (a : Option Addr) (c : Nat) (zs : List Int) (b n : Nat) (g : List (List UInt8)) (last : List UInt8) (p : Nat) (bad : Option (Int × Int)) (e : Ending) (w' : World) : Prop :=
  ∃ v, e = .returned (.agg #[.string (str (eqR zs p bad).1.1), v, .int .u32 (eqR zs p bad).1.2.const]) ∧ w'.ownsRow w.heap.size 107 2 v (eqR zs p bad).1.2.terms.length (rowT (eqR zs p bad).1.2.terms) ∧ IE w r a c zs b (n + 1) (eqG (eqR zs p bad).1 g) last (eqR zs p bad).2.1 (eqB (eqR zs p bad).1 g p (eqR zs p bad).2.2) w'
set_option maxHeartbeats 16000000 in
theorem equ_is (h : RS w r a c zs p bad rp (.map (some b)) last) (hS : SetIs w b n g) (hn : n ≤ 3000000) (hT : Tab w) (hlo : 3 ≤ r ∧ 3 ≤ b ∧ r < w.heap.size ∧ b < w.heap.size ∧ b ≠ r) (ha : ∀ x, a = some x → x.block ≠ b) :
    Calls Tryz.prog 79 #[.pointer (some ⟨r, 0, none⟩)] w fun e w' => EqvOut w r a c zs b n g last p bad e w' := by
  have hz := h.lies.1
  have hA := Hid.intro (h.below (below_alloc w (.cells eqZ 90)))
  have n1 : Hid (Calls Tryz.prog 115 #[.pointer (some ⟨r, 0, none⟩)] (w.alloc (.cells eqZ 90)) fun e w' => e = .returned (.string (str (txL zs p))) ∧ (w.alloc (.cells eqZ 90)).grownBy w' (some r) ∧ ∃ rp', RS w' r a c zs (txP zs p) (txB zs p bad) rp' (.map (some b)) last) := by
    rw [str_txL]
    exact text_is hA.out
  have n2 : Hid (∀ w1 rp1, RS w1 r a c zs (txP zs p) (txB zs p bad) rp1 (.map (some b)) last → _) := fun w1 rp1 h => lin_is h
  have hL := liL_le hz (txP zs p) (txB zs p bad)
  have hsz : (txL zs p).length ≤ 65535 := by
    have := txL_le hz p
    rw [ByteArray.size, ← Array.length_toList] at this
    exact this
  have c1 := (five_read hA.out.blk).2.1
  unfold EqvOut eqR
  dsimp only
  generalize liL zs (txP zs p) (txB zs p bad) = L at *
  generalize liN zs (txP zs p) (txB zs p bad) = Ln at *
  generalize liB zs (txP zs p) (txB zs p bad) = b2 at *
  generalize liP zs (txP zs p) (txB zs p bad) = p2 at *
  generalize txB zs p bad = b1 at *
  generalize txP zs p = p1 at *
  generalize txL zs p = sN at *
  have h27 : Hid (∀ (w2 : World) (va6 : Option Addr) (vc6 : Nat), Tab w2 → TmLies w2 va6 L → Calls Tryz.prog 27 #[.agg #[.slice none 0 0, .slice none 0 0, .slice (some ⟨w2.heap.size + 1, 0, none⟩) 1 1, .slice none 0 0]] ((w2.alloc (.cells #[.string (str sN), .slice va6 L.length vc6, .int .u32 Ln] 90)).alloc (.cells #[.string (str sN), .slice va6 L.length vc6, .int .u32 Ln] 90)) fun e w' => e = .returned (.int .i64 (if okE (sN, ⟨L, Ln⟩) then 0 else 31)) ∧ Below ((w2.alloc (.cells #[.string (str sN), .slice va6 L.length vc6, .int .u32 Ln] 90)).alloc (.cells #[.string (str sN), .slice va6 L.length vc6, .int .u32 Ln] 90)).heap.size ((w2.alloc (.cells #[.string (str sN), .slice va6 L.length vc6, .int .u32 Ln] 90)).alloc (.cells #[.string (str sN), .slice va6 L.length vc6, .int .u32 Ln] 90)) w') := fun w2 va6 vc6 hT2 hl2 => by
    have h1 := below_alloc w2 (.cells #[.string (str sN), .slice va6 L.length vc6, .int .u32 Ln] 90)
    have h2 := below_alloc (w2.alloc (.cells #[.string (str sN), .slice va6 L.length vc6, .int .u32 Ln] 90)) (.cells #[.string (str sN), .slice va6 L.length vc6, .int .u32 Ln] 90)
    have hrow := heap_alloc_new (w2.alloc (.cells #[.string (str sN), .slice va6 L.length vc6, .int .u32 Ln] 90)) (.cells #[.string (str sN), .slice va6 L.length vc6, .int .u32 Ln] 90)
    obtain ⟨r0, r1, r2⟩ := three_read hrow
    have hs2 : (w2.alloc (.cells #[.string (str sN), .slice va6 L.length vc6, .int .u32 Ln] 90)).heap.size = w2.heap.size + 1 := by simp
    rw [← hs2]
    refine unitRight_is none 0 none 0 _ 1 none 0 (oneE (sN, ⟨L, Ln⟩)) ⟨⟨by simp [oneE], by simp [oneE]⟩, ⟨by simp [oneE], by simp [oneE]⟩, ⟨by simp [oneE], fun q hq => ?_⟩, by simp [oneE]⟩ _ ((hT2.below h1 hT2.size).below h2 (hT2.below h1 hT2.size).size) ⟨.inl rfl, .inl rfl, .inr ⟨_, 0, rfl, blk_lt hrow, fun i q hq => ?_⟩, .inl rfl⟩ _ (oneE_right _)
    · simp [oneE] at hq
      subst hq
      exact ⟨by simp; omega, by simp; omega, fun t ht => Nat.le_trans (hL.2 t ht) (by decide)⟩
    · cases i with
      | zero =>
        simp [oneE] at hq
        subst hq
        exact ⟨va6, vc6, r0, r1, r2, (hl2.below h1 (Nat.le_refl _)).below h2 (Nat.le_refl _)⟩
      | succ i => simp [oneE] at hq
  have hG : eqG (sN, ⟨L, Ln⟩) g = if okE (sN, ⟨L, Ln⟩) then givN g sN else g := rfl
  have hBB : eqB (sN, ⟨L, Ln⟩) g p b2 = if okE (sN, ⟨L, Ln⟩) = true ∧ sN ∉ g then b2 else firstR b2 ((p : Int), 31) := rfl
  have hgv : Hid (∀ w3, w3.cell? ⟨r, 3, none⟩ = some (.map (some b)) → SetIs w3 b n g → r < w3.heap.size → Calls Tryz.prog 117 #[.pointer (some ⟨r, 0, none⟩), .string (str sN)] w3 fun e w' => e = .returned (.bool (decide (sN ∉ g))) ∧ SetIs w' b (n + 1) (givN g sN) ∧ w3.grownBy w' (some b)) := fun w3 h1 h2 h3 => give_is r b n g sN (by omega) hn w3 h1 h2 h3
  rw [hG, hBB]
  clear hG hBB
  generalize okE (sN, ⟨L, Ln⟩) = ok at *
  have hSH := Hid.intro hS
  have hTH := Hid.intro hT
  have haH := Hid.intro ha
  have hloH := Hid.intro hlo
  have hl1 := hlo.2.2.1
  clear h hS hT ha hA hlo hz
  cases ok with
  | true =>
    by_cases hg : sN ∈ g
    · simp only [if_true, hg, not_true_eq_false, and_false, if_false, decide_false] at *
      go_enter Tryz.func79, Tryz.ntmps79
      go_wp2_with (first | (go_at_call 115; (with_reducible refine (n1.out).mono ?_); rintro e w1 ⟨rfl, g1, rp1, hR1⟩; have hz1 := g1.size; replace g1 := Hid.intro g1; replace hR1 := Hid.intro hR1; clear n1) | (go_at_call 116; (with_reducible refine (n2.out _ _ hR1.out).mono ?_); rintro e w2 ⟨v2, rfl, g2, ho2, rp2, hR2⟩; obtain ⟨a2, c2, rfl⟩ := own_slice ho2; have hz2 := g2.size; have hI2 := Hid.intro (ET.start hR2 (grown_trans g1.out g2) hSH.out hTH.out hloH.out haH.out #[.string (str sN), .slice a2 L.length c2, .int .u32 Ln]); have hT2 := Hid.intro ((hTH.out.alloc (.cells eqZ 90)).grown (grown_trans g1.out g2) hloH.out.1); have hl2 := Hid.intro (own_tmLies ho2); replace ho2 := Hid.intro (own_weaken ho2 (show w.heap.size + 1 ≤ _ by simp at *; omega)); obtain ⟨x0, x1, x2⟩ := three_read hI2.out.row; clear n2 g2 hR2) | (go_at_call 27; (with_reducible refine (h27.out w2 a2 c2 hT2.out hl2.out).mono ?_); rintro e w3 ⟨rfl, hb3⟩; have hB3 := Hid.intro (below_alloc (w2.alloc (.cells #[.string (str sN), .slice a2 L.length c2, .int .u32 Ln] 90)) (.cells #[.string (str sN), .slice a2 L.length c2, .int .u32 Ln] 90)); have hI3 := Hid.intro ((hI2.out.below hB3.out).below hb3); have ho3 := Hid.intro (own_keptB (own_keptB (own_keptB ho2.out (below_alloc w2 (.cells #[.string (str sN), .slice a2 L.length c2, .int .u32 Ln] 90))) hB3.out) hb3); obtain ⟨u0, u1, u2⟩ := three_read hI3.out.row; obtain ⟨t0, t1, t2⟩ := three_read hI3.out.res; have tf := fun j => frozen_of_row w3 w.heap.size j _ 90 hI3.out.res; have cm := (five_read hI3.out.rs.blk).2.2.2.1; clear hb3 x0 x1 x2) | (go_at_call 117; (with_reducible refine (hgv.out _ cm hI3.out.set (blk_lt hI3.out.rs.blk)).mono ?_); rintro e w5 ⟨rfl, hS5, g5⟩; clear u0 u1 u2 t0 t1 t2 tf cm; have hI5 := Hid.intro (hI3.out.give g5 hS5); have ho5 := Hid.intro (own_low ho3.out g5 (by have := hloH.out.2.2.2.1; omega)); obtain ⟨u0, u1, u2⟩ := three_read hI5.out.row; obtain ⟨t0, t1, t2⟩ := three_read hI5.out.res; have tf := fun j => frozen_of_row w5 w.heap.size j _ 90 hI5.out.res; clear g5 hS5) | (go_at_call 82; (with_reducible refine (refuse_is hI5.out.rs _ _).mono ?_); rintro e w4 ⟨rfl, g4, rp4, hR4⟩; clear u0 u1 u2 t0 t1 t2 tf; have hI4 := Hid.intro (hI5.out.num g4 hR4); have ho4 := Hid.intro (own_low ho5.out g4 (by omega)); obtain ⟨u0, u1, u2⟩ := three_read hI4.out.row; obtain ⟨t0, t1, t2⟩ := three_read hI4.out.res; have tf := fun j => frozen_of_row w4 w.heap.size j _ 90 hI4.out.res; clear g4 hR4))
      all_goals first | omega | skip
      obtain ⟨e1, e2, e3⟩ := hI4.out.end (show _ ≤ n + 1 by omega) (.string (str sN)) (.slice a2 L.length c2) (.int .u32 Ln)
      obtain ⟨q0, q1, q2⟩ := three_read e2
      refine bodyPost_ret (by simp [results, Tryz.results79, go_sem, q0, q1, q2]; try rfl) rfl ?_
      exact ⟨.slice a2 L.length c2, rfl, own_weaken (own_low ho4.out e3 (by omega)) (by omega), e1⟩
    · simp only [if_true, hg, not_false_eq_true, and_true, if_true, decide_true] at *
      go_enter Tryz.func79, Tryz.ntmps79
      go_wp2_with (first | (go_at_call 115; (with_reducible refine (n1.out).mono ?_); rintro e w1 ⟨rfl, g1, rp1, hR1⟩; have hz1 := g1.size; replace g1 := Hid.intro g1; replace hR1 := Hid.intro hR1; clear n1) | (go_at_call 116; (with_reducible refine (n2.out _ _ hR1.out).mono ?_); rintro e w2 ⟨v2, rfl, g2, ho2, rp2, hR2⟩; obtain ⟨a2, c2, rfl⟩ := own_slice ho2; have hz2 := g2.size; have hI2 := Hid.intro (ET.start hR2 (grown_trans g1.out g2) hSH.out hTH.out hloH.out haH.out #[.string (str sN), .slice a2 L.length c2, .int .u32 Ln]); have hT2 := Hid.intro ((hTH.out.alloc (.cells eqZ 90)).grown (grown_trans g1.out g2) hloH.out.1); have hl2 := Hid.intro (own_tmLies ho2); replace ho2 := Hid.intro (own_weaken ho2 (show w.heap.size + 1 ≤ _ by simp at *; omega)); obtain ⟨x0, x1, x2⟩ := three_read hI2.out.row; clear n2 g2 hR2) | (go_at_call 27; (with_reducible refine (h27.out w2 a2 c2 hT2.out hl2.out).mono ?_); rintro e w3 ⟨rfl, hb3⟩; have hB3 := Hid.intro (below_alloc (w2.alloc (.cells #[.string (str sN), .slice a2 L.length c2, .int .u32 Ln] 90)) (.cells #[.string (str sN), .slice a2 L.length c2, .int .u32 Ln] 90)); have hI3 := Hid.intro ((hI2.out.below hB3.out).below hb3); have ho3 := Hid.intro (own_keptB (own_keptB (own_keptB ho2.out (below_alloc w2 (.cells #[.string (str sN), .slice a2 L.length c2, .int .u32 Ln] 90))) hB3.out) hb3); obtain ⟨u0, u1, u2⟩ := three_read hI3.out.row; obtain ⟨t0, t1, t2⟩ := three_read hI3.out.res; have tf := fun j => frozen_of_row w3 w.heap.size j _ 90 hI3.out.res; have cm := (five_read hI3.out.rs.blk).2.2.2.1; clear hb3 x0 x1 x2) | (go_at_call 117; (with_reducible refine (hgv.out _ cm hI3.out.set (blk_lt hI3.out.rs.blk)).mono ?_); rintro e w5 ⟨rfl, hS5, g5⟩; clear u0 u1 u2 t0 t1 t2 tf cm; have hI5 := Hid.intro (hI3.out.give g5 hS5); have ho5 := Hid.intro (own_low ho3.out g5 (by have := hloH.out.2.2.2.1; omega)); obtain ⟨u0, u1, u2⟩ := three_read hI5.out.row; obtain ⟨t0, t1, t2⟩ := three_read hI5.out.res; have tf := fun j => frozen_of_row w5 w.heap.size j _ 90 hI5.out.res; clear g5 hS5))
      all_goals first | omega | skip
      obtain ⟨e1, e2, e3⟩ := hI5.out.end (show _ ≤ n + 1 by omega) (.string (str sN)) (.slice a2 L.length c2) (.int .u32 Ln)
      obtain ⟨q0, q1, q2⟩ := three_read e2
      refine bodyPost_ret (by simp [results, Tryz.results79, go_sem, q0, q1, q2]; try rfl) rfl ?_
      exact ⟨.slice a2 L.length c2, rfl, own_weaken (own_low ho5.out e3 (by omega)) (by omega), e1⟩
  | false =>
    simp only [Bool.false_eq_true, if_false, false_and] at *
    go_enter Tryz.func79, Tryz.ntmps79
    go_wp2_with (first | (go_at_call 115; (with_reducible refine (n1.out).mono ?_); rintro e w1 ⟨rfl, g1, rp1, hR1⟩; have hz1 := g1.size; replace g1 := Hid.intro g1; replace hR1 := Hid.intro hR1; clear n1) | (go_at_call 116; (with_reducible refine (n2.out _ _ hR1.out).mono ?_); rintro e w2 ⟨v2, rfl, g2, ho2, rp2, hR2⟩; obtain ⟨a2, c2, rfl⟩ := own_slice ho2; have hz2 := g2.size; have hI2 := Hid.intro (ET.start hR2 (grown_trans g1.out g2) hSH.out hTH.out hloH.out haH.out #[.string (str sN), .slice a2 L.length c2, .int .u32 Ln]); have hT2 := Hid.intro ((hTH.out.alloc (.cells eqZ 90)).grown (grown_trans g1.out g2) hloH.out.1); have hl2 := Hid.intro (own_tmLies ho2); replace ho2 := Hid.intro (own_weaken ho2 (show w.heap.size + 1 ≤ _ by simp at *; omega)); obtain ⟨x0, x1, x2⟩ := three_read hI2.out.row; clear n2 g2 hR2) | (go_at_call 27; (with_reducible refine (h27.out w2 a2 c2 hT2.out hl2.out).mono ?_); rintro e w3 ⟨rfl, hb3⟩; have hB3 := Hid.intro (below_alloc (w2.alloc (.cells #[.string (str sN), .slice a2 L.length c2, .int .u32 Ln] 90)) (.cells #[.string (str sN), .slice a2 L.length c2, .int .u32 Ln] 90)); have hI3 := Hid.intro ((hI2.out.below hB3.out).below hb3); have ho3 := Hid.intro (own_keptB (own_keptB (own_keptB ho2.out (below_alloc w2 (.cells #[.string (str sN), .slice a2 L.length c2, .int .u32 Ln] 90))) hB3.out) hb3); obtain ⟨u0, u1, u2⟩ := three_read hI3.out.row; obtain ⟨t0, t1, t2⟩ := three_read hI3.out.res; have tf := fun j => frozen_of_row w3 w.heap.size j _ 90 hI3.out.res; have cm := (five_read hI3.out.rs.blk).2.2.2.1; clear hb3 x0 x1 x2) | (go_at_call 82; (with_reducible refine (refuse_is hI3.out.rs _ _).mono ?_); rintro e w4 ⟨rfl, g4, rp4, hR4⟩; clear u0 u1 u2 t0 t1 t2 tf; have hI4 := Hid.intro (hI3.out.num g4 hR4); have ho4 := Hid.intro (own_low ho3.out g4 (by omega)); obtain ⟨u0, u1, u2⟩ := three_read hI4.out.row; obtain ⟨t0, t1, t2⟩ := three_read hI4.out.res; have tf := fun j => frozen_of_row w4 w.heap.size j _ 90 hI4.out.res; clear g4 hR4))
    all_goals first | omega | skip
    obtain ⟨e1, e2, e3⟩ := hI4.out.end (show _ ≤ n + 1 by omega) (.string (str sN)) (.slice a2 L.length c2) (.int .u32 Ln)
    obtain ⟨q0, q1, q2⟩ := three_read e2
    refine bodyPost_ret (by simp [results, Tryz.results79, go_sem, q0, q1, q2]; try rfl) rfl ?_
    exact ⟨.slice a2 L.length c2, rfl, own_weaken (own_low ho4.out e3 (by omega)) (by omega), e1⟩
end
end Go.Proofs.YtmndccbeddaphaaGreatDoor
namespace Go.Proofs.YtmndccbeddaphaaGreatDoor
open Go.ChangeShapes Go.WideShapes Go.ChangeAt Go.RowKit Go.Sort
set_option linter.unusedVariables false
set_option linter.unusedSimpArgs false
set_option maxRecDepth 100000
def rdEqLoop (zs : List Int) : Nat → List Eqv → INm → Nat → Rfu → List Eqv × INm × Nat × Rfu
  | 0, acc, g, p, b => (acc, g, p, b)
  | k + 1, acc, g, p, b => if b.isSome then ([], g, p, b) else rdEqLoop zs k (acc ++ [(eqR zs p b).1]) (eqG (eqR zs p b).1 g) (eqR zs p b).2.1 (eqB (eqR zs p b).1 g p (eqR zs p b).2.2)
def rdEqus (zs : List Int) (most : Int) (g : INm) (p : Nat) (b : Rfu) : List Eqv × INm × Nat × Rfu :=
  rdEqLoop zs (rdV zs p 2).toNat [] g (rdP zs p 2) (manyB (rdV zs p 2) most p (rdB zs p 2 b))
abbrev eqCells (q : Eqv) (v : Value) : Array Value := #[.string (str q.1), v, .int .u32 q.2.const]
def rowE (p : List (Eqv × Value)) : List Value := p.flatMap fun q => (eqCells q.1 q.2).toList
theorem rowE_push (p : List (Eqv × Value)) (q : Eqv × Value) : rowE (p ++ [q]) = rowE p ++ (eqCells q.1 q.2).toList := by simp [rowE]
structure EqOw (lo : Nat) (w : World) (v : Value) (p : List (Eqv × Value)) : Prop where
  row : w.ownsRow lo 90 3 v p.length (rowE p)
  each : ∀ q ∈ p, w.ownsRow lo 107 2 q.2 q.1.2.terms.length (rowT q.1.2.terms)
theorem info90 : (Tryz.prog.info? 90).map (fun i => (i.zero, i.size, i.bytes)) = some (some (.agg #[.string ⟨#[]⟩, .slice none 0 0, .int .u32 0]), 3, 48) := by kernel_rfl
section
variable {w w' w1 : World} {r : Nat} {a : Option Addr} {c : Nat} {zs : List Int} {p : Nat} {bad : Option (Int × Int)} {rp : Option Nat} {mv : Value} {last : List UInt8} {b n : Nat} {g : List (List UInt8)} {q : Nat} {A : Array Value} {w2 : World}
structure EL (w : World) (r : Nat) (a : Option Addr) (c : Nat) (zs : List Int) (b : Nat) (last : List UInt8) (R : List Eqv × INm × Nat × Rfu) (k : Nat) (L : List (Eqv × Value)) (g : INm) (n : Nat) (p : Nat) (bad : Rfu) (v : Value) (wr : World) : Prop where
  rs : ∃ rp, RS wr r a c zs p bad rp (.map (some b)) last
  own : EqOw w.heap.size wr v L
  gr : G2 w wr r b
  set : SetIs wr b n g
  tab : Tab wr
  res : rdEqLoop zs k (L.map (·.1)) g p bad = R
  lo : 3 ≤ r ∧ 3 ≤ b ∧ r < w.heap.size ∧ b < w.heap.size ∧ b ≠ r
  ab : ∀ x, a = some x → x.block ≠ b
theorem EL.los {R : List Eqv × INm × Nat × Rfu} {k : Nat} {L : List (Eqv × Value)} {v : Value} {wr : World} (h : EL w r a c zs b last R k L g n p bad v wr) : 3 ≤ r ∧ 3 ≤ b ∧ r < wr.heap.size ∧ b < wr.heap.size ∧ b ≠ r := by
  obtain ⟨t0, t1, t2, t3, t4⟩ := h.lo
  have := h.gr.size
  exact ⟨t0, t1, by omega, by omega, t4⟩
theorem EL.mid {R : List Eqv × INm × Nat × Rfu} {k : Nat} {L : List (Eqv × Value)} {v : Value} {wr : World} (h : EL w r a c zs b last R k L g n p bad v wr) {g' : INm} {n' p' : Nat} {bad' : Rfu} (hE : IE wr r a c zs b n' g' last p' bad' w2) (o : Obj) : EqOw w.heap.size (w2.alloc o) v L := by
  obtain ⟨t0, t1, t2, t3, t4⟩ := h.lo
  exact ⟨own_keptB (own_G2 h.own.row hE.gr t2 t3) (below_alloc w2 o), fun q hq => own_keptB (own_G2 (h.own.each q hq) hE.gr t2 t3) (below_alloc w2 o)⟩
theorem EL.next {R : List Eqv × INm × Nat × Rfu} {k : Nat} {L : List (Eqv × Value)} {v v' vt : Value} {wr w4 : World} {n' : Nat} (h : EL w r a c zs b last R (k + 1) L g n p none v wr)
    (hE : IE wr r a c zs b n' (eqG (eqR zs p none).1 g) last (eqR zs p none).2.1 (eqB (eqR zs p none).1 g p (eqR zs p none).2.2) w2) (hvt : w2.ownsRow wr.heap.size 107 2 vt (eqR zs p none).1.2.terms.length (rowT (eqR zs p none).1.2.terms)) (o : Obj)
    (ho : w4.ownsRow w.heap.size 90 3 v' (L.length + 1) (rowE L ++ (eqCells (eqR zs p none).1 vt).toList)) (hg4 : (w2.alloc o).grownBy w4 v.ownBlock) :
    EL w r a c zs b last R k (L ++ [((eqR zs p none).1, vt)]) (eqG (eqR zs p none).1 g) n' (eqR zs p none).2.1 (eqB (eqR zs p none).1 g p (eqR zs p none).2.2) v' w4 := by
  obtain ⟨t0, t1, t2, t3, t4⟩ := h.lo
  have hm := h.mid hE o
  have hb := below_alloc w2 o
  have hbl : ∀ j, v.ownBlock = some j → w.heap.size ≤ j := fun j e => (hm.row.lt j e).1
  obtain ⟨rp, hrs⟩ := hE.rs
  refine ⟨⟨rp, (hrs.below hb).off hm.row t2 (by decide) hg4⟩, ⟨?_, fun q hq => ?_⟩, ?_, ?_, ?_, ?_, h.lo, h.ab⟩
  · rw [rowE_push, List.length_append]
    exact ho
  · rcases List.mem_append.1 hq with h1 | h1
    · exact own_other (hm.each q h1) hm.row (by decide) hg4
    · rw [List.mem_singleton] at h1
      subst h1
      exact own_other (own_keptB (own_weaken hvt h.gr.size) hb) hm.row (by decide) hg4
  · have g0 := (h.gr.trans hE.gr).trans (G2.of (grown_of_below hb) (fun j e => by cases e))
    exact ⟨hg4.os.trans g0.os, hg4.tape.trans g0.tape, hg4.output.trans g0.output, Nat.le_trans g0.size hg4.size, fun j hj h1 h2 => (hg4.block j (Nat.lt_of_lt_of_le hj g0.size) (fun e => by have := hbl j e.symm; omega)).trans (g0.block j hj h1 h2)⟩
  · exact hE.set.blk ((hg4.block b (Nat.lt_of_lt_of_le hE.set.lt hb.size) (fun e => by have := hbl b e.symm; omega)).trans (hb.block b hE.set.lt))
  · exact (hE.tab.below hb hE.tab.size).grownO hg4 (fun j e => by have := hbl j e; omega)
  · have := h.res
    rw [rdEqLoop] at this
    simpa using this
def EqsOut (w : World) (r : Nat) (a : Option Addr) (c : Nat) (zs : List Int) (b n : Nat) (last : List UInt8) (R : List Eqv × INm × Nat × Rfu) (e : Ending) (w' : World) : Prop :=
  ∃ v L, e = .returned v ∧ EqOw w.heap.size w' v L ∧ L.map (·.1) = R.1 ∧ IE w r a c zs b (n + 65535) R.2.1 last R.2.2.1 R.2.2.2 w'
set_option maxHeartbeats 16000000 in
theorem equs_is (h : RS w r a c zs p bad rp (.map (some b)) last) (hS : SetIs w b n g) (hn : n ≤ 2000000) (hT : Tab w) (hlo : 3 ≤ r ∧ 3 ≤ b ∧ r < w.heap.size ∧ b < w.heap.size ∧ b ≠ r) (ha : ∀ x, a = some x → x.block ≠ b) (most : Int) (hmo : 0 ≤ most ∧ most ≤ 8192) :
    Calls Tryz.prog 78 #[.pointer (some ⟨r, 0, none⟩), .int .i64 most, .func (.func 79) #[.pointer (some ⟨r, 0, none⟩)] #[]] w fun e w' => EqsOut w r a c zs b n last (rdEqus zs most g p bad) e w' := by
  obtain ⟨i1, hi1, hy0, hy1, hy2⟩ := info_parts info90
  have hbd := rdV_bd h.lies.1 p
  obtain ⟨_, c1, _, _, _⟩ := five_read h.blk
  have h113 := Hid.intro (num2_is h)
  have hR : Hid (rdEqLoop zs (rdV zs p 2).toNat [] g (rdP zs p 2) (manyB (rdV zs p 2) most p (rdB zs p 2 bad)) = rdEqus zs most g p bad) := rfl
  generalize rdEqus zs most g p bad = R at *
  obtain ⟨n0, hn0⟩ : ∃ n0 : Nat, rdV zs p 2 = (n0 : Int) := ⟨(rdV zs p 2).toNat, by omega⟩
  rw [hn0] at h113 hR hbd
  have hn1 : n0 ≤ 65535 := by omega
  rw [Int.toNat_natCast] at hR
  generalize rdP zs p 2 = p1 at *
  generalize rdB zs p 2 bad = b1 at *
  have hSH := Hid.intro hS
  have hTH := Hid.intro hT
  have haH := Hid.intro ha
  have hloH := Hid.intro hlo
  have hst : Hid (∀ w1 (rp1 : Option Nat) b2, w.grownBy w1 (some r) → RS w1 r a c zs p1 b2 rp1 (.map (some b)) last → b2 = manyB n0 most p b1 → EL w r a c zs b last R n0 [] g n p1 b2 (.slice none 0 0) w1) := fun w1 rp1 b2 g1 hR1 hb2 =>
    ⟨⟨rp1, hR1⟩, ⟨World.ownsRow_nil _ _ _ _, fun q hq => by cases hq⟩, G2.of g1 (fun j e => .inl (Option.some.inj e).symm), hS.blk (g1.block b hS.lt (fun e => hlo.2.2.2.2 (Option.some.inj e))), hT.grown g1 hlo.1, by rw [hb2]; exact hR.out, hlo, ha⟩
  clear hn0 hbd h hS hT ha hR
  have hloop : Hid (∀ (w1 : World) (b2 : Rfu), EL w r a c zs b last R n0 [] g n p1 b2 (.slice none 0 0) w1 → True) := fun _ _ _ => trivial
  by_cases hmany : (n0 : Int) > most
  · have hmb : Hid (manyB n0 most p b1 = firstR b1 ((p : Int), 4)) := if_pos hmany
    go_enter Tryz.func78, Tryz.ntmps78
    go_wp2_with (first
      | (go_at_call 113; (with_reducible refine (h113.out).mono ?_); rintro e w1 ⟨rfl, g1, rp1, hR1⟩; replace g1 := Hid.intro g1; replace hR1 := Hid.intro hR1)
      | (go_at_call 82; (with_reducible refine (refuse_is hR1.out _ _).mono ?_); rintro e w2 ⟨rfl, g2, rp2, hR2⟩; have hL0 := Hid.intro (hst.out w2 rp2 _ (grown_trans g1.out g2) hR2 hmb.out.symm); clear g2 hR2))
    all_goals first | omega | skip
    clear h113 hst c1 g1 hR1
    go_loopw [9, 24] (fun v9 v24 wr => ∃ (j : Nat) (L : List (Eqv × Value)) (g' : INm) (n' p' : Nat) (b' : Rfu) (a9 : Option Addr) (l9 c9 : Nat), j ≤ n0 ∧ v24 = .int .i64 (j : Int) ∧ v9 = .slice a9 l9 c9 ∧ l9 ≤ j ∧ n' ≤ n + j ∧ Hid (l9 = L.length) ∧ Hid (EL w r a c zs b last R (n0 - j) L g' n' p' b' (.slice a9 L.length c9) wr)) (fun v9 v24 _ => n0 - (intOf v24).toNat)
    case atStart => exact ⟨0, [], _, _, _, _, none, 0, 0, by omega, rfl, rfl, by omega, by omega, rfl, hL0⟩
    case round =>
      obtain ⟨j, L, g', n', p', b', a9, l9, c9, hj, rfl, rfl, hl9, hn', hl, hL⟩ := hrel
      clear hL0
      by_cases hjn : j < n0
      · have hk : Hid (n0 - j = (n0 - (j + 1)) + 1) := by show _ = _; omega
        obtain ⟨rp', hrs'⟩ := hL.out.rs
        have h32 := Hid.intro (refused_is hrs')
        cases b' with
        | some f =>
          replace hrs' := Hid.intro hrs'
          go_wp2_with (go_at_call 32; (with_reducible refine (h32.out).mono ?_); rintro e w2 ⟨rfl, hw2⟩; subst w2)
          all_goals first | omega | skip
          go_ret
          have hres : R = ([], g', p', some f) := by
            rw [← hL.out.res, hk.out, rdEqLoop]
            rfl
          rw [hres]
          exact ⟨_, [], rfl, ⟨World.ownsRow_nil _ _ _ _, fun q hq => by cases hq⟩, rfl, ⟨⟨rp', hrs'.out⟩, hL.out.gr, hL.out.set.more (by omega), hL.out.tab⟩⟩
        | none =>
          have h76 := Hid.intro (equ_is hrs' hL.out.set (by omega) hL.out.tab hL.out.los hL.out.ab)
          have hnx : Hid (∀ w2 vt v' w4, IE wr r a c zs b (n' + 1) (eqG (eqR zs p' none).1 g') last (eqR zs p' none).2.1 (eqB (eqR zs p' none).1 g' p' (eqR zs p' none).2.2) w2 → w2.ownsRow wr.heap.size 107 2 vt (eqR zs p' none).1.2.terms.length (rowT (eqR zs p' none).1.2.terms) → w4.ownsRow w.heap.size 90 3 v' (l9 + 1) (rowE L ++ (eqCells (eqR zs p' none).1 vt).toList) → (w2.alloc (.cells (eqCells (eqR zs p' none).1 vt) 90)).grownBy w4 (Value.slice a9 l9 c9).ownBlock → EL w r a c zs b last R (n0 - (j + 1)) (L ++ [((eqR zs p' none).1, vt)]) (eqG (eqR zs p' none).1 g') (n' + 1) (eqR zs p' none).2.1 (eqB (eqR zs p' none).1 g' p' (eqR zs p' none).2.2) v' w4) := fun w2 vt v' w4 h1 h2 h3 h4 => by
            have hh := hL.out
            rw [hk.out] at hh
            rw [hl.out] at h3 h4
            exact hh.next h1 h2 _ h3 h4
          have hmid : Hid (∀ w2 vt, IE wr r a c zs b (n' + 1) (eqG (eqR zs p' none).1 g') last (eqR zs p' none).2.1 (eqB (eqR zs p' none).1 g' p' (eqR zs p' none).2.2) w2 → (w2.alloc (.cells (eqCells (eqR zs p' none).1 vt) 90)).ownsRow w.heap.size 90 3 (.slice a9 l9 c9) l9 (rowE L) ∧ w.heap.size ≤ (w2.alloc (.cells (eqCells (eqR zs p' none).1 vt) 90)).heap.size) := fun w2 vt h1 => by
            have := (hL.out.mid h1 (.cells (eqCells (eqR zs p' none).1 vt) 90)).row
            rw [← hl.out] at this
            exact ⟨this, by have := hL.out.gr.size; have := h1.gr.size; simp; omega⟩
          have hll : Hid (∀ vt, l9 + 1 = (L ++ [((eqR zs p' none).1, vt)]).length) := fun vt => by rw [List.length_append, hl.out]; rfl
          unfold EqvOut at h76
          generalize eqB (eqR zs p' none).1 g' p' (eqR zs p' none).2.2 = B3 at *
          generalize eqG (eqR zs p' none).1 g' = G3 at *
          generalize (eqR zs p' none).2.1 = P3 at *
          generalize (eqR zs p' none).1 = X at *
          clear hL hl hk hrs'
          go_wp2_with (first
            | (go_at_call 32; (with_reducible refine (h32.out).mono ?_); rintro e w2 ⟨rfl, hw2⟩; subst w2)
            | (go_at_call 79; (with_reducible refine (h76.out).mono ?_); rintro e w3 ⟨v3, rfl, ho3, hE3⟩; obtain ⟨a3, c3, rfl⟩ := own_slice ho3; obtain ⟨hm1, hm2⟩ := hmid.out w3 (.slice a3 X.2.terms.length c3) hE3; replace ho3 := Hid.intro ho3; replace hE3 := Hid.intro hE3; replace hm1 := Hid.intro hm1)
            | (at_builtin; go_must (refine wpList_app rfl (.tmp 28) (.tmp 31) 27 rfl w.heap.size 90 i1 _ 3 48 Tryz.underlying27 hi1 hy0 hy1 hy2 rfl (by decide) (.slice a9 l9 c9) l9 (rowE L) rfl hm1.out (.slice (some ⟨w3.heap.size, 0, none⟩) 1 1) 1 (eqCells X (.slice a3 X.2.terms.length c3)).toList rfl (.inr ⟨_, _, rfl, cells_new w3 (eqCells X (.slice a3 X.2.terms.length c3)) 90⟩) rfl (by simp [Value.oneCell']) (by unfold maxLen; omega) (by omega) hm2 ?_; intro v' w4 ho4 hg4 hw4; have hn4 := Hid.intro (hnx.out w3 _ v' w4 hE3.out ho3.out ho4 hg4); obtain ⟨a4, c4, rfl⟩ := own_slice ho4; clear ho4 hg4 hw4)))
          all_goals first | omega | skip
          go_roundw
          case rel => exact ⟨j + 1, _, _, n' + 1, _, _, a4, l9 + 1, c4, by omega, by go_num, rfl, by omega, by omega, hll.out _, by rw [← hll.out]; exact hn4⟩
          case measure => simp [intOf]; omega
      · obtain rfl : j = n0 := by omega
        go_wp2_with fail
        all_goals first | omega | skip
        go_ret
        have hres : R = (L.map (·.1), g', p', b') := by
          rw [← hL.out.res, Nat.sub_self, rdEqLoop]
        rw [hres, hl.out]
        exact ⟨_, L, rfl, hL.out.own, rfl, ⟨hL.out.rs, hL.out.gr, hL.out.set.more (by omega), hL.out.tab⟩⟩
  · have hmb : Hid (manyB n0 most p b1 = b1) := if_neg hmany
    go_enter Tryz.func78, Tryz.ntmps78
    go_wp2_with (go_at_call 113; (with_reducible refine (h113.out).mono ?_); rintro e w1 ⟨rfl, g1, rp1, hR1⟩; have hL0 := Hid.intro (hst.out w1 rp1 _ g1 hR1 hmb.out.symm); clear g1 hR1)
    all_goals first | omega | skip
    clear h113 hst c1
    go_loopw [9, 24] (fun v9 v24 wr => ∃ (j : Nat) (L : List (Eqv × Value)) (g' : INm) (n' p' : Nat) (b' : Rfu) (a9 : Option Addr) (l9 c9 : Nat), j ≤ n0 ∧ v24 = .int .i64 (j : Int) ∧ v9 = .slice a9 l9 c9 ∧ l9 ≤ j ∧ n' ≤ n + j ∧ Hid (l9 = L.length) ∧ Hid (EL w r a c zs b last R (n0 - j) L g' n' p' b' (.slice a9 L.length c9) wr)) (fun v9 v24 _ => n0 - (intOf v24).toNat)
    case atStart => exact ⟨0, [], _, _, _, _, none, 0, 0, by omega, rfl, rfl, by omega, by omega, rfl, hL0⟩
    case round =>
      obtain ⟨j, L, g', n', p', b', a9, l9, c9, hj, rfl, rfl, hl9, hn', hl, hL⟩ := hrel
      clear hL0
      by_cases hjn : j < n0
      · have hk : Hid (n0 - j = (n0 - (j + 1)) + 1) := by show _ = _; omega
        obtain ⟨rp', hrs'⟩ := hL.out.rs
        have h32 := Hid.intro (refused_is hrs')
        cases b' with
        | some f =>
          replace hrs' := Hid.intro hrs'
          go_wp2_with (go_at_call 32; (with_reducible refine (h32.out).mono ?_); rintro e w2 ⟨rfl, hw2⟩; subst w2)
          all_goals first | omega | skip
          go_ret
          have hres : R = ([], g', p', some f) := by
            rw [← hL.out.res, hk.out, rdEqLoop]
            rfl
          rw [hres]
          exact ⟨_, [], rfl, ⟨World.ownsRow_nil _ _ _ _, fun q hq => by cases hq⟩, rfl, ⟨⟨rp', hrs'.out⟩, hL.out.gr, hL.out.set.more (by omega), hL.out.tab⟩⟩
        | none =>
          have h76 := Hid.intro (equ_is hrs' hL.out.set (by omega) hL.out.tab hL.out.los hL.out.ab)
          have hnx : Hid (∀ w2 vt v' w4, IE wr r a c zs b (n' + 1) (eqG (eqR zs p' none).1 g') last (eqR zs p' none).2.1 (eqB (eqR zs p' none).1 g' p' (eqR zs p' none).2.2) w2 → w2.ownsRow wr.heap.size 107 2 vt (eqR zs p' none).1.2.terms.length (rowT (eqR zs p' none).1.2.terms) → w4.ownsRow w.heap.size 90 3 v' (l9 + 1) (rowE L ++ (eqCells (eqR zs p' none).1 vt).toList) → (w2.alloc (.cells (eqCells (eqR zs p' none).1 vt) 90)).grownBy w4 (Value.slice a9 l9 c9).ownBlock → EL w r a c zs b last R (n0 - (j + 1)) (L ++ [((eqR zs p' none).1, vt)]) (eqG (eqR zs p' none).1 g') (n' + 1) (eqR zs p' none).2.1 (eqB (eqR zs p' none).1 g' p' (eqR zs p' none).2.2) v' w4) := fun w2 vt v' w4 h1 h2 h3 h4 => by
            have hh := hL.out
            rw [hk.out] at hh
            rw [hl.out] at h3 h4
            exact hh.next h1 h2 _ h3 h4
          have hmid : Hid (∀ w2 vt, IE wr r a c zs b (n' + 1) (eqG (eqR zs p' none).1 g') last (eqR zs p' none).2.1 (eqB (eqR zs p' none).1 g' p' (eqR zs p' none).2.2) w2 → (w2.alloc (.cells (eqCells (eqR zs p' none).1 vt) 90)).ownsRow w.heap.size 90 3 (.slice a9 l9 c9) l9 (rowE L) ∧ w.heap.size ≤ (w2.alloc (.cells (eqCells (eqR zs p' none).1 vt) 90)).heap.size) := fun w2 vt h1 => by
            have := (hL.out.mid h1 (.cells (eqCells (eqR zs p' none).1 vt) 90)).row
            rw [← hl.out] at this
            exact ⟨this, by have := hL.out.gr.size; have := h1.gr.size; simp; omega⟩
          have hll : Hid (∀ vt, l9 + 1 = (L ++ [((eqR zs p' none).1, vt)]).length) := fun vt => by rw [List.length_append, hl.out]; rfl
          unfold EqvOut at h76
          generalize eqB (eqR zs p' none).1 g' p' (eqR zs p' none).2.2 = B3 at *
          generalize eqG (eqR zs p' none).1 g' = G3 at *
          generalize (eqR zs p' none).2.1 = P3 at *
          generalize (eqR zs p' none).1 = X at *
          clear hL hl hk hrs'
          go_wp2_with (first
            | (go_at_call 32; (with_reducible refine (h32.out).mono ?_); rintro e w2 ⟨rfl, hw2⟩; subst w2)
            | (go_at_call 79; (with_reducible refine (h76.out).mono ?_); rintro e w3 ⟨v3, rfl, ho3, hE3⟩; obtain ⟨a3, c3, rfl⟩ := own_slice ho3; obtain ⟨hm1, hm2⟩ := hmid.out w3 (.slice a3 X.2.terms.length c3) hE3; replace ho3 := Hid.intro ho3; replace hE3 := Hid.intro hE3; replace hm1 := Hid.intro hm1)
            | (at_builtin; go_must (refine wpList_app rfl (.tmp 28) (.tmp 31) 27 rfl w.heap.size 90 i1 _ 3 48 Tryz.underlying27 hi1 hy0 hy1 hy2 rfl (by decide) (.slice a9 l9 c9) l9 (rowE L) rfl hm1.out (.slice (some ⟨w3.heap.size, 0, none⟩) 1 1) 1 (eqCells X (.slice a3 X.2.terms.length c3)).toList rfl (.inr ⟨_, _, rfl, cells_new w3 (eqCells X (.slice a3 X.2.terms.length c3)) 90⟩) rfl (by simp [Value.oneCell']) (by unfold maxLen; omega) (by omega) hm2 ?_; intro v' w4 ho4 hg4 hw4; have hn4 := Hid.intro (hnx.out w3 _ v' w4 hE3.out ho3.out ho4 hg4); obtain ⟨a4, c4, rfl⟩ := own_slice ho4; clear ho4 hg4 hw4)))
          all_goals first | omega | skip
          go_roundw
          case rel => exact ⟨j + 1, _, _, n' + 1, _, _, a4, l9 + 1, c4, by omega, by go_num, rfl, by omega, by omega, hll.out _, by rw [← hll.out]; exact hn4⟩
          case measure => simp [intOf]; omega
      · obtain rfl : j = n0 := by omega
        go_wp2_with fail
        all_goals first | omega | skip
        go_ret
        have hres : R = (L.map (·.1), g', p', b') := by
          rw [← hL.out.res, Nat.sub_self, rdEqLoop]
        rw [hres, hl.out]
        exact ⟨_, L, rfl, hL.out.own, rfl, ⟨hL.out.rs, hL.out.gr, hL.out.set.more (by omega), hL.out.tab⟩⟩
end
end Go.Proofs.YtmndccbeddaphaaGreatDoor
