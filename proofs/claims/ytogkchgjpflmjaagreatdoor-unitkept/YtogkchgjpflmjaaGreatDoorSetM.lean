/- A set of names in memory: map[string]struct{}. -/
import Derived.Test.YtogkchgjpflmjaaGreatDoorT1
import Derived.Test.YtogkchgjpflmjaaGreatDoorIt9
import Derived.Test.YtogkchgjpflmjaaGreatDoorKnown
import Derived.Lib.IndexLaws
import Derived.Test.YtogkchgjpflmjaaGreatDoorArgsO
import Derived.Test.YtogkchgjpflmjaaGreatDoorShelf
import Derived.Maps.OwnSet
import Derived.Maps.OwnOps
/- item's Right. -/
namespace Go.Proofs.YtogkchgjpflmjaaGreatDoor
open Go.ChangeShapes Go.WideShapes Go.ChangeAt Go.RowKit
set_option linter.unusedVariables false
set_option maxRecDepth 100000
def rightN (sec : Int) (ok : Bool) : Int := if sec ≠ 0 ∧ sec ≠ 1 then 1 else if ok then 0 else 31
def okB (k : Int) (s : ByteArray) (op a b m f : Int) (ts : List Tm) (c n sec : Int) : Bool := standsB k sec && (nameB k s && (instB k op a b m f && (exprB (hasEB k op) ts c && numOfB k n)))
structure RI (w : World) (A : Array Value) (wr : World) : Prop where
  bel : Below w.heap.size w wr
  row : wr.heap[w.heap.size]? = some (.cells A 91 (0, 0))
  tab : Tab wr
theorem RI.below {w : World} {A : Array Value} {wr w' : World} (h : RI w A wr) (hb : Below wr.heap.size wr w') : RI w A w' :=
  ⟨h.bel.trans (hb.mono h.bel.size), by rw [hb.block _ (blk_lt h.row)]; exact h.row, h.tab.below hb h.tab.size⟩
theorem rowIt {w : World} {g : Nat} {v0 v1 v2 v3 v4 v5 v6 v7 v8 v9 : Value} (h : w.heap[g]? = some (.cells #[v0, v1, v2, v3, v4, v5, v6, v7, v8, v9] 91 (0, 0))) : w.cell? ⟨g, 0, none⟩ = some v0 ∧ w.cell? ⟨g, 1, none⟩ = some v1 ∧ w.cell? ⟨g, 2, none⟩ = some v2 ∧ w.cell? ⟨g, 3, none⟩ = some v3 ∧ w.cell? ⟨g, 4, none⟩ = some v4 ∧ w.cell? ⟨g, 5, none⟩ = some v5 ∧ w.cell? ⟨g, 6, none⟩ = some v6 ∧ w.cell? ⟨g, 7, none⟩ = some v7 ∧ w.cell? ⟨g, 8, none⟩ = some v8 ∧ w.cell? ⟨g, 9, none⟩ = some v9 :=
  ⟨(cell_blockT h 0).trans rfl, (cell_blockT h 1).trans rfl, (cell_blockT h 2).trans rfl, (cell_blockT h 3).trans rfl, (cell_blockT h 4).trans rfl, (cell_blockT h 5).trans rfl, (cell_blockT h 6).trans rfl, (cell_blockT h 7).trans rfl, (cell_blockT h 8).trans rfl, (cell_blockT h 9).trans rfl⟩
set_option maxHeartbeats 1000000 in
theorem itemRight_any (k : Int) (s : ByteArray) (hs : s.size ≤ 1100000) (op a b m f : Int) (hm : -2147483648 ≤ m ∧ m ≤ 2147483647) (va : Option Addr) (vc : Nat) (ts : List Tm) (c n sec : Int) (hn : -9223372036854775808 ≤ n ∧ n ≤ 9223372036854775807) (w : World) (hT : Tab w) (hL : TmLies w va ts) (hlen : ts.length ≤ 9000000) (hN : ∀ t ∈ ts, t.name.length ≤ 1100000) :
    Calls Tryz.prog 79 #[itV k s op a b m f va ts.length vc c n, .int .i64 sec] w fun e w' => e = .returned (.int .i64 (rightN sec (okB k s op a b m f ts c n sec))) ∧ Below w.heap.size w w' := by
  have h0 : RI w (itA k s op a b m f va ts.length vc c n) (w.alloc (.cells (itA k s op a b m f va ts.length vc c n) 91)) := ⟨below_alloc w _, heap_alloc_new w _, hT.alloc _⟩
  have h23 := fun w1 => stands_any k sec w1
  have h24 := fun w1 => rightName_any k s hs op a b m f va ts.length vc c n w1
  have h25 := fun w1 (h1 : RI w (itA k s op a b m f va ts.length vc c n) w1) => rightInst_any k s op a b m f va ts.length vc c n w1 h1.tab hm
  have h26 := fun w1 (h1 : RI w (itA k s op a b m f va ts.length vc c n) w1) => rightExpression_any k s op a b m f va vc ts c n w1 h1.tab (hL.below h1.bel (Nat.le_refl _)) hlen hN
  have h27 := fun w1 => isNumberOf_any k n w1 hn
  have hF : okB k s op a b m f ts c n sec = (standsB k sec && (nameB k s && (instB k op a b m f && (exprB (hasEB k op) ts c && numOfB k n)))) := rfl
  rw [hF]
  clear hF hT hL hN hs hm hn
  generalize standsB k sec = b1 at h23 ⊢
  generalize nameB k s = b2 at h24 ⊢
  generalize instB k op a b m f = b3 at h25 ⊢
  generalize exprB (hasEB k op) ts c = b4 at h26 ⊢
  generalize numOfB k n = b5 at h27 ⊢
  generalize ts.length = ln at h0 h24 h25 h26 hlen ⊢
  replace h0 := Hid.intro h0
  replace h23 := Hid.intro h23
  replace h24 := Hid.intro h24
  replace h25 := Hid.intro h25
  replace h26 := Hid.intro h26
  replace h27 := Hid.intro h27
  clear hlen
  by_cases hsec : sec = 0 ∨ sec = 1
  · rw [show ∀ ok, rightN sec ok = if ok then 0 else 31 from fun ok => by unfold rightN; rw [if_neg (by omega)]]
    have key : ∀ (c1 : Bool), ((if (c1 : Bool) = true then (0 : Int) else 31) = if c1 then 0 else 31) := fun _ => rfl
    clear key
    rcases hsec with rfl | rfl
    all_goals
      cases b1
      · go_enter Tryz.func79, Tryz.ntmps79
        go_wp2_with (first
          | (go_at_call 107; (with_reducible refine (h23.out _).mono ?_); rintro e w1 ⟨rfl, rfl⟩)
          | (go_at_call 110; (with_reducible refine (h24.out _).mono ?_); rintro e w2 ⟨rfl, hb2⟩; have h2 := Hid.intro (h0.out.below hb2); obtain ⟨q0, q1, q2, q3, q4, q5, q6, q7, q8, q9⟩ := rowIt h2.out.row)
          | (go_at_call 111; (with_reducible refine (h25.out _ h2.out).mono ?_); rintro e w3 ⟨rfl, hb3⟩; have h3 := Hid.intro (h2.out.below hb3); obtain ⟨p0, p1, p2, p3, p4, p5, p6, p7, p8, p9⟩ := rowIt h3.out.row)
          | (go_at_call 112; (with_reducible refine (h26.out _ h3.out).mono ?_); rintro e w4 ⟨rfl, hb4⟩; have h4 := Hid.intro (h3.out.below hb4); obtain ⟨r0, r1, r2, r3, r4, r5, r6, r7, r8, r9⟩ := rowIt h4.out.row)
          | (go_at_call 113; (with_reducible refine (h27.out _).mono ?_); rintro e w5 ⟨rfl, rfl⟩))
        all_goals first | omega | skip
        go_ret
        exact ⟨rfl, h0.out.bel⟩
      · cases b2
        · go_enter Tryz.func79, Tryz.ntmps79
          go_wp2_with (first
            | (go_at_call 107; (with_reducible refine (h23.out _).mono ?_); rintro e w1 ⟨rfl, rfl⟩)
            | (go_at_call 110; (with_reducible refine (h24.out _).mono ?_); rintro e w2 ⟨rfl, hb2⟩; have h2 := Hid.intro (h0.out.below hb2); obtain ⟨q0, q1, q2, q3, q4, q5, q6, q7, q8, q9⟩ := rowIt h2.out.row)
            | (go_at_call 111; (with_reducible refine (h25.out _ h2.out).mono ?_); rintro e w3 ⟨rfl, hb3⟩; have h3 := Hid.intro (h2.out.below hb3); obtain ⟨p0, p1, p2, p3, p4, p5, p6, p7, p8, p9⟩ := rowIt h3.out.row)
            | (go_at_call 112; (with_reducible refine (h26.out _ h3.out).mono ?_); rintro e w4 ⟨rfl, hb4⟩; have h4 := Hid.intro (h3.out.below hb4); obtain ⟨r0, r1, r2, r3, r4, r5, r6, r7, r8, r9⟩ := rowIt h4.out.row)
            | (go_at_call 113; (with_reducible refine (h27.out _).mono ?_); rintro e w5 ⟨rfl, rfl⟩))
          all_goals first | omega | skip
          go_ret
          exact ⟨rfl, h2.out.bel⟩
        · cases b3
          · go_enter Tryz.func79, Tryz.ntmps79
            go_wp2_with (first
              | (go_at_call 107; (with_reducible refine (h23.out _).mono ?_); rintro e w1 ⟨rfl, rfl⟩)
              | (go_at_call 110; (with_reducible refine (h24.out _).mono ?_); rintro e w2 ⟨rfl, hb2⟩; have h2 := Hid.intro (h0.out.below hb2); obtain ⟨q0, q1, q2, q3, q4, q5, q6, q7, q8, q9⟩ := rowIt h2.out.row)
              | (go_at_call 111; (with_reducible refine (h25.out _ h2.out).mono ?_); rintro e w3 ⟨rfl, hb3⟩; have h3 := Hid.intro (h2.out.below hb3); obtain ⟨p0, p1, p2, p3, p4, p5, p6, p7, p8, p9⟩ := rowIt h3.out.row)
              | (go_at_call 112; (with_reducible refine (h26.out _ h3.out).mono ?_); rintro e w4 ⟨rfl, hb4⟩; have h4 := Hid.intro (h3.out.below hb4); obtain ⟨r0, r1, r2, r3, r4, r5, r6, r7, r8, r9⟩ := rowIt h4.out.row)
              | (go_at_call 113; (with_reducible refine (h27.out _).mono ?_); rintro e w5 ⟨rfl, rfl⟩))
            all_goals first | omega | skip
            go_ret
            exact ⟨rfl, h3.out.bel⟩
          · cases b4
            · go_enter Tryz.func79, Tryz.ntmps79
              go_wp2_with (first
                | (go_at_call 107; (with_reducible refine (h23.out _).mono ?_); rintro e w1 ⟨rfl, rfl⟩)
                | (go_at_call 110; (with_reducible refine (h24.out _).mono ?_); rintro e w2 ⟨rfl, hb2⟩; have h2 := Hid.intro (h0.out.below hb2); obtain ⟨q0, q1, q2, q3, q4, q5, q6, q7, q8, q9⟩ := rowIt h2.out.row)
                | (go_at_call 111; (with_reducible refine (h25.out _ h2.out).mono ?_); rintro e w3 ⟨rfl, hb3⟩; have h3 := Hid.intro (h2.out.below hb3); obtain ⟨p0, p1, p2, p3, p4, p5, p6, p7, p8, p9⟩ := rowIt h3.out.row)
                | (go_at_call 112; (with_reducible refine (h26.out _ h3.out).mono ?_); rintro e w4 ⟨rfl, hb4⟩; have h4 := Hid.intro (h3.out.below hb4); obtain ⟨r0, r1, r2, r3, r4, r5, r6, r7, r8, r9⟩ := rowIt h4.out.row)
                | (go_at_call 113; (with_reducible refine (h27.out _).mono ?_); rintro e w5 ⟨rfl, rfl⟩))
              all_goals first | omega | skip
              go_ret
              exact ⟨rfl, h4.out.bel⟩
            · cases b5
              · go_enter Tryz.func79, Tryz.ntmps79
                go_wp2_with (first
                  | (go_at_call 107; (with_reducible refine (h23.out _).mono ?_); rintro e w1 ⟨rfl, rfl⟩)
                  | (go_at_call 110; (with_reducible refine (h24.out _).mono ?_); rintro e w2 ⟨rfl, hb2⟩; have h2 := Hid.intro (h0.out.below hb2); obtain ⟨q0, q1, q2, q3, q4, q5, q6, q7, q8, q9⟩ := rowIt h2.out.row)
                  | (go_at_call 111; (with_reducible refine (h25.out _ h2.out).mono ?_); rintro e w3 ⟨rfl, hb3⟩; have h3 := Hid.intro (h2.out.below hb3); obtain ⟨p0, p1, p2, p3, p4, p5, p6, p7, p8, p9⟩ := rowIt h3.out.row)
                  | (go_at_call 112; (with_reducible refine (h26.out _ h3.out).mono ?_); rintro e w4 ⟨rfl, hb4⟩; have h4 := Hid.intro (h3.out.below hb4); obtain ⟨r0, r1, r2, r3, r4, r5, r6, r7, r8, r9⟩ := rowIt h4.out.row)
                  | (go_at_call 113; (with_reducible refine (h27.out _).mono ?_); rintro e w5 ⟨rfl, rfl⟩))
                all_goals first | omega | skip
                go_ret
                exact ⟨rfl, h4.out.bel⟩
              · go_enter Tryz.func79, Tryz.ntmps79
                go_wp2_with (first
                  | (go_at_call 107; (with_reducible refine (h23.out _).mono ?_); rintro e w1 ⟨rfl, rfl⟩)
                  | (go_at_call 110; (with_reducible refine (h24.out _).mono ?_); rintro e w2 ⟨rfl, hb2⟩; have h2 := Hid.intro (h0.out.below hb2); obtain ⟨q0, q1, q2, q3, q4, q5, q6, q7, q8, q9⟩ := rowIt h2.out.row)
                  | (go_at_call 111; (with_reducible refine (h25.out _ h2.out).mono ?_); rintro e w3 ⟨rfl, hb3⟩; have h3 := Hid.intro (h2.out.below hb3); obtain ⟨p0, p1, p2, p3, p4, p5, p6, p7, p8, p9⟩ := rowIt h3.out.row)
                  | (go_at_call 112; (with_reducible refine (h26.out _ h3.out).mono ?_); rintro e w4 ⟨rfl, hb4⟩; have h4 := Hid.intro (h3.out.below hb4); obtain ⟨r0, r1, r2, r3, r4, r5, r6, r7, r8, r9⟩ := rowIt h4.out.row)
                  | (go_at_call 113; (with_reducible refine (h27.out _).mono ?_); rintro e w5 ⟨rfl, rfl⟩))
                all_goals first | omega | skip
                go_ret
                exact ⟨rfl, h4.out.bel⟩
  · rw [show ∀ ok, rightN sec ok = 1 from fun ok => by unfold rightN; rw [if_pos (by omega)]]
    have n0 : ¬ sec = 0 := fun h => hsec (.inl h)
    have n1 : ¬ sec = 1 := fun h => hsec (.inr h)
    have s0 : (sec == 0) = false := by simp [n0]
    have s1 : (sec == 1) = false := by simp [n1]
    have b0 : (sec != 0) = true := by simp [n0]
    have b1 : (sec != 1) = true := by simp [n1]
    clear hsec
    go_enter Tryz.func79, Tryz.ntmps79
    go_wp2
    all_goals first | omega | skip
    go_ret
    exact ⟨rfl, h0.out.bel⟩
end Go.Proofs.YtogkchgjpflmjaaGreatDoor
/- What is read as an expression has legal names alone: it is right. -/
namespace Go.Proofs.YtogkchgjpflmjaaGreatDoor
set_option linter.unusedVariables false
theorem mem_gatherI {l : List Tm} {t : Tm} (h : t ∈ gather l) : ∃ x ∈ l, x.name = t.name := by
  cases l with
  | nil => cases h
  | cons y r =>
    rw [gather_gat] at h
    rcases mem_gat h with h | h
    · exact ⟨y, by simp, h.symm⟩
    · exact h
theorem mem_normI {l : List Tm} {t : Tm} (h : t ∈ norm l) : ∃ x ∈ l, x.name = t.name := by
  obtain ⟨x, hx, he⟩ := mem_gatherI h
  exact ⟨x, (List.mergeSort_perm l leT).mem_iff.1 hx, he⟩
theorem canon_rightI {ts : List Tm} (hl : ∀ t ∈ ts, legB (str t.name) = true) : ∀ {p : Option (List UInt8)}, Canon ts → (∀ q, p = some q → ∀ t ∈ ts, nlt q t.name = true) → rightF p ts = true := by
  induction ts with
  | nil => intro p h hp; rfl
  | cons x r ih =>
    intro p h hp
    have h1 := h.some x (by simp)
    have h2 := ih (fun t ht => hl t (by simp [ht])) (p := some x.name) h.tail (fun q hq t ht => by cases hq; exact h.head t ht)
    simp only [rightF, okT, Bool.and_eq_true, decide_eq_true_eq]
    refine ⟨⟨by omega, hl x (by simp), ?_⟩, h2⟩
    cases p with
    | none => rfl
    | some q => exact hp q rfl x (by simp)
def LegT (l : List Tm) : Prop := ∀ t ∈ l, legB (str t.name) = true
def LegW (W : List Tok → PRes) : Prop := ∀ ts x r, W ts = .ok (x, r) → LegT x.terms
theorem legT_times {l : List Tm} (h : LegT l) (n : Int) : LegT (timesT l n) := by
  intro t ht
  obtain ⟨_, _, x, hx, e⟩ := mem_timesT ht
  rw [← e]
  exact h x hx
theorem legT_norm {l : List Tm} (h : LegT l) : LegT (norm l) := by
  intro t ht
  obtain ⟨x, hx, e⟩ := mem_normI ht
  rw [← e]
  exact h x hx
theorem legT_app {a b : List Tm} (ha : LegT a) (hb : LegT b) : LegT (a ++ b) := by
  intro t ht
  rcases List.mem_append.1 ht with h | h
  · exact ha t h
  · exact hb t h
theorem legT_nil : LegT [] := fun t ht => by cases ht
theorem singleF_leg {t : Tok} {x : Lin} (h : singleF t = some x) : LegT x.terms := by
  unfold singleF at h
  split at h
  · cases h; exact legT_nil
  · split at h
    · rename_i hc
      cases h
      intro u hu
      simp at hu
      subst hu
      exact hc.2
    · cases h
theorem factorF_leg {W : List Tok → PRes} (hW : LegW W) : LegW (factorF W) := by
  intro ts x r h
  unfold factorF at h
  generalize (minusF ts 1).2 = l at h
  cases l with
  | nil => cases h
  | cons t l =>
    rw [bareF] at h
    split at h
    · obtain ⟨y, u, h1, _, rfl⟩ := closeF_len h
      exact legT_times (hW _ _ _ h1) _
    · split at h
      · cases h
      · rename_i y hy
        cases h
        exact legT_times (singleF_leg hy) _
theorem productF_leg {x y z : Lin} (hx : LegT x.terms) (hy : LegT y.terms) (h : productF x y = some z) : LegT z.terms := by
  unfold productF at h
  split at h
  · cases h; exact legT_times hx _
  · split at h
    · cases h; exact legT_times hy _
    · cases h
theorem partL_leg {W : List Tok → PRes} (hW : LegW W) (f : Nat) : ∀ (x : Lin) (ts : List Tok), LegT x.terms → ∀ y r, partL W f x ts = .ok (y, r) → LegT y.terms := by
  induction f with
  | zero => intro x ts hx y r h; rw [partL] at h; cases h; exact hx
  | succ f ih =>
    intro x ts hx y r h
    cases ts with
    | nil => rw [partL] at h; cases h; exact hx
    | cons t ts =>
      rw [partL] at h
      split at h
      · split at h
        · cases h
        · rename_i y0 r0 hF
          split at h
          · cases h
          · rename_i z hz
            exact ih z r0 (productF_leg hx (factorF_leg hW _ _ _ hF) hz) y r h
      · cases h; exact hx
theorem partF_leg {W : List Tok → PRes} (hW : LegW W) : LegW (partF W) := by
  intro ts x r h
  unfold partF at h
  split at h
  · cases h
  · rename_i y r0 hF
    exact partL_leg hW _ y r0 (factorF_leg hW _ _ _ hF) x r h
theorem sumL_leg {W : List Tok → PRes} (hW : LegW W) (f : Nat) : ∀ (acc : List Tm) (n : Int) (ts : List Tok), LegT acc → ∀ y r, sumL W f acc n ts = .ok (y, r) → LegT y.terms := by
  induction f with
  | zero => intro acc n ts hx y r h; rw [sumL] at h; cases h; exact legT_norm hx
  | succ f ih =>
    intro acc n ts hx y r h
    cases ts with
    | nil => rw [sumL] at h; cases h; exact legT_norm hx
    | cons t ts =>
      rw [sumL] at h
      split at h
      · split at h
        · cases h
        · rename_i y0 r0 hF
          exact ih _ _ _ (legT_app hx (partF_leg hW _ _ _ hF)) y r h
      · split at h
        · split at h
          · cases h
          · rename_i y0 r0 hF
            exact ih _ _ _ (legT_app hx (legT_times (partF_leg hW _ _ _ hF) _)) y r h
        · cases h; exact legT_norm hx
theorem sumD_leg (d : Nat) : LegW (sumD d) := by
  induction d with
  | zero => intro ts x r h; cases h
  | succ d ih =>
    intro ts x r h
    rw [sumD] at h
    unfold sumF at h
    split at h
    · cases h
    · rename_i y r0 hF
      exact sumL_leg ih _ _ _ _ (partF_leg ih _ _ _ hF) x r h
theorem parseF_leg {ts : List Tok} {x : Lin} (h : parseF ts = .ok x) : LegT x.terms := by
  unfold parseF at h
  split at h
  · cases h
  · rename_i y hF
    cases h
    exact sumD_leg 33 _ _ _ hF
  · cases h
theorem parseF_right {ts : List Tok} {x : Lin} (h : parseF ts = .ok x) : rightF none x.terms = true :=
  canon_rightI (parseF_leg h) (parseF_good h).1.canon (fun q hq => by cases hq)
theorem leg_short {s : List UInt8} (h : legB (str s) = true) : s.length ≤ 32 := by
  simp only [legB, nameOK, Bool.and_eq_true, decide_eq_true_eq] at h
  have := h.1.2.2
  simpa [bs, str] using this
end Go.Proofs.YtogkchgjpflmjaaGreatDoor
/- What a line says, as a function; whatever it says, its items are right. -/
namespace Go.Proofs.YtogkchgjpflmjaaGreatDoor
set_option linter.unusedVariables false
set_option maxRecDepth 100000
abbrev sAlign : List UInt8 := [97, 108, 105, 103, 110]
abbrev sPool : List UInt8 := [112, 111, 111, 108]
abbrev sByte : List UInt8 := [98, 121, 116, 101]
abbrev sWord : List UInt8 := [119, 111, 114, 100]
abbrev sSpace : List UInt8 := [115, 112, 97, 99, 101]
abbrev sEqu : List UInt8 := [101, 113, 117]
abbrev sGlobal : List UInt8 := [103, 108, 111, 98, 97, 108]
abbrev sSection : List UInt8 := [115, 101, 99, 116, 105, 111, 110]
abbrev sText : List UInt8 := [116, 101, 120, 116]
abbrev sData : List UInt8 := [100, 97, 116, 97]
def itOf (kind : Int) (arg : List Tok) : Except Int Itm :=
  if kind = 6 then exprF arg { itmE with kind := 6 }
  else match numF kind arg with
    | .error k => .error k
    | .ok n => .ok { itmE with kind := kind, n := n }
def itsF (kind : Int) : List (List Tok) → Except Int (List Itm)
  | [] => .ok []
  | arg :: r =>
    match itOf kind arg with
    | .error k => .error k
    | .ok x =>
      match itsF kind r with
      | .error k => .error k
      | .ok l => .ok (x :: l)
def singF (kind : Int) : List (List Tok) → Except Int Itm
  | [] => .ok { itmE with kind := kind }
  | arg :: _ => itOf kind arg
def standsT (t : Thg) (sec : Int) : Except Int Thg := if (t.items.all fun x => standsB x.kind sec) = true then .ok t else .error 21
def singThg (kind : Int) (m : Nat) (args : List (List Tok)) (sec : Int) : Except Int Thg :=
  if args.length ≠ m then .error 20
  else match singF kind args with
    | .error k => .error k
    | .ok x => standsT ⟨1, [x], [], linE, 0⟩ sec
def sevThg (kind : Int) (args : List (List Tok)) (sec : Int) : Except Int Thg :=
  if args.length = 0 then .error 20
  else match itsF kind args with
    | .error k => .error k
    | .ok l => standsT ⟨2, l, [], linE, 0⟩ sec
def equF (a0 a1 : List Tok) : Except Int Thg :=
  match nameF a0 with
  | .error k => .error k
  | .ok s =>
    match parseF a1 with
    | .error k => .error k
    | .ok y => .ok ⟨3, [], s, y, 0⟩
def equThg : List (List Tok) → Except Int Thg
  | [a0, a1] => equF a0 a1
  | _ => .error 20
def gloF (a0 : List Tok) : Except Int Thg :=
  match nameF a0 with
  | .error k => .error k
  | .ok s => .ok ⟨4, [], s, linE, 0⟩
def gloThg : List (List Tok) → Except Int Thg
  | [a0] => gloF a0
  | _ => .error 20
def secF (a0 : List Tok) : Except Int Thg := if wordF a0 = sText then .ok ⟨5, [], [], linE, 0⟩ else if wordF a0 = sData then .ok ⟨5, [], [], linE, 1⟩ else .error 20
def secThg : List (List Tok) → Except Int Thg
  | [a0] => secF a0
  | _ => .error 20
def readF (s : List UInt8) (args : List (List Tok)) (sec : Int) : Except Int Thg :=
  if s = [] then .ok thgE
  else if s = sAlign then singThg 3 1 args sec
  else if s = sPool then singThg 4 0 args sec
  else if s = sByte then sevThg 5 args sec
  else if s = sWord then sevThg 6 args sec
  else if s = sSpace then singThg 7 1 args sec
  else if s = sEqu then equThg args
  else if s = sGlobal then gloThg args
  else if s = sSection then secThg args
  else if findN s = 0 then .error 20
  else opThg s args sec
def okI (x : Itm) (sec : Int) : Bool := okB x.kind (str x.name) x.op x.a x.b x.m x.form x.e.terms x.e.const x.n sec
structure FineI (x : Itm) : Prop where
  m : -2147483648 ≤ x.m ∧ x.m ≤ 2147483647
  n : -2147483648 ≤ x.n ∧ x.n ≤ 2147483647
  name : x.name.length ≤ 1000
  few : x.e.terms.length ≤ 1100000
  names : ∀ t ∈ x.e.terms, t.name.length ≤ 32
structure FineT (t : Thg) (sec : Int) : Prop where
  items : ∀ x ∈ t.items, okI x sec = true ∧ FineI x
  kinds : (t.kind = 1 ∧ t.items.length = 1) ∨ (t.kind = 2) ∨ ((t.kind = 0 ∨ t.kind = 5) ∧ t.items = []) ∨ ((t.kind = 3 ∨ t.kind = 4) ∧ t.items = [] ∧ legB (str t.name) = true)
  name : t.name.length ≤ 32
  many : t.items.length ≤ 1100000
def FewA (args : List (List Tok)) : Prop := ∀ arg ∈ args, arg.length ≤ 1100000
theorem nameB_nil {k : Int} (h : k ≠ 1) : nameB k (str []) = true := by
  unfold nameB
  rw [if_neg h, str_toList]
  rfl
theorem numOf_kind {kind : Int} (h : kind = 3 ∨ kind = 5 ∨ kind = 7) {n sec : Int} (hn : numOfB kind n = true) (hs : standsB kind sec = true) : okI { itmE with kind := kind, n := n } sec = true := by
  rcases h with rfl | rfl | rfl
  all_goals
    simp only [okI, okB, itmE, linE, hs, hn, Bool.true_and, Bool.and_true]
    rw [nameB_nil (by decide)]
    rfl
theorem itOf_fine {kind : Int} (h : kind = 3 ∨ kind = 5 ∨ kind = 6 ∨ kind = 7) {arg : List Tok} (hf : arg.length ≤ 1100000) {x : Itm} (hx : itOf kind arg = .ok x) : x.kind = kind ∧ FineI x ∧ ∀ sec, standsB kind sec = true → okI x sec = true := by
  unfold itOf at hx
  split at hx
  · rename_i h6
    subst h6
    unfold exprF at hx
    split at hx
    · cases hx
    · rename_i y hy
      cases hx
      have hg := parseF_good hy
      refine ⟨rfl, ⟨by simp [itmE], by simp [itmE], by simp [itmE], by have := hg.2; show y.terms.length ≤ _; omega, fun t ht => leg_short (parseF_leg hy t ht)⟩, fun sec hs => ?_⟩
      have hr := parseF_right hy
      simp only [okI, okB, itmE, hs, Bool.true_and]
      rw [show hasEB 6 0 = true from rfl, nameB_nil (k := 6) (by decide), show instB 6 0 0 0 0 0 = true from rfl, show numOfB 6 0 = true from rfl]
      simp only [exprB, if_true, hr, Bool.and_self]
  · rename_i h6
    split at hx
    · cases hx
    · rename_i n hn
      cases hx
      unfold numF at hn
      split at hn
      · cases hn
      · rename_i n' hc
        split at hn
        · rename_i hb
          cases hn
          have hr := constF_range hc
          refine ⟨rfl, ⟨by simp [itmE], hr, by simp [itmE], by simp [itmE, linE], fun t ht => by simp [itmE, linE] at ht⟩, fun sec hs => numOf_kind (by omega) hb hs⟩
        · cases hn
theorem itsF_fine {kind : Int} (h : kind = 3 ∨ kind = 5 ∨ kind = 6 ∨ kind = 7) : ∀ {args : List (List Tok)}, FewA args → ∀ {l : List Itm}, itsF kind args = .ok l → l.length = args.length ∧ ∀ x ∈ l, x.kind = kind ∧ FineI x ∧ ∀ sec, standsB kind sec = true → okI x sec = true := by
  intro args
  induction args with
  | nil => intro hf l hl; cases hl; exact ⟨rfl, fun x hx => by cases hx⟩
  | cons arg r ih =>
    intro hf l hl
    rw [itsF] at hl
    split at hl
    · cases hl
    · rename_i x hx
      split at hl
      · cases hl
      · rename_i l' hl'
        cases hl
        obtain ⟨h1, h2⟩ := ih (fun a ha => hf a (by simp [ha])) hl'
        refine ⟨by simp [h1], fun y hy => ?_⟩
        rcases List.mem_cons.1 hy with rfl | hy
        · exact itOf_fine h (hf arg (by simp)) hx
        · exact h2 y hy
theorem opF_cons_ok {wants : List UInt8} {arg : List Tok} {r : List (List Tok)} {p : Nat} {x z : Itm} (h : opF wants (arg :: r) p x = .ok z) : ∃ y, stepF (atI (bs (str wants)) p) p arg x = .ok y ∧ opF wants r (p + 1) y = .ok z := by
  rw [opF] at h
  split at h
  · cases h
  · rename_i y hy
    exact ⟨y, hy, h⟩
theorem step_r {p : Nat} {arg : List Tok} {y z : Itm} (h : stepF 114 p arg y = .ok z) : ∃ n, (0 ≤ n ∧ n ≤ 7) ∧ z = setReg p n y := by
  unfold stepF at h
  rw [if_pos (.inl rfl)] at h
  split at h
  · cases h
  · rename_i n hn
    cases h
    have := regF_range hn
    exact ⟨n, ⟨this.1, this.2.1⟩, rfl⟩
theorem step_z {p : Nat} {arg : List Tok} {y z : Itm} (h : stepF 122 p arg y = .ok z) : ∃ n, (0 ≤ n ∧ n ≤ 3) ∧ z = setReg p n y := by
  unfold stepF at h
  rw [if_pos (.inr rfl)] at h
  split at h
  · cases h
  · rename_i n hn
    cases h
    have := regF_range hn
    exact ⟨n, ⟨this.1, this.2.2 (by decide)⟩, rfl⟩
theorem step_n {p : Nat} {arg : List Tok} {y z : Itm} (h : stepF 110 p arg y = .ok z) : ∃ n, (-2147483648 ≤ n ∧ n ≤ 2147483647) ∧ checkN y.op y.a y.b n y.form = 0 ∧ z = { y with m := n } := by
  unfold stepF at h
  rw [if_neg (by omega), if_pos rfl] at h
  split at h
  · cases h
  · rename_i n hn
    split at h
    · rename_i hc
      cases h
      exact ⟨n, constF_range hn, hc, rfl⟩
    · cases h
theorem step_x {arg : List Tok} {y z : Itm} (h : exprF arg y = .ok z) : ∃ e : Lin, rightF none e.terms = true ∧ e.terms.length ≤ arg.length ∧ (∀ t ∈ e.terms, t.name.length ≤ 32) ∧ z = { y with e := e } := by
  unfold exprF at h
  split at h
  · cases h
  · rename_i e he
    cases h
    exact ⟨e, parseF_right he, (parseF_good he).2, fun t ht => leg_short (parseF_leg he t ht), rfl⟩
theorem step_e {p : Nat} {arg : List Tok} {y z : Itm} (h : stepF 101 p arg y = .ok z) : ∃ e : Lin, rightF none e.terms = true ∧ e.terms.length ≤ arg.length ∧ (∀ t ∈ e.terms, t.name.length ≤ 32) ∧ z = { y with e := e } := by
  unfold stepF at h
  rw [if_neg (by omega), if_neg (by omega), if_neg (by omega)] at h
  exact step_x h
theorem step_l {p : Nat} {arg : List Tok} {y z : Itm} (h : stepF 61 p arg y = .ok z) : ∃ e : Lin, rightF none e.terms = true ∧ e.terms.length ≤ arg.length ∧ (∀ t ∈ e.terms, t.name.length ≤ 32) ∧ z = { y with e := e } := by
  unfold stepF at h
  rw [if_neg (by omega), if_neg (by omega), if_pos rfl] at h
  split at h
  · cases h
  · split at h
    · obtain ⟨e, h1, h2, h3, h4⟩ := step_x h
      exact ⟨e, h1, by simp; omega, h3, h4⟩
    · cases h
theorem op_right {op a b m : Int} {e : Lin} {sec : Int} (hs : standsB 2 sec = true) (hc : checkN op a b m (if spansB (shapeN op) then 1 else 0) = 0) (hE : (shE (shapeN op) = true ∧ m = 0 ∧ rightF none e.terms = true) ∨ (shE (shapeN op) = false ∧ e = linE)) : okI ⟨2, [], op, a, b, m, 0, e, 0⟩ sec = true := by
  simp only [okI, okB, hs, Bool.true_and]
  rw [nameB_nil (k := 2) (by decide), show numOfB 2 0 = true from rfl]
  rcases hE with ⟨h1, rfl, h3⟩ | ⟨h1, rfl⟩
  · simp [instB, hasEB, h1, hc, exprB, h3]
  · simp [instB, hasEB, h1, hc, exprB, linE]
theorem check_of {op a b m f : Int} {s : Nat} (hop : 1 ≤ op ∧ op ≤ 43) (hS : shapeN op = (s : Int)) (h1 : regB a b m s = true) (h2 : numB m f s = true) : checkN op a b m f = 0 := by
  unfold checkN
  rw [if_neg (by omega), hS, Int.toNat_natCast, if_neg (by rw [h1]; simp), if_neg (by rw [h2]; simp)]
set_option maxHeartbeats 2000000 in
theorem opF_fine (op : Int) (hop : 1 ≤ op ∧ op ≤ 43) (args : List (List Tok)) (hl : args.length = (wantsF (shapeN op)).length) (hf : FewA args) (x : Itm) (h : opF (wantsF (shapeN op)) args 0 (opItm op) = .ok x) : x.kind = 2 ∧ FineI x ∧ ∀ sec, standsB 2 sec = true → okI x sec = true := by
  have hs := shapeN_some hop
  have : shapeN op = 1 ∨ shapeN op = 2 ∨ shapeN op = 3 ∨ shapeN op = 4 ∨ shapeN op = 5 ∨ shapeN op = 6 ∨ shapeN op = 7 ∨ shapeN op = 8 ∨ shapeN op = 9 ∨ shapeN op = 10 ∨ shapeN op = 11 ∨ shapeN op = 12 ∨ shapeN op = 13 := by omega
  have hfin : ∀ (a b m : Int) (e : Lin), (-2147483648 ≤ m ∧ m ≤ 2147483647) → e.terms.length ≤ 1100000 → (∀ t ∈ e.terms, t.name.length ≤ 32) → FineI ⟨2, [], op, a, b, m, 0, e, 0⟩ := fun a b m e h1 h2 h3 => ⟨h1, by simp, by simp, h2, h3⟩
  have hnil : linE.terms.length ≤ 1100000 ∧ ∀ t ∈ linE.terms, t.name.length ≤ 32 := ⟨by simp [linE], fun t ht => by simp [linE] at ht⟩
  rcases this with hS | hS | hS | hS | hS | hS | hS | hS | hS | hS | hS | hS | hS
  · rw [hS] at hl h
    obtain rfl : args = [] := List.length_eq_zero_iff.1 hl
    cases h
    exact ⟨rfl, hfin 0 0 0 linE (by omega) hnil.1 hnil.2, fun sec h2 => op_right (op := op) (a := 0) (b := 0) (m := 0) (e := linE) h2 (check_of (s := 1) hop hS rfl (by rw [hS]; rfl)) (.inr ⟨by rw [hS]; rfl, rfl⟩)⟩
  · rw [hS] at hl h
    obtain ⟨x1, rfl⟩ : ∃ x1, args = [x1] := by match args, hl with | [a], _ => exact ⟨a, rfl⟩
    obtain ⟨y1, g1, h⟩ := opF_cons_ok h
    cases h
    obtain ⟨n1, r1, rfl⟩ := step_r g1
    exact ⟨rfl, hfin n1 0 0 linE (by omega) hnil.1 hnil.2, fun sec h2 => op_right (op := op) (a := n1) (b := 0) (m := 0) (e := linE) h2 (check_of (s := 2) hop hS (by simp [regB, aMax, bMax, shT]; omega) (by rw [hS]; rfl)) (.inr ⟨by rw [hS]; rfl, rfl⟩)⟩
  · rw [hS] at hl h
    obtain ⟨x1, rfl⟩ : ∃ x1, args = [x1] := by match args, hl with | [a], _ => exact ⟨a, rfl⟩
    obtain ⟨y1, g1, h⟩ := opF_cons_ok h
    cases h
    obtain ⟨n1, r1, rfl⟩ := step_z g1
    exact ⟨rfl, hfin n1 0 0 linE (by omega) hnil.1 hnil.2, fun sec h2 => op_right (op := op) (a := n1) (b := 0) (m := 0) (e := linE) h2 (check_of (s := 3) hop hS (by simp [regB, aMax, bMax, shT]; omega) (by rw [hS]; rfl)) (.inr ⟨by rw [hS]; rfl, rfl⟩)⟩
  · rw [hS] at hl h
    obtain ⟨x1, x2, rfl⟩ : ∃ x1 x2, args = [x1, x2] := by match args, hl with | [a, b], _ => exact ⟨a, b, rfl⟩
    obtain ⟨y1, g1, h⟩ := opF_cons_ok h
    obtain ⟨y2, g2, h⟩ := opF_cons_ok h
    cases h
    obtain ⟨n1, r1, rfl⟩ := step_r g1
    obtain ⟨n2, r2, rfl⟩ := step_r g2
    exact ⟨rfl, hfin n1 n2 0 linE (by omega) hnil.1 hnil.2, fun sec h2 => op_right (op := op) (a := n1) (b := n2) (m := 0) (e := linE) h2 (check_of (s := 4) hop hS (by simp [regB, aMax, bMax, shT]; omega) (by rw [hS]; rfl)) (.inr ⟨by rw [hS]; rfl, rfl⟩)⟩
  · rw [hS] at hl h
    obtain ⟨x1, x2, rfl⟩ : ∃ x1 x2, args = [x1, x2] := by match args, hl with | [a, b], _ => exact ⟨a, b, rfl⟩
    obtain ⟨y1, g1, h⟩ := opF_cons_ok h
    obtain ⟨y2, g2, h⟩ := opF_cons_ok h
    cases h
    obtain ⟨n1, r1, rfl⟩ := step_z g1
    obtain ⟨n2, r2, rfl⟩ := step_z g2
    exact ⟨rfl, hfin n1 n2 0 linE (by omega) hnil.1 hnil.2, fun sec h2 => op_right (op := op) (a := n1) (b := n2) (m := 0) (e := linE) h2 (check_of (s := 5) hop hS (by simp [regB, aMax, bMax, shT]; omega) (by rw [hS]; rfl)) (.inr ⟨by rw [hS]; rfl, rfl⟩)⟩
  · rw [hS] at hl h
    obtain ⟨x1, x2, rfl⟩ : ∃ x1 x2, args = [x1, x2] := by match args, hl with | [a, b], _ => exact ⟨a, b, rfl⟩
    obtain ⟨y1, g1, h⟩ := opF_cons_ok h
    obtain ⟨y2, g2, h⟩ := opF_cons_ok h
    cases h
    obtain ⟨n1, r1, rfl⟩ := step_r g1
    obtain ⟨n2, r2, rfl⟩ := step_z g2
    exact ⟨rfl, hfin n1 n2 0 linE (by omega) hnil.1 hnil.2, fun sec h2 => op_right (op := op) (a := n1) (b := n2) (m := 0) (e := linE) h2 (check_of (s := 6) hop hS (by simp [regB, aMax, bMax, shT]; omega) (by rw [hS]; rfl)) (.inr ⟨by rw [hS]; rfl, rfl⟩)⟩
  · rw [hS] at hl h
    obtain ⟨x1, x2, x3, rfl⟩ : ∃ x1 x2 x3, args = [x1, x2, x3] := by match args, hl with | [a, b, c], _ => exact ⟨a, b, c, rfl⟩
    obtain ⟨y1, g1, h⟩ := opF_cons_ok h
    obtain ⟨y2, g2, h⟩ := opF_cons_ok h
    obtain ⟨y3, g3, h⟩ := opF_cons_ok h
    cases h
    obtain ⟨n1, r1, rfl⟩ := step_z g1
    obtain ⟨n2, r2, rfl⟩ := step_r g2
    obtain ⟨n3, r3, rfl⟩ := step_r g3
    exact ⟨rfl, hfin n1 n2 n3 linE (by omega) hnil.1 hnil.2, fun sec h2 => op_right (op := op) (a := n1) (b := n2) (m := n3) (e := linE) h2 (check_of (s := 7) hop hS (by simp [regB, aMax, bMax, nMin, nMax, shT]; omega) (by rw [hS]; simp [numB, spansB, nMin, nMax, shT]; omega)) (.inr ⟨by rw [hS]; rfl, rfl⟩)⟩
  · rw [hS] at hl h
    obtain ⟨x1, x2, rfl⟩ : ∃ x1 x2, args = [x1, x2] := by match args, hl with | [a, b], _ => exact ⟨a, b, rfl⟩
    obtain ⟨y1, g1, h⟩ := opF_cons_ok h
    obtain ⟨y2, g2, h⟩ := opF_cons_ok h
    cases h
    obtain ⟨n1, r1, rfl⟩ := step_r g1
    obtain ⟨n2, r2, hc, rfl⟩ := step_n g2
    exact ⟨rfl, hfin n1 0 n2 linE (by omega) hnil.1 hnil.2, fun sec h2 => op_right (op := op) (a := n1) (b := 0) (m := n2) (e := linE) h2 (by rw [hS]; exact hc) (.inr ⟨by rw [hS]; rfl, rfl⟩)⟩
  · rw [hS] at hl h
    obtain ⟨x1, rfl⟩ : ∃ x1, args = [x1] := by match args, hl with | [a], _ => exact ⟨a, rfl⟩
    obtain ⟨y1, g1, h⟩ := opF_cons_ok h
    cases h
    obtain ⟨n2, r2, hc, rfl⟩ := step_n g1
    exact ⟨rfl, hfin 0 0 n2 linE (by omega) hnil.1 hnil.2, fun sec h2 => op_right (op := op) (a := 0) (b := 0) (m := n2) (e := linE) h2 (by rw [hS]; exact hc) (.inr ⟨by rw [hS]; rfl, rfl⟩)⟩
  · rw [hS] at hl h
    obtain ⟨x1, x2, rfl⟩ : ∃ x1 x2, args = [x1, x2] := by match args, hl with | [a, b], _ => exact ⟨a, b, rfl⟩
    have hf2 := hf x2 (by simp)
    obtain ⟨y1, g1, h⟩ := opF_cons_ok h
    obtain ⟨y2, g2, h⟩ := opF_cons_ok h
    cases h
    obtain ⟨n1, r1, rfl⟩ := step_r g1
    obtain ⟨e, hr, hn, hm, rfl⟩ := step_e g2
    exact ⟨rfl, hfin n1 0 0 e (by omega) (by omega) hm, fun sec h2 => op_right (op := op) (a := n1) (b := 0) (m := 0) (e := e) h2 (check_of (s := 10) hop hS (by simp [regB, aMax, bMax, shT]; omega) (by rw [hS]; rfl)) (.inl ⟨by rw [hS]; rfl, rfl, hr⟩)⟩
  · rw [hS] at hl h
    obtain ⟨x1, x2, rfl⟩ : ∃ x1 x2, args = [x1, x2] := by match args, hl with | [a, b], _ => exact ⟨a, b, rfl⟩
    have hf2 := hf x2 (by simp)
    obtain ⟨y1, g1, h⟩ := opF_cons_ok h
    obtain ⟨y2, g2, h⟩ := opF_cons_ok h
    cases h
    obtain ⟨n1, r1, rfl⟩ := step_r g1
    obtain ⟨e, hr, hn, hm, rfl⟩ := step_l g2
    exact ⟨rfl, hfin n1 0 0 e (by omega) (by omega) hm, fun sec h2 => op_right (op := op) (a := n1) (b := 0) (m := 0) (e := e) h2 (check_of (s := 11) hop hS (by simp [regB, aMax, bMax, shT]; omega) (by rw [hS]; rfl)) (.inl ⟨by rw [hS]; rfl, rfl, hr⟩)⟩
  · rw [hS] at hl h
    obtain ⟨x1, rfl⟩ : ∃ x1, args = [x1] := by match args, hl with | [a], _ => exact ⟨a, rfl⟩
    have hf2 := hf x1 (by simp)
    obtain ⟨y1, g1, h⟩ := opF_cons_ok h
    cases h
    obtain ⟨e, hr, hn, hm, rfl⟩ := step_e g1
    exact ⟨rfl, hfin 0 0 0 e (by omega) (by omega) hm, fun sec h2 => op_right (op := op) (a := 0) (b := 0) (m := 0) (e := e) h2 (check_of (s := 12) hop hS rfl (by rw [hS]; rfl)) (.inl ⟨by rw [hS]; rfl, rfl, hr⟩)⟩
  · rw [hS] at hl h
    obtain ⟨x1, x2, rfl⟩ : ∃ x1 x2, args = [x1, x2] := by match args, hl with | [a, b], _ => exact ⟨a, b, rfl⟩
    have hf2 := hf x2 (by simp)
    obtain ⟨y1, g1, h⟩ := opF_cons_ok h
    obtain ⟨y2, g2, h⟩ := opF_cons_ok h
    cases h
    obtain ⟨n1, r1, rfl⟩ := step_r g1
    obtain ⟨e, hr, hn, hm, rfl⟩ := step_e g2
    exact ⟨rfl, hfin n1 0 0 e (by omega) (by omega) hm, fun sec h2 => op_right (op := op) (a := n1) (b := 0) (m := 0) (e := e) h2 (check_of (s := 13) hop hS (by simp [regB, aMax, bMax, shT]; omega) (by rw [hS]; rfl)) (.inl ⟨by rw [hS]; rfl, rfl, hr⟩)⟩
theorem findN_range (s : List UInt8) : 0 ≤ findN s ∧ findN s ≤ 43 := by
  unfold findN
  split
  · rename_i i hi
    have := (List.findIdx?_eq_some_iff_getElem.1 hi).1
    have h43 : opsT.length = 43 := rfl
    omega
  · omega
theorem standsT_ok {t t' : Thg} {sec : Int} (h : standsT t sec = .ok t') : t' = t ∧ ∀ x ∈ t.items, standsB x.kind sec = true := by
  unfold standsT at h
  split at h
  · rename_i ha
    cases h
    exact ⟨rfl, fun x hx => List.all_eq_true.1 ha x hx⟩
  · cases h
theorem nameF_leg {arg : List Tok} {s : List UInt8} (h : nameF arg = .ok s) : legB (str s) = true := by
  unfold nameF at h
  split at h
  · rename_i hl; cases h; exact hl
  · cases h
theorem singThg_fine {kind : Int} {m : Nat} (hk : (kind = 4 ∧ m = 0) ∨ ((kind = 3 ∨ kind = 7) ∧ m = 1)) {args : List (List Tok)} {sec : Int} (hf : FewA args) {t : Thg} (h : singThg kind m args sec = .ok t) : FineT t sec := by
  unfold singThg at h
  split at h
  · cases h
  · rename_i hl
    split at h
    · cases h
    · rename_i x hx
      obtain ⟨rfl, hst⟩ := standsT_ok h
      have hst' := hst x (by simp)
      have key : okI x sec = true ∧ FineI x := by
        rcases hk with ⟨rfl, rfl⟩ | ⟨hk, rfl⟩
        · obtain rfl : args = [] := List.length_eq_zero_iff.1 (by simpa using hl)
          cases hx
          refine ⟨?_, ⟨by simp [itmE], by simp [itmE], by simp [itmE], by simp [itmE, linE], fun t ht => by simp [itmE, linE] at ht⟩⟩
          simp only [okI, okB, itmE, linE] at hst' ⊢
          rw [hst', nameB_nil (k := 4) (by decide)]
          rfl
        · obtain ⟨x1, rfl⟩ : ∃ x1, args = [x1] := by match args, hl with | [a], _ => exact ⟨a, rfl⟩ | [], hl => simp at hl | _ :: _ :: _, hl => simp at hl
          obtain ⟨h1, h2, h3⟩ := itOf_fine (kind := kind) (by omega) (hf x1 (by simp)) hx
          rw [h1] at hst'
          exact ⟨h3 sec hst', h2⟩
      exact ⟨fun y hy => by simp at hy; subst hy; exact key, .inl ⟨rfl, rfl⟩, by simp, by simp⟩
theorem sevThg_fine {kind : Int} (hk : kind = 5 ∨ kind = 6) {args : List (List Tok)} {sec : Int} (hf : FewA args) (hm : args.length ≤ 1100000) {t : Thg} (h : sevThg kind args sec = .ok t) : FineT t sec := by
  unfold sevThg at h
  split at h
  · cases h
  · split at h
    · cases h
    · rename_i l hl
      obtain ⟨rfl, hst⟩ := standsT_ok h
      obtain ⟨h1, h2⟩ := itsF_fine (kind := kind) (by omega) hf hl
      refine ⟨fun x hx => ?_, .inr (.inl rfl), by simp, by show l.length ≤ _; omega⟩
      obtain ⟨k1, k2, k3⟩ := h2 x hx
      have := hst x hx
      rw [k1] at this
      exact ⟨k3 sec this, k2⟩
theorem readF_fine {s : List UInt8} {args : List (List Tok)} {sec : Int} (hf : FewA args) (hm : args.length ≤ 1100000) {t : Thg} (h : readF s args sec = .ok t) : FineT t sec := by
  unfold readF at h
  by_cases h0 : s = []
  · rw [if_pos h0] at h; cases h
    exact ⟨fun x hx => by simp [thgE] at hx, .inr (.inr (.inl ⟨.inl rfl, rfl⟩)), by simp [thgE], by simp [thgE]⟩
  rw [if_neg h0] at h
  by_cases h1 : s = sAlign
  · rw [if_pos h1] at h; exact singThg_fine (.inr ⟨.inl rfl, rfl⟩) hf h
  rw [if_neg h1] at h
  by_cases h2 : s = sPool
  · rw [if_pos h2] at h; exact singThg_fine (.inl ⟨rfl, rfl⟩) hf h
  rw [if_neg h2] at h
  by_cases h3 : s = sByte
  · rw [if_pos h3] at h; exact sevThg_fine (.inl rfl) hf hm h
  rw [if_neg h3] at h
  by_cases h4 : s = sWord
  · rw [if_pos h4] at h; exact sevThg_fine (.inr rfl) hf hm h
  rw [if_neg h4] at h
  by_cases h5 : s = sSpace
  · rw [if_pos h5] at h; exact singThg_fine (.inr ⟨.inr rfl, rfl⟩) hf h
  rw [if_neg h5] at h
  by_cases h6 : s = sEqu
  · rw [if_pos h6] at h
    unfold equThg at h
    split at h
    · unfold equF at h
      split at h
      · cases h
      · rename_i n hn
        split at h
        · cases h
        · cases h
          have hl := nameF_leg hn
          exact ⟨fun x hx => by simp at hx, .inr (.inr (.inr ⟨.inl rfl, rfl, hl⟩)), leg_short hl, by simp⟩
    · cases h
  rw [if_neg h6] at h
  by_cases h7 : s = sGlobal
  · rw [if_pos h7] at h
    unfold gloThg at h
    split at h
    · unfold gloF at h
      split at h
      · cases h
      · rename_i n hn
        cases h
        have hl := nameF_leg hn
        exact ⟨fun x hx => by simp at hx, .inr (.inr (.inr ⟨.inr rfl, rfl, hl⟩)), leg_short hl, by simp⟩
    · cases h
  rw [if_neg h7] at h
  by_cases h8 : s = sSection
  · rw [if_pos h8] at h
    unfold secThg at h
    split at h
    · unfold secF at h
      split at h
      · cases h; exact ⟨fun x hx => by simp at hx, .inr (.inr (.inl ⟨.inr rfl, rfl⟩)), by simp, by simp⟩
      · split at h
        · cases h; exact ⟨fun x hx => by simp at hx, .inr (.inr (.inl ⟨.inr rfl, rfl⟩)), by simp, by simp⟩
        · cases h
    · cases h
  rw [if_neg h8] at h
  by_cases h9 : findN s = 0
  · rw [if_pos h9] at h; cases h
  rw [if_neg h9] at h
  have hr := findN_range s
  unfold opThg at h
  split at h
  · cases h
  · rename_i hl
    split at h
    · cases h
    · rename_i x hx
      split at h
      · rename_i hst
        cases h
        obtain ⟨k1, k2, k3⟩ := opF_fine (findN s) (by omega) args (by omega) hf x hx
        rw [k1] at hst
        exact ⟨fun y hy => by simp at hy; subst hy; exact ⟨k3 sec hst, k2⟩, .inl ⟨rfl, rfl⟩, by simp, by simp⟩
      · cases h
theorem itOf_kind {kind : Int} {arg : List Tok} {x : Itm} (h : itOf kind arg = .ok x) : x.kind = kind := by
  unfold itOf at h
  split at h
  · rename_i h6
    unfold exprF at h
    split at h
    · cases h
    · cases h; exact h6.symm
  · split at h
    · cases h
    · cases h; rfl
theorem itsF_kind {kind : Int} : ∀ {args : List (List Tok)} {l : List Itm}, itsF kind args = .ok l → l.length = args.length ∧ ∀ x ∈ l, x.kind = kind := by
  intro args
  induction args with
  | nil => intro l h; cases h; exact ⟨rfl, fun x hx => by cases hx⟩
  | cons arg r ih =>
    intro l h
    rw [itsF] at h
    split at h
    · cases h
    · rename_i x hx
      split at h
      · cases h
      · rename_i l' hl'
        cases h
        obtain ⟨h1, h2⟩ := ih hl'
        refine ⟨by simp [h1], fun y hy => ?_⟩
        rcases List.mem_cons.1 hy with rfl | hy
        · exact itOf_kind hx
        · exact h2 y hy
theorem stepF_kind {wc : Int} {p : Nat} {arg : List Tok} {y z : Itm} (h : stepF wc p arg y = .ok z) : z.kind = y.kind := by
  have hx : ∀ {r : List Tok}, exprF r y = .ok z → z.kind = y.kind := fun h => by
    unfold exprF at h
    split at h
    · cases h
    · cases h; rfl
  unfold stepF at h
  split at h
  · split at h
    · cases h
    · cases h
      unfold setReg
      split
      · rfl
      · split <;> rfl
  · split at h
    · split at h
      · cases h
      · split at h
        · cases h; rfl
        · cases h
    · split at h
      · split at h
        · cases h
        · split at h
          · exact hx h
          · cases h
      · exact hx h
theorem opF_kind {wants : List UInt8} : ∀ {args : List (List Tok)} {p : Nat} {y x : Itm}, opF wants args p y = .ok x → x.kind = y.kind := by
  intro args
  induction args with
  | nil => intro p y x h; cases h; rfl
  | cons arg r ih =>
    intro p y x h
    rw [opF] at h
    split at h
    · cases h
    · rename_i y' hy
      exact (ih h).trans (stepF_kind hy)
theorem six_read {T : TypeId} {w : World} {g : Nat} {v0 v1 v2 v3 v4 v5 : Value} (h : w.heap[g]? = some (.cells #[v0, v1, v2, v3, v4, v5] T (0, 0))) : w.cell? ⟨g, 0, none⟩ = some v0 ∧ w.cell? ⟨g, 1, none⟩ = some v1 ∧ w.cell? ⟨g, 2, none⟩ = some v2 ∧ w.cell? ⟨g, 3, none⟩ = some v3 ∧ w.cell? ⟨g, 4, none⟩ = some v4 ∧ w.cell? ⟨g, 5, none⟩ = some v5 :=
  ⟨(cell_blockT h 0).trans rfl, (cell_blockT h 1).trans rfl, (cell_blockT h 2).trans rfl, (cell_blockT h 3).trans rfl, (cell_blockT h 4).trans rfl, (cell_blockT h 5).trans rfl⟩
end Go.Proofs.YtogkchgjpflmjaaGreatDoor
/- The lines of a source, as a function on its bytes. -/
namespace Go.Proofs.YtogkchgjpflmjaaGreatDoor
set_option linter.unusedVariables false
def nlLen : List UInt8 → Nat
  | [] => 0
  | b :: l => if b = 10 then 0 else nlLen l + 1
theorem nlLen_le (l : List UInt8) : nlLen l ≤ l.length := by
  induction l with
  | nil => simp [nlLen]
  | cons b l ih => unfold nlLen; split <;> simp; omega
def linesOf (l : List UInt8) : List (List UInt8) :=
  match l with
  | [] => []
  | b :: r => (b :: r).take (nlLen (b :: r)) :: linesOf ((b :: r).drop (nlLen (b :: r) + 1))
  termination_by l.length
  decreasing_by simp; omega
theorem linesOf_nil : linesOf [] = [] := by rw [linesOf]
theorem linesOf_more (l : List UInt8) (h : l ≠ []) : linesOf l = l.take (nlLen l) :: linesOf (l.drop (nlLen l + 1)) := by
  cases l with
  | nil => exact absurd rfl h
  | cons b r => rw [linesOf]
theorem idx_nl (l : List UInt8) : Lib.indexByte l 10 = if nlLen l < l.length then (nlLen l : Int) else -1 := by
  induction l with
  | nil => simp [nlLen, Lib.indexByte]
  | cons b l ih =>
    unfold nlLen Lib.indexByte
    by_cases h : b = 10
    · rw [if_pos (by simp [h]), if_pos h, if_pos (by simp)]
      rfl
    · rw [if_neg (by simp [h]), if_neg h, ih]
      by_cases h2 : nlLen l < l.length
      · rw [if_pos h2, if_neg (by simp), if_pos (by simp; omega)]
        push_cast
        rfl
      · rw [if_neg h2, if_pos (by decide), if_neg (by simp; omega)]
theorem linesOf_len (l : List UInt8) : (linesOf l).length ≤ l.length := by
  induction hn : l.length using Nat.strongRecOn generalizing l with
  | _ n ih =>
    subst hn
    by_cases h : l = []
    · subst h; rw [linesOf_nil]; simp
    · rw [linesOf_more l h, List.length_cons]
      have hl : 0 < l.length := by cases l <;> simp_all
      have := ih (l.drop (nlLen l + 1)).length (by simp; omega) (l.drop (nlLen l + 1)) rfl
      rw [List.length_drop] at this
      omega
theorem linesOf_size (l : List UInt8) : ∀ x ∈ linesOf l, x.length ≤ l.length := by
  induction hn : l.length using Nat.strongRecOn generalizing l with
  | _ n ih =>
    subst hn
    by_cases h : l = []
    · subst h; rw [linesOf_nil]; intro x hx; cases hx
    · rw [linesOf_more l h]
      have hl : 0 < l.length := by cases l <;> simp_all
      intro x hx
      rcases List.mem_cons.1 hx with rfl | hx
      · rw [List.length_take]; omega
      · have := ih (l.drop (nlLen l + 1)).length (by simp; omega) (l.drop (nlLen l + 1)) rfl x hx
        rw [List.length_drop] at this
        omega
end Go.Proofs.YtogkchgjpflmjaaGreatDoor
/- A unit in the making, as a function: what unit's take does with a line, what the document's Line does with it, and that the two agree. -/
namespace Go.Proofs.YtogkchgjpflmjaaGreatDoor
open Go.ChangeShapes Go.WideShapes Go.ChangeAt Go.RowKit
set_option linter.unusedVariables false
structure Asm where
  text : List Itm
  data : List Itm
  equs : List (List UInt8 × Lin)
  sec : Int
  given : List (List UInt8)
  asked : List (List UInt8 × Nat)
def asmE : Asm := ⟨[], [], [], 0, [], []⟩
def labF (lb : List UInt8) : List Itm := if lb = [] then [] else [{ itmE with kind := 1, name := lb }]
def lineU (s : List UInt8) (sec : Int) : Except Int (List UInt8 × Thg) :=
  match parseL s with
  | .error _ => .error 20
  | .ok L => if L.label ≠ [] ∧ legB (str L.label) = false then .error 21 else
    match readF L.op L.args sec with
    | .error k => .error k
    | .ok x => .ok (L.label, x)
def nameU (g : List (List UInt8)) (s : List UInt8) : Option (List (List UInt8)) := if s = [] then some g else if s ∈ g then none else some (g ++ [s])
def layU (a : Asm) (n : Nat) (g : List (List UInt8)) (its : List Itm) (x : Thg) : Asm :=
  { text := if a.sec = 1 then a.text else a.text ++ its, data := if a.sec = 1 then a.data ++ its else a.data, equs := if x.kind = 3 then a.equs ++ [(x.name, x.e)] else a.equs, sec := if x.kind = 5 then x.sec else a.sec, given := g, asked := if x.kind = 4 then a.asked ++ [(x.name, n)] else a.asked }
def takeF (a : Asm) (n : Nat) (s : List UInt8) : Except Int Asm :=
  match lineU s a.sec with
  | .error k => .error k
  | .ok (lb, x) =>
    match nameU a.given lb with
    | none => .error 22
    | some g =>
      match (if x.kind = 3 then nameU g x.name else some g) with
      | none => .error 22
      | some g2 => if a.text.length + a.data.length + (labF lb ++ x.items).length > 8192 then .error 4 else .ok (layU a n g2 (labF lb ++ x.items) x)
theorem leg_ne {s : List UInt8} (h : legB (str s) = true) : s ≠ [] := by
  rintro rfl
  revert h
  decide
end Go.Proofs.YtogkchgjpflmjaaGreatDoor
namespace Go.Proofs.YtogkchgjpflmjaaGreatDoor
open Go.ChangeShapes Go.WideShapes Go.ChangeAt Go.RowKit Go.WideMaps Go.Maps
set_option linter.unusedVariables false
set_option maxRecDepth 100000
theorem lawS : Keyed Tryz.prog 9 := string_keyed Tryz.underlying9
theorem zero145 (w : World) : (zeroValue 145).run Tryz.prog w = .ok (.agg #[]) w := by kernel_rfl
def unitE (v : Value) : Option (DataW Unit × List MemPlace) :=
  match v with
  | .agg a => if a = #[] then some (.agg [], []) else none
  | _ => none
theorem unitE_zero : unitE (.agg #[]) = some (.agg [], []) := rfl
theorem unitE_inv {v : Value} {z : DataW Unit × List MemPlace} (h : unitE v = some z) : v = .agg #[] := by
  unfold unitE at h
  split at h
  · split at h
    · rename_i ha; rw [ha]
    · cases h
  · cases h
def SetIs (w : World) (b n : Nat) (g : List (List UInt8)) : Prop :=
  ∃ D : DataW Unit, w.ownsMap Tryz.prog 9 unitE b n D ∧ IsMap D ∧ ∀ s, has D (.string s) = decide (s ∈ g)
theorem SetIs.lt {w : World} {b n : Nat} {g : List (List UInt8)} (h : SetIs w b n g) : b < w.heap.size := by
  obtain ⟨D, h1, _⟩ := h
  exact h1.lt
theorem SetIs.kept {w w' : World} {b n : Nat} {row : Option Nat} {g : List (List UInt8)} (h : SetIs w b n g) (hg : w.grownBy w' row) (hne : some b ≠ row) : SetIs w' b n g := by
  obtain ⟨D, h1, h2, h3⟩ := h
  exact ⟨D, h1.kept hg hne, h2, h3⟩
theorem setlook_run {w : World} {b n : Nat} {g : List (List UInt8)} (h : SetIs w b n g) (s : List UInt8) (hs : s.length ≤ 1100000) : (Instr.lookup 67 (.map (some b)) (.string (str s)) true).run Tryz.prog w = .ok (.tuple #[.agg #[], .bool (decide (s ∈ g))]) w := by
  obtain ⟨D, hown, hD1, hD2⟩ := h
  have hsz : (str s).size ≤ maxLen := by
    have h2 : (str s).size = s.length := by simp [str, ByteArray.size]
    unfold maxLen
    omega
  have hkey : keyOf Tryz.prog 9 (.string (str s)) = some (.string s) := keyOf_string_mk Tryz.underlying9 hsz
  obtain ⟨v, ps, hrun, hv⟩ := hown.look_ok lawS Tryz.underlying67 (zero145 w) unitE_zero hkey
  rw [hrun, unitE_inv hv, hD2 s]
theorem setspec_put {D : DataW Unit} {g : List (List UInt8)} (h : ∀ s, has D (.string s) = decide (s ∈ g)) (hD : IsMap D) (s : List UInt8) : ∀ x, has (D.put (.string s) (.agg [])) (.string x) = decide (x ∈ g ++ [s]) := by
  intro x
  by_cases hx : x = s
  · subst hx
    rw [has_put_same hD (show WideAt.IsKeyLit (.string x) from trivial)]
    simp
  · have n1 : (Lit.string x) ≠ .string s := fun e => hx (by injection e)
    rw [has_put_other n1, h x]
    simp [hx]
theorem setput_run {w : World} {b n : Nat} {g : List (List UInt8)} (h : SetIs w b n g) (hn : n ≤ 3000000) (s : List UInt8) (hs : s.length ≤ 1100000) :
    ∃ w', (Instr.mapUpdate 67 (.map (some b)) (.string (str s)) (.agg #[])).run Tryz.prog w = .ok () w' ∧ SetIs w' b (n + 1) (g ++ [s]) ∧ w.grownBy w' (some b) := by
  obtain ⟨D, hown, hD1, hD2⟩ := h
  have hsz : (str s).size ≤ maxLen := by
    have h2 : (str s).size = s.length := by simp [str, ByteArray.size]
    unfold maxLen
    omega
  have hkey : keyOf Tryz.prog 9 (.string (str s)) = some (.string s) := keyOf_string_mk Tryz.underlying9 hsz
  obtain ⟨w', hrun, r1, r2⟩ := hown.update lawS Tryz.underlying67 (by unfold maxLen; omega) hkey unitE_zero
  exact ⟨w', hrun, ⟨_, r1, hD1.put _ _, setspec_put hD2 hD1 s⟩, r2⟩
end Go.Proofs.YtogkchgjpflmjaaGreatDoor
