/- T4: what the document's Right wants besides. -/
import Derived.Test.YtmndccbeddaphaaGreatDoorZT3
namespace Go.Proofs.YtmndccbeddaphaaGreatDoor
open Go.ChangeShapes Go.WideShapes Go.ChangeAt Go.RowKit
set_option linter.unusedVariables false
set_option maxRecDepth 100000
def docB (k : Int) (s : ByteArray) (op a b m f : Int) (ts : List Tm) (c n sec : Int) : Bool :=
  if k = 1 then legB s && bareB false true true true s op a b m f ts.length c n
  else if k = 2 then (((decide (sec = 0) && decide (f = 0)) && decide (checkN op a b m (if spansB (shapeN op) then 1 else f) = 0)) && bareB true false false true s op a b m f ts.length c n) && (if shE (shapeN op) then decide (m = 0) && rightF none ts else bareB false false true false s op a b m f ts.length c n)
  else if k = 3 then numOfB 3 n && bareB true true true false s op a b m f ts.length c n
  else if k = 4 then decide (sec = 0) && bareB true true true true s op a b m f ts.length c n
  else if k = 5 then ((decide (sec = 1) && decide (-128 ≤ n)) && decide (n ≤ 255)) && bareB true true true false s op a b m f ts.length c n
  else if k = 6 then (decide (sec = 1) && rightF none ts) && bareB true true false true s op a b m f ts.length c n
  else if k = 7 then ((decide (sec = 1) && decide (0 ≤ n)) && decide (n ≤ 1048576)) && bareB true true true false s op a b m f ts.length c n
  else false
theorem doc_ok (k : Int) (s : ByteArray) (op a b m f : Int) (ts : List Tm) (c n sec : Int) (hsec : sec = 0 ∨ sec = 1) : docB k s op a b m f ts c n sec = okB k s op a b m f ts c n sec := by
  unfold docB okB
  by_cases h1 : k = 1
  · subst h1
    simp [bareB, standsB, nameB, instB, exprB, hasEB, numOfB, isZ5]
  by_cases h2 : k = 2
  · subst h2
    by_cases hf : f = 0
    · subst hf
      cases hE : shE (shapeN op) <;> rcases hsec with rfl | rfl <;> by_cases hm : m = 0 <;> simp [bareB, standsB, nameB, instB, exprB, hasEB, numOfB, hE, hm, Bool.and_assoc, Bool.and_comm, Bool.and_left_comm]
    · simp [bareB, instB, hf]
  by_cases h3 : k = 3
  · subst h3
    simp [bareB, standsB, nameB, instB, exprB, hasEB, isZ5, Bool.and_assoc, Bool.and_comm, Bool.and_left_comm]
  by_cases h4 : k = 4
  · subst h4
    rcases hsec with rfl | rfl <;> simp [bareB, standsB, nameB, instB, exprB, hasEB, numOfB, isZ5]
  by_cases h5 : k = 5
  · subst h5
    rcases hsec with rfl | rfl <;> simp [bareB, standsB, nameB, instB, exprB, hasEB, numOfB, isZ5, Bool.and_assoc, Bool.and_comm]
  by_cases h6 : k = 6
  · subst h6
    rcases hsec with rfl | rfl <;> simp [bareB, standsB, nameB, instB, exprB, hasEB, numOfB, isZ5, Bool.and_assoc, Bool.and_comm]
  by_cases h7 : k = 7
  · subst h7
    rcases hsec with rfl | rfl <;> simp [bareB, standsB, nameB, instB, exprB, hasEB, numOfB, isZ5, Bool.and_assoc, Bool.and_comm, Bool.and_left_comm]
  simp [standsB, h1, h2, h3, h4, h5, h6, h7]
set_option maxHeartbeats 1000000 in
theorem refRight_k (k : Int) (hk2 : k ≠ 2) (s : ByteArray) (hs : s.size ≤ 1100000) (op a b m f : Int) (va : Option Addr) (vc : Nat) (ts : List Tm) (c n sec : Int) (hsec : sec = 0 ∨ sec = 1) (w : World) (hL : TmLies w va ts) (hlen : ts.length ≤ 9000000) (hN : ∀ t ∈ ts, t.name.length ≤ 1100000) :
    Calls Tryz.prog 52 #[itV k s op a b m f va ts.length vc c n, .int .i64 sec] w fun e w' => e = .returned (.int .i64 (if docB k s op a b m f ts c n sec then 0 else 31)) ∧ Below w.heap.size w w' := by
  have hb0 := below_alloc w (.cells (itA k s op a b m f va ts.length vc c n) 86)
  have hs0 : (w.alloc (.cells (itA k s op a b m f va ts.length vc c n) 86)).heap.size = w.heap.size + 1 := by simp
  have hrow : Hid (∀ w1, Below (w.alloc (.cells (itA k s op a b m f va ts.length vc c n) 86)).heap.size (w.alloc (.cells (itA k s op a b m f va ts.length vc c n) 86)) w1 → w1.heap[w.heap.size]? = some (.cells (itA k s op a b m f va ts.length vc c n) 86 (0, 0))) := fun w1 h1 => by rw [h1.block _ (by omega)]; exact heap_alloc_new w _
  have h32 := fun w1 => refLegal_any s hs w1
  have h37 := fun w1 (h1 : Below w.heap.size w w1) => refRight_any va vc ts c w1 (hL.below h1 (Nat.le_refl _)) hlen hN
  have h38 := Hid.intro (fun w1 => power_any n w1)
  have hD : docB k s op a b m f ts c n sec = if k = 1 then legB s && bareB false true true true s op a b m f ts.length c n
    else if k = 3 then numOfB 3 n && bareB true true true false s op a b m f ts.length c n
    else if k = 4 then decide (sec = 0) && bareB true true true true s op a b m f ts.length c n
    else if k = 5 then ((decide (sec = 1) && decide (-128 ≤ n)) && decide (n ≤ 255)) && bareB true true true false s op a b m f ts.length c n
    else if k = 6 then (decide (sec = 1) && rightF none ts) && bareB true true false true s op a b m f ts.length c n
    else if k = 7 then ((decide (sec = 1) && decide (0 ≤ n)) && decide (n ≤ 1048576)) && bareB true true true false s op a b m f ts.length c n
    else false := by unfold docB; rw [if_neg hk2]
  rw [hD]
  clear hD hL hN hs
  generalize legB s = lb at h32 ⊢
  generalize rightF none ts = rf at h37 ⊢
  generalize ts.length = ln at h37 hb0 hs0 hrow hlen ⊢
  clear hlen
  have hbe : ∀ w1, Below (w.alloc (.cells (itA k s op a b m f va ln vc c n) 86)).heap.size (w.alloc (.cells (itA k s op a b m f va ln vc c n) 86)) w1 → Below w.heap.size w w1 := fun w1 h1 => hb0.trans (h1.mono (by omega))
  replace hbe := Hid.intro hbe
  replace h32 := Hid.intro h32
  replace h37 := Hid.intro h37
  by_cases h1 : k = 1
  · subst h1
    rw [if_pos rfl]
    have h33 := fun w1 => bareFTTT 1 s op a b m f va ln vc c n w1
    generalize bareB false true true true s op a b m f ln c n = bb at h33 ⊢
    replace h33 := Hid.intro h33
    rcases hsec with rfl | rfl <;> cases lb <;> (try cases bb)
    all_goals
      go_enter Tryz.func52, Tryz.ntmps52
      go_wp2_with (first | (go_at_call 53; (with_reducible refine (h32.out _).mono ?_); rintro e w1 ⟨rfl, rfl⟩) | (go_at_call 93; (with_reducible refine (h33.out _).mono ?_); rintro e w2 ⟨rfl, hb2⟩))
      all_goals first | omega | skip
      go_ret
      first | exact ⟨rfl, hbe.out _ hb2⟩ | exact ⟨rfl, hb0⟩
  rw [if_neg h1]
  have g1 : (k == 1) = false := by simp [h1]
  have g2 : (k == 2) = false := by simp [hk2]
  by_cases h3 : k = 3
  · subst h3
    rw [if_pos rfl]
    have h33 := fun w1 => bareTTTF 3 s op a b m f va ln vc c n w1
    generalize bareB true true true false s op a b m f ln c n = bb at h33 ⊢
    replace h33 := Hid.intro h33
    generalize numOfB 3 n = lb2 at h38 ⊢
    rcases hsec with rfl | rfl <;> cases lb2 <;> (try cases bb)
    all_goals
      go_enter Tryz.func52, Tryz.ntmps52
      go_wp2_with (first | (go_at_call 96; (with_reducible refine (h38.out _).mono ?_); rintro e w1 ⟨rfl, rfl⟩) | (go_at_call 93; (with_reducible refine (h33.out _).mono ?_); rintro e w2 ⟨rfl, hb2⟩))
      all_goals first | omega | skip
      go_ret
      first | exact ⟨rfl, hbe.out _ hb2⟩ | exact ⟨rfl, hb0⟩
  rw [if_neg h3]
  have g3 : (k == 3) = false := by simp [h3]
  by_cases h4 : k = 4
  · subst h4
    rw [if_pos rfl]
    have h33 := fun w1 => bareTTTT 4 s op a b m f va ln vc c n w1
    generalize bareB true true true true s op a b m f ln c n = bb at h33 ⊢
    replace h33 := Hid.intro h33
    rcases hsec with rfl | rfl
    · cases bb
      all_goals
        go_enter Tryz.func52, Tryz.ntmps52
        go_wp2_with (first | (go_at_call 93; (with_reducible refine (h33.out _).mono ?_); rintro e w2 ⟨rfl, hb2⟩))
        all_goals first | omega | skip
        go_ret
        exact ⟨rfl, hbe.out _ hb2⟩
    · go_enter Tryz.func52, Tryz.ntmps52
      go_wp2
      all_goals first | omega | skip
      go_ret
      exact ⟨rfl, hb0⟩
  rw [if_neg h4]
  have g4 : (k == 4) = false := by simp [h4]
  by_cases h5 : k = 5
  · subst h5
    rw [if_pos rfl]
    have h33 := fun w1 => bareTTTF 5 s op a b m f va ln vc c n w1
    generalize bareB true true true false s op a b m f ln c n = bb at h33 ⊢
    replace h33 := Hid.intro h33
    rcases hsec with rfl | rfl
    · go_enter Tryz.func52, Tryz.ntmps52
      go_wp2
      all_goals first | omega | skip
      go_ret
      exact ⟨rfl, hb0⟩
    · by_cases hlo : -128 ≤ n
      · by_cases hhi : n ≤ 255
        · rw [show decide (-128 ≤ n) = true by simp [hlo], show decide (n ≤ 255) = true by simp [hhi]]
          cases bb
          all_goals
            go_enter Tryz.func52, Tryz.ntmps52
            go_wp2_with (first | (go_at_call 93; (with_reducible refine (h33.out _).mono ?_); rintro e w2 ⟨rfl, hb2⟩))
            all_goals first | omega | skip
            go_ret
            exact ⟨rfl, hbe.out _ hb2⟩
        · rw [show decide (-128 ≤ n) = true by simp [hlo], show decide (n ≤ 255) = false by simp; omega]
          go_enter Tryz.func52, Tryz.ntmps52
          go_wp2
          all_goals first | omega | skip
          go_ret
          exact ⟨rfl, hb0⟩
      · rw [show decide (-128 ≤ n) = false by simp; omega]
        go_enter Tryz.func52, Tryz.ntmps52
        go_wp2
        all_goals first | omega | skip
        go_ret
        exact ⟨rfl, hb0⟩
  rw [if_neg h5]
  have g5 : (k == 5) = false := by simp [h5]
  by_cases h6 : k = 6
  · subst h6
    rw [if_pos rfl]
    have h33 := fun w1 => bareTTFT 6 s op a b m f va ln vc c n w1
    generalize bareB true true false true s op a b m f ln c n = bb at h33 ⊢
    replace h33 := Hid.intro h33
    rcases hsec with rfl | rfl
    · go_enter Tryz.func52, Tryz.ntmps52
      go_wp2
      all_goals first | omega | skip
      go_ret
      exact ⟨rfl, hb0⟩
    · cases rf
      · go_enter Tryz.func52, Tryz.ntmps52
        go_wp2_with (first | (go_at_call 54; (with_reducible refine (h37.out _ hb0).mono ?_); rintro e w1 ⟨rfl, hb1⟩))
        all_goals first | omega | skip
        go_ret
        exact ⟨rfl, hbe.out _ hb1⟩
      · cases bb
        all_goals
          go_enter Tryz.func52, Tryz.ntmps52
          go_wp2_with (first | (go_at_call 54; (with_reducible refine (h37.out _ hb0).mono ?_); rintro e w1 ⟨rfl, hb1⟩; obtain ⟨q0, q1, q2, q3, q4, q5, q6, q7, q8, q9⟩ := rowIt (hrow.out w1 hb1)) | (go_at_call 93; (with_reducible refine (h33.out _).mono ?_); rintro e w2 ⟨rfl, hb2⟩))
          all_goals first | omega | skip
          go_ret
          exact ⟨rfl, hbe.out _ (hb1.trans (hb2.mono hb1.size))⟩
  rw [if_neg h6]
  have g6 : (k == 6) = false := by simp [h6]
  by_cases h7 : k = 7
  · subst h7
    rw [if_pos rfl]
    have h33 := fun w1 => bareTTTF 7 s op a b m f va ln vc c n w1
    generalize bareB true true true false s op a b m f ln c n = bb at h33 ⊢
    replace h33 := Hid.intro h33
    rcases hsec with rfl | rfl
    · go_enter Tryz.func52, Tryz.ntmps52
      go_wp2
      all_goals first | omega | skip
      go_ret
      exact ⟨rfl, hb0⟩
    · by_cases hlo : 0 ≤ n
      · by_cases hhi : n ≤ 1048576
        · rw [show decide (0 ≤ n) = true by simp [hlo], show decide (n ≤ 1048576) = true by simp [hhi]]
          cases bb
          all_goals
            go_enter Tryz.func52, Tryz.ntmps52
            go_wp2_with (first | (go_at_call 93; (with_reducible refine (h33.out _).mono ?_); rintro e w2 ⟨rfl, hb2⟩))
            all_goals first | omega | skip
            go_ret
            exact ⟨rfl, hbe.out _ hb2⟩
        · rw [show decide (0 ≤ n) = true by simp [hlo], show decide (n ≤ 1048576) = false by simp; omega]
          go_enter Tryz.func52, Tryz.ntmps52
          go_wp2
          all_goals first | omega | skip
          go_ret
          exact ⟨rfl, hb0⟩
      · rw [show decide (0 ≤ n) = false by simp; omega]
        go_enter Tryz.func52, Tryz.ntmps52
        go_wp2
        all_goals first | omega | skip
        go_ret
        exact ⟨rfl, hb0⟩
  rw [if_neg h7]
  have g7 : (k == 7) = false := by simp [h7]
  go_enter Tryz.func52, Tryz.ntmps52
  rcases hsec with rfl | rfl
  all_goals
    go_wp2
    all_goals first | omega | skip
    go_ret
    exact ⟨rfl, hb0⟩
end Go.Proofs.YtmndccbeddaphaaGreatDoor
