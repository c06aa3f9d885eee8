/- spandrelkeep's SameItem, SameItems, SameEqus, SameUnit of any two. -/
import Derived.Test.YtmndccbeddaphaaGreatDoorOrd4
import Derived.Lib.Strings
import Derived.BigQuiet
namespace Go.Proofs.YtmndccbeddaphaaGreatDoor
open Go.ChangeShapes Go.WideShapes Go.ChangeAt Go.RowKit Go.Sort
set_option linter.unusedVariables false
set_option linter.unusedSimpArgs false
set_option maxRecDepth 100000
theorem str_ne {s t : List UInt8} (h : s ≠ t) : ((str s).toList == (str t).toList) = false := by
  rw [Lib.toList_data, Lib.toList_data]
  simp only [beq_eq_false_iff_ne, ne_eq, str]
  intro he
  exact h (by simpa using he)
noncomputable def sqB {α : Type} (x y : α) : Bool := @decide (x = y) (Classical.propDecidable _)
theorem sqB_pos {α : Type} {x y : α} (h : x = y) : sqB x y = true := by unfold sqB; exact @decide_eq_true _ (Classical.propDecidable _) h
theorem sqB_neg {α : Type} {x y : α} (h : x ≠ y) : sqB x y = false := by unfold sqB; exact @decide_eq_false _ (Classical.propDecidable _) h
theorem sqB_iff {α : Type} {x y : α} : sqB x y = true ↔ x = y := by unfold sqB; exact @decide_eq_true_iff _ (Classical.propDecidable _)
theorem int_ne {a b : Int} (h : a ≠ b) : (a == b) = false := by simpa using h
set_option maxHeartbeats 1000000 in
theorem smi_k (k : Int) (nm : List UInt8) (op a b m f c n : Int) (k' : Int) (nm' : List UInt8) (op' a' b' m' f' c' n' : Int) (va vb : Option Addr) (vn vc vm vd : Nat) (w : World) (h : k ≠ k') :
    Calls Tryz.prog 91 #[.agg #[.int .i64 k, .string (str nm), .int .i64 op, .int .i64 a, .int .i64 b, .int .i32 m, .int .i64 f, .slice va vn vc, .int .u32 c, .int .i64 n], .agg #[.int .i64 k', .string (str nm'), .int .i64 op', .int .i64 a', .int .i64 b', .int .i32 m', .int .i64 f', .slice vb vm vd, .int .u32 c', .int .i64 n']] w fun e w' => e = .returned (.bool false) ∧ Below w.heap.size w w' := by
  have hf : (k == k') = false := int_ne h
  clear h
  have hb2 : Hid (Below w.heap.size w ((w.alloc (.cells #[.int .i64 k, .string (str nm), .int .i64 op, .int .i64 a, .int .i64 b, .int .i32 m, .int .i64 f, .slice va vn vc, .int .u32 c, .int .i64 n] 86)).alloc (.cells #[.int .i64 k', .string (str nm'), .int .i64 op', .int .i64 a', .int .i64 b', .int .i32 m', .int .i64 f', .slice vb vm vd, .int .u32 c', .int .i64 n'] 86))) := (below_alloc w _).alloc (by simp) _
  go_enter Tryz.func91, Tryz.ntmps91
  go_wp2
  all_goals first | omega | skip
  go_ret
  exact ⟨rfl, hb2.out⟩
set_option maxHeartbeats 1000000 in
theorem smi_nm (k : Int) (nm : List UInt8) (op a b m f c n : Int) (k' : Int) (nm' : List UInt8) (op' a' b' m' f' c' n' : Int) (va vb : Option Addr) (vn vc vm vd : Nat) (w : World) (h : nm ≠ nm') :
    Calls Tryz.prog 91 #[.agg #[.int .i64 k, .string (str nm), .int .i64 op, .int .i64 a, .int .i64 b, .int .i32 m, .int .i64 f, .slice va vn vc, .int .u32 c, .int .i64 n], .agg #[.int .i64 k, .string (str nm'), .int .i64 op', .int .i64 a', .int .i64 b', .int .i32 m', .int .i64 f', .slice vb vm vd, .int .u32 c', .int .i64 n']] w fun e w' => e = .returned (.bool false) ∧ Below w.heap.size w w' := by
  have hf : ((str nm).toList == (str nm').toList) = false := str_ne h
  clear h
  have hb2 : Hid (Below w.heap.size w ((w.alloc (.cells #[.int .i64 k, .string (str nm), .int .i64 op, .int .i64 a, .int .i64 b, .int .i32 m, .int .i64 f, .slice va vn vc, .int .u32 c, .int .i64 n] 86)).alloc (.cells #[.int .i64 k, .string (str nm'), .int .i64 op', .int .i64 a', .int .i64 b', .int .i32 m', .int .i64 f', .slice vb vm vd, .int .u32 c', .int .i64 n'] 86))) := (below_alloc w _).alloc (by simp) _
  go_enter Tryz.func91, Tryz.ntmps91
  go_wp2
  all_goals first | omega | skip
  go_ret
  exact ⟨rfl, hb2.out⟩
set_option maxHeartbeats 1000000 in
theorem smi_op (k : Int) (nm : List UInt8) (op a b m f c n : Int) (k' : Int) (nm' : List UInt8) (op' a' b' m' f' c' n' : Int) (va vb : Option Addr) (vn vc vm vd : Nat) (w : World) (h : op ≠ op') :
    Calls Tryz.prog 91 #[.agg #[.int .i64 k, .string (str nm), .int .i64 op, .int .i64 a, .int .i64 b, .int .i32 m, .int .i64 f, .slice va vn vc, .int .u32 c, .int .i64 n], .agg #[.int .i64 k, .string (str nm), .int .i64 op', .int .i64 a', .int .i64 b', .int .i32 m', .int .i64 f', .slice vb vm vd, .int .u32 c', .int .i64 n']] w fun e w' => e = .returned (.bool false) ∧ Below w.heap.size w w' := by
  have hf : (op == op') = false := int_ne h
  clear h
  have hb2 : Hid (Below w.heap.size w ((w.alloc (.cells #[.int .i64 k, .string (str nm), .int .i64 op, .int .i64 a, .int .i64 b, .int .i32 m, .int .i64 f, .slice va vn vc, .int .u32 c, .int .i64 n] 86)).alloc (.cells #[.int .i64 k, .string (str nm), .int .i64 op', .int .i64 a', .int .i64 b', .int .i32 m', .int .i64 f', .slice vb vm vd, .int .u32 c', .int .i64 n'] 86))) := (below_alloc w _).alloc (by simp) _
  go_enter Tryz.func91, Tryz.ntmps91
  go_wp2
  all_goals first | omega | skip
  go_ret
  exact ⟨rfl, hb2.out⟩
set_option maxHeartbeats 1000000 in
theorem smi_a (k : Int) (nm : List UInt8) (op a b m f c n : Int) (k' : Int) (nm' : List UInt8) (op' a' b' m' f' c' n' : Int) (va vb : Option Addr) (vn vc vm vd : Nat) (w : World) (h : a ≠ a') :
    Calls Tryz.prog 91 #[.agg #[.int .i64 k, .string (str nm), .int .i64 op, .int .i64 a, .int .i64 b, .int .i32 m, .int .i64 f, .slice va vn vc, .int .u32 c, .int .i64 n], .agg #[.int .i64 k, .string (str nm), .int .i64 op, .int .i64 a', .int .i64 b', .int .i32 m', .int .i64 f', .slice vb vm vd, .int .u32 c', .int .i64 n']] w fun e w' => e = .returned (.bool false) ∧ Below w.heap.size w w' := by
  have hf : (a == a') = false := int_ne h
  clear h
  have hb2 : Hid (Below w.heap.size w ((w.alloc (.cells #[.int .i64 k, .string (str nm), .int .i64 op, .int .i64 a, .int .i64 b, .int .i32 m, .int .i64 f, .slice va vn vc, .int .u32 c, .int .i64 n] 86)).alloc (.cells #[.int .i64 k, .string (str nm), .int .i64 op, .int .i64 a', .int .i64 b', .int .i32 m', .int .i64 f', .slice vb vm vd, .int .u32 c', .int .i64 n'] 86))) := (below_alloc w _).alloc (by simp) _
  go_enter Tryz.func91, Tryz.ntmps91
  go_wp2
  all_goals first | omega | skip
  go_ret
  exact ⟨rfl, hb2.out⟩
set_option maxHeartbeats 1000000 in
theorem smi_b (k : Int) (nm : List UInt8) (op a b m f c n : Int) (k' : Int) (nm' : List UInt8) (op' a' b' m' f' c' n' : Int) (va vb : Option Addr) (vn vc vm vd : Nat) (w : World) (h : b ≠ b') :
    Calls Tryz.prog 91 #[.agg #[.int .i64 k, .string (str nm), .int .i64 op, .int .i64 a, .int .i64 b, .int .i32 m, .int .i64 f, .slice va vn vc, .int .u32 c, .int .i64 n], .agg #[.int .i64 k, .string (str nm), .int .i64 op, .int .i64 a, .int .i64 b', .int .i32 m', .int .i64 f', .slice vb vm vd, .int .u32 c', .int .i64 n']] w fun e w' => e = .returned (.bool false) ∧ Below w.heap.size w w' := by
  have hf : (b == b') = false := int_ne h
  clear h
  have hb2 : Hid (Below w.heap.size w ((w.alloc (.cells #[.int .i64 k, .string (str nm), .int .i64 op, .int .i64 a, .int .i64 b, .int .i32 m, .int .i64 f, .slice va vn vc, .int .u32 c, .int .i64 n] 86)).alloc (.cells #[.int .i64 k, .string (str nm), .int .i64 op, .int .i64 a, .int .i64 b', .int .i32 m', .int .i64 f', .slice vb vm vd, .int .u32 c', .int .i64 n'] 86))) := (below_alloc w _).alloc (by simp) _
  go_enter Tryz.func91, Tryz.ntmps91
  go_wp2
  all_goals first | omega | skip
  go_ret
  exact ⟨rfl, hb2.out⟩
set_option maxHeartbeats 1000000 in
theorem smi_m (k : Int) (nm : List UInt8) (op a b m f c n : Int) (k' : Int) (nm' : List UInt8) (op' a' b' m' f' c' n' : Int) (va vb : Option Addr) (vn vc vm vd : Nat) (w : World) (h : m ≠ m') :
    Calls Tryz.prog 91 #[.agg #[.int .i64 k, .string (str nm), .int .i64 op, .int .i64 a, .int .i64 b, .int .i32 m, .int .i64 f, .slice va vn vc, .int .u32 c, .int .i64 n], .agg #[.int .i64 k, .string (str nm), .int .i64 op, .int .i64 a, .int .i64 b, .int .i32 m', .int .i64 f', .slice vb vm vd, .int .u32 c', .int .i64 n']] w fun e w' => e = .returned (.bool false) ∧ Below w.heap.size w w' := by
  have hf : (m == m') = false := int_ne h
  clear h
  have hb2 : Hid (Below w.heap.size w ((w.alloc (.cells #[.int .i64 k, .string (str nm), .int .i64 op, .int .i64 a, .int .i64 b, .int .i32 m, .int .i64 f, .slice va vn vc, .int .u32 c, .int .i64 n] 86)).alloc (.cells #[.int .i64 k, .string (str nm), .int .i64 op, .int .i64 a, .int .i64 b, .int .i32 m', .int .i64 f', .slice vb vm vd, .int .u32 c', .int .i64 n'] 86))) := (below_alloc w _).alloc (by simp) _
  go_enter Tryz.func91, Tryz.ntmps91
  go_wp2
  all_goals first | omega | skip
  go_ret
  exact ⟨rfl, hb2.out⟩
set_option maxHeartbeats 1000000 in
theorem smi_f (k : Int) (nm : List UInt8) (op a b m f c n : Int) (k' : Int) (nm' : List UInt8) (op' a' b' m' f' c' n' : Int) (va vb : Option Addr) (vn vc vm vd : Nat) (w : World) (h : f ≠ f') :
    Calls Tryz.prog 91 #[.agg #[.int .i64 k, .string (str nm), .int .i64 op, .int .i64 a, .int .i64 b, .int .i32 m, .int .i64 f, .slice va vn vc, .int .u32 c, .int .i64 n], .agg #[.int .i64 k, .string (str nm), .int .i64 op, .int .i64 a, .int .i64 b, .int .i32 m, .int .i64 f', .slice vb vm vd, .int .u32 c', .int .i64 n']] w fun e w' => e = .returned (.bool false) ∧ Below w.heap.size w w' := by
  have hf : (f == f') = false := int_ne h
  clear h
  have hb2 : Hid (Below w.heap.size w ((w.alloc (.cells #[.int .i64 k, .string (str nm), .int .i64 op, .int .i64 a, .int .i64 b, .int .i32 m, .int .i64 f, .slice va vn vc, .int .u32 c, .int .i64 n] 86)).alloc (.cells #[.int .i64 k, .string (str nm), .int .i64 op, .int .i64 a, .int .i64 b, .int .i32 m, .int .i64 f', .slice vb vm vd, .int .u32 c', .int .i64 n'] 86))) := (below_alloc w _).alloc (by simp) _
  go_enter Tryz.func91, Tryz.ntmps91
  go_wp2
  all_goals first | omega | skip
  go_ret
  exact ⟨rfl, hb2.out⟩
set_option maxHeartbeats 1000000 in
theorem smi_en (k : Int) (nm : List UInt8) (op a b m f : Int) (ts ts' : List Tm) (c c' n n' : Int) (va vb : Option Addr) (vc vd : Nat) (w : World) (h1 : TmLies w va ts) (h2 : TmLies w vb ts') (hm : ts.length ≤ 9000000) (hm' : ts'.length ≤ 9000000) (h : ¬ (ts = ts' ∧ c = c' ∧ n = n')) :
    Calls Tryz.prog 91 #[.agg #[.int .i64 k, .string (str nm), .int .i64 op, .int .i64 a, .int .i64 b, .int .i32 m, .int .i64 f, .slice va ts.length vc, .int .u32 c, .int .i64 n], .agg #[.int .i64 k, .string (str nm), .int .i64 op, .int .i64 a, .int .i64 b, .int .i32 m, .int .i64 f, .slice vb ts'.length vd, .int .u32 c', .int .i64 n']] w fun e w' => e = .returned (.bool false) ∧ Below w.heap.size w w' := by
  have h31 : Hid (∀ w1, Below w.heap.size w w1 → Calls Tryz.prog 92 #[linV (.slice va ts.length vc) c, linV (.slice vb ts'.length vd) c'] w1 fun e w' => e = .returned (.bool (sameL ts ts' c c')) ∧ Below w1.heap.size w1 w') := fun w1 hb => refSame_any va vb vc vd ts ts' c c' w1 (h1.below hb (Nat.le_refl _)) (h2.below hb (Nat.le_refl _)) hm hm'
  have hs : sameL ts ts' c c' = false ∨ (sameL ts ts' c c' = true ∧ (n == n') = false) := by
    unfold sameL
    by_cases hc : c = c' ∧ ts = ts'
    · right
      refine ⟨by simp [hc.1, hc.2], int_ne fun e => h ⟨hc.2, hc.1, e⟩⟩
    · left
      by_cases h3 : c = c'
      · simp [h3]
        exact fun e => hc ⟨h3, e⟩
      · simp [h3]
  clear h1 h2 h
  generalize sameL ts ts' c c' = B at *
  generalize ts.length = ln at *
  generalize ts'.length = lm at *
  have hb2 : Hid (Below w.heap.size w ((w.alloc (.cells #[.int .i64 k, .string (str nm), .int .i64 op, .int .i64 a, .int .i64 b, .int .i32 m, .int .i64 f, .slice va ln vc, .int .u32 c, .int .i64 n] 86)).alloc (.cells #[.int .i64 k, .string (str nm), .int .i64 op, .int .i64 a, .int .i64 b, .int .i32 m, .int .i64 f, .slice vb lm vd, .int .u32 c', .int .i64 n'] 86))) := (below_alloc w _).alloc (by simp) _
  have ht := Hid.intro (two_rows' w #[.int .i64 k, .string (str nm), .int .i64 op, .int .i64 a, .int .i64 b, .int .i32 m, .int .i64 f, .slice va ln vc, .int .u32 c, .int .i64 n] #[.int .i64 k, .string (str nm), .int .i64 op, .int .i64 a, .int .i64 b, .int .i32 m, .int .i64 f, .slice vb lm vd, .int .u32 c', .int .i64 n'] 86 86)
  rcases hs with rfl | ⟨rfl, hn⟩
  · go_enter Tryz.func91, Tryz.ntmps91
    go_wp2_with (go_at_call 92; (with_reducible refine (h31.out _ hb2.out).mono ?_); rintro e w2 ⟨rfl, hb3⟩)
    all_goals first | omega | skip
    go_ret
    exact ⟨rfl, hb2.out.trans (hb3.mono (by simp; omega))⟩
  · go_enter Tryz.func91, Tryz.ntmps91
    go_wp2_with (go_at_call 92; (with_reducible refine (h31.out _ hb2.out).mono ?_); rintro e w2 ⟨rfl, hb3⟩; have z9 : w2.cell? ⟨w.heap.size, 9, none⟩ = some (.int .i64 n) := (cell_blockT ((hb3.block _ (by simp; omega)).trans ht.out.1) 9).trans rfl; have y9 : w2.cell? ⟨w.heap.size + 1, 9, none⟩ = some (.int .i64 n') := (cell_blockT ((hb3.block _ (by simp)).trans ht.out.2) 9).trans rfl)
    all_goals first | omega | skip
    go_ret
    exact ⟨rfl, hb2.out.trans (hb3.mono (by simp; omega))⟩
theorem sameItem_is (x y : Itm) (va vb : Option Addr) (vc vd : Nat) (w : World) (h1 : TmLies w va x.e.terms) (h2 : TmLies w vb y.e.terms) (hm : x.e.terms.length ≤ 9000000) (hm' : y.e.terms.length ≤ 9000000) :
    Calls Tryz.prog 91 #[.agg (itmCells x (.slice va x.e.terms.length vc)), .agg (itmCells y (.slice vb y.e.terms.length vd))] w fun e w' => e = .returned (.bool (sqB x y)) ∧ Below w.heap.size w w' := by
  by_cases he : x = y
  · rw [sqB_pos he]
    subst he
    exact sameItem_any x va vb vc vd w h1 h2 hm
  · rw [sqB_neg he]
    obtain ⟨k, nm, op, a, b, m, f, ⟨ts, c⟩, n⟩ := x
    obtain ⟨k', nm', op', a', b', m', f', ⟨ts', c'⟩, n'⟩ := y
    by_cases q_k : k = k'
    rotate_left
    · exact smi_k k nm op a b m f c n k' nm' op' a' b' m' f' c' n' va vb _ vc _ vd w q_k
    subst q_k
    by_cases q_nm : nm = nm'
    rotate_left
    · exact smi_nm k nm op a b m f c n k nm' op' a' b' m' f' c' n' va vb _ vc _ vd w q_nm
    subst q_nm
    by_cases q_op : op = op'
    rotate_left
    · exact smi_op k nm op a b m f c n k nm op' a' b' m' f' c' n' va vb _ vc _ vd w q_op
    subst q_op
    by_cases q_a : a = a'
    rotate_left
    · exact smi_a k nm op a b m f c n k nm op a' b' m' f' c' n' va vb _ vc _ vd w q_a
    subst q_a
    by_cases q_b : b = b'
    rotate_left
    · exact smi_b k nm op a b m f c n k nm op a b' m' f' c' n' va vb _ vc _ vd w q_b
    subst q_b
    by_cases q_m : m = m'
    rotate_left
    · exact smi_m k nm op a b m f c n k nm op a b m' f' c' n' va vb _ vc _ vd w q_m
    subst q_m
    by_cases q_f : f = f'
    rotate_left
    · exact smi_f k nm op a b m f c n k nm op a b m f' c' n' va vb _ vc _ vd w q_f
    subst q_f
    exact smi_en k nm op a b m f ts ts' c c' n n' va vb vc vd w h1 h2 hm hm' (fun hh => he (by rw [hh.1, hh.2.1, hh.2.2]))
theorem take_eq {α : Type} {l m : List α} {i : Nat} {x : α} (h : l.take i = m.take i) (hx : l[i]? = some x) (hy : m[i]? = some x) : l.take (i + 1) = m.take (i + 1) := by rw [List.take_add_one, List.take_add_one, h, hx, hy]
theorem ne_at {α : Type} {l m : List α} {i : Nat} {x y : α} (hx : l[i]? = some x) (hy : m[i]? = some y) (h : x ≠ y) : l ≠ m := fun e => by
  subst e
  rw [hx] at hy
  cases hy
  exact h rfl
theorem linV_eq {x y : Lin} : sameL x.terms y.terms x.const y.const = sqB x y := by
  unfold sameL
  by_cases h : x = y
  · rw [sqB_pos h, h]; simp
  · rw [sqB_neg h]
    by_cases h1 : x.const = y.const
    · have : x.terms ≠ y.terms := fun e => h (by cases x; cases y; simp_all)
      simp [h1, this]
    · simp [h1]
set_option maxHeartbeats 4000000 in
theorem sameStr_is (l m : List (List UInt8)) (hm : l.length ≤ 1100000) (hm' : m.length ≤ 1100000) (ai bi : Option Addr) (ci di : Nat) (w : World) (h1 : StIn w ai l) (h2 : StIn w bi m) :
    Calls Tryz.prog 49 #[.slice ai l.length ci, .slice bi m.length di] w fun e w' => e = .returned (.bool (sqB l m)) ∧ Below w.heap.size w w' := by
  by_cases hlen : l.length = m.length
  rotate_left
  · rw [sqB_neg (fun e => hlen (by rw [e]))]
    obtain ⟨n0, hn0⟩ : ∃ n0, n0 = l.length := ⟨_, rfl⟩
    obtain ⟨n1, hn1⟩ : ∃ n1, n1 = m.length := ⟨_, rfl⟩
    rw [← hn0, ← hn1] at hlen ⊢
    have hne : ((n0 : Int) == (n1 : Int)) = false := int_ne (by omega)
    have hne2 : ¬ (n0 = n1) := hlen
    clear hn0 hn1 h1 h2
    go_enter Tryz.func49, Tryz.ntmps49
    go_wp2
    all_goals first | omega | skip
    go_ret
    exact ⟨rfl, Below.refl _ _⟩
  · obtain ⟨ni, hn⟩ : ∃ ni, ni = l.length := ⟨_, rfl⟩
    rw [← hlen, ← hn]
    have hnm : ni ≤ 1100000 := by omega
    rw [← hn] at hlen
    replace hn := Hid.intro hn
    replace hlen := Hid.intro hlen
    have hyes : Hid (l.take ni = m.take ni → sqB l m = true) := fun h => sqB_pos (by rwa [List.take_of_length_le (by rw [hn.out]; exact Nat.le_refl _), List.take_of_length_le (by rw [hlen.out]; exact Nat.le_refl _)] at h)
    have hno : Hid (∀ i x y, l[i]? = some x → m[i]? = some y → x ≠ y → sqB l m = false) := fun i x y hx hy hne => sqB_neg (ne_at hx hy hne)
    generalize sqB l m = AA at *
    clear hm hm'
    replace h1 := Hid.intro h1
    replace h2 := Hid.intro h2
    go_enter Tryz.func49, Tryz.ntmps49
    go_wp2
    all_goals first | omega | skip
    go_loopw [5] (fun v5 wr => ∃ i : Nat, i ≤ ni ∧ v5 = .int .i64 (i : Int) ∧ Hid (Below w.heap.size w wr) ∧ Hid (l.take i = m.take i)) (fun v5 wr => ni - (intOf v5).toNat)
    case atStart => exact ⟨0, by omega, rfl, Hid.intro (Below.refl _ _), rfl⟩
    case round =>
      obtain ⟨i, hi, rfl, hB, hT⟩ := hrel
      by_cases hlt : i < ni
      · obtain ⟨x, hx⟩ : ∃ x, l[i]? = some x := ⟨l[i]'(by rw [← hn.out]; exact hlt), List.getElem?_eq_getElem _⟩
        obtain ⟨y, hy⟩ : ∃ y, m[i]? = some y := ⟨m[i]'(by rw [← hlen.out]; exact hlt), List.getElem?_eq_getElem _⟩
        have hP : Hid (∀ p : BelowOf wr, Below w.heap.size w p.wd) := fun p => hB.out.trans (p.h.mono hB.out.size)
        obtain ⟨g, o, hg, hgl, hI⟩ := stIn_at h1.out hx
        obtain ⟨g', o', hg', hgl', hJ⟩ := stIn_at h2.out hy
        subst hg
        subst hg'
        have c0 : ∀ p : BelowOf wr, p.wd.cell? ⟨g, o + i, none⟩ = some (.string (str x)) := fun p => ((hP.out p).cell (p := ⟨g, _, none⟩) hgl).trans hI
        have d0 : ∀ p : BelowOf wr, p.wd.cell? ⟨g', o' + i, none⟩ = some (.string (str y)) := fun p => ((hP.out p).cell (p := ⟨g', _, none⟩) hgl').trans hJ
        have hxH := Hid.intro hx
        have hyH := Hid.intro hy
        have hlt2 : (i : Int) < (ni : Int) := by omega
        have i0 : (0 : Int) ≤ (i : Int) := by omega
        clear hI hJ hx hy hgl hgl'
        by_cases hxy : x = y
        rotate_left
        · have hf := str_ne hxy
          go_wp2_with fail
          all_goals first | omega | skip
          refine wp_region_quiet_below (by kernel_rfl) (by kernel_rfl) ?_
          repeat (first | (with_reducible refine wpQuiet_skip (by with_unfolding_all rfl) ?_; simp only [Act.put, List.setIfInBounds_toArray, List.set_cons_zero, List.set_cons_succ]) | (with_reducible refine wpQuiet_step (fun K hK => ?_); go_simp; first | (with_reducible refine hK _ ?_; clear hK K) | (apply Exists.intro; refine ⟨fun p => ?_, hK _ ?_⟩; fail; clear hK K)))
          with_reducible refine wpQuiet_nil ?_
          intro _ hw'
          obtain ⟨pq, hw''⟩ := hw'
          subst hw''
          clear c0 d0
          have hend := Hid.intro (hP.out pq)
          have hA := Hid.intro (hno.out i x y hxH.out hyH.out hxy)
          go_wp2_with fail
          all_goals first | omega | skip
          go_ret
          exact ⟨by rw [hA.out]; rfl, hend.out⟩
        · have hc0 : ∀ p : BelowOf wr, p.wd.cell? ⟨g', o' + i, none⟩ = some (.string (str x)) := by rw [hxy]; exact d0
          clear d0
          go_wp2_with fail
          all_goals first | omega | skip
          refine wp_region_quiet_below (by kernel_rfl) (by kernel_rfl) ?_
          repeat (first | (with_reducible refine wpQuiet_skip (by with_unfolding_all rfl) ?_; simp only [Act.put, List.setIfInBounds_toArray, List.set_cons_zero, List.set_cons_succ]) | (with_reducible refine wpQuiet_step (fun K hK => ?_); go_simp; first | (with_reducible refine hK _ ?_; clear hK K) | (apply Exists.intro; refine ⟨fun p => ?_, hK _ ?_⟩; fail; clear hK K)))
          with_reducible refine wpQuiet_nil ?_
          intro _ hw'
          obtain ⟨pq, hw''⟩ := hw'
          subst hw''
          clear c0 hc0
          have hend := Hid.intro (hP.out pq)
          have hTT := Hid.intro (take_eq hT.out hxH.out (by rw [hxy]; exact hyH.out))
          go_wp2_with fail
          all_goals first | omega | skip
          go_roundw
          case rel => exact ⟨i + 1, by omega, by go_num, hend, hTT⟩
          case measure => simp [intOf]; omega
      · have hin : i = ni := by omega
        subst hin
        have hlt3 : ¬ ((i : Int) < (i : Int)) := by omega
        have hA := Hid.intro (hyes.out hT.out)
        go_wp2
        all_goals first | omega | skip
        go_ret
        exact ⟨by rw [hA.out]; rfl, hB.out⟩
set_option maxHeartbeats 4000000 in
theorem sameItems_is (l m : List Itm) (hm : l.length ≤ 1100000) (hm' : m.length ≤ 1100000) (ht : ∀ x ∈ l, x.e.terms.length ≤ 9000000) (ht' : ∀ x ∈ m, x.e.terms.length ≤ 9000000) (ai bi : Option Addr) (ci di : Nat) (w : World) (h1 : ItIn w ai l) (h2 : ItIn w bi m) :
    Calls Tryz.prog 47 #[.slice ai l.length ci, .slice bi m.length di] w fun e w' => e = .returned (.bool (sqB l m)) ∧ Below w.heap.size w w' := by
  by_cases hlen : l.length = m.length
  rotate_left
  · rw [sqB_neg (fun e => hlen (by rw [e]))]
    obtain ⟨n0, hn0⟩ : ∃ n0, n0 = l.length := ⟨_, rfl⟩
    obtain ⟨n1, hn1⟩ : ∃ n1, n1 = m.length := ⟨_, rfl⟩
    rw [← hn0, ← hn1] at hlen ⊢
    have hne : ((n0 : Int) == (n1 : Int)) = false := int_ne (by omega)
    have hne2 : ¬ (n0 = n1) := hlen
    clear hn0 hn1 h1 h2
    go_enter Tryz.func47, Tryz.ntmps47
    go_wp2
    all_goals first | omega | skip
    go_ret
    exact ⟨rfl, Below.refl _ _⟩
  · obtain ⟨ni, hn⟩ : ∃ ni, ni = l.length := ⟨_, rfl⟩
    rw [← hlen, ← hn]
    have hnm : ni ≤ 1100000 := by omega
    rw [← hn] at hlen
    replace hn := Hid.intro hn
    replace hlen := Hid.intro hlen
    have hyes : Hid (l.take ni = m.take ni → sqB l m = true) := fun h => sqB_pos (by rwa [List.take_of_length_le (by rw [hn.out]; exact Nat.le_refl _), List.take_of_length_le (by rw [hlen.out]; exact Nat.le_refl _)] at h)
    have hno : Hid (∀ i x y, l[i]? = some x → m[i]? = some y → x ≠ y → sqB l m = false) := fun i x y hx hy hne => sqB_neg (ne_at hx hy hne)
    generalize sqB l m = AA at *
    clear hm hm'
    replace h1 := Hid.intro h1
    replace h2 := Hid.intro h2
    go_enter Tryz.func47, Tryz.ntmps47
    go_wp2
    all_goals first | omega | skip
    go_loopw [5] (fun v5 wr => ∃ i : Nat, i ≤ ni ∧ v5 = .int .i64 (i : Int) ∧ Hid (Below w.heap.size w wr) ∧ Hid (l.take i = m.take i)) (fun v5 wr => ni - (intOf v5).toNat)
    case atStart => exact ⟨0, by omega, rfl, Hid.intro (Below.refl _ _), rfl⟩
    case round =>
      obtain ⟨i, hi, rfl, hB, hT⟩ := hrel
      by_cases hlt : i < ni
      · obtain ⟨x, hx⟩ : ∃ x, l[i]? = some x := ⟨l[i]'(by rw [← hn.out]; exact hlt), List.getElem?_eq_getElem _⟩
        obtain ⟨y, hy⟩ : ∃ y, m[i]? = some y := ⟨m[i]'(by rw [← hlen.out]; exact hlt), List.getElem?_eq_getElem _⟩
        have hP : Hid (∀ p : BelowOf wr, Below w.heap.size w p.wd) := fun p => hB.out.trans (p.h.mono hB.out.size)
        obtain ⟨g, o, hg, hgl, xa, xc, hI, hTm⟩ := itIn_at h1.out hx
        obtain ⟨g', o', hg', hgl', ya, yc, hJ, hTn⟩ := itIn_at h2.out hy
        subst hg
        subst hg'
        have h56 : Hid (∀ p : BelowOf wr, Calls Tryz.prog 91 #[.agg (itmCells x (.slice xa x.e.terms.length xc)), .agg (itmCells y (.slice ya y.e.terms.length yc))] p.wd fun e w' => e = .returned (.bool (sqB x y)) ∧ Below p.wd.heap.size p.wd w') := fun p => sameItem_is x y xa ya xc yc p.wd (hTm.below (hP.out p) (Nat.le_refl _)) (hTn.below (hP.out p) (Nat.le_refl _)) (ht x (List.mem_of_getElem? hx)) (ht' y (List.mem_of_getElem? hy))
        have cI := fun p : BelowOf wr => hI.below (hP.out p) hgl
        have cJ := fun p : BelowOf wr => hJ.below (hP.out p) hgl'
        generalize x.e.terms.length = xn at h56 cI
        generalize y.e.terms.length = yn at h56 cJ
        have c0 := fun p => (cI p).kind
        have c1 := fun p => (cI p).name
        have c2 := fun p => (cI p).op
        have c3 := fun p => (cI p).a
        have c4 := fun p => (cI p).b
        have c5 := fun p => (cI p).m
        have c6 := fun p => (cI p).form
        have c7 := fun p => (cI p).terms
        have c8 := fun p => (cI p).const
        have c9 := fun p => (cI p).n
        have d0 := fun p => (cJ p).kind
        have d1 := fun p => (cJ p).name
        have d2 := fun p => (cJ p).op
        have d3 := fun p => (cJ p).a
        have d4 := fun p => (cJ p).b
        have d5 := fun p => (cJ p).m
        have d6 := fun p => (cJ p).form
        have d7 := fun p => (cJ p).terms
        have d8 := fun p => (cJ p).const
        have d9 := fun p => (cJ p).n
        clear cI cJ hI hJ hTm hTn hgl hgl'
        have hxH := Hid.intro hx
        have hyH := Hid.intro hy
        have hlt2 : (i : Int) < (ni : Int) := by omega
        have i0 : (0 : Int) ≤ (i : Int) := by omega
        clear hx hy
        by_cases hxy : x = y
        rotate_left
        · rw [sqB_neg hxy] at h56
          go_wp2_with fail
          all_goals first | omega | skip
          refine wp_region_quiet_below (by kernel_rfl) (by kernel_rfl) ?_
          repeat (first | (with_reducible refine wpQuiet_skip (by with_unfolding_all rfl) ?_; simp only [Act.put, List.setIfInBounds_toArray, List.set_cons_zero, List.set_cons_succ]) | (with_reducible refine wpQuiet_step (fun K hK => ?_); go_simp; first | (with_reducible refine hK _ ?_; clear hK K) | (apply Exists.intro; refine ⟨fun p => ?_, hK _ ?_⟩; (go_at_call 91; with_reducible refine below_calls (h56.out p)); clear hK K)))
          with_reducible refine wpQuiet_nil ?_
          intro _ hw'
          obtain ⟨pq, hw''⟩ := hw'
          subst hw''
          clear c0 d0 c1 d1 c2 d2 c3 d3 c4 d4 c5 d5 c6 d6 c7 d7 c8 d8 c9 d9
          have hend := Hid.intro (hP.out pq)
          have hA := Hid.intro (hno.out i x y hxH.out hyH.out hxy)
          go_wp2_with fail
          all_goals first | omega | skip
          go_ret
          exact ⟨by rw [hA.out]; rfl, hend.out⟩
        · rw [sqB_pos hxy] at h56
          replace hxy := Hid.intro hxy
          go_wp2_with fail
          all_goals first | omega | skip
          refine wp_region_quiet_below (by kernel_rfl) (by kernel_rfl) ?_
          repeat (first | (with_reducible refine wpQuiet_skip (by with_unfolding_all rfl) ?_; simp only [Act.put, List.setIfInBounds_toArray, List.set_cons_zero, List.set_cons_succ]) | (with_reducible refine wpQuiet_step (fun K hK => ?_); go_simp; first | (with_reducible refine hK _ ?_; clear hK K) | (apply Exists.intro; refine ⟨fun p => ?_, hK _ ?_⟩; (go_at_call 91; with_reducible refine below_calls (h56.out p)); clear hK K)))
          with_reducible refine wpQuiet_nil ?_
          intro _ hw'
          obtain ⟨pq, hw''⟩ := hw'
          subst hw''
          clear c0 d0 c1 d1 c2 d2 c3 d3 c4 d4 c5 d5 c6 d6 c7 d7 c8 d8 c9 d9
          have hend := Hid.intro (hP.out pq)
          have hTT := Hid.intro (take_eq hT.out hxH.out (by rw [hxy.out]; exact hyH.out))
          go_wp2_with fail
          all_goals first | omega | skip
          go_roundw
          case rel => exact ⟨i + 1, by omega, by go_num, hend, hTT⟩
          case measure => simp [intOf]; omega
      · have hin : i = ni := by omega
        subst hin
        have hlt3 : ¬ ((i : Int) < (i : Int)) := by omega
        have hA := Hid.intro (hyes.out hT.out)
        go_wp2
        all_goals first | omega | skip
        go_ret
        exact ⟨by rw [hA.out]; rfl, hB.out⟩
set_option maxHeartbeats 4000000 in
theorem sameEqus_is (l m : List (List UInt8 × Lin)) (hm : l.length ≤ 1100000) (hm' : m.length ≤ 1100000) (ht : ∀ x ∈ l, x.2.terms.length ≤ 9000000) (ht' : ∀ x ∈ m, x.2.terms.length ≤ 9000000) (ai bi : Option Addr) (ci di : Nat) (w : World) (h1 : EqIn w ai l) (h2 : EqIn w bi m) :
    Calls Tryz.prog 48 #[.slice ai l.length ci, .slice bi m.length di] w fun e w' => e = .returned (.bool (sqB l m)) ∧ Below w.heap.size w w' := by
  by_cases hlen : l.length = m.length
  rotate_left
  · rw [sqB_neg (fun e => hlen (by rw [e]))]
    obtain ⟨n0, hn0⟩ : ∃ n0, n0 = l.length := ⟨_, rfl⟩
    obtain ⟨n1, hn1⟩ : ∃ n1, n1 = m.length := ⟨_, rfl⟩
    rw [← hn0, ← hn1] at hlen ⊢
    have hne : ((n0 : Int) == (n1 : Int)) = false := int_ne (by omega)
    have hne2 : ¬ (n0 = n1) := hlen
    clear hn0 hn1 h1 h2
    go_enter Tryz.func48, Tryz.ntmps48
    go_wp2
    all_goals first | omega | skip
    go_ret
    exact ⟨rfl, Below.refl _ _⟩
  · obtain ⟨ni, hn⟩ : ∃ ni, ni = l.length := ⟨_, rfl⟩
    rw [← hlen, ← hn]
    have hnm : ni ≤ 1100000 := by omega
    rw [← hn] at hlen
    replace hn := Hid.intro hn
    replace hlen := Hid.intro hlen
    have hyes : Hid (l.take ni = m.take ni → sqB l m = true) := fun h => sqB_pos (by rwa [List.take_of_length_le (by rw [hn.out]; exact Nat.le_refl _), List.take_of_length_le (by rw [hlen.out]; exact Nat.le_refl _)] at h)
    have hno : Hid (∀ i x y, l[i]? = some x → m[i]? = some y → x ≠ y → sqB l m = false) := fun i x y hx hy hne => sqB_neg (ne_at hx hy hne)
    generalize sqB l m = AA at *
    clear hm hm'
    replace h1 := Hid.intro h1
    replace h2 := Hid.intro h2
    go_enter Tryz.func48, Tryz.ntmps48
    go_wp2
    all_goals first | omega | skip
    go_loopw [5] (fun v5 wr => ∃ i : Nat, i ≤ ni ∧ v5 = .int .i64 (i : Int) ∧ Hid (Below w.heap.size w wr) ∧ Hid (l.take i = m.take i)) (fun v5 wr => ni - (intOf v5).toNat)
    case atStart => exact ⟨0, by omega, rfl, Hid.intro (Below.refl _ _), rfl⟩
    case round =>
      obtain ⟨i, hi, rfl, hB, hT⟩ := hrel
      by_cases hlt : i < ni
      · obtain ⟨x, hx⟩ : ∃ x, l[i]? = some x := ⟨l[i]'(by rw [← hn.out]; exact hlt), List.getElem?_eq_getElem _⟩
        obtain ⟨y, hy⟩ : ∃ y, m[i]? = some y := ⟨m[i]'(by rw [← hlen.out]; exact hlt), List.getElem?_eq_getElem _⟩
        have hP : Hid (∀ p : BelowOf wr, Below w.heap.size w p.wd) := fun p => hB.out.trans (p.h.mono hB.out.size)
        obtain ⟨g, o, hg, hgl, xa, xc, hI0, hI1, hI2, hTm⟩ := eqIn_at h1.out hx
        obtain ⟨g', o', hg', hgl', ya, yc, hJ0, hJ1, hJ2, hTn⟩ := eqIn_at h2.out hy
        subst hg
        subst hg'
        have h56 : Hid (∀ p : BelowOf wr, Calls Tryz.prog 92 #[linV (.slice xa x.2.terms.length xc) x.2.const, linV (.slice ya y.2.terms.length yc) y.2.const] p.wd fun e w' => e = .returned (.bool (sqB x.2 y.2)) ∧ Below p.wd.heap.size p.wd w') := fun p => by
          have := refSame_any xa ya xc yc x.2.terms y.2.terms x.2.const y.2.const p.wd (hTm.below (hP.out p) (Nat.le_refl _)) (hTn.below (hP.out p) (Nat.le_refl _)) (ht x (List.mem_of_getElem? hx)) (ht' y (List.mem_of_getElem? hy))
          rwa [linV_eq] at this
        have c0 : ∀ p : BelowOf wr, p.wd.cell? ⟨g, o + i * 3, none⟩ = some (.string (str x.1)) := fun p => ((hP.out p).cell (p := ⟨g, _, none⟩) hgl).trans hI0
        have c1 : ∀ p : BelowOf wr, p.wd.cell? ⟨g, o + i * 3 + 1, none⟩ = some (.slice xa x.2.terms.length xc) := fun p => ((hP.out p).cell (p := ⟨g, _, none⟩) hgl).trans hI1
        have c2 : ∀ p : BelowOf wr, p.wd.cell? ⟨g, o + i * 3 + 2, none⟩ = some (.int .u32 x.2.const) := fun p => ((hP.out p).cell (p := ⟨g, _, none⟩) hgl).trans hI2
        have d0 : ∀ p : BelowOf wr, p.wd.cell? ⟨g', o' + i * 3, none⟩ = some (.string (str y.1)) := fun p => ((hP.out p).cell (p := ⟨g', _, none⟩) hgl').trans hJ0
        have d1 : ∀ p : BelowOf wr, p.wd.cell? ⟨g', o' + i * 3 + 1, none⟩ = some (.slice ya y.2.terms.length yc) := fun p => ((hP.out p).cell (p := ⟨g', _, none⟩) hgl').trans hJ1
        have d2 : ∀ p : BelowOf wr, p.wd.cell? ⟨g', o' + i * 3 + 2, none⟩ = some (.int .u32 y.2.const) := fun p => ((hP.out p).cell (p := ⟨g', _, none⟩) hgl').trans hJ2
        generalize x.2.terms.length = xn at h56 c1
        generalize y.2.terms.length = yn at h56 d1
        clear hI0 hI1 hI2 hJ0 hJ1 hJ2 hTm hTn hgl hgl'
        have hxH := Hid.intro hx
        have hyH := Hid.intro hy
        have hlt2 : (i : Int) < (ni : Int) := by omega
        have i0 : (0 : Int) ≤ (i : Int) := by omega
        clear hx hy
        by_cases hx1 : x.1 = y.1
        rotate_left
        · have hf := str_ne hx1
          have hxy : x ≠ y := fun e => hx1 (by rw [e])
          go_wp2_with fail
          all_goals first | omega | skip
          refine wp_region_quiet_below (by kernel_rfl) (by kernel_rfl) ?_
          repeat (first | (with_reducible refine wpQuiet_skip (by with_unfolding_all rfl) ?_; simp only [Act.put, List.setIfInBounds_toArray, List.set_cons_zero, List.set_cons_succ]) | (with_reducible refine wpQuiet_step (fun K hK => ?_); go_simp; first | (with_reducible refine hK _ ?_; clear hK K) | (apply Exists.intro; refine ⟨fun p => ?_, hK _ ?_⟩; fail; clear hK K)))
          with_reducible refine wpQuiet_nil ?_
          intro _ hw'
          obtain ⟨pq, hw''⟩ := hw'
          subst hw''
          clear c0 c1 c2 d0 d1 d2
          have hend := Hid.intro (hP.out pq)
          have hA := Hid.intro (hno.out i x y hxH.out hyH.out hxy)
          go_wp2_with fail
          all_goals first | omega | skip
          go_ret
          exact ⟨by rw [hA.out]; rfl, hend.out⟩
        · by_cases hx2 : x.2 = y.2
          rotate_left
          · rw [sqB_neg hx2] at h56
            have hxy : x ≠ y := fun e => hx2 (by rw [e])
            have d0' : ∀ p : BelowOf wr, p.wd.cell? ⟨g', o' + i * 3, none⟩ = some (.string (str x.1)) := by rw [hx1]; exact d0
            clear d0
            go_wp2_with fail
            all_goals first | omega | skip
            refine wp_region_quiet_below (by kernel_rfl) (by kernel_rfl) ?_
            repeat (first | (with_reducible refine wpQuiet_skip (by with_unfolding_all rfl) ?_; simp only [Act.put, List.setIfInBounds_toArray, List.set_cons_zero, List.set_cons_succ]) | (with_reducible refine wpQuiet_step (fun K hK => ?_); go_simp; first | (with_reducible refine hK _ ?_; clear hK K) | (apply Exists.intro; refine ⟨fun p => ?_, hK _ ?_⟩; (go_at_call 92; with_reducible refine below_calls (h56.out p)); clear hK K)))
            with_reducible refine wpQuiet_nil ?_
            intro _ hw'
            obtain ⟨pq, hw''⟩ := hw'
            subst hw''
            clear c0 c1 c2 d0' d1 d2
            have hend := Hid.intro (hP.out pq)
            have hA := Hid.intro (hno.out i x y hxH.out hyH.out hxy)
            go_wp2_with fail
            all_goals first | omega | skip
            go_ret
            exact ⟨by rw [hA.out]; rfl, hend.out⟩
          · rw [sqB_pos hx2] at h56
            have hxy := Hid.intro (Prod.ext hx1 hx2 : x = y)
            have d0' : ∀ p : BelowOf wr, p.wd.cell? ⟨g', o' + i * 3, none⟩ = some (.string (str x.1)) := by rw [hx1]; exact d0
            clear d0 hx1 hx2
            go_wp2_with fail
            all_goals first | omega | skip
            refine wp_region_quiet_below (by kernel_rfl) (by kernel_rfl) ?_
            repeat (first | (with_reducible refine wpQuiet_skip (by with_unfolding_all rfl) ?_; simp only [Act.put, List.setIfInBounds_toArray, List.set_cons_zero, List.set_cons_succ]) | (with_reducible refine wpQuiet_step (fun K hK => ?_); go_simp; first | (with_reducible refine hK _ ?_; clear hK K) | (apply Exists.intro; refine ⟨fun p => ?_, hK _ ?_⟩; (go_at_call 92; with_reducible refine below_calls (h56.out p)); clear hK K)))
            with_reducible refine wpQuiet_nil ?_
            intro _ hw'
            obtain ⟨pq, hw''⟩ := hw'
            subst hw''
            clear c0 c1 c2 d0' d1 d2
            have hend := Hid.intro (hP.out pq)
            have hTT := Hid.intro (take_eq hT.out hxH.out (by rw [hxy.out]; exact hyH.out))
            go_wp2_with fail
            all_goals first | omega | skip
            go_roundw
            case rel => exact ⟨i + 1, by omega, by go_num, hend, hTT⟩
            case measure => simp [intOf]; omega
      · have hin : i = ni := by omega
        subst hin
        have hlt3 : ¬ ((i : Int) < (i : Int)) := by omega
        have hA := Hid.intro (hyes.out hT.out)
        go_wp2
        all_goals first | omega | skip
        go_ret
        exact ⟨by rw [hA.out]; rfl, hB.out⟩
end Go.Proofs.YtmndccbeddaphaaGreatDoor
