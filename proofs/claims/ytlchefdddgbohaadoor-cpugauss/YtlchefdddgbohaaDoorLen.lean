/- isa.Check and Len. -/
import Derived.Test.YtlchefdddgbohaaDoorCheck
namespace Go.Proofs.YtlchefdddgbohaaDoor
open Go.ChangeShapes Go.WideShapes Go.ChangeAt Go.RowKit
set_option linter.unusedVariables false
set_option maxRecDepth 100000

/-- an instruction in memory -/
structure InstAt (w : World) (g : Nat) (op a b n f : Int) : Prop where
  o : w.cell? ⟨g, 0, none⟩ = some (.int .i64 op)
  a : w.cell? ⟨g, 1, none⟩ = some (.int .i64 a)
  b : w.cell? ⟨g, 2, none⟩ = some (.int .i64 b)
  n : w.cell? ⟨g, 3, none⟩ = some (.int .i32 n)
  f : w.cell? ⟨g, 4, none⟩ = some (.int .i64 f)
  lt : g < w.heap.size
theorem InstAt.drew {w : World} {g : Nat} {op a b n f : Int} (h : InstAt w g op a b n f) : InstAt w.drew g op a b n f := ⟨h.o, h.a, h.b, h.n, h.f, h.lt⟩
theorem InstAt.below {w w' : World} {g B : Nat} {op a b n f : Int} (h : InstAt w g op a b n f) (hb : Below B w w') (hB : g < B) : InstAt w' g op a b n f :=
  ⟨(hb.cell (p := ⟨g, 0, none⟩) hB).trans h.o, (hb.cell (p := ⟨g, 1, none⟩) hB).trans h.a, (hb.cell (p := ⟨g, 2, none⟩) hB).trans h.b, (hb.cell (p := ⟨g, 3, none⟩) hB).trans h.n, (hb.cell (p := ⟨g, 4, none⟩) hB).trans h.f, Nat.lt_of_lt_of_le h.lt hb.size⟩
theorem InstAt.alloc {w : World} {g : Nat} {op a b n f : Int} (h : InstAt w g op a b n f) (o : Obj) : InstAt (w.alloc o) g op a b n f := h.below (below_alloc w o) h.lt
theorem inst_new (w : World) (op a b n f : Int) : InstAt (w.alloc (.cells #[.int .i64 op, .int .i64 a, .int .i64 b, .int .i32 n, .int .i64 f] 34)) w.heap.size op a b n f :=
  ⟨inst_cell w op a b n f 0, inst_cell w op a b n f 1, inst_cell w op a b n f 2, inst_cell w op a b n f 3, inst_cell w op a b n f 4, by simp⟩

theorem op_new (w : World) (s : List UInt8) (b h : Int) : (w.alloc (.cells #[.string (str s), .int .u8 b, .int .i64 h] 88)).cell? ⟨w.heap.size, 2, none⟩ = some (.int .i64 h) := (cell_block (heap_alloc_new w _) 2).trans rfl

/-- why it is no instruction; 0: it is one -/
def checkN (op a b n f : Int) : Int := if ¬ (1 ≤ op ∧ op ≤ 43) then 11 else if regB a b n (shapeN op).toNat = false then 12 else if numB n f (shapeN op).toNat = false then 13 else 0

theorem shape_nat (op : Int) : ∃ s : Nat, shapeN op = (s : Int) ∧ s < 14 ∧ (shapeN op).toNat = s := by
  have h : 0 ≤ shapeN op ∧ shapeN op ≤ 13 := by
    by_cases h : 1 ≤ op ∧ op ≤ 43
    · have := shapeN_some h
      omega
    · rw [shapeN, if_neg h]
      omega
  exact ⟨(shapeN op).toNat, by omega, by omega, rfl⟩

theorem check_bel {w w0 w1 w2 w3 : World} {o : Obj} (h0 : Below w.heap.size w w0) (h1 : Below w0.heap.size w0 w1) (h2 : Below (w1.alloc o).heap.size (w1.alloc o) w2) (h3 : Below w2.heap.size w2 w3) : Below w.heap.size w w3 := by
  have s0 := h0.size
  have s1 := h1.size
  have s2 := h2.size
  simp at s2
  exact (((h0.trans (h1.mono s0)).alloc (by omega) o).trans (h2.mono (by simp; omega))).trans (h3.mono (by omega))

set_option maxHeartbeats 1000000 in
theorem check_any (op a b n f : Int) (w : World) (hT : Tab w) (hn : -2147483648 ≤ n ∧ n ≤ 2147483647) :
    Calls Tryd.prog 31 #[instV op a b n f] w fun e w' => e = .returned (.int .i64 (checkN op a b n f)) ∧ Below w.heap.size w w' := by
  obtain ⟨s, hs, hs14, hsn⟩ := shape_nat op
  have hI := inst_new w op a b n f
  have hb0 := below_alloc w (.cells #[.int .i64 op, .int .i64 a, .int .i64 b, .int .i32 n, .int .i64 f] 34)
  have hT0 := hT.alloc (.cells #[.int .i64 op, .int .i64 a, .int .i64 b, .int .i32 n, .int .i64 f] 34)
  obtain ⟨R, hR⟩ : ∃ R, R = checkN op a b n f := ⟨_, rfl⟩
  rw [← hR]
  unfold checkN at hR
  rw [hsn] at hR
  by_cases hop : 1 ≤ op ∧ op ≤ 43
  · rw [if_neg (by simpa using hop)] at hR
    have hd : decide (1 ≤ op ∧ op ≤ 43) = true := decide_eq_true hop
    cases hr : regB a b n s with
    | false =>
      rw [if_pos hr] at hR
      have hRH := Hid.intro hR
      have hIH := Hid.intro hI
      have hTH := Hid.intro hT0
      have hbH := Hid.intro hb0
      have hdH := Hid.intro hd
      have hsH := Hid.intro hs
      have hrH := Hid.intro hr
      clear hR hI hT0 hb0 hd hop hT hs hsn hr
      go_enter Tryd.func31, Tryd.ntmps31
      go_wp2_with (first | (go_at_call 42; refine (at_parts _ _ hTH.out).mono ?_; rintro e w1 ⟨⟨nm1, by1, rfl⟩, hb1⟩; rw [hdH.out, hsH.out]; have hI1 := Hid.intro (hIH.out.below hb1 hIH.out.lt); have hT1 := Hid.intro (hTH.out.below hb1 hTH.out.size); have i0 := fun o => (hI1.out.alloc o).o; have i1 := fun o => (hI1.out.alloc o).a; have i2 := fun o => (hI1.out.alloc o).b; have i3 := fun o => (hI1.out.alloc o).n; have i4 := fun o => (hI1.out.alloc o).f; replace hb1 := Hid.intro hb1) | (go_at_call 43; refine (hasRegisters_any _ _ _ _ _ s hs14 _ (hT1.out.alloc _)).mono ?_; rintro e w2 ⟨rfl, hb2⟩; rw [hrH.out]; have hI2 := Hid.intro ((hI1.out.alloc _).below hb2 (hI1.out.alloc _).lt); obtain ⟨j0, j1, j2, j3, j4, _⟩ := hI2.out; have k2 := (hb2.cell (p := ⟨w1.heap.size, 2, none⟩) (by simp)).trans (op_new w1 nm1 by1 s); have hT2 := Hid.intro ((hT1.out.alloc _).below hb2 (hT1.out.alloc _).size); replace hb2 := Hid.intro hb2))
      go_ret
      rw [hRH.out]
      exact ⟨rfl, ((hbH.out.trans (hb1.out.mono hbH.out.size)).alloc (Nat.le_trans hbH.out.size hb1.out.size) _).trans (hb2.out.mono (by have := hbH.out.size; have := hb1.out.size; simp at *; omega))⟩
    | true =>
      rw [if_neg (by simp [hr])] at hR
      cases hm : numB n f s with
      | false =>
        rw [if_pos hm] at hR
        have hRH := Hid.intro hR
        have hIH := Hid.intro hI
        have hTH := Hid.intro hT0
        have hbH := Hid.intro hb0
        have hdH := Hid.intro hd
        have hsH := Hid.intro hs
        have hrH := Hid.intro hr
        have hmH := Hid.intro hm
        clear hR hI hT0 hb0 hd hop hT hs hsn hr hm
        go_enter Tryd.func31, Tryd.ntmps31
        go_wp2_with (first | (go_at_call 42; refine (at_parts _ _ hTH.out).mono ?_; rintro e w1 ⟨⟨nm1, by1, rfl⟩, hb1⟩; rw [hdH.out, hsH.out]; have hI1 := Hid.intro (hIH.out.below hb1 hIH.out.lt); have hT1 := Hid.intro (hTH.out.below hb1 hTH.out.size); have i0 := fun o => (hI1.out.alloc o).o; have i1 := fun o => (hI1.out.alloc o).a; have i2 := fun o => (hI1.out.alloc o).b; have i3 := fun o => (hI1.out.alloc o).n; have i4 := fun o => (hI1.out.alloc o).f; replace hb1 := Hid.intro hb1) | (go_at_call 43; refine (hasRegisters_any _ _ _ _ _ s hs14 _ (hT1.out.alloc _)).mono ?_; rintro e w2 ⟨rfl, hb2⟩; rw [hrH.out]; have hI2 := Hid.intro ((hI1.out.alloc _).below hb2 (hI1.out.alloc _).lt); obtain ⟨j0, j1, j2, j3, j4, _⟩ := hI2.out; have k2 := (hb2.cell (p := ⟨w1.heap.size, 2, none⟩) (by simp)).trans (op_new w1 nm1 by1 s); have hT2 := Hid.intro ((hT1.out.alloc _).below hb2 (hT1.out.alloc _).size); replace hb2 := Hid.intro hb2) | (go_at_call 44; refine (hasNumber_any _ _ _ _ _ s hs14 _ hT2.out hn).mono ?_; rintro e w3 ⟨rfl, hb3⟩; rw [hmH.out]; replace hb3 := Hid.intro hb3))
        go_ret
        rw [hRH.out]
        exact ⟨rfl, check_bel hbH.out hb1.out hb2.out hb3.out⟩
      | true =>
        rw [if_neg (by simp [hm])] at hR
        have hRH := Hid.intro hR
        have hIH := Hid.intro hI
        have hTH := Hid.intro hT0
        have hbH := Hid.intro hb0
        have hdH := Hid.intro hd
        have hsH := Hid.intro hs
        have hrH := Hid.intro hr
        have hmH := Hid.intro hm
        clear hR hI hT0 hb0 hd hop hT hs hsn hr hm
        go_enter Tryd.func31, Tryd.ntmps31
        go_wp2_with (first | (go_at_call 42; refine (at_parts _ _ hTH.out).mono ?_; rintro e w1 ⟨⟨nm1, by1, rfl⟩, hb1⟩; rw [hdH.out, hsH.out]; have hI1 := Hid.intro (hIH.out.below hb1 hIH.out.lt); have hT1 := Hid.intro (hTH.out.below hb1 hTH.out.size); have i0 := fun o => (hI1.out.alloc o).o; have i1 := fun o => (hI1.out.alloc o).a; have i2 := fun o => (hI1.out.alloc o).b; have i3 := fun o => (hI1.out.alloc o).n; have i4 := fun o => (hI1.out.alloc o).f; replace hb1 := Hid.intro hb1) | (go_at_call 43; refine (hasRegisters_any _ _ _ _ _ s hs14 _ (hT1.out.alloc _)).mono ?_; rintro e w2 ⟨rfl, hb2⟩; rw [hrH.out]; have hI2 := Hid.intro ((hI1.out.alloc _).below hb2 (hI1.out.alloc _).lt); obtain ⟨j0, j1, j2, j3, j4, _⟩ := hI2.out; have k2 := (hb2.cell (p := ⟨w1.heap.size, 2, none⟩) (by simp)).trans (op_new w1 nm1 by1 s); have hT2 := Hid.intro ((hT1.out.alloc _).below hb2 (hT1.out.alloc _).size); replace hb2 := Hid.intro hb2) | (go_at_call 44; refine (hasNumber_any _ _ _ _ _ s hs14 _ hT2.out hn).mono ?_; rintro e w3 ⟨rfl, hb3⟩; rw [hmH.out]; replace hb3 := Hid.intro hb3))
        go_ret
        rw [hRH.out]
        exact ⟨rfl, check_bel hbH.out hb1.out hb2.out hb3.out⟩
  · rw [if_pos hop] at hR
    have hd : decide (1 ≤ op ∧ op ≤ 43) = false := decide_eq_false hop
    have hRH := Hid.intro hR
    have hIH := Hid.intro hI
    have hTH := Hid.intro hT0
    have hbH := Hid.intro hb0
    have hdH := Hid.intro hd
    have hsH := Hid.intro hs
    clear hR hI hT0 hb0 hd hop hT hs hsn
    go_enter Tryd.func31, Tryd.ntmps31
    go_wp2_with (go_at_call 42; refine (at_parts _ _ hTH.out).mono ?_; rintro e w1 ⟨⟨nm1, by1, rfl⟩, hb1⟩; rw [hdH.out])
    go_ret
    rw [hRH.out]
    exact ⟨rfl, (hbH.out.trans (hb1.mono hbH.out.size)).alloc (Nat.le_trans hbH.out.size hb1.size) _⟩

/-- how many bytes it has -/
def lenN (op a b n f : Int) : Int := if checkN op a b n f = 0 then sizeAt (shapeN op).toNat + f else 0

theorem size_range (s : Nat) (hs : s < 14) : 0 ≤ sizeAt s ∧ sizeAt s ≤ 6 := by
  have : ∀ j : Fin 14, 0 ≤ sizeAt j.1 ∧ sizeAt j.1 ≤ 6 := by decide +kernel
  exact this ⟨s, hs⟩

theorem fits_form {n f : Int} (h : fitsB n f = true) : f = 1 ∨ f = 2 ∨ f = 4 := by
  unfold fitsB at h
  by_cases h1 : f = 1
  · exact .inl h1
  by_cases h2 : f = 2
  · exact .inr (.inl h2)
  by_cases h4 : f = 4
  · exact .inr (.inr h4)
  rw [if_neg h1, if_neg h2, if_neg h4] at h
  cases h

/-- what Check takes -/
theorem check_ok {op a b n f : Int} (h : checkN op a b n f = 0) : (1 ≤ op ∧ op ≤ 43) ∧ regB a b n (shapeN op).toNat = true ∧ numB n f (shapeN op).toNat = true ∧ 0 ≤ f ∧ f ≤ 4 := by
  unfold checkN at h
  by_cases hop : 1 ≤ op ∧ op ≤ 43
  · rw [if_neg (by simpa using hop)] at h
    cases hr : regB a b n (shapeN op).toNat with
    | false => rw [if_pos hr] at h; omega
    | true =>
      rw [if_neg (by simp [hr])] at h
      cases hm : numB n f (shapeN op).toNat with
      | false => rw [if_pos hm] at h; omega
      | true =>
        refine ⟨hop, rfl, rfl, ?_⟩
        unfold numB at hm
        split at hm
        · rcases fits_form hm with rfl | rfl | rfl <;> omega
        · simp only [Bool.and_eq_true, decide_eq_true_eq] at hm
          omega
  · rw [if_pos hop] at h
    omega

theorem find_jmp : findN (nm ⟨#[106, 109, 112]⟩) = 40 := by decide +kernel
theorem at_jmp : atV 40 = .tuple #[opV [106, 109, 112] 64 12, .bool true] := by rfl
theorem len_nop : lenN 1 0 0 0 0 = 1 := by decide +kernel

theorem at_jmp_any (w : World) (hT : Tab w) : Calls Tryd.prog 42 #[.int .i64 40] w fun e w' => e = .returned (.tuple #[.agg #[.string ⟨#[106, 109, 112]⟩, .int .u8 64, .int .i64 12], .bool true]) ∧ Below w.heap.size w w' :=
  (at_any _ w hT).mono fun e w' ⟨he, hw⟩ => ⟨by rw [he, at_jmp], hw⟩
end Go.Proofs.YtlchefdddgbohaaDoor
