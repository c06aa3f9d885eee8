/- UnitMore: what the law asks, by cases. -/
import Derived.Test.YtogkchgjpflmjaaGreatDoorKn1
import Derived.RangeFuncBox
import Derived.Test.YtogkchgjpflmjaaGreatDoorRegT
/- errors.As at a variable of a refusal. -/
namespace Go.Proofs.YtogkchgjpflmjaaGreatDoor
open Go.ChangeShapes Go.WideShapes Go.ChangeAt Go.RowKit Go.Sort
set_option linter.unusedVariables false
set_option maxRecDepth 100000
theorem as_box (q b : Nat) (u : Value) (w : World) (hg : ErrT w) (hb : Boxed w b 51 u) :
    Calls Tryz.prog 25 #[.iface 51 (.pointer (some ⟨q, 0, none⟩)), .iface 53 (.pointer (some ⟨b, 0, none⟩))] w fun e w' => e = .returned (.bool true) ∧ w.grownBy w' (some b) ∧ Boxed w' b 51 (.pointer (some ⟨q, 0, none⟩)) := by
  refine (as_refusal ⟨q, 0, none⟩ ⟨b, 0, none⟩ u w hg hb.cell hb.frozen).mono ?_
  rintro e w' ⟨rfl, rfl⟩
  refine ⟨rfl, ?_, ?_⟩
  · exact grown_trans (grown_trans (grown_trans (grown_trans (World.grownBy_alloc w _ _) (World.grownBy_alloc _ _ _)) (World.grownBy_alloc _ _ _)) (World.grownBy_alloc _ _ _)) (grownBy_setCell' _ _ _)
  · exact ((((hb.alloc _).alloc _).alloc _).alloc _).set _
theorem below_grown {b : Nat} {w0 w w' : World} (h : Below w0.heap.size w0 w) (hg : w.grownBy w' (some b)) (hb : w0.heap.size ≤ b) : Below w0.heap.size w0 w' :=
  h.grown hg h.size (fun j hj => by cases hj; omega)
end Go.Proofs.YtogkchgjpflmjaaGreatDoor
/- A source and more lines behind it. -/
namespace Go.Proofs.YtogkchgjpflmjaaGreatDoor
open Go.ChangeShapes Go.WideShapes Go.ChangeAt Go.RowKit Go.Sort
set_option linter.unusedVariables false
theorem nlLen_app (s t : List UInt8) : nlLen (s ++ 10 :: t) = nlLen s := by
  induction s with
  | nil => simp [nlLen]
  | cons b s ih =>
    rw [List.cons_append]
    unfold nlLen
    rw [ih]
theorem lines_more (s t : List UInt8) : ∃ more, linesOf (s ++ 10 :: t) = linesOf s ++ more := by
  induction hn : s.length using Nat.strongRecOn generalizing s with
  | _ n ih =>
    by_cases h0 : s = []
    · subst h0
      exact ⟨_, by rw [linesOf_nil]; rfl⟩
    · rw [linesOf_more _ (by simp), linesOf_more s h0, nlLen_app]
      have hle := nlLen_le s
      rw [List.take_append_of_le_length hle]
      by_cases h1 : nlLen s < s.length
      · rw [List.drop_append_of_le_length (by omega)]
        have hpos : 0 < s.length := by omega
        obtain ⟨more, hm⟩ := ih _ (by simp; omega) (s.drop (nlLen s + 1)) rfl
        exact ⟨more, by rw [hm]; rfl⟩
      · have h2 : s.drop (nlLen s + 1) = [] := List.drop_eq_nil_of_le (by omega)
        rw [h2, linesOf_nil]
        exact ⟨_, rfl⟩
theorem runF_app (l m : List (List UInt8)) : ∀ a n, runF a n (l ++ m) = match runF a n l with | .error f => .error f | .ok b => runF b (n + l.length) m := by
  induction l with
  | nil => intro a n; simp [runF]
  | cons s r ih =>
    intro a n
    simp only [List.cons_append, runF]
    cases h : takeF a n s with
    | error k => rfl
    | ok b =>
      dsimp only
      rw [ih b (n + 1), List.length_cons, show n + 1 + r.length = n + (r.length + 1) by omega]
def Ahead (A B : Asm) : Prop := (∃ t, B.text = A.text ++ t) ∧ ∃ d, B.data = A.data ++ d
theorem Ahead.refl (A : Asm) : Ahead A A := ⟨⟨[], by simp⟩, ⟨[], by simp⟩⟩
theorem Ahead.trans {A B C : Asm} (h : Ahead A B) (g : Ahead B C) : Ahead A C := by
  obtain ⟨⟨t1, h1⟩, d1, h2⟩ := h
  obtain ⟨⟨t2, g1⟩, d2, g2⟩ := g
  exact ⟨⟨t1 ++ t2, by rw [g1, h1, List.append_assoc]⟩, d1 ++ d2, by rw [g2, h2, List.append_assoc]⟩
theorem take_ahead {A B : Asm} {n : Nat} {s : List UInt8} (h : takeF A n s = .ok B) : Ahead A B := by
  unfold takeF at h
  split at h
  · cases h
  · split at h
    · cases h
    · split at h
      · cases h
      · split at h
        · cases h
        · cases h
          unfold layU Ahead
          dsimp only
          by_cases hs : A.sec = 1
          · exact ⟨⟨[], by simp [hs]⟩, ⟨_, if_pos hs⟩⟩
          · exact ⟨⟨_, if_neg hs⟩, ⟨[], by simp [hs]⟩⟩
theorem run_ahead (l : List (List UInt8)) : ∀ A B n, runF A n l = .ok B → Ahead A B := by
  induction l with
  | nil => intro A B n h; cases h; exact Ahead.refl _
  | cons s r ih =>
    intro A B n h
    unfold runF at h
    split at h
    · cases h
    · rename_i C hc
      exact (take_ahead hc).trans (ih _ _ _ h)
theorem asm_short {s : List UInt8} (h : s.length ≤ 4096) : asmF s = match runF asmE 1 (linesOf s) with | .error f => .error f | .ok a => (match unknownF a with | some n => .error (n, 23) | none => .ok a) := by
  unfold asmF
  have := linesOf_len s
  rw [if_neg (by omega), if_neg (by omega)]
  cases runF asmE 1 (linesOf s) with
  | error f => rfl
  | ok a => rfl
theorem asm_more_bad {s t : List UInt8} {f : Nat × Int} (hl : (s ++ 10 :: t).length ≤ 4096) (h : asmF s = .error f) (hf : f.2 ≠ 23) : asmF (s ++ 10 :: t) = .error f := by
  have hs : s.length ≤ 4096 := by simp at hl; omega
  rw [asm_short hs] at h
  rw [asm_short hl]
  obtain ⟨more, hm⟩ := lines_more s t
  rw [hm, runF_app]
  cases hr : runF asmE 1 (linesOf s) with
  | error g =>
    rw [hr] at h
    cases h
    rfl
  | ok a =>
    rw [hr] at h
    dsimp only at h
    split at h
    · cases h; exact absurd rfl hf
    · cases h
theorem asm_more_ok {s t : List UInt8} {A B : Asm} (hl : (s ++ 10 :: t).length ≤ 4096) (h : asmF s = .ok A) (g : asmF (s ++ 10 :: t) = .ok B) : Ahead A B := by
  have hs : s.length ≤ 4096 := by simp at hl; omega
  rw [asm_short hs] at h
  rw [asm_short hl] at g
  obtain ⟨more, hm⟩ := lines_more s t
  rw [hm, runF_app] at g
  cases hr : runF asmE 1 (linesOf s) with
  | error f => rw [hr] at h; cases h
  | ok a =>
    rw [hr] at h g
    dsimp only at h g
    split at h
    · cases h
    · cases h
      cases hr2 : runF A (1 + (linesOf s).length) more with
      | error f => rw [hr2] at g; cases g
      | ok b =>
        rw [hr2] at g
        dsimp only at g
        split at g
        · cases g
        · cases g
          exact run_ahead _ _ _ _ hr2
end Go.Proofs.YtogkchgjpflmjaaGreatDoor
namespace Go.Proofs.YtogkchgjpflmjaaGreatDoor
open Go.ChangeShapes Go.WideShapes Go.ChangeAt Go.RowKit Go.Sort
set_option linter.unusedVariables false
set_option maxRecDepth 100000
theorem str_join (S T : List UInt8) : str S ++ ⟨#[10]⟩ ++ str T = str (S ++ 10 :: T) := by
  apply ByteArray.ext
  simp [str]
theorem few1000 (l : List UInt8) (hs : l.length ≤ 9223372036854775807) (w : World) : Calls Tryz.prog 16 #[.string (str l), .int .i64 1000] w fun e w' => e = .returned (.string (str (l.take 1000))) ∧ w' = w := few9 l 1000 hs (by omega) w
theorem few500 (l : List UInt8) (hs : l.length ≤ 9223372036854775807) (w : World) : Calls Tryz.prog 16 #[.string (str l), .int .i64 500] w fun e w' => e = .returned (.string (str (l.take 500))) ∧ w' = w := few9 l 500 hs (by omega) w
theorem asb_some (l : List UInt8) (w : World) (hE : Env w) : Calls Tryz.prog 9 #[.string (str l)] w fun e w' => Below w.heap.size w w' ∧ ∃ a1 n1 c1 a2 n2 c2 a3 n3 c3 a4 n4 c4 E, e = .returned (.tuple #[.agg #[.slice a1 n1 c1, .slice a2 n2 c2, .slice a3 n3 c3, .slice a4 n4 c4], E]) := by
  cases h : asmF l with
  | error f =>
    refine (asb_bad h w hE).mono fun e w' ⟨h1, q, h2, h3⟩ => ⟨h1, _, _, _, _, _, _, _, _, _, _, _, _, _, h2⟩
  | ok A =>
    refine (asb_ok h w hE).mono fun e w' ⟨h1, _, _, _, _, _, _, _, _, h2, h3⟩ => ⟨h1, _, _, _, _, _, _, _, _, _, _, _, _, _, h2⟩
theorem boxes (w : World) (o : Obj) : Boxed (((w.alloc o).alloc (.cells #[.pointer none] 51)).alloc (.cells #[.pointer none] 51)) (w.heap.size + 1) 51 (.pointer none) ∧ Boxed (((w.alloc o).alloc (.cells #[.pointer none] 51)).alloc (.cells #[.pointer none] 51)) (w.heap.size + 1 + 1) 51 (.pointer none) := by
  have h1 : (w.alloc o).heap.size = w.heap.size + 1 := by simp
  have h2 : ((w.alloc o).alloc (.cells #[.pointer none] 51)).heap.size = w.heap.size + 1 + 1 := by simp
  refine ⟨?_, ?_⟩
  · have := (Boxed.new (w.alloc o) 51 (.pointer none)).alloc (.cells #[.pointer none] 51)
    rwa [h1] at this
  · have := Boxed.new ((w.alloc o).alloc (.cells #[.pointer none] 51)) 51 (.pointer none)
    rwa [h2] at this
theorem below_three (w : World) (o1 o2 o3 : Obj) : Below w.heap.size w (((w.alloc o1).alloc o2).alloc o3) := ((below_alloc w o1).alloc (by simp) o2).alloc (by simp; omega) o3
set_option maxHeartbeats 8000000 in
theorem more_undef (l1 l2 : List UInt8) (h1 : l1.length ≤ 9223372036854775807) (h2 : l2.length ≤ 9223372036854775807) (n : Nat) (hA : asmF (l1.take 1000) = .error (n, 23)) (w : World) (hE : Env w) :
    Calls Tryz.prog 7 #[.string (str l1), .string (str l2)] w fun e w' => e = .returned (.bool true) ∧ Below w.heap.size w w' := by
  have f1 := Hid.intro (fun w1 => few1000 l1 h1 w1)
  have f2 := Hid.intro (fun w1 => few500 l2 h2 w1)
  have hk := Hid.intro known_any
  have a1 := Hid.intro (asb_bad hA w hE)
  have a2 := Hid.intro (fun w1 hE1 => asb_some (l1.take 1000 ++ 10 :: l2.take 500) w1 hE1)
  clear hA
  rw [← str_join] at a2
  have hEH := Hid.intro hE
  clear h1 h2 hE
  have z1 : ¬ 9223372036854775807 < (str (l1.take 1000)).size + 1 := by
    have : (str (l1.take 1000)).size = (l1.take 1000).length := rfl
    rw [this, List.length_take]; omega
  have z2 : ¬ 9223372036854775807 < (str (l1.take 1000)).size + 1 + (str (l2.take 500)).size := by
    have : (str (l1.take 1000)).size = (l1.take 1000).length := rfl
    have h3 : (str (l2.take 500)).size = (l2.take 500).length := rfl
    rw [this, h3, List.length_take, List.length_take]; omega
  generalize str (l1.take 1000) = S at *
  generalize str (l2.take 500) = T at *
  generalize str l1 = S0 at *
  generalize str l2 = T0 at *
  go_enter Tryz.func7, Tryz.ntmps7
  go_wp2_with (first
    | (go_at_call 16; (with_reducible refine (f1.out _).mono ?_); rintro e w1 ⟨rfl, hw1⟩; subst w1)
    | (go_at_call 16; (with_reducible refine (f2.out _).mono ?_); rintro e w1 ⟨rfl, hw1⟩; subst w1)
    | (go_at_call 9
       (with_reducible refine (a1.out).mono ?_)
       rintro e w1 ⟨hb1, q, rfl, hq⟩
       have hB2 := Hid.intro (hb1.alloc hb1.size (.cells #[.slice none 0 0, .slice none 0 0, .slice none 0 0, .slice none 0 0] 26))
       have hE2 := Hid.intro (hEH.out.below hB2.out)
       have hq2 := Hid.intro ((below_alloc w1 (.cells #[.slice none 0 0, .slice none 0 0, .slice none 0 0, .slice none 0 0] 26)).block q (blk_lt hq.2) |>.trans hq.2)
       clear hq hb1)
    | (go_at_call 9; go_loud (
       (with_reducible refine (a2.out _ hE2.out).mono ?_)
       rintro e w3 ⟨hb3, x1, n1, c1, x2, n2, c2, x3, n3, c3, x4, n4, c4, E, rfl⟩
       have hT := Hid.intro (below_three w3 (.cells #[.slice x1 n1 c1, .slice x2 n2 c2, .slice x3 n3 c3, .slice x4 n4 c4] 26) (.cells #[.pointer none] 51) (.cells #[.pointer none] 51))
       have hB6 := Hid.intro ((hB2.out.trans (hb3.mono hB2.out.size)).trans (hT.out.mono (Nat.le_trans hB2.out.size hb3.size)))
       have hq3 := (hb3.block q (blk_lt hq2.out)).trans hq2.out
       have hq6 := Hid.intro ((hT.out.block q (blk_lt hq3)).trans hq3)
       have hqn : Hid (q < w3.heap.size) := blk_lt hq3
       have hX := Hid.intro (as_box q (w3.heap.size + 1) (.pointer none) _ (hEH.out.below hB6.out).err (boxes w3 (.cells #[.slice x1 n1 c1, .slice x2 n2 c2, .slice x3 n3 c3, .slice x4 n4 c4] 26)).1)
       have hsz : Hid (w.heap.size ≤ w3.heap.size + 1) := Hid.intro (Nat.le_succ_of_le (Nat.le_trans hB2.out.size hb3.size))
       clear hq3 hb3))
    | (go_at_call 25
       (with_reducible refine (hX.out).mono ?_)
       rintro e w7 ⟨rfl, hg7, hbx7⟩
       have k0 := hbx7.cell
       have k1 := (two_read ((hg7.block q (Nat.lt_of_lt_of_le hqn.out (by simp; omega)) (fun e => by have := hqn.out; cases e; omega)).trans hq6.out)).2
       have hB7 := Hid.intro (below_grown hB6.out hg7 hsz.out)
       clear hg7 hbx7)
    | (go_at_call 15; (with_reducible refine (hk.out _ (hEH.out.below hB7.out)).mono ?_); rintro e w8 ⟨rfl, hb8⟩))
  all_goals first | (exfalso; omega) | skip
  go_ret
  exact ⟨rfl, hB7.out.trans (hb8.mono hB7.out.size)⟩
end Go.Proofs.YtogkchgjpflmjaaGreatDoor
