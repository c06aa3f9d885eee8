/- cpu.New. -/
import Derived.Test.YtlchefdddgbohaaDoorNw
namespace Go.Proofs.YtlchefdddgbohaaDoor
open Go.ChangeShapes Go.WideShapes Go.ChangeAt Go.RowKit
set_option linter.unusedVariables false
set_option linter.unusedSimpArgs false
set_option maxRecDepth 100000
theorem zc : Tryd.zeroCells73 = (List.replicate 8 (Value.int .i32 0) ++ (List.replicate 4 (Value.complex .f64 0 0) ++ (List.replicate 256 (Value.int .i32 0) ++ [Value.slice none 0 0, .slice none 0 0, .slice none 0 0]))).toArray := by kernel_rfl
/-- a new Cpu -/
def s0 (l : List Int) : St := ⟨fun _ => 0, fun _ => (0, 0), fun _ => 0, [], [], l⟩
theorem zc_cs (l : List Int) (va : Value) : Cs LP (Tryd.zeroCells73.setIfInBounds 270 va) (s0 l) (.slice none 0 0) (.slice none 0 0) va := by
  have hz : Tryd.zeroCells73.size = 271 := by rw [zc]; simp
  have hs : 270 < Tryd.zeroCells73.size := by omega
  refine ⟨by simp [hz], fun j hj => ?_, fun j hj => ?_, fun j hj => ?_, ?_, ?_, ?_⟩ <;> rw [set_at hs]
  · rw [if_neg (by omega), zc, List.getElem?_toArray, List.getElem?_append_left (by simp; omega), List.getElem?_replicate, if_pos hj]
    rfl
  · rw [if_neg (by omega), zc, List.getElem?_toArray, List.getElem?_append_right (by simp), List.getElem?_append_left (by simp; omega), List.getElem?_replicate, if_pos (by simp; omega)]
    rfl
  · have e : LP.mo = 12 := rfl
    rw [if_neg (by omega), zc, List.getElem?_toArray, List.getElem?_append_right (by simp; omega), List.getElem?_append_right (by simp; omega), List.getElem?_append_left (by simp; omega), List.getElem?_replicate, if_pos (by simp; omega)]
    rfl
  · have e : LP.so = 268 := rfl
    rw [if_neg (by omega), zc]
    rfl
  · have e : LP.oo = 269 := rfl
    rw [if_neg (by omega), zc]
    rfl
  · have e : LP.io = 270 := rfl
    rw [if_pos e]
theorem own_in {w : World} {lo : Nat} {ks : Nat → Prop} {p : Nat} {v : Value} {l : List Int} (h : w.ownsRow lo 21 1 v l.length (rowI l)) (hk : ∀ g, v.ownBlock = some g → ks g ∧ g ≠ p) : InAt ks w p v l := by
  have hlt := h.lt
  have hc := fun g => h.cells (g := g)
  rcases h.2 with ⟨rfl, h0⟩ | ⟨g, cap, cur, rfl, h1, h2, h3, _⟩
  · have : l = [] := List.eq_nil_of_length_eq_zero h0
    subst this
    exact ⟨none, 0, rfl, Nat.le_refl _, fun h => absurd rfl h⟩
  · refine ⟨_, cap, rfl, h3, fun _ => ⟨g, 0, rfl, (hk g rfl).1, (hk g rfl).2, (hlt g rfl).2, fun j x hj => ?_⟩⟩
    have := hc g rfl j (.int .i32 x) (by unfold rowI; rw [List.getElem?_map, hj]; rfl)
    rw [show 0 + j = j by omega]
    have hadd : (⟨g, 0, none⟩ : Addr).add j = ⟨g, j, none⟩ := by unfold Addr.add; split <;> simp_all
    rw [hadd] at this
    exact this
theorem new_at {w w1 : World} {l : List Int} {va : Value} (hr : ∀ x ∈ l, -2147483648 ≤ x ∧ x ≤ 2147483647) (hb : Below w.heap.size w w1) (ho : w1.ownsRow w.heap.size 21 1 va l.length (rowI l)) :
    Cpu1 w (w1.alloc (.cells (Tryd.zeroCells73.setIfInBounds 270 va) 73)) w1.heap.size (s0 l) := by
  have hlt := ho.lt
  have hbA := hb.alloc hb.size (.cells (Tryd.zeroCells73.setIfInBounds 270 va) 73)
  refine ⟨hbA, fun g => w.heap.size ≤ g ∧ g ≤ w1.heap.size, fun g h => h.1, { kp := ⟨hb.size, Nat.le_refl _⟩, kl := fun g h => by simp; omega, rb := fun k => by show (-2147483648 : Int) ≤ 0 ∧ (0 : Int) ≤ 2147483647; omega, mb := fun k => by show (-2147483648 : Int) ≤ 0 ∧ (0 : Int) ≤ 2147483647; omega, zb := fun k => by show 0 < 2 ^ 64 ∧ 0 < 2 ^ 64; exact ⟨by decide, by decide⟩, sb := fun x h => by simp [s0] at h, ob := fun x h => by simp [s0] at h, ib := hr, mem := ⟨_, _, _, va, heap_alloc_new w1 _, zc_cs l va, World.ownsRow_nil _ _ _ _, World.ownsRow_nil _ _ _ _, ?_, fun g h => by simp [Value.ownBlock] at h, fun g h => by simp [Value.ownBlock] at h⟩ }⟩
  exact own_in (ho.alloc _) fun g hg => ⟨⟨(hlt g hg).1, Nat.le_of_lt (hlt g hg).2⟩, by have := (hlt g hg).2; omega⟩
set_option maxHeartbeats 4000000 in
theorem New_any (a : Option Addr) (c : Nat) (l : List Int) (hl : l.length ≤ 4096) (hr : ∀ x ∈ l, -2147483648 ≤ x ∧ x ≤ 2147483647) (hnil : a = none → c = 0) (w : World) (hs : Src w (.slice a l.length c) l.length (rowI l)) :
    Calls Tryd.prog 9 #[.slice a l.length c] w fun e w' => ∃ p, e = .returned (.tuple #[.pointer (some ⟨p, 0, none⟩), .int .i64 0]) ∧ Cpu1 w w' p (s0 l) := by
  have hC := Hid.intro (clone_any a c l (by omega) hnil w hs)
  have h1 : ¬ (4096 : Int) < (l.length : Int) := by omega
  have hlH := Hid.intro hl
  clear hs
  go_enter Tryd.func9, Tryd.ntmps9
  go_wp2_with (go_at_call 29; (with_reducible refine hC.out.mono ?_); rintro e w1 ⟨hb1, v, rfl, ho⟩; obtain ⟨a1, c1, rfl⟩ := own_slice ho; replace ho := Hid.intro ho; replace hb1 := Hid.intro hb1)
  refine bodyPost_ret (by simp [results, Tryd.results9, go_sem]; try rfl) rfl ⟨_, rfl, new_at hr hb1.out ho.out⟩
/-- fresh: of an input that is not long -/
theorem fresh_any (a : Option Addr) (c : Nat) (l : List Int) (hl : l.length ≤ 4096) (hr : ∀ x ∈ l, -2147483648 ≤ x ∧ x ≤ 2147483647) (hnil : a = none → c = 0) (w : World) (hs : Src w (.slice a l.length c) l.length (rowI l)) :
    Calls Tryd.prog 10 #[.slice a l.length c] w fun e w' => ∃ p, e = .returned (.tuple #[.pointer (some ⟨p, 0, none⟩), .bool true]) ∧ Cpu1 w w' p (s0 l) := by
  have hC := Hid.intro (New_any a c l hl hr hnil w hs)
  clear hs
  go_enter Tryd.func10, Tryd.ntmps10
  go_wp2_with (go_at_call 9; (with_reducible refine hC.out.mono ?_); rintro e w1 ⟨p, rfl, ho⟩; replace ho := Hid.intro ho)
  refine bodyPost_ret (by simp [results, Tryd.results10, go_sem]; try rfl) rfl ⟨_, rfl, ho.out⟩
end Go.Proofs.YtlchefdddgbohaaDoor
