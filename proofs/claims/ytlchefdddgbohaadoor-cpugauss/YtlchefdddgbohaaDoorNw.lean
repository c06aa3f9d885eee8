/- slices.Clone of int32s; cpu.New. -/
import Derived.Test.YtlchefdddgbohaaDoorLw
import Derived.Test.YtlchefdddgbohaaDoorAp1
namespace Go.Proofs.YtlchefdddgbohaaDoor
open Go.ChangeShapes Go.WideShapes Go.ChangeAt Go.RowKit
set_option linter.unusedVariables false
set_option linter.unusedSimpArgs false
set_option maxRecDepth 100000
theorem info21 : (Tryd.prog.info? 21).map (fun i => (i.zero, i.size, i.bytes)) = some (some (.int .i32 0), 1, 4) := by kernel_rfl
theorem info_parts {i : Option TypeInfo} {z : Value} {s b : Nat} (h : i.map (fun i => (i.zero, i.size, i.bytes)) = some (some z, s, b)) : ∃ j, i = some j ∧ j.zero = some z ∧ j.size = s ∧ j.bytes = b := by
  cases i with
  | none => cases h
  | some j =>
    simp only [Option.map_some, Option.some.injEq, Prod.mk.injEq] at h
    exact ⟨j, rfl, h.1, h.2.1, h.2.2⟩
theorem own_slice {w : World} {lo : Nat} {T : TypeId} {sz : Nat} {v : Value} {n : Nat} {xs : List Value} (h : w.ownsRow lo T sz v n xs) : ∃ a c, v = .slice a n c := by
  rcases h.2 with ⟨rfl, rfl⟩ | ⟨g, cap, cur, rfl, _⟩
  · exact ⟨none, 0, rfl⟩
  · exact ⟨_, _, rfl⟩
theorem own_low {w : World} {lo : Nat} {T : TypeId} {sz : Nat} {v : Value} {n : Nat} {xs : List Value} (h : w.ownsRow lo T sz v n xs) : w.ownsRow 0 T sz v n xs := by
  refine ⟨h.1, ?_⟩
  rcases h.2 with hx | ⟨g, cap, cur, k1, k2, k3⟩
  · exact .inl hx
  · exact .inr ⟨g, cap, cur, k1, Nat.zero_le _, k3⟩
theorem rowI_one (l : List Int) : ∀ u ∈ rowI l, u.oneCell' = true := fun u hu => by
  unfold rowI at hu
  obtain ⟨x, _, rfl⟩ := List.mem_map.1 hu
  rfl
theorem nil_yes (w : World) : (binOp .eql 26 (.slice none 0 0) (.slice none 0 0)).run Tryd.prog w = .ok (.bool true) w := by kernel_rfl
theorem nil_no (a : Addr) (n c : Nat) (w : World) : (binOp .eql 26 (.slice (some a) n c) (.slice none 0 0)).run Tryd.prog w = .ok (.bool false) w := by kernel_rfl
theorem clone_any (a : Option Addr) (c : Nat) (l : List Int) (hl : l.length ≤ 1000000) (hnil : a = none → c = 0) (w : World) (hs : Src w (.slice a l.length c) l.length (rowI l)) :
    Calls Tryd.prog 29 #[.slice a l.length c] w fun e w' => Below w.heap.size w w' ∧ ∃ v, e = .returned v ∧ w'.ownsRow w.heap.size 21 1 v l.length (rowI l) := by
  cases a with
  | none =>
    obtain rfl := hnil rfl
    have h0 : l.length = 0 := by
      rcases hs with ⟨h, _⟩ | ⟨_, _, h, _⟩
      · injection h
      · cases h
    have hl0 : l = [] := List.eq_nil_of_length_eq_zero h0
    subst hl0
    clear hs
    have hb := nil_yes w
    go_enter Tryd.func29, Tryd.ntmps29
    go_wp2
    go_ret
    exact ⟨Below.refl _ _, _, rfl, World.ownsRow_nil _ _ _ _⟩
  | some a =>
    obtain ⟨i1, hi1, hz0, hz1, hz2⟩ := info_parts info21
    have hb1 := below_alloc w (.cells #[] 21)
    have hown := World.ownsRow_made (w := w) (base := w.heap.size) (e := 21) (size := 1) #[] 0 (Nat.le_refl _) (Nat.zero_le _) rfl
    have hs1 : Src (w.alloc (.cells #[] 21)) (.slice (some a) l.length c) l.length (rowI l) := by
      rcases hs with ⟨h, _⟩ | ⟨a', c', h, hc⟩
      · cases h
      · cases h
        refine .inr ⟨_, _, rfl, fun j u hu => ?_⟩
        have := hc j u hu
        have hlt : (a.add j).block < w.heap.size := by
          unfold World.cell? at this
          split at this
          · rename_i hg
            exact (Array.getElem?_eq_some_iff.1 hg).1
          · cases this
        exact (hb1.cell hlt).trans this
    have hb := nil_no a l.length c w
    have hlen : (rowI l).length = l.length * 1 := by rw [rowI_len, Nat.mul_one]
    have hone := Hid.intro (rowI_one l)
    have hm1 : 0 + l.length ≤ maxLen := by unfold maxLen; omega
    have hm2 : ((0 + l.length) + (0 + l.length) / 4 + 192) * 4 ≤ 281474976710656 := by omega
    have hm3 : w.heap.size ≤ (w.alloc (.cells #[] 21)).heap.size := by simp
    have hown := Hid.intro hown
    have hs1 := Hid.intro hs1
    have hb1 := Hid.intro hb1
    clear hs
    go_enter Tryd.func29, Tryd.ntmps29
    go_wp2_with (at_builtin; go_must (refine wpList_app rfl (.tmp 5) (.tmp 6) 26 rfl w.heap.size 21 i1 _ 1 4 Tryd.underlying26 hi1 hz0 hz1 hz2 rfl (by decide) (.slice (some ⟨w.heap.size, 0, none⟩) 0 0) 0 [] rfl hown.out (.slice (some a) l.length c) l.length (rowI l) rfl hs1.out hlen hone.out hm1 hm2 hm3 ?_; intro v4 w4 ho4 hg4 hw4; have ho5 := Hid.intro ho4; have hbel := Hid.intro (hb1.out.grown hg4 hm3 (fun j e => by cases e; exact Nat.le_refl _)); clear ho4 hg4 hw4))
    go_ret
    have ho := ho5.out
    simp only [Nat.zero_add, List.nil_append] at ho
    exact ⟨hbel.out, _, rfl, ho⟩
end Go.Proofs.YtlchefdddgbohaaDoor
