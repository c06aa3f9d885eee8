/- object: what Read and Write answer, in the form that the laws use; closed runs; the law's known. -/
import Derived.Test.YtmndccbeddaphaaGreatDoorOwr5
import Derived.Test.YtmndccbeddaphaaGreatDoorSetM
import Derived.Test.YtmndccbeddaphaaGreatDoorOrd20
import Derived.Test.YtmndccbeddaphaaGreatDoorOrd4
import Derived.Test.YtmndccbeddaphaaGreatDoorRfe
import Derived.Test.YtmndccbeddaphaaGreatDoorRgL
namespace Go.Proofs.YtmndccbeddaphaaGreatDoor
open Go.ChangeShapes Go.WideShapes Go.ChangeAt Go.RowKit Go.Sort
set_option linter.unusedVariables false
set_option linter.unusedSimpArgs false
set_option maxRecDepth 100000
def sL {α : Type} (f : α → List Int) (l : List α) : List Int := O.leB ((l.length : Int) % 4294967296) 2 ++ l.flatMap f
def sUnit (u : UVal) : List Int := hdL ++ (sL sItem u.text ++ (sL sItem u.data ++ (sL sEqu u.equs ++ sL sTx u.globs)))
section
variable {w w' w0 wA : World} {r : Nat} {acc zs : List Int} {k : Nat} {a : Option Addr} {c : Nat}
theorem hd_cells : Lib.strCells ⟨#[83, 80, 65, 78, 1]⟩ = O.cellsOf hdL := rfl
set_option maxHeartbeats 8000000 in
theorem wunit_is (ta : Option Addr) (tc : Nat) (da : Option Addr) (dc : Nat) (ea : Option Addr) (ec : Nat) (ga : Option Addr) (gc : Nat) (u : UVal) (hu : okU u) (hblk : w.heap[r]? = some (.cells #[.slice none 0 0] 65 (0, 0))) (hr : w0.heap.size ≤ r) (hB : Below w0.heap.size w0 w) (hT : Tab w0) (hI : UnitIn w0 ta da ea ga u) : Calls Tryz.prog 29 #[.pointer (some ⟨r, 0, none⟩), .agg (unitV ta tc da dc ea ec ga gc u)] w fun e w' => e = .returned (.tuple #[]) ∧ WG w w' r ∧ WX w' r (sUnit u) 2000 := by
  obtain ⟨i0, hi, hz0, hz1, hz2⟩ := info_parts O.Tryz.info5
  have hrl := blk_lt hblk
  have hS0 : WS w r [] 0 none 0 [] := ⟨hblk, World.ownsRow_nil _ _ _ _, fun z hz => absurd hz (by simp), .inl rfl, by simp⟩
  have hb := below_alloc w (.cells (unitV ta tc da dc ea ec ga gc u) 30)
  have e1 := heap_alloc_new w (.cells (unitV ta tc da dc ea ec ga gc u) 30)
  have hg0 : WG w (w.alloc (.cells (unitV ta tc da dc ea ec ga gc u) 30)) r := WG.of_below hb hrl
  have hS1 := hS0.below hb
  have c0 : (w.alloc (.cells (unitV ta tc da dc ea ec ga gc u) 30)).cell? ⟨r, 0, none⟩ = some (.slice none 0 0) := one_read hS1.blk
  have hown : Hid ((w.alloc (.cells (unitV ta tc da dc ea ec ga gc u) 30)).ownsRow (r + 1) 5 1 (.slice none 0 0) 0 []) := World.ownsRow_nil _ _ _ _
  have hbase : r + 1 ≤ (w.alloc (.cells (unitV ta tc da dc ea ec ga gc u) 30)).heap.size := by simp; omega
  have hBA : Below w0.heap.size w0 (w.alloc (.cells (unitV ta tc da dc ea ec ga gc u) 30)) := hB.trans (hb.mono hB.size)
  have hpush : Hid (∀ v' w3, w3.ownsRow (r + 1) 5 1 v' 5 (O.cellsOf hdL) → (w.alloc (.cells (unitV ta tc da dc ea ec ga gc u) 30)).grownBy w3 (Value.ownBlock (.slice none 0 0)) → w3.cell? ⟨r, 0, none⟩ = some (.slice none 0 0) ∧ w3.frozen? ⟨r, 0, none⟩ = false ∧ WG (w.alloc (.cells (unitV ta tc da dc ea ec ga gc u) 30)) (w3.setCell ⟨r, 0, none⟩ v') r ∧ WX (w3.setCell ⟨r, 0, none⟩ v') r hdL 5) := fun v' w3 h2 h3 => hS1.push (ys := hdL) (by unfold hdL; intro z hz; simp at hz; omega) (m := 5) (by decide) h2 h3
  have hc : Hid (∀ w1, WG (w.alloc (.cells (unitV ta tc da dc ea ec ga gc u) 30)) w1 r → _) := fun w1 g1 => four_read (g1.blk e1 (by omega) (by decide))
  have h1 : Hid (∀ w1, WG (w.alloc (.cells (unitV ta tc da dc ea ec ga gc u) 30)) w1 r → WX w1 r hdL 5 → Calls Tryz.prog 68 #[.pointer (some ⟨r, 0, none⟩), .slice ta u.text.length tc, .func (.func 69) #[.pointer (some ⟨r, 0, none⟩)] #[]] w1 fun e w' => e = .returned (.tuple #[]) ∧ WG (w.alloc (.cells (unitV ta tc da dc ea ec ga gc u) 30)) w' r ∧ WX w' r (hdL ++ sL sItem u.text) 400) := fun w1 g1 x1 => by
    refine (witems_is x1 (by omega) hr (hBA.trans (g1.below.mono hr)) hT u.text hu.text.1 hu.text.2 hI.text).mono ?_
    rintro e w2 ⟨rfl, g2, x2⟩
    exact ⟨rfl, g1.trans g2, x2.more (by omega)⟩
  have h2 : Hid (∀ w1, WG (w.alloc (.cells (unitV ta tc da dc ea ec ga gc u) 30)) w1 r → WX w1 r (hdL ++ sL sItem u.text) 400 → Calls Tryz.prog 68 #[.pointer (some ⟨r, 0, none⟩), .slice da u.data.length dc, .func (.func 69) #[.pointer (some ⟨r, 0, none⟩)] #[]] w1 fun e w' => e = .returned (.tuple #[]) ∧ WG (w.alloc (.cells (unitV ta tc da dc ea ec ga gc u) 30)) w' r ∧ WX w' r (hdL ++ sL sItem u.text ++ sL sItem u.data) 800) := fun w1 g1 x1 => by
    refine (witems_is x1 (by omega) hr (hBA.trans (g1.below.mono hr)) hT u.data hu.data.1 hu.data.2 hI.data).mono ?_
    rintro e w2 ⟨rfl, g2, x2⟩
    exact ⟨rfl, g1.trans g2, x2.more (by omega)⟩
  have h3 : Hid (∀ w1, WG (w.alloc (.cells (unitV ta tc da dc ea ec ga gc u) 30)) w1 r → WX w1 r (hdL ++ sL sItem u.text ++ sL sItem u.data) 800 → Calls Tryz.prog 70 #[.pointer (some ⟨r, 0, none⟩), .slice ea u.equs.length ec, .func (.func 71) #[.pointer (some ⟨r, 0, none⟩)] #[]] w1 fun e w' => e = .returned (.tuple #[]) ∧ WG (w.alloc (.cells (unitV ta tc da dc ea ec ga gc u) 30)) w' r ∧ WX w' r (hdL ++ sL sItem u.text ++ sL sItem u.data ++ sL sEqu u.equs) 1200) := fun w1 g1 x1 => by
    refine (wequs_is x1 (by omega) hr (hBA.trans (g1.below.mono hr)) u.equs hu.equs.1 hu.equs.2 hI.equs).mono ?_
    rintro e w2 ⟨rfl, g2, x2⟩
    exact ⟨rfl, g1.trans g2, x2.more (by omega)⟩
  have h4 : Hid (∀ w1, WG (w.alloc (.cells (unitV ta tc da dc ea ec ga gc u) 30)) w1 r → WX w1 r (hdL ++ sL sItem u.text ++ sL sItem u.data ++ sL sEqu u.equs) 1200 → Calls Tryz.prog 72 #[.pointer (some ⟨r, 0, none⟩), .slice ga u.globs.length gc, .func (.func 73) #[.pointer (some ⟨r, 0, none⟩)] #[]] w1 fun e w' => e = .returned (.tuple #[]) ∧ WG w w' r ∧ WX w' r (sUnit u) 2000) := fun w1 g1 x1 => by
    refine (wglobs_is x1 (by omega) hr (hBA.trans (g1.below.mono hr)) u.globs hu.globs.1 hu.globs.2 hI.globs).mono ?_
    rintro e w2 ⟨rfl, g2, x2⟩
    refine ⟨rfl, hg0.trans (g1.trans g2), ?_⟩
    have e : hdL ++ sL sItem u.text ++ sL sItem u.data ++ sL sEqu u.equs ++ sL sTx u.globs = sUnit u := by simp [sUnit]
    have x3 := x2.more (k' := 2000) (by omega)
    rw [← e]
    exact x3
  clear hS0 hS1 hblk hb e1 hg0 hB hBA hT hI hu hr hrl
  go_enter Tryz.func29, Tryz.ntmps29
  go_upto_region 2 with (at_builtin; go_must (refine Lib.wpList_append_own_string _ rfl _ _ 22 9 rfl (r + 1) 5 i0 Tryz.underlying22 Tryz.underlying9 hi hz0 hz1 hz2 _ _ _ rfl hown.out ⟨#[83, 80, 65, 78, 1]⟩ rfl (by unfold maxLen; decide) (by decide) hbase ?_); intro v' w3 ho3 hg3 _; replace ho3 : w3.ownsRow (r + 1) 5 1 v' 5 (O.cellsOf hdL) := ho3; obtain ⟨u1, uf, g1, x1⟩ := hpush.out v' w3 ho3 hg3; replace g1 := Hid.intro g1; replace x1 := Hid.intro x1; obtain ⟨a3, c3, rfl⟩ := own_slice ho3; clear ho3 hg3 hpush hown c0)
  all_goals first | omega | skip
  generalize w3.setCell ⟨r, 0, none⟩ (.slice a3 5 c3) = W3 at *
  obtain ⟨d0, d1, d2, d3⟩ := hc.out _ g1.out
  clear u1 uf
  go_wp2_with (first
    | (go_at_call 68; (with_reducible refine (h1.out _ g1.out x1.out).mono ?_); rintro e w4 ⟨rfl, g2, x2⟩; clear d0 d1 d2 d3; obtain ⟨d0, d1, d2, d3⟩ := hc.out _ g2; replace g2 := Hid.intro g2; replace x2 := Hid.intro x2; clear g1 x1)
    | (go_at_call 68; (with_reducible refine (h2.out _ g2.out x2.out).mono ?_); rintro e w5 ⟨rfl, g3, x3⟩; clear d0 d1 d2 d3; obtain ⟨d0, d1, d2, d3⟩ := hc.out _ g3; replace g3 := Hid.intro g3; replace x3 := Hid.intro x3; clear g2 x2)
    | (go_at_call 70; (with_reducible refine (h3.out _ g3.out x3.out).mono ?_); rintro e w6 ⟨rfl, g4, x4⟩; clear d0 d1 d2 d3; obtain ⟨d0, d1, d2, d3⟩ := hc.out _ g4; replace g4 := Hid.intro g4; replace x4 := Hid.intro x4; clear g3 x3)
    | (go_at_call 72; (with_reducible refine (h4.out _ g4.out x4.out).mono ?_); rintro e w7 ⟨rfl, g5, x5⟩; replace g5 := Hid.intro g5; replace x5 := Hid.intro x5; clear g4 x4))
  all_goals first | omega | skip
  go_end0
  exact ⟨rfl, g5.out, x5.out⟩
def WrN (u : UVal) (n : Int) : Prop := ∃ m, RightN u m ∧ ((m ≠ 0 ∧ n = 31) ∨ (m = 0 ∧ manyU u = true ∧ n = 4) ∨ (m = 0 ∧ manyU u = false ∧ 1048576 < (sUnit u).length ∧ n = 3) ∨ (m = 0 ∧ manyU u = false ∧ (sUnit u).length ≤ 1048576 ∧ n = 0))
theorem wrN_one {u : UVal} {n m : Int} (h : WrN u n) (h' : WrN u m) : n = m := by
  obtain ⟨p, hp, h⟩ := h
  obtain ⟨q, hq, h'⟩ := h'
  have := rightN_one hp hq
  subst this
  rcases h with h | h | h | h <;> rcases h' with h' | h' | h' | h' <;> simp_all <;> omega
theorem right_okU {u : UVal} (hu : HeldU u) (hN : NumU u) (h : RightN u 0) : okU u := by
  rcases h with ⟨_, h⟩ | ⟨_, ⟨h, _⟩ | ⟨_, h⟩⟩
  · cases h
  · have ht := List.all_eq_true.1 h.text
    have hd := List.all_eq_true.1 h.data
    have he := List.all_eq_true.1 h.equs
    refine ⟨⟨by have := hu.text.1; omega, fun x hx => okI_okJ (ht x hx) (hN.text x hx) (hu.text.2 x hx).few⟩, ⟨by have := hu.data.1; omega, fun x hx => okI_okJ (hd x hx) (hN.data x hx) (hu.data.2 x hx).few⟩, ⟨by have := hu.equs.1; omega, fun q hq => okE_okQ (he q hq) (hN.equs q hq) (hu.equs.2 q hq).few⟩, by have := hu.globs; omega, fun s hs => ?_⟩
    have h1 := h.globs.2 s hs
    unfold sortS at h1
    rw [List.mem_mergeSort] at h1
    unfold UVal.names at h1
    rcases List.mem_append.1 h1 with h1 | h1
    · rcases List.mem_append.1 h1 with h1 | h1
      · unfold labN at h1
        obtain ⟨x, hx, rfl⟩ := List.mem_map.1 h1
        exact (okI_okJ (ht x (List.mem_filter.1 hx).1) (hN.text x (List.mem_filter.1 hx).1) (hu.text.2 x (List.mem_filter.1 hx).1).few).name
      · unfold labN at h1
        obtain ⟨x, hx, rfl⟩ := List.mem_map.1 h1
        exact (okI_okJ (hd x (List.mem_filter.1 hx).1) (hN.data x (List.mem_filter.1 hx).1) (hu.data.2 x (List.mem_filter.1 hx).1).few).name
    · obtain ⟨q, hq, rfl⟩ := List.mem_map.1 h1
      exact (okE_okQ (he q hq) (hN.equs q hq) (hu.equs.2 q hq).few).name
  · cases h
def WrOut (w : World) (u : UVal) (e : Ending) (w' : World) : Prop := Below w.heap.size w w' ∧ ∃ n, WrN u n ∧ ((n ≠ 0 ∧ e = .returned (.tuple #[.slice none 0 0, .int .i64 n])) ∨ (n = 0 ∧ ∃ a c, e = .returned (.tuple #[.slice a (sUnit u).length c, .int .i64 0]) ∧ O.Got w' w.heap.size a c (sUnit u)))
set_option maxHeartbeats 8000000 in
theorem write_is (ta : Option Addr) (tc : Nat) (da : Option Addr) (dc : Nat) (ea : Option Addr) (ec : Nat) (ga : Option Addr) (gc : Nat) (u : UVal) (hu : HeldU u) (hN : NumU u) (w : World) (hT : Tab w) (hI : UnitIn w ta da ea ga u) : Calls Tryz.prog 9 #[.agg (unitV ta tc da dc ea ec ga gc u)] w fun e w' => WrOut w u e w' := by
  have hb := below_alloc w (.cells (unitV ta tc da dc ea ec ga gc u) 30)
  have e1 := heap_alloc_new w (.cells (unitV ta tc da dc ea ec ga gc u) 30)
  have hB1 : Hid (∀ w1, Below (w.alloc (.cells (unitV ta tc da dc ea ec ga gc u) 30)).heap.size (w.alloc (.cells (unitV ta tc da dc ea ec ga gc u) 30)) w1 → Below w.heap.size w w1) := fun w1 h1 => hb.trans (h1.mono hb.size)
  have hc : Hid (∀ w1, Below (w.alloc (.cells (unitV ta tc da dc ea ec ga gc u) 30)).heap.size (w.alloc (.cells (unitV ta tc da dc ea ec ga gc u) 30)) w1 → _) := fun w1 h1 => four_read ((h1.block w.heap.size (by simp)).trans e1)
  obtain ⟨d0, d1, d2, d3⟩ := hc.out _ (Below.refl _ _)
  have h27 : Hid (Calls Tryz.prog 27 #[.agg (unitV ta tc da dc ea ec ga gc u)] (w.alloc (.cells (unitV ta tc da dc ea ec ga gc u) 30)) fun e w' => (∃ n : Int, e = .returned (.int .i64 n) ∧ RightN u n) ∧ Below (w.alloc (.cells (unitV ta tc da dc ea ec ga gc u) 30)).heap.size (w.alloc (.cells (unitV ta tc da dc ea ec ga gc u) 30)) w') := unitRight_any ta tc da dc ea ec ga gc u hu _ (hT.below hb hT.size) (hI.below hb)
  have h28 : Hid (∀ w1, Below (w.alloc (.cells (unitV ta tc da dc ea ec ga gc u) 30)).heap.size (w.alloc (.cells (unitV ta tc da dc ea ec ga gc u) 30)) w1 → Calls Tryz.prog 28 #[.agg (unitV ta tc da dc ea ec ga gc u)] w1 fun e w' => e = .returned (.bool (manyU u)) ∧ Below (w.alloc (.cells (unitV ta tc da dc ea ec ga gc u) 30)).heap.size (w.alloc (.cells (unitV ta tc da dc ea ec ga gc u) 30)) w') := fun w1 h1 => by
    refine (many_is ta tc da dc ea ec ga gc u hu w1 (hI.below (hB1.out w1 h1))).mono ?_
    rintro e w2 ⟨rfl, b2⟩
    exact ⟨rfl, h1.trans (b2.mono h1.size)⟩
  have hwr : Hid (∀ w1, RightN u 0 → Below (w.alloc (.cells (unitV ta tc da dc ea ec ga gc u) 30)).heap.size (w.alloc (.cells (unitV ta tc da dc ea ec ga gc u) 30)) w1 → Calls Tryz.prog 29 #[.pointer (some ⟨w1.heap.size, 0, none⟩), .agg (unitV ta tc da dc ea ec ga gc u)] (w1.alloc (.cells #[.slice none 0 0] 65)) fun e w' => e = .returned (.tuple #[]) ∧ ∃ a c zs, WS w' w1.heap.size (sUnit u) 2000 a c zs ∧ Below w.heap.size w w') := fun w1 hR h1 => by
    have hw := hB1.out w1 h1
    have hb2 := below_alloc w1 (.cells #[.slice none 0 0] 65)
    refine (wunit_is ta tc da dc ea ec ga gc u (right_okU hu hN hR) (heap_alloc_new w1 _) hw.size (hw.trans (hb2.mono hw.size)) hT hI).mono ?_
    rintro e w2 ⟨rfl, g2, a2, c2, zs2, x2⟩
    exact ⟨rfl, a2, c2, zs2, x2, (hw.trans (hb2.mono hw.size)).trans (g2.below.mono hw.size)⟩
  have hcA : Hid (∀ w1, Below (w.alloc (.cells (unitV ta tc da dc ea ec ga gc u) 30)).heap.size (w.alloc (.cells (unitV ta tc da dc ea ec ga gc u) 30)) w1 → (w1.alloc (.cells #[.slice none 0 0] 65)).cell? ⟨w.heap.size, 0, none⟩ = some (.slice ta u.text.length tc) ∧ (w1.alloc (.cells #[.slice none 0 0] 65)).cell? ⟨w.heap.size, 1, none⟩ = some (.slice da u.data.length dc) ∧ (w1.alloc (.cells #[.slice none 0 0] 65)).cell? ⟨w.heap.size, 2, none⟩ = some (.slice ea u.equs.length ec) ∧ (w1.alloc (.cells #[.slice none 0 0] 65)).cell? ⟨w.heap.size, 3, none⟩ = some (.slice ga u.globs.length gc)) := fun w1 h1 => hc.out _ (h1.alloc h1.size _)
  have hRN : Hid (∀ n, RightN u n → ((n = 0) ∨ (n ≠ 0 ∧ (n == 0) = false))) := fun n _ => by
    by_cases h : n = 0
    · exact .inl h
    · exact .inr ⟨h, by simpa using h⟩
  clear hT hI hb e1 hN hu
  go_enter Tryz.func9, Tryz.ntmps9
  go_upto_region 1 with fail
  all_goals first | omega | skip
  have hM : manyU u = true ∨ manyU u = false := by cases manyU u <;> simp
  rcases hM with hM | hM
  · rw [hM] at h28
    replace hM := Hid.intro hM
    go_wp2_with (first
      | (go_at_call 27; (with_reducible refine (h27.out).mono ?_); rintro e w1 ⟨⟨n, rfl, hn⟩, b1⟩; clear d0 d1 d2 d3; obtain ⟨d0, d1, d2, d3⟩ := hc.out _ b1; replace hn := Hid.intro hn; replace b1 := Hid.intro b1; rcases hRN.out n hn.out with rfl | ⟨hne, hnb⟩)
      | (go_at_call 28; (with_reducible refine (h28.out _ b1.out).mono ?_); rintro e w2 ⟨rfl, b2⟩; replace b2 := Hid.intro b2))
    all_goals first | omega | skip
    · go_ret2
      exact ⟨hB1.out _ b2.out, 4, ⟨0, hn.out, .inr (.inl ⟨rfl, hM.out, rfl⟩)⟩, .inl ⟨by decide, rfl⟩⟩
    · go_ret2
      exact ⟨hB1.out _ b1.out, 31, ⟨n, hn.out, .inl ⟨hne, rfl⟩⟩, .inl ⟨by decide, rfl⟩⟩
  · rw [hM] at h28
    replace hM := Hid.intro hM
    go_wp2_with (first
      | (go_at_call 27; (with_reducible refine (h27.out).mono ?_); rintro e w1 ⟨⟨n, rfl, hn⟩, b1⟩; clear d0 d1 d2 d3; obtain ⟨d0, d1, d2, d3⟩ := hc.out _ b1; replace hn := Hid.intro hn; replace b1 := Hid.intro b1; rcases hRN.out n hn.out with rfl | ⟨hne, hnb⟩)
      | (go_at_call 28; (with_reducible refine (h28.out _ b1.out).mono ?_); rintro e w2 ⟨rfl, b2⟩; clear d0 d1 d2 d3; obtain ⟨d0, d1, d2, d3⟩ := hcA.out _ b2; replace b2 := Hid.intro b2)
      | (go_at_call 29; (with_reducible refine (hwr.out _ hn.out b2.out).mono ?_); rintro e w3 ⟨rfl, a3, c3, zs, x3, b3⟩; have h30 := Hid.intro (isFull_is x3 (by omega)); have c3' := one_read x3.blk; obtain ⟨nz, hnz⟩ : ∃ nz, nz = zs.length := ⟨_, rfl⟩; rw [← hnz] at c3' h30; replace hnz := Hid.intro hnz; replace x3 := Hid.intro x3; replace b3 := Hid.intro b3; have hz : 1048576 < nz ∨ ¬ 1048576 < nz := Classical.em _; rcases hz with hz | hz <;> first | rw [decide_eq_true hz] at h30 | rw [decide_eq_false hz] at h30)
      | (go_at_call 30; (with_reducible refine (h30.out).mono ?_); rintro e w4 ⟨rfl, hw4⟩; subst w4))
    all_goals first | omega | skip
    · go_ret2
      refine ⟨b3.out, 3, ⟨0, hn.out, .inr (.inr (.inl ⟨rfl, hM.out, ?_, rfl⟩))⟩, .inl ⟨by decide, rfl⟩⟩
      rw [hnz.out] at hz
      rcases x3.out.rel with h | h
      · rw [← h]; exact hz
      · exact h.2
    · go_ret2
      rw [hnz.out] at hz
      have he : zs = sUnit u := by
        rcases x3.out.rel with h | h
        · exact h
        · exact absurd h.1 hz
      refine ⟨b3.out, 0, ⟨0, hn.out, .inr (.inr (.inr ⟨rfl, hM.out, by rw [← he]; omega, rfl⟩))⟩, .inr ⟨rfl, a3, c3, ?_, ?_⟩⟩
      · rw [← he, ← hnz.out]; rfl
      · have ho := own_weaken x3.out.own (show w.heap.size ≤ _ from Nat.le_trans (hB1.out _ b2.out).size (Nat.le_succ _))
        rw [he] at ho
        exact ho
    · go_ret2
      exact ⟨hB1.out _ b1.out, 31, ⟨n, hn.out, .inl ⟨hne, rfl⟩⟩, .inl ⟨by decide, rfl⟩⟩
end
end Go.Proofs.YtmndccbeddaphaaGreatDoor
namespace Go.Proofs.YtmndccbeddaphaaGreatDoor
open Go.ChangeShapes Go.WideShapes Go.ChangeAt Go.RowKit
set_option linter.unusedVariables false
set_option linter.unusedSimpArgs false
set_option maxRecDepth 100000
theorem ItOwn.itIn {lo : Nat} {w : World} {a : Option Addr} {n c : Nat} {p : List (Itm × Value)} (h : ItOwn lo w (.slice a n c) p) : ItIn w a (p.map (·.1)) := by
  rcases h.row.2 with ⟨hv, h0⟩ | ⟨g, cap, cur, hv, _, hg, _⟩
  · exact .inl (by rw [List.length_eq_zero_iff.1 h0]; rfl)
  · injection hv with hv1 hv2 hv3
    subst hv1
    refine .inr ⟨g, 0, rfl, (Array.getElem?_eq_some_iff.1 hg).1, fun i x hx => ?_⟩
    rw [List.getElem?_map] at hx
    obtain ⟨q, hq, rfl⟩ := Option.map_eq_some_iff.1 hx
    have hlt := (List.getElem?_eq_some_iff.1 hq).1
    have ho := h.each q (List.mem_of_getElem? hq)
    obtain ⟨va, vc, hva⟩ := own_slice ho
    have hrow := h.row
    rw [hv2] at hrow
    have key : ∀ j, j < 10 → w.cell? ⟨g, 0 + i * 10 + j, none⟩ = (itmCells q.1 q.2).toList[j]? := fun j hj => by
      rw [Nat.zero_add, hrow.cellAt _ (by omega)]
      exact flat_at (fun q : Itm × Value => (itmCells q.1 q.2).toList) 10 (fun _ => rfl) p i j q hq hj
    rw [hva] at key ho
    exact ⟨va, vc, ⟨key 0 (by omega), key 1 (by omega), key 2 (by omega), key 3 (by omega), key 4 (by omega), key 5 (by omega), key 6 (by omega), key 7 (by omega), key 8 (by omega), key 9 (by omega)⟩, own_tmLies ho⟩
theorem EqOw.eqIn {lo : Nat} {w : World} {a : Option Addr} {n c : Nat} {p : List (Eqv × Value)} (h : EqOw lo w (.slice a n c) p) : EqIn w a (p.map (·.1)) := by
  rcases h.row.2 with ⟨hv, h0⟩ | ⟨g, cap, cur, hv, _, hg, _⟩
  · exact .inl (by rw [List.length_eq_zero_iff.1 h0]; rfl)
  · injection hv with hv1 hv2 hv3
    subst hv1
    refine .inr ⟨g, 0, rfl, (Array.getElem?_eq_some_iff.1 hg).1, fun i x hx => ?_⟩
    rw [List.getElem?_map] at hx
    obtain ⟨q, hq, rfl⟩ := Option.map_eq_some_iff.1 hx
    have hlt := (List.getElem?_eq_some_iff.1 hq).1
    have ho := h.each q (List.mem_of_getElem? hq)
    obtain ⟨va, vc, hva⟩ := own_slice ho
    have hrow := h.row
    rw [hv2] at hrow
    have key : ∀ j, j < 3 → w.cell? ⟨g, 0 + i * 3 + j, none⟩ = (eqCells q.1 q.2).toList[j]? := fun j hj => by
      rw [Nat.zero_add, hrow.cellAt _ (by omega)]
      exact flat_at (fun q : Eqv × Value => (eqCells q.1 q.2).toList) 3 (fun _ => rfl) p i j q hq hj
    have k1 : w.cell? ⟨g, 0 + i * 3 + 1, none⟩ = some q.2 := key 1 (by omega)
    rw [hva] at k1 ho
    exact ⟨va, vc, (key 0 (by omega)).trans rfl, k1, (key 2 (by omega)).trans rfl, own_tmLies ho⟩
theorem UL.unitIn {lo : Nat} {w : World} {vt vd ve vg : Value} {LT LD : List (Itm × Value)} {LE : List (Eqv × Value)} {LG : INm} {u : UVal} (h : UL lo w vt vd ve vg LT LD LE LG) (h1 : LT.map (·.1) = u.text) (h2 : LD.map (·.1) = u.data) (h3 : LE.map (·.1) = u.equs) (h4 : LG = u.globs) : ∃ ta tc da dc ea ec ga gc, #[vt, vd, ve, vg] = unitV ta tc da dc ea ec ga gc u ∧ UnitIn w ta da ea ga u := by
  obtain ⟨ta, tc, rfl⟩ := own_slice h.t.row
  obtain ⟨da, dc, rfl⟩ := own_slice h.d.row
  obtain ⟨ea, ec, rfl⟩ := own_slice h.e.row
  obtain ⟨ga, gc, rfl⟩ := own_slice h.g
  subst h4
  have l1 : LT.length = u.text.length := by rw [← h1, List.length_map]
  have l2 : LD.length = u.data.length := by rw [← h2, List.length_map]
  have l3 : LE.length = u.equs.length := by rw [← h3, List.length_map]
  refine ⟨ta, tc, da, dc, ea, ec, ga, gc, by rw [l1, l2, l3], ?_, ?_, ?_, ?_⟩
  · rw [← h1]; exact h.t.itIn
  · rw [← h2]; exact h.d.itIn
  · rw [← h3]; exact h.e.eqIn
  · exact own_stIn h.g
structure Env (w : World) : Prop where
  tab : Tab w
  pow : Pow w
theorem Env.below {w w' : World} (h : Env w) (hb : Below w.heap.size w w') : Env w' := ⟨h.tab.below hb h.tab.size, h.pow.below hb h.pow.lt⟩
theorem read_bad {w : World} {a : Option Addr} {c : Nat} {zs : List Int} (f1 f2 : Nat) (hE : Env w) (hl : O.Lies w a zs) (ha : ∀ x, a = some x → x.block < w.heap.size) (hn : zs.length ≤ 1048576) (hc : zs.length ≤ c) (hb : rdBad zs = some ((f1 : Int), (f2 : Int))) : Calls Tryz.prog 10 #[.slice a zs.length c] w fun e w' => Below w.heap.size w w' ∧ ∃ q, e = .returned (.tuple #[.agg uZ, .iface 66 (.pointer (some ⟨q, 0, none⟩))]) ∧ w'.heap[q]? = some (.cells #[.int .i64 (f1 : Int), .int .i64 (f2 : Int)] 68 (0, 0)) := by
  refine (read_is hl ha hn hc hE.tab).mono ?_
  rintro e w' ⟨hB, ⟨f, q, h1, h2, h3⟩ | ⟨h1, _⟩⟩
  · rw [hb] at h1
    cases h1
    exact ⟨hB, q, h2, h3⟩
  · rw [hb] at h1
    cases h1
theorem read_ok {w : World} {a : Option Addr} {c : Nat} {zs : List Int} (hE : Env w) (hl : O.Lies w a zs) (ha : ∀ x, a = some x → x.block < w.heap.size) (hn : zs.length ≤ 1048576) (hc : zs.length ≤ c) (hb : rdBad zs = none) : Calls Tryz.prog 10 #[.slice a zs.length c] w fun e w' => Below w.heap.size w w' ∧ ∃ ta tc da dc ea ec ga gc, e = .returned (.tuple #[.agg (unitV ta tc da dc ea ec ga gc (rdU zs)), .nilIface]) ∧ UnitIn w' ta da ea ga (rdU zs) := by
  refine (read_is hl ha hn hc hE.tab).mono ?_
  rintro e w' ⟨hB, ⟨f, q, h1, h2, h3⟩ | ⟨h1, vt, vd, ve, vg, LT, LD, LE, LG, h2, h3, m1, m2, m3, m4⟩⟩
  · rw [hb] at h1
    cases h1
  · obtain ⟨ta, tc, da, dc, ea, ec, ga, gc, hv, hI⟩ := h3.unitIn m1 m2 m3 m4
    exact ⟨hB, ta, tc, da, dc, ea, ec, ga, gc, by rw [h2, hv], hI⟩
def uE : UVal := ⟨[], [], [], []⟩
def z13 : List Int := [83, 80, 65, 78, 1, 0, 0, 0, 0, 0, 0, 0, 0]
theorem sUnit_E : sUnit uE = z13 := by decide +kernel
theorem rightU_E : RightU uE := by
  refine ⟨rfl, rfl, rfl, ?_, ?_, ?_⟩
  · rintro ⟨i, s, h, _⟩
    simp [UVal.names, uE, labN, sortS] at h
  · intro i p g h
    simp [uE] at h
  · intro g h
    simp [uE] at h
theorem rightN_E : RightN uE 0 := .inr ⟨by simp [uE], .inl ⟨rightU_E, rfl⟩⟩
theorem wrN_E : WrN uE 0 := ⟨0, rightN_E, .inr (.inr (.inr ⟨rfl, rfl, by rw [sUnit_E]; decide, rfl⟩))⟩
theorem heldU_E : HeldU uE := ⟨⟨Nat.zero_le _, fun x hx => by cases hx⟩, ⟨Nat.zero_le _, fun x hx => by cases hx⟩, ⟨Nat.zero_le _, fun x hx => by cases hx⟩, Nat.zero_le _⟩
theorem numU_E : NumU uE := ⟨fun x hx => (by cases hx), fun x hx => (by cases hx), fun x hx => (by cases hx)⟩
theorem unitIn_E (w : World) : UnitIn w none none none none uE := ⟨.inl rfl, .inl rfl, .inl rfl, .inl rfl⟩
theorem rdBad_E : rdBad z13 = none := by decide +kernel
theorem rdU_E : rdU z13 = uE := by
  have h1 : (rdT z13).1.length = 0 := by decide +kernel
  have h2 : (rdD z13).1.length = 0 := by decide +kernel
  have h3 : (rdE z13).1.length = 0 := by decide +kernel
  have h4 : (rdG z13).1.length = 0 := by decide +kernel
  unfold rdU uE
  rw [List.length_eq_zero_iff.1 h1, List.length_eq_zero_iff.1 h2, List.length_eq_zero_iff.1 h3, List.length_eq_zero_iff.1 h4]
theorem z13_bytes : O.AreBytes z13 := by unfold z13; intro z hz; simp at hz; omega
theorem got_lies {w : World} {lo : Nat} {a : Option Addr} {c : Nat} {zs : List Int} (h : O.Got w lo a c zs) (hz : O.AreBytes zs) : O.Lies w a zs ∧ (∀ x, a = some x → x.block < w.heap.size) ∧ zs.length ≤ c := by
  refine ⟨O.Got.lies h hz, fun x hx => ?_, O.Got.cap h⟩
  subst hx
  exact (World.ownsRow.lt h x.block rfl).2
theorem write_E (w : World) (hE : Env w) : Calls Tryz.prog 9 #[.agg uZ] w fun e w' => Below w.heap.size w w' ∧ ∃ a c, e = .returned (.tuple #[.slice a 13 c, .int .i64 0]) ∧ O.Got w' w.heap.size a c z13 := by
  refine (write_is none 0 none 0 none 0 none 0 uE heldU_E numU_E w hE.tab (unitIn_E w)).mono ?_
  rintro e w' ⟨hB, n, hn, h⟩
  obtain rfl := wrN_one hn wrN_E
  rcases h with ⟨h, _⟩ | ⟨_, a, c, h1, h2⟩
  · exact absurd rfl h
  · rw [sUnit_E] at h1 h2
    exact ⟨hB, a, c, h1, h2⟩
theorem read_E (w : World) (a : Option Addr) (c : Nat) (hE : Env w) (hl : O.Lies w a z13) (ha : ∀ x, a = some x → x.block < w.heap.size) (hc : 13 ≤ c) : Calls Tryz.prog 10 #[.slice a 13 c] w fun e w' => Below w.heap.size w w' ∧ ∃ ta tc da dc ea ec ga gc, e = .returned (.tuple #[.agg #[.slice ta 0 tc, .slice da 0 dc, .slice ea 0 ec, .slice ga 0 gc], .nilIface]) := by
  refine (read_ok hE hl ha (by decide) hc rdBad_E).mono ?_
  rintro e w' ⟨hB, ta, tc, da, dc, ea, ec, ga, gc, h1, h2⟩
  rw [rdU_E] at h1
  exact ⟨hB, ta, tc, da, dc, ea, ec, ga, gc, h1⟩
end Go.Proofs.YtmndccbeddaphaaGreatDoor
