/- object's reader: a global's name. -/
import Derived.Test.YtmndccbeddaphaaGreatDoorOrd4
import Derived.Deep.LoopGhost
import Derived.Test.YtmndccbeddaphaaGreatDoorOwr5
import Derived.Test.YtmndccbeddaphaaGreatDoorOrd14
import Derived.Test.YtmndccbeddaphaaGreatDoorUGl
/- object's reader: head. -/
namespace Go.Proofs.YtmndccbeddaphaaGreatDoor
open Go.ChangeShapes Go.WideShapes Go.ChangeAt Go.RowKit Go.Sort
set_option linter.unusedVariables false
set_option linter.unusedSimpArgs false
set_option maxRecDepth 100000
def hdL : List Int := [83, 80, 65, 78, 1]
def HdI (zs : List Int) (i : Nat) (bad : Option (Int × Int)) : Prop :=
  (bad = none ∧ i ≤ 5 ∧ i ≤ zs.length ∧ zs.take i = hdL.take i) ∨ ∃ m : Nat, m < 5 ∧ m ≤ zs.length ∧ bad = some ((m : Int), 15) ∧ i = m + 1 ∧ zs.take m = hdL.take m ∧ zs[m]? ≠ hdL[m]?
section
variable {w w' : World} {r : Nat} {a : Option Addr} {c : Nat} {zs : List Int} {p : Nat} {bad : Option (Int × Int)} {rp : Option Nat} {mv : Value} {last : List UInt8}
theorem grown_drew {n : Nat} {k : Option Nat} (hg : (w.drewN n).grownBy w' k) : w.grownBy w' k := ⟨hg.os, hg.tape, hg.output, hg.size, hg.block⟩
theorem hdI_next {i : Nat} {z : Int} (h : HdI zs i none) (hi : i < 5) (hz : zs[i]? = some z) (he : hdL[i]? = some z) : HdI zs (i + 1) none := by
  rcases h with ⟨_, h1, h2, h3⟩ | ⟨m, _, _, h, _⟩
  · have hlt := (List.getElem?_eq_some_iff.1 hz).1
    refine .inl ⟨rfl, by omega, by omega, ?_⟩
    rw [List.take_add_one, List.take_add_one, h3, hz, he]
  · cases h
theorem hdI_bad {i : Nat} (h : HdI zs i none) (hi : i < 5) (hz : zs[i]? ≠ hdL[i]?) : HdI zs (i + 1) (some ((i : Int), 15)) := by
  rcases h with ⟨_, h1, h2, h3⟩ | ⟨m, _, _, h, _⟩
  · exact .inr ⟨i, hi, h2, rfl, rfl, h3, hz⟩
  · cases h
theorem hd_index (i : Nat) (hi : i < 5) : ∃ y : Int, hdL[i]? = some y ∧ ∀ W : World, (Instr.index 9 (.string ⟨#[83, 80, 65, 78, 1]⟩) (.int .i64 (i : Int))).run Tryz.prog W = .ok (.int .u8 y) W := by
  have : i = 0 ∨ i = 1 ∨ i = 2 ∨ i = 3 ∨ i = 4 := by omega
  rcases this with rfl | rfl | rfl | rfl | rfl
  · exact ⟨83, rfl, fun W => by kernel_rfl⟩
  · exact ⟨80, rfl, fun W => by kernel_rfl⟩
  · exact ⟨65, rfl, fun W => by kernel_rfl⟩
  · exact ⟨78, rfl, fun W => by kernel_rfl⟩
  · exact ⟨1, rfl, fun W => by kernel_rfl⟩
theorem RS.next (h : RS w r a c zs p bad rp mv last) (hp : p + 1 ≤ zs.length ∨ (bad.isSome = true ∧ p + 1 ≤ zs.length + 1)) : w.cell? ⟨r, 1, none⟩ = some (.int .i64 (p : Int)) ∧ w.frozen? ⟨r, 1, none⟩ = false ∧ w.grownBy (w.setCell ⟨r, 1, none⟩ (.int .i64 ((p : Int) + 1))) (some r) ∧ RS (w.setCell ⟨r, 1, none⟩ (.int .i64 ((p : Int) + 1))) r a c zs (p + 1) bad rp mv last := by
  obtain ⟨s1, s2⟩ := row_set h.blk 1 (.int .i64 ((p : Int) + 1))
  exact ⟨(five_read h.blk).2.1, frozen_of_row _ r 1 _ 71 h.blk, s2, h.put s2 hp s1 (h.rf.grown h.rne s2)⟩
set_option maxHeartbeats 8000000 in
theorem head_is (h : RS w r a c zs 0 none none mv last) : Calls Tryz.prog 74 #[.pointer (some ⟨r, 0, none⟩)] w fun e w' => e = .returned (.tuple #[]) ∧ w.grownBy w' (some r) ∧ ∃ p' bad' rp', RS w' r a c zs p' bad' rp' mv last ∧ HdI zs p' bad' ∧ (bad' = none → p' = 5) := by
  have hfw := h.few
  obtain ⟨n0, hn0⟩ : ∃ n0, n0 = zs.length := ⟨_, rfl⟩
  rw [← hn0] at hfw
  have hN := Hid.intro hn0
  have h0 := Hid.intro h
  clear h hn0
  go_enter Tryz.func74, Tryz.ntmps74
  go_wp2
  go_loopg [] 6 (fun k wr => ∃ i bad' rp', i + k = 6 ∧ Hid (RS wr r a c zs i bad' rp' mv last) ∧ Hid (w.grownBy wr (some r)) ∧ Hid (HdI zs i bad'))
  case atStart => exact ⟨0, none, none, by omega, h0, World.grownBy.refl _ _, .inl ⟨rfl, by omega, by omega, rfl⟩⟩
  case round =>
    obtain ⟨i, bad', rp', hik, hR, hG, hI⟩ := hrel
    have h32 := Hid.intro (refused_is hR.out)
    have hblk := hR.out.blk
    rw [← hN.out] at hblk
    obtain ⟨c0, c1, _, _, _⟩ := five_read hblk
    cases bad' with
    | some f =>
      clear hblk
      by_cases hi : i < 5
      · have hi' : decide ((i : Int) < 5) = true := by simp; omega
        go_wp2_with (go_at_call 32; (with_reducible refine (h32.out).mono ?_); rintro e w1 ⟨rfl, hw1⟩; subst w1)
        all_goals first | omega | skip
        go_end0
        exact ⟨rfl, hG.out, i, _, rp', hR.out, hI.out, fun e => by cases e⟩
      · have hi' : decide ((i : Int) < 5) = false := by simp; omega
        go_wp2_with fail
        all_goals first | omega | skip
        go_end0
        exact ⟨rfl, hG.out, i, _, rp', hR.out, hI.out, fun e => by cases e⟩
    | none =>
      by_cases hi : i < 5
      · have hi' : decide ((i : Int) < 5) = true := by simp; omega
        have hle : i ≤ n0 := by
          rcases hI.out with ⟨_, _, h1, _⟩ | ⟨_, _, _, h1, _⟩
          · have := hN.out; omega
          · cases h1
        obtain ⟨y, hy, hix⟩ := hd_index i hi
        have hrf : Hid (∀ n, Calls Tryz.prog 82 #[.pointer (some ⟨r, 0, none⟩), .int .i64 (i : Int), .int .i64 15] (wr.drewN n) fun e w' => e = .returned (.tuple #[]) ∧ w'.cell? ⟨r, 1, none⟩ = some (.int .i64 (i : Int)) ∧ w'.frozen? ⟨r, 1, none⟩ = false ∧ w.grownBy (w'.setCell ⟨r, 1, none⟩ (.int .i64 ((i : Int) + 1))) (some r) ∧ ∃ rp', RS (w'.setCell ⟨r, 1, none⟩ (.int .i64 ((i : Int) + 1))) r a c zs (i + 1) (some ((i : Int), 15)) rp' mv last) := fun n => by
          refine (refuse_is (hR.out.below (below_drewN (Below.refl wr.heap.size wr) n)) (i : Int) 15).mono ?_
          rintro e w' ⟨rfl, hg, rp2, hR2⟩
          obtain ⟨k1, k2, k3, k4⟩ := RS.next hR2 (.inr ⟨rfl, by have := hN.out; omega⟩)
          exact ⟨rfl, k1, k2, grown_trans hG.out (grown_trans (grown_drew hg) k3), rp2, k4⟩
        by_cases hend : i = n0
        · have hz : zs[i]? ≠ hdL[i]? := by rw [hy, List.getElem?_eq_none (by have := hN.out; omega)]; simp
          have hnx := Hid.intro (hdI_bad hI.out hi hz)
          have he : ((i : Int) == (n0 : Int)) = true := by simp; omega
          clear hblk hz hI
          subst hend
          go_upto_region 1 with (go_at_call 32; (with_reducible refine (h32.out).mono ?_); rintro e w1 ⟨rfl, hw1⟩; subst w1)
          all_goals first | omega | skip
          go_quiet (fail)
          go_wp2_with (go_at_call 82; (with_reducible refine (hrf.out _).mono ?_); rintro e w2 ⟨rfl, k1, k2, k3, k4⟩; replace k3 := Hid.intro k3; replace k4 := Hid.intro k4)
          all_goals first | omega | skip
          go_roundg (gk - 1)
          case measure => omega
          case rel =>
            obtain ⟨rp2, hR2⟩ := k4.out
            exact ⟨i + 1, _, rp2, by omega, hR2, k3, hnx⟩
        · have hlt : i < n0 := by omega
          obtain ⟨g, o, ha, hcells⟩ : ∃ g o, a = some ⟨g, o, none⟩ ∧ ∀ j, j < zs.length → wr.cell? ⟨g, o + j, none⟩ = some (.int .u8 (zs.getD j 0)) := by
            rcases hR.out.lies.2 with h1 | h1
            · have h2 := hN.out; rw [h1] at h2; simp at h2; omega
            · exact h1
          obtain ⟨z, hz⟩ : ∃ z, zs[i]? = some z := ⟨zs[i]'(by have := hN.out; omega), List.getElem?_eq_getElem _⟩
          have hc := hcells i (by have := hN.out; omega)
          rw [List.getD_eq_getElem?_getD, hz, Option.getD_some] at hc
          rw [ha] at c0
          have he : ((i : Int) == (n0 : Int)) = false := by simp; omega
          have i1 : (0 : Int) ≤ (i : Int) := by omega
          have i2 : (i : Int) < (n0 : Int) := by omega
          by_cases hzy : z = y
          · have hnx := Hid.intro (hdI_next hI.out hi hz (by rw [hzy]; exact hy))
            have hst : Hid (∀ n, (wr.drewN n).frozen? ⟨r, 1, none⟩ = false ∧ w.grownBy ((wr.drewN n).setCell ⟨r, 1, none⟩ (.int .i64 ((i : Int) + 1))) (some r) ∧ RS ((wr.drewN n).setCell ⟨r, 1, none⟩ (.int .i64 ((i : Int) + 1))) r a c zs (i + 1) none rp' mv last) := fun n => by
              obtain ⟨k1, k2, k3, k4⟩ := RS.next (hR.out.below (below_drewN (Below.refl wr.heap.size wr) n)) (.inl (by have := hN.out; omega))
              exact ⟨k2, grown_trans hG.out (grown_drew k3), k4⟩
            have f1 : wr.frozen? ⟨r, 1, none⟩ = false := (hst.out 0).1
            subst hzy
            clear hblk hz hI hcells ha hrf hy
            go_upto_region 1 with (go_at_call 32; (with_reducible refine (h32.out).mono ?_); rintro e w1 ⟨rfl, hw1⟩; subst w1)
            all_goals first | omega | skip
            go_quiet (fail)
            go_wp2_with fail
            all_goals first | omega | skip
            go_roundg (gk - 1)
            case measure => omega
            case rel => exact ⟨i + 1, _, rp', by omega, (hst.out _).2.2, (hst.out _).2.1, hnx⟩
          · have hnx := Hid.intro (hdI_bad hI.out hi (by rw [hy, hz]; simpa using hzy))
            have hzb : (z == y) = false := by simpa using hzy
            clear hblk hz hI hcells ha hy
            go_upto_region 1 with (go_at_call 32; (with_reducible refine (h32.out).mono ?_); rintro e w1 ⟨rfl, hw1⟩; subst w1)
            all_goals first | omega | skip
            go_quiet (fail)
            go_wp2_with (go_at_call 82; (with_reducible refine (hrf.out _).mono ?_); rintro e w2 ⟨rfl, k1, k2, k3, k4⟩; replace k3 := Hid.intro k3; replace k4 := Hid.intro k4)
            all_goals first | omega | skip
            go_roundg (gk - 1)
            case measure => omega
            case rel =>
              obtain ⟨rp2, hR2⟩ := k4.out
              exact ⟨i + 1, _, rp2, by omega, hR2, k3, hnx⟩
      · have hi' : decide ((i : Int) < 5) = false := by simp; omega
        clear hblk
        go_wp2_with fail
        all_goals first | omega | skip
        go_end0
        refine ⟨rfl, hG.out, i, _, rp', hR.out, hI.out, fun _ => ?_⟩
        rcases hI.out with ⟨_, h1, _⟩ | ⟨_, _, _, h1, _⟩
        · omega
        · cases h1
end
end Go.Proofs.YtmndccbeddaphaaGreatDoor
/- object's writer: a unit; Write. -/
namespace Go.Proofs.YtmndccbeddaphaaGreatDoor
open Go.ChangeShapes Go.WideShapes Go.ChangeAt Go.RowKit Go.Sort
set_option linter.unusedVariables false
set_option linter.unusedSimpArgs false
set_option maxRecDepth 100000
def sL {α : Type} (f : α → List Int) (l : List α) : List Int := O.leB ((l.length : Int) % 4294967296) 2 ++ l.flatMap f
def sUnit (u : UVal) : List Int := hdL ++ (sL sItem u.text ++ (sL sItem u.data ++ (sL sEqu u.equs ++ sL sTx u.globs)))
section
variable {w w' w0 wA : World} {r : Nat} {acc zs : List Int} {k : Nat} {a : Option Addr} {c : Nat}
set_option maxHeartbeats 8000000 in
theorem wunit_is (ta : Option Addr) (tc : Nat) (da : Option Addr) (dc : Nat) (ea : Option Addr) (ec : Nat) (ga : Option Addr) (gc : Nat) (u : UVal) (hu : okU u) (hblk : w.heap[r]? = some (.cells #[.slice none 0 0] 65 (0, 0))) (hr : w0.heap.size ≤ r) (hB : Below w0.heap.size w0 w) (hT : Tab w0) (hI : UnitIn w0 ta da ea ga u) : Calls Tryz.prog 29 #[.pointer (some ⟨r, 0, none⟩), .agg (unitV ta tc da dc ea ec ga gc u)] w fun e w' => e = .returned (.tuple #[]) ∧ WG w w' r ∧ WX w' r (sUnit u) 2000 := by
  obtain ⟨i0, hi, hz0, hz1, hz2⟩ := info_parts O.Tryz.info5
  have hrl := blk_lt hblk
  have hS0 : WS w r [] 0 none 0 [] := ⟨hblk, World.ownsRow_nil _ _ _ _, fun z hz => absurd hz (by simp), .inl rfl, by simp⟩
  have hb := below_alloc w (.cells (unitV ta tc da dc ea ec ga gc u) 30)
  have e1 := heap_alloc_new w (.cells (unitV ta tc da dc ea ec ga gc u) 30)
  have hg0 : WG w (w.alloc (.cells (unitV ta tc da dc ea ec ga gc u) 30)) r := WG.of_below hb hrl
  have hS1 := hS0.below hb
  have c0 : (w.alloc (.cells (unitV ta tc da dc ea ec ga gc u) 30)).cell? ⟨r, 0, none⟩ = some (.slice none 0 0) := one_read hS1.blk
  have hown : Hid ((w.alloc (.cells (unitV ta tc da dc ea ec ga gc u) 30)).ownsRow (r + 1) 5 1 (.slice none 0 0) 0 []) := World.ownsRow_nil _ _ _ _
  have hbase : r + 1 ≤ (w.alloc (.cells (unitV ta tc da dc ea ec ga gc u) 30)).heap.size := by simp; omega
  have hBA : Below w0.heap.size w0 (w.alloc (.cells (unitV ta tc da dc ea ec ga gc u) 30)) := hB.trans (hb.mono hB.size)
  have hpush : Hid (∀ v' w3, w3.ownsRow (r + 1) 5 1 v' 5 (O.cellsOf hdL) → (w.alloc (.cells (unitV ta tc da dc ea ec ga gc u) 30)).grownBy w3 (Value.ownBlock (.slice none 0 0)) → w3.cell? ⟨r, 0, none⟩ = some (.slice none 0 0) ∧ w3.frozen? ⟨r, 0, none⟩ = false ∧ WG (w.alloc (.cells (unitV ta tc da dc ea ec ga gc u) 30)) (w3.setCell ⟨r, 0, none⟩ v') r ∧ WX (w3.setCell ⟨r, 0, none⟩ v') r hdL 5) := fun v' w3 h2 h3 => hS1.push (ys := hdL) (by unfold hdL; intro z hz; simp at hz; omega) (m := 5) (by decide) h2 h3
  have hc : Hid (∀ w1, WG (w.alloc (.cells (unitV ta tc da dc ea ec ga gc u) 30)) w1 r → _) := fun w1 g1 => four_read (g1.blk e1 (by omega) (by decide))
  have h1 : Hid (∀ w1, WG (w.alloc (.cells (unitV ta tc da dc ea ec ga gc u) 30)) w1 r → WX w1 r hdL 5 → Calls Tryz.prog 68 #[.pointer (some ⟨r, 0, none⟩), .slice ta u.text.length tc, .func (.func 69) #[.pointer (some ⟨r, 0, none⟩)] #[]] w1 fun e w' => e = .returned (.tuple #[]) ∧ WG (w.alloc (.cells (unitV ta tc da dc ea ec ga gc u) 30)) w' r ∧ WX w' r (hdL ++ sL sItem u.text) 400) := fun w1 g1 x1 => by
    refine (witems_is x1 (by omega) hr (hBA.trans (g1.below.mono hr)) hT u.text hu.text.1 hu.text.2 hI.text).mono ?_
    rintro e w2 ⟨rfl, g2, x2⟩
    exact ⟨rfl, g1.trans g2, x2.more (by omega)⟩
  have h2 : Hid (∀ w1, WG (w.alloc (.cells (unitV ta tc da dc ea ec ga gc u) 30)) w1 r → WX w1 r (hdL ++ sL sItem u.text) 400 → Calls Tryz.prog 68 #[.pointer (some ⟨r, 0, none⟩), .slice da u.data.length dc, .func (.func 69) #[.pointer (some ⟨r, 0, none⟩)] #[]] w1 fun e w' => e = .returned (.tuple #[]) ∧ WG (w.alloc (.cells (unitV ta tc da dc ea ec ga gc u) 30)) w' r ∧ WX w' r (hdL ++ sL sItem u.text ++ sL sItem u.data) 800) := fun w1 g1 x1 => by
    refine (witems_is x1 (by omega) hr (hBA.trans (g1.below.mono hr)) hT u.data hu.data.1 hu.data.2 hI.data).mono ?_
    rintro e w2 ⟨rfl, g2, x2⟩
    exact ⟨rfl, g1.trans g2, x2.more (by omega)⟩
  have h3 : Hid (∀ w1, WG (w.alloc (.cells (unitV ta tc da dc ea ec ga gc u) 30)) w1 r → WX w1 r (hdL ++ sL sItem u.text ++ sL sItem u.data) 800 → Calls Tryz.prog 70 #[.pointer (some ⟨r, 0, none⟩), .slice ea u.equs.length ec, .func (.func 71) #[.pointer (some ⟨r, 0, none⟩)] #[]] w1 fun e w' => e = .returned (.tuple #[]) ∧ WG (w.alloc (.cells (unitV ta tc da dc ea ec ga gc u) 30)) w' r ∧ WX w' r (hdL ++ sL sItem u.text ++ sL sItem u.data ++ sL sEqu u.equs) 1200) := fun w1 g1 x1 => by
    refine (wequs_is x1 (by omega) hr (hBA.trans (g1.below.mono hr)) u.equs hu.equs.1 hu.equs.2 hI.equs).mono ?_
    rintro e w2 ⟨rfl, g2, x2⟩
    exact ⟨rfl, g1.trans g2, x2.more (by omega)⟩
  have h4 : Hid (∀ w1, WG (w.alloc (.cells (unitV ta tc da dc ea ec ga gc u) 30)) w1 r → WX w1 r (hdL ++ sL sItem u.text ++ sL sItem u.data ++ sL sEqu u.equs) 1200 → Calls Tryz.prog 72 #[.pointer (some ⟨r, 0, none⟩), .slice ga u.globs.length gc, .func (.func 73) #[.pointer (some ⟨r, 0, none⟩)] #[]] w1 fun e w' => e = .returned (.tuple #[]) ∧ WG w w' r ∧ WX w' r (sUnit u) 2000) := fun w1 g1 x1 => by
    refine (wglobs_is x1 (by omega) hr (hBA.trans (g1.below.mono hr)) u.globs hu.globs.1 hu.globs.2 hI.globs).mono ?_
    rintro e w2 ⟨rfl, g2, x2⟩
    refine ⟨rfl, hg0.trans (g1.trans g2), ?_⟩
    have e : hdL ++ sL sItem u.text ++ sL sItem u.data ++ sL sEqu u.equs ++ sL sTx u.globs = sUnit u := by simp [sUnit]
    have x3 := x2.more (k' := 2000) (by omega)
    rw [← e]
    exact x3
  clear hS0 hS1 hblk hb e1 hg0 hB hBA hT hI hu hr hrl
  go_enter Tryz.func29, Tryz.ntmps29
  go_upto_region 2 with (at_builtin; go_must (refine Lib.wpList_append_own_string _ rfl _ _ 22 9 rfl (r + 1) 5 i0 Tryz.underlying22 Tryz.underlying9 hi hz0 hz1 hz2 _ _ _ rfl hown.out ⟨#[83, 80, 65, 78, 1]⟩ rfl (by unfold maxLen; decide) (by decide) hbase ?_); intro v' w3 ho3 hg3 _; replace ho3 : w3.ownsRow (r + 1) 5 1 v' 5 (O.cellsOf hdL) := ho3; obtain ⟨u1, uf, g1, x1⟩ := hpush.out v' w3 ho3 hg3; replace g1 := Hid.intro g1; replace x1 := Hid.intro x1; obtain ⟨a3, c3, rfl⟩ := own_slice ho3; clear ho3 hg3 hpush hown c0)
  all_goals first | omega | skip
  generalize w3.setCell ⟨r, 0, none⟩ (.slice a3 5 c3) = W3 at *
  obtain ⟨d0, d1, d2, d3⟩ := hc.out _ g1.out
  clear u1 uf
  go_wp2_with (first
    | (go_at_call 68; (with_reducible refine (h1.out _ g1.out x1.out).mono ?_); rintro e w4 ⟨rfl, g2, x2⟩; clear d0 d1 d2 d3; obtain ⟨d0, d1, d2, d3⟩ := hc.out _ g2; replace g2 := Hid.intro g2; replace x2 := Hid.intro x2; clear g1 x1)
    | (go_at_call 68; (with_reducible refine (h2.out _ g2.out x2.out).mono ?_); rintro e w5 ⟨rfl, g3, x3⟩; clear d0 d1 d2 d3; obtain ⟨d0, d1, d2, d3⟩ := hc.out _ g3; replace g3 := Hid.intro g3; replace x3 := Hid.intro x3; clear g2 x2)
    | (go_at_call 70; (with_reducible refine (h3.out _ g3.out x3.out).mono ?_); rintro e w6 ⟨rfl, g4, x4⟩; clear d0 d1 d2 d3; obtain ⟨d0, d1, d2, d3⟩ := hc.out _ g4; replace g4 := Hid.intro g4; replace x4 := Hid.intro x4; clear g3 x3)
    | (go_at_call 72; (with_reducible refine (h4.out _ g4.out x4.out).mono ?_); rintro e w7 ⟨rfl, g5, x5⟩; replace g5 := Hid.intro g5; replace x5 := Hid.intro x5; clear g4 x4))
  all_goals first | omega | skip
  go_end0
  exact ⟨rfl, g5.out, x5.out⟩
def WrN (u : UVal) (n : Int) : Prop := ∃ m, RightN u m ∧ ((m ≠ 0 ∧ n = 31) ∨ (m = 0 ∧ manyU u = true ∧ n = 4) ∨ (m = 0 ∧ manyU u = false ∧ 1048576 < (sUnit u).length ∧ n = 3) ∨ (m = 0 ∧ manyU u = false ∧ (sUnit u).length ≤ 1048576 ∧ n = 0))
theorem wrN_one {u : UVal} {n m : Int} (h : WrN u n) (h' : WrN u m) : n = m := by
  obtain ⟨p, hp, h⟩ := h
  obtain ⟨q, hq, h'⟩ := h'
  have := rightN_one hp hq
  subst this
  rcases h with h | h | h | h <;> rcases h' with h' | h' | h' | h' <;> simp_all <;> omega
theorem right_okU {u : UVal} (hu : HeldU u) (hN : NumU u) (h : RightN u 0) : okU u := by
  rcases h with ⟨_, h⟩ | ⟨_, ⟨h, _⟩ | ⟨_, h⟩⟩
  · cases h
  · have ht := List.all_eq_true.1 h.text
    have hd := List.all_eq_true.1 h.data
    have he := List.all_eq_true.1 h.equs
    refine ⟨⟨by have := hu.text.1; omega, fun x hx => okI_okJ (ht x hx) (hN.text x hx) (hu.text.2 x hx).few⟩, ⟨by have := hu.data.1; omega, fun x hx => okI_okJ (hd x hx) (hN.data x hx) (hu.data.2 x hx).few⟩, ⟨by have := hu.equs.1; omega, fun q hq => okE_okQ (he q hq) (hN.equs q hq) (hu.equs.2 q hq).few⟩, by have := hu.globs; omega, fun s hs => ?_⟩
    have h1 := h.globs.2 s hs
    unfold sortS at h1
    rw [List.mem_mergeSort] at h1
    unfold UVal.names at h1
    rcases List.mem_append.1 h1 with h1 | h1
    · rcases List.mem_append.1 h1 with h1 | h1
      · unfold labN at h1
        obtain ⟨x, hx, rfl⟩ := List.mem_map.1 h1
        exact (okI_okJ (ht x (List.mem_filter.1 hx).1) (hN.text x (List.mem_filter.1 hx).1) (hu.text.2 x (List.mem_filter.1 hx).1).few).name
      · unfold labN at h1
        obtain ⟨x, hx, rfl⟩ := List.mem_map.1 h1
        exact (okI_okJ (hd x (List.mem_filter.1 hx).1) (hN.data x (List.mem_filter.1 hx).1) (hu.data.2 x (List.mem_filter.1 hx).1).few).name
    · obtain ⟨q, hq, rfl⟩ := List.mem_map.1 h1
      exact (okE_okQ (he q hq) (hN.equs q hq) (hu.equs.2 q hq).few).name
  · cases h
def WrOut (w : World) (u : UVal) (e : Ending) (w' : World) : Prop := Below w.heap.size w w' ∧ ∃ n, WrN u n ∧ ((n ≠ 0 ∧ e = .returned (.tuple #[.slice none 0 0, .int .i64 n])) ∨ (n = 0 ∧ ∃ a c, e = .returned (.tuple #[.slice a (sUnit u).length c, .int .i64 0]) ∧ O.Got w' w.heap.size a c (sUnit u)))
set_option maxHeartbeats 8000000 in
theorem write_is (ta : Option Addr) (tc : Nat) (da : Option Addr) (dc : Nat) (ea : Option Addr) (ec : Nat) (ga : Option Addr) (gc : Nat) (u : UVal) (hu : HeldU u) (hN : NumU u) (w : World) (hT : Tab w) (hI : UnitIn w ta da ea ga u) : Calls Tryz.prog 9 #[.agg (unitV ta tc da dc ea ec ga gc u)] w fun e w' => WrOut w u e w' := by
  have hb := below_alloc w (.cells (unitV ta tc da dc ea ec ga gc u) 30)
  have e1 := heap_alloc_new w (.cells (unitV ta tc da dc ea ec ga gc u) 30)
  have hB1 : Hid (∀ w1, Below (w.alloc (.cells (unitV ta tc da dc ea ec ga gc u) 30)).heap.size (w.alloc (.cells (unitV ta tc da dc ea ec ga gc u) 30)) w1 → Below w.heap.size w w1) := fun w1 h1 => hb.trans (h1.mono hb.size)
  have hc : Hid (∀ w1, Below (w.alloc (.cells (unitV ta tc da dc ea ec ga gc u) 30)).heap.size (w.alloc (.cells (unitV ta tc da dc ea ec ga gc u) 30)) w1 → _) := fun w1 h1 => four_read ((h1.block w.heap.size (by simp)).trans e1)
  obtain ⟨d0, d1, d2, d3⟩ := hc.out _ (Below.refl _ _)
  have h27 : Hid (Calls Tryz.prog 27 #[.agg (unitV ta tc da dc ea ec ga gc u)] (w.alloc (.cells (unitV ta tc da dc ea ec ga gc u) 30)) fun e w' => (∃ n : Int, e = .returned (.int .i64 n) ∧ RightN u n) ∧ Below (w.alloc (.cells (unitV ta tc da dc ea ec ga gc u) 30)).heap.size (w.alloc (.cells (unitV ta tc da dc ea ec ga gc u) 30)) w') := unitRight_any ta tc da dc ea ec ga gc u hu _ (hT.below hb hT.size) (hI.below hb)
  have h28 : Hid (∀ w1, Below (w.alloc (.cells (unitV ta tc da dc ea ec ga gc u) 30)).heap.size (w.alloc (.cells (unitV ta tc da dc ea ec ga gc u) 30)) w1 → Calls Tryz.prog 28 #[.agg (unitV ta tc da dc ea ec ga gc u)] w1 fun e w' => e = .returned (.bool (manyU u)) ∧ Below (w.alloc (.cells (unitV ta tc da dc ea ec ga gc u) 30)).heap.size (w.alloc (.cells (unitV ta tc da dc ea ec ga gc u) 30)) w') := fun w1 h1 => by
    refine (many_is ta tc da dc ea ec ga gc u hu w1 (hI.below (hB1.out w1 h1))).mono ?_
    rintro e w2 ⟨rfl, b2⟩
    exact ⟨rfl, h1.trans (b2.mono h1.size)⟩
  have hwr : Hid (∀ w1, RightN u 0 → Below (w.alloc (.cells (unitV ta tc da dc ea ec ga gc u) 30)).heap.size (w.alloc (.cells (unitV ta tc da dc ea ec ga gc u) 30)) w1 → Calls Tryz.prog 29 #[.pointer (some ⟨w1.heap.size, 0, none⟩), .agg (unitV ta tc da dc ea ec ga gc u)] (w1.alloc (.cells #[.slice none 0 0] 65)) fun e w' => e = .returned (.tuple #[]) ∧ ∃ a c zs, WS w' w1.heap.size (sUnit u) 2000 a c zs ∧ Below w.heap.size w w') := fun w1 hR h1 => by
    have hw := hB1.out w1 h1
    have hb2 := below_alloc w1 (.cells #[.slice none 0 0] 65)
    refine (wunit_is ta tc da dc ea ec ga gc u (right_okU hu hN hR) (heap_alloc_new w1 _) hw.size (hw.trans (hb2.mono hw.size)) hT hI).mono ?_
    rintro e w2 ⟨rfl, g2, a2, c2, zs2, x2⟩
    exact ⟨rfl, a2, c2, zs2, x2, (hw.trans (hb2.mono hw.size)).trans (g2.below.mono hw.size)⟩
  have hcA : Hid (∀ w1, Below (w.alloc (.cells (unitV ta tc da dc ea ec ga gc u) 30)).heap.size (w.alloc (.cells (unitV ta tc da dc ea ec ga gc u) 30)) w1 → (w1.alloc (.cells #[.slice none 0 0] 65)).cell? ⟨w.heap.size, 0, none⟩ = some (.slice ta u.text.length tc) ∧ (w1.alloc (.cells #[.slice none 0 0] 65)).cell? ⟨w.heap.size, 1, none⟩ = some (.slice da u.data.length dc) ∧ (w1.alloc (.cells #[.slice none 0 0] 65)).cell? ⟨w.heap.size, 2, none⟩ = some (.slice ea u.equs.length ec) ∧ (w1.alloc (.cells #[.slice none 0 0] 65)).cell? ⟨w.heap.size, 3, none⟩ = some (.slice ga u.globs.length gc)) := fun w1 h1 => hc.out _ (h1.alloc h1.size _)
  have hRN : Hid (∀ n, RightN u n → ((n = 0) ∨ (n ≠ 0 ∧ (n == 0) = false))) := fun n _ => by
    by_cases h : n = 0
    · exact .inl h
    · exact .inr ⟨h, by simpa using h⟩
  clear hT hI hb e1 hN hu
  go_enter Tryz.func9, Tryz.ntmps9
  go_upto_region 1 with fail
  all_goals first | omega | skip
  have hM : manyU u = true ∨ manyU u = false := by cases manyU u <;> simp
  rcases hM with hM | hM
  · rw [hM] at h28
    replace hM := Hid.intro hM
    go_wp2_with (first
      | (go_at_call 27; (with_reducible refine (h27.out).mono ?_); rintro e w1 ⟨⟨n, rfl, hn⟩, b1⟩; clear d0 d1 d2 d3; obtain ⟨d0, d1, d2, d3⟩ := hc.out _ b1; replace hn := Hid.intro hn; replace b1 := Hid.intro b1; rcases hRN.out n hn.out with rfl | ⟨hne, hnb⟩)
      | (go_at_call 28; (with_reducible refine (h28.out _ b1.out).mono ?_); rintro e w2 ⟨rfl, b2⟩; replace b2 := Hid.intro b2))
    all_goals first | omega | skip
    · go_ret2
      exact ⟨hB1.out _ b2.out, 4, ⟨0, hn.out, .inr (.inl ⟨rfl, hM.out, rfl⟩)⟩, .inl ⟨by decide, rfl⟩⟩
    · go_ret2
      exact ⟨hB1.out _ b1.out, 31, ⟨n, hn.out, .inl ⟨hne, rfl⟩⟩, .inl ⟨by decide, rfl⟩⟩
  · rw [hM] at h28
    replace hM := Hid.intro hM
    go_wp2_with (first
      | (go_at_call 27; (with_reducible refine (h27.out).mono ?_); rintro e w1 ⟨⟨n, rfl, hn⟩, b1⟩; clear d0 d1 d2 d3; obtain ⟨d0, d1, d2, d3⟩ := hc.out _ b1; replace hn := Hid.intro hn; replace b1 := Hid.intro b1; rcases hRN.out n hn.out with rfl | ⟨hne, hnb⟩)
      | (go_at_call 28; (with_reducible refine (h28.out _ b1.out).mono ?_); rintro e w2 ⟨rfl, b2⟩; clear d0 d1 d2 d3; obtain ⟨d0, d1, d2, d3⟩ := hcA.out _ b2; replace b2 := Hid.intro b2)
      | (go_at_call 29; (with_reducible refine (hwr.out _ hn.out b2.out).mono ?_); rintro e w3 ⟨rfl, a3, c3, zs, x3, b3⟩; have h30 := Hid.intro (isFull_is x3 (by omega)); have c3' := one_read x3.blk; obtain ⟨nz, hnz⟩ : ∃ nz, nz = zs.length := ⟨_, rfl⟩; rw [← hnz] at c3' h30; replace hnz := Hid.intro hnz; replace x3 := Hid.intro x3; replace b3 := Hid.intro b3; have hz : 1048576 < nz ∨ ¬ 1048576 < nz := Classical.em _; rcases hz with hz | hz <;> first | rw [decide_eq_true hz] at h30 | rw [decide_eq_false hz] at h30)
      | (go_at_call 30; (with_reducible refine (h30.out).mono ?_); rintro e w4 ⟨rfl, hw4⟩; subst w4))
    all_goals first | omega | skip
    · go_ret2
      refine ⟨b3.out, 3, ⟨0, hn.out, .inr (.inr (.inl ⟨rfl, hM.out, ?_, rfl⟩))⟩, .inl ⟨by decide, rfl⟩⟩
      rw [hnz.out] at hz
      rcases x3.out.rel with h | h
      · rw [← h]; exact hz
      · exact h.2
    · go_ret2
      rw [hnz.out] at hz
      have he : zs = sUnit u := by
        rcases x3.out.rel with h | h
        · exact h
        · exact absurd h.1 hz
      refine ⟨b3.out, 0, ⟨0, hn.out, .inr (.inr (.inr ⟨rfl, hM.out, by rw [← he]; omega, rfl⟩))⟩, .inr ⟨rfl, a3, c3, ?_, ?_⟩⟩
      · rw [← he, ← hnz.out]; rfl
      · have ho := own_weaken x3.out.own (show w.heap.size ≤ _ from Nat.le_trans (hB1.out _ b2.out).size (Nat.le_succ _))
        rw [he] at ho
        exact ho
    · go_ret2
      exact ⟨hB1.out _ b1.out, 31, ⟨n, hn.out, .inl ⟨hne, rfl⟩⟩, .inl ⟨by decide, rfl⟩⟩
end
end Go.Proofs.YtmndccbeddaphaaGreatDoor
namespace Go.Proofs.YtmndccbeddaphaaGreatDoor
open Go.ChangeShapes Go.WideShapes Go.ChangeAt Go.RowKit
set_option linter.unusedVariables false
set_option linter.unusedSimpArgs false
set_option maxRecDepth 100000
section
variable {w w' w1 : World} {r : Nat} {a : Option Addr} {c : Nat} {zs : List Int} {p : Nat} {bad : Option (Int × Int)} {rp : Option Nat} {mv : Value} {last : List UInt8} {b n : Nat} {g : List (List UInt8)} {q : Nat} {A : Array Value} {w2 : World}
def glB (s last : List UInt8) (g : INm) (p : Nat) (b : Rfu) : Rfu := if s ∈ g ∧ nlt last s = true then b else firstR b ((p : Int), 31)
theorem RS.lastPut (h : RS w r a c zs p bad rp mv last) (s : List UInt8) : RS (w.setCell ⟨r, 4, none⟩ (.string (str s))) r a c zs p bad rp mv s ∧ w.grownBy (w.setCell ⟨r, 4, none⟩ (.string (str s))) (some r) := by
  obtain ⟨s1, k1⟩ := row_set h.blk 4 (.string (str s))
  exact ⟨h.put k1 h.at_ s1 (h.rf.grown h.rne k1), k1⟩
def GlbOut (w : World) (r : Nat) (a : Option Addr) (c : Nat) (zs : List Int) (b n : Nat) (g : List (List UInt8)) (last : List UInt8) (p : Nat) (bad : Option (Int × Int)) (e : Ending) (w' : World) : Prop :=
  e = .returned (.string (str (txL zs p))) ∧ w.grownBy w' (some r) ∧ ∃ rp, RS w' r a c zs (txP zs p) (glB (txL zs p) last g p (txB zs p bad)) rp (.map (some b)) (txL zs p)
set_option maxHeartbeats 16000000 in
theorem global_is (h : RS w r a c zs p bad rp (.map (some b)) last) (hS : SetIs w b n g) (hbr : b ≠ r) :
    Calls Tryz.prog 81 #[.pointer (some ⟨r, 0, none⟩)] w fun e w' => GlbOut w r a c zs b n g last p bad e w' := by
  have hz := h.lies.1
  have n1 : Hid (Calls Tryz.prog 115 #[.pointer (some ⟨r, 0, none⟩)] w fun e w' => e = .returned (.string (str (txL zs p))) ∧ w.grownBy w' (some r) ∧ ∃ rp', RS w' r a c zs (txP zs p) (txB zs p bad) rp' (.map (some b)) last) := by
    rw [str_txL]
    exact text_is h
  have hsz : (txL zs p).length ≤ 65535 := by
    have := txL_le hz p
    rw [ByteArray.size, ← Array.length_toList] at this
    exact this
  have c1 := (five_read h.blk).2.1
  unfold GlbOut glB
  generalize txB zs p bad = b1 at *
  generalize txP zs p = p1 at *
  generalize txL zs p = sN at *
  have hlook : Hid (∀ w1, w.grownBy w1 (some r) → (Instr.lookup 69 (.map (some b)) (.string (str sN)) true).run Tryz.prog w1 = .ok (.tuple #[.agg #[], .bool (decide (sN ∈ g))]) w1) := fun w1 g1 => setlook_run (hS.kept g1 (fun e => hbr (Option.some.inj e))) sN (by omega)
  have hfin : Hid (∀ w1 w4 rp4 b4, w.grownBy w1 (some r) → (w1.alloc (.cells #[] 164)).grownBy w4 (some r) → RS w4 r a c zs p1 b4 rp4 (.map (some b)) last → w.grownBy (w4.setCell ⟨r, 4, none⟩ (.string (str sN))) (some r) ∧ ∃ rp, RS (w4.setCell ⟨r, 4, none⟩ (.string (str sN))) r a c zs p1 b4 rp (.map (some b)) sN) := fun w1 w4 rp4 b4 g1 g4 hR => by
    obtain ⟨k1, k2⟩ := hR.lastPut sN
    exact ⟨grown_trans g1 (grown_trans (World.grownBy_alloc w1 (.cells #[] 164) (some r)) (grown_trans g4 k2)), rp4, k1⟩
  have hcmp := leq_nlt last sN
  have e1 := str_toList sN
  have e2 := str_toList last
  clear h hS hz
  by_cases hg : sN ∈ g
  · rw [decide_eq_true hg] at hlook
    cases hl : nlt last sN with
    | true =>
      rw [if_pos ⟨hg, rfl⟩]
      rw [hl, Bool.not_true] at hcmp
      clear hl
      go_enter Tryz.func81, Tryz.ntmps81
      go_wp2_with (first | (go_at_call 115; (with_reducible refine (n1.out).mono ?_); rintro e w1 ⟨rfl, g1, rp1, hR1⟩; have hlk := hlook.out w1 g1; have hR2 := Hid.intro (hR1.below (below_alloc w1 (.cells #[] 164))); have d3 := (five_read hR1.blk).2.2.2.1; have d4 := (five_read hR2.out.blk).2.2.2.2; have df := fun j => frozen_of_row (w1.alloc (.cells #[] 164)) r j _ 71 hR2.out.blk; replace g1 := Hid.intro g1; clear hR1 n1))
      all_goals first | omega | skip
      have hF := hfin.out w1 (w1.alloc (.cells #[] 164)) rp1 b1 g1.out ⟨rfl, rfl, rfl, Nat.le_refl _, fun _ _ _ => rfl⟩ hR2.out
      go_ret
      exact ⟨rfl, hF⟩
    | false =>
      rw [if_neg (by simp)]
      rw [hl, Bool.not_false] at hcmp
      clear hl
      go_enter Tryz.func81, Tryz.ntmps81
      go_wp2_with (first | (go_at_call 115; (with_reducible refine (n1.out).mono ?_); rintro e w1 ⟨rfl, g1, rp1, hR1⟩; have hlk := hlook.out w1 g1; have hR2 := Hid.intro (hR1.below (below_alloc w1 (.cells #[] 164))); have d3 := (five_read hR1.blk).2.2.2.1; have d4 := (five_read hR2.out.blk).2.2.2.2; have df := fun j => frozen_of_row (w1.alloc (.cells #[] 164)) r j _ 71 hR2.out.blk; replace g1 := Hid.intro g1; clear hR1 n1) | (go_at_call 82; (with_reducible refine (refuse_is hR2.out _ _).mono ?_); rintro e w4 ⟨rfl, g4, rp4, hR4⟩; have d5 := (five_read hR4.blk).2.2.2.2; have df4 := fun j => frozen_of_row w4 r j _ 71 hR4.blk; have hF := Hid.intro (hfin.out w1 w4 rp4 _ g1.out g4 hR4); clear hR4 g4 d4 df))
      all_goals first | omega | skip
      go_ret
      exact ⟨rfl, hF.out⟩
  · rw [decide_eq_false hg] at hlook
    rw [if_neg (by simp [hg])]
    clear hcmp
    go_enter Tryz.func81, Tryz.ntmps81
    go_wp2_with (first | (go_at_call 115; (with_reducible refine (n1.out).mono ?_); rintro e w1 ⟨rfl, g1, rp1, hR1⟩; have hlk := hlook.out w1 g1; have hR2 := Hid.intro (hR1.below (below_alloc w1 (.cells #[] 164))); have d3 := (five_read hR1.blk).2.2.2.1; have d4 := (five_read hR2.out.blk).2.2.2.2; have df := fun j => frozen_of_row (w1.alloc (.cells #[] 164)) r j _ 71 hR2.out.blk; replace g1 := Hid.intro g1; clear hR1 n1) | (go_at_call 82; (with_reducible refine (refuse_is hR2.out _ _).mono ?_); rintro e w4 ⟨rfl, g4, rp4, hR4⟩; have d5 := (five_read hR4.blk).2.2.2.2; have df4 := fun j => frozen_of_row w4 r j _ 71 hR4.blk; have hF := Hid.intro (hfin.out w1 w4 rp4 _ g1.out g4 hR4); clear hR4 g4 d4 df))
    all_goals first | omega | skip
    go_ret
    exact ⟨rfl, hF.out⟩
end
end Go.Proofs.YtmndccbeddaphaaGreatDoor
