/- unit's whole: the unit, when all lines are taken. -/
import Derived.Test.YtogkchgjpflmjaaGreatDoorLab
import Derived.BigQuiet
import Derived.Test.YtogkchgjpflmjaaGreatDoorNum
import Derived.Test.YtogkchgjpflmjaaGreatDoorTmMem
import Derived.Shelf.Sort.Plain
import Derived.Shelf.Slices.In.SortNone
import Derived.Shelf.Slices.CompactS
import Derived.Sort.OwnSorted
import Derived.Lib.OwnBridge
/- unit's lay: a line's items behind those of the section. -/
namespace Go.Proofs.YtogkchgjpflmjaaGreatDoor
open Go.ChangeShapes Go.WideShapes Go.ChangeAt Go.RowKit
set_option linter.unusedVariables false
set_option maxRecDepth 100000
def layI (A : Asm) (its : List Itm) : Asm := { A with text := if A.sec = 1 then A.text else A.text ++ its, data := if A.sec = 1 then A.data ++ its else A.data }
variable {lo b m N : Nat} {w : World} {A : Asm} {pt pd : List (Itm × Value)} {pe : List ((List UInt8 × Lin) × Value)} {tv dv ev av : Value}
theorem AsmAt.vals (h : AsmAt lo w b m N A pt pd pe tv dv ev av) : ∃ ta tc da dc ea ec aa ac, tv = .slice ta pt.length tc ∧ dv = .slice da pd.length dc ∧ ev = .slice ea pe.length ec ∧ av = .slice aa A.asked.length ac := by
  obtain ⟨ta, tc, h1⟩ := own_slice h.text.row
  obtain ⟨da, dc, h2⟩ := own_slice h.data.row
  obtain ⟨ea, ec, h3⟩ := own_slice h.equs.row
  obtain ⟨aa, ac, h4⟩ := own_slice h.asked
  exact ⟨ta, tc, da, dc, ea, ec, aa, ac, h1, h2, h3, h4⟩
theorem AsmAt.cell (h : AsmAt lo w b m N A pt pd pe tv dv ev av) (j : Nat) : w.cell? ⟨b, j, none⟩ = #[tv, dv, ev, .slice none 0 0, .int .i64 A.sec, .map (some m), av][j]? := cell_blockT h.blk j
set_option maxHeartbeats 4000000 in
theorem lay_many (h : AsmAt lo w b m N A pt pd pe tv dv ev av) (a : Option Addr) (n c : Nat) (hmany : 8192 < pt.length + pd.length + n) (hpt : pt.length ≤ 1100000) (hpd : pd.length ≤ 1100000) (hn : n ≤ 1200000) :
    Calls Tryz.prog 71 #[.pointer (some ⟨b, 0, none⟩), .slice a n c] w fun e w' => e = .returned (.bool false) ∧ Below w.heap.size w w' := by
  obtain ⟨ta, tc, da, dc, ea, ec, aa, ac, rfl, rfl, rfl, rfl⟩ := h.vals
  have hc := h.cell
  have c0 := (hc 0).trans rfl
  have c1 := (hc 1).trans rfl
  clear hc h
  generalize pt.length = lt at *
  generalize pd.length = ld at *
  have q1 : IntKind.i64.wrap ((lt : Int) + (ld : Int)) = (lt : Int) + (ld : Int) := by rw [IntKind.wrap_i64]; omega
  have q2 : IntKind.i64.wrap ((lt : Int) + (ld : Int) + (n : Int)) = (lt : Int) + (ld : Int) + (n : Int) := by rw [IntKind.wrap_i64]; omega
  have q3 : decide ((8192 : Int) < (lt : Int) + (ld : Int) + (n : Int)) = true := by simp; omega
  go_enter Tryz.func71, Tryz.ntmps71
  go_wp2
  go_quiet (fail)
  go_wp2
  go_ret
  exact ⟨rfl, below_drewN (Below.refl _ _) nq⟩
set_option maxHeartbeats 4000000 in
theorem lay_text (h : AsmAt lo w b m N A pt pd pe tv dv ev av) (hsec : A.sec ≠ 1) (a : Option Addr) (c : Nat) (p : List (Itm × Value)) (hp : ItOwn lo w (.slice a p.length c) p) (hfew : pt.length + pd.length + p.length ≤ 8192) :
    Calls Tryz.prog 71 #[.pointer (some ⟨b, 0, none⟩), .slice a p.length c] w fun e w' => e = .returned (.bool true) ∧ BelN lo m w w' ∧ Keep2 w w' ∧ ∃ tv', AsmAt lo w' b m N { A with text := A.text ++ p.map (·.1) } (pt ++ p) pd pe tv' dv ev av := by
  obtain ⟨ta, tc, da, dc, ea, ec, aa, ac, rfl, rfl, rfl, rfl⟩ := h.vals
  have hc := h.cell
  have c0 := (hc 0).trans rfl
  have c1 := (hc 1).trans rfl
  have c4 := (hc 4).trans rfl
  clear hc
  have hse : (A.sec == 1) = false := by simpa using hsec
  have hltb := h.lt
  have hlo2 : lo ≤ w.heap.size := by have := h.blo; omega
  obtain ⟨i0, hi, hz0, hz1, hz2⟩ := info_parts info91
  have hH := Hid.intro (fun n => h.below (below_drewN (Below.refl w.heap.size w) n))
  have hPH := Hid.intro (fun n => hp.below (below_drewN (Below.refl w.heap.size w) n))
  have hown : Hid (∀ n, (w.drewN n).ownsRow lo 91 10 (.slice ta pt.length tc) pt.length (rowI pt)) := fun n => (hH.out n).text.row
  have hsrc : Hid (∀ n, Src (w.drewN n) (.slice a p.length c) p.length (rowI p)) := fun n => own_src (hPH.out n).row
  have h1 := Hid.intro (rowI_one hp)
  have hrl := Hid.intro (rowI_length p)
  have hfin : Hid (∀ n v' w1, w1.ownsRow lo 91 10 v' (pt.length + p.length) (rowI pt ++ rowI p) → (w.drewN n).grownBy w1 (Value.slice ta pt.length tc).ownBlock → (v'.ownBlock = (Value.slice ta pt.length tc).ownBlock ∨ v'.ownBlock = some (w.drewN n).heap.size) → w1.cell? ⟨b, 0, none⟩ = some (.slice ta pt.length tc) ∧ w1.frozen? ⟨b, 0, none⟩ = false ∧ BelN lo m w (w1.setCell ⟨b, 0, none⟩ v') ∧ Keep2 w (w1.setCell ⟨b, 0, none⟩ v') ∧ AsmAt lo (w1.setCell ⟨b, 0, none⟩ v') b m N { A with text := A.text ++ p.map (·.1) } (pt ++ p) pd pe v' (.slice da pd.length dc) (.slice ea pe.length ec) (.slice aa A.asked.length ac)) := fun n v' w1 k1 k2 k3 => by
    obtain ⟨g1, g2, g3, g4⟩ := (hH.out n).layT (hPH.out n) k1 k2 k3
    exact ⟨(cell_blockT g1 0).trans rfl, frozen_of_row w1 b 0 _ 70 g1, (BelN.of (below_drewN (Below.refl w.heap.size w) n) hlo2).trans g3, g4, g2⟩
  clear h hp hH hPH
  generalize pt.length = lt at *
  generalize pd.length = ld at *
  generalize p.length = n at *
  have q1 : IntKind.i64.wrap ((lt : Int) + (ld : Int)) = (lt : Int) + (ld : Int) := by rw [IntKind.wrap_i64]; omega
  have q2 : IntKind.i64.wrap ((lt : Int) + (ld : Int) + (n : Int)) = (lt : Int) + (ld : Int) + (n : Int) := by rw [IntKind.wrap_i64]; omega
  have q3 : decide ((8192 : Int) < (lt : Int) + (ld : Int) + (n : Int)) = false := by simp; omega
  go_enter Tryz.func71, Tryz.ntmps71
  go_wp2
  go_quiet (fail)
  have c0 : (w.drewN nq).cell? ⟨b, 0, none⟩ = some (.slice ta lt tc) := c0
  have c4 : (w.drewN nq).cell? ⟨b, 4, none⟩ = some (.int .i64 A.sec) := c4
  go_wp2_with (at_builtin; go_must (refine wpList_app rfl (.tmp 43) (.tmp 44) 22 rfl lo 91 i0 _ 10 104 Tryz.underlying22 hi hz0 hz1 hz2 rfl (by decide) (.slice ta lt tc) lt (rowI pt) rfl (hown.out nq) (.slice a n c) n (rowI p) rfl (hsrc.out nq) hrl.out h1.out (by unfold maxLen; omega) (by omega) hlo2 ?_; intro v' w1 ho hg hw; obtain ⟨z0, z1, z2, z4, z3⟩ := hfin.out nq v' w1 ho hg hw; replace z2 := Hid.intro z2; replace z4 := Hid.intro z4; replace z3 := Hid.intro z3; obtain ⟨a', c', rfl⟩ := own_slice ho; clear ho hg hw))
  all_goals first | omega | skip
  go_ret
  exact ⟨rfl, z2.out, z4.out, _, z3.out⟩
set_option maxHeartbeats 4000000 in
theorem lay_data (h : AsmAt lo w b m N A pt pd pe tv dv ev av) (hsec : A.sec = 1) (a : Option Addr) (c : Nat) (p : List (Itm × Value)) (hp : ItOwn lo w (.slice a p.length c) p) (hfew : pt.length + pd.length + p.length ≤ 8192) :
    Calls Tryz.prog 71 #[.pointer (some ⟨b, 0, none⟩), .slice a p.length c] w fun e w' => e = .returned (.bool true) ∧ BelN lo m w w' ∧ Keep2 w w' ∧ ∃ dv', AsmAt lo w' b m N { A with data := A.data ++ p.map (·.1) } pt (pd ++ p) pe tv dv' ev av := by
  obtain ⟨ta, tc, da, dc, ea, ec, aa, ac, rfl, rfl, rfl, rfl⟩ := h.vals
  have hc := h.cell
  have c0 := (hc 0).trans rfl
  have c1 := (hc 1).trans rfl
  have c4 := (hc 4).trans rfl
  clear hc
  have hse : (A.sec == 1) = true := by simpa using hsec
  have hltb := h.lt
  have hlo2 : lo ≤ w.heap.size := by have := h.blo; omega
  obtain ⟨i0, hi, hz0, hz1, hz2⟩ := info_parts info91
  have hH := Hid.intro (fun n => h.below (below_drewN (Below.refl w.heap.size w) n))
  have hPH := Hid.intro (fun n => hp.below (below_drewN (Below.refl w.heap.size w) n))
  have hown : Hid (∀ n, (w.drewN n).ownsRow lo 91 10 (.slice da pd.length dc) pd.length (rowI pd)) := fun n => (hH.out n).data.row
  have hsrc : Hid (∀ n, Src (w.drewN n) (.slice a p.length c) p.length (rowI p)) := fun n => own_src (hPH.out n).row
  have h1 := Hid.intro (rowI_one hp)
  have hrl := Hid.intro (rowI_length p)
  have hfin : Hid (∀ n v' w1, w1.ownsRow lo 91 10 v' (pd.length + p.length) (rowI pd ++ rowI p) → (w.drewN n).grownBy w1 (Value.slice da pd.length dc).ownBlock → (v'.ownBlock = (Value.slice da pd.length dc).ownBlock ∨ v'.ownBlock = some (w.drewN n).heap.size) → w1.cell? ⟨b, 1, none⟩ = some (.slice da pd.length dc) ∧ w1.frozen? ⟨b, 1, none⟩ = false ∧ BelN lo m w (w1.setCell ⟨b, 1, none⟩ v') ∧ Keep2 w (w1.setCell ⟨b, 1, none⟩ v') ∧ AsmAt lo (w1.setCell ⟨b, 1, none⟩ v') b m N { A with data := A.data ++ p.map (·.1) } pt (pd ++ p) pe (.slice ta pt.length tc) v' (.slice ea pe.length ec) (.slice aa A.asked.length ac)) := fun n v' w1 k1 k2 k3 => by
    obtain ⟨g1, g2, g3, g4⟩ := (hH.out n).layD (hPH.out n) k1 k2 k3
    exact ⟨(cell_blockT g1 1).trans rfl, frozen_of_row w1 b 1 _ 70 g1, (BelN.of (below_drewN (Below.refl w.heap.size w) n) hlo2).trans g3, g4, g2⟩
  clear h hp hH hPH
  generalize pt.length = lt at *
  generalize pd.length = ld at *
  generalize p.length = n at *
  have q1 : IntKind.i64.wrap ((lt : Int) + (ld : Int)) = (lt : Int) + (ld : Int) := by rw [IntKind.wrap_i64]; omega
  have q2 : IntKind.i64.wrap ((lt : Int) + (ld : Int) + (n : Int)) = (lt : Int) + (ld : Int) + (n : Int) := by rw [IntKind.wrap_i64]; omega
  have q3 : decide ((8192 : Int) < (lt : Int) + (ld : Int) + (n : Int)) = false := by simp; omega
  go_enter Tryz.func71, Tryz.ntmps71
  go_wp2
  go_quiet (fail)
  have c1 : (w.drewN nq).cell? ⟨b, 1, none⟩ = some (.slice da ld dc) := c1
  have c4 : (w.drewN nq).cell? ⟨b, 4, none⟩ = some (.int .i64 A.sec) := c4
  go_wp2_with (at_builtin; go_must (refine wpList_app rfl (.tmp 32) (.tmp 33) 22 rfl lo 91 i0 _ 10 104 Tryz.underlying22 hi hz0 hz1 hz2 rfl (by decide) (.slice da ld dc) ld (rowI pd) rfl (hown.out nq) (.slice a n c) n (rowI p) rfl (hsrc.out nq) hrl.out h1.out (by unfold maxLen; omega) (by omega) hlo2 ?_; intro v' w1 ho hg hw; obtain ⟨z0, z1, z2, z4, z3⟩ := hfin.out nq v' w1 ho hg hw; replace z2 := Hid.intro z2; replace z4 := Hid.intro z4; replace z3 := Hid.intro z3; obtain ⟨a', c', rfl⟩ := own_slice ho; clear ho hg hw))
  all_goals first | omega | skip
  go_ret
  exact ⟨rfl, z2.out, z4.out, _, z3.out⟩
def LayOut (lo : Nat) (w w' : World) (b m N : Nat) (A : Asm) (n : Nat) (its : List Itm) (pe : List ((List UInt8 × Lin) × Value)) (ev av : Value) (e : Ending) : Prop :=
  if 8192 < A.text.length + A.data.length + n then e = .returned (.bool false) else e = .returned (.bool true) ∧ Keep2 w w' ∧ ∃ pt' pd' tv' dv', AsmAt lo w' b m N (layI A its) pt' pd' pe tv' dv' ev av
theorem lay_any (h : AsmAt lo w b m N A pt pd pe tv dv ev av) (a : Option Addr) (c : Nat) (p : List (Itm × Value)) (hp : ItOwn lo w (.slice a p.length c) p) (hpn : p.length ≤ 1200000) (hok : A.text.length + A.data.length ≤ 8192) :
    Calls Tryz.prog 71 #[.pointer (some ⟨b, 0, none⟩), .slice a p.length c] w fun e w' => BelN lo m w w' ∧ LayOut lo w w' b m N A p.length (p.map (·.1)) pe ev av e := by
  have e1 : A.text.length = pt.length := by rw [h.et, List.length_map]
  have e2 : A.data.length = pd.length := by rw [h.ed, List.length_map]
  unfold LayOut
  by_cases hm : 8192 < A.text.length + A.data.length + p.length
  · simp only [if_pos hm]
    have hlo : lo ≤ w.heap.size := by have := h.blo; have := h.lt; omega
    refine (lay_many h a p.length c (by omega) (by omega) (by omega) hpn).mono ?_
    rintro e w' ⟨rfl, hb⟩
    exact ⟨BelN.of hb hlo, rfl⟩
  · simp only [if_neg hm]
    by_cases hs : A.sec = 1
    · refine (lay_data h hs a c p hp (by omega)).mono ?_
      rintro e w' ⟨rfl, hb, hk, dv', hA⟩
      exact ⟨hb, rfl, hk, _, _, _, _, by unfold layI; rw [if_pos hs, if_pos hs]; exact hA⟩
    · refine (lay_text h hs a c p hp (by omega)).mono ?_
      rintro e w' ⟨rfl, hb, hk, tv', hA⟩
      exact ⟨hb, rfl, hk, _, _, _, _, by unfold layI; rw [if_neg hs, if_neg hs]; exact hA⟩
end Go.Proofs.YtogkchgjpflmjaaGreatDoor
/- unit's unknown: the first `global` whose name nobody gives. -/
namespace Go.Proofs.YtogkchgjpflmjaaGreatDoor
open Go.ChangeShapes Go.WideShapes Go.ChangeAt Go.RowKit
set_option linter.unusedVariables false
set_option maxRecDepth 100000
variable {lo b m N : Nat} {w : World} {A : Asm} {pt pd : List (Itm × Value)} {pe : List ((List UInt8 × Lin) × Value)} {tv dv ev av : Value}
theorem rowA_get (l : List (List UInt8 × Nat)) (i f : Nat) (q : List UInt8 × Nat) (hi : l[i]? = some q) (hf : f < 2) : (rowA l)[i * 2 + f]? = (askCells q)[f]? := flat_at (fun q => askCells q) 2 (fun _ => rfl) l i f q hi hf
theorem AsmAt.ask (h : AsmAt lo w b m N A pt pd pe tv dv ev av) {i : Nat} {q : List UInt8 × Nat} (hi : A.asked[i]? = some q) : ∃ G c, av = .slice (some ⟨G, 0, none⟩) A.asked.length c ∧ G < w.heap.size ∧ w.cell? ⟨G, i * 2, none⟩ = some (.string (str q.1)) ∧ w.cell? ⟨G, i * 2 + 1, none⟩ = some (.int .i64 (q.2 : Int)) := by
  have hlt := (List.getElem?_eq_some_iff.1 hi).1
  rcases h.asked.2 with ⟨_, h0⟩ | ⟨G, cap, cur, hv, _, hg, _⟩
  · omega
  · have hr := h.asked
    rw [hv] at hr
    have key : ∀ f, f < 2 → w.cell? ⟨G, i * 2 + f, none⟩ = (askCells q)[f]? := fun f hf => by
      rw [hr.cellAt _ (by omega)]
      exact rowA_get A.asked i f q hi hf
    exact ⟨G, cap, hv, (Array.getElem?_eq_some_iff.1 hg).1, key 0 (by omega), key 1 (by omega)⟩
theorem unknownF_at {A : Asm} {i : Nat} {q : List UInt8 × Nat} (hi : A.asked[i]? = some q) (ha : ∀ j, j < i → ∀ p, A.asked[j]? = some p → p.1 ∈ A.given) (hq : q.1 ∉ A.given) : unknownF A = some q.2 := by
  unfold unknownF
  have : A.asked.find? (fun g => decide (g.1 ∉ A.given)) = some q := by
    rw [List.find?_eq_some_iff_getElem]
    have hlt := (List.getElem?_eq_some_iff.1 hi).1
    refine ⟨by simpa using hq, i, hlt, (List.getElem?_eq_some_iff.1 hi).2, fun j hj => ?_⟩
    have := ha j hj A.asked[j] (List.getElem?_eq_getElem (by omega))
    simpa using this
  rw [this]
  rfl
theorem unknownF_all {A : Asm} (ha : ∀ j, j < A.asked.length → ∀ p, A.asked[j]? = some p → p.1 ∈ A.given) : unknownF A = none := by
  unfold unknownF
  have : A.asked.find? (fun g => decide (g.1 ∉ A.given)) = none := by
    rw [List.find?_eq_none]
    intro x hx
    obtain ⟨j, hj⟩ := List.mem_iff_getElem?.1 hx
    have := ha j (List.getElem?_eq_some_iff.1 hj).1 x hj
    simpa using this
  rw [this]
  rfl
def unkV (A : Asm) : Array Value := match unknownF A with | none => #[.int .i64 0, .bool false] | some n => #[.int .i64 (n : Int), .bool true]
set_option maxHeartbeats 4000000 in
theorem unknown_any (h : AsmAt lo w b m N A pt pd pe tv dv ev av) (hfa : A.asked.length ≤ 1100000) (hnm : ∀ q ∈ A.asked, q.1.length ≤ 1100000) :
    Calls Tryz.prog 36 #[.pointer (some ⟨b, 0, none⟩)] w fun e w' => Below w.heap.size w w' ∧ e = .returned (.tuple (unkV A)) := by
  obtain ⟨ta, tc, da, dc, ea, ec, aa, ac, rfl, rfl, rfl, rfl⟩ := h.vals
  have c6 := (h.cell 6).trans rfl
  have hH := Hid.intro h
  have hnH := Hid.intro hnm
  clear h hnm
  obtain ⟨n0, hn0⟩ : ∃ n0, n0 = A.asked.length := ⟨_, rfl⟩
  rw [← hn0] at hfa c6
  replace hn0 := Hid.intro hn0
  go_enter Tryz.func36, Tryz.ntmps36
  go_wp2
  all_goals first | omega | skip
  clear c6
  go_loopw [13] (fun v13 wr => ∃ i : Nat, i ≤ n0 ∧ v13 = .int .i64 (i : Int) ∧ Hid (∀ j, j < i → ∀ p, A.asked[j]? = some p → p.1 ∈ A.given) ∧ Hid (Below w.heap.size w wr)) (fun v13 wr => n0 - (intOf v13).toNat)
  case atStart => exact ⟨0, by omega, rfl, fun j hj => by omega, Below.refl _ _⟩
  case round =>
    obtain ⟨i, hi, rfl, hall, hB⟩ := hrel
    by_cases hlt : i < n0
    · obtain ⟨q, hq⟩ : ∃ q, A.asked[i]? = some q := ⟨A.asked[i]'(by rw [← hn0.out]; exact hlt), List.getElem?_eq_getElem _⟩
      have hA := hH.out.below hB.out
      obtain ⟨G, c, hv, hG, k0, k1⟩ := hA.ask hq
      injection hv with hv _ hv3
      subst hv hv3
      have hlt2 : (i : Int) < (n0 : Int) := by omega
      have hmem := List.mem_of_getElem? hq
      have hA1 := hA.below (below_alloc wr (.cells #[.string (str q.1), .int .i64 (q.2 : Int)] 144))
      have hB1 : Below w.heap.size w (wr.alloc (.cells #[.string (str q.1), .int .i64 (q.2 : Int)] 144)) := hB.out.alloc hB.out.size _
      have hbx := fun j => cell_blockT (heap_alloc_new wr (.cells #[.string (str q.1), .int .i64 (q.2 : Int)] 144)) j
      have x0 := (hbx 0).trans rfl
      have x1 := (hbx 1).trans rfl
      clear hbx
      have hs1 : (wr.alloc (.cells #[.string (str q.1), .int .i64 (q.2 : Int)] 144)).heap.size = wr.heap.size + 1 := by simp
      have hqH := Hid.intro hq
      go_wp2
      all_goals first | omega | skip
      generalize (wr.alloc (.cells #[.string (str q.1), .int .i64 (q.2 : Int)] 144)) = w1 at *
      have hl1 : (Instr.lookup 67 (.map (some m)) (.string (str q.1)) true).run Tryz.prog w1.drew = .ok (.tuple #[.agg #[], .bool (decide (q.1 ∈ A.given))]) w1.drew := setlook_run (hA1.set.below (Below.refl _ _).drew) q.1 (hnH.out q hmem)
      have hl2 : ∀ o, (Instr.lookup 67 (.map (some m)) (.string (str q.1)) true).run Tryz.prog (w1.alloc o).drew = .ok (.tuple #[.agg #[], .bool (decide (q.1 ∈ A.given))]) (w1.alloc o).drew := fun o => setlook_run (hA1.set.below (below_alloc w1 o).drew) q.1 (hnH.out q hmem)
      have b5 := (hA1.cell 5).trans rfl
      have b6 : ∀ o, (w1.alloc o).cell? ⟨b, 5, none⟩ = some (.map (some m)) := fun o => ((hA1.below (below_alloc w1 o)).cell 5).trans rfl
      have x0' : ∀ o, (w1.alloc o).cell? ⟨wr.heap.size, 0, none⟩ = some (.string (str q.1)) := fun o => by rw [World.cell?_alloc_lt _ _ ⟨wr.heap.size, 0, none⟩ (by show wr.heap.size < _; omega)]; exact x0
      have x1' : ∀ o, (w1.alloc o).drew.cell? ⟨wr.heap.size, 1, none⟩ = some (.int .i64 (q.2 : Int)) := fun o => by show (w1.alloc o).cell? _ = _; rw [World.cell?_alloc_lt _ _ ⟨wr.heap.size, 1, none⟩ (by show wr.heap.size < _; omega)]; exact x1
      replace hA := Hid.intro hA
      replace hA1 := Hid.intro hA1
      replace hB1 := Hid.intro hB1
      clear hq hmem
      by_cases hg : q.1 ∈ A.given
      · rw [show decide (q.1 ∈ A.given) = true by simp [hg]] at hl1 hl2
        have hgH := Hid.intro hg
        clear hg
        go_region
        all_goals go_wp2_with fail
        all_goals go_roundw
        all_goals first
          | exact ⟨i + 1, by omega, by go_num, fun j hj p hp => by
              rcases Nat.lt_or_ge j i with h1 | h1
              · exact hall.out j h1 p hp
              · obtain rfl : j = i := by omega
                rw [hqH.out] at hp
                cases hp
                exact hgH.out, (hB1.out.alloc hB1.out.size _).drew⟩
          | (simp [intOf]; omega)
      · rw [show decide (q.1 ∈ A.given) = false by simp [hg]] at hl1 hl2
        have hres : Hid (unkV A = #[.int .i64 (q.2 : Int), .bool true]) := by
          show _ = _
          unfold unkV
          rw [unknownF_at hqH.out hall.out hg]
        clear hg
        go_region
        all_goals go_wp2_with fail
        all_goals go_ret2
        all_goals (rw [hres.out]; exact ⟨(hB1.out.alloc hB1.out.size _).drew, rfl⟩)
    · have hin : i = n0 := by omega
      have hres : Hid (unkV A = #[.int .i64 0, .bool false]) := by
        show _ = _
        unfold unkV
        rw [unknownF_all (fun j hj p hp => hall.out j (by rw [hin, hn0.out]; exact hj) p hp)]
      subst hin
      have hlt3 : ¬ ((i : Int) < (i : Int)) := by omega
      go_wp2
      all_goals first | omega | skip
      go_ret2
      rw [hres.out]
      exact ⟨hB.out, rfl⟩
end Go.Proofs.YtogkchgjpflmjaaGreatDoor
/- Texts sorted, and each of them once: the library's, at lists that are owned. -/
namespace Go.Proofs.YtogkchgjpflmjaaGreatDoor
open Go.ChangeShapes Go.WideShapes Go.ChangeAt Go.RowKit Go.Sort
set_option linter.unusedVariables false
set_option maxRecDepth 100000
def sortS (ss : List (List UInt8)) : List (List UInt8) := ss.mergeSort fun x y => decide (x ≤ y)
theorem sortS_len (ss : List (List UInt8)) : (sortS ss).length = ss.length := List.length_mergeSort ss
theorem sortS_any (v : Value) (ss : List (List UInt8)) (B : Nat) (w : World) (hl : ss.length ≤ 9000000) (hown : w.ownsRow B 9 1 v ss.length (ss.map encStr)) :
    Calls Tryz.prog 74 #[v] w fun e w' => e = .returned (.tuple #[]) ∧ w'.ownsRow B 9 1 v ss.length ((sortS ss).map encStr) ∧ w.grownBy w' v.ownBlock := by
  rcases hown.2 with ⟨rfl, h0⟩ | ⟨g, cap, cur, rfl, hbase, hb, h1, h2, h3, h4⟩
  · have he : ss = [] := List.eq_nil_of_length_eq_zero h0
    subst he
    refine (Any.slices_Sort_string_none Tryz.laysStrSort none 0 w).mono ?_
    rintro e w' ⟨rfl, rfl⟩
    exact ⟨rfl, by simpa [sortS] using World.ownsRow_nil _ B 9 1, World.grownBy.refl _ _⟩
  · have hv : (Value.slice (some ⟨g, 0, none⟩) ss.length cap) ≠ .slice none 0 0 := by simp
    obtain ⟨g', cap', e1, _, hlt, _, _, _, hH⟩ := Lib.holds_of_ownsRow hown hv
    injection e1 with e1 _ e3
    injection e1 with e1
    injection e1 with e1
    subst e1 e3
    refine (Any.slices_Sort_string Tryz.laysStrSort g 0 cap ss w hH hlt (by omega)).mono ?_
    rintro e w' ⟨rfl, n, os, rfl⟩
    exact ⟨rfl, ownsRow_sorted (sortS_len ss) hbase hb h1 h2 h3, grownBy_sorted _⟩
theorem grownBy_putRow {w : World} {g q : Nat} {d : Array (List UInt8)} : w.grownBy (putRow encStr (Sort.ahead w q) g 0 d) (some g) := by
  refine ⟨rfl, rfl, rfl, by simp [putRow, mapBlock, Sort.ahead], fun k hk hne => ?_⟩
  have : g ≠ k := fun e => hne (by rw [e])
  simp [putRow, mapBlock, Sort.ahead, Array.getElem?_modify, this]
theorem compactS_any (v : Value) (ss : List (List UInt8)) (B : Nat) (w : World) (hl : ss.length ≤ 9000000) (hown : w.ownsRow B 9 1 v ss.length (ss.map encStr)) :
    Calls Tryz.prog 75 #[v] w fun e w' => ∃ v', e = .returned v' ∧ w'.ownsRow B 9 1 v' (Lib.compact ss).length ((Lib.compact ss).map encStr) ∧ v'.ownBlock = v.ownBlock ∧ w.grownBy w' v.ownBlock := by
  rcases hown.2 with ⟨rfl, h0⟩ | ⟨g, cap, cur, rfl, hbase, hb, h1, h2, h3, h4⟩
  · have he : ss = [] := List.eq_nil_of_length_eq_zero h0
    subst he
    refine (Any.slices_Compact_string_empty Tryz.laysCompact none 0 w).mono ?_
    rintro e w' ⟨rfl, rfl⟩
    exact ⟨_, rfl, World.ownsRow_nil _ B 9 1, rfl, World.grownBy.refl _ _⟩
  · have hv : (Value.slice (some ⟨g, 0, none⟩) ss.length cap) ≠ .slice none 0 0 := by simp
    obtain ⟨g', cap', e1, _, hlt, _, _, _, hH⟩ := Lib.holds_of_ownsRow hown hv
    injection e1 with e1 _ e3
    injection e1 with e1
    injection e1 with e1
    subst e1 e3
    have hle := Lib.compact_length_le ss
    refine (Any.slices_Compact_string Tryz.laysCompact g 0 cap ss w hH (by omega) h1).mono ?_
    rintro e w' ⟨rfl, q, rfl⟩
    have hc := Lib.ownsRow_putRow (q := q) (k := (Lib.compact ss).length) (ys := Lib.compact ss ++ List.replicate (ss.length - (Lib.compact ss).length) []) hown (by simp; omega) hle
    rw [List.take_left] at hc
    exact ⟨_, rfl, hc, rfl, grownBy_putRow⟩
end Go.Proofs.YtogkchgjpflmjaaGreatDoor
namespace Go.Proofs.YtogkchgjpflmjaaGreatDoor
open Go.ChangeShapes Go.WideShapes Go.ChangeAt Go.RowKit Go.Sort
set_option linter.unusedVariables false
set_option maxRecDepth 100000
theorem info9 : (Tryz.prog.info? 9).map (fun i => (i.zero, i.size, i.bytes)) = some (some (.string ⟨#[]⟩), 1, 16) := by kernel_rfl
variable {lo b m N : Nat} {w : World} {A : Asm} {pt pd : List (Itm × Value)} {pe : List ((List UInt8 × Lin) × Value)} {tv dv ev av : Value}
def globF (A : Asm) : List (List UInt8) := Lib.compact (sortS (A.asked.map (·.1)))
abbrev unit4 (a b c d : Value) : Array Value := #[a, b, c, d]
structure WhS (w : World) (tv dv ev gv : Value) (ns : List (List UInt8)) (wr : World) : Prop where
  bel : Below w.heap.size w wr
  res : wr.heap[w.heap.size]? = some (.cells (unit4 (.slice none 0 0) (.slice none 0 0) (.slice none 0 0) (.slice none 0 0)) 26 (0, 0))
  var : wr.heap[w.heap.size + 1]? = some (.cells (unit4 tv dv ev gv) 26 (0, 0))
  own : wr.ownsRow (w.heap.size + 2) 9 1 gv ns.length (ns.map encStr)
theorem WhS.below {gv : Value} {ns : List (List UInt8)} {wr w' : World} (h : WhS w tv dv ev gv ns wr) (hb : Below wr.heap.size wr w') : WhS w tv dv ev gv ns w' := by
  have h1 := blk_lt h.res
  have h2 := blk_lt h.var
  exact ⟨h.bel.trans (hb.mono h.bel.size), by rw [hb.block _ h1]; exact h.res, by rw [hb.block _ h2]; exact h.var, own_keptB h.own hb⟩
theorem WhS.put {gv gv' : Value} {ns ns' : List (List UInt8)} {wr w1 : World} (h : WhS w tv dv ev gv ns wr) (hg : wr.grownBy w1 gv.ownBlock) (ho : w1.ownsRow (w.heap.size + 2) 9 1 gv' ns'.length (ns'.map encStr)) :
    w1.heap[w.heap.size + 1]? = some (.cells (unit4 tv dv ev gv) 26 (0, 0)) ∧ WhS w tv dv ev gv' ns' (w1.setCell ⟨w.heap.size + 1, 3, none⟩ gv') := by
  have h1 := blk_lt h.res
  have h2 := blk_lt h.var
  have e1 : w1.heap[w.heap.size]? = some (.cells (unit4 (.slice none 0 0) (.slice none 0 0) (.slice none 0 0) (.slice none 0 0)) 26 (0, 0)) := by
    rw [hg.block _ h1 (fun e => blk_other h.own h.res (by decide) e.symm)]; exact h.res
  have e2 : w1.heap[w.heap.size + 1]? = some (.cells (unit4 tv dv ev gv) 26 (0, 0)) := by
    rw [hg.block _ h2 (fun e => blk_other h.own h.var (by decide) e.symm)]; exact h.var
  obtain ⟨s1, s2⟩ := row_set e2 3 gv'
  have hsz := hg.size
  have hbs := h.bel.size
  refine ⟨e2, ⟨?_, ?_, s1, ho.kept s2 (.inr (blk_other ho e2 (by decide)))⟩⟩
  · have hB1 : Below w.heap.size w w1 := h.bel.grown hg (by omega) (fun j hj => by have := (h.own.lt _ hj).1; omega)
    exact hB1.grown s2 (by omega) (fun j hj => by cases hj; omega)
  · rw [s2.block _ (blk_lt e1) (by simp)]; exact e1
theorem WhS.turned {gv : Value} {ns ns' : List (List UInt8)} {wr w1 : World} (h : WhS w tv dv ev gv ns wr) (hg : wr.grownBy w1 gv.ownBlock) (ho : w1.ownsRow (w.heap.size + 2) 9 1 gv ns'.length (ns'.map encStr)) : WhS w tv dv ev gv ns' w1 := by
  have h1 := blk_lt h.res
  have h2 := blk_lt h.var
  have hbs := h.bel.size
  exact ⟨h.bel.grown hg (by omega) (fun j hj => by have := (h.own.lt _ hj).1; omega), by rw [hg.block _ h1 (fun e => blk_other h.own h.res (by decide) e.symm)]; exact h.res, by rw [hg.block _ h2 (fun e => blk_other h.own h.var (by decide) e.symm)]; exact h.var, ho⟩
theorem four_set {w : World} {g : Nat} {c0 c1 c2 c3 : Value} {T : TypeId} (h : w.heap[g]? = some (.cells #[c0, c1, c2, c3] T (0, 0))) (v0 v1 v2 v3 : Value) :
    ((((w.setCell ⟨g, 0, none⟩ v0).setCell ⟨g, 1, none⟩ v1).setCell ⟨g, 2, none⟩ v2).setCell ⟨g, 3, none⟩ v3).heap[g]? = some (.cells #[v0, v1, v2, v3] T (0, 0)) ∧ w.grownBy ((((w.setCell ⟨g, 0, none⟩ v0).setCell ⟨g, 1, none⟩ v1).setCell ⟨g, 2, none⟩ v2).setCell ⟨g, 3, none⟩ v3) (some g) := by
  obtain ⟨a0, b0⟩ := row_set h 0 v0
  obtain ⟨a1, b1⟩ := row_set a0 1 v1
  obtain ⟨a2, b2⟩ := row_set a1 2 v2
  obtain ⟨a3, b3⟩ := row_set a2 3 v3
  refine ⟨?_, grown_trans (grown_trans (grown_trans b0 b1) b2) b3⟩
  rw [a3]
  rfl
theorem four_read {T : TypeId} {w : World} {g : Nat} {v0 v1 v2 v3 : Value} (h : w.heap[g]? = some (.cells #[v0, v1, v2, v3] T (0, 0))) : w.cell? ⟨g, 0, none⟩ = some v0 ∧ w.cell? ⟨g, 1, none⟩ = some v1 ∧ w.cell? ⟨g, 2, none⟩ = some v2 ∧ w.cell? ⟨g, 3, none⟩ = some v3 :=
  ⟨(cell_blockT h 0).trans rfl, (cell_blockT h 1).trans rfl, (cell_blockT h 2).trans rfl, (cell_blockT h 3).trans rfl⟩
set_option maxHeartbeats 4000000 in
theorem whole_any (h : AsmAt lo w b m N A pt pd pe tv dv ev av) (hfa : A.asked.length ≤ 1100000) :
    Calls Tryz.prog 37 #[.pointer (some ⟨b, 0, none⟩)] w fun e w' => Below w.heap.size w w' ∧ ∃ gv, e = .returned (.agg (unit4 tv dv ev gv)) ∧ w'.ownsRow w.heap.size 9 1 gv (globF A).length ((globF A).map encStr) := by
  obtain ⟨ta, tc, da, dc, ea, ec, aa, ac, rfl, rfl, rfl, rfl⟩ := h.vals
  have hA := h.below (below_alloc w (.cells (unit4 (.slice none 0 0) (.slice none 0 0) (.slice none 0 0) (.slice none 0 0)) 26))
  have hc := hA.cell
  have c0 := (hc 0).trans rfl
  have c1 := (hc 1).trans rfl
  have c2 := (hc 2).trans rfl
  have c3 := (hc 3).trans rfl
  clear hc
  have hs1 : (w.alloc (.cells (unit4 (.slice none 0 0) (.slice none 0 0) (.slice none 0 0) (.slice none 0 0)) 26)).heap.size = w.heap.size + 1 := by simp
  generalize hW1 : w.alloc (.cells (unit4 (.slice none 0 0) (.slice none 0 0) (.slice none 0 0) (.slice none 0 0)) 26) = w1 at *
  have hA2 := hA.below (below_alloc w1 (.cells (unit4 (.slice ta pt.length tc) (.slice da pd.length dc) (.slice ea pe.length ec) (.slice none 0 0)) 26))
  have c6 := (hA2.cell 6).trans rfl
  have hS0 : Hid (WhS w (.slice ta pt.length tc) (.slice da pd.length dc) (.slice ea pe.length ec) (.slice none 0 0) [] (w1.alloc (.cells (unit4 (.slice ta pt.length tc) (.slice da pd.length dc) (.slice ea pe.length ec) (.slice none 0 0)) 26))) := by
    have hb1 : Below w.heap.size w w1 := by rw [← hW1]; exact below_alloc w _
    refine ⟨hb1.alloc (by omega) _, ?_, ?_, World.ownsRow_nil _ _ _ _⟩
    · rw [Below.heap_alloc _ _ _ (by omega), ← hW1]; exact heap_alloc_new w _
    · rw [← hs1]; exact heap_alloc_new w1 _
  have hH := Hid.intro h
  clear h hA hA2
  obtain ⟨n0, hn0⟩ : ∃ n0, n0 = A.asked.length := ⟨_, rfl⟩
  rw [← hn0] at hfa c6
  replace hn0 := Hid.intro hn0
  obtain ⟨i0, hi9, hz0, hz1, hz2⟩ := info_parts info9
  go_enter Tryz.func37, Tryz.ntmps37
  go_wp2
  all_goals first | omega | skip
  clear c0 c1 c2 c3 c6
  go_loopw [15] (fun v15 wr => ∃ (i : Nat) (ga : Option Addr) (gc : Nat), i ≤ n0 ∧ v15 = .int .i64 (i : Int) ∧ Hid (WhS w (.slice ta pt.length tc) (.slice da pd.length dc) (.slice ea pe.length ec) (.slice ga i gc) ((A.asked.take i).map (·.1)) wr)) (fun v15 wr => n0 - (intOf v15).toNat)
  case atStart => exact ⟨0, none, 0, by omega, rfl, hS0⟩
  case round =>
    clear hS0
    obtain ⟨i, ga, gc, hi, rfl, hS⟩ := hrel
    by_cases hlt : i < n0
    · obtain ⟨q, hq⟩ : ∃ q, A.asked[i]? = some q := ⟨A.asked[i]'(by rw [← hn0.out]; exact hlt), List.getElem?_eq_getElem _⟩
      have hA := hH.out.below hS.out.bel
      obtain ⟨G, c, hv, hG, k0, k1⟩ := hA.ask hq
      injection hv with hv _ hv3
      subst hv hv3
      have hlt2 : (i : Int) < (n0 : Int) := by omega
      have hlen : ((A.asked.take i).map (·.1)).length = i := by rw [List.length_map, List.length_take, ← hn0.out]; omega
      have hnext : (A.asked.take (i + 1)).map (·.1) = (A.asked.take i).map (·.1) ++ [q.1] := by rw [List.take_add_one, hq]; simp
      have hS1 := hS.out.below (below_alloc wr (.cells #[.string (str q.1), .int .i64 (q.2 : Int)] 144))
      have hbx := (cell_blockT (heap_alloc_new wr (.cells #[.string (str q.1), .int .i64 (q.2 : Int)] 144)) 0).trans rfl
      generalize hwa : wr.alloc (.cells #[.string (str q.1), .int .i64 (q.2 : Int)] 144) = wa at *
      have v3 := (cell_blockT hS1.var 3).trans rfl
      have hS2 := hS1.below (below_alloc wa (.cells #[.string (str q.1)] 9))
      have hown : Hid ((wa.alloc (.cells #[.string (str q.1)] 9)).ownsRow (w.heap.size + 2) 9 1 (.slice ga i gc) i (((A.asked.take i).map (·.1)).map encStr)) := by
        have := hS2.own
        rw [hlen] at this
        exact this
      have hws : wa.heap.size = wr.heap.size + 1 := by rw [← hwa]; simp
      have hsrc : Hid (Src (wa.alloc (.cells #[.string (str q.1)] 9)) (.slice (some ⟨wr.heap.size + 1, 0, none⟩) 1 1) 1 [encStr q.1]) := by
        rw [← hws]
        exact .inr ⟨_, _, rfl, cells_new wa #[.string (str q.1)] 9⟩
      have hfin : Hid (∀ v' w3, w3.ownsRow (w.heap.size + 2) 9 1 v' (i + 1) (((A.asked.take i).map (·.1)).map encStr ++ [encStr q.1]) → (wa.alloc (.cells #[.string (str q.1)] 9)).grownBy w3 (Value.slice ga i gc).ownBlock → w3.cell? ⟨w.heap.size + 1, 3, none⟩ = some (.slice ga i gc) ∧ w3.frozen? ⟨w.heap.size + 1, 3, none⟩ = false ∧ WhS w (.slice ta pt.length tc) (.slice da pd.length dc) (.slice ea pe.length ec) v' ((A.asked.take (i + 1)).map (·.1)) (w3.setCell ⟨w.heap.size + 1, 3, none⟩ v')) := fun v' w3 g1 g2 => by
        obtain ⟨e1, e2⟩ := hS2.put (ns' := (A.asked.take (i + 1)).map (·.1)) g2 (by rw [hnext, List.length_append, hlen, List.map_append]; exact g1)
        exact ⟨(cell_blockT e1 3).trans rfl, frozen_of_row w3 _ 3 _ 26 e1, e2⟩
      have hbase : w.heap.size + 2 ≤ (wa.alloc (.cells #[.string (str q.1)] 9)).heap.size := by
        have := blk_lt hS2.var
        have := (below_alloc wa (.cells #[.string (str q.1)] 9)).size
        have h3 : (wa.alloc (.cells #[.string (str q.1)] 9)).heap.size = wa.heap.size + 1 := by simp
        have := blk_lt hS1.var
        omega
      have hil : i ≤ 1100000 := by omega
      clear hS1 hS2 hnext hlen hws
      replace hA := Hid.intro hA
      subst hwa
      go_wp2_with (at_builtin; go_must (refine wpList_app rfl (.tmp 20) (.tmp 23) 24 rfl (w.heap.size + 2) 9 i0 _ 1 16 Tryz.underlying24 hi9 hz0 hz1 hz2 rfl (by decide) (.slice ga i gc) i _ rfl hown.out (.slice (some ⟨_, 0, none⟩) 1 1) 1 [encStr q.1] rfl hsrc.out rfl (by simp [Value.oneCell', encStr]) (by unfold maxLen; omega) (by omega) hbase ?_; intro v' w3 ho hg hw; obtain ⟨z0, z1, z2⟩ := hfin.out v' w3 ho hg; replace z2 := Hid.intro z2; obtain ⟨a', c', rfl⟩ := own_slice ho; clear ho hg hw))
      all_goals first | omega | skip
      go_roundw
      case rel => exact ⟨i + 1, a', c', by omega, by go_num, z2⟩
      case measure => simp [intOf]; omega
    · obtain rfl : i = n0 := by omega
      have hlt3 : ¬ ((i : Int) < (i : Int)) := by omega
      have hns : (A.asked.take i).map (·.1) = A.asked.map (·.1) := by rw [hn0.out, List.take_length]
      have hlen : (A.asked.map (·.1)).length = i := by rw [List.length_map, hn0.out]
      rw [hns] at hS
      obtain ⟨_, _, _, v3⟩ := four_read hS.out.var
      have hsort := Hid.intro (sortS_any (.slice ga i gc) (A.asked.map (·.1)) (w.heap.size + 2) wr (by omega) hS.out.own)
      have hsl := sortS_len (A.asked.map (·.1))
      have hcomp := Hid.intro (fun w3 ho => compactS_any (.slice ga i gc) (sortS (A.asked.map (·.1))) (w.heap.size + 2) w3 (by omega) ho)
      have hslH := Hid.intro hsl
      clear hns hlen hsl
      go_wp2_with (first
        | (go_at_call 74; (with_reducible refine (hsort.out).mono ?_); rintro e w3 ⟨rfl, ho3, hg3⟩; rw [← hslH.out] at ho3; have hS3 := Hid.intro (hS.out.turned hg3 ho3); obtain ⟨_, _, _, u3⟩ := four_read hS3.out.var; replace ho3 := Hid.intro ho3; clear hg3)
        | (go_at_call 75; (with_reducible refine (hcomp.out w3 ho3.out).mono ?_); rintro e w4 ⟨gv, rfl, ho4, hb4, hg4⟩; obtain ⟨e4, hS4⟩ := hS3.out.put (gv' := gv) (ns' := Lib.compact (sortS (A.asked.map (·.1)))) hg4 ho4; obtain ⟨_, _, _, t3⟩ := four_read e4; have tf := frozen_of_row w4 (w.heap.size + 1) 3 _ 26 e4; obtain ⟨ga4, gc4, rfl⟩ := own_slice ho4; obtain ⟨x0, x1, x2, x3⟩ := four_read hS4.var; obtain ⟨y0, y1, y2, y3⟩ := four_read hS4.res; have yf := fun j => frozen_of_row _ w.heap.size j _ 26 hS4.res; replace hS4 := Hid.intro hS4; clear ho4 hg4 e4 hb4))
      all_goals first | omega | skip
      obtain ⟨s1, s2⟩ := four_set hS4.out.res (.slice ta pt.length tc) (.slice da pd.length dc) (.slice ea pe.length ec) (.slice ga4 (Lib.compact (sortS (A.asked.map (·.1)))).length gc4)
      have hbs := hS4.out.bel.size
      have hB9 := hS4.out.bel.grown s2 (by omega) (fun j hj => by cases hj; exact Nat.le_refl _)
      have ho9 := own_weaken (own_low hS4.out.own s2 (by omega)) (B := w.heap.size) (by omega)
      generalize (((((w4.setCell ⟨w.heap.size + 1, 3, none⟩ (.slice ga4 (Lib.compact (sortS (A.asked.map (·.1)))).length gc4)).setCell ⟨w.heap.size, 0, none⟩ (.slice ta pt.length tc)).setCell ⟨w.heap.size, 1, none⟩ (.slice da pd.length dc)).setCell ⟨w.heap.size, 2, none⟩ (.slice ea pe.length ec)).setCell ⟨w.heap.size, 3, none⟩ (.slice ga4 (Lib.compact (sortS (A.asked.map (·.1)))).length gc4)) = w9 at s1 s2 hB9 ho9 ⊢
      obtain ⟨k0, k1, k2, k3⟩ := four_read s1
      refine bodyPost_ret (by simp [results, Tryz.results37, go_sem, k0, k1, k2, k3]; try rfl) rfl ?_
      exact ⟨hB9, _, rfl, ho9⟩
end Go.Proofs.YtogkchgjpflmjaaGreatDoor
