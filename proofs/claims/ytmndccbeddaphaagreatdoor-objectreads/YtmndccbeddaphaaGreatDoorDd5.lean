/- The document's reader of objects: grow, of a unit that is owned; what grows by one. -/
import Derived.Test.YtmndccbeddaphaaGreatDoorDd1
import Derived.Test.YtmndccbeddaphaaGreatDoorZDr
import Derived.Test.YtmndccbeddaphaaGreatDoorMb4
import Derived.Test.YtmndccbeddaphaaGreatDoorDd4h
import Derived.Test.YtmndccbeddaphaaGreatDoorOrd20
import Derived.Test.YtmndccbeddaphaaGreatDoorOrd15
import Derived.Test.YtmndccbeddaphaaGreatDoorCp
import Derived.Test.YtmndccbeddaphaaGreatDoorRfe
import Derived.Test.YtmndccbeddaphaaGreatDoorOcBook
import Derived.Test.YtmndccbeddaphaaGreatDoorDd4
/- The document's reader of objects: grow. -/
namespace Go.Proofs.YtmndccbeddaphaaGreatDoor
open Go.ChangeShapes Go.WideShapes Go.ChangeAt Go.RowKit Go.Sort
set_option linter.unusedVariables false
set_option linter.unusedSimpArgs false
set_option maxRecDepth 100000
theorem names_held {u : UVal} (hu : HeldU u) : ∀ s ∈ u.names, s.length ≤ 1100000 := by
  intro s hs
  unfold UVal.names labN at hs
  rcases List.mem_append.1 hs with hs | hs
  · rcases List.mem_append.1 hs with hs | hs
    · obtain ⟨x, hx, rfl⟩ := List.mem_map.1 hs
      exact (hu.text.2 x (List.mem_filter.1 hx |>.1)).name
    · obtain ⟨x, hx, rfl⟩ := List.mem_map.1 hs
      exact (hu.data.2 x (List.mem_filter.1 hx |>.1)).name
  · obtain ⟨x, hx, rfl⟩ := List.mem_map.1 hs
    exact (hu.equs.2 x hx).name
theorem chn {w w1 w2 : World} (h1 : Below w.heap.size w w1) (h2 : Below w1.heap.size w1 w2) : Below w.heap.size w w2 := h1.trans (h2.mono h1.size)
theorem blk_other {w : World} {lo : Nat} {T T' : TypeId} {sz : Nat} {v : Value} {n : Nat} {xs : List Value} {b : Nat} {cs : Array Value} {r : Nat × Nat} (h : w.ownsRow lo T sz v n xs) (hb : w.heap[b]? = some (.cells cs T' r)) (hT : T ≠ T') : v.ownBlock ≠ some b := by
  intro e
  obtain ⟨cur, hc⟩ := own_type h e
  rw [hb] at hc
  injection hc with hc
  injection hc with _ hc
  exact hT hc.symm
def gdB (bad : Option (Int × Int)) (x n : Int) : Option (Int × Int) := if bad.isSome then bad else if n = 0 then none else some (x, 31)
section
variable {w w' : World} {r : Nat} {a : Option Addr} {c : Nat} {zs : List Int} {p : Nat} {bad : Option (Int × Int)}
set_option maxHeartbeats 4000000 in
theorem growD_is (h : RD w r a c zs p bad) (x : Int) (ta : Option Addr) (tc : Nat) (da : Option Addr) (dc : Nat) (ea : Option Addr) (ec : Nat) (ga : Option Addr) (gc : Nat) (u : UVal) (hu : HeldU u) (hI : UnitIn w ta da ea ga u) :
    Calls Tryz.prog 46 #[.pointer (some ⟨r, 0, none⟩), .int .i64 x, .agg (unitV ta tc da dc ea ec ga gc u)] w fun e w' => e = .returned (.tuple #[]) ∧ w.grownBy w' (some r) ∧ ∀ n, RightN u n → RD w' r a c zs p (gdB bad x n) := by
  have hB := below_alloc w (.cells (unitV ta tc da dc ea ec ga gc u) 30)
  have hx := heap_alloc_new w (.cells (unitV ta tc da dc ea ec ga gc u) 30)
  have h1 := h.below hB
  have hg1 := grown_of_below hB
  have hrt := Hid.intro (dright_any ta tc da dc ea ec ga gc u hu (names_held hu) _ (hI.below hB))
  obtain ⟨c0, c1, c2, c3⟩ := four_readD h1.blk
  obtain ⟨x0, x1, x2, x3⟩ := four_read hx
  cases hb : bad with
  | some f =>
    rw [hb] at h1 c2 c3
    have hnz := h1.nz f rfl
    simp only [bdA, bdW, Option.getD_some] at c2 c3
    obtain ⟨f1, f2⟩ := f
    dsimp only at c2 c3 hnz
    have hd2 : (f2 == 0) = false := by simpa using hnz
    have hfin : Hid (w.grownBy (w.alloc (.cells (unitV ta tc da dc ea ec ga gc u) 30)) (some r) ∧ ∀ n, RightN u n → RD (w.alloc (.cells (unitV ta tc da dc ea ec ga gc u) 30)) r a c zs p (gdB (some (f1, f2)) x n)) := ⟨⟨hg1.os, hg1.tape, hg1.output, hg1.size, fun k hk _ => hg1.block k hk (by simp)⟩, fun n _ => h1⟩
    clear hb h h1 hrt hI hu hB hg1 hx
    go_enter Tryz.func46, Tryz.ntmps46
    go_wp2
    all_goals first | omega | skip
    go_end0
    exact ⟨rfl, hfin.out⟩
  | none =>
    rw [hb] at h1 c2 c3
    simp only [bdA, bdW, Option.getD_none] at c2 c3
    have hg2 : Hid (w.grownBy (w.alloc (.cells (unitV ta tc da dc ea ec ga gc u) 30)) none) := hg1
    have h1H := Hid.intro h1
    clear hb h h1 hI hu hB hg1 hx
    go_enter Tryz.func46, Tryz.ntmps46
    go_upto_region 1 with fail
    all_goals first | omega | skip
    generalize w.alloc (.cells (unitV ta tc da dc ea ec ga gc u) 30) = W at *
    go_wp2_with (first
      | (go_at_call 24; (with_reducible refine (hrt.out).mono ?_); rintro e w1 ⟨⟨n, rfl, hn⟩, b1⟩; have h2 := Hid.intro (h1H.out.below b1); have g2 := Hid.intro (grown_trans hg2.out (grown_of_below b1)); replace hn := Hid.intro hn; clear b1 hrt h1H hg2; rcases Decidable.em (n = 0) with h0 | h0 <;> first | (subst h0) | (have hd : (n == 0) = false := by simpa using h0))
      | (go_at_call 43; (with_reducible refine (refuseD_is h2.out x 31 (by decide)).mono ?_); rintro e w3 ⟨rfl, g3, h3⟩; replace g3 := Hid.intro g3; replace h3 := Hid.intro h3))
    all_goals first | omega | skip
    · go_end0
      refine ⟨rfl, ⟨g2.out.os, g2.out.tape, g2.out.output, g2.out.size, fun k hk _ => g2.out.block k hk (by simp)⟩, fun m hm => ?_⟩
      rw [rightN_one hm hn.out]
      exact h2.out
    · go_end0
      refine ⟨rfl, ⟨g3.out.os.trans g2.out.os, g3.out.tape.trans g2.out.tape, g3.out.output.trans g2.out.output, Nat.le_trans g2.out.size g3.out.size, fun k hk hne => (g3.out.block k (Nat.lt_of_lt_of_le hk g2.out.size) hne).trans (g2.out.block k hk (by simp))⟩, fun m hm => ?_⟩
      rw [rightN_one hm hn.out]
      unfold gdB
      rw [if_neg (by simp), if_neg h0]
      exact h3.out
end
end Go.Proofs.YtmndccbeddaphaaGreatDoor
/- What the document's reader of objects meets first, held against the program's: plain facts. -/
namespace Go.Proofs.YtmndccbeddaphaaGreatDoor
set_option linter.unusedVariables false
set_option linter.unusedSimpArgs false
set_option maxRecDepth 100000
section
variable {zs : List Int} {p : Nat} {f : Int × Int} {bad : Rfu}
theorem itB_s (x : Itm) (sec : Int) (g : INm) : itB x sec g p (some f) = some f := by unfold itB; split <;> rfl
theorem manyB_s (n most : Int) : manyB n most p (some f) = some f := by unfold manyB; split <;> rfl
theorem rdItLoop_s (sec : Int) (k : Nat) (acc : List Itm) (g : INm) : (rdItLoop zs sec k acc g p (some f)).2.2.2 = some f := by cases k <;> simp [rdItLoop]
theorem rdItems_s (sec most : Int) (g : INm) : (rdItems zs sec most g p (some f)).2.2.2 = some f := by unfold rdItems; rw [rdB_s, manyB_s]; exact rdItLoop_s _ _ _ _
theorem eqB_s (q : Eqv) (g : INm) : eqB q g p (some f) = some f := by unfold eqB; split <;> rfl
theorem rdEqLoop_s (k : Nat) (acc : List Eqv) (g : INm) : (rdEqLoop zs k acc g p (some f)).2.2.2 = some f := by cases k <;> simp [rdEqLoop]
theorem rdEqus_s (most : Int) (g : INm) : (rdEqus zs most g p (some f)).2.2.2 = some f := by unfold rdEqus; rw [rdB_s, manyB_s]; exact rdEqLoop_s _ _ _
theorem glB_s (s last : List UInt8) (g : INm) : glB s last g p (some f) = some f := by unfold glB; split <;> rfl
theorem rdGlLoop_s (g : INm) (k : Nat) (acc : INm) (la : List UInt8) : (rdGlLoop zs g k acc la p (some f)).2.2.2 = some f := by cases k <;> simp [rdGlLoop]
theorem rdGlobs_s (g : INm) (la : List UInt8) : (rdGlobs zs g la p (some f)).2.2.2 = some f := by unfold rdGlobs; rw [rdB_s]; exact rdGlLoop_s _ _ _ _
theorem tailB_s : tailB zs p (some f) = some f := by unfold tailB; split <;> rfl
end
section
variable {zs : List Int} {p : Nat} {b : Rfu}
theorem okI_kind {x : Itm} {sec : Int} (h : okI x sec = true) : 1 ≤ x.kind ∧ x.kind ≤ 7 := by
  rcases okI_form h with ⟨e, _⟩ | ⟨e, _⟩ | ⟨e, _⟩ | e | ⟨e, _⟩ | e | ⟨e, _⟩ <;> (have e1 := congrArg Itm.kind e; dsimp only at e1; omega)
theorem itR_kind : (itR zs p b).1.kind = rdV zs p 1 := by
  unfold itR
  repeat' split
  all_goals first | rfl | (dsimp only; omega)
theorem itD_none (h : itD zs p = none) : (itR zs p none).2.2 = none := by
  unfold itD at h
  split at h
  · exact h
  · exact absurd h firstR_some
theorem grow_item {sec n : Int} {g : INm} (hn : itD zs p = none → (n = 0 ↔ okI (itR zs p none).1 sec = true ∧ ¬ ((itR zs p none).1.kind = 1 ∧ (itR zs p none).1.name ∈ g))) : gdB (itD zs p) (p : Int) n = itB (itR zs p none).1 sec g p (itR zs p none).2.2 := by
  cases hd : itD zs p with
  | none =>
    have h0 := itD_none hd
    have h1 := hn hd
    rw [h0]
    unfold gdB itB
    rw [if_neg (by simp)]
    by_cases hq : n = 0
    · rw [if_pos hq, if_pos (show itOk _ sec = true ∧ _ from h1.1 hq)]
    · rw [if_neg hq, if_neg (show ¬ (itOk _ sec = true ∧ _) from fun h => hq (h1.2 h))]
      rfl
  | some f =>
    show some f = _
    unfold itD at hd
    split at hd
    · rw [hd, itB_s]
    · next hk =>
      have h2 : (itR zs p none).2.2 = rdB zs p 1 none := by
        unfold itR
        rw [if_neg (by omega), if_neg (by omega), if_neg (by omega), if_neg (by omega), if_neg (by omega), if_neg (by omega)]
      have h3 : ¬ (okI (itR zs p none).1 sec = true) := fun h => hk (by have := okI_kind h; rw [itR_kind] at this; exact this)
      rw [h2]
      unfold itB
      rw [if_neg (fun h => h3 h.1), hd]
theorem nodup_snoc {A : INm} {s : List UInt8} : (A ++ [s]).Nodup ↔ A.Nodup ∧ s ∉ A := by
  rw [List.nodup_append]
  constructor
  · rintro ⟨h1, _, h3⟩
    exact ⟨h1, fun h => h3 s h s (by simp) rfl⟩
  · rintro ⟨h1, h2⟩
    refine ⟨h1, by simp, fun a ha b hb e => ?_⟩
    rw [List.mem_singleton] at hb
    rw [e, hb] at ha
    exact h2 ha
theorem labN_snoc (l : List Itm) (x : Itm) : labN (l ++ [x]) = labN l ++ (if x.kind = 1 then [x.name] else []) := by
  unfold labN
  rw [List.filter_append, List.map_append]
  congr 1
  by_cases h : x.kind = 1 <;> simp [h]
theorem wok_right {u : UVal} (hR : RightU u) (h8 : u.text.length + u.data.length ≤ 8192) (h9 : u.equs.length ≤ 8192) (fT : ∀ x ∈ u.text, Fine x) (fD : ∀ x ∈ u.data, Fine x) (fE : ∀ q ∈ u.equs, FineQ q) : WOk u := by
  have ht := List.all_eq_true.1 hR.text
  have hd := List.all_eq_true.1 hR.data
  have he := List.all_eq_true.1 hR.equs
  have hgiv : ∀ s ∈ u.globs, s ∈ u.names := fun s hs => mem_sortS.1 (hR.globs.2 s hs)
  have hleg : ∀ s ∈ u.names, legB (str s) = true := fun s hs => by
    unfold UVal.names at hs
    rcases List.mem_append.1 hs with hs | hs
    · rcases List.mem_append.1 hs with hs | hs
      · obtain ⟨x, hx, hk, rfl⟩ := labN_mem hs
        exact okI_leg (ht x hx) hk
      · obtain ⟨x, hx, hk, rfl⟩ := labN_mem hs
        exact okI_leg (hd x hx) hk
    · obtain ⟨q, hq, rfl⟩ := List.mem_map.1 hs
      have := he q hq
      unfold okE at this
      rw [Bool.and_eq_true] at this
      exact this.1
  exact ⟨fun x hx => ⟨ht x hx, fT x hx⟩, fun x hx => ⟨hd x hx, fD x hx⟩, fun q hq => ⟨he q hq, fE q hq⟩, h8, h9, (twice_iff _).1 hR.once, asc_of hR.globs.1 (fun s hs => nlt_nil_of (legB_ne (hleg s (hgiv s (List.mem_of_getElem? hs))))), hgiv⟩
theorem next_of {u : UVal} {n : Int} (hn : RightN u n) (h8 : u.text.length + u.data.length ≤ 8192) (h9 : u.equs.length ≤ 8192) (fT : ∀ x ∈ u.text, Fine x) (fD : ∀ x ∈ u.data, Fine x) (fE : ∀ q ∈ u.equs, FineQ q) {P : Prop} (h1 : WOk u → P) (h2 : P → RightU u) : (n = 0 ↔ P) ∧ (n = 0 → WOk u) := by
  rcases hn with ⟨h, _⟩ | ⟨_, ⟨hR, rfl⟩ | ⟨hR, rfl⟩⟩
  · omega
  · have hW := wok_right hR h8 h9 fT fD fE
    exact ⟨⟨fun _ => h1 hW, fun _ => rfl⟩, fun _ => hW⟩
  · exact ⟨⟨fun h => (by cases h), fun h => absurd (h2 h) hR⟩, fun h => (by cases h)⟩
theorem mem_snoc {α : Type} {P : α → Prop} {l : List α} {x : α} (h : ∀ y ∈ l, P y) (hx : P x) : ∀ y ∈ l ++ [x], P y := fun y hy => by
  rcases List.mem_append.1 hy with h1 | h1
  · exact h y h1
  · rw [List.mem_singleton] at h1
    rw [h1]
    exact hx
theorem text_next {L : List Itm} {x : Itm} (hW : WOk ⟨L, [], [], []⟩) (hF : Fine x) (hl : L.length < 8192) {n : Int} (hn : RightN ⟨L ++ [x], [], [], []⟩ n) : (n = 0 ↔ okI x 0 = true ∧ ¬ (x.kind = 1 ∧ x.name ∈ labN L)) ∧ (n = 0 → WOk ⟨L ++ [x], [], [], []⟩) := by
  have hnm : (UVal.mk (L ++ [x]) [] [] []).names = labN L ++ (if x.kind = 1 then [x.name] else []) := by unfold UVal.names; simp [labN_snoc, show labN [] = [] from rfl]
  have hnm0 : (UVal.mk L [] [] []).names = labN L := by unfold UVal.names; simp [labN]
  refine next_of hn (by simp; omega) (by simp) (mem_snoc (fun y hy => (hW.text y hy).2) hF) (fun y hy => by cases hy) (fun y hy => by cases hy) (fun h => ?_) (fun h => ?_)
  · refine ⟨(h.text x (by simp)).1, fun hk => ?_⟩
    have := h.once
    rw [hnm, if_pos hk.1, nodup_snoc] at this
    exact this.2 hk.2
  · refine ⟨List.all_eq_true.2 (mem_snoc (fun y hy => (hW.text y hy).1) h.1), rfl, rfl, (twice_iff _).2 ?_, fun i p g h => by simp at h, fun g hg => by cases hg⟩
    have h0 := hW.once
    rw [hnm0] at h0
    rw [hnm]
    by_cases hk : x.kind = 1
    · rw [if_pos hk, nodup_snoc]
      exact ⟨h0, fun hm => h.2 ⟨hk, hm⟩⟩
    · rw [if_neg hk, List.append_nil]
      exact h0
theorem data_next {T L : List Itm} {x : Itm} (hW : WOk ⟨T, L, [], []⟩) (hF : Fine x) (hl : T.length + L.length < 8192) {n : Int} (hn : RightN ⟨T, L ++ [x], [], []⟩ n) : (n = 0 ↔ okI x 1 = true ∧ ¬ (x.kind = 1 ∧ x.name ∈ labN T ++ labN L)) ∧ (n = 0 → WOk ⟨T, L ++ [x], [], []⟩) := by
  have hnm : (UVal.mk T (L ++ [x]) [] []).names = (labN T ++ labN L) ++ (if x.kind = 1 then [x.name] else []) := by unfold UVal.names; simp [labN_snoc]
  have hnm0 : (UVal.mk T L [] []).names = labN T ++ labN L := by unfold UVal.names; simp
  refine next_of hn (by simp; omega) (by simp) (fun y hy => (hW.text y hy).2) (mem_snoc (fun y hy => (hW.data y hy).2) hF) (fun y hy => by cases hy) (fun h => ?_) (fun h => ?_)
  · refine ⟨(h.data x (by simp)).1, fun hk => ?_⟩
    have := h.once
    rw [hnm, if_pos hk.1, nodup_snoc] at this
    exact this.2 hk.2
  · refine ⟨List.all_eq_true.2 (fun y hy => (hW.text y hy).1), List.all_eq_true.2 (mem_snoc (fun y hy => (hW.data y hy).1) h.1), rfl, (twice_iff _).2 ?_, fun i p g h => by simp at h, fun g hg => by cases hg⟩
    have h0 := hW.once
    rw [hnm0] at h0
    rw [hnm]
    by_cases hk : x.kind = 1
    · rw [if_pos hk, nodup_snoc]
      exact ⟨h0, fun hm => h.2 ⟨hk, hm⟩⟩
    · rw [if_neg hk, List.append_nil]
      exact h0
theorem equ_next {T D : List Itm} {L : List Eqv} {q : Eqv} (hW : WOk ⟨T, D, L, []⟩) (hF : FineQ q) (hl : L.length < 8192) {n : Int} (hn : RightN ⟨T, D, L ++ [q], []⟩ n) : (n = 0 ↔ okE q = true ∧ q.1 ∉ labN T ++ labN D ++ L.map (·.1)) ∧ (n = 0 → WOk ⟨T, D, L ++ [q], []⟩) := by
  have hnm : (UVal.mk T D (L ++ [q]) []).names = (labN T ++ labN D ++ L.map (·.1)) ++ [q.1] := by unfold UVal.names; simp
  have hnm0 : (UVal.mk T D L []).names = labN T ++ labN D ++ L.map (·.1) := rfl
  refine next_of hn hW.few (by simp; omega) (fun y hy => (hW.text y hy).2) (fun y hy => (hW.data y hy).2) (mem_snoc (fun y hy => (hW.equs y hy).2) hF) (fun h => ?_) (fun h => ?_)
  · refine ⟨(h.equs q (by simp)).1, ?_⟩
    have := h.once
    rw [hnm, nodup_snoc] at this
    exact this.2
  · refine ⟨List.all_eq_true.2 (fun y hy => (hW.text y hy).1), List.all_eq_true.2 (fun y hy => (hW.data y hy).1), List.all_eq_true.2 (mem_snoc (fun y hy => (hW.equs y hy).1) h.1), (twice_iff _).2 ?_, fun i p g h => by simp at h, fun g hg => by cases hg⟩
    have h0 := hW.once
    rw [hnm0] at h0
    rw [hnm, nodup_snoc]
    exact ⟨h0, h.2⟩
theorem asc_snoc : ∀ {l : INm} {la s : List UInt8}, Asc la (l ++ [s]) ↔ Asc la l ∧ nlt (lastOf la l) s = true
  | [], la, s => by simp [Asc, lastOf]
  | x :: r, la, s => by
    show nlt la x = true ∧ Asc x (r ++ [s]) ↔ (nlt la x = true ∧ Asc x r) ∧ nlt (lastOf x r) s = true
    rw [asc_snoc, and_assoc]
theorem lastOf_snoc : ∀ {l : INm} {la s : List UInt8}, lastOf la (l ++ [s]) = s
  | [], la, s => rfl
  | x :: r, la, s => by
    show lastOf x (r ++ [s]) = s
    exact lastOf_snoc
theorem glob_next {T D : List Itm} {E : List Eqv} {L : INm} {s : List UInt8} (hW : WOk ⟨T, D, E, L⟩) {n : Int} (hn : RightN ⟨T, D, E, L ++ [s]⟩ n) : (n = 0 ↔ s ∈ labN T ++ labN D ++ E.map (·.1) ∧ nlt (lastOf [] L) s = true) ∧ (n = 0 → WOk ⟨T, D, E, L ++ [s]⟩) := by
  refine next_of hn hW.few hW.fewE (fun y hy => (hW.text y hy).2) (fun y hy => (hW.data y hy).2) (fun y hy => (hW.equs y hy).2) (fun h => ?_) (fun h => ?_)
  · exact ⟨h.given s (by simp), (asc_snoc.1 h.asc).2⟩
  · refine ⟨List.all_eq_true.2 (fun y hy => (hW.text y hy).1), List.all_eq_true.2 (fun y hy => (hW.data y hy).1), List.all_eq_true.2 (fun y hy => (hW.equs y hy).1), (twice_iff _).2 hW.once, asc_step (asc_snoc.2 ⟨hW.asc, h.2⟩), fun g hg => mem_sortS.2 ?_⟩
    exact mem_snoc (P := fun g => g ∈ (UVal.mk T D E (L ++ [s])).names) (fun y hy => hW.given y hy) h.1 g hg
end
end Go.Proofs.YtmndccbeddaphaaGreatDoor
/- object: what Read and Write answer, in the form that the laws use; closed runs; the law's known. -/
namespace Go.Proofs.YtmndccbeddaphaaGreatDoor
open Go.ChangeShapes Go.WideShapes Go.ChangeAt Go.RowKit
set_option linter.unusedVariables false
set_option linter.unusedSimpArgs false
set_option maxRecDepth 100000
theorem ItOwn.itIn {lo : Nat} {w : World} {a : Option Addr} {n c : Nat} {p : List (Itm × Value)} (h : ItOwn lo w (.slice a n c) p) : ItIn w a (p.map (·.1)) := by
  rcases h.row.2 with ⟨hv, h0⟩ | ⟨g, cap, cur, hv, _, hg, _⟩
  · exact .inl (by rw [List.length_eq_zero_iff.1 h0]; rfl)
  · injection hv with hv1 hv2 hv3
    subst hv1
    refine .inr ⟨g, 0, rfl, (Array.getElem?_eq_some_iff.1 hg).1, fun i x hx => ?_⟩
    rw [List.getElem?_map] at hx
    obtain ⟨q, hq, rfl⟩ := Option.map_eq_some_iff.1 hx
    have hlt := (List.getElem?_eq_some_iff.1 hq).1
    have ho := h.each q (List.mem_of_getElem? hq)
    obtain ⟨va, vc, hva⟩ := own_slice ho
    have hrow := h.row
    rw [hv2] at hrow
    have key : ∀ j, j < 10 → w.cell? ⟨g, 0 + i * 10 + j, none⟩ = (itmCells q.1 q.2).toList[j]? := fun j hj => by
      rw [Nat.zero_add, hrow.cellAt _ (by omega)]
      exact flat_at (fun q : Itm × Value => (itmCells q.1 q.2).toList) 10 (fun _ => rfl) p i j q hq hj
    rw [hva] at key ho
    exact ⟨va, vc, ⟨key 0 (by omega), key 1 (by omega), key 2 (by omega), key 3 (by omega), key 4 (by omega), key 5 (by omega), key 6 (by omega), key 7 (by omega), key 8 (by omega), key 9 (by omega)⟩, own_tmLies ho⟩
theorem EqOw.eqIn {lo : Nat} {w : World} {a : Option Addr} {n c : Nat} {p : List (Eqv × Value)} (h : EqOw lo w (.slice a n c) p) : EqIn w a (p.map (·.1)) := by
  rcases h.row.2 with ⟨hv, h0⟩ | ⟨g, cap, cur, hv, _, hg, _⟩
  · exact .inl (by rw [List.length_eq_zero_iff.1 h0]; rfl)
  · injection hv with hv1 hv2 hv3
    subst hv1
    refine .inr ⟨g, 0, rfl, (Array.getElem?_eq_some_iff.1 hg).1, fun i x hx => ?_⟩
    rw [List.getElem?_map] at hx
    obtain ⟨q, hq, rfl⟩ := Option.map_eq_some_iff.1 hx
    have hlt := (List.getElem?_eq_some_iff.1 hq).1
    have ho := h.each q (List.mem_of_getElem? hq)
    obtain ⟨va, vc, hva⟩ := own_slice ho
    have hrow := h.row
    rw [hv2] at hrow
    have key : ∀ j, j < 3 → w.cell? ⟨g, 0 + i * 3 + j, none⟩ = (eqCells q.1 q.2).toList[j]? := fun j hj => by
      rw [Nat.zero_add, hrow.cellAt _ (by omega)]
      exact flat_at (fun q : Eqv × Value => (eqCells q.1 q.2).toList) 3 (fun _ => rfl) p i j q hq hj
    have k1 : w.cell? ⟨g, 0 + i * 3 + 1, none⟩ = some q.2 := key 1 (by omega)
    rw [hva] at k1 ho
    exact ⟨va, vc, (key 0 (by omega)).trans rfl, k1, (key 2 (by omega)).trans rfl, own_tmLies ho⟩
theorem UL.unitIn {lo : Nat} {w : World} {vt vd ve vg : Value} {LT LD : List (Itm × Value)} {LE : List (Eqv × Value)} {LG : INm} {u : UVal} (h : UL lo w vt vd ve vg LT LD LE LG) (h1 : LT.map (·.1) = u.text) (h2 : LD.map (·.1) = u.data) (h3 : LE.map (·.1) = u.equs) (h4 : LG = u.globs) : ∃ ta tc da dc ea ec ga gc, #[vt, vd, ve, vg] = unitV ta tc da dc ea ec ga gc u ∧ UnitIn w ta da ea ga u := by
  obtain ⟨ta, tc, rfl⟩ := own_slice h.t.row
  obtain ⟨da, dc, rfl⟩ := own_slice h.d.row
  obtain ⟨ea, ec, rfl⟩ := own_slice h.e.row
  obtain ⟨ga, gc, rfl⟩ := own_slice h.g
  subst h4
  have l1 : LT.length = u.text.length := by rw [← h1, List.length_map]
  have l2 : LD.length = u.data.length := by rw [← h2, List.length_map]
  have l3 : LE.length = u.equs.length := by rw [← h3, List.length_map]
  refine ⟨ta, tc, da, dc, ea, ec, ga, gc, by rw [l1, l2, l3], ?_, ?_, ?_, ?_⟩
  · rw [← h1]; exact h.t.itIn
  · rw [← h2]; exact h.d.itIn
  · rw [← h3]; exact h.e.eqIn
  · exact own_stIn h.g
structure Env (w : World) : Prop where
  tab : Tab w
  pow : Pow w
theorem Env.below {w w' : World} (h : Env w) (hb : Below w.heap.size w w') : Env w' := ⟨h.tab.below hb h.tab.size, h.pow.below hb h.pow.lt⟩
theorem read_bad {w : World} {a : Option Addr} {c : Nat} {zs : List Int} (f1 f2 : Nat) (hE : Env w) (hl : O.Lies w a zs) (ha : ∀ x, a = some x → x.block < w.heap.size) (hn : zs.length ≤ 1048576) (hc : zs.length ≤ c) (hb : rdBad zs = some ((f1 : Int), (f2 : Int))) : Calls Tryz.prog 10 #[.slice a zs.length c] w fun e w' => Below w.heap.size w w' ∧ ∃ q, e = .returned (.tuple #[.agg uZ, .iface 66 (.pointer (some ⟨q, 0, none⟩))]) ∧ w'.heap[q]? = some (.cells #[.int .i64 (f1 : Int), .int .i64 (f2 : Int)] 68 (0, 0)) := by
  refine (read_is hl ha hn hc hE.tab).mono ?_
  rintro e w' ⟨hB, ⟨f, q, h1, h2, h3⟩ | ⟨h1, _⟩⟩
  · rw [hb] at h1
    cases h1
    exact ⟨hB, q, h2, h3⟩
  · rw [hb] at h1
    cases h1
theorem read_ok {w : World} {a : Option Addr} {c : Nat} {zs : List Int} (hE : Env w) (hl : O.Lies w a zs) (ha : ∀ x, a = some x → x.block < w.heap.size) (hn : zs.length ≤ 1048576) (hc : zs.length ≤ c) (hb : rdBad zs = none) : Calls Tryz.prog 10 #[.slice a zs.length c] w fun e w' => Below w.heap.size w w' ∧ ∃ ta tc da dc ea ec ga gc, e = .returned (.tuple #[.agg (unitV ta tc da dc ea ec ga gc (rdU zs)), .nilIface]) ∧ UnitIn w' ta da ea ga (rdU zs) := by
  refine (read_is hl ha hn hc hE.tab).mono ?_
  rintro e w' ⟨hB, ⟨f, q, h1, h2, h3⟩ | ⟨h1, vt, vd, ve, vg, LT, LD, LE, LG, h2, h3, m1, m2, m3, m4⟩⟩
  · rw [hb] at h1
    cases h1
  · obtain ⟨ta, tc, da, dc, ea, ec, ga, gc, hv, hI⟩ := h3.unitIn m1 m2 m3 m4
    exact ⟨hB, ta, tc, da, dc, ea, ec, ga, gc, by rw [h2, hv], hI⟩
def uE : UVal := ⟨[], [], [], []⟩
def z13 : List Int := [83, 80, 65, 78, 1, 0, 0, 0, 0, 0, 0, 0, 0]
theorem sUnit_E : sUnit uE = z13 := by decide +kernel
theorem rightU_E : RightU uE := by
  refine ⟨rfl, rfl, rfl, ?_, ?_, ?_⟩
  · rintro ⟨i, s, h, _⟩
    simp [UVal.names, uE, labN, sortS] at h
  · intro i p g h
    simp [uE] at h
  · intro g h
    simp [uE] at h
theorem rightN_E : RightN uE 0 := .inr ⟨by simp [uE], .inl ⟨rightU_E, rfl⟩⟩
theorem wrN_E : WrN uE 0 := ⟨0, rightN_E, .inr (.inr (.inr ⟨rfl, rfl, by rw [sUnit_E]; decide, rfl⟩))⟩
theorem heldU_E : HeldU uE := ⟨⟨Nat.zero_le _, fun x hx => by cases hx⟩, ⟨Nat.zero_le _, fun x hx => by cases hx⟩, ⟨Nat.zero_le _, fun x hx => by cases hx⟩, Nat.zero_le _⟩
theorem numU_E : NumU uE := ⟨fun x hx => (by cases hx), fun x hx => (by cases hx), fun x hx => (by cases hx)⟩
theorem unitIn_E (w : World) : UnitIn w none none none none uE := ⟨.inl rfl, .inl rfl, .inl rfl, .inl rfl⟩
theorem rdBad_E : rdBad z13 = none := by decide +kernel
theorem rdU_E : rdU z13 = uE := by
  have h1 : (rdT z13).1.length = 0 := by decide +kernel
  have h2 : (rdD z13).1.length = 0 := by decide +kernel
  have h3 : (rdE z13).1.length = 0 := by decide +kernel
  have h4 : (rdG z13).1.length = 0 := by decide +kernel
  unfold rdU uE
  rw [List.length_eq_zero_iff.1 h1, List.length_eq_zero_iff.1 h2, List.length_eq_zero_iff.1 h3, List.length_eq_zero_iff.1 h4]
theorem z13_bytes : O.AreBytes z13 := by unfold z13; intro z hz; simp at hz; omega
theorem got_lies {w : World} {lo : Nat} {a : Option Addr} {c : Nat} {zs : List Int} (h : O.Got w lo a c zs) (hz : O.AreBytes zs) : O.Lies w a zs ∧ (∀ x, a = some x → x.block < w.heap.size) ∧ zs.length ≤ c := by
  refine ⟨O.Got.lies h hz, fun x hx => ?_, O.Got.cap h⟩
  subst hx
  exact (World.ownsRow.lt h x.block rfl).2
theorem write_E (w : World) (hE : Env w) : Calls Tryz.prog 9 #[.agg uZ] w fun e w' => Below w.heap.size w w' ∧ ∃ a c, e = .returned (.tuple #[.slice a 13 c, .int .i64 0]) ∧ O.Got w' w.heap.size a c z13 := by
  refine (write_is none 0 none 0 none 0 none 0 uE heldU_E numU_E w hE.tab (unitIn_E w)).mono ?_
  rintro e w' ⟨hB, n, hn, h⟩
  obtain rfl := wrN_one hn wrN_E
  rcases h with ⟨h, _⟩ | ⟨_, a, c, h1, h2⟩
  · exact absurd rfl h
  · rw [sUnit_E] at h1 h2
    exact ⟨hB, a, c, h1, h2⟩
theorem read_E (w : World) (a : Option Addr) (c : Nat) (hE : Env w) (hl : O.Lies w a z13) (ha : ∀ x, a = some x → x.block < w.heap.size) (hc : 13 ≤ c) : Calls Tryz.prog 10 #[.slice a 13 c] w fun e w' => Below w.heap.size w w' ∧ ∃ ta tc da dc ea ec ga gc, e = .returned (.tuple #[.agg #[.slice ta 0 tc, .slice da 0 dc, .slice ea 0 ec, .slice ga 0 gc], .nilIface]) := by
  refine (read_ok hE hl ha (by decide) hc rdBad_E).mono ?_
  rintro e w' ⟨hB, ta, tc, da, dc, ea, ec, ga, gc, h1, h2⟩
  rw [rdU_E] at h1
  exact ⟨hB, ta, tc, da, dc, ea, ec, ga, gc, h1⟩
end Go.Proofs.YtmndccbeddaphaaGreatDoor
namespace Go.Proofs.YtmndccbeddaphaaGreatDoor
open Go.ChangeShapes Go.WideShapes Go.ChangeAt Go.RowKit Go.Sort
set_option linter.unusedVariables false
set_option linter.unusedSimpArgs false
set_option maxRecDepth 100000
theorem own_sep {w w' : World} {lo : Nat} {T : TypeId} {sz : Nat} {v : Value} {n : Nat} {xs : List Value} {k : Option Nat} (h : w.ownsRow lo T sz v n xs) (hk : ∀ g, v.ownBlock = some g → k ≠ some g) (hg : w.grownBy w' k) : w'.ownsRow lo T sz v n xs := by
  refine ⟨h.1, ?_⟩
  rcases h.2 with hx | ⟨g, cap, cur, k1, k2, k3, k4⟩
  · exact .inl hx
  · exact .inr ⟨g, cap, cur, k1, k2, (hg.block g (blk_lt k3) (fun e => hk g (by rw [k1]; rfl) e.symm)).trans k3, k4⟩
theorem rightN_ex (u : UVal) : ∃ n, RightN u n := by
  by_cases h : 8192 < u.text.length + u.data.length ∨ 8192 < u.equs.length
  · exact ⟨4, .inl ⟨h, rfl⟩⟩
  · by_cases hR : RightU u
    · exact ⟨0, .inr ⟨h, .inl ⟨hR, rfl⟩⟩⟩
    · exact ⟨31, .inr ⟨h, .inr ⟨hR, rfl⟩⟩⟩
section
variable {w w' w2 w3 w4 : World} {r : Nat} {a : Option Addr} {c : Nat} {zs : List Int} {p : Nat} {bad : Rfu} {lo : Nat} {vt vd ve vg v' : Value} {LT LD : List (Itm × Value)} {LE : List (Eqv × Value)} {LG : INm}
theorem UL.box (h : UL lo w vt vd ve vg LT LD LE LG) {b : Nat} {cs : Array Value} {T : TypeId} {m : Nat × Nat} (hb : w.heap[b]? = some (.cells cs T m)) (h1 : 86 ≠ T) (h2 : 90 ≠ T) (h3 : 9 ≠ T) (h4 : 107 ≠ T) (hg : w.grownBy w' (some b)) : UL lo w' vt vd ve vg LT LD LE LG := by
  have hne : ∀ {T' : TypeId} {sz : Nat} {v : Value} {n : Nat} {xs : List Value}, w.ownsRow lo T' sz v n xs → T' ≠ T → w'.ownsRow lo T' sz v n xs := fun ho hT => own_sep ho (fun g hgg e => by cases e; exact blk_other ho hb hT hgg) hg
  exact ⟨⟨hne h.t.row h1, fun q hq => hne (h.t.each q hq) h4⟩, ⟨hne h.d.row h1, fun q hq => hne (h.d.each q hq) h4⟩, ⟨hne h.e.row h2, fun q hq => hne (h.e.each q hq) h4⟩, hne h.g h3, h.td⟩
theorem UL.pushT (h : UL lo w vt vd ve vg LT LD LE LG) {x : Itm} {vx : Value} (hx : w.ownsRow lo 107 2 vx x.e.terms.length (rowT x.e.terms)) (ho : w4.ownsRow lo 86 10 v' (LT.length + 1) (rowI LT ++ (itmCells x vx).toList)) (hg : w.grownBy w4 vt.ownBlock) (hw : v'.ownBlock = vt.ownBlock ∨ v'.ownBlock = some w.heap.size) : UL lo w4 v' vd ve vg (LT ++ [(x, vx)]) LD LE LG := by
  refine ⟨⟨by rw [List.length_append, rowI_push]; exact ho, mem_snoc (fun q hq => own_other (h.t.each q hq) h.t.row (by decide) hg) (own_other hx h.t.row (by decide) hg)⟩, ⟨own_sep h.d.row (fun g hgg e => h.td g e hgg) hg, fun q hq => own_other (h.d.each q hq) h.t.row (by decide) hg⟩, ⟨own_other h.e.row h.t.row (by decide) hg, fun q hq => own_other (h.e.each q hq) h.t.row (by decide) hg⟩, own_other h.g h.t.row (by decide) hg, fun g hgg e => ?_⟩
  rcases hw with hw | hw
  · exact h.td g (by rw [← hw]; exact hgg) e
  · rw [hw] at hgg
    cases hgg
    exact Nat.lt_irrefl _ (h.d.row.lt _ e).2
theorem UL.pushD (h : UL lo w vt vd ve vg LT LD LE LG) {x : Itm} {vx : Value} (hx : w.ownsRow lo 107 2 vx x.e.terms.length (rowT x.e.terms)) (ho : w4.ownsRow lo 86 10 v' (LD.length + 1) (rowI LD ++ (itmCells x vx).toList)) (hg : w.grownBy w4 vd.ownBlock) (hw : v'.ownBlock = vd.ownBlock ∨ v'.ownBlock = some w.heap.size) : UL lo w4 vt v' ve vg LT (LD ++ [(x, vx)]) LE LG := by
  refine ⟨⟨own_sep h.t.row (fun g hgg e => h.td g hgg e) hg, fun q hq => own_other (h.t.each q hq) h.d.row (by decide) hg⟩, ⟨by rw [List.length_append, rowI_push]; exact ho, mem_snoc (fun q hq => own_other (h.d.each q hq) h.d.row (by decide) hg) (own_other hx h.d.row (by decide) hg)⟩, ⟨own_other h.e.row h.d.row (by decide) hg, fun q hq => own_other (h.e.each q hq) h.d.row (by decide) hg⟩, own_other h.g h.d.row (by decide) hg, fun g hgg e => ?_⟩
  rcases hw with hw | hw
  · exact h.td g hgg (by rw [← hw]; exact e)
  · rw [hw] at e
    cases e
    exact Nat.lt_irrefl _ (h.t.row.lt _ hgg).2
theorem UL.pushE (h : UL lo w vt vd ve vg LT LD LE LG) {x : Eqv} {vx : Value} (hx : w.ownsRow lo 107 2 vx x.2.terms.length (rowT x.2.terms)) (ho : w4.ownsRow lo 90 3 v' (LE.length + 1) (rowE LE ++ (eqCells x vx).toList)) (hg : w.grownBy w4 ve.ownBlock) : UL lo w4 vt vd v' vg LT LD (LE ++ [(x, vx)]) LG :=
  ⟨⟨own_other h.t.row h.e.row (by decide) hg, fun q hq => own_other (h.t.each q hq) h.e.row (by decide) hg⟩, ⟨own_other h.d.row h.e.row (by decide) hg, fun q hq => own_other (h.d.each q hq) h.e.row (by decide) hg⟩, ⟨by rw [List.length_append, rowE_push]; exact ho, mem_snoc (fun q hq => own_other (h.e.each q hq) h.e.row (by decide) hg) (own_other hx h.e.row (by decide) hg)⟩, own_other h.g h.e.row (by decide) hg, h.td⟩
theorem UL.pushG (h : UL lo w vt vd ve vg LT LD LE LG) {s : List UInt8} (ho : w4.ownsRow lo 9 1 v' (LG.length + 1) (rowSt LG ++ [.string (str s)])) (hg : w.grownBy w4 vg.ownBlock) : UL lo w4 vt vd ve v' LT LD LE (LG ++ [s]) :=
  ⟨⟨own_other h.t.row h.g (by decide) hg, fun q hq => own_other (h.t.each q hq) h.g (by decide) hg⟩, ⟨own_other h.d.row h.g (by decide) hg, fun q hq => own_other (h.d.each q hq) h.g (by decide) hg⟩, ⟨own_other h.e.row h.g (by decide) hg, fun q hq => own_other (h.e.each q hq) h.g (by decide) hg⟩, by rw [List.length_append, rowSt, List.map_append]; exact ho, h.td⟩
abbrev uOf (LT LD : List (Itm × Value)) (LE : List (Eqv × Value)) (LG : INm) : UVal := ⟨LT.map (·.1), LD.map (·.1), LE.map (·.1), LG⟩
set_option maxHeartbeats 4000000 in
theorem growD_any (h : RD w r a c zs p bad) (x : Int) (hU : UL lo w vt vd ve vg LT LD LE LG) (hh : bad = none → HeldU (uOf LT LD LE LG)) :
    Calls Tryz.prog 46 #[.pointer (some ⟨r, 0, none⟩), .int .i64 x, .agg #[vt, vd, ve, vg]] w fun e w' => e = .returned (.tuple #[]) ∧ w.grownBy w' (some r) ∧ ∀ n, RightN (uOf LT LD LE LG) n → RD w' r a c zs p (gdB bad x n) := by
  obtain ⟨ta, tc, da, dc, ea, ec, ga, gc, hv, hI⟩ := hU.unitIn (u := uOf LT LD LE LG) rfl rfl rfl rfl
  rw [hv]
  cases hb : bad with
  | none =>
    rw [hb] at h
    exact growD_is h x ta tc da dc ea ec ga gc _ (hh hb) hI
  | some f =>
    rw [hb] at h
    have hB := below_alloc w (.cells (unitV ta tc da dc ea ec ga gc (uOf LT LD LE LG)) 30)
    have hx := heap_alloc_new w (.cells (unitV ta tc da dc ea ec ga gc (uOf LT LD LE LG)) 30)
    have h1 := h.below hB
    have hg1 := grown_of_below hB
    obtain ⟨c0, c1, c2, c3⟩ := four_readD h1.blk
    have hnz := h1.nz f rfl
    simp only [bdA, bdW, Option.getD_some] at c2 c3
    obtain ⟨f1, f2⟩ := f
    dsimp only at c2 c3 hnz
    have hd2 : (f2 == 0) = false := by simpa using hnz
    have hfin : Hid (w.grownBy (w.alloc (.cells (unitV ta tc da dc ea ec ga gc (uOf LT LD LE LG)) 30)) (some r) ∧ ∀ n, RightN (uOf LT LD LE LG) n → RD (w.alloc (.cells (unitV ta tc da dc ea ec ga gc (uOf LT LD LE LG)) 30)) r a c zs p (gdB (some (f1, f2)) x n)) := ⟨⟨hg1.os, hg1.tape, hg1.output, hg1.size, fun k hk _ => hg1.block k hk (by simp)⟩, fun n _ => h1⟩
    clear hb h h1 hI hB hg1 hx hv hh hU
    go_enter Tryz.func46, Tryz.ntmps46
    go_wp2
    all_goals first | omega | skip
    go_end0
    exact ⟨rfl, hfin.out⟩
theorem itR_held (hz : O.AreBytes zs) (h : (itR zs p none).2.2 = none) : HeldI (itR zs p none).1 ∧ Fine (itR zs p none).1 := by
  have hF := (item_bwd hz h).2.2.2
  have ht : ∀ q, (txL zs q).length ≤ 65535 := fun q => by
    have := txL_le hz q
    rw [ByteArray.size, ← Array.length_toList] at this
    exact this
  refine ⟨⟨?_, hF.m, hF.n, by have := hF.few; omega, ?_⟩, hF⟩
  · clear h hF
    unfold itR
    repeat' split
    all_goals first | (dsimp only; exact Nat.le_trans (ht _) (by decide)) | (dsimp only; exact Nat.zero_le _)
  · clear h hF
    unfold itR
    repeat' split
    all_goals dsimp only
    all_goals first | (intro t ht2; exact absurd ht2 (by simp [linE])) | (intro t ht2; exact Nat.le_trans ((liL_le hz _ _).2 t ht2) (by decide)) | (intro t ht2; exact Nat.le_trans ((cdL_le hz _ _).2 t ht2) (by decide))
end
end Go.Proofs.YtmndccbeddaphaaGreatDoor
