/- unit's take, up to what the line says. -/
import Derived.Test.YtogkchgjpflmjaaGreatDoorLParse
import Derived.Test.YtogkchgjpflmjaaGreatDoorNum
import Derived.Test.YtogkchgjpflmjaaGreatDoorTRoom
import Derived.Test.YtogkchgjpflmjaaGreatDoorIt7
import Derived.Test.YtogkchgjpflmjaaGreatDoorNames
import Derived.Test.YtogkchgjpflmjaaGreatDoorNote
import Derived.Test.YtogkchgjpflmjaaGreatDoorDi6
import Derived.Test.YtogkchgjpflmjaaGreatDoorLArgs
import Derived.Deep.RegionHeld3
/- Chapter 3's known runs. -/
namespace Go.Proofs.YtogkchgjpflmjaaGreatDoor
open Go.ChangeShapes Go.WideShapes Go.ChangeAt Go.RowKit
set_option linter.unusedVariables false
set_option maxRecDepth 100000
theorem parse_err (s : ByteArray) (hs : s.size ≤ 1100000) (p : Nat) (h : parseL (bs s) = .error p) (w : World) :
    Calls Tryz.prog 67 #[.string s] w fun e w' => Below w.heap.size w w' ∧ e = .returned (.tuple #[lineZ, .int .i64 (p : Int), .int .i64 20]) := by
  have := lineParse_any s hs w
  rw [h] at this
  exact this
theorem parse_line (s : ByteArray) (hs : s.size ≤ 1100000) (L : Ln) (h : parseL (bs s) = .ok L) (w : World) :
    Calls Tryz.prog 67 #[.string s] w fun e w' => Below w.heap.size w w' ∧ ∃ a c vs m, e = .returned (.tuple #[.agg #[.string (str L.label), .string (str L.op), .slice a L.args.length c], .int .i64 0, .int .i64 0]) ∧ ArgsOwn 182 188 w.heap.size w' (.slice a L.args.length c) L.args vs m := by
  have := lineParse_any s hs w
  rw [h] at this
  refine this.mono ?_
  rintro e w' ⟨hb, va, vs, m, rfl, hA⟩
  obtain ⟨a, c, rfl⟩ := lown_slice hA.row
  rw [hA.len] at hA ⊢
  exact ⟨hb, a, c, vs, m, rfl, hA⟩
end Go.Proofs.YtogkchgjpflmjaaGreatDoor
/- A refusal's place lies in the line. -/
namespace Go.Proofs.YtogkchgjpflmjaaGreatDoor
set_option linter.unusedVariables false
theorem cutT_mem (ts : List Tok) : ∀ t ∈ (cutT ts).2, t ∈ ts := by
  match ts with
  | [] => intro t ht; exact ht
  | [x] => intro t ht; exact ht
  | x :: u :: r =>
    intro t ht
    simp only [cutT] at ht
    split at ht
    · simp at ht; simp [ht]
    · exact ht
theorem argsF_few (n : Nat) (ts arg : List Tok) (acc out : List (List Tok)) (h : argsF n ts arg acc = .ok out) : out.length ≤ acc.length + ts.length + 1 ∧ ∀ xs ∈ out, xs ∈ acc ∨ xs.length ≤ arg.length + ts.length := by
  induction ts generalizing arg acc with
  | nil =>
    unfold argsF at h
    split at h
    · cases h
    · cases h
      refine ⟨by simp, fun xs hx => ?_⟩
      rcases List.mem_append.1 hx with hx | hx
      · exact .inl hx
      · simp at hx; subst hx; exact .inr (by simp)
  | cons t ts ih =>
    unfold argsF at h
    split at h
    · cases h
    · split at h
      · split at h
        · cases h
        · obtain ⟨h1, h2⟩ := ih _ _ h
          refine ⟨by simp at h1 ⊢; omega, fun xs hx => ?_⟩
          rcases h2 xs hx with k | k
          · rcases List.mem_append.1 k with k | k
            · exact .inl k
            · simp at k; subst k; exact .inr (by simp)
          · exact .inr (by simp at k ⊢; omega)
      · obtain ⟨h1, h2⟩ := ih _ _ h
        refine ⟨by simp at h1 ⊢; omega, fun xs hx => ?_⟩
        rcases h2 xs hx with k | k
        · exact .inl k
        · exact .inr (by simp at k ⊢; omega)
theorem cutT_len (ts : List Tok) : (cutT ts).2.length ≤ ts.length := by
  match ts with
  | [] => simp [cutT]
  | [t] => simp [cutT]
  | t :: u :: r =>
    simp only [cutT]
    split
    · simp; omega
    · simp
theorem parseL_few (s : List UInt8) (L : Ln) (h : parseL s = .ok L) : L.args.length ≤ s.length + 1 ∧ ∀ xs ∈ L.args, xs.length ≤ s.length := by
  unfold parseL at h
  cases hs : scan s 0 with
  | error q => rw [hs] at h; cases h
  | ok ts =>
    rw [hs] at h
    have hl := scan_len _ _ _ hs
    have hc := cutT_len ts
    unfold parseT lineT at h
    simp only at h
    split at h
    · cases h
      exact ⟨by simp, fun xs hx => by cases hx⟩
    · rename_i t r heq
      rw [heq] at hc
      simp at hc
      split at h
      · split at h
        · rename_i out hq
          cases h
          unfold argsT at hq
          split at hq
          · cases hq
            exact ⟨by simp, fun xs hx => by cases hx⟩
          · obtain ⟨h1, h2⟩ := argsF_few _ _ _ _ _ hq
            refine ⟨by simp at h1 ⊢; omega, fun xs hx => ?_⟩
            rcases h2 xs hx with k | k
            · cases k
            · simp at k; omega
        · cases h
      · cases h
theorem argsF_mem (n : Nat) (P : Tok → Prop) (ts arg : List Tok) (acc out : List (List Tok)) (h : argsF n ts arg acc = .ok out) (h1 : ∀ t ∈ ts, P t) (h2 : ∀ t ∈ arg, P t) (h3 : ∀ xs ∈ acc, ∀ t ∈ xs, P t) : ∀ xs ∈ out, ∀ t ∈ xs, P t := by
  induction ts generalizing arg acc with
  | nil =>
    unfold argsF at h
    split at h
    · cases h
    · cases h
      intro xs hx
      rcases List.mem_append.1 hx with hx | hx
      · exact h3 xs hx
      · simp at hx; subst hx; exact h2
  | cons t ts ih =>
    unfold argsF at h
    have h1' : ∀ x ∈ ts, P x := fun x hx => h1 x (by simp [hx])
    split at h
    · cases h
    · split at h
      · split at h
        · cases h
        · refine ih _ _ h h1' (fun x hx => by cases hx) (fun xs hx => ?_)
          rcases List.mem_append.1 hx with hx | hx
          · exact h3 xs hx
          · simp at hx; subst hx; exact h2
      · refine ih _ _ h h1' (fun x hx => ?_) h3
        rcases List.mem_append.1 hx with hx | hx
        · exact h2 x hx
        · simp at hx; subst hx; exact h1 x (by simp)
end Go.Proofs.YtogkchgjpflmjaaGreatDoor
/- A line's arguments in memory, as item.Read wants them. -/
namespace Go.Proofs.YtogkchgjpflmjaaGreatDoor
open Go.ChangeShapes Go.WideShapes Go.ChangeAt Go.RowKit
set_option linter.unusedVariables false
set_option maxRecDepth 100000
structure SmallP (xs : List Tok) : Prop where
  few : xs.length ≤ 1000000
  short : ∀ t ∈ xs, t.text.length ≤ 1000000
  any : xs ≠ []
theorem tokLies_fr {w : World} {a : Option Addr} {ts : List Tok} (h : TokLies w a ts) : TokFrom w a ts := by
  rcases h with h | ⟨g, ha, hg, hl⟩
  · exact .inl h
  · refine .inr ⟨g, 0, ha, hg, fun i t hi => ?_⟩
    obtain ⟨h0, h1, h2, h3⟩ := hl i t hi
    rw [Nat.zero_add]
    exact ⟨h0, h1, h2, h3⟩
theorem args_in9 {lo : Nat} {w : World} {a : Option Addr} {n c : Nat} {acc : List (List Tok)} {vs : List Value} {m : Nat} (h : ArgsOwn 182 188 lo w (.slice a n c) acc vs m) (hS : ∀ xs ∈ acc, SmallP xs) : ArgsIn w.heap.size w a acc := by
  refine ⟨?_, Nat.le_refl _⟩
  cases acc with
  | nil => exact .inl rfl
  | cons x0 acc =>
    have hl := h.len
    have hrow := h.row
    obtain ⟨hl', ⟨hv, h0⟩ | ⟨g, cap, cur, hv, hbg, hg, hle, hcap, hsz, htk⟩⟩ := h.row
    · rw [hl] at h0; simp at h0
    · injection hv with hv1 hv2 hv3
      subst hv1
      refine .inr ⟨g, rfl, (Array.getElem?_eq_some_iff.1 hg).1, fun i xs hi => ?_⟩
      have hi' : i < vs.length := by rw [hl]; exact (List.getElem?_eq_some_iff.1 hi).1
      obtain ⟨v, hv⟩ : ∃ v, vs[i]? = some v := ⟨vs[i], List.getElem?_eq_getElem hi'⟩
      obtain ⟨hx0, ho⟩ := h.each i v xs hv hi
      rw [hv2] at hrow
      have hcell := hrow.cellAt i (by omega)
      rw [hv] at hcell
      have hsm := hS xs (List.mem_of_getElem? hi)
      have hfw := hsm.few
      obtain ⟨a', c', rfl, hl2⟩ := own_lies ho
      rcases ho.2 with ⟨hvv, hh0⟩ | ⟨g', cap', cur', hvv, hB, hgh, hle', hcap', _⟩
      · exact absurd hh0 hx0
      · injection hvv with e1 e2 e3
        subst e1 e3
        have hgl := (Array.getElem?_eq_some_iff.1 hgh).1
        exact ⟨_, _, hcell, ⟨tokLies_fr hl2, fun y hy => by cases hy; exact hgl, hle', by unfold maxLen at hcap'; omega, by omega, hsm.short⟩, fun y hy => by cases hy; exact hgl⟩
theorem argsF_ne (n : Nat) (ts arg : List Tok) (acc out : List (List Tok)) (h : argsF n ts arg acc = .ok out) (h3 : ∀ xs ∈ acc, xs ≠ []) : ∀ xs ∈ out, xs ≠ [] := by
  induction ts generalizing arg acc with
  | nil =>
    unfold argsF at h
    split at h
    · cases h
    · rename_i h0
      cases h
      intro xs hx
      rcases List.mem_append.1 hx with hx | hx
      · exact h3 xs hx
      · simp at hx; subst hx; intro e; subst e; exact h0 rfl
  | cons t ts ih =>
    unfold argsF at h
    split at h
    · cases h
    · split at h
      · split at h
        · cases h
        · rename_i h0
          refine ih _ _ h (fun xs hx => ?_)
          rcases List.mem_append.1 hx with hx | hx
          · exact h3 xs hx
          · simp at hx; subst hx; intro e; subst e; exact h0 rfl
      · exact ih _ _ h h3
theorem parseL_every (P : Tok → Prop) (s : List UInt8) (L : Ln) (h : parseL s = .ok L) (hP : ∀ ts, scan s 0 = .ok ts → ∀ t ∈ ts, P t) : ∀ xs ∈ L.args, xs ≠ [] ∧ ∀ t ∈ xs, P t := by
  unfold parseL at h
  cases hs : scan s 0 with
  | error q => rw [hs] at h; cases h
  | ok ts =>
    rw [hs] at h
    have hp := hP ts hs
    have hm := cutT_mem ts
    unfold parseT lineT at h
    simp only at h
    split at h
    · cases h
      intro xs hx
      cases hx
    · rename_i t r heq
      rw [heq] at hm
      split at h
      · split at h
        · rename_i out hq
          cases h
          unfold argsT at hq
          split at hq
          · cases hq
            intro xs hx
            cases hx
          · have h1 := argsF_mem _ P _ _ _ _ hq (fun x hx => hp x (hm x (by simp [hx]))) (fun x hx => by cases hx) (fun x hx => by cases hx)
            have h2 := argsF_ne _ _ _ _ _ hq (fun x hx => by cases hx)
            exact fun xs hx => ⟨h2 xs hx, h1 xs hx⟩
        · cases h
      · cases h
theorem parseL_smallP {s : List UInt8} (hs : s.length ≤ 65536) {L : Ln} (h : parseL s = .ok L) : L.args.length ≤ 65537 ∧ (∀ xs ∈ L.args, SmallP xs) ∧ (∀ xs ∈ L.args, xs.length ≤ 1100000) := by
  obtain ⟨h1, h2⟩ := parseL_few s L h
  refine ⟨by omega, fun xs hx => ?_, fun xs hx => by have := h2 xs hx; omega⟩
  obtain ⟨h3, h4⟩ := parseL_every (fun t => t.text.length ≤ s.length) s L h (fun ts hts t ht => scan_text s 0 ts hts t ht) xs hx
  exact ⟨by have := h2 xs hx; omega, fun t ht => by have := h4 t ht; omega, h3⟩
end Go.Proofs.YtogkchgjpflmjaaGreatDoor
namespace Go.Proofs.YtogkchgjpflmjaaGreatDoor
open Go.ChangeShapes Go.WideShapes Go.ChangeAt Go.RowKit
set_option linter.unusedVariables false
set_option maxRecDepth 100000
theorem parseL_label {s : List UInt8} {L : Ln} (h : parseL s = .ok L) : L.label.length ≤ s.length := by
  unfold parseL at h
  cases hs : scan s 0 with
  | error q => rw [hs] at h; cases h
  | ok ts =>
    rw [hs] at h
    have hc : (cutT ts).1.length ≤ s.length := by
      match ts, hs with
      | [], _ => simp [cutT]
      | [t], _ => simp [cutT]
      | t :: u :: r, hs =>
        simp only [cutT]
        split
        · exact scan_text s 0 _ hs t (by simp)
        · simp
    unfold parseT lineT at h
    simp only at h
    split at h
    · cases h; exact hc
    · split at h
      · split at h
        · cases h; exact hc
        · cases h
      · cases h
theorem bs_str (l : List UInt8) : bs (str l) = l := by simp [bs, str]
set_option maxHeartbeats 4000000 in
theorem take_bad (b : Nat) (n : Int) (s : List UInt8) (hs : s.length ≤ 65536) (p : Nat) (h : parseL s = .error p) (w : World) :
    Calls Tryz.prog 35 #[.pointer (some ⟨b, 0, none⟩), .int .i64 n, .string (str s)] w fun e w' => e = .returned (.iface 36 (.int .i64 20)) ∧ Below w.heap.size w w' := by
  have hp := Hid.intro (parse_err (str s) (by rw [show (str s).size = s.length from rfl]; omega) p (by rw [bs_str]; exact h) w)
  go_enter Tryz.func35, Tryz.ntmps35
  go_wp2_with (go_at_call 67; (with_reducible refine (hp.out).mono ?_); rintro e w1 ⟨hb1, rfl⟩)
  all_goals first | omega | skip
  go_ret
  exact ⟨rfl, hb1.alloc hb1.size _⟩
structure TkS (lo : Nat) (w : World) (b m N : Nat) (A : Asm) (pt pd : List (Itm × Value)) (pe : List ((List UInt8 × Lin) × Value)) (tv dv ev av : Value) (L : Ln) (a : Option Addr) (c g : Nat) (W : World) : Prop where
  bel : Below w.heap.size w W
  asm : AsmAt lo W b m N A pt pd pe tv dv ev av
  line : W.heap[g]? = some (.cells #[.string (str L.label), .string (str L.op), .slice a L.args.length c] 133 (0, 0))
  args : ArgsIn g W a L.args
  tab : Tab W
variable {lo b m N : Nat} {w : World} {A : Asm} {pt pd : List (Itm × Value)} {pe : List ((List UInt8 × Lin) × Value)} {tv dv ev av : Value} {L : Ln} {a : Option Addr} {c g : Nat} {W W' : World}
theorem TkS.below (h : TkS lo w b m N A pt pd pe tv dv ev av L a c g W) (hb : Below W.heap.size W W') : TkS lo w b m N A pt pd pe tv dv ev av L a c g W' := by
  have hg := blk_lt h.line
  have hts := h.tab.size
  exact ⟨h.bel.trans (hb.mono h.bel.size), h.asm.below hb, by rw [hb.block g hg]; exact h.line, h.args.below (hb.mono (by omega)), h.tab.below (hb.mono (by omega)) h.tab.size⟩
theorem TkS.cells (h : TkS lo w b m N A pt pd pe tv dv ev av L a c g W) : W.cell? ⟨g, 0, none⟩ = some (.string (str L.label)) ∧ W.cell? ⟨g, 1, none⟩ = some (.string (str L.op)) ∧ W.cell? ⟨g, 2, none⟩ = some (.slice a L.args.length c) ∧ W.cell? ⟨b, 4, none⟩ = some (.int .i64 A.sec) :=
  ⟨(cell_blockT h.line 0).trans rfl, (cell_blockT h.line 1).trans rfl, (cell_blockT h.line 2).trans rfl, (h.asm.cell 4).trans rfl⟩
theorem tks_new (h : AsmAt lo w b m N A pt pd pe tv dv ev av) (hT : Tab w) {w1 : World} (hb : Below w.heap.size w w1) {vs : List Value} {k : Nat} (hA : ArgsOwn 182 188 w.heap.size w1 (.slice a L.args.length c) L.args vs k) (hS : ∀ xs ∈ L.args, SmallP xs) :
    TkS lo w b m N A pt pd pe tv dv ev av L a c w1.heap.size (w1.alloc (.cells #[.string (str L.label), .string (str L.op), .slice a L.args.length c] 133)) := by
  have hb2 := below_alloc w1 (.cells #[.string (str L.label), .string (str L.op), .slice a L.args.length c] 133)
  have h1 := hb.size
  have h2 := hT.size
  exact ⟨hb.trans (hb2.mono h1), (h.below hb).below hb2, heap_alloc_new w1 _, (args_in9 hA hS).below hb2, (hT.below (hb.mono (by omega)) hT.size).below (hb2.mono (by omega)) (by omega)⟩
set_option maxHeartbeats 4000000 in
theorem take_illegal (h : AsmAt lo w b m N A pt pd pe tv dv ev av) (n : Int) (s : List UInt8) (hs : s.length ≤ 65536) (hL : parseL s = .ok L) (h0 : L.label ≠ []) (hl : legB (str L.label) = false) :
    Calls Tryz.prog 35 #[.pointer (some ⟨b, 0, none⟩), .int .i64 n, .string (str s)] w fun e w' => e = .returned (.iface 36 (.int .i64 21)) ∧ Below w.heap.size w w' := by
  have hp := Hid.intro (parse_line (str s) (by rw [show (str s).size = s.length from rfl]; omega) L (by rw [bs_str]; exact hL) w)
  have hll := parseL_label hL
  have hleg := Hid.intro (fun w1 => legal_any (str L.label) (by rw [show (str L.label).size = L.label.length from rfl]; omega) w1)
  rw [hl] at hleg
  have e1 := str_toList L.label
  have e2 : L.label.isEmpty = false := by simp [h0]
  clear h hL
  go_enter Tryz.func35, Tryz.ntmps35
  go_wp2_with (first | (go_at_call 67; (with_reducible refine (hp.out).mono ?_); rintro e w1 ⟨hb1, a, c, vs, k, rfl, hA⟩) | (go_at_call 68; (with_reducible refine (hleg.out _).mono ?_); rintro e w2 ⟨rfl, hb2⟩))
  all_goals first | omega | skip
  go_ret
  exact ⟨rfl, (hb1.alloc hb1.size _).trans (hb2.mono (by have := hb1.size; simp; omega))⟩
end Go.Proofs.YtogkchgjpflmjaaGreatDoor
