/- The document's Lines. -/
import Derived.Test.YtdmhdhmclcogoaaLinesM
import Derived.Test.YtdmhdhmclcogoaaArgs
namespace Go.Proofs.Ytdmhdhmclcogoaa
open Go.ChangeShapes Go.WideShapes Go.ChangeAt Go.RowKit
set_option linter.unusedVariables false
set_option maxRecDepth 100000

theorem Try.info9 : (Try.prog.info? 9).map (fun i => (i.zero, i.size, i.bytes)) = some (some (.string ⟨#[]⟩), 1, 16) := by kernel_rfl

def strRow (ls : List (List UInt8)) : List Value := ls.map fun x => .string (str x)

theorem atI_ten (r : List UInt8) (i : Nat) (hi : i < r.length) : r[i]? = some 10 ↔ atI r i = 10 := by
  unfold atI
  rw [List.getD_eq_getElem?_getD, List.getElem?_eq_getElem hi]
  simp only [Option.getD_some, Option.some.injEq]
  constructor
  · intro e; rw [e]; rfl
  · intro e
    have : r[i].toNat = (10 : UInt8).toNat := by have h2 : (10 : UInt8).toNat = 10 := rfl; omega
    exact UInt8.toNat_inj.1 this

structure LSt (s : ByteArray) (w0 : World) (from_ i : Nat) (acc : List (List UInt8)) (v : Value) (w : World) : Prop where
  le1 : from_ ≤ i
  le2 : i ≤ s.size
  few : acc.length ≤ from_
  no : ∀ j, from_ ≤ j → j < i → (bs s)[j]? ≠ some 10
  eq : linesOf (bs s) = acc ++ linesOf ((bs s).drop from_)
  own : w.ownsRow w0.heap.size 9 1 v acc.length (strRow acc)
  bel : Below w0.heap.size w0 w

theorem lst_line {s : ByteArray} {w0 : World} {from_ i : Nat} {acc : List (List UInt8)} {v : Value} {w : World} (h : LSt s w0 from_ i acc v w) (hi : i < s.size) (h10 : (bs s)[i]? = some 10) (w3 : World) (v2 : Value) (o : Obj) (hg : (w.alloc o).grownBy w3 v.ownBlock)
    (ho : w3.ownsRow w0.heap.size 9 1 v2 (acc.length + 1) (strRow acc ++ [.string (str (((bs s).drop from_).take (i - from_)))])) : LSt s w0 (i + 1) (i + 1) (acc ++ [((bs s).drop from_).take (i - from_)]) v2 w3 := by
  have hl : i < (bs s).length := by rw [bs_length]; exact hi
  have h1 := h.le1
  have hf := h.few
  have hsz := h.bel.size
  have hn : nlLen ((bs s).drop from_) = i - from_ := nlLen_at _ _ (fun j hj => by rw [List.getElem?_drop]; exact h.no _ (by omega) (by omega)) (by rw [List.getElem?_drop, show from_ + (i - from_) = i by omega]; exact h10)
  refine ⟨Nat.le_refl _, by omega, by simp; omega, fun j h1 h2 => by omega, ?_, by simpa [strRow] using ho, ?_⟩
  · rw [h.eq, linesOf_more _ (by intro e; have := congrArg List.length e; simp at this; omega), hn, List.drop_drop]
    rw [show from_ + (i - from_ + 1) = i + 1 by omega]
    simp
  · exact (h.bel.alloc (by omega) o).grown hg (by simp; omega) (fun k hk => (h.own.lt k hk).1)

theorem lst_next {s : ByteArray} {w0 : World} {from_ i : Nat} {acc : List (List UInt8)} {v : Value} {w : World} (h : LSt s w0 from_ i acc v w) (hi : i < s.size) (h10 : (bs s)[i]? ≠ some 10) : LSt s w0 from_ (i + 1) acc v w :=
  ⟨by have := h.le1; omega, by omega, h.few, fun j h1 h2 => by
    by_cases e : j = i
    · subst e; exact h10
    · exact h.no j h1 (by omega), h.eq, h.own, h.bel⟩

theorem lst_end {s : ByteArray} {w0 : World} {from_ : Nat} {acc : List (List UInt8)} {v : Value} {w : World} (h : LSt s w0 from_ s.size acc v w) (hi : from_ < s.size) : linesOf (bs s) = acc ++ [(bs s).drop from_] := by
  have hl : from_ < (bs s).length := by rw [bs_length]; exact hi
  have hn : nlLen ((bs s).drop from_) = ((bs s).drop from_).length := nlLen_end _ (fun j hj => by
    rw [List.getElem?_drop]
    rw [List.length_drop, bs_length] at hj
    exact h.no _ (by omega) (by omega))
  have key : ∀ d : List UInt8, d ≠ [] → nlLen d = d.length → linesOf d = [d] := fun d h1 h2 => by
    rw [linesOf_more d h1, h2, List.take_length, List.drop_eq_nil_of_le (by omega), linesOf_nil]
  rw [h.eq, key _ (by intro e; have := congrArg List.length e; simp at this; omega) hn]

set_option maxHeartbeats 1000000 in
theorem refLines_any (s : ByteArray) (hs : s.size ≤ 1100000) (w : World) :
    Calls Try.prog 14 #[.string s] w fun e w' => Below w.heap.size w w' ∧ ∃ v, e = .returned v ∧ w'.ownsRow w.heap.size 9 1 v (linesOf (bs s)).length (strRow (linesOf (bs s))) := by
  have hstart : Hid (LSt s w 0 0 [] (.slice none 0 0) w) := ⟨by omega, by omega, by simp, fun j h1 h2 => by omega, by simp, World.ownsRow_nil _ _ _ _, Below.refl _ _⟩
  obtain ⟨i0, hi, hz0, hz1, hz2⟩ := info_parts Try.info9
  go_enter Try.func14, Try.ntmps14
  go_wp2
  go_loopw [3, 4, 5] (fun v3 vf vi wr => ∃ (from_ i : Nat) (acc : List (List UInt8)), vf = .int .i64 (from_ : Int) ∧ vi = .int .i64 (i : Int) ∧ Hid (LSt s w from_ i acc v3 wr)) (fun _ _ vi _ => s.size - (intOf vi).toNat)
  case atStart => exact ⟨0, 0, [], rfl, rfl, hstart⟩
  case round =>
    clear hstart
    obtain ⟨from_, i, acc, rfl, rfl, hS⟩ := hrel
    obtain ⟨a2, c2, rfl⟩ := own_slice hS.out.own
    have hle1 := hS.out.le1
    have hle2 := hS.out.le2
    have hfew := hS.out.few
    have hownH := Hid.intro hS.out.own
    have hbz := hS.out.bel.size
    by_cases hlt : i < s.size
    · have hlti : (i : Int) < (s.size : Int) := by omega
      have hgj := atI_get s i hlt
      obtain ⟨c, hc⟩ : ∃ c, c = atI (bs s) i := ⟨_, rfl⟩
      rw [← hc] at hgj
      have hll : i < (bs s).length := by rw [bs_length]; exact hlt
      by_cases h10 : c = 10
      · have hg10 : Hid ((bs s)[i]? = some 10) := by
          show _ = _
          exact (atI_ten _ _ hll).2 (by rw [← hc]; exact h10)
        have hc10 : (c == 10) = true := by simp [h10]
        have hn := Hid.intro (fun (w3 : World) (v2 : Value) (o : Obj) => lst_line hS.out hlt hg10.out w3 v2 o)
        obtain ⟨T, hT⟩ : ∃ T, T = ((bs s).drop from_).take (i - from_) := ⟨_, rfl⟩
        rw [← hT] at hn
        have hsl : ∀ W : World, (Instr.slice 9 (.string s) (some (.int .i64 (from_ : Int))) (some (.int .i64 (i : Int))) none).run Try.prog W = .ok (.string (str T)) W := fun W => by
          rw [run_slice_string W 9 s .i64 .i64 from_ i Try.underlying9 (by omega) (by omega) (by omega), Lib.extract_eq, hT]
          simp [str, bs]
        clear hT hc h10
        go_wp2_with (at_builtin; go_must (refine wpList_append_own _ rfl (.tmp 16) (.tmp 21) 22 rfl w.heap.size 9 i0 (.string ⟨#[]⟩) 1 16 Try.underlying22 hi hz0 hz1 hz2 rfl (by decide) (.slice a2 acc.length c2) acc.length (strRow acc) rfl (hownH.out.alloc _) ⟨wr.heap.size, 0, none⟩ 1 1 [.string (str T)] rfl rfl (cells_new _ _ _) (by simp [Value.oneCell']) (by unfold maxLen; omega) (by omega) (by simp; omega) ?_; intro v2 w3 hown3 hgrow3 _))
        all_goals first | omega | skip
        go_roundw
        case rel => exact ⟨i + 1, i + 1, _, by go_num, by go_num, Hid.intro (hn.out w3 v2 _ hgrow3 hown3)⟩
        case measure => simp [intOf]; omega
      · have hg10 : Hid ((bs s)[i]? ≠ some 10) := by
          show _ ≠ _
          exact fun e => h10 (by rw [hc]; exact (atI_ten _ _ hll).1 e)
        have hc10 : (c == 10) = false := by simp [h10]
        have hn := Hid.intro (lst_next hS.out hlt hg10.out)
        clear hc h10
        go_wp2
        all_goals first | omega | skip
        go_roundw
        case rel => exact ⟨from_, i + 1, acc, rfl, by go_num, hn⟩
        case measure => simp [intOf]; omega
    · have hin : i = s.size := by omega
      have hS' : Hid (LSt s w from_ s.size acc (.slice a2 acc.length c2) wr) := by rw [← hin]; exact hS
      clear hS hin
      by_cases hfl : from_ < s.size
      · have hn := Hid.intro (lst_end hS'.out hfl)
        obtain ⟨T, hT⟩ : ∃ T, T = (bs s).drop from_ := ⟨_, rfl⟩
        rw [← hT] at hn
        have hsl : ∀ W : World, (Instr.slice 9 (.string s) (some (.int .i64 (from_ : Int))) none none).run Try.prog W = .ok (.string (str T)) W := fun W => by
          rw [run_slice_string_l W 9 s Try.underlying9 .i64 (from_ : Int) (by omega) (by omega), Lib.extract_eq, List.take_of_length_le (by rw [List.length_drop, ← Lib.size_eq]; omega), hT]
          simp [str, bs]
        clear hT
        go_wp2_with (at_builtin; go_must (refine wpList_append_own _ rfl (.tmp 29) (.tmp 33) 22 rfl w.heap.size 9 i0 (.string ⟨#[]⟩) 1 16 Try.underlying22 hi hz0 hz1 hz2 rfl (by decide) (.slice a2 acc.length c2) acc.length (strRow acc) rfl (hownH.out.alloc _) ⟨wr.heap.size, 0, none⟩ 1 1 [.string (str T)] rfl rfl (cells_new _ _ _) (by simp [Value.oneCell']) (by unfold maxLen; omega) (by omega) (by simp; omega) ?_; intro v2 w3 hown3 hgrow3 _))
        all_goals first | omega | skip
        go_ret
        rw [hn.out]
        exact ⟨(hS'.out.bel.alloc (by omega) _).grown hgrow3 (by simp; omega) (fun k hk => (hownH.out.lt k hk).1), _, rfl, by simpa [strRow] using hown3⟩
      · have he : Hid (linesOf (bs s) = acc) := by
          show _ = _
          rw [hS'.out.eq, List.drop_eq_nil_of_le (by rw [bs_length]; omega), linesOf_nil, List.append_nil]
        go_wp2
        all_goals first | omega | skip
        go_ret
        rw [he.out]
        exact ⟨hS'.out.bel, _, rfl, hownH.out⟩
end Go.Proofs.Ytdmhdhmclcogoaa
