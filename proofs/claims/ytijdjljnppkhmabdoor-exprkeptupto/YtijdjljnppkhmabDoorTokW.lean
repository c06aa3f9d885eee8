/- The law's tokens: those of the document, and the same for the program. -/
import Derived.Test.YtijdjljnppkhmabDoorRefTok
import Derived.Test.YtijdjljnppkhmabDoorParse
import Derived.Deep.AppendLies
import Derived.BigRegion
namespace Go.Proofs.YtijdjljnppkhmabDoor
open Go.ChangeShapes Go.WideShapes Go.ChangeAt Go.RowKit
set_option linter.unusedVariables false
set_option maxRecDepth 100000

/-- what the law's tokens answers -/
def LOut (w : World) (R : Except Nat (List Tok)) (e : Ending) (w' : World) : Prop :=
  Below w.heap.size w w' ∧ match R with
  | .ok ts => ∃ v v2, e = .returned (.tuple #[v, v2, .bool true]) ∧ w'.ownsRow w.heap.size 60 4 v ts.length (rowOf ts) ∧ w'.ownsRow w.heap.size 59 4 v2 ts.length (rowOf ts)
  | .error p => e = .returned (.tuple #[.slice none 0 0, .slice none 0 0, .bool false])

theorem own_below {w w' : World} {lo : Nat} {T : TypeId} {sz : Nat} {v : Value} {n : Nat} {xs : List Value} (h : w.ownsRow lo T sz v n xs) (hb : Below w.heap.size w w') : w'.ownsRow lo T sz v n xs :=
  h.kept (grown_of_below hb) (by cases v.ownBlock <;> simp)

theorem tok_own {w : World} {B g n cap : Nat} {T : TypeId} {ts : List Tok} (h : w.ownsRow B T 4 (.slice (some ⟨g, 0, none⟩) n cap) n (rowOf ts)) (i : Nat) (t : Tok) (hi : ts[i]? = some t) : TokOff w g (i * 4) t := by
  obtain ⟨h0, h1, h2, h3⟩ := tok_at h i t hi
  exact ⟨h0, h1, h2, h3⟩

/-- i of the tokens are laid again -/
structure KSt (w1 : World) (ts : List Tok) (i : Nat) (v : Value) (w : World) : Prop where
  le : i ≤ ts.length
  own : w.ownsRow w1.heap.size 60 4 v i (rowOf (ts.take i))
  bel : Below w1.heap.size w1 w

set_option maxHeartbeats 4000000 in
theorem tokens_law (s : ByteArray) (hs : s.size ≤ 1100000) (w : World) :
    Calls Tryd.prog 7 #[.string s] w fun e w' => LOut w (scan (bs s) 0) e w' := by
  have hR := Hid.intro (refTokens_any s hs w)
  obtain ⟨i0, hi, hz0, hz1, hz2⟩ := info_parts Tryd.info60
  cases hS : scan (bs s) 0 with
  | error p =>
    rw [hS] at hR
    go_enter Tryd.func7, Tryd.ntmps7
    go_wp2_with (first
      | (go_at_call 21; (with_reducible refine (hR.out).mono ?_); rintro e w1 ⟨hb1, rfl⟩))
    go_loopw [8, 9] (fun v8 vi wr => v8 = .slice none 0 0 ∧ vi = .int .i64 0 ∧ wr = w1) (fun _ _ _ => 0)
    case atStart => exact ⟨rfl, rfl, rfl⟩
    case round =>
      obtain ⟨rfl, rfl, rfl⟩ := hrel
      go_wp2
      go_ret3
      refine ⟨hb1, ?_⟩
      dsimp only
      rfl
  | ok ts =>
    rw [hS] at hR
    have hlen := scan_len _ _ _ hS
    rw [bs_length] at hlen
    obtain ⟨n, hn⟩ : ∃ n, n = ts.length := ⟨_, rfl⟩
    have hnH := Hid.intro hn
    rw [← hn] at hlen
    clear hn hS
    go_enter Tryd.func7, Tryd.ntmps7
    go_wp2_with (first
      | (go_at_call 21; (with_reducible refine (hR.out).mono ?_); rintro e w1 ⟨hb1, v2, rfl, hown⟩; rw [← hnH.out] at hown; obtain ⟨a2, c2, rfl⟩ := own_slice hown; replace hown := Hid.intro hown))
    go_loopw [8, 9] (fun v8 vi wr => ∃ (i : Nat) (v : Value), v8 = v ∧ vi = .int .i64 (i : Int) ∧ Hid (KSt w1 ts i v wr)) (fun _ vi _ => n - (intOf vi).toNat)
    case atStart => exact ⟨0, _, rfl, rfl, Hid.intro ⟨Nat.zero_le _, World.ownsRow_nil _ _ _ _, Below.refl _ _⟩⟩
    case round =>
      obtain ⟨i, v, hv, rfl, hK⟩ := hrel
      have hv' := hv.symm
      clear hv
      subst hv'
      have hle := hK.out.le
      rw [← hnH.out] at hle
      by_cases hlt : i < n
      · obtain ⟨t, ht⟩ : ∃ t, ts[i]? = some t := ⟨ts[i]'(by rw [← hnH.out]; exact hlt), List.getElem?_eq_getElem _⟩
        have htk : Hid (rowOf (ts.take (i + 1)) = rowOf (ts.take i) ++ t.cells) := by show _ = _; rw [take_at ts i t ht, rowOf_push]
        obtain ⟨g, ha, hg⟩ : ∃ g, a2 = some ⟨g, 0, none⟩ ∧ g < w1.heap.size := by
          obtain ⟨k, rfl⟩ : ∃ k, n = k + 1 := ⟨n - 1, by omega⟩
          obtain ⟨g, cap, h1, h2, h3⟩ := own_form hown.out
          injection h1 with h1 _ _
          exact ⟨g, h1, h3⟩
        subst ha
        have hfit : n ≤ c2 ∧ c2 ≤ 9223372036854775807 := by
          rcases hown.out.2 with ⟨hv, _⟩ | ⟨g', cap, cur, hv, _, _, hle, hcap, _⟩
          · cases hv
          · injection hv with _ _ hv3
            unfold maxLen at hcap
            omega
        obtain ⟨hf1, hf2⟩ := hfit
        obtain ⟨x0, x1, x2, x3⟩ := tok_own hown.out i t ht
        have hbel := hK.out.bel
        have hsz := hbel.size
        rw [← hbel.cell hg] at x0 x1 x2 x3
        have hlie := Hid.intro hK.out.own
        have hcn := Hid.intro (cells_new wr.drew t.cells.toArray 60)
        go_wp2_with fail
        all_goals first | omega | skip
        go_region_law (first | (refine step_append_lies _ (by rfl) (.tmp 22) (.tmp 44) 34 (by rfl) w1.heap.size 60 i0 (.agg #[.int .i64 0, .string ⟨#[]⟩, .int .u32 0, .int .i64 0]) 4 40 Tryd.underlying34 hi hz0 hz1 hz2 rfl (by decide) v i (rowOf (ts.take i)) (by rfl) (hlie.out.drew.alloc _) ⟨wr.heap.size, 0, none⟩ 1 1 t.cells (by rfl) rfl hcn.out (by simp [Tok.cells, Value.oneCell']) (by decide) (by unfold maxLen; omega) (by omega) (by simp; omega) (wr.heap.size + 1) (by simp) ?_; intro g3 cap3 w3 hown3 hgrow3 hat3 hlt3))
        all_goals go_wp2_with fail
        all_goals first | omega | skip
        all_goals go_roundw
        all_goals first
          | exact ⟨i + 1, _, rfl, by go_num, Hid.intro ⟨by rw [← hnH.out]; omega, by rw [htk.out]; exact hown3, (hbel.drew.alloc hsz _).grown hgrow3 (by simp; omega) (fun j hj => (hlie.out.lt j hj).1)⟩⟩
          | (simp [intOf]; omega)
      · have hin : Hid (i = ts.length) := by show i = _; rw [← hnH.out]; omega
        have hsz := hK.out.bel.size
        go_wp2
        all_goals first | omega | skip
        go_ret3
        refine ⟨hb1.trans (hK.out.bel.mono hb1.size), _, _, rfl, ?_, ?_⟩
        · have := hK.out.own
          rw [hin.out, List.take_length] at this
          exact own_weaken this hb1.size
        · show wr.ownsRow w.heap.size 59 4 (.slice a2 n c2) ts.length (rowOf ts)
          rw [← hnH.out]
          exact own_below hown.out hK.out.bel
end Go.Proofs.YtijdjljnppkhmabDoor
