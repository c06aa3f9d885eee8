/- ExprBack: the law's walk. -/
import Derived.Test.YtijdjljnppkhmaaDoorBckM
import Derived.Test.YtijdjljnppkhmaaDoorGroupsM
import Derived.Test.YtijdjljnppkhmaaDoorKnownE
import Derived.Test.YtijdjljnppkhmaaDoorNumbersW
import Derived.Test.YtijdjljnppkhmaaDoorReadW
namespace Go.Proofs.YtijdjljnppkhmaaDoor
open Go.ChangeShapes Go.WideShapes Go.ChangeAt Go.RowKit
set_option linter.unusedVariables false
set_option maxRecDepth 100000

theorem leg_short4 {s : List UInt8} (h : legB (str s) = true) : s.length ≤ 32 := by
  simp only [legB, nameOK, Bool.and_eq_true, decide_eq_true_eq] at h
  have := h.1.2.2
  simpa [bs, str] using this

/-- what comes in, at its block -/
structure BB (W : World) (g : Nat) (a : Option Addr) (m c : Nat) (ts : List Tm) (k : Int) : Prop where
  q : Two W g 25 (.slice a m c) (.int .u32 k)
  h : Held W a c ts
  P : Pow W
theorem BB.below {W W' : World} {g : Nat} {a : Option Addr} {m c : Nat} {ts : List Tm} {k : Int} (h : BB W g a m c ts k) (hb : Below W.heap.size W W') : BB W' g a m c ts k :=
  ⟨h.q.below hb h.q.lt, h.h.below hb (Nat.le_refl _), h.P.below hb⟩

theorem textF_len (ts : List Tm) (k : Int) (hk : k < 4294967296) (h : ∀ t ∈ ts, OkT t) : (textF ts k).length ≤ ts.length * 44 + 10 := by
  have h1 := termsS_len ts h
  have h2 := dec_len k hk
  unfold textF
  split
  · rw [List.length_append]; omega
  · rw [List.length_dropLast]; omega

set_option maxHeartbeats 4000000 in
theorem back_any (a : Option Addr) (c : Nat) (ts : List Tm) (k : Int) (w : World) (hH : Held w a c ts) (hP : Pow w) (hl : ts.length ≤ 1100000) (hn : ∀ t ∈ ts, t.name.length ≤ 1100000) (hc : ∀ t ∈ ts, 0 ≤ t.coef ∧ t.coef < 4294967296) (hk0 : 0 ≤ k) (hk1 : k < 4294967296) :
    Calls Tryd.prog 7 #[linV (.slice a ts.length c) k] w fun e w' => Below w.heap.size w w' ∧ e = .returned (.bool true) := by
  obtain ⟨m, hm⟩ : ∃ m, m = ts.length := ⟨_, rfl⟩
  have hR := Hid.intro (fun w' (h : Held w' a c ts) => right_any a c ts k w' h.lies (by omega) hn)
  have hT := Hid.intro (fun w' (h : Held w' a c ts) (hp : Pow w') (hN : ∀ t ∈ ts, OkT t) => text_any a c ts k w' h.lies (by omega) hN hk0 hk1 hp)
  have hS := Hid.intro (fun w' (a3 : Option Addr) (c3 : Nat) (h : Held w' a c ts) (h3 : TmLies w' a3 ts) => same_any a a3 c c3 ts ts k k w' h.lies h3 (by omega) (by omega))
  have hkn := Hid.intro (fun w' (hp : Pow w') => known_any w' hp)
  have hsame : sameL ts ts k k = true := by simp [sameL]
  rw [hsame, ← hm] at hS
  generalize hr : rightF none ts = r at hR
  rw [← hm] at hR hT ⊢
  have hml : m ≤ 1100000 := by omega
  have q := two_new w 25 (.slice a m c) (.int .u32 k)
  have hb0 := below_alloc w (.cells #[.slice a m c, .int .u32 k] 25)
  have hB := Hid.intro (BB.mk q (hH.below hb0 (Nat.le_refl _)) (hP.below hb0))
  have hbw := Hid.intro hb0
  clear hH hP hb0
  by_cases hgo : r = true ∧ m ≤ 200
  · obtain ⟨rfl, h200⟩ := hgo
    have hleg := right_legal hr
    have hok : ∀ t ∈ ts, OkT t := fun t ht => ⟨(hc t ht).1, (hc t ht).2, leg_short4 (hleg t ht)⟩
    obtain ⟨us, hs1, hs2⟩ := parse_text ts k (right_canon hc hr) hleg hk0 hk1 0
    have hlen := textF_len ts k hk1 hok
    rw [← hm] at hlen
    generalize textF ts k = S at hs1 hlen hT
    have hsz : (str S).size ≤ 1000000 := by simp [str, ByteArray.size]; omega
    have htok := Hid.intro (fun w' => tokens_all (str S) hsz w')
    have hbs : bs (str S) = S := by simp [bs, str]
    rw [hbs, hs1] at htok
    simp only [scanL, scanB] at htok
    have hpar := Hid.intro (fun a c w1 (h : Toks w1 a c us) => parse_all a c us w1 h)
    rw [hs2] at hpar
    unfold ROutL at hpar
    simp only [outLin, outErr] at hpar
    replace hok := Hid.intro hok
    generalize us.length = n at htok hpar
    rw [← hm] at hpar
    replace hm := Hid.intro hm
    clear hr hn hc hs1 hs2 hsame hleg hbs hsz hlen
    go_enter Tryd.func7, Tryd.ntmps7
    go_wp2_with fail
    obtain ⟨_, x0, x1, _, _⟩ := q
    generalize (w.alloc (.cells #[.slice a m c, .int .u32 k] 25)) = w0 at *
    go_wp2_with (first
      | (go_at_call 22; (with_reducible refine (hR.out _ hB.out.h).mono ?_); rintro e wa ⟨rfl, hba⟩; have hBa := Hid.intro (hB.out.below hba); have hbwa := Hid.intro (chain' hbw.out hba); obtain ⟨_, y0, y1, _, _⟩ := hBa.out.q)
      | (go_at_call 12; (with_reducible refine (hT.out _ hBa.out.h hBa.out.P hok.out).mono ?_); rintro e wb ⟨hbb, rfl⟩; have hBb := Hid.intro (hBa.out.below hbb); have hbwb := Hid.intro (chain' hbwa.out hbb))
      | (go_at_call 15; (with_reducible refine (htok.out _).mono ?_); rintro e wc ⟨hbc, a1, c1, a2, c2, rfl, hTk, _, _⟩; have hBc := Hid.intro (hBb.out.below hbc); have hbwc := Hid.intro (chain' hbwb.out hbc); replace hTk := Hid.intro hTk)
      | (go_at_call 18; (with_reducible refine (hpar.out _ _ _ hTk.out).mono ?_); rintro e wd ⟨hbd, a3, n3, c3, rfl, hown⟩; have hBd := Hid.intro (hBc.out.below hbd); have hbwd := Hid.intro (chain' hbwc.out hbd); have he3 := own_len hown; subst he3; have hBe := Hid.intro (hBd.out.below (below_alloc wd (.cells #[.slice a3 n3 c3, .int .u32 k] 25))); have hbwe := Hid.intro (chain' hbwd.out (below_alloc wd (.cells #[.slice a3 n3 c3, .int .u32 k] 25))); have hO := Hid.intro ((own_tmLies (ts := ts) (by rw [← hm.out]; exact hown)).below (below_alloc wd (.cells #[.slice a3 n3 c3, .int .u32 k] 25)) (Nat.le_refl _)); obtain ⟨_, z0, z1, _, _⟩ := hBe.out.q; obtain ⟨_, u0, u1, _, _⟩ := two_new wd 25 (.slice a3 n3 c3) (.int .u32 k); clear hown)
      | (go_at_call 28; (with_reducible refine (hS.out _ _ _ hBe.out.h hO.out).mono ?_); rintro e wf ⟨rfl, hbf⟩; have hBf := Hid.intro (hBe.out.below hbf); have hbwf := Hid.intro (chain' hbwe.out hbf))
      | (go_at_call 14; (with_reducible refine (hkn.out _ hBf.out.P).mono ?_); rintro e wk ⟨hbk, rfl⟩; have hbwk := Hid.intro (chain' hbwf.out hbk)))
    all_goals first | omega | skip
    go_ret
    exact ⟨hbwk.out, rfl⟩
  · clear hm hr hn hc hT hS hsame
    by_cases hr1 : r = true
    · obtain rfl := hr1
      have h200 : 200 < m := by simp at hgo; omega
      clear hgo
      go_enter Tryd.func7, Tryd.ntmps7
      go_wp2_with fail
      obtain ⟨_, x0, x1, _, _⟩ := q
      generalize (w.alloc (.cells #[.slice a m c, .int .u32 k] 25)) = w0 at *
      go_wp2_with (first
        | (go_at_call 22; (with_reducible refine (hR.out _ hB.out.h).mono ?_); rintro e wa ⟨rfl, hba⟩; have hBa := Hid.intro (hB.out.below hba); have hbwa := Hid.intro (chain' hbw.out hba); obtain ⟨_, y0, y1, _, _⟩ := hBa.out.q)
        | (go_at_call 14; (with_reducible refine (hkn.out _ hBa.out.P).mono ?_); rintro e wk ⟨hbk, rfl⟩; have hbwk := Hid.intro (chain' hbwa.out hbk)))
      all_goals first | omega | skip
      go_ret
      exact ⟨hbwk.out, rfl⟩
    · obtain rfl : false = r := by cases r <;> simp_all
      clear hgo hr1
      go_enter Tryd.func7, Tryd.ntmps7
      go_wp2_with fail
      obtain ⟨_, x0, x1, _, _⟩ := q
      generalize (w.alloc (.cells #[.slice a m c, .int .u32 k] 25)) = w0 at *
      go_wp2_with (first
        | (go_at_call 22; (with_reducible refine (hR.out _ hB.out.h).mono ?_); rintro e wa ⟨rfl, hba⟩; have hBa := Hid.intro (hB.out.below hba); have hbwa := Hid.intro (chain' hbw.out hba); obtain ⟨_, y0, y1, _, _⟩ := hBa.out.q)
        | (go_at_call 14; (with_reducible refine (hkn.out _ hBa.out.P).mono ?_); rintro e wk ⟨hbk, rfl⟩; have hbwk := Hid.intro (chain' hbwa.out hbk)))
      all_goals first | omega | skip
      go_ret
      exact ⟨hbwk.out, rfl⟩
end Go.Proofs.YtijdjljnppkhmaaDoor
