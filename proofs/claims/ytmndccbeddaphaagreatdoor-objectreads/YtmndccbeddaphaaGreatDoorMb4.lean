/- object, plain facts: a unit that was written is read, whatever stands behind it; what is read was written. -/
import Derived.Test.YtmndccbeddaphaaGreatDoorOrd20
import Derived.Test.YtmndccbeddaphaaGreatDoorOrd15
/- object, plain facts: what stands at a place of some bytes is read there, and what is read stands there: numbers, texts, terms, Lins. -/
namespace Go.Proofs.YtmndccbeddaphaaGreatDoor
open Go.ChangeShapes Go.WideShapes Go.ChangeAt Go.RowKit
set_option linter.unusedVariables false
set_option linter.unusedSimpArgs false
set_option maxRecDepth 100000
def At (zs : List Int) (p : Nat) (s : List Int) : Prop := zs.drop p = s ++ zs.drop (p + s.length) ∧ p + s.length ≤ zs.length
theorem At.nil {zs : List Int} {p : Nat} (h : p ≤ zs.length) : At zs p [] := ⟨by simp, by simpa using h⟩
theorem At.app {zs s t : List Int} {p : Nat} (h : At zs p s) (g : At zs (p + s.length) t) : At zs p (s ++ t) := by
  refine ⟨?_, by have := g.2; simp; omega⟩
  rw [h.1, g.1, List.append_assoc, List.length_append, Nat.add_assoc]
theorem At.left {zs s t : List Int} {p : Nat} (h : At zs p (s ++ t)) : At zs p s := by
  have h1 := h.1
  refine ⟨?_, by have := h.2; simp at this; omega⟩
  have h2 : zs.drop (p + s.length) = t ++ zs.drop (p + (s ++ t).length) := by
    rw [← List.drop_drop, h1, List.append_assoc, List.drop_left]
  rw [h2, h1, List.append_assoc]
theorem At.right {zs s t : List Int} {p : Nat} (h : At zs p (s ++ t)) : At zs (p + s.length) t := by
  have h1 := h.1
  refine ⟨?_, by have := h.2; simp at this; omega⟩
  rw [← List.drop_drop, h1, List.append_assoc, List.drop_left, List.length_append, Nat.add_assoc]
theorem At.take {zs s : List Int} {p : Nat} (h : At zs p s) : (zs.drop p).take s.length = s := by
  rw [h.1, List.take_left]
theorem At.of_take {zs : List Int} {p n : Nat} (h : p + n ≤ zs.length) : At zs p ((zs.drop p).take n) := by
  have hl : ((zs.drop p).take n).length = n := by simp; omega
  refine ⟨?_, by rw [hl]; exact h⟩
  rw [hl, ← List.drop_drop, List.take_append_drop]
namespace O
theorem leB_leN : (l : List Int) → AreBytes l → leB (leN l) l.length = l
  | [], _ => rfl
  | z :: r, h => by
    have hz := h z (List.mem_cons_self ..)
    rw [leN, List.length_cons, leB]
    have h1 : (z + 256 * leN r) % 256 = z := by omega
    have h2 : (z + 256 * leN r) / 256 = leN r := by omega
    rw [h1, h2, leB_leN r (fun y hy => h y (List.mem_cons_of_mem _ hy))]
theorem leB_mod256 (n : Int) (k : Nat) : leB (n % 256 ^ k) k = leB n k := by
  induction k generalizing n with
  | zero => rfl
  | succ k ih =>
    rw [leB, leB]
    have hp : (0 : Int) < 256 ^ k := Int.pow_pos (by omega)
    have h1 : n % (256 * 256 ^ k) % 256 = n % 256 := Int.emod_emod_of_dvd n ⟨256 ^ k, rfl⟩
    have h2 : n % (256 * 256 ^ k) / 256 = n / 256 % 256 ^ k := by
      have h3 : n / (256 * 256 ^ k) = n / 256 / 256 ^ k := by rw [Int.ediv_ediv]; simp
      rw [Int.emod_def n, Int.emod_def (n / 256), h3, Int.mul_assoc]
      generalize 256 ^ k * (n / 256 / 256 ^ k) = x
      omega
    rw [Int.pow_succ, Int.mul_comm (256 ^ k) 256, h1, h2, ih]
end O
section
variable {zs : List Int} {p : Nat} {b : Rfu}
theorem firstR_some {b : Rfu} {f : Int × Int} : firstR b f ≠ none := by cases b <;> simp [firstR]
theorem num_bwd (hz : O.AreBytes zs) {wd : Nat} (h : rdB zs p wd b = none) : b = none ∧ At zs p (O.leB (rdV zs p wd) wd) ∧ rdP zs p wd = p + wd := by
  by_cases hq : p + wd ≤ zs.length
  · rw [rdB, if_pos hq] at h
    have hl : ((zs.drop p).take wd).length = wd := by simp; omega
    have e : O.leB (rdV zs p wd) wd = (zs.drop p).take wd := by
      have := O.leB_leN ((zs.drop p).take wd) (O.areBytes_take _ (O.areBytes_drop _ hz _) wd)
      rw [hl] at this
      rw [rdV, if_pos hq, this]
    exact ⟨h, by rw [e]; exact At.of_take hq, by rw [rdP, if_pos hq]⟩
  · rw [rdB, if_neg hq] at h
    exact absurd h firstR_some
theorem sTx_eq (s : List UInt8) : sTx s = O.leB ((s.length : Int) % 4294967296) 2 ++ O.numsOf (str s) := by
  unfold sTx O.putT
  rw [str_size, List.nil_append]
theorem nums_len (s : List UInt8) : (O.numsOf (str s)).length = s.length := by rw [O.numsOf_length, str_size]
theorem sTx_len (s : List UInt8) : (sTx s).length = 2 + s.length := by rw [sTx_eq, List.length_append, O.leB_length, nums_len]
theorem nums_back2 {l : List Int} (h : O.AreBytes l) : O.numsOf (str (strOfNums l).data.toList) = l := by
  rw [strOfNums_data]
  unfold O.numsOf str
  simp only [List.map_map]
  conv => rhs; rw [← List.map_id l]
  refine List.map_congr_left fun z hz => ?_
  have := h z hz
  simp
  omega
theorem getE_ok (h : p + 2 ≤ zs.length) : O.getE zs (p : Int) 2 = 0 := by
  unfold O.getE
  rw [if_neg (by simp [O.isW]; omega), if_neg (by omega)]
theorem getN_eq (h : p + 2 ≤ zs.length) : O.getN zs (p : Int) 2 = rdV zs p 2 := by
  unfold O.getN
  rw [if_pos (getE_ok h), rdV, if_pos h]
  rfl
theorem text_bwd (hz : O.AreBytes zs) (h : txB zs p b = none) : b = none ∧ At zs p (sTx (txL zs p)) ∧ txP zs p = p + (sTx (txL zs p)).length ∧ (txL zs p).length ≤ 65535 := by
  by_cases hE : O.getTE zs (p : Int) 65535 = 0
  · rw [txB, if_pos hE] at h
    have hE' := hE
    unfold O.getTE at hE'
    by_cases h2 : p + 2 ≤ zs.length
    · rw [if_pos (getE_ok h2)] at hE'
      have hb := getN_bd hz (p : Int)
      obtain ⟨n, hn⟩ : ∃ n : Nat, O.getN zs (p : Int) 2 = (n : Int) := ⟨(O.getN zs (p : Int) 2).toNat, by omega⟩
      rw [hn] at hE' hb
      have h3 : p + 2 + n ≤ zs.length := by
        split at hE'
        · cases hE'
        · split at hE'
          · cases hE'
          · omega
      have htl : txL zs p = (strOfNums ((zs.drop (p + 2)).take n)).data.toList := by
        unfold txL txS O.getTS
        rw [if_pos hE, hn]
        have e1 : ((p : Int)).toNat + 2 = p + 2 := by omega
        have e2 : ((n : Nat) : Int).toNat = n := by omega
        rw [e1, e2]
      have hlen : (txL zs p).length = n := by rw [htl, strOfNums_data]; simp; omega
      have hst : sTx (txL zs p) = O.leB (rdV zs p 2) 2 ++ (zs.drop (p + 2)).take n := by
        rw [sTx_eq, hlen, htl, nums_back2 (O.areBytes_take _ (O.areBytes_drop _ hz _) n), ← getN_eq h2, hn]
        congr 2
        omega
      have h4 := num_bwd (b := none) hz (p := p) (wd := 2) (by rw [rdB, if_pos h2])
      refine ⟨h, ?_, ?_, by omega⟩
      · rw [hst]
        refine h4.2.1.app ?_
        rw [O.leB_length]
        exact At.of_take h3
      · rw [txP, if_pos hE, hn, sTx_len, hlen]
        omega
    · exfalso
      have : O.getE zs (p : Int) 2 ≠ 0 := by
        unfold O.getE
        split
        · decide
        · rw [if_pos (by omega)]; decide
      rw [if_neg this] at hE'
      exact this hE'
  · rw [txB, if_neg hE] at h
    exact absurd h firstR_some
theorem sTm_len (t : Tm) : (sTm t).length = (sTx t.name).length + 4 := by unfold sTm; rw [List.length_append, O.leB_length]
theorem term_bwd (hz : O.AreBytes zs) (h : tmB zs p b = none) : b = none ∧ At zs p (sTm (tmAt zs p)) ∧ tmP zs p = p + (sTm (tmAt zs p)).length := by
  unfold tmB at h
  obtain ⟨h1, h2, h3⟩ := num_bwd hz h
  obtain ⟨h4, h5, h6, h7⟩ := text_bwd hz h1
  rw [h6] at h2
  have e : (tmAt zs p).coef = rdV zs (p + (sTx (txL zs p)).length) 4 := by show rdV zs (txP zs p) 4 = _; rw [h6]
  refine ⟨h4, h5.app (by rw [e]; exact h2), ?_⟩
  rw [sTm_len]
  unfold tmP
  rw [h3, h6]
  show _ = p + ((sTx (txL zs p)).length + 4)
  omega
theorem tm_coef (hz : O.AreBytes zs) (p : Nat) : 0 ≤ (tmAt zs p).coef ∧ (tmAt zs p).coef ≤ 4294967295 := by
  have := rdV_wd hz (txP zs p) 4
  show 0 ≤ rdV zs (txP zs p) 4 ∧ rdV zs (txP zs p) 4 ≤ 4294967295
  omega
theorem loop_bwd (hz : O.AreBytes zs) : ∀ (k : Nat) (acc : List Tm) (p : Nat) (b : Rfu), p ≤ zs.length ∨ 0 < k → (rdLoop zs k acc p b).2.2 = none → b = none ∧ ∃ ts, (rdLoop zs k acc p b).1 = acc ++ ts ∧ ts.length = k ∧ (p ≤ zs.length → At zs p (ts.flatMap sTm)) ∧ (rdLoop zs k acc p b).2.1 = p + (ts.flatMap sTm).length ∧ ∀ t ∈ ts, 0 ≤ t.coef ∧ t.coef ≤ 4294967295
  | 0, acc, p, b, _, h => ⟨h, [], by simp [rdLoop], rfl, fun hp => At.nil hp, by simp [rdLoop], fun t ht => by cases ht⟩
  | k + 1, acc, p, b, _, h => by
    rw [rdLoop] at h ⊢
    cases b with
    | some f => simp at h
    | none =>
      simp only [Option.isSome_none, Bool.false_eq_true, if_false] at h ⊢
      have hb : tmB zs p none = none := by
        cases hq : tmB zs p none with
        | none => rfl
        | some f =>
          rw [hq] at h
          cases k with
          | zero => simp [rdLoop] at h
          | succ k => simp [rdLoop] at h
      obtain ⟨_, h2, h3⟩ := term_bwd hz hb
      have h4 : tmP zs p ≤ zs.length := by rw [h3]; exact h2.2
      obtain ⟨_, ts, e1, e2, e3, e4, e5⟩ := loop_bwd hz k (acc ++ [tmAt zs p]) (tmP zs p) (tmB zs p none) (.inl h4) h
      refine ⟨trivial, tmAt zs p :: ts, by rw [e1]; simp, by simp [e2], fun _ => ?_, ?_, fun t ht => ?_⟩
      · rw [List.flatMap_cons]
        refine h2.app ?_
        have := e3 h4
        rw [h3] at this
        exact this
      · rw [e4, h3, List.flatMap_cons, List.length_append]
        omega
      · rcases List.mem_cons.1 ht with rfl | ht
        · exact tm_coef hz p
        · exact e5 t ht
theorem sLin_len (x : Lin) : (sLin x).length = 2 + (x.terms.flatMap sTm).length + 4 := by
  unfold sLin sTms
  rw [List.length_append, List.length_append, O.leB_length, O.leB_length]
theorem lin_bwd (hz : O.AreBytes zs) (h : liB zs p b = none) : b = none ∧ At zs p (sLin ⟨liL zs p b, liN zs p b⟩) ∧ liP zs p b = p + (sLin ⟨liL zs p b, liN zs p b⟩).length ∧ (liL zs p b).length ≤ 65535 ∧ NumL ⟨liL zs p b, liN zs p b⟩ := by
  unfold liB at h
  obtain ⟨h1, h2, h3⟩ := num_bwd hz h
  have hbd := rdV_bd hz p
  have h1' := h1
  unfold rdTerms at h1'
  have hp0 : rdP zs p 2 ≤ zs.length ∨ 0 < (rdV zs p 2).toNat := by
    by_cases hq : p + 2 ≤ zs.length
    · left; rw [rdP, if_pos hq]; exact hq
    · exfalso
      have : rdB zs p 2 b ≠ none := by rw [rdB, if_neg hq]; exact firstR_some
      have hv : rdV zs p 2 = 0 := by rw [rdV, if_neg hq]
      rw [hv] at h1'
      simp [rdLoop] at h1'
      exact this h1'
  obtain ⟨hb, ts, e1, e2, e3, e4, e5⟩ := loop_bwd hz _ _ _ _ hp0 h1'
  obtain ⟨g1, g2, g3⟩ := num_bwd hz hb
  have hL : liL zs p b = ts := by unfold liL rdTerms; rw [e1]; simp
  have hP : (rdTerms zs p b).2.1 = p + 2 + (ts.flatMap sTm).length := by unfold rdTerms; rw [e4, g3]
  have hpl : rdP zs p 2 ≤ zs.length := by rw [g3]; have := g2.2; rw [O.leB_length] at this; exact this
  have hA := e3 hpl
  rw [g3] at hA
  rw [hP] at h2 h3
  have hN : liN zs p b = rdV zs (p + 2 + (ts.flatMap sTm).length) 4 := by unfold liN; rw [hP]
  have hlen : O.leB (rdV zs p 2) 2 = O.leB ((ts.length : Int) % 4294967296) 2 := by
    have : (ts.length : Int) % 4294967296 = rdV zs p 2 := by omega
    rw [this]
  refine ⟨g1, ?_, ?_, by rw [hL]; omega, ?_⟩
  · rw [hL, hN]
    unfold sLin sTms
    rw [← hlen]
    refine (g2.app (by rw [O.leB_length]; exact hA)).app ?_
    rw [List.length_append, O.leB_length, ← Nat.add_assoc]
    exact h2
  · rw [sLin_len, hL]
    unfold liP
    rw [hP, h3]
    show _ = p + (2 + (ts.flatMap sTm).length + 4)
    omega
  · refine ⟨?_, fun t ht => e5 t (by rw [hL] at ht; exact ht)⟩
    rw [hN]
    have := rdV_wd hz (p + 2 + (ts.flatMap sTm).length) 4
    show 0 ≤ rdV zs _ 4 ∧ rdV zs _ 4 ≤ 4294967295
    omega
end
end Go.Proofs.YtmndccbeddaphaaGreatDoor
/- object, plain facts: an item stands at a place and is read there, and back. -/
namespace Go.Proofs.YtmndccbeddaphaaGreatDoor
open Go.ChangeShapes Go.WideShapes Go.ChangeAt Go.RowKit
set_option linter.unusedVariables false
set_option linter.unusedSimpArgs false
set_option maxRecDepth 100000
theorem check_ok {op a b n f : Int} (h : checkN op a b n f = 0) : (1 ≤ op ∧ op ≤ 43) ∧ regB a b n (shapeN op).toNat = true := by
  unfold checkN at h
  by_cases hop : 1 ≤ op ∧ op ≤ 43
  · rw [if_neg (by simpa using hop)] at h
    cases hr : regB a b n (shapeN op).toNat with
    | false => rw [if_pos hr] at h; omega
    | true => exact ⟨hop, rfl⟩
  · rw [if_pos (by simpa using hop)] at h; omega
theorem max_small (s : Nat) (hs : s < 14) : aMax s ≤ 255 ∧ bMax s ≤ 255 := by
  have : ∀ j : Fin 14, aMax j.1 ≤ 255 ∧ bMax j.1 ≤ 255 := by decide +kernel
  exact this ⟨s, hs⟩
theorem okI_form {x : Itm} {sec : Int} (h : okI x sec = true) :
    (x = ⟨1, x.name, 0, 0, 0, 0, 0, linE, 0⟩ ∧ legB (str x.name) = true) ∨
    (x = ⟨2, [], x.op, x.a, x.b, x.m, 0, x.e, 0⟩ ∧ (1 ≤ x.op ∧ x.op ≤ 43) ∧ (0 ≤ x.a ∧ x.a ≤ 255) ∧ (0 ≤ x.b ∧ x.b ≤ 255) ∧ (shE (shapeN x.op) = false → x.e = linE)) ∨
    (x = ⟨3, [], 0, 0, 0, 0, 0, linE, x.n⟩ ∧ 0 ≤ x.n ∧ x.n ≤ 256) ∨ (x = ⟨4, [], 0, 0, 0, 0, 0, linE, 0⟩) ∨
    (x = ⟨5, [], 0, 0, 0, 0, 0, linE, x.n⟩ ∧ -128 ≤ x.n ∧ x.n ≤ 255) ∨ (x = ⟨6, [], 0, 0, 0, 0, 0, x.e, 0⟩) ∨
    (x = ⟨7, [], 0, 0, 0, 0, 0, linE, x.n⟩ ∧ 0 ≤ x.n ∧ x.n ≤ 1048576) := by
  obtain ⟨kd, nm, op, a, b, m, fo, ⟨ts, c⟩, n⟩ := x
  unfold okI okB at h
  simp only [Bool.and_eq_true] at h
  obtain ⟨h1, h2, h3, h4, h5⟩ := h
  have hk : kd = 1 ∨ kd = 2 ∨ kd = 3 ∨ kd = 4 ∨ kd = 5 ∨ kd = 6 ∨ kd = 7 := by
    unfold standsB at h1
    split at h1
    · omega
    · split at h1
      · omega
      · split at h1
        · omega
        · cases h1
  have hnm : kd ≠ 1 → nm = [] := fun hne => by
    unfold nameB at h2
    rw [if_neg hne] at h2
    have := of_decide_eq_true h2
    simpa [str] using this
  have hin : kd ≠ 2 → op = 0 ∧ a = 0 ∧ b = 0 ∧ m = 0 ∧ fo = 0 := fun hne => by
    unfold instB at h3
    rw [if_neg hne] at h3
    exact of_decide_eq_true h3
  have hex : hasEB kd op = false → ts = [] ∧ c = 0 := fun hh => by
    unfold exprB at h4
    rw [hh] at h4
    simp only [Bool.false_eq_true, if_false, Bool.and_eq_true, decide_eq_true_eq, List.length_eq_zero_iff] at h4
    exact h4
  rcases hk with rfl | rfl | rfl | rfl | rfl | rfl | rfl
  · obtain ⟨rfl, rfl, rfl, rfl, rfl⟩ := hin (by decide)
    obtain ⟨rfl, rfl⟩ := hex rfl
    simp [numOfB] at h5
    subst h5
    exact .inl ⟨rfl, h2⟩
  · obtain rfl := hnm (by decide)
    simp [numOfB] at h5
    subst h5
    unfold instB at h3
    rw [if_pos rfl] at h3
    simp only [Bool.and_eq_true, decide_eq_true_eq] at h3
    obtain ⟨⟨rfl, _⟩, hc⟩ := h3
    obtain ⟨ho, hr⟩ := check_ok hc
    obtain ⟨s, hs, hs14, hsn⟩ := shape_nat op
    rw [hsn] at hr
    unfold regB at hr
    rw [Bool.and_eq_true] at hr
    have hr1 := of_decide_eq_true hr.1
    have := max_small s hs14
    refine .inr (.inl ⟨rfl, ho, ⟨hr1.1, by show a ≤ 255; omega⟩, ⟨hr1.2.2.1, by show b ≤ 255; omega⟩, fun hh => ?_⟩)
    obtain ⟨rfl, rfl⟩ := hex (by unfold hasEB; rw [if_pos rfl]; exact hh)
    rfl
  · obtain ⟨rfl, rfl, rfl, rfl, rfl⟩ := hin (by decide)
    obtain ⟨rfl, rfl⟩ := hex rfl
    obtain rfl := hnm (by decide)
    simp [numOfB] at h5
    exact .inr (.inr (.inl ⟨rfl, by show 0 ≤ n ∧ n ≤ 256; omega⟩))
  · obtain ⟨rfl, rfl, rfl, rfl, rfl⟩ := hin (by decide)
    obtain ⟨rfl, rfl⟩ := hex rfl
    obtain rfl := hnm (by decide)
    simp [numOfB] at h5
    subst h5
    exact .inr (.inr (.inr (.inl rfl)))
  · obtain ⟨rfl, rfl, rfl, rfl, rfl⟩ := hin (by decide)
    obtain ⟨rfl, rfl⟩ := hex rfl
    obtain rfl := hnm (by decide)
    simp [numOfB] at h5
    exact .inr (.inr (.inr (.inr (.inl ⟨rfl, h5⟩))))
  · obtain ⟨rfl, rfl, rfl, rfl, rfl⟩ := hin (by decide)
    obtain rfl := hnm (by decide)
    simp [numOfB] at h5
    subst h5
    exact .inr (.inr (.inr (.inr (.inr (.inl rfl)))))
  · obtain ⟨rfl, rfl, rfl, rfl, rfl⟩ := hin (by decide)
    obtain ⟨rfl, rfl⟩ := hex rfl
    obtain rfl := hnm (by decide)
    simp [numOfB] at h5
    exact .inr (.inr (.inr (.inr (.inr (.inr ⟨rfl, h5⟩)))))
theorem leB_u32 (n : Int) : O.leB (u32 n) 2 = O.leB (n % 65536) 2 := by
  rw [← O.leB_mod256 (u32 n) 2, ← O.leB_mod256 (n % 65536) 2]
  congr 1
  unfold u32
  omega
section
variable {zs : List Int} {p : Nat} {b : Rfu}
structure Fine (x : Itm) : Prop where
  lin : NumL x.e
  few : x.e.terms.length ≤ 65535
  m : -2147483648 ≤ x.m ∧ x.m ≤ 2147483647
  n : -9223372036854775808 ≤ x.n ∧ x.n ≤ 9223372036854775807
theorem code_len (x : Itm) : (sCode x).length = 7 + (if shE (shapeN x.op) then sLin x.e else []).length := by
  unfold sCode
  simp only [List.length_append, O.leB_length]
theorem u32_of (v : Int) (h : 0 ≤ v ∧ v < 4294967296) : u32 v = v := by unfold u32; omega
theorem u32_sgn4 (v : Int) (h : 0 ≤ v ∧ v < 4294967296) : u32 (O.sgn v 4) = v := by
  unfold O.sgn u32
  simp [wrap32]
  omega
theorem leB_sgn2 (v : Int) (h : 0 ≤ v ∧ v < 65536) : O.leB (u32 (O.sgn v 2)) 2 = O.leB v 2 := by
  rw [leB_u32]
  congr 1
  unfold O.sgn
  simp [wrap32, O.i16wrap]
  omega
theorem m00 : -2147483648 ≤ (0 : Int) ∧ (0 : Int) ≤ 2147483647 := by decide
theorem n00 : -9223372036854775808 ≤ (0 : Int) ∧ (0 : Int) ≤ 9223372036854775807 := by decide
theorem numL_E : NumL linE := ⟨by decide, fun t ht => by cases ht⟩
theorem item_bwd (hz : O.AreBytes zs) (h : (itR zs p b).2.2 = none) : b = none ∧ At zs p (sItem (itR zs p b).1) ∧ (itR zs p b).2.1 = p + (sItem (itR zs p b).1).length ∧ Fine (itR zs p b).1 := by
  have hv := rdV_wd hz p 1
  unfold itR at h ⊢
  by_cases h1 : rdV zs p 1 = 1
  · simp only [if_pos h1] at h ⊢
    obtain ⟨g1, g2, g3, g4⟩ := text_bwd hz h
    obtain ⟨n1, n2, n3⟩ := num_bwd hz g1
    rw [h1] at n2
    rw [n3] at g2 g3 ⊢
    have es : sItem ⟨1, txL zs (p + 1), 0, 0, 0, 0, 0, linE, 0⟩ = O.leB 1 1 ++ sTx (txL zs (p + 1)) := rfl
    rw [es]
    exact ⟨n1, n2.app (by rw [O.leB_length]; exact g2), by rw [g3, List.length_append, O.leB_length]; omega, numL_E, Nat.zero_le _, m00, n00⟩
  · by_cases h2 : rdV zs p 1 = 2
    · simp only [if_neg h1, if_pos h2] at h ⊢
      have q0 : rdB zs p 1 b = none ∧ True := by
        refine ⟨?_, trivial⟩
        unfold cdE at h
        split at h
        · have l1 := (lin_bwd hz h).1
          unfold cdF at l1
          exact (num_bwd hz (num_bwd hz (num_bwd hz (num_bwd hz l1).1).1).1).1
        · unfold cdF at h
          exact (num_bwd hz (num_bwd hz (num_bwd hz (num_bwd hz h).1).1).1).1
      obtain ⟨n1, n2, n3⟩ := num_bwd hz q0.1
      rw [h2] at n2
      have q1 : cdF zs (rdP zs p 1) (rdB zs p 1 b) = none := by
        unfold cdE at h
        split at h
        · exact (lin_bwd hz h).1
        · exact h
      rw [n3] at q1 h ⊢
      have q1' := q1
      unfold cdF at q1'
      obtain ⟨r1, r2, r3⟩ := num_bwd hz q1'
      obtain ⟨s1, s2, s3⟩ := num_bwd hz r1
      obtain ⟨t1, t2, t3⟩ := num_bwd hz s1
      obtain ⟨u1, u2, u3⟩ := num_bwd hz t1
      rw [u3] at t2 t3 s2 s3 r2 r3
      rw [t3] at s2 s3 r2 r3
      rw [s3] at r2 r3
      have vo := rdV_wd hz (p + 1) 1
      have va := rdV_wd hz (p + 1 + 1) 1
      have vb := rdV_wd hz (p + 1 + 1 + 1) 1
      have vm := rdV_wd hz (p + 1 + 1 + 1 + 1) 4
      have c1 : cdOp zs (p + 1) = rdV zs (p + 1) 1 := rfl
      have c2 : cdA zs (p + 1) = rdV zs (p + 1 + 1) 1 := by unfold cdA; rw [u3]
      have c3 : cdB zs (p + 1) = rdV zs (p + 1 + 1 + 1) 1 := by unfold cdB; rw [u3, t3]
      have c4 : cdM zs (p + 1) = O.sgn (rdV zs (p + 1 + 1 + 1 + 1) 4) 4 := by unfold cdM; rw [u3, t3, s3]
      have c5 : cdQ zs (p + 1) = p + 8 := by unfold cdQ; rw [u3, t3, s3, r3]
      have hA : At zs (p + 1) (O.leB (u32 (cdOp zs (p + 1))) 1 ++ O.leB (u32 (cdA zs (p + 1))) 1 ++ O.leB (u32 (cdB zs (p + 1))) 1 ++ O.leB (u32 (cdM zs (p + 1))) 4) := by
        rw [c1, c2, c3, c4, u32_of _ ⟨vo.1, by have := vo.2; omega⟩, u32_of _ ⟨va.1, by have := va.2; omega⟩, u32_of _ ⟨vb.1, by have := vb.2; omega⟩, u32_sgn4 _ ⟨vm.1, by have := vm.2; omega⟩]
        refine ((u2.app ?_).app ?_).app ?_
        · rw [O.leB_length]; exact t2
        · simp only [List.length_append, O.leB_length]; exact s2
        · simp only [List.length_append, O.leB_length]; exact r2
      have hE : At zs (p + 8) (if shE (shapeN (cdOp zs (p + 1))) then sLin ⟨cdL zs (p + 1) (rdB zs p 1 b), cdN zs (p + 1) (rdB zs p 1 b)⟩ else []) ∧ cdP zs (p + 1) (rdB zs p 1 b) = p + 8 + (if shE (shapeN (cdOp zs (p + 1))) then sLin ⟨cdL zs (p + 1) (rdB zs p 1 b), cdN zs (p + 1) (rdB zs p 1 b)⟩ else []).length ∧ (cdL zs (p + 1) (rdB zs p 1 b)).length ≤ 65535 ∧ NumL ⟨cdL zs (p + 1) (rdB zs p 1 b), cdN zs (p + 1) (rdB zs p 1 b)⟩ := by
        unfold cdL cdN cdP
        unfold cdE at h
        rw [c5] at h ⊢
        cases hS : shE (shapeN (cdOp zs (p + 1))) with
        | true =>
          rw [hS] at h
          simp only [if_true] at h ⊢
          obtain ⟨_, l2, l3, l4, l5⟩ := lin_bwd hz h
          exact ⟨l2, l3, l4, l5⟩
        | false =>
          have hl := hA.2
          simp only [List.length_append, O.leB_length] at hl
          simp only [Bool.false_eq_true, if_false]
          exact ⟨At.nil (by omega), rfl, Nat.zero_le _, numL_E⟩
      have es : ∀ x : Itm, x.kind = 2 → sItem x = O.leB 2 1 ++ sCode x := fun x hk => by
        unfold sItem
        rw [hk]
        rfl
      rw [es _ rfl]
      refine ⟨n1, n2.app ?_, ?_, hE.2.2.2, hE.2.2.1, ?_, n00⟩
      · rw [O.leB_length]
        unfold sCode
        refine hA.app ?_
        simp only [List.length_append, O.leB_length]
        have e8 : p + 1 + (1 + 1 + 1 + 4) = p + 8 := by omega
        rw [e8]
        exact hE.1
      · rw [hE.2.1, List.length_append, O.leB_length, code_len]
        dsimp only
        omega
      · show -2147483648 ≤ cdM zs (p + 1) ∧ cdM zs (p + 1) ≤ 2147483647
        rw [c4]
        exact sgn_bd _ _
    · by_cases h3 : rdV zs p 1 = 3
      · simp only [if_neg h1, if_neg h2, if_pos h3] at h ⊢
        obtain ⟨g1, g2, g3⟩ := num_bwd hz h
        obtain ⟨n1, n2, n3⟩ := num_bwd hz g1
        rw [h3] at n2
        rw [n3] at g2 g3 ⊢
        have v2 := rdV_wd hz (p + 1) 2
        have es : sItem ⟨3, [], 0, 0, 0, 0, 0, linE, rdV zs (p + 1) 2⟩ = O.leB 3 1 ++ O.leB (u32 (rdV zs (p + 1) 2)) 2 := rfl
        rw [es, u32_of _ ⟨v2.1, by have := v2.2; omega⟩]
        exact ⟨n1, n2.app (by rw [O.leB_length]; exact g2), by rw [g3, List.length_append, O.leB_length, O.leB_length], numL_E, Nat.zero_le _, m00, by show _ ≤ rdV zs (p + 1) 2 ∧ rdV zs (p + 1) 2 ≤ _; omega⟩
      · by_cases h5 : rdV zs p 1 = 5
        · simp only [if_neg h1, if_neg h2, if_neg h3, if_pos h5] at h ⊢
          obtain ⟨g1, g2, g3⟩ := num_bwd hz h
          obtain ⟨n1, n2, n3⟩ := num_bwd hz g1
          rw [h5] at n2
          rw [n3] at g2 g3 ⊢
          have v2 := rdV_wd hz (p + 1) 2
          have es : sItem ⟨5, [], 0, 0, 0, 0, 0, linE, O.sgn (rdV zs (p + 1) 2) 2⟩ = O.leB 5 1 ++ O.leB (u32 (O.sgn (rdV zs (p + 1) 2) 2)) 2 := rfl
          rw [es, leB_sgn2 _ ⟨v2.1, by have := v2.2; omega⟩]
          have hs := sgn_bd (rdV zs (p + 1) 2) 2
          exact ⟨n1, n2.app (by rw [O.leB_length]; exact g2), by rw [g3, List.length_append, O.leB_length, O.leB_length], numL_E, Nat.zero_le _, m00, by show _ ≤ O.sgn (rdV zs (p + 1) 2) 2 ∧ O.sgn (rdV zs (p + 1) 2) 2 ≤ _; omega⟩
        · by_cases h6 : rdV zs p 1 = 6
          · simp only [if_neg h1, if_neg h2, if_neg h3, if_neg h5, if_pos h6] at h ⊢
            obtain ⟨g1, g2, g3, g4, g5⟩ := lin_bwd hz h
            obtain ⟨n1, n2, n3⟩ := num_bwd hz g1
            rw [h6] at n2
            rw [n3] at g2 g3 g4 g5 ⊢
            have es : ∀ e : Lin, sItem ⟨6, [], 0, 0, 0, 0, 0, e, 0⟩ = O.leB 6 1 ++ sLin e := fun e => rfl
            rw [es]
            exact ⟨n1, n2.app (by rw [O.leB_length]; exact g2), by rw [g3, List.length_append, O.leB_length]; omega, g5, g4, m00, n00⟩
          · by_cases h7 : rdV zs p 1 = 7
            · simp only [if_neg h1, if_neg h2, if_neg h3, if_neg h5, if_neg h6, if_pos h7] at h ⊢
              obtain ⟨g1, g2, g3⟩ := num_bwd hz h
              obtain ⟨n1, n2, n3⟩ := num_bwd hz g1
              rw [h7] at n2
              rw [n3] at g2 g3 ⊢
              have v2 := rdV_wd hz (p + 1) 4
              have es : sItem ⟨7, [], 0, 0, 0, 0, 0, linE, rdV zs (p + 1) 4⟩ = O.leB 7 1 ++ O.leB (u32 (rdV zs (p + 1) 4)) 4 := rfl
              rw [es, u32_of _ ⟨v2.1, by have := v2.2; omega⟩]
              exact ⟨n1, n2.app (by rw [O.leB_length]; exact g2), by rw [g3, List.length_append, O.leB_length, O.leB_length], numL_E, Nat.zero_le _, m00, by show _ ≤ rdV zs (p + 1) 4 ∧ rdV zs (p + 1) 4 ≤ _; omega⟩
            · simp only [if_neg h1, if_neg h2, if_neg h3, if_neg h5, if_neg h6, if_neg h7] at h ⊢
              obtain ⟨n1, n2, n3⟩ := num_bwd hz h
              have es : sItem ⟨rdV zs p 1, [], 0, 0, 0, 0, 0, linE, 0⟩ = O.leB (u32 (rdV zs p 1)) 1 := by
                unfold sItem
                rw [if_neg h1, if_neg h2, if_neg (by show ¬ (rdV zs p 1 = 3 ∨ rdV zs p 1 = 5); omega), if_neg h6, if_neg h7, List.append_nil]
              rw [es, u32_of _ ⟨hv.1, by have := hv.2; omega⟩]
              exact ⟨n1, n2, by rw [n3, O.leB_length], numL_E, Nat.zero_le _, m00, n00⟩
end
end Go.Proofs.YtmndccbeddaphaaGreatDoor
/- object, plain facts: a unit that was written is read; what is read was written. -/
namespace Go.Proofs.YtmndccbeddaphaaGreatDoor
open Go.ChangeShapes Go.WideShapes Go.ChangeAt Go.RowKit
set_option linter.unusedVariables false
set_option linter.unusedSimpArgs false
set_option maxRecDepth 100000
section
variable {zs : List Int} {p : Nat} {b : Rfu}
theorem labN_cons (x : Itm) (l : List Itm) : labN (x :: l) = (if x.kind = 1 then [x.name] else []) ++ labN l := by
  unfold labN
  by_cases h : x.kind = 1
  · simp [h]
  · simp [h]
theorem itG_eq {x : Itm} {sec : Int} {g : INm} (ho : okI x sec = true) (hn : (g ++ (if x.kind = 1 then [x.name] else [])).Nodup) : itG x sec g = g ++ (if x.kind = 1 then [x.name] else []) := by
  have ho' : itOk x sec = true := ho
  unfold itG
  by_cases h : x.kind = 1
  · rw [if_pos ⟨ho', h⟩]
    simp only [h, if_true] at hn ⊢
    have : x.name ∉ g := fun hm => (List.nodup_append.1 hn).2.2 _ hm _ (by simp) rfl
    rw [givN, if_neg this]
  · rw [if_neg (fun hh => h hh.2)]
    simp [h]
theorem itLoop_some {sec : Int} {k : Nat} {acc : List Itm} {g : INm} {p : Nat} {f : Int × Int} : (rdItLoop zs sec k acc g p (some f)).2.2.2 ≠ none := by
  cases k <;> simp [rdItLoop]
theorem itB_none {x : Itm} {sec : Int} {g : INm} (h : itB x sec g p b = none) : b = none ∧ okI x sec = true ∧ ¬ (x.kind = 1 ∧ x.name ∈ g) := by
  unfold itB at h
  split at h
  · rename_i hh
    exact ⟨h, hh⟩
  · exact absurd h firstR_some
theorem itLoop_bwd (hz : O.AreBytes zs) (sec : Int) : ∀ (k : Nat) (acc : List Itm) (g : INm) (p : Nat) (b : Rfu), p ≤ zs.length → g.Nodup → (rdItLoop zs sec k acc g p b).2.2.2 = none → b = none ∧ ∃ l, (rdItLoop zs sec k acc g p b).1 = acc ++ l ∧ l.length = k ∧ At zs p (l.flatMap sItem) ∧ (rdItLoop zs sec k acc g p b).2.2.1 = p + (l.flatMap sItem).length ∧ (rdItLoop zs sec k acc g p b).2.1 = g ++ labN l ∧ (g ++ labN l).Nodup ∧ ∀ x ∈ l, okI x sec = true ∧ Fine x
  | 0, acc, g, p, b, hp, hg, h => ⟨h, [], by simp [rdItLoop], rfl, At.nil hp, by simp [rdItLoop], by simp [rdItLoop, labN], by simpa [labN] using hg, fun x hx => by cases hx⟩
  | k + 1, acc, g, p, b, hp, hg, h => by
    rw [rdItLoop] at h ⊢
    cases b with
    | some f => simp at h
    | none =>
      simp only [Option.isSome_none, Bool.false_eq_true, if_false] at h ⊢
      have hb : itB (itR zs p none).1 sec g p (itR zs p none).2.2 = none := by
        cases hq : itB (itR zs p none).1 sec g p (itR zs p none).2.2 with
        | none => rfl
        | some f => rw [hq] at h; exact absurd h itLoop_some
      obtain ⟨q1, q2, q3⟩ := itB_none hb
      obtain ⟨_, h2, h3, h4⟩ := item_bwd hz q1
      have h5 : (itR zs p none).2.1 ≤ zs.length := by rw [h3]; exact h2.2
      generalize (itR zs p none).1 = x at *
      have hn1 : (g ++ (if x.kind = 1 then [x.name] else [])).Nodup := by
        by_cases hk : x.kind = 1
        · simp only [hk, if_true]
          refine List.nodup_append.2 ⟨hg, by simp, fun y hy z hz e => ?_⟩
          simp at hz
          subst hz e
          exact q3 ⟨hk, hy⟩
        · simpa [hk] using hg
      rw [itG_eq q2 hn1] at h ⊢
      obtain ⟨_, l, e1, e2, e3, e4, e5, e6, e7⟩ := itLoop_bwd hz sec k (acc ++ [x]) _ _ _ h5 hn1 h
      refine ⟨trivial, x :: l, by rw [e1]; simp, by simp [e2], ?_, ?_, ?_, ?_, fun y hy => ?_⟩
      · rw [List.flatMap_cons]
        rw [h3] at e3
        exact h2.app e3
      · rw [e4, h3, List.flatMap_cons, List.length_append]
        omega
      · rw [e5, labN_cons, List.append_assoc]
      · rw [labN_cons, ← List.append_assoc]
        exact e6
      · rcases List.mem_cons.1 hy with rfl | hy
        · exact ⟨q2, h4⟩
        · exact e7 y hy
theorem manyB_none {n most : Int} (h : manyB n most p b = none) : b = none ∧ n ≤ most := by
  unfold manyB at h
  split at h
  · exact absurd h firstR_some
  · exact ⟨h, by omega⟩
theorem num_le (hz : O.AreBytes zs) (h : rdB zs p 2 b = none) : rdP zs p 2 ≤ zs.length := by
  obtain ⟨_, h2, h3⟩ := num_bwd hz h
  rw [h3]
  have := h2.2
  rwa [O.leB_length] at this
theorem itLoop_b {sec : Int} {k : Nat} {acc : List Itm} {g : INm} (h : (rdItLoop zs sec k acc g p b).2.2.2 = none) : b = none := by
  cases b with
  | none => rfl
  | some f => exact absurd h itLoop_some
theorem items_bwd (hz : O.AreBytes zs) {sec most : Int} {g : INm} (hg : g.Nodup) (h : (rdItems zs sec most g p b).2.2.2 = none) : b = none ∧ ∃ l, (rdItems zs sec most g p b).1 = l ∧ (l.length : Int) ≤ most ∧ l.length ≤ 65535 ∧ At zs p (sL sItem l) ∧ (rdItems zs sec most g p b).2.2.1 = p + (sL sItem l).length ∧ (rdItems zs sec most g p b).2.1 = g ++ labN l ∧ (g ++ labN l).Nodup ∧ ∀ x ∈ l, okI x sec = true ∧ Fine x := by
  unfold rdItems at h ⊢
  have hb1 := itLoop_b h
  obtain ⟨hb2, hmo⟩ := manyB_none hb1
  obtain ⟨g1, g2, g3⟩ := num_bwd hz hb2
  have hbd := rdV_bd hz p
  obtain ⟨_, l, e1, e2, e3, e4, e5, e6, e7⟩ := itLoop_bwd hz sec _ _ _ _ _ (num_le hz hb2) hg h
  rw [List.nil_append] at e1
  have hl : (l.length : Int) % 4294967296 = rdV zs p 2 := by omega
  refine ⟨g1, l, e1, by omega, by omega, ?_, ?_, e5, e6, e7⟩
  · unfold sL
    rw [hl]
    refine g2.app ?_
    rw [O.leB_length, ← g3]
    exact e3
  · rw [e4, g3]
    unfold sL
    rw [List.length_append, O.leB_length]
    omega
structure FineQ (q : Eqv) : Prop where
  lin : NumL q.2
  few : q.2.terms.length ≤ 65535
theorem equ_bwd (hz : O.AreBytes zs) (h : (eqR zs p b).2.2 = none) : b = none ∧ At zs p (sEqu (eqR zs p b).1) ∧ (eqR zs p b).2.1 = p + (sEqu (eqR zs p b).1).length ∧ FineQ (eqR zs p b).1 := by
  unfold eqR at h ⊢
  obtain ⟨h1, h2, h3, h4, h5⟩ := lin_bwd hz h
  obtain ⟨g1, g2, g3, g4⟩ := text_bwd hz h1
  dsimp only
  refine ⟨g1, ?_, ?_, h5, h4⟩
  · refine g2.app ?_
    rw [← g3]
    exact h2
  · rw [h3]
    unfold sEqu
    rw [List.length_append]
    dsimp only
    omega
theorem eqLoop_some {k : Nat} {acc : List Eqv} {g : INm} {p : Nat} {f : Int × Int} : (rdEqLoop zs k acc g p (some f)).2.2.2 ≠ none := by
  cases k <;> simp [rdEqLoop]
theorem eqLoop_bwd (hz : O.AreBytes zs) : ∀ (k : Nat) (acc : List Eqv) (g : INm) (p : Nat) (b : Rfu), p ≤ zs.length → g.Nodup → (rdEqLoop zs k acc g p b).2.2.2 = none → b = none ∧ ∃ l, (rdEqLoop zs k acc g p b).1 = acc ++ l ∧ l.length = k ∧ At zs p (l.flatMap sEqu) ∧ (rdEqLoop zs k acc g p b).2.2.1 = p + (l.flatMap sEqu).length ∧ (rdEqLoop zs k acc g p b).2.1 = g ++ l.map (·.1) ∧ (g ++ l.map (·.1)).Nodup ∧ ∀ q ∈ l, okE q = true ∧ FineQ q
  | 0, acc, g, p, b, hp, hg, h => ⟨h, [], by simp [rdEqLoop], rfl, At.nil hp, by simp [rdEqLoop], by simp [rdEqLoop], by simpa using hg, fun x hx => by cases hx⟩
  | k + 1, acc, g, p, b, hp, hg, h => by
    rw [rdEqLoop] at h ⊢
    cases b with
    | some f => simp at h
    | none =>
      simp only [Option.isSome_none, Bool.false_eq_true, if_false] at h ⊢
      have hb : eqB (eqR zs p none).1 g p (eqR zs p none).2.2 = none := by
        cases hq : eqB (eqR zs p none).1 g p (eqR zs p none).2.2 with
        | none => rfl
        | some f => rw [hq] at h; exact absurd h eqLoop_some
      have hb' := hb
      unfold eqB at hb'
      split at hb'
      · rename_i hh
        obtain ⟨_, h2, h3, h4⟩ := equ_bwd hz hb'
        have h5 : (eqR zs p none).2.1 ≤ zs.length := by rw [h3]; exact h2.2
        generalize (eqR zs p none).1 = x at *
        have hn1 : (g ++ [x.1]).Nodup := by
          refine List.nodup_append.2 ⟨hg, by simp, fun y hy z hz e => ?_⟩
          simp at hz
          subst hz e
          exact hh.2 hy
        have hG : eqG x g = g ++ [x.1] := by rw [eqG, if_pos hh.1, givN, if_neg hh.2]
        rw [hG] at h ⊢
        obtain ⟨_, l, e1, e2, e3, e4, e5, e6, e7⟩ := eqLoop_bwd hz k (acc ++ [x]) _ _ _ h5 hn1 h
        refine ⟨trivial, x :: l, by rw [e1]; simp, by simp [e2], ?_, ?_, ?_, ?_, fun y hy => ?_⟩
        · rw [List.flatMap_cons]
          rw [h3] at e3
          exact h2.app e3
        · rw [e4, h3, List.flatMap_cons, List.length_append]
          omega
        · rw [e5]; simp
        · simpa using e6
        · rcases List.mem_cons.1 hy with rfl | hy
          · exact ⟨hh.1, h4⟩
          · exact e7 y hy
      · exact absurd hb' firstR_some
theorem equs_bwd (hz : O.AreBytes zs) {most : Int} {g : INm} (hg : g.Nodup) (h : (rdEqus zs most g p b).2.2.2 = none) : b = none ∧ ∃ l, (rdEqus zs most g p b).1 = l ∧ (l.length : Int) ≤ most ∧ l.length ≤ 65535 ∧ At zs p (sL sEqu l) ∧ (rdEqus zs most g p b).2.2.1 = p + (sL sEqu l).length ∧ (rdEqus zs most g p b).2.1 = g ++ l.map (·.1) ∧ (g ++ l.map (·.1)).Nodup ∧ ∀ q ∈ l, okE q = true ∧ FineQ q := by
  unfold rdEqus at h ⊢
  have hb1 : manyB (rdV zs p 2) most p (rdB zs p 2 b) = none := by
    cases hq : manyB (rdV zs p 2) most p (rdB zs p 2 b) with
    | none => rfl
    | some f => rw [hq] at h; exact absurd h eqLoop_some
  obtain ⟨hb2, hmo⟩ := manyB_none hb1
  obtain ⟨g1, g2, g3⟩ := num_bwd hz hb2
  have hbd := rdV_bd hz p
  obtain ⟨_, l, e1, e2, e3, e4, e5, e6, e7⟩ := eqLoop_bwd hz _ _ _ _ _ (num_le hz hb2) hg h
  rw [List.nil_append] at e1
  have hl : (l.length : Int) % 4294967296 = rdV zs p 2 := by omega
  refine ⟨g1, l, e1, by omega, by omega, ?_, ?_, e5, e6, e7⟩
  · unfold sL
    rw [hl]
    refine g2.app ?_
    rw [O.leB_length, ← g3]
    exact e3
  · rw [e4, g3]
    unfold sL
    rw [List.length_append, O.leB_length]
    omega
def Asc (la : List UInt8) : INm → Prop
  | [] => True
  | s :: r => nlt la s = true ∧ Asc s r
def lastOf (la : List UInt8) : INm → List UInt8
  | [] => la
  | s :: r => lastOf s r
theorem glLoop_some {g : INm} {k : Nat} {acc : INm} {la : List UInt8} {p : Nat} {f : Int × Int} : (rdGlLoop zs g k acc la p (some f)).2.2.2 ≠ none := by
  cases k <;> simp [rdGlLoop]
theorem glLoop_bwd (hz : O.AreBytes zs) (g : INm) : ∀ (k : Nat) (acc : INm) (la : List UInt8) (p : Nat) (b : Rfu), p ≤ zs.length → (rdGlLoop zs g k acc la p b).2.2.2 = none → b = none ∧ ∃ l, (rdGlLoop zs g k acc la p b).1 = acc ++ l ∧ l.length = k ∧ At zs p (l.flatMap sTx) ∧ (rdGlLoop zs g k acc la p b).2.2.1 = p + (l.flatMap sTx).length ∧ Asc la l ∧ ∀ s ∈ l, s ∈ g
  | 0, acc, la, p, b, hp, h => ⟨h, [], by simp [rdGlLoop], rfl, At.nil hp, by simp [rdGlLoop], trivial, fun x hx => by cases hx⟩
  | k + 1, acc, la, p, b, hp, h => by
    rw [rdGlLoop] at h ⊢
    cases b with
    | some f => simp at h
    | none =>
      simp only [Option.isSome_none, Bool.false_eq_true, if_false] at h ⊢
      have hb : glB (txL zs p) la g p (txB zs p none) = none := by
        cases hq : glB (txL zs p) la g p (txB zs p none) with
        | none => rfl
        | some f => rw [hq] at h; exact absurd h glLoop_some
      have hb' := hb
      unfold glB at hb'
      split at hb'
      · rename_i hh
        obtain ⟨_, h2, h3, h4⟩ := text_bwd hz hb'
        have h5 : txP zs p ≤ zs.length := by rw [h3]; exact h2.2
        generalize txL zs p = x at *
        obtain ⟨_, l, e1, e2, e3, e4, e5, e6⟩ := glLoop_bwd hz g k (acc ++ [x]) x _ _ h5 h
        refine ⟨trivial, x :: l, by rw [e1]; simp, by simp [e2], ?_, ?_, ⟨hh.2, e5⟩, fun y hy => ?_⟩
        · rw [List.flatMap_cons]
          rw [h3] at e3
          exact h2.app e3
        · rw [e4, h3, List.flatMap_cons, List.length_append]
          omega
        · rcases List.mem_cons.1 hy with rfl | hy
          · exact hh.1
          · exact e6 y hy
      · exact absurd hb' firstR_some
theorem globs_bwd (hz : O.AreBytes zs) {g : INm} {la : List UInt8} (h : (rdGlobs zs g la p b).2.2.2 = none) : b = none ∧ ∃ l, (rdGlobs zs g la p b).1 = l ∧ l.length ≤ 65535 ∧ At zs p (sL sTx l) ∧ (rdGlobs zs g la p b).2.2.1 = p + (sL sTx l).length ∧ Asc la l ∧ ∀ s ∈ l, s ∈ g := by
  unfold rdGlobs at h ⊢
  have hb2 : rdB zs p 2 b = none := by
    cases hq : rdB zs p 2 b with
    | none => rfl
    | some f => rw [hq] at h; exact absurd h glLoop_some
  obtain ⟨g1, g2, g3⟩ := num_bwd hz hb2
  have hbd := rdV_bd hz p
  obtain ⟨_, l, e1, e2, e3, e4, e5, e6⟩ := glLoop_bwd hz g _ _ _ _ _ (num_le hz hb2) h
  rw [List.nil_append] at e1
  have hl : (l.length : Int) % 4294967296 = rdV zs p 2 := by omega
  refine ⟨g1, l, e1, by omega, ?_, ?_, e5, e6⟩
  · unfold sL
    rw [hl]
    refine g2.app ?_
    rw [O.leB_length, ← g3]
    exact e3
  · rw [e4, g3]
    unfold sL
    rw [List.length_append, O.leB_length]
    omega
end
end Go.Proofs.YtmndccbeddaphaaGreatDoor
namespace Go.Proofs.YtmndccbeddaphaaGreatDoor
open Go.ChangeShapes Go.WideShapes Go.ChangeAt Go.RowKit
set_option linter.unusedVariables false
set_option linter.unusedSimpArgs false
set_option maxRecDepth 100000
theorem sortS_perm (l : List (List UInt8)) : (sortS l).Perm l := List.mergeSort_perm l _
theorem once_twice {l : List (List UInt8)} (h : l.Nodup) : ¬ Twice l := by
  rintro ⟨i, s, h1, h2⟩
  obtain ⟨hi, e1⟩ := List.getElem?_eq_some_iff.1 h1
  obtain ⟨hj, e2⟩ := List.getElem?_eq_some_iff.1 h2
  have := (List.nodup_iff_pairwise_ne.1 h)
  exact (List.pairwise_iff_getElem.1 this) i (i + 1) hi hj (by omega) (e1.trans e2.symm)
def UpN (l : List (List UInt8)) : Prop := l.Pairwise fun x y => nlt x y = true
theorem rise_up {l : List (List UInt8)} (h : Rise l) (ht : ¬ Twice l) : UpN l := by
  refine List.pairwise_iff_getElem.2 fun i j hi hj hij => ?_
  have hadj : ∀ k (hk : k + 1 < l.length), nlt (l[k]'(by omega)) l[k + 1] = true := fun k hk => by
    have h1 : nlt l[k + 1] (l[k]'(by omega)) = false := (List.pairwise_iff_getElem.1 h) k (k + 1) (by omega) hk (by omega)
    rcases nlt_tri (l[k]'(by omega)) l[k + 1] with h2 | h2 | h2
    · exact h2
    · exact absurd ⟨k, l[k]'(by omega), List.getElem?_eq_getElem _, by rw [List.getElem?_eq_getElem hk, h2]⟩ ht
    · rw [h2] at h1; cases h1
  induction j with
  | zero => omega
  | succ j ih =>
    rcases Nat.lt_or_ge i j with h1 | h1
    · exact nlt_trans (ih (by omega) h1 hadj) (hadj j hj)
    · obtain rfl : i = j := by omega
      exact hadj i hj
theorem up_nodup {l : List (List UInt8)} (hu : UpN l) : l.Nodup := List.nodup_iff_pairwise_ne.2 (hu.imp fun {a b} hab e => by subst e; rw [nlt_irrefl] at hab; cases hab)
theorem twice_iff (l : List (List UInt8)) : ¬ Twice (sortS l) ↔ l.Nodup := by
  constructor
  · intro h
    exact (sortS_perm l).nodup_iff.1 (up_nodup (rise_up (sortS_rise l) h))
  · intro h
    exact once_twice ((sortS_perm l).nodup_iff.2 h)
theorem mem_sortS {s : List UInt8} {l : List (List UInt8)} : s ∈ sortS l ↔ s ∈ l := (sortS_perm l).mem_iff
theorem nodup_le {α : Type} [DecidableEq α] : ∀ (l m : List α), l.Nodup → (∀ x ∈ l, x ∈ m) → l.length ≤ m.length
  | [], m, _, _ => Nat.zero_le _
  | a :: l, m, h, hs => by
    have ha := hs a (List.mem_cons_self ..)
    have hn := List.nodup_cons.1 h
    have := nodup_le l (m.erase a) hn.2 (fun x hx => (List.mem_erase_of_ne (fun e => hn.1 (by rw [← e]; exact hx))).2 (hs x (List.mem_cons_of_mem _ hx)))
    rw [List.length_erase_of_mem ha] at this
    have : 0 < m.length := List.length_pos_of_mem ha
    rw [List.length_cons]
    omega
theorem asc_of {l : INm} {la : List UInt8} (h : ∀ i p g, l[i]? = some p → l[i + 1]? = some g → nlt p g = true) (h0 : ∀ s, l[0]? = some s → nlt la s = true) : Asc la l := by
  induction l generalizing la with
  | nil => trivial
  | cons s r ih =>
    refine ⟨h0 s rfl, ih (fun i p g h1 h2 => h (i + 1) p g (by simpa using h1) (by simpa using h2)) (fun t ht => h 0 s t rfl (by simpa using ht))⟩
theorem asc_step : ∀ {l : INm} {la : List UInt8}, Asc la l → ∀ i p g, l[i]? = some p → l[i + 1]? = some g → nlt p g = true
  | [], la, _, i, p, g, h1, _ => by simp at h1
  | s :: r, la, h, 0, p, g, h1, h2 => by
    cases h1
    match r, h.2, h2 with
    | [], _, h2 => simp at h2
    | t :: r, h3, h2 => cases h2; exact h3.1
  | s :: r, la, h, i + 1, p, g, h1, h2 => asc_step h.2 i p g (by simpa using h1) (by simpa using h2)
theorem asc_up : ∀ {l : INm} {la : List UInt8}, Asc la l → (∀ s ∈ l, nlt la s = true) ∧ UpN l
  | [], la, _ => ⟨fun s hs => (by cases hs), List.Pairwise.nil⟩
  | s :: r, la, h => by
    obtain ⟨h1, h2⟩ := asc_up h.2
    refine ⟨fun t ht => ?_, List.Pairwise.cons h1 h2⟩
    rcases List.mem_cons.1 ht with rfl | ht
    · exact h.1
    · exact nlt_trans h.1 (h1 t ht)
theorem nlt_nil_of {s : List UInt8} (h : s ≠ []) : nlt [] s = true := by
  rcases nlt_tri [] s with h1 | h1 | h1
  · exact h1
  · exact absurd h1.symm h
  · rw [nlt_nil] at h1; cases h1
structure WOk (u : UVal) : Prop where
  text : ∀ x ∈ u.text, okI x 0 = true ∧ Fine x
  data : ∀ x ∈ u.data, okI x 1 = true ∧ Fine x
  equs : ∀ q ∈ u.equs, okE q = true ∧ FineQ q
  few : u.text.length + u.data.length ≤ 8192
  fewE : u.equs.length ≤ 8192
  once : u.names.Nodup
  asc : Asc [] u.globs
  given : ∀ s ∈ u.globs, s ∈ u.names
theorem legB_ne {s : List UInt8} (h : legB (str s) = true) : s ≠ [] := by
  rintro rfl
  revert h
  decide +kernel
theorem labN_mem {l : List Itm} {s : List UInt8} (h : s ∈ labN l) : ∃ x ∈ l, x.kind = 1 ∧ x.name = s := by
  unfold labN at h
  obtain ⟨x, hx, rfl⟩ := List.mem_map.1 h
  obtain ⟨h1, h2⟩ := List.mem_filter.1 hx
  exact ⟨x, h1, by simpa using h2, rfl⟩
theorem okI_leg {x : Itm} {sec : Int} (h : okI x sec = true) (hk : x.kind = 1) : legB (str x.name) = true := by
  unfold okI okB at h
  simp only [Bool.and_eq_true] at h
  have h1 := h.2.1
  unfold nameB at h1
  rwa [if_pos hk] at h1
theorem WOk.right {u : UVal} (h : WOk u) : RightU u :=
  ⟨List.all_eq_true.2 fun x hx => (h.text x hx).1, List.all_eq_true.2 fun x hx => (h.data x hx).1, List.all_eq_true.2 fun x hx => (h.equs x hx).1, (twice_iff _).2 h.once, asc_step h.asc, fun g hg => mem_sortS.2 (h.given g hg)⟩
theorem WOk.rightN {u : UVal} (h : WOk u) : RightN u 0 := .inr ⟨by have := h.few; have := h.fewE; omega, .inl ⟨h.right, rfl⟩⟩
theorem WOk.many {u : UVal} (h : WOk u) : manyU u = false := by
  unfold manyU
  rw [Bool.or_eq_false_iff, Bool.or_eq_false_iff]
  refine ⟨?_, ?_, ?_⟩
  · rw [List.any_eq_false]
    intro x hx
    have := (h.text x hx).2.few
    simp [manyT]
    omega
  · rw [List.any_eq_false]
    intro x hx
    have := (h.data x hx).2.few
    simp [manyT]
    omega
  · rw [List.any_eq_false]
    intro x hx
    have := (h.equs x hx).2.few
    simp [manyQ]
    omega
theorem WOk.num {u : UVal} (h : WOk u) : NumU u := ⟨fun x hx => (h.text x hx).2.lin, fun x hx => (h.data x hx).2.lin, fun x hx => (h.equs x hx).2.lin⟩
theorem WOk.globs {u : UVal} (h : WOk u) : u.globs.length ≤ 65535 := by
  have h1 := nodup_le u.globs u.names (up_nodup (asc_up h.asc).2) h.given
  have h2 : u.names.length ≤ u.text.length + u.data.length + u.equs.length := by
    unfold UVal.names
    rw [List.length_append, List.length_append, List.length_map]
    have := labN_len u.text
    have := labN_len u.data
    omega
  have := h.few
  have := h.fewE
  omega
theorem WOk.held {u : UVal} (h : WOk u) : HeldU u := by
  have hi : ∀ sec x, okI x sec = true ∧ Fine x → HeldI x := fun sec x hx => by
    have hJ := okI_okJ hx.1 hx.2.lin (by have := hx.2.few; omega)
    exact ⟨by have := hJ.name; omega, hx.2.m, hx.2.n, by have := hx.2.few; omega, fun t ht => by have := (hJ.lin.each t ht).1; omega⟩
  refine ⟨⟨by have := h.few; omega, fun x hx => hi 0 x (h.text x hx)⟩, ⟨by have := h.few; omega, fun x hx => hi 1 x (h.data x hx)⟩, ⟨by have := h.fewE; omega, fun q hq => ?_⟩, by have := h.globs; omega⟩
  have hQ := okE_okQ (h.equs q hq).1 (h.equs q hq).2.lin (by have := (h.equs q hq).2.few; omega)
  exact ⟨by have := hQ.name; omega, by have := (h.equs q hq).2.few; omega, fun t ht => by have := (hQ.lin.each t ht).1; omega⟩
theorem WOk.wr {u : UVal} (h : WOk u) (hl : (sUnit u).length ≤ 1048576) : WrN u 0 := ⟨0, h.rightN, .inr (.inr (.inr ⟨rfl, h.many, hl, rfl⟩))⟩
section
variable {zs : List Int}
theorem head_bwd (h : (headF zs).2 = none) : headF zs = (5, none) ∧ At zs 0 hdL := by
  have key : ∀ (k i : Nat), (hdLoop zs k i).2 = none → hdLoop zs k i = (i + k, none) ∧ ∀ j, i ≤ j → j < i + k → zs[j]? = hdL[j]? := by
    intro k
    induction k with
    | zero => intro i _; exact ⟨rfl, fun j h1 h2 => by omega⟩
    | succ k ih =>
      intro i hh
      rw [hdLoop] at hh ⊢
      by_cases hq : zs[i]? = hdL[i]?
      · rw [if_pos hq] at hh ⊢
        obtain ⟨e1, e2⟩ := ih (i + 1) hh
        refine ⟨by rw [e1]; congr 1; omega, fun j h1 h2 => ?_⟩
        by_cases hj : j = i
        · subst hj; exact hq
        · exact e2 j (by omega) (by omega)
      · rw [if_neg hq] at hh
        cases hh
  obtain ⟨e1, e2⟩ := key 5 0 h
  have h4 := e2 4 (by omega) (by omega)
  have hl : 5 ≤ zs.length := by
    have : zs[4]? = some 1 := h4
    have := (List.getElem?_eq_some_iff.1 this).1
    omega
  have ht : zs.take 5 = hdL := by
    apply List.ext_getElem?
    intro j
    by_cases hj : j < 5
    · rw [List.getElem?_take, if_pos hj]
      exact e2 j (by omega) (by omega)
    · rw [List.getElem?_take, if_neg hj, List.getElem?_eq_none (by show 5 ≤ j; omega)]
  refine ⟨e1, ?_⟩
  have := At.of_take (zs := zs) (p := 0) (n := 5) (by omega)
  rw [List.drop_zero, ht] at this
  exact this
theorem unit_bwd (hz : O.AreBytes zs) (h : rdBad zs = none) : WOk (rdU zs) ∧ zs = sUnit (rdU zs) := by
  unfold rdBad tailB at h
  have hend : (rdG zs).2.2.2 = none ∧ zs.length ≤ (rdG zs).2.2.1 := by
    split at h
    · exact absurd h firstR_some
    · exact ⟨h, by omega⟩
  have g4 := globs_bwd hz (g := (rdE zs).2.1) (la := []) (p := (rdE zs).2.2.1) (b := (rdE zs).2.2.2) hend.1
  obtain ⟨b3, lg, e41, e42, e43, e44, e45, e46⟩ := g4
  have hT0 : (rdE zs).2.2.2 = none := b3
  have hgT : ([] : INm).Nodup := List.nodup_nil
  -- the refusals ahead
  have hEb : (rdD zs).2.2.2 = none := by
    have : (rdEqus zs 8192 (rdD zs).2.1 (rdD zs).2.2.1 (rdD zs).2.2.2).2.2.2 = none := hT0
    cases hq : (rdD zs).2.2.2 with
    | none => rfl
    | some f =>
      rw [hq] at this
      unfold rdEqus at this
      have hm : manyB (rdV zs (rdD zs).2.2.1 2) 8192 (rdD zs).2.2.1 (rdB zs (rdD zs).2.2.1 2 (some f)) ≠ none := by
        unfold manyB rdB
        split
        · exact firstR_some
        · split
          · simp
          · exact firstR_some
      cases hq2 : manyB (rdV zs (rdD zs).2.2.1 2) 8192 (rdD zs).2.2.1 (rdB zs (rdD zs).2.2.1 2 (some f)) with
      | none => exact absurd hq2 hm
      | some f2 => rw [hq2] at this; exact absurd this eqLoop_some
  have hsm : ∀ (n most : Int) (q : Nat) (f : Int × Int), manyB n most q (rdB zs q 2 (some f)) ≠ none := fun n most q f => by
    unfold manyB rdB
    split
    · exact firstR_some
    · split
      · simp
      · exact firstR_some
  have hDb : (rdT zs).2.2.2 = none := by
    have : (rdItems zs 1 (8192 - ((rdT zs).1.length : Int)) (rdT zs).2.1 (rdT zs).2.2.1 (rdT zs).2.2.2).2.2.2 = none := hEb
    cases hq : (rdT zs).2.2.2 with
    | none => rfl
    | some f =>
      rw [hq] at this
      unfold rdItems at this
      exact absurd (itLoop_b this) (hsm _ _ _ f)
  have hTb : (headF zs).2 = none := by
    have : (rdItems zs 0 8192 [] (headF zs).1 (headF zs).2).2.2.2 = none := hDb
    cases hq : (headF zs).2 with
    | none => rfl
    | some f =>
      rw [hq] at this
      unfold rdItems at this
      exact absurd (itLoop_b this) (hsm _ _ _ f)
  obtain ⟨hd1, hd2⟩ := head_bwd hTb
  -- the parts
  have p1 := items_bwd hz (sec := 0) (most := 8192) (p := (headF zs).1) (b := (headF zs).2) hgT hDb
  obtain ⟨_, lt, a1, a2, a3, a4, a5, a6, a7, a8⟩ := p1
  have p2 := items_bwd hz (sec := 1) (most := 8192 - ((rdT zs).1.length : Int)) (g := (rdT zs).2.1) (p := (rdT zs).2.2.1) (b := (rdT zs).2.2.2) (by rw [show (rdT zs).2.1 = [] ++ labN lt from a6]; exact a7) hEb
  obtain ⟨_, ld, b1, b2, b3', b4, b5, b6, b7, b8⟩ := p2
  have p3 := equs_bwd hz (most := 8192) (g := (rdD zs).2.1) (p := (rdD zs).2.2.1) (b := (rdD zs).2.2.2) (by rw [show (rdD zs).2.1 = (rdT zs).2.1 ++ labN ld from b6]; exact b7) hT0
  obtain ⟨_, le, c1, c2, c3, c4, c5, c6, c7, c8⟩ := p3
  have eT : (rdU zs).text = lt := a1
  have eD : (rdU zs).data = ld := b1
  have eE : (rdU zs).equs = le := c1
  have eG : (rdU zs).globs = lg := e41
  have nT : (rdT zs).2.1 = labN lt := by rw [show (rdT zs).2.1 = [] ++ labN lt from a6]; rfl
  have nD : (rdD zs).2.1 = labN lt ++ labN ld := by rw [show (rdD zs).2.1 = (rdT zs).2.1 ++ labN ld from b6, nT]
  have nE : (rdE zs).2.1 = labN lt ++ labN ld ++ le.map (·.1) := by rw [show (rdE zs).2.1 = (rdD zs).2.1 ++ le.map (·.1) from c6, nD]
  have nm : (rdU zs).names = labN lt ++ labN ld ++ le.map (·.1) := by unfold UVal.names; rw [eT, eD, eE]
  have hW : WOk (rdU zs) := by
    refine ⟨by rw [eT]; exact a8, by rw [eD]; exact b8, by rw [eE]; exact c8, ?_, by rw [eE]; omega, ?_, by rw [eG]; exact e45, ?_⟩
    · rw [eT, eD]
      have : ((rdT zs).1.length : Int) = (lt.length : Int) := by rw [show (rdT zs).1 = lt from a1]
      omega
    · rw [nm]
      have := c7
      rw [nD] at this
      exact this
    · rw [eG, nm]
      intro s hs
      have := e46 s hs
      rwa [nE] at this
  refine ⟨hW, ?_⟩
  have q1 : (headF zs).1 = 5 := by rw [hd1]
  have q2 : (rdT zs).2.2.1 = 5 + (sL sItem lt).length := by rw [show (rdT zs).2.2.1 = (headF zs).1 + (sL sItem lt).length from a5, q1]
  have q3 : (rdD zs).2.2.1 = 5 + (sL sItem lt).length + (sL sItem ld).length := by rw [show (rdD zs).2.2.1 = (rdT zs).2.2.1 + (sL sItem ld).length from b5, q2]
  have q4 : (rdE zs).2.2.1 = 5 + (sL sItem lt).length + (sL sItem ld).length + (sL sEqu le).length := by rw [show (rdE zs).2.2.1 = (rdD zs).2.2.1 + (sL sEqu le).length from c5, q3]
  have q5 : (rdG zs).2.2.1 = 5 + (sL sItem lt).length + (sL sItem ld).length + (sL sEqu le).length + (sL sTx lg).length := by rw [show (rdG zs).2.2.1 = (rdE zs).2.2.1 + (sL sTx lg).length from e44, q4]
  rw [q1] at a4
  rw [q2] at b4
  rw [q3] at c4
  rw [q4] at e43
  have hA : At zs 0 (hdL ++ (sL sItem lt ++ (sL sItem ld ++ (sL sEqu le ++ sL sTx lg)))) := hd2.app (a4.app (b4.app (c4.app e43)))
  have hS : sUnit (rdU zs) = hdL ++ (sL sItem lt ++ (sL sItem ld ++ (sL sEqu le ++ sL sTx lg))) := by unfold sUnit; rw [eT, eD, eE, eG]
  rw [← hS] at hA
  have hl : (sUnit (rdU zs)).length = (rdG zs).2.2.1 := by
    rw [q5, hS]
    simp only [List.length_append]
    show 5 + _ = _
    omega
  have h1 := hA.1
  rw [List.drop_zero, Nat.zero_add, List.drop_of_length_le (by omega), List.append_nil] at h1
  exact h1
end
end Go.Proofs.YtmndccbeddaphaaGreatDoor
