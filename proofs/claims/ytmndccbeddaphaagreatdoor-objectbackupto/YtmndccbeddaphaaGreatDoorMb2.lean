/- object, plain facts: an item stands at a place and is read there, and back. -/
import Derived.Test.YtmndccbeddaphaaGreatDoorObn1
import Derived.BigQuiet
import Derived.Test.YtmndccbeddaphaaGreatDoorOrd20
/- spandrelkeep's Large answers. -/
namespace Go.Proofs.YtmndccbeddaphaaGreatDoor
open Go.ChangeShapes Go.WideShapes Go.ChangeAt Go.RowKit
set_option linter.unusedVariables false
set_option linter.unusedSimpArgs false
set_option maxRecDepth 100000

/-- some bool is answered -/
def BoolOut (r : Ending) : Prop := ∃ bv, r = .returned (.bool bv)
theorem boolOut (bv : Bool) : BoolOut (.returned (.bool bv)) := ⟨bv, rfl⟩
/-- n units lie at block g -/
structure UsAt (w : World) (g n : Nat) : Prop where
  lt : g < w.heap.size
  each : ∀ i, i < n → ∃ ta t tc da d dc ea e ec, w.cell? ⟨g, i * 4, none⟩ = some (.slice ta t tc) ∧ w.cell? ⟨g, i * 4 + 1, none⟩ = some (.slice da d dc) ∧ w.cell? ⟨g, i * 4 + 2, none⟩ = some (.slice ea e ec) ∧ t ≤ 1100000 ∧ d ≤ 1100000 ∧ e ≤ 1100000

set_option maxHeartbeats 8000000 in
theorem large_is (g n : Nat) (hn : n ≤ 60) (w : World) (hx : UsAt w g n) :
    Calls Tryz.prog 13 #[.slice (some ⟨g, 0, none⟩) n n] w fun r w' => BoolOut r ∧ Below w.heap.size w w' := by
  replace hx := Hid.intro hx
  go_enter Tryz.func13, Tryz.ntmps13
  go_wp2
  all_goals first | omega | skip
  go_loopw [3, 4] (fun v3 v4 wr => ∃ (i m : Nat), v3 = .int .i64 (m : Int) ∧ v4 = .int .i64 (i : Int) ∧ i ≤ n ∧ m ≤ 3300000 * i ∧ Hid (Below w.heap.size w wr)) (fun v3 v4 wr => n - (intOf v4).toNat)
  case atStart => exact ⟨0, 0, rfl, rfl, by omega, by omega, Below.refl _ _⟩
  case round =>
    obtain ⟨i, m, rfl, rfl, hi, hm, hB⟩ := hrel
    by_cases hin : i < n
    · have q0 : decide ((i : Int) < (n : Int)) = true := by simp; omega
      have q1 : decide ((i : Int) < 65) = true := by simp; omega
      obtain ⟨ta, t, tc, da, d, dc, ea, e, ec, d0, d1, d2, ht, hd, he⟩ := hx.out.each i hin
      have c0 := (hB.out.cell (p := ⟨g, i * 4, none⟩) hx.out.lt).trans d0
      have c1 := (hB.out.cell (p := ⟨g, i * 4 + 1, none⟩) hx.out.lt).trans d1
      have c2 := (hB.out.cell (p := ⟨g, i * 4 + 2, none⟩) hx.out.lt).trans d2
      clear d0 d1 d2
      by_cases a1 : 600 < t
      · have b1 : decide (600 < t) = true := by simpa using a1
        have b2 : (600 : Int) < (t : Int) := by omega
        go_wp2
        all_goals first | omega | skip
        go_ret
        exact ⟨boolOut _, hB.out⟩
      · have b1 : decide (600 < t) = false := by simpa using a1
        have b2 : ¬ (600 : Int) < (t : Int) := by omega
        by_cases a2 : 300 < d
        · have b3 : decide (300 < d) = true := by simpa using a2
          have b4 : (300 : Int) < (d : Int) := by omega
          go_wp2
          all_goals first | omega | skip
          go_ret
          exact ⟨boolOut _, hB.out⟩
        · have b3 : decide (300 < d) = false := by simpa using a2
          have b4 : ¬ (300 : Int) < (d : Int) := by omega
          by_cases a3 : 100 < e
          · have b5 : decide (100 < e) = true := by simpa using a3
            have b6 : (100 : Int) < (e : Int) := by omega
            go_wp2
            all_goals first | omega | skip
            go_ret
            exact ⟨boolOut _, hB.out⟩
          · have b5 : decide (100 < e) = false := by simpa using a3
            have b6 : ¬ (100 : Int) < (e : Int) := by omega
            have w1 : IntKind.i64.wrap ((m : Int) + (t : Int)) = ((m + t : Nat) : Int) := by rw [IntKind.wrap_i64]; omega
            have w2 : IntKind.i64.wrap (((m + t : Nat) : Int) + (d : Int)) = ((m + t + d : Nat) : Int) := by rw [IntKind.wrap_i64]; omega
            have w3 : IntKind.i64.wrap (((m + t + d : Nat) : Int) + (e : Int)) = ((m + t + d + e : Nat) : Int) := by rw [IntKind.wrap_i64]; omega
            have w5 : IntKind.i64.wrap ((m : Int) + (t : Int) + (d : Int)) = ((m + t + d : Nat) : Int) := by rw [IntKind.wrap_i64]; omega
            have w4 : IntKind.i64.wrap ((m : Int) + (t : Int) + (d : Int) + (e : Int)) = ((m + t + d + e : Nat) : Int) := by rw [IntKind.wrap_i64]; omega
            go_wp2
            all_goals first | omega | skip
            go_quiet (fail)
            all_goals first | omega | skip
            go_wp2
            all_goals first | omega | skip
            go_roundw
            case rel => exact ⟨i + 1, m + t + d + e, by go_num, by go_num, by omega, by omega, below_drewN hB.out nq⟩
            case measure => simp [intOf]; omega
    · have q0 : decide ((i : Int) < (n : Int)) = false := by simp; omega
      obtain rfl : i = n := by omega
      go_wp2
      all_goals first | omega | skip
      go_ret
      exact ⟨boolOut _, hB.out⟩
end Go.Proofs.YtmndccbeddaphaaGreatDoor
/- object, plain facts: what stands at a place of some bytes is read there, and what is read stands there: numbers, texts, terms, Lins. -/
namespace Go.Proofs.YtmndccbeddaphaaGreatDoor
open Go.ChangeShapes Go.WideShapes Go.ChangeAt Go.RowKit
set_option linter.unusedVariables false
set_option linter.unusedSimpArgs false
set_option maxRecDepth 100000

/-- the bytes s stand at place p -/
def At (zs : List Int) (p : Nat) (s : List Int) : Prop := zs.drop p = s ++ zs.drop (p + s.length) ∧ p + s.length ≤ zs.length
theorem At.nil {zs : List Int} {p : Nat} (h : p ≤ zs.length) : At zs p [] := ⟨by simp, by simpa using h⟩
theorem At.app {zs s t : List Int} {p : Nat} (h : At zs p s) (g : At zs (p + s.length) t) : At zs p (s ++ t) := by
  refine ⟨?_, by have := g.2; simp; omega⟩
  rw [h.1, g.1, List.append_assoc, List.length_append, Nat.add_assoc]
theorem At.left {zs s t : List Int} {p : Nat} (h : At zs p (s ++ t)) : At zs p s := by
  have h1 := h.1
  refine ⟨?_, by have := h.2; simp at this; omega⟩
  have h2 : zs.drop (p + s.length) = t ++ zs.drop (p + (s ++ t).length) := by
    rw [← List.drop_drop, h1, List.append_assoc, List.drop_left]
  rw [h2, h1, List.append_assoc]
theorem At.right {zs s t : List Int} {p : Nat} (h : At zs p (s ++ t)) : At zs (p + s.length) t := by
  have h1 := h.1
  refine ⟨?_, by have := h.2; simp at this; omega⟩
  rw [← List.drop_drop, h1, List.append_assoc, List.drop_left, List.length_append, Nat.add_assoc]
theorem At.take {zs s : List Int} {p : Nat} (h : At zs p s) : (zs.drop p).take s.length = s := by
  rw [h.1, List.take_left]
theorem At.of_take {zs : List Int} {p n : Nat} (h : p + n ≤ zs.length) : At zs p ((zs.drop p).take n) := by
  have hl : ((zs.drop p).take n).length = n := by simp; omega
  refine ⟨?_, by rw [hl]; exact h⟩
  rw [hl, ← List.drop_drop, List.take_append_drop]
theorem At.here (pre s post : List Int) : At (pre ++ (s ++ post)) pre.length s := by
  refine ⟨?_, by simp⟩
  rw [List.drop_left, ← List.drop_drop, List.drop_left, List.drop_left]

namespace O
theorem leN_leB (n : Int) (k : Nat) (hn : 0 ≤ n) : leN (leB n k) = n % 256 ^ k := by
  induction k generalizing n with
  | zero => simp [leB, leN, Int.emod_one]
  | succ k ih =>
    rw [leB, leN, ih (n / 256) (by omega)]
    have hp : (0 : Int) < 256 ^ k := Int.pow_pos (by omega)
    have h1 : n / (256 * 256 ^ k) = n / 256 / 256 ^ k := by rw [Int.ediv_ediv]; simp
    rw [Int.pow_succ, Int.mul_comm (256 ^ k) 256, Int.emod_def (n / 256) (256 ^ k), Int.emod_def n (256 * 256 ^ k), h1, Int.mul_assoc]
    generalize 256 ^ k * (n / 256 / 256 ^ k) = x
    omega
theorem leB_leN : (l : List Int) → AreBytes l → leB (leN l) l.length = l
  | [], _ => rfl
  | z :: r, h => by
    have hz := h z (List.mem_cons_self ..)
    rw [leN, List.length_cons, leB]
    have h1 : (z + 256 * leN r) % 256 = z := by omega
    have h2 : (z + 256 * leN r) / 256 = leN r := by omega
    rw [h1, h2, leB_leN r (fun y hy => h y (List.mem_cons_of_mem _ hy))]
theorem leB_mod256 (n : Int) (k : Nat) : leB (n % 256 ^ k) k = leB n k := by
  induction k generalizing n with
  | zero => rfl
  | succ k ih =>
    rw [leB, leB]
    have hp : (0 : Int) < 256 ^ k := Int.pow_pos (by omega)
    have h1 : n % (256 * 256 ^ k) % 256 = n % 256 := Int.emod_emod_of_dvd n ⟨256 ^ k, rfl⟩
    have h2 : n % (256 * 256 ^ k) / 256 = n / 256 % 256 ^ k := by
      have h3 : n / (256 * 256 ^ k) = n / 256 / 256 ^ k := by rw [Int.ediv_ediv]; simp
      rw [Int.emod_def n, Int.emod_def (n / 256), h3, Int.mul_assoc]
      generalize 256 ^ k * (n / 256 / 256 ^ k) = x
      omega
    rw [Int.pow_succ, Int.mul_comm (256 ^ k) 256, h1, h2, ih]
end O

section
variable {zs : List Int} {p : Nat} {b : Rfu}

theorem num_fwd {n : Int} {wd : Nat} (h : At zs p (O.leB n wd)) (hn : 0 ≤ n ∧ n < 256 ^ wd) : rdV zs p wd = n ∧ rdP zs p wd = p + wd ∧ rdB zs p wd b = b := by
  have hl := h.2
  have ht := h.take
  rw [O.leB_length] at hl ht
  refine ⟨?_, ?_, ?_⟩
  · rw [rdV, if_pos hl, ht, O.leN_leB n wd hn.1, Int.emod_eq_of_lt hn.1 hn.2]
  · rw [rdP, if_pos hl]
  · rw [rdB, if_pos hl]
theorem firstR_some {b : Rfu} {f : Int × Int} : firstR b f ≠ none := by cases b <;> simp [firstR]
theorem num_bwd (hz : O.AreBytes zs) {wd : Nat} (h : rdB zs p wd b = none) : b = none ∧ At zs p (O.leB (rdV zs p wd) wd) ∧ rdP zs p wd = p + wd := by
  by_cases hq : p + wd ≤ zs.length
  · rw [rdB, if_pos hq] at h
    have hl : ((zs.drop p).take wd).length = wd := by simp; omega
    have e : O.leB (rdV zs p wd) wd = (zs.drop p).take wd := by
      have := O.leB_leN ((zs.drop p).take wd) (O.areBytes_take _ (O.areBytes_drop _ hz _) wd)
      rw [hl] at this
      rw [rdV, if_pos hq, this]
    exact ⟨h, by rw [e]; exact At.of_take hq, by rw [rdP, if_pos hq]⟩
  · rw [rdB, if_neg hq] at h
    exact absurd h firstR_some

theorem sTx_eq (s : List UInt8) : sTx s = O.leB ((s.length : Int) % 4294967296) 2 ++ O.numsOf (str s) := by
  unfold sTx O.putT
  rw [str_size, List.nil_append]
theorem nums_len (s : List UInt8) : (O.numsOf (str s)).length = s.length := by rw [O.numsOf_length, str_size]
theorem sTx_len (s : List UInt8) : (sTx s).length = 2 + s.length := by rw [sTx_eq, List.length_append, O.leB_length, nums_len]
theorem nums_back (s : List UInt8) : (strOfNums (O.numsOf (str s))).data.toList = s := by
  rw [strOfNums_data]
  unfold O.numsOf str
  simp only [List.map_map]
  conv => rhs; rw [← List.map_id s]
  refine List.map_congr_left fun z hz => ?_
  simp
theorem nums_back2 {l : List Int} (h : O.AreBytes l) : O.numsOf (str (strOfNums l).data.toList) = l := by
  rw [strOfNums_data]
  unfold O.numsOf str
  simp only [List.map_map]
  conv => rhs; rw [← List.map_id l]
  refine List.map_congr_left fun z hz => ?_
  have := h z hz
  simp
  omega

theorem getE_ok (h : p + 2 ≤ zs.length) : O.getE zs (p : Int) 2 = 0 := by
  unfold O.getE
  rw [if_neg (by simp [O.isW]; omega), if_neg (by omega)]
theorem getN_eq (h : p + 2 ≤ zs.length) : O.getN zs (p : Int) 2 = rdV zs p 2 := by
  unfold O.getN
  rw [if_pos (getE_ok h), rdV, if_pos h]
  rfl
theorem text_fwd {s : List UInt8} (h : At zs p (sTx s)) (hs : s.length ≤ 65535) : txL zs p = s ∧ txP zs p = p + (sTx s).length ∧ txB zs p b = b := by
  have h' := h
  rw [sTx_eq] at h'
  have hn := num_fwd (b := b) h'.left ⟨by omega, by omega⟩
  have hl := h.2
  rw [sTx_len] at hl
  have hN : O.getN zs (p : Int) 2 = (s.length : Int) := by rw [getN_eq (by omega), hn.1]; omega
  have hE : O.getTE zs (p : Int) 65535 = 0 := by
    unfold O.getTE
    rw [if_pos (getE_ok (by omega)), hN, if_neg (by omega), if_neg (by omega)]
  have hr := h'.right
  rw [O.leB_length] at hr
  have ht := hr.take
  rw [nums_len] at ht
  refine ⟨?_, ?_, ?_⟩
  · unfold txL txS O.getTS
    rw [if_pos hE, hN]
    have e1 : ((p : Int)).toNat + 2 = p + 2 := by omega
    have e2 : ((s.length : Nat) : Int).toNat = s.length := by omega
    rw [e1, e2, ht]
    exact nums_back s
  · rw [txP, if_pos hE, hN, sTx_len]
    omega
  · rw [txB, if_pos hE]
theorem text_bwd (hz : O.AreBytes zs) (h : txB zs p b = none) : b = none ∧ At zs p (sTx (txL zs p)) ∧ txP zs p = p + (sTx (txL zs p)).length ∧ (txL zs p).length ≤ 65535 := by
  by_cases hE : O.getTE zs (p : Int) 65535 = 0
  · rw [txB, if_pos hE] at h
    have hE' := hE
    unfold O.getTE at hE'
    by_cases h2 : p + 2 ≤ zs.length
    · rw [if_pos (getE_ok h2)] at hE'
      have hb := getN_bd hz (p : Int)
      obtain ⟨n, hn⟩ : ∃ n : Nat, O.getN zs (p : Int) 2 = (n : Int) := ⟨(O.getN zs (p : Int) 2).toNat, by omega⟩
      rw [hn] at hE' hb
      have h3 : p + 2 + n ≤ zs.length := by
        split at hE'
        · cases hE'
        · split at hE'
          · cases hE'
          · omega
      have htl : txL zs p = (strOfNums ((zs.drop (p + 2)).take n)).data.toList := by
        unfold txL txS O.getTS
        rw [if_pos hE, hn]
        have e1 : ((p : Int)).toNat + 2 = p + 2 := by omega
        have e2 : ((n : Nat) : Int).toNat = n := by omega
        rw [e1, e2]
      have hlen : (txL zs p).length = n := by rw [htl, strOfNums_data]; simp; omega
      have hst : sTx (txL zs p) = O.leB (rdV zs p 2) 2 ++ (zs.drop (p + 2)).take n := by
        rw [sTx_eq, hlen, htl, nums_back2 (O.areBytes_take _ (O.areBytes_drop _ hz _) n), ← getN_eq h2, hn]
        congr 2
        omega
      have h4 := num_bwd (b := none) hz (p := p) (wd := 2) (by rw [rdB, if_pos h2])
      refine ⟨h, ?_, ?_, by omega⟩
      · rw [hst]
        refine h4.2.1.app ?_
        rw [O.leB_length]
        exact At.of_take h3
      · rw [txP, if_pos hE, hn, sTx_len, hlen]
        omega
    · exfalso
      have : O.getE zs (p : Int) 2 ≠ 0 := by
        unfold O.getE
        split
        · decide
        · rw [if_pos (by omega)]; decide
      rw [if_neg this] at hE'
      exact this hE'
  · rw [txB, if_neg hE] at h
    exact absurd h firstR_some

theorem sTm_len (t : Tm) : (sTm t).length = (sTx t.name).length + 4 := by unfold sTm; rw [List.length_append, O.leB_length]
theorem term_fwd {t : Tm} (h : At zs p (sTm t)) (ht : okW t) : tmAt zs p = t ∧ tmP zs p = p + (sTm t).length ∧ tmB zs p b = b := by
  have h1 := text_fwd (b := b) h.left (by have := ht.1; omega)
  have h2 := num_fwd (b := b) h.right ⟨ht.2.1, by have := ht.2.2; omega⟩
  unfold tmAt tmP tmB tmN
  rw [h1.1, h1.2.1, h1.2.2, h2.1, h2.2.1, h2.2.2, sTm_len]
  exact ⟨rfl, by omega, rfl⟩
theorem term_bwd (hz : O.AreBytes zs) (h : tmB zs p b = none) : b = none ∧ At zs p (sTm (tmAt zs p)) ∧ tmP zs p = p + (sTm (tmAt zs p)).length := by
  unfold tmB at h
  obtain ⟨h1, h2, h3⟩ := num_bwd hz h
  obtain ⟨h4, h5, h6, h7⟩ := text_bwd hz h1
  rw [h6] at h2
  have e : (tmAt zs p).coef = rdV zs (p + (sTx (txL zs p)).length) 4 := by show rdV zs (txP zs p) 4 = _; rw [h6]
  refine ⟨h4, h5.app (by rw [e]; exact h2), ?_⟩
  rw [sTm_len]
  unfold tmP
  rw [h3, h6]
  show _ = p + ((sTx (txL zs p)).length + 4)
  omega
theorem tm_coef (hz : O.AreBytes zs) (p : Nat) : 0 ≤ (tmAt zs p).coef ∧ (tmAt zs p).coef ≤ 4294967295 := by
  have := rdV_wd hz (txP zs p) 4
  show 0 ≤ rdV zs (txP zs p) 4 ∧ rdV zs (txP zs p) 4 ≤ 4294967295
  omega

theorem loop_fwd : ∀ (ts acc : List Tm) (p : Nat), At zs p (ts.flatMap sTm) → (∀ t ∈ ts, okW t) → rdLoop zs ts.length acc p none = (acc ++ ts, p + (ts.flatMap sTm).length, none)
  | [], acc, p, h, _ => by simp [rdLoop]
  | t :: r, acc, p, h, ho => by
    rw [List.flatMap_cons] at h
    have h1 := term_fwd (b := none) h.left (ho t (List.mem_cons_self ..))
    rw [List.length_cons, rdLoop, h1.1, h1.2.1, h1.2.2]
    have h2 := loop_fwd r (acc ++ [t]) (p + (sTm t).length) h.right (fun x hx => ho x (List.mem_cons_of_mem _ hx))
    simp only [Option.isSome_none, Bool.false_eq_true, if_false]
    rw [h2, List.flatMap_cons, List.length_append]
    simp
    omega
theorem loop_bwd (hz : O.AreBytes zs) : ∀ (k : Nat) (acc : List Tm) (p : Nat) (b : Rfu), p ≤ zs.length ∨ 0 < k → (rdLoop zs k acc p b).2.2 = none → b = none ∧ ∃ ts, (rdLoop zs k acc p b).1 = acc ++ ts ∧ ts.length = k ∧ (p ≤ zs.length → At zs p (ts.flatMap sTm)) ∧ (rdLoop zs k acc p b).2.1 = p + (ts.flatMap sTm).length ∧ ∀ t ∈ ts, 0 ≤ t.coef ∧ t.coef ≤ 4294967295
  | 0, acc, p, b, _, h => ⟨h, [], by simp [rdLoop], rfl, fun hp => At.nil hp, by simp [rdLoop], fun t ht => by cases ht⟩
  | k + 1, acc, p, b, _, h => by
    rw [rdLoop] at h ⊢
    cases b with
    | some f => simp at h
    | none =>
      simp only [Option.isSome_none, Bool.false_eq_true, if_false] at h ⊢
      have hb : tmB zs p none = none := by
        cases hq : tmB zs p none with
        | none => rfl
        | some f =>
          rw [hq] at h
          cases k with
          | zero => simp [rdLoop] at h
          | succ k => simp [rdLoop] at h
      obtain ⟨_, h2, h3⟩ := term_bwd hz hb
      have h4 : tmP zs p ≤ zs.length := by rw [h3]; exact h2.2
      obtain ⟨_, ts, e1, e2, e3, e4, e5⟩ := loop_bwd hz k (acc ++ [tmAt zs p]) (tmP zs p) (tmB zs p none) (.inl h4) h
      refine ⟨trivial, tmAt zs p :: ts, by rw [e1]; simp, by simp [e2], fun _ => ?_, ?_, fun t ht => ?_⟩
      · rw [List.flatMap_cons]
        refine h2.app ?_
        have := e3 h4
        rw [h3] at this
        exact this
      · rw [e4, h3, List.flatMap_cons, List.length_append]
        omega
      · rcases List.mem_cons.1 ht with rfl | ht
        · exact tm_coef hz p
        · exact e5 t ht

theorem sLin_len (x : Lin) : (sLin x).length = 2 + (x.terms.flatMap sTm).length + 4 := by
  unfold sLin sTms
  rw [List.length_append, List.length_append, O.leB_length, O.leB_length]
theorem lin_fwd {x : Lin} (h : At zs p (sLin x)) (hx : okN x) (hm : x.terms.length ≤ 65535) : liL zs p none = x.terms ∧ liN zs p none = x.const ∧ liP zs p none = p + (sLin x).length ∧ liB zs p none = none := by
  unfold sLin sTms at h
  have h0 := h.left.left
  have h1 := h.left.right
  have h2 := h.right
  have hn := num_fwd (b := none) h0 ⟨by omega, by omega⟩
  rw [O.leB_length] at h1
  have hlp := loop_fwd x.terms [] (p + 2) h1 hx.each
  have hT : rdTerms zs p none = (x.terms, p + 2 + (x.terms.flatMap sTm).length, none) := by
    unfold rdTerms
    rw [hn.1, hn.2.1, hn.2.2]
    have e : ((x.terms.length : Int) % 4294967296).toNat = x.terms.length := by omega
    rw [e, hlp]
    rfl
  rw [List.length_append, O.leB_length] at h2
  have h3 := num_fwd (b := none) (n := x.const) (wd := 4) (p := p + 2 + (x.terms.flatMap sTm).length) (by rw [Nat.add_assoc]; exact h2) ⟨hx.const.1, by have := hx.const.2; omega⟩
  unfold liL liN liP liB
  rw [hT]
  exact ⟨rfl, h3.1, by rw [h3.2.1, sLin_len]; omega, h3.2.2⟩
theorem lin_bwd (hz : O.AreBytes zs) (h : liB zs p b = none) : b = none ∧ At zs p (sLin ⟨liL zs p b, liN zs p b⟩) ∧ liP zs p b = p + (sLin ⟨liL zs p b, liN zs p b⟩).length ∧ (liL zs p b).length ≤ 65535 ∧ NumL ⟨liL zs p b, liN zs p b⟩ := by
  unfold liB at h
  obtain ⟨h1, h2, h3⟩ := num_bwd hz h
  have hbd := rdV_bd hz p
  have h1' := h1
  unfold rdTerms at h1'
  have hp0 : rdP zs p 2 ≤ zs.length ∨ 0 < (rdV zs p 2).toNat := by
    by_cases hq : p + 2 ≤ zs.length
    · left; rw [rdP, if_pos hq]; exact hq
    · exfalso
      have : rdB zs p 2 b ≠ none := by rw [rdB, if_neg hq]; exact firstR_some
      have hv : rdV zs p 2 = 0 := by rw [rdV, if_neg hq]
      rw [hv] at h1'
      simp [rdLoop] at h1'
      exact this h1'
  obtain ⟨hb, ts, e1, e2, e3, e4, e5⟩ := loop_bwd hz _ _ _ _ hp0 h1'
  obtain ⟨g1, g2, g3⟩ := num_bwd hz hb
  have hL : liL zs p b = ts := by unfold liL rdTerms; rw [e1]; simp
  have hP : (rdTerms zs p b).2.1 = p + 2 + (ts.flatMap sTm).length := by unfold rdTerms; rw [e4, g3]
  have hpl : rdP zs p 2 ≤ zs.length := by rw [g3]; have := g2.2; rw [O.leB_length] at this; exact this
  have hA := e3 hpl
  rw [g3] at hA
  rw [hP] at h2 h3
  have hN : liN zs p b = rdV zs (p + 2 + (ts.flatMap sTm).length) 4 := by unfold liN; rw [hP]
  have hlen : O.leB (rdV zs p 2) 2 = O.leB ((ts.length : Int) % 4294967296) 2 := by
    have : (ts.length : Int) % 4294967296 = rdV zs p 2 := by omega
    rw [this]
  refine ⟨g1, ?_, ?_, by rw [hL]; omega, ?_⟩
  · rw [hL, hN]
    unfold sLin sTms
    rw [← hlen]
    refine (g2.app (by rw [O.leB_length]; exact hA)).app ?_
    rw [List.length_append, O.leB_length, ← Nat.add_assoc]
    exact h2
  · rw [sLin_len, hL]
    unfold liP
    rw [hP, h3]
    show _ = p + (2 + (ts.flatMap sTm).length + 4)
    omega
  · refine ⟨?_, fun t ht => e5 t (by rw [hL] at ht; exact ht)⟩
    rw [hN]
    have := rdV_wd hz (p + 2 + (ts.flatMap sTm).length) 4
    show 0 ≤ rdV zs _ 4 ∧ rdV zs _ 4 ≤ 4294967295
    omega
end
end Go.Proofs.YtmndccbeddaphaaGreatDoor
namespace Go.Proofs.YtmndccbeddaphaaGreatDoor
open Go.ChangeShapes Go.WideShapes Go.ChangeAt Go.RowKit
set_option linter.unusedVariables false
set_option linter.unusedSimpArgs false
set_option maxRecDepth 100000

theorem check_ok {op a b n f : Int} (h : checkN op a b n f = 0) : (1 ≤ op ∧ op ≤ 43) ∧ regB a b n (shapeN op).toNat = true := by
  unfold checkN at h
  by_cases hop : 1 ≤ op ∧ op ≤ 43
  · rw [if_neg (by simpa using hop)] at h
    cases hr : regB a b n (shapeN op).toNat with
    | false => rw [if_pos hr] at h; omega
    | true => exact ⟨hop, rfl⟩
  · rw [if_pos (by simpa using hop)] at h; omega
theorem max_small (s : Nat) (hs : s < 14) : aMax s ≤ 255 ∧ bMax s ≤ 255 := by
  have : ∀ j : Fin 14, aMax j.1 ≤ 255 ∧ bMax j.1 ≤ 255 := by decide +kernel
  exact this ⟨s, hs⟩

/-- what a right item looks like -/
theorem okI_form {x : Itm} {sec : Int} (h : okI x sec = true) :
    (x = ⟨1, x.name, 0, 0, 0, 0, 0, linE, 0⟩ ∧ legB (str x.name) = true) ∨
    (x = ⟨2, [], x.op, x.a, x.b, x.m, 0, x.e, 0⟩ ∧ (1 ≤ x.op ∧ x.op ≤ 43) ∧ (0 ≤ x.a ∧ x.a ≤ 255) ∧ (0 ≤ x.b ∧ x.b ≤ 255) ∧ (shE (shapeN x.op) = false → x.e = linE)) ∨
    (x = ⟨3, [], 0, 0, 0, 0, 0, linE, x.n⟩ ∧ 0 ≤ x.n ∧ x.n ≤ 256) ∨ (x = ⟨4, [], 0, 0, 0, 0, 0, linE, 0⟩) ∨
    (x = ⟨5, [], 0, 0, 0, 0, 0, linE, x.n⟩ ∧ -128 ≤ x.n ∧ x.n ≤ 255) ∨ (x = ⟨6, [], 0, 0, 0, 0, 0, x.e, 0⟩) ∨
    (x = ⟨7, [], 0, 0, 0, 0, 0, linE, x.n⟩ ∧ 0 ≤ x.n ∧ x.n ≤ 1048576) := by
  obtain ⟨kd, nm, op, a, b, m, fo, ⟨ts, c⟩, n⟩ := x
  unfold okI okB at h
  simp only [Bool.and_eq_true] at h
  obtain ⟨h1, h2, h3, h4, h5⟩ := h
  have hk : kd = 1 ∨ kd = 2 ∨ kd = 3 ∨ kd = 4 ∨ kd = 5 ∨ kd = 6 ∨ kd = 7 := by
    unfold standsB at h1
    split at h1
    · omega
    · split at h1
      · omega
      · split at h1
        · omega
        · cases h1
  have hnm : kd ≠ 1 → nm = [] := fun hne => by
    unfold nameB at h2
    rw [if_neg hne] at h2
    have := of_decide_eq_true h2
    simpa [str] using this
  have hin : kd ≠ 2 → op = 0 ∧ a = 0 ∧ b = 0 ∧ m = 0 ∧ fo = 0 := fun hne => by
    unfold instB at h3
    rw [if_neg hne] at h3
    exact of_decide_eq_true h3
  have hex : hasEB kd op = false → ts = [] ∧ c = 0 := fun hh => by
    unfold exprB at h4
    rw [hh] at h4
    simp only [Bool.false_eq_true, if_false, Bool.and_eq_true, decide_eq_true_eq, List.length_eq_zero_iff] at h4
    exact h4
  rcases hk with rfl | rfl | rfl | rfl | rfl | rfl | rfl
  · obtain ⟨rfl, rfl, rfl, rfl, rfl⟩ := hin (by decide)
    obtain ⟨rfl, rfl⟩ := hex rfl
    simp [numOfB] at h5
    subst h5
    exact .inl ⟨rfl, h2⟩
  · obtain rfl := hnm (by decide)
    simp [numOfB] at h5
    subst h5
    unfold instB at h3
    rw [if_pos rfl] at h3
    simp only [Bool.and_eq_true, decide_eq_true_eq] at h3
    obtain ⟨⟨rfl, _⟩, hc⟩ := h3
    obtain ⟨ho, hr⟩ := check_ok hc
    obtain ⟨s, hs, hs14, hsn⟩ := shape_nat op
    rw [hsn] at hr
    unfold regB at hr
    rw [Bool.and_eq_true] at hr
    have hr1 := of_decide_eq_true hr.1
    have := max_small s hs14
    refine .inr (.inl ⟨rfl, ho, ⟨hr1.1, by show a ≤ 255; omega⟩, ⟨hr1.2.2.1, by show b ≤ 255; omega⟩, fun hh => ?_⟩)
    obtain ⟨rfl, rfl⟩ := hex (by unfold hasEB; rw [if_pos rfl]; exact hh)
    rfl
  · obtain ⟨rfl, rfl, rfl, rfl, rfl⟩ := hin (by decide)
    obtain ⟨rfl, rfl⟩ := hex rfl
    obtain rfl := hnm (by decide)
    simp [numOfB] at h5
    exact .inr (.inr (.inl ⟨rfl, by show 0 ≤ n ∧ n ≤ 256; omega⟩))
  · obtain ⟨rfl, rfl, rfl, rfl, rfl⟩ := hin (by decide)
    obtain ⟨rfl, rfl⟩ := hex rfl
    obtain rfl := hnm (by decide)
    simp [numOfB] at h5
    subst h5
    exact .inr (.inr (.inr (.inl rfl)))
  · obtain ⟨rfl, rfl, rfl, rfl, rfl⟩ := hin (by decide)
    obtain ⟨rfl, rfl⟩ := hex rfl
    obtain rfl := hnm (by decide)
    simp [numOfB] at h5
    exact .inr (.inr (.inr (.inr (.inl ⟨rfl, h5⟩))))
  · obtain ⟨rfl, rfl, rfl, rfl, rfl⟩ := hin (by decide)
    obtain rfl := hnm (by decide)
    simp [numOfB] at h5
    subst h5
    exact .inr (.inr (.inr (.inr (.inr (.inl rfl)))))
  · obtain ⟨rfl, rfl, rfl, rfl, rfl⟩ := hin (by decide)
    obtain ⟨rfl, rfl⟩ := hex rfl
    obtain rfl := hnm (by decide)
    simp [numOfB] at h5
    exact .inr (.inr (.inr (.inr (.inr (.inr ⟨rfl, h5⟩)))))

theorem sgn4 (m : Int) (h : -2147483648 ≤ m ∧ m ≤ 2147483647) : O.sgn (u32 m) 4 = m := by
  unfold O.sgn u32
  simp [wrap32]
  omega
theorem sgn2 (n : Int) (h : -32768 ≤ n ∧ n ≤ 32767) : O.sgn (n % 65536) 2 = n := by
  unfold O.sgn
  simp [wrap32, O.i16wrap]
  omega
theorem leB_u32 (n : Int) : O.leB (u32 n) 2 = O.leB (n % 65536) 2 := by
  rw [← O.leB_mod256 (u32 n) 2, ← O.leB_mod256 (n % 65536) 2]
  congr 1
  unfold u32
  omega

section
variable {zs : List Int} {p : Nat} {b : Rfu}

/-- what Right does not ask -/
structure Fine (x : Itm) : Prop where
  lin : NumL x.e
  few : x.e.terms.length ≤ 65535
  m : -2147483648 ≤ x.m ∧ x.m ≤ 2147483647
  n : -9223372036854775808 ≤ x.n ∧ x.n ≤ 9223372036854775807

theorem code_len (x : Itm) : (sCode x).length = 7 + (if shE (shapeN x.op) then sLin x.e else []).length := by
  unfold sCode
  simp only [List.length_append, O.leB_length]

theorem item_fwd {x : Itm} {sec : Int} (h : At zs p (sItem x)) (ho : okI x sec = true) (hf : Fine x) : itR zs p none = (x, p + (sItem x).length, none) := by
  have hJ := okI_okJ ho hf.lin (by have := hf.few; omega)
  rcases okI_form ho with ⟨e, hl⟩ | ⟨e, h1, h2, h3, h4⟩ | ⟨e, h1⟩ | e | ⟨e, h1⟩ | e | ⟨e, h1⟩
  · have es : sItem x = O.leB 1 1 ++ sTx x.name := by rw [e]; rfl
    rw [es] at h ⊢
    have hn := num_fwd (b := none) h.left ⟨by decide, by decide⟩
    have hr := h.right
    rw [O.leB_length] at hr
    have ht := text_fwd (b := none) hr (by have := hJ.name; omega)
    unfold itR
    rw [hn.1, hn.2.1, hn.2.2, if_pos rfl, ht.1, ht.2.1, ht.2.2, ← e, List.length_append, O.leB_length]
    simp
    omega
  · have es : sItem x = O.leB 2 1 ++ sCode x := by rw [e]; rfl
    rw [es] at h ⊢
    have hn := num_fwd (b := none) h.left ⟨by decide, by decide⟩
    have hr := h.right
    rw [O.leB_length] at hr
    unfold sCode at hr
    have eo : u32 x.op = x.op := by unfold u32; omega
    have ea : u32 x.a = x.a := by unfold u32; omega
    have eb : u32 x.b = x.b := by unfold u32; omega
    rw [eo, ea, eb] at hr
    have k1 := num_fwd (b := none) hr.left.left.left.left ⟨by omega, by omega⟩
    have k2' := hr.left.left.left.right
    rw [O.leB_length] at k2'
    have k2 := num_fwd (b := none) k2' ⟨by omega, by omega⟩
    have k3' := hr.left.left.right
    rw [List.length_append, O.leB_length, O.leB_length] at k3'
    have k3 := num_fwd (b := none) k3' ⟨by omega, by omega⟩
    have k4' := hr.left.right
    simp only [List.length_append, O.leB_length] at k4'
    have k4 := num_fwd (b := none) k4' ⟨by unfold u32; omega, by unfold u32; omega⟩
    have k5 := hr.right
    simp only [List.length_append, O.leB_length] at k5
    have c1 : cdOp zs (p + 1) = x.op := k1.1
    have c2 : cdA zs (p + 1) = x.a := by unfold cdA; rw [k1.2.1]; exact k2.1
    have c3 : cdB zs (p + 1) = x.b := by unfold cdB; rw [k1.2.1, k2.2.1]; exact k3.1
    have c4 : cdM zs (p + 1) = x.m := by unfold cdM; rw [k1.2.1, k2.2.1, k3.2.1]; have := k4.1; simp only [Nat.add_assoc] at this ⊢; rw [this]; exact sgn4 x.m hf.m
    have c5 : cdQ zs (p + 1) = p + 8 := by unfold cdQ; rw [k1.2.1, k2.2.1, k3.2.1]; have := k4.2.1; simp only [Nat.add_assoc] at this ⊢; rw [this]
    have c6 : cdF zs (p + 1) none = none := by unfold cdF; rw [k1.2.1, k2.2.1, k3.2.1, k1.2.2, k2.2.2, k3.2.2]; have := k4.2.2; simp only [Nat.add_assoc] at this ⊢; rw [this]
    have hE : cdL zs (p + 1) none = x.e.terms ∧ cdN zs (p + 1) none = x.e.const ∧ cdP zs (p + 1) none = p + 1 + (sCode x).length ∧ cdE zs (p + 1) none = none := by
      unfold cdL cdN cdP cdE
      rw [c1, c5, c6, code_len]
      cases hS : shE (shapeN x.op) with
      | true =>
        rw [hS] at k5
        simp only [if_true] at k5 ⊢
        have k6 := lin_fwd (p := p + 8) (by have e8 : p + 1 + (1 + 1 + 1 + 4) = p + 8 := by omega
                                            rw [e8] at k5; exact k5) hJ.lin hf.few
        exact ⟨k6.1, k6.2.1, by rw [k6.2.2.1]; omega, k6.2.2.2⟩
      | false =>
        rw [h4 hS]
        simp [linE]
    unfold itR
    rw [hn.1, hn.2.1, hn.2.2, if_neg (by decide), if_pos rfl, c1, c2, c3, c4, hE.1, hE.2.1, hE.2.2.1, hE.2.2.2, List.length_append, O.leB_length]
    refine Prod.ext ?_ (Prod.ext ?_ rfl)
    · exact e.symm
    · show p + 1 + (sCode x).length = p + (1 + (sCode x).length)
      omega
  · have es : sItem x = O.leB 3 1 ++ O.leB (u32 x.n) 2 := by rw [e]; rfl
    rw [es] at h ⊢
    have hn := num_fwd (b := none) h.left ⟨by decide, by decide⟩
    have hr := h.right
    rw [O.leB_length] at hr
    have en : u32 x.n = x.n := by unfold u32; omega
    rw [en] at hr
    have k1 := num_fwd (b := none) hr ⟨by omega, by omega⟩
    unfold itR
    rw [hn.1, hn.2.1, hn.2.2, if_neg (by decide), if_neg (by decide), if_pos rfl, k1.1, k1.2.1, k1.2.2, ← e, List.length_append, O.leB_length, O.leB_length]
  · have es : sItem x = O.leB 4 1 ++ [] := by rw [e]; rfl
    rw [es] at h ⊢
    have hn := num_fwd (b := none) h.left ⟨by decide, by decide⟩
    unfold itR
    rw [hn.1, hn.2.1, hn.2.2, if_neg (by decide), if_neg (by decide), if_neg (by decide), if_neg (by decide), if_neg (by decide), if_neg (by decide), List.length_append, O.leB_length]
    rw [← e]
    rfl
  · have es : sItem x = O.leB 5 1 ++ O.leB (u32 x.n) 2 := by rw [e]; rfl
    rw [es] at h ⊢
    have hn := num_fwd (b := none) h.left ⟨by decide, by decide⟩
    have hr := h.right
    rw [O.leB_length, leB_u32] at hr
    have k1 := num_fwd (b := none) hr ⟨by omega, by omega⟩
    unfold itR
    rw [hn.1, hn.2.1, hn.2.2, if_neg (by decide), if_neg (by decide), if_neg (by decide), if_pos rfl, k1.1, k1.2.1, k1.2.2, sgn2 x.n (by omega), ← e, List.length_append, O.leB_length, O.leB_length]
  · have es : sItem x = O.leB 6 1 ++ sLin x.e := by rw [e]; rfl
    rw [es] at h ⊢
    have hn := num_fwd (b := none) h.left ⟨by decide, by decide⟩
    have hr := h.right
    rw [O.leB_length] at hr
    have k6 := lin_fwd hr hJ.lin hf.few
    unfold itR
    rw [hn.1, hn.2.1, hn.2.2, if_neg (by decide), if_neg (by decide), if_neg (by decide), if_neg (by decide), if_pos rfl, k6.1, k6.2.1, k6.2.2.1, k6.2.2.2, List.length_append, O.leB_length]
    refine Prod.ext e.symm (Prod.ext ?_ rfl)
    show p + 1 + (sLin x.e).length = p + (1 + (sLin x.e).length)
    omega
  · have es : sItem x = O.leB 7 1 ++ O.leB (u32 x.n) 4 := by rw [e]; rfl
    rw [es] at h ⊢
    have hn := num_fwd (b := none) h.left ⟨by decide, by decide⟩
    have hr := h.right
    rw [O.leB_length] at hr
    have en : u32 x.n = x.n := by unfold u32; omega
    rw [en] at hr
    have k1 := num_fwd (b := none) hr ⟨by omega, by omega⟩
    unfold itR
    rw [hn.1, hn.2.1, hn.2.2, if_neg (by decide), if_neg (by decide), if_neg (by decide), if_neg (by decide), if_neg (by decide), if_pos rfl, k1.1, k1.2.1, k1.2.2, ← e, List.length_append, O.leB_length, O.leB_length]

theorem u32_of (v : Int) (h : 0 ≤ v ∧ v < 4294967296) : u32 v = v := by unfold u32; omega
theorem u32_sgn4 (v : Int) (h : 0 ≤ v ∧ v < 4294967296) : u32 (O.sgn v 4) = v := by
  unfold O.sgn u32
  simp [wrap32]
  omega
theorem leB_sgn2 (v : Int) (h : 0 ≤ v ∧ v < 65536) : O.leB (u32 (O.sgn v 2)) 2 = O.leB v 2 := by
  rw [leB_u32]
  congr 1
  unfold O.sgn
  simp [wrap32, O.i16wrap]
  omega
theorem m00 : -2147483648 ≤ (0 : Int) ∧ (0 : Int) ≤ 2147483647 := by decide
theorem n00 : -9223372036854775808 ≤ (0 : Int) ∧ (0 : Int) ≤ 9223372036854775807 := by decide
theorem numL_E : NumL linE := ⟨by decide, fun t ht => by cases ht⟩

theorem item_bwd (hz : O.AreBytes zs) (h : (itR zs p b).2.2 = none) : b = none ∧ At zs p (sItem (itR zs p b).1) ∧ (itR zs p b).2.1 = p + (sItem (itR zs p b).1).length ∧ Fine (itR zs p b).1 := by
  have hv := rdV_wd hz p 1
  unfold itR at h ⊢
  by_cases h1 : rdV zs p 1 = 1
  · simp only [if_pos h1] at h ⊢
    obtain ⟨g1, g2, g3, g4⟩ := text_bwd hz h
    obtain ⟨n1, n2, n3⟩ := num_bwd hz g1
    rw [h1] at n2
    rw [n3] at g2 g3 ⊢
    have es : sItem ⟨1, txL zs (p + 1), 0, 0, 0, 0, 0, linE, 0⟩ = O.leB 1 1 ++ sTx (txL zs (p + 1)) := rfl
    rw [es]
    exact ⟨n1, n2.app (by rw [O.leB_length]; exact g2), by rw [g3, List.length_append, O.leB_length]; omega, numL_E, Nat.zero_le _, m00, n00⟩
  · by_cases h2 : rdV zs p 1 = 2
    · simp only [if_neg h1, if_pos h2] at h ⊢
      have q0 : rdB zs p 1 b = none ∧ True := by
        refine ⟨?_, trivial⟩
        unfold cdE at h
        split at h
        · have l1 := (lin_bwd hz h).1
          unfold cdF at l1
          exact (num_bwd hz (num_bwd hz (num_bwd hz (num_bwd hz l1).1).1).1).1
        · unfold cdF at h
          exact (num_bwd hz (num_bwd hz (num_bwd hz (num_bwd hz h).1).1).1).1
      obtain ⟨n1, n2, n3⟩ := num_bwd hz q0.1
      rw [h2] at n2
      have q1 : cdF zs (rdP zs p 1) (rdB zs p 1 b) = none := by
        unfold cdE at h
        split at h
        · exact (lin_bwd hz h).1
        · exact h
      rw [n3] at q1 h ⊢
      have q1' := q1
      unfold cdF at q1'
      obtain ⟨r1, r2, r3⟩ := num_bwd hz q1'
      obtain ⟨s1, s2, s3⟩ := num_bwd hz r1
      obtain ⟨t1, t2, t3⟩ := num_bwd hz s1
      obtain ⟨u1, u2, u3⟩ := num_bwd hz t1
      rw [u3] at t2 t3 s2 s3 r2 r3
      rw [t3] at s2 s3 r2 r3
      rw [s3] at r2 r3
      have vo := rdV_wd hz (p + 1) 1
      have va := rdV_wd hz (p + 1 + 1) 1
      have vb := rdV_wd hz (p + 1 + 1 + 1) 1
      have vm := rdV_wd hz (p + 1 + 1 + 1 + 1) 4
      have c1 : cdOp zs (p + 1) = rdV zs (p + 1) 1 := rfl
      have c2 : cdA zs (p + 1) = rdV zs (p + 1 + 1) 1 := by unfold cdA; rw [u3]
      have c3 : cdB zs (p + 1) = rdV zs (p + 1 + 1 + 1) 1 := by unfold cdB; rw [u3, t3]
      have c4 : cdM zs (p + 1) = O.sgn (rdV zs (p + 1 + 1 + 1 + 1) 4) 4 := by unfold cdM; rw [u3, t3, s3]
      have c5 : cdQ zs (p + 1) = p + 8 := by unfold cdQ; rw [u3, t3, s3, r3]
      have hA : At zs (p + 1) (O.leB (u32 (cdOp zs (p + 1))) 1 ++ O.leB (u32 (cdA zs (p + 1))) 1 ++ O.leB (u32 (cdB zs (p + 1))) 1 ++ O.leB (u32 (cdM zs (p + 1))) 4) := by
        rw [c1, c2, c3, c4, u32_of _ ⟨vo.1, by have := vo.2; omega⟩, u32_of _ ⟨va.1, by have := va.2; omega⟩, u32_of _ ⟨vb.1, by have := vb.2; omega⟩, u32_sgn4 _ ⟨vm.1, by have := vm.2; omega⟩]
        refine ((u2.app ?_).app ?_).app ?_
        · rw [O.leB_length]; exact t2
        · simp only [List.length_append, O.leB_length]; exact s2
        · simp only [List.length_append, O.leB_length]; exact r2
      have hE : At zs (p + 8) (if shE (shapeN (cdOp zs (p + 1))) then sLin ⟨cdL zs (p + 1) (rdB zs p 1 b), cdN zs (p + 1) (rdB zs p 1 b)⟩ else []) ∧ cdP zs (p + 1) (rdB zs p 1 b) = p + 8 + (if shE (shapeN (cdOp zs (p + 1))) then sLin ⟨cdL zs (p + 1) (rdB zs p 1 b), cdN zs (p + 1) (rdB zs p 1 b)⟩ else []).length ∧ (cdL zs (p + 1) (rdB zs p 1 b)).length ≤ 65535 ∧ NumL ⟨cdL zs (p + 1) (rdB zs p 1 b), cdN zs (p + 1) (rdB zs p 1 b)⟩ := by
        unfold cdL cdN cdP
        unfold cdE at h
        rw [c5] at h ⊢
        cases hS : shE (shapeN (cdOp zs (p + 1))) with
        | true =>
          rw [hS] at h
          simp only [if_true] at h ⊢
          obtain ⟨_, l2, l3, l4, l5⟩ := lin_bwd hz h
          exact ⟨l2, l3, l4, l5⟩
        | false =>
          have hl := hA.2
          simp only [List.length_append, O.leB_length] at hl
          simp only [Bool.false_eq_true, if_false]
          exact ⟨At.nil (by omega), rfl, Nat.zero_le _, numL_E⟩
      have es : ∀ x : Itm, x.kind = 2 → sItem x = O.leB 2 1 ++ sCode x := fun x hk => by
        unfold sItem
        rw [hk]
        rfl
      rw [es _ rfl]
      refine ⟨n1, n2.app ?_, ?_, hE.2.2.2, hE.2.2.1, ?_, n00⟩
      · rw [O.leB_length]
        unfold sCode
        refine hA.app ?_
        simp only [List.length_append, O.leB_length]
        have e8 : p + 1 + (1 + 1 + 1 + 4) = p + 8 := by omega
        rw [e8]
        exact hE.1
      · rw [hE.2.1, List.length_append, O.leB_length, code_len]
        dsimp only
        omega
      · show -2147483648 ≤ cdM zs (p + 1) ∧ cdM zs (p + 1) ≤ 2147483647
        rw [c4]
        exact sgn_bd _ _
    · by_cases h3 : rdV zs p 1 = 3
      · simp only [if_neg h1, if_neg h2, if_pos h3] at h ⊢
        obtain ⟨g1, g2, g3⟩ := num_bwd hz h
        obtain ⟨n1, n2, n3⟩ := num_bwd hz g1
        rw [h3] at n2
        rw [n3] at g2 g3 ⊢
        have v2 := rdV_wd hz (p + 1) 2
        have es : sItem ⟨3, [], 0, 0, 0, 0, 0, linE, rdV zs (p + 1) 2⟩ = O.leB 3 1 ++ O.leB (u32 (rdV zs (p + 1) 2)) 2 := rfl
        rw [es, u32_of _ ⟨v2.1, by have := v2.2; omega⟩]
        exact ⟨n1, n2.app (by rw [O.leB_length]; exact g2), by rw [g3, List.length_append, O.leB_length, O.leB_length], numL_E, Nat.zero_le _, m00, by show _ ≤ rdV zs (p + 1) 2 ∧ rdV zs (p + 1) 2 ≤ _; omega⟩
      · by_cases h5 : rdV zs p 1 = 5
        · simp only [if_neg h1, if_neg h2, if_neg h3, if_pos h5] at h ⊢
          obtain ⟨g1, g2, g3⟩ := num_bwd hz h
          obtain ⟨n1, n2, n3⟩ := num_bwd hz g1
          rw [h5] at n2
          rw [n3] at g2 g3 ⊢
          have v2 := rdV_wd hz (p + 1) 2
          have es : sItem ⟨5, [], 0, 0, 0, 0, 0, linE, O.sgn (rdV zs (p + 1) 2) 2⟩ = O.leB 5 1 ++ O.leB (u32 (O.sgn (rdV zs (p + 1) 2) 2)) 2 := rfl
          rw [es, leB_sgn2 _ ⟨v2.1, by have := v2.2; omega⟩]
          have hs := sgn_bd (rdV zs (p + 1) 2) 2
          exact ⟨n1, n2.app (by rw [O.leB_length]; exact g2), by rw [g3, List.length_append, O.leB_length, O.leB_length], numL_E, Nat.zero_le _, m00, by show _ ≤ O.sgn (rdV zs (p + 1) 2) 2 ∧ O.sgn (rdV zs (p + 1) 2) 2 ≤ _; omega⟩
        · by_cases h6 : rdV zs p 1 = 6
          · simp only [if_neg h1, if_neg h2, if_neg h3, if_neg h5, if_pos h6] at h ⊢
            obtain ⟨g1, g2, g3, g4, g5⟩ := lin_bwd hz h
            obtain ⟨n1, n2, n3⟩ := num_bwd hz g1
            rw [h6] at n2
            rw [n3] at g2 g3 g4 g5 ⊢
            have es : ∀ e : Lin, sItem ⟨6, [], 0, 0, 0, 0, 0, e, 0⟩ = O.leB 6 1 ++ sLin e := fun e => rfl
            rw [es]
            exact ⟨n1, n2.app (by rw [O.leB_length]; exact g2), by rw [g3, List.length_append, O.leB_length]; omega, g5, g4, m00, n00⟩
          · by_cases h7 : rdV zs p 1 = 7
            · simp only [if_neg h1, if_neg h2, if_neg h3, if_neg h5, if_neg h6, if_pos h7] at h ⊢
              obtain ⟨g1, g2, g3⟩ := num_bwd hz h
              obtain ⟨n1, n2, n3⟩ := num_bwd hz g1
              rw [h7] at n2
              rw [n3] at g2 g3 ⊢
              have v2 := rdV_wd hz (p + 1) 4
              have es : sItem ⟨7, [], 0, 0, 0, 0, 0, linE, rdV zs (p + 1) 4⟩ = O.leB 7 1 ++ O.leB (u32 (rdV zs (p + 1) 4)) 4 := rfl
              rw [es, u32_of _ ⟨v2.1, by have := v2.2; omega⟩]
              exact ⟨n1, n2.app (by rw [O.leB_length]; exact g2), by rw [g3, List.length_append, O.leB_length, O.leB_length], numL_E, Nat.zero_le _, m00, by show _ ≤ rdV zs (p + 1) 4 ∧ rdV zs (p + 1) 4 ≤ _; omega⟩
            · simp only [if_neg h1, if_neg h2, if_neg h3, if_neg h5, if_neg h6, if_neg h7] at h ⊢
              obtain ⟨n1, n2, n3⟩ := num_bwd hz h
              have es : sItem ⟨rdV zs p 1, [], 0, 0, 0, 0, 0, linE, 0⟩ = O.leB (u32 (rdV zs p 1)) 1 := by
                unfold sItem
                rw [if_neg h1, if_neg h2, if_neg (by show ¬ (rdV zs p 1 = 3 ∨ rdV zs p 1 = 5); omega), if_neg h6, if_neg h7, List.append_nil]
              rw [es, u32_of _ ⟨hv.1, by have := hv.2; omega⟩]
              exact ⟨n1, n2, by rw [n3, O.leB_length], numL_E, Nat.zero_le _, m00, n00⟩
end
end Go.Proofs.YtmndccbeddaphaaGreatDoor
