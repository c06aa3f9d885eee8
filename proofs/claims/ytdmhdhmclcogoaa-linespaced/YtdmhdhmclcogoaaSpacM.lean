/- Blanks ahead and a remark behind change nothing but places. -/
import Derived.Test.YtdmhdhmclcogoaaCutM
import Derived.Test.YtdmhdhmclcogoaaLineM
namespace Go.Proofs.Ytdmhdhmclcogoaa
set_option linter.unusedVariables false

theorem num_same0 (r r' : List UInt8) (n : Int) (k : Nat) (hk : k ≠ 0) (h : numAt r = some (n, k)) (ht : r'.take k = r.take k) (hb : atI r' k = 0 ∨ atI r' k = atI r k) : numAt r' = some (n, k) := by
  have a0 : atI r' 0 = atI r 0 := atI_take r r' k 0 ht (by omega)
  unfold numAt at h
  by_cases h1 : atI r 0 = 39
  · rw [if_pos h1] at h
    by_cases h2 : isQuo (atI r 1) = true ∧ atI r 2 = 39
    · rw [if_pos h2] at h
      simp at h
      have a1 : atI r' 1 = atI r 1 := atI_take r r' k 1 ht (by omega)
      have a2 : atI r' 2 = atI r 2 := atI_take r r' k 2 ht (by omega)
      unfold numAt
      rw [if_pos (by rw [a0]; exact h1), a1, a2, if_pos h2]
      simp
      exact h
    · rw [if_neg h2] at h; cases h
  · rw [if_neg h1] at h
    by_cases h2 : atI r 0 = 48 ∧ atI r 1 = 120
    · rw [if_pos h2] at h
      split at h
      · cases h
      · rename_i hbad
        simp only [Option.some.injEq, Prod.mk.injEq] at h
        obtain ⟨hv, hkk⟩ := h
        have hx0 : hexLen 8 (r.drop 2) ≠ 0 := fun x => hbad (Or.inl x)
        have hnw : inW (atI r (2 + hexLen 8 (r.drop 2))) = false := by
          cases hw : inW (atI r (2 + hexLen 8 (r.drop 2)))
          · rfl
          · exact absurd (Or.inr hw) hbad
        obtain ⟨H, hH⟩ : ∃ H, H = hexLen 8 (r.drop 2) := ⟨_, rfl⟩
        rw [← hH] at hv hkk hx0 hnw
        have hnw' : inW (atI r' (2 + H)) = false := by
          rw [hkk]
          rcases hb with hb | hb
          · rw [hb]; rfl
          · rw [hb, ← hkk]; exact hnw
        have hle : H ≤ 8 := by rw [hH]; exact Nat.min_le_left _ _
        have hin : ∀ i, i < H → isHex (atI (r'.drop 2) i) = true := by
          intro i hi
          rw [atI_drop, atI_take r r' k (2 + i) ht (by omega), ← atI_drop]
          exact lenW_in isHex (r.drop 2) i (by have : H ≤ lenW isHex (r.drop 2) := by rw [hH]; exact Nat.min_le_right _ _
                                               omega)
        have hlw : lenW isHex (r'.drop 2) = H := lenW_char isHex isHex_zero _ H hin (by rw [atI_drop]; exact not_hex_of_not_word _ hnw')
        have hlen : hexLen 8 (r'.drop 2) = H := by unfold hexLen; rw [hlw]; omega
        have htk : (r'.drop 2).take H = (r.drop 2).take H := by
          have := drop_take_eq r r' k 2 ht
          rw [show k - 2 = H by omega] at this
          exact this
        have a1 : atI r' 1 = atI r 1 := atI_take r r' k 1 ht (by omega)
        unfold numAt
        rw [if_neg (by rw [a0]; exact h1), if_pos (by rw [a0, a1]; exact h2), hlen, if_neg (by intro x; rcases x with x | x; exact hx0 x; rw [hnw'] at x; cases x), htk, hv, hkk]
    · rw [if_neg h2] at h
      by_cases h3 : atI r 0 = 48
      · rw [if_pos h3] at h
        split at h
        · cases h
        · rename_i hw
          simp only [Option.some.injEq, Prod.mk.injEq] at h
          obtain ⟨hv, hkk⟩ := h
          subst hkk
          have hx : ¬ atI r 1 = 120 := fun x => h2 ⟨h3, x⟩
          have h1' : ¬ atI r' 1 = 120 := by
            rcases hb with hb | hb
            · rw [hb]; decide
            · rw [hb]; exact hx
          have h1w : ¬ inW (atI r' 1) = true := by
            rcases hb with hb | hb
            · rw [hb]; decide
            · rw [hb]; exact hw
          unfold numAt
          rw [if_neg (by rw [a0]; exact h1), if_neg (fun x => h1' x.2), if_pos (by rw [a0]; exact h3), if_neg h1w, hv]
      · rw [if_neg h3] at h
        split at h
        · cases h
        · rename_i hbad
          simp only [Option.some.injEq, Prod.mk.injEq] at h
          obtain ⟨hv, hkk⟩ := h
          have hnw : inW (atI r (lenW isDig r)) = false := by
            cases hw : inW (atI r (lenW isDig r))
            · rfl
            · exact absurd (Or.inr hw) hbad
          rw [hkk] at hnw hv hbad
          have hnw' : inW (atI r' k) = false := by
            rcases hb with hb | hb
            · rw [hb]; rfl
            · rw [hb]; exact hnw
          have hlw : lenW isDig r' = k := lenW_char isDig isDig_zero _ k (fun i hi => by rw [atI_take r r' k i ht hi]; exact lenW_in isDig r i (by omega)) (not_dig_of_not_word _ hnw')
          unfold numAt
          rw [if_neg (by rw [a0]; exact h1), if_neg (fun x => h3 (by rw [← a0]; exact x.1)), if_neg (by rw [a0]; exact h3), hlw, ht, if_neg (by intro x; rcases x with x | x; exact hbad (Or.inl x); rw [hnw'] at x; cases x), hv]

theorem tok_same0 (r r' : List UInt8) (kind n : Int) (k : Nat) (h : tokAt r = some (kind, n, k)) (ht : r'.take k = r.take k) (hb : atI r' k = 0 ∨ atI r' k = atI r k) : tokAt r' = some (kind, n, k) := by
  have hk := (tokAt_some _ _ _ _ h).1
  have a0 : atI r' 0 = atI r 0 := atI_take r r' k 0 ht (by omega)
  unfold tokAt at h
  by_cases h1 : isLet (atI r 0) = true
  · rw [if_pos h1] at h
    split at h
    · rename_i hle
      simp only [Option.some.injEq, Prod.mk.injEq] at h
      obtain ⟨hkd, hn, hkk⟩ := h
      have hend := lenW_end inW inW_zero r
      rw [hkk] at hend
      have hnw' : inW (atI r' k) = false := by
        rcases hb with hb | hb
        · rw [hb]; rfl
        · rw [hb]; exact hend
      have hlw : lenW inW r' = k := lenW_char inW inW_zero _ k (fun i hi => by rw [atI_take r r' k i ht hi]; exact lenW_in inW r i (by omega)) hnw'
      unfold tokAt
      rw [if_pos (by rw [a0]; exact h1), hlw, if_pos (by omega), hkd, hn]
    · cases h
  · rw [if_neg h1] at h
    by_cases h2 : isDig (atI r 0) = true ∨ atI r 0 = 39
    · rw [if_pos h2] at h
      split at h
      · cases h
      · rename_i h0
        simp only [Option.some.injEq, Prod.mk.injEq] at h
        obtain ⟨hkd, hn, hkk⟩ := h
        have hna := numAt_of_L r h0
        rw [hkk, hn] at hna
        have hn2 := num_same0 r r' n k (by omega) hna ht hb
        unfold tokAt
        rw [if_neg (by rw [a0]; exact h1), if_pos (by rw [a0]; exact h2)]
        have e1 : numL r' = k := by unfold numL; rw [hn2]
        have e2 : numN r' = n := by unfold numN; rw [hn2]
        rw [e1, e2, if_neg (by omega), hkd]
    · rw [if_neg h2] at h
      unfold tokAt
      rw [if_neg (by rw [a0]; exact h1), if_neg (by rw [a0]; exact h2), a0]
      exact h


theorem atI_app1 (r t : List UInt8) : atI (r ++ (32 : UInt8) :: (59 : UInt8) :: t) (r.length + 1) = 59 := by
  unfold atI
  simp [List.getD_eq_getElem?_getD]

/-- a token goes no further than a blank -/
theorem tok_stop (r t : List UInt8) (hr : r ≠ []) (kind n : Int) (k : Nat) (h : tokAt (r ++ (32 : UInt8) :: (59 : UInt8) :: t) = some (kind, n, k)) : k ≤ r.length := by
  have hpos : 1 ≤ r.length := by
    cases r with
    | nil => exact absurd rfl hr
    | cons b r => simp
  have h32 := atI_app_end r ((59 : UInt8) :: t)
  have h59 := atI_app1 r t
  generalize hR : r ++ (32 : UInt8) :: (59 : UInt8) :: t = R at h h32 h59
  apply Decidable.byContradiction
  intro hn
  have hlt : r.length < k := by omega
  unfold tokAt at h
  by_cases h1 : isLet (atI R 0) = true
  · rw [if_pos h1] at h
    split at h
    · simp only [Option.some.injEq, Prod.mk.injEq] at h
      have := lenW_in inW R r.length (by omega)
      rw [h32] at this
      cases this
    · cases h
  · rw [if_neg h1] at h
    by_cases h2 : isDig (atI R 0) = true ∨ atI R 0 = 39
    · rw [if_pos h2] at h
      split at h
      · cases h
      · rename_i h0
        simp only [Option.some.injEq, Prod.mk.injEq] at h
        have hna := numAt_of_L R h0
        rw [h.2.2] at hna
        unfold numAt at hna
        by_cases k1 : atI R 0 = 39
        · rw [if_pos k1] at hna
          by_cases k2 : isQuo (atI R 1) = true ∧ atI R 2 = 39
          · rw [if_pos k2] at hna
            simp at hna
            have : r.length = 1 ∨ r.length = 2 := by omega
            rcases this with e | e
            · rw [e] at h59
              simp only [Nat.reduceAdd] at h59
              have := k2.2
              omega
            · rw [e] at h32
              have := k2.2
              omega
          · rw [if_neg k2] at hna; cases hna
        · rw [if_neg k1] at hna
          by_cases k2 : atI R 0 = 48 ∧ atI R 1 = 120
          · rw [if_pos k2] at hna
            split at hna
            · cases hna
            · simp only [Option.some.injEq, Prod.mk.injEq] at hna
              by_cases e : r.length = 1
              · rw [e] at h32
                have := k2.2
                omega
              · have hle : hexLen 8 (R.drop 2) ≤ lenW isHex (R.drop 2) := Nat.min_le_right _ _
                have := lenW_in isHex (R.drop 2) (r.length - 2) (by omega)
                rw [atI_drop, show 2 + (r.length - 2) = r.length by omega, h32] at this
                cases this
          · rw [if_neg k2] at hna
            by_cases k3 : atI R 0 = 48
            · rw [if_pos k3] at hna
              split at hna
              · cases hna
              · simp only [Option.some.injEq, Prod.mk.injEq] at hna
                have := hna.2
                omega
            · rw [if_neg k3] at hna
              split at hna
              · cases hna
              · simp only [Option.some.injEq, Prod.mk.injEq] at hna
                have := lenW_in isDig R r.length (by omega)
                rw [h32] at this
                cases this
    · rw [if_neg h2] at h
      split at h
      · simp only [Option.some.injEq, Prod.mk.injEq] at h
        have := h.2.2
        omega
      · cases h

theorem tok_none (r t : List UInt8) (hr : r ≠ []) (h : tokAt r = none) : tokAt (r ++ (32 : UInt8) :: (59 : UInt8) :: t) = none := by
  cases hx : tokAt (r ++ (32 : UInt8) :: (59 : UInt8) :: t) with
  | none => rfl
  | some y =>
    obtain ⟨kind, n, k⟩ := y
    have hk := tok_stop r t hr kind n k hx
    have := tok_same0 _ r kind n k hx (by rw [List.take_append_of_le_length hk]) (by
      by_cases hlt : k < r.length
      · right; exact (atI_app_lt _ _ _ hlt).symm
      · left; exact atI_out r k (by omega))
    rw [h] at this
    cases this

theorem scan_cut_bad (r t : List UInt8) (a p : Nat) (h : scan r a = .error p) : scan (r ++ (32 : UInt8) :: (59 : UInt8) :: t) a = .error p := by
  induction hn : r.length using Nat.strongRecOn generalizing r a p with
  | _ n ih =>
    subst hn
    cases r with
    | nil =>
      unfold scan at h
      cases h
    | cons b r =>
      rw [List.cons_append]
      unfold scan at h
      split at h
      · cases h
      · rename_i h59
        split at h
        · rename_i hbl
          rw [scan, if_neg h59, if_pos hbl]
          exact ih r.length (by simp) r _ p h rfl
        · rename_i hbl
          split at h
          · rename_i heq1
            have htok := tok_none (b :: r) t (by simp) heq1
            rw [List.cons_append] at htok
            rw [scan, if_neg h59, if_neg hbl, htok]
            exact h
          · rename_i kind n k heq1
            have hk := tokAt_some _ _ _ _ heq1
            have htk : (b :: (r ++ (32 : UInt8) :: (59 : UInt8) :: t)).take k = (b :: r).take k := by
              rw [← List.cons_append, List.take_append_of_le_length hk.2]
            have htok : tokAt (b :: (r ++ (32 : UInt8) :: (59 : UInt8) :: t)) = some (kind, n, k) := by
              refine tok_same (b :: r) _ kind n k heq1 htk ?_
              rw [← List.cons_append]
              by_cases hlt : k < (b :: r).length
              · right; exact atI_app_lt _ _ _ hlt
              · left
                have e : k = (b :: r).length := by omega
                rw [e]
                exact atI_app_end _ _
            rw [scan, if_neg h59, if_neg hbl, htok]
            simp only
            have hdr : (r ++ (32 : UInt8) :: (59 : UInt8) :: t).drop (k - 1) = r.drop (k - 1) ++ (32 : UInt8) :: (59 : UInt8) :: t := by
              rw [List.drop_append_of_le_length]
              have := hk.2
              simp at this
              omega
            rw [hdr]
            split at h
            · cases h
            · rename_i q hq
              cases h
              rw [ih (r.drop (k - 1)).length (by simp; omega) _ _ p hq rfl]

/-- a token, d places further on -/
def sh (d : Nat) (t : Tok) : Tok := { t with place := t.place + d }

theorem scan_shift (r : List UInt8) (a d : Nat) : scan r (a + d) = match scan r a with | .ok ts => .ok (ts.map (sh d)) | .error p => .error (p + d) := by
  induction hn : r.length using Nat.strongRecOn generalizing r a with
  | _ n ih =>
    subst hn
    cases r with
    | nil => unfold scan; rfl
    | cons b r =>
      rw [scan, scan]
      split
      · rfl
      · split
        · rw [show a + d + 1 = a + 1 + d by omega]
          exact ih r.length (by simp) r (a + 1) rfl
        · cases htk : tokAt (b :: r) with
          | none => rfl
          | some y =>
            obtain ⟨kind, n, k⟩ := y
            have hk := tokAt_some _ _ _ _ htk
            simp only
            rw [show a + d + k = a + k + d by omega, ih (r.drop (k - 1)).length (by simp; omega) (r.drop (k - 1)) (a + k) rfl]
            cases scan (r.drop (k - 1)) (a + k) with
            | error p => rfl
            | ok ts => rfl

theorem scan_blanks (x : List UInt8) (a : Nat) : scan ((9 : UInt8) :: (32 : UInt8) :: (32 : UInt8) :: x) a = scan x (a + 3) := by
  rw [scan, if_neg (by decide), if_pos (by decide), scan, if_neg (by decide), if_pos (by decide), scan, if_neg (by decide), if_pos (by decide)]

theorem scan_spaced (s t : List UInt8) : scan ((9 : UInt8) :: (32 : UInt8) :: (32 : UInt8) :: (s ++ (32 : UInt8) :: (59 : UInt8) :: t)) 0 = match scan s 0 with | .ok ts => .ok (ts.map (sh 3)) | .error p => .error (p + 3) := by
  rw [scan_blanks, scan_shift]
  cases h : scan s 0 with
  | ok ts => rw [scan_cut s t 0 ts h]
  | error p => rw [scan_cut_bad s t 0 p h]

theorem isS_sh (d : Nat) (t : Tok) (c : UInt8) : isS (sh d t) c = isS t c := rfl

/-- how the answers lie to each other -/
def ARel (d n n' : Nat) (R R' : Except Nat (List (List Tok))) : Prop :=
  match R, R' with
  | .ok xs, .ok ys => ys = xs.map (List.map (sh d))
  | .error p, .error q => q = p + d ∨ (p = n ∧ q = n')
  | _, _ => False

theorem args_shift (d n n' : Nat) (ts arg : List Tok) (acc : List (List Tok)) : ARel d n n' (argsF n ts arg acc) (argsF n' (ts.map (sh d)) (arg.map (sh d)) (acc.map (List.map (sh d)))) := by
  induction ts generalizing arg acc with
  | nil =>
    simp only [List.map_nil, argsF, List.length_map]
    split
    · exact .inr ⟨rfl, rfl⟩
    · simp [ARel]
  | cons t ts ih =>
    simp only [List.map_cons, argsF, isS_sh, List.length_map]
    split
    · exact .inl rfl
    · split
      · split
        · exact .inl rfl
        · have := ih [] (acc ++ [arg])
          simpa using this
      · have := ih (arg ++ [t]) acc
        simpa using this

theorem argsT_shift (d n n' : Nat) (ts : List Tok) : ARel d n n' (argsT n ts) (argsT n' (ts.map (sh d))) := by
  unfold argsT
  rw [List.length_map]
  split
  · rfl
  · exact args_shift d n n' ts [] []

theorem cutT_shift (d : Nat) (ts : List Tok) : cutT (ts.map (sh d)) = ((cutT ts).1, (cutT ts).2.map (sh d)) := by
  match ts with
  | [] => rfl
  | [t] => rfl
  | t :: u :: r =>
    simp only [List.map_cons, cutT, isS_sh]
    show (if t.kind = 1 ∧ isS u 58 = true then _ else _) = _
    split <;> rfl

def LRel (d n n' : Nat) (R R' : Except Nat Ln) : Prop :=
  match R, R' with
  | .ok L, .ok M => M = ⟨L.label, L.op, L.args.map (List.map (sh d))⟩
  | .error p, .error q => q = p + d ∨ (p = n ∧ q = n')
  | _, _ => False

theorem lineT_shift (d n n' : Nat) (lab : List UInt8) (ts : List Tok) : LRel d n n' (lineT n lab ts) (lineT n' lab (ts.map (sh d))) := by
  cases ts with
  | nil => rfl
  | cons t r =>
    simp only [List.map_cons, lineT]
    show LRel d n n' _ (if t.kind = 1 then _ else _)
    split
    · have := argsT_shift d n n' r
      cases h1 : argsT n r with
      | ok xs =>
        cases h2 : argsT n' (r.map (sh d)) with
        | ok ys =>
          rw [h1, h2] at this
          have e : ys = xs.map (List.map (sh d)) := this
          rw [e]
          rfl
        | error q => rw [h1, h2] at this; exact this.elim
      | error p =>
        cases h2 : argsT n' (r.map (sh d)) with
        | ok ys => rw [h1, h2] at this; exact this.elim
        | error q => rw [h1, h2] at this; exact this
    · exact .inl rfl

theorem parse_spaced (s t : List UInt8) : LRel 3 s.length (s.length + (t.length + 5)) (parseL s) (parseL ((9 : UInt8) :: (32 : UInt8) :: (32 : UInt8) :: (s ++ (32 : UInt8) :: (59 : UInt8) :: t))) := by
  unfold parseL
  rw [scan_spaced]
  cases h : scan s 0 with
  | error p => exact .inl rfl
  | ok ts =>
    simp only
    unfold parseT
    rw [cutT_shift]
    have hl : ((9 : UInt8) :: (32 : UInt8) :: (32 : UInt8) :: (s ++ (32 : UInt8) :: (59 : UInt8) :: t)).length = s.length + (t.length + 5) := by simp; omega
    rw [hl]
    exact lineT_shift 3 _ _ _ _
end Go.Proofs.Ytdmhdhmclcogoaa
