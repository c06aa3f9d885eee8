/- The text of a Lin is read as the Lin. -/
import Derived.Test.YtijdjljnppkhmaaDoorTextT
import Derived.Test.YtijdjljnppkhmaaDoorCutM
import Derived.Test.YtijdjljnppkhmaaDoorNames2
import Derived.Test.YtijdjljnppkhmaaDoorSpec2
import Derived.Test.YtijdjljnppkhmaaDoorParseM
import Derived.Lib.ItoaNum
namespace Go.Proofs.YtijdjljnppkhmaaDoor
set_option linter.unusedVariables false
set_option maxRecDepth 100000

/-! ### digits -/

theorem dec_dig (u : Nat) : ∀ b ∈ Lib.decDigits u, isDig (b.toNat : Int) = true := by
  induction u using Nat.strongRecOn with
  | ind u ih =>
    intro b hb
    rw [Lib.decDigits] at hb
    have hone : ∀ d, d < 10 → isDig ((UInt8.ofNat (48 + d)).toNat : Int) = true := fun d hd => by
      have : (UInt8.ofNat (48 + d)).toNat = 48 + d := by
        simp only [UInt8.toNat_ofNat']
        omega
      rw [this]
      simp [isDig]
      omega
    split at hb
    · rename_i h
      rw [List.mem_singleton] at hb
      subst hb
      exact hone u h
    · rename_i h
      rcases List.mem_append.1 hb with hb | hb
      · exact ih (u / 10) (by omega) b hb
      · rw [List.mem_singleton] at hb
        subst hb
        exact hone (u % 10) (by omega)
theorem dec_ne (u : Nat) : Lib.decDigits u ≠ [] := by
  rw [Lib.decDigits]
  split <;> simp
theorem dec_val (u : Nat) : val 10 0 (Lib.decDigits u) = (u : Int) := by
  have hdig : ∀ d, d < 10 → digI ((UInt8.ofNat (48 + d)).toNat : Int) = (d : Int) := fun d hd => by
    have : (UInt8.ofNat (48 + d)).toNat = 48 + d := by
      simp only [UInt8.toNat_ofNat']
      omega
    rw [this]
    unfold digI
    rw [if_pos (by omega)]
    omega
  induction u using Nat.strongRecOn with
  | ind u ih =>
    rw [Lib.decDigits]
    split
    · rename_i h
      rw [val_cons, val_nil, hdig u h]
      omega
    · rename_i h
      rw [val_append, ih (u / 10) (by omega), val_cons, val_nil, hdig (u % 10) (by omega)]
      omega
/-- only nothing begins with 0 -/
theorem dec_head (u : Nat) (hu : 0 < u) : ∀ b, (Lib.decDigits u)[0]? = some b → b ≠ 48 := by
  induction u using Nat.strongRecOn with
  | ind u ih =>
    intro b hb
    rw [Lib.decDigits] at hb
    split at hb
    · rename_i h
      obtain rfl : UInt8.ofNat (48 + u) = b := Option.some.inj hb
      intro e
      have := congrArg UInt8.toNat e
      simp only [UInt8.toNat_ofNat'] at this
      have h48 : (48 : UInt8).toNat = 48 := rfl
      omega
    · rename_i h
      rw [List.getElem?_append_left (List.length_pos_iff.2 (dec_ne _))] at hb
      exact ih (u / 10) (by omega) (by omega) b hb

theorem atI_app0 (s r : List UInt8) (k : Nat) (h : s.length ≤ k) : atI (s ++ r) k = atI r (k - s.length) := by
  unfold atI
  rw [List.getD_eq_getElem?_getD, List.getD_eq_getElem?_getD, List.getElem?_append_right h]

/-- all of one kind, and then another -/
theorem lenW_app (p : Int → Bool) (hp : p 0 = false) (s r : List UInt8) (hs : ∀ b ∈ s, p (b.toNat : Int) = true) (hr : p (atI r 0) = false) : lenW p (s ++ r) = s.length := by
  refine lenW_char p hp _ _ (fun i hi => ?_) ?_
  · rw [atI_app_lt s r i hi]
    unfold atI
    rw [List.getD_eq_getElem?_getD, List.getElem?_eq_getElem hi]
    exact hs _ (List.getElem_mem hi)
  · rw [atI_app0 s r _ (Nat.le_refl _), Nat.sub_self]
    exact hr

theorem tok_num (u : Nat) (hu : u < 4294967296) (r : List UInt8) (hr : inW (atI r 0) = false) : tokAt (Lib.decDigits u ++ r) = some (2, (u : Int), (Lib.decDigits u).length) := by
  have hne := dec_ne u
  have hpos : 0 < (Lib.decDigits u).length := List.length_pos_iff.2 hne
  have h0 : atI (Lib.decDigits u ++ r) 0 = atI (Lib.decDigits u) 0 := atI_app_lt _ _ _ hpos
  obtain ⟨b, hb⟩ : ∃ b, (Lib.decDigits u)[0]? = some b := ⟨_, List.getElem?_eq_getElem hpos⟩
  have hbv : atI (Lib.decDigits u) 0 = (b.toNat : Int) := by
    unfold atI
    rw [List.getD_eq_getElem?_getD, hb]
    rfl
  have hbd : isDig (b.toNat : Int) = true := dec_dig u b (List.mem_of_getElem? hb)
  have hr2 : 48 ≤ (b.toNat : Int) ∧ (b.toNat : Int) ≤ 57 := by simpa [isDig] using hbd
  have hlet : isLet (b.toNat : Int) = false := by simp [isLet]; omega
  have hlen : lenW isDig (Lib.decDigits u ++ r) = (Lib.decDigits u).length := lenW_app isDig isDig_zero _ _ (dec_dig u) (not_dig_of_not_word _ hr)
  have hnum : numAt (Lib.decDigits u ++ r) = some ((u : Int), (Lib.decDigits u).length) := by
    unfold numAt
    rw [h0, hbv, if_neg (by omega)]
    by_cases hz : (b.toNat : Int) = 48
    · have hu0 : u = 0 := by
        apply Decidable.byContradiction
        intro hn
        refine dec_head u (by omega) b hb ?_
        apply UInt8.toNat.inj
        show b.toNat = 48
        omega
      subst hu0
      have hd : Lib.decDigits 0 = [48] := by rw [Lib.decDigits]; rfl
      rw [hd] at hlen ⊢
      have h1 : atI ([48] ++ r) 1 = atI r 0 := atI_succ_cons 48 r 0
      rw [if_neg (by
        rintro ⟨_, h2⟩
        rw [h1] at h2
        rw [h2] at hr
        revert hr
        decide), if_pos hz, h1, if_neg (by rw [hr]; decide)]
      rfl
    · rw [if_neg (by rintro ⟨h2, _⟩; exact hz h2), if_neg hz, hlen, List.take_left', dec_val, atI_app0 _ _ _ (Nat.le_refl _), Nat.sub_self, if_neg (by rintro (h | h); omega; rw [hr] at h; cases h)]
      rfl
  unfold tokAt
  rw [h0, hbv, if_neg (by rw [hlet]; decide), if_pos (.inl hbd)]
  have e1 : numL (Lib.decDigits u ++ r) = (Lib.decDigits u).length := by unfold numL; rw [hnum]
  have e2 : numN (Lib.decDigits u ++ r) = (u : Int) := by unfold numN; rw [hnum]
  rw [e1, e2, if_neg (by omega)]

theorem tok_name (s r : List UInt8) (hs : nameOK s = true) (hr : inW (atI r 0) = false) : tokAt (s ++ r) = some (1, 0, s.length) := by
  simp only [nameOK, decide_eq_true_eq] at hs
  obtain ⟨h1, h2, h3⟩ := hs
  have hpos : 0 < s.length := (lenW_more inW inW_zero s (inW_of_let _ h1)).2
  have hall : ∀ b ∈ s, inW (b.toNat : Int) = true := by
    have := take_all inW s
    rwa [h2, List.take_length] at this
  have hlen := lenW_app inW inW_zero s r hall hr
  unfold tokAt
  rw [atI_app_lt _ _ _ hpos, if_pos h1, hlen, if_pos h3]

theorem tok_sign (c : UInt8) (hc : c = 42 ∨ c = 43) (r : List UInt8) : tokAt (c :: r) = some (3, 0, 1) := by
  unfold tokAt
  rw [atI_zero_cons]
  rcases hc with rfl | rfl <;> rfl

theorem scan_at (r : List UInt8) (a : Nat) (hr : r ≠ []) (h59 : atI r 0 ≠ 59) (hc : isBl (atI r 0) = false) (kind n : Int) (k : Nat) (ht : tokAt r = some (kind, n, k)) : scan r a = ext [{ kind := kind, text := r.take k, num := n, place := a }] (scan (r.drop k) (a + k)) := by
  have hk := (tokAt_some _ _ _ _ ht).1
  cases r with
  | nil => exact absurd rfl hr
  | cons b r =>
    rw [atI_zero_cons] at h59 hc
    rw [scan, if_neg h59, if_neg (by rw [hc]; decide), ht]
    simp only
    obtain ⟨k, rfl⟩ : ∃ j, k = j + 1 := ⟨k - 1, by omega⟩
    rw [List.drop_succ_cons, Nat.add_sub_cancel]
    cases scan (r.drop k) (a + (k + 1)) <;> rfl

theorem scan_num (u : Nat) (hu : u < 4294967296) (r : List UInt8) (hr : inW (atI r 0) = false) (a : Nat) : scan (Lib.decDigits u ++ r) a = ext [⟨2, Lib.decDigits u, (u : Int), a⟩] (scan r (a + (Lib.decDigits u).length)) := by
  have hpos : 0 < (Lib.decDigits u).length := List.length_pos_iff.2 (dec_ne u)
  obtain ⟨b, hb⟩ : ∃ b, (Lib.decDigits u)[0]? = some b := ⟨_, List.getElem?_eq_getElem hpos⟩
  have hbv : atI (Lib.decDigits u ++ r) 0 = (b.toNat : Int) := by
    rw [atI_app_lt _ _ _ hpos]
    unfold atI
    rw [List.getD_eq_getElem?_getD, hb]
    rfl
  have hbd : isDig (b.toNat : Int) = true := dec_dig u b (List.mem_of_getElem? hb)
  have hr2 : 48 ≤ (b.toNat : Int) ∧ (b.toNat : Int) ≤ 57 := by simpa [isDig] using hbd
  rw [scan_at _ a (by simp [dec_ne]) (by rw [hbv]; omega) (by rw [hbv]; simp [isBl]; omega) 2 (u : Int) _ (tok_num u hu r hr), List.take_left', List.drop_left']
  · rfl
  · rfl
theorem scan_name (s r : List UInt8) (hs : nameOK s = true) (hr : inW (atI r 0) = false) (a : Nat) : scan (s ++ r) a = ext [⟨1, s, 0, a⟩] (scan r (a + s.length)) := by
  have hs2 := hs
  simp only [nameOK, decide_eq_true_eq] at hs2
  obtain ⟨h1, h2, h3⟩ := hs2
  have hpos : 0 < s.length := (lenW_more inW inW_zero s (inW_of_let _ h1)).2
  have hno := let_no _ h1
  rw [scan_at _ a (by intro e; rw [List.append_eq_nil_iff] at e; rw [e.1] at hpos; simp at hpos) (by rw [atI_app_lt _ _ _ hpos]; exact hno.1) (by rw [atI_app_lt _ _ _ hpos]; exact hno.2) 1 0 _ (tok_name s r hs hr), List.take_left', List.drop_left']
  · rfl
  · rfl
theorem scan_sign (c : UInt8) (hc : c = 42 ∨ c = 43) (r : List UInt8) (a : Nat) : scan (c :: r) a = ext [⟨3, [c], 0, a⟩] (scan r (a + 1)) := by
  rw [scan_at _ a (by simp) (by rw [atI_zero_cons]; rcases hc with rfl | rfl <;> decide) (by rw [atI_zero_cons]; rcases hc with rfl | rfl <;> rfl) 3 0 1 (tok_sign c hc r)]
  rfl

/-! ### the tokens, but for their places -/

def coefT (t : Tm) : List Tok := if t.coef = 1 then [] else [⟨2, Lib.decDigits t.coef.toNat, t.coef, 0⟩, ⟨3, [42], 0, 0⟩]
def termT (t : Tm) : List Tok := coefT t ++ [⟨1, t.name, 0, 0⟩]
def plusT : Tok := ⟨3, [43], 0, 0⟩
/-- a term and what follows behind a sign -/
def moreT : List Tm → Int → List Tok
  | [], k => if k = 0 then [] else [plusT, ⟨2, Lib.decDigits k.toNat, k, 0⟩]
  | t :: r, k => plusT :: (termT t ++ moreT r k)
def linT : List Tm → Int → List Tok
  | [], k => [⟨2, Lib.decDigits k.toNat, k, 0⟩]
  | t :: r, k => termT t ++ moreT r k

structure OkM (t : Tm) : Prop where
  lo : 0 < t.coef
  hi : t.coef < 4294967296
  name : nameOK t.name = true

/-- a tail of a text: what stands behind a term -/
def moreS : List Tm → Int → List UInt8
  | [], k => if k = 0 then [] else 43 :: Lib.decDigits k.toNat
  | t :: r, k => 43 :: ((if t.coef = 1 then [] else Lib.decDigits t.coef.toNat ++ [42]) ++ (t.name ++ moreS r k))

theorem termsS_more (t : Tm) (ts : List Tm) (k : Int) : textF (t :: ts) k = (if t.coef = 1 then [] else Lib.decDigits t.coef.toNat ++ [42]) ++ (t.name ++ moreS ts k) := by
  have key : ∀ (ts : List Tm) (t : Tm), termsS (t :: ts) ++ Lib.decDigits k.toNat = (if t.coef = 1 then [] else Lib.decDigits t.coef.toNat ++ [42]) ++ (t.name ++ (43 :: (termsS ts ++ Lib.decDigits k.toNat))) := fun ts t => by
    unfold termsS
    simp [termS]
  by_cases hk : k = 0
  · subst hk
    unfold textF
    rw [if_neg (by simp)]
    induction ts generalizing t with
    | nil =>
      simp only [termsS, List.flatMap_cons, List.flatMap_nil, List.append_nil, termS, moreS, if_true]
      rw [← List.append_assoc, List.dropLast_concat]
    | cons s r ih =>
      have h1 : termsS (t :: s :: r) = termS t ++ termsS (s :: r) := rfl
      have hne : termsS (s :: r) ≠ [] := by simp [termsS, termS]
      rw [h1, List.dropLast_append_of_ne_nil hne, ih s, moreS, termS]
      simp
  · have hmore : ∀ (ts : List Tm), 43 :: (termsS ts ++ Lib.decDigits k.toNat) = moreS ts k := by
      intro ts
      induction ts with
      | nil => simp [termsS, moreS, hk]
      | cons s r ih => rw [key, moreS, ih]
    unfold textF
    rw [if_pos (.inl hk), key, hmore]

theorem inW_plus (r : List UInt8) : inW (atI (43 :: r) 0) = false := rfl
theorem inW_star (r : List UInt8) : inW (atI (42 :: r) 0) = false := rfl
theorem more_head (ts : List Tm) (k : Int) : inW (atI (moreS ts k) 0) = false := by
  cases ts with
  | nil =>
    unfold moreS
    split
    · rfl
    · rfl
  | cons t r => rfl

/-- a token without its place -/
def noP (t : Tok) : Tok := { t with place := 0 }
/-- what scan answers, but for places -/
def ScanIs (s : List UInt8) (us : List Tok) : Prop := ∀ a, ∃ ts, scan s a = .ok ts ∧ ts.map noP = us

theorem ScanIs.cons {s r : List UInt8} {us : List Tok} {u : Tok} (hr : ScanIs r us) (t : Nat → Tok) (b : Nat → Nat) (ht : ∀ a, noP (t a) = u) (h : ∀ a, scan s a = ext [t a] (scan r (b a))) : ScanIs s (u :: us) := by
  intro a
  obtain ⟨ts, h1, h2⟩ := hr (b a)
  exact ⟨t a :: ts, by rw [h a, h1]; rfl, by rw [List.map_cons, ht, h2]⟩
theorem scanIs_nil : ScanIs [] [] := fun a => ⟨[], by unfold scan; rfl, rfl⟩

theorem scanIs_num (k : Int) (h0 : 0 ≤ k) (h1 : k < 4294967296) {r : List UInt8} {us : List Tok} (hr : ScanIs r us) (hw : inW (atI r 0) = false) : ScanIs (Lib.decDigits k.toNat ++ r) (⟨2, Lib.decDigits k.toNat, k, 0⟩ :: us) :=
  hr.cons (fun a => ⟨2, Lib.decDigits k.toNat, ((k.toNat : Nat) : Int), a⟩) (fun a => a + (Lib.decDigits k.toNat).length) (fun a => by show Tok.mk 2 _ _ 0 = _; rw [show ((k.toNat : Nat) : Int) = k by omega]) (fun a => scan_num k.toNat (by omega) r hw a)
theorem scanIs_name {s : List UInt8} (hs : nameOK s = true) {r : List UInt8} {us : List Tok} (hr : ScanIs r us) (hw : inW (atI r 0) = false) : ScanIs (s ++ r) (⟨1, s, 0, 0⟩ :: us) :=
  hr.cons (fun a => ⟨1, s, 0, a⟩) (fun a => a + s.length) (fun a => rfl) (fun a => scan_name s r hs hw a)
theorem scanIs_sign (c : UInt8) (hc : c = 42 ∨ c = 43) {r : List UInt8} {us : List Tok} (hr : ScanIs r us) : ScanIs (c :: r) (⟨3, [c], 0, 0⟩ :: us) :=
  hr.cons (fun a => ⟨3, [c], 0, a⟩) (fun a => a + 1) (fun a => rfl) (fun a => scan_sign c hc r a)

theorem scanIs_term {t : Tm} (ht : OkM t) {r : List UInt8} {us : List Tok} (hr : ScanIs r us) (hw : inW (atI r 0) = false) : ScanIs ((if t.coef = 1 then [] else Lib.decDigits t.coef.toNat ++ [42]) ++ (t.name ++ r)) (termT t ++ us) := by
  have hn := scanIs_name ht.name hr hw
  unfold termT coefT
  by_cases h : t.coef = 1
  · rw [if_pos h, if_pos h]
    exact hn
  · rw [if_neg h, if_neg h, List.append_assoc]
    exact scanIs_num t.coef (by have := ht.lo; omega) ht.hi (scanIs_sign 42 (.inl rfl) hn) (inW_star _)

theorem scanIs_more (ts : List Tm) (k : Int) (hk : 0 ≤ k) (hk2 : k < 4294967296) (h : ∀ t ∈ ts, OkM t) : ScanIs (moreS ts k) (moreT ts k) := by
  induction ts with
  | nil =>
    unfold moreS moreT
    by_cases h0 : k = 0
    · rw [if_pos h0, if_pos h0]; exact scanIs_nil
    · rw [if_neg h0, if_neg h0]
      have := scanIs_sign 43 (.inr rfl) (scanIs_num k hk hk2 scanIs_nil rfl)
      rwa [List.append_nil] at this
  | cons t r ih =>
    unfold moreS moreT
    exact scanIs_sign 43 (.inr rfl) (scanIs_term (h t (by simp)) (ih fun x hx => h x (by simp [hx])) (more_head r k))

theorem scanIs_text (ts : List Tm) (k : Int) (hk : 0 ≤ k) (hk2 : k < 4294967296) (h : ∀ t ∈ ts, OkM t) : ScanIs (textF ts k) (linT ts k) := by
  cases ts with
  | nil =>
    have e : textF [] k = Lib.decDigits k.toNat ++ [] := by unfold textF; rw [if_pos (.inr rfl)]; simp [termsS]
    rw [e]
    exact scanIs_num k hk hk2 scanIs_nil rfl
  | cons t r =>
    rw [termsS_more]
    exact scanIs_term (h t (by simp)) (scanIs_more r k hk hk2 fun x hx => h x (by simp [hx])) (more_head r k)

/-! ### what is read hangs on no place -/

theorem isS_noP (t : Tok) (c : UInt8) : isS (noP t) c = isS t c := rfl
def mapP : PRes → PRes
  | .error e => .error e
  | .ok (x, r) => .ok (x, r.map noP)
def NoPa (W : List Tok → PRes) : Prop := ∀ ts, W (ts.map noP) = mapP (W ts)

theorem minusF_noP (ts : List Tok) : ∀ c, minusF (ts.map noP) c = ((minusF ts c).1, (minusF ts c).2.map noP) := by
  induction ts with
  | nil => intro c; rfl
  | cons t r ih =>
    intro c
    rw [List.map_cons, minusF, minusF, isS_noP]
    split
    · exact ih _
    · rfl

theorem closeF_noP (c : Int) (R : PRes) : closeF c (mapP R) = mapP (closeF c R) := by
  match R with
  | .error e => rfl
  | .ok (x, []) => rfl
  | .ok (x, u :: r) =>
    by_cases h : isS u 41 = true
    · simp [mapP, closeF, isS_noP, h]
    · simp [mapP, closeF, isS_noP, h]

theorem bareF_noP {W : List Tok → PRes} (hW : NoPa W) (c : Int) (ts : List Tok) : bareF W c (ts.map noP) = mapP (bareF W c ts) := by
  cases ts with
  | nil => rfl
  | cons t r =>
    rw [List.map_cons, bareF, bareF, isS_noP, hW, closeF_noP]
    have : singleF (noP t) = singleF t := rfl
    rw [this]
    split
    · rfl
    · cases singleF t <;> rfl

theorem factorF_noP {W : List Tok → PRes} (hW : NoPa W) : NoPa (factorF W) := by
  intro ts
  unfold factorF
  rw [minusF_noP]
  exact bareF_noP hW _ _

theorem partL_noP {W : List Tok → PRes} (hW : NoPa W) (f : Nat) : ∀ x ts, partL W f x (ts.map noP) = mapP (partL W f x ts) := by
  induction f with
  | zero => intro x ts; rfl
  | succ f ih =>
    intro x ts
    cases ts with
    | nil => rfl
    | cons t r =>
      rw [List.map_cons, partL, partL, isS_noP, factorF_noP hW]
      split
      · cases factorF W r with
        | error e => rfl
        | ok p =>
          obtain ⟨y, r'⟩ := p
          simp only [mapP]
          cases productF x y with
          | none => rfl
          | some z => exact ih z r'
      · rfl

theorem partF_noP {W : List Tok → PRes} (hW : NoPa W) : NoPa (partF W) := by
  intro ts
  unfold partF
  rw [factorF_noP hW]
  cases factorF W ts with
  | error e => rfl
  | ok p =>
    obtain ⟨y, r'⟩ := p
    simp only [mapP]
    rw [List.length_map]
    exact partL_noP hW _ _ _

theorem sumL_noP {W : List Tok → PRes} (hW : NoPa W) (f : Nat) : ∀ acc n ts, sumL W f acc n (ts.map noP) = mapP (sumL W f acc n ts) := by
  induction f with
  | zero => intro acc n ts; rfl
  | succ f ih =>
    intro acc n ts
    cases ts with
    | nil => rfl
    | cons t r =>
      rw [List.map_cons, sumL, sumL, isS_noP, isS_noP, partF_noP hW]
      split
      · cases partF W r with
        | error e => rfl
        | ok p =>
          obtain ⟨y, r'⟩ := p
          exact ih _ _ _
      · split
        · cases partF W r with
          | error e => rfl
          | ok p =>
            obtain ⟨y, r'⟩ := p
            exact ih _ _ _
        · rfl

theorem sumF_noP {W : List Tok → PRes} (hW : NoPa W) : NoPa (sumF W) := by
  intro ts
  unfold sumF
  rw [partF_noP hW]
  cases partF W ts with
  | error e => rfl
  | ok p =>
    obtain ⟨y, r'⟩ := p
    simp only [mapP]
    rw [List.length_map]
    exact sumL_noP hW _ _ _ _

theorem sumD_noP (k : Nat) : NoPa (sumD k) := by
  induction k with
  | zero => intro ts; rfl
  | succ k ih => exact sumF_noP ih

theorem parseF_noP (ts : List Tok) : parseF (ts.map noP) = parseF ts := by
  unfold parseF
  rw [sumD_noP]
  match sumD 33 ts with
  | .error e => rfl
  | .ok (x, []) => rfl
  | .ok (x, u :: r) => rfl

/-! ### what is read of them -/

theorem factor_one {W : List Tok → PRes} {t : Tok} {x : Lin} (r : List Tok) (h1 : isS t 45 = false) (h2 : isS t 40 = false) (hs : singleF t = some x) : factorF W (t :: r) = .ok (timesL x 1, r) := by
  unfold factorF
  rw [minusF, if_neg (by rw [h1]; decide)]
  simp only
  rw [bareF, if_neg (by rw [h2]; decide), hs]

theorem factor_num {W : List Tok → PRes} (k : Int) (h0 : 0 ≤ k) (h1 : k < 4294967296) (s : List UInt8) (p : Nat) (r : List Tok) : factorF W (⟨2, s, k, p⟩ :: r) = .ok (⟨[], k⟩, r) := by
  rw [factor_one r rfl rfl (show singleF ⟨2, s, k, p⟩ = some ⟨[], k⟩ from rfl)]
  simp only [timesL, timesT_nil, Int.mul_one]
  rw [Int.emod_eq_of_lt h0 h1]

theorem times_single (s : List UInt8) (c : Int) (h0 : 0 < c) (h1 : c < 4294967296) : timesT [⟨s, 1⟩] c = [⟨s, c⟩] := by
  have e : (1 * c) % 4294967296 = c := by rw [Int.one_mul, Int.emod_eq_of_lt (by omega) h1]
  simp only [timesT, List.map_cons, List.map_nil, e]
  rw [List.filter_cons_of_pos (by simp; omega)]
  rfl

theorem factor_name {W : List Tok → PRes} (s : List UInt8) (h : legB (str s) = true) (p : Nat) (r : List Tok) : factorF W (⟨1, s, 0, p⟩ :: r) = .ok (⟨[⟨s, 1⟩], 0⟩, r) := by
  rw [factor_one r rfl rfl (show singleF ⟨1, s, 0, p⟩ = some ⟨[⟨s, 1⟩], 0⟩ by unfold singleF; rw [if_neg (show ¬ ((1 : Int) = 2) by decide), if_pos (show (1 : Int) = 1 ∧ legB (str s) = true from ⟨rfl, h⟩)])]
  simp only [timesL, times_single s 1 (by omega) (by omega)]
  rfl

/-- behind a part: nothing, or a plus -/
def Stop (r : List Tok) : Prop := r = [] ∨ ∃ q, r = plusT :: q
theorem stop_more (ts : List Tm) (k : Int) : Stop (moreT ts k) := by
  cases ts with
  | nil =>
    unfold moreT
    by_cases h : k = 0
    · rw [if_pos h]; exact .inl rfl
    · rw [if_neg h]; exact .inr ⟨_, rfl⟩
  | cons t r => exact .inr ⟨_, rfl⟩
theorem partL_stop {W : List Tok → PRes} (f : Nat) (x : Lin) {r : List Tok} (h : Stop r) : partL W f x r = .ok (x, r) := by
  rcases h with rfl | ⟨q, rfl⟩
  · cases f <;> rfl
  · cases f <;> rfl

theorem part_num {W : List Tok → PRes} (k : Int) (h0 : 0 ≤ k) (h1 : k < 4294967296) (s : List UInt8) (p : Nat) {r : List Tok} (hr : Stop r) : partF W (⟨2, s, k, p⟩ :: r) = .ok (⟨[], k⟩, r) := by
  unfold partF
  rw [factor_num k h0 h1]
  exact partL_stop _ _ hr

theorem part_term {W : List Tok → PRes} (t : Tm) (h0 : 0 < t.coef) (h1 : t.coef < 4294967296) (hn : legB (str t.name) = true) {r : List Tok} (hr : Stop r) : partF W (termT t ++ r) = .ok (⟨[t], 0⟩, r) := by
  unfold partF termT coefT
  by_cases h : t.coef = 1
  · rw [if_pos h, List.nil_append, List.singleton_append, factor_name _ hn]
    simp only
    rw [partL_stop _ _ hr]
    obtain ⟨n, c⟩ := t
    simp only at h
    rw [h]
  · rw [if_neg h]
    simp only [List.cons_append, List.nil_append]
    rw [factor_num _ (by omega) h1]
    simp only [List.length_cons]
    rw [partL, if_pos (show isS ⟨3, [42], 0, 0⟩ 42 = true from rfl), factor_name _ hn]
    simp only
    have e : productF ⟨[], t.coef⟩ ⟨[⟨t.name, 1⟩], 0⟩ = some ⟨[t], 0⟩ := by
      unfold productF
      rw [if_neg (by simp), if_pos (show ([] : List Tm).length = 0 from rfl)]
      simp only [timesL, times_single _ _ h0 h1]
      simp
    rw [e]
    exact partL_stop _ _ hr

theorem sumL_more {W : List Tok → PRes} (ts : List Tm) (k : Int) (hk : 0 ≤ k) (hk2 : k < 4294967296) (h : ∀ t ∈ ts, 0 < t.coef ∧ t.coef < 4294967296 ∧ legB (str t.name) = true) : ∀ (f : Nat) (acc : List Tm), ts.length + 1 ≤ f ∨ (moreT ts k).length ≤ f → sumL W f acc 0 (moreT ts k) = .ok (⟨norm (acc ++ ts), k⟩, []) := by
  induction ts with
  | nil =>
    intro f acc hf
    by_cases h0 : k = 0
    · subst h0
      have e : moreT [] 0 = [] := rfl
      rw [e, List.append_nil]
      cases f <;> rfl
    · have e : moreT [] k = [plusT, ⟨2, Lib.decDigits k.toNat, k, 0⟩] := if_neg h0
      rw [e] at hf ⊢
      obtain ⟨f, rfl⟩ : ∃ g, f = g + 1 := ⟨f - 1, by simp at hf; omega⟩
      rw [sumL, if_pos (show isS plusT 43 = true from rfl), part_num k hk hk2 _ _ (.inl rfl)]
      simp only [List.append_nil, Int.zero_add]
      rw [Int.emod_eq_of_lt hk hk2]
      cases f <;> rfl
  | cons t r ih =>
    intro f acc hf
    have e : moreT (t :: r) k = plusT :: (termT t ++ moreT r k) := rfl
    rw [e] at hf ⊢
    obtain ⟨f, rfl⟩ : ∃ g, f = g + 1 := ⟨f - 1, by simp at hf; omega⟩
    obtain ⟨h1, h2, h3⟩ := h t (by simp)
    rw [sumL, if_pos (show isS plusT 43 = true from rfl), part_term t h1 h2 h3 (stop_more r k)]
    simp only
    rw [show ((0 : Int) + 0) % 4294967296 = 0 from rfl, ih (fun x hx => h x (by simp [hx])) f (acc ++ [t]) (by simp at hf ⊢; omega), List.append_assoc]
    rfl

theorem parse_linT (ts : List Tm) (k : Int) (hc : Canon ts) (hl : ∀ t ∈ ts, legB (str t.name) = true) (hk : 0 ≤ k) (hk2 : k < 4294967296) : parseF (linT ts k) = .ok ⟨ts, k⟩ := by
  have key : sumD 33 (linT ts k) = .ok (⟨ts, k⟩, []) := by
    rw [sumD]
    unfold sumF
    cases ts with
    | nil =>
      have e : linT [] k = [⟨2, Lib.decDigits k.toNat, k, 0⟩] := rfl
      rw [e, part_num k hk hk2 _ _ (.inl rfl)]
      simp only [List.length_nil, sumL]
      rw [norm_canon hc]
    | cons t r =>
      have e : linT (t :: r) k = termT t ++ moreT r k := rfl
      have hs := hc.some t (by simp)
      rw [e, part_term t hs.1 hs.2 (hl t (by simp)) (stop_more r k)]
      simp only
      rw [sumL_more r k hk hk2 (fun x hx => ⟨(hc.some x (by simp [hx])).1, (hc.some x (by simp [hx])).2, hl x (by simp [hx])⟩) _ [t] (.inr (Nat.le_refl _)), List.singleton_append, norm_canon hc]
  unfold parseF
  rw [key]

/-- what is read of the text of a Lin is the Lin -/
theorem parse_text (ts : List Tm) (k : Int) (hc : Canon ts) (hl : ∀ t ∈ ts, legB (str t.name) = true) (hk : 0 ≤ k) (hk2 : k < 4294967296) (a : Nat) : ∃ us, scan (textF ts k) a = .ok us ∧ parseF us = .ok ⟨ts, k⟩ := by
  obtain ⟨us, h1, h2⟩ := scanIs_text ts k hk hk2 (fun t ht => ⟨(hc.some t ht).1, (hc.some t ht).2, by have := hl t ht; simp only [legB, Bool.and_eq_true] at this; simpa [bs, str] using this.1⟩) a
  exact ⟨us, h1, by rw [← parseF_noP, h2]; exact parse_linT ts k hc hl hk hk2⟩

end Go.Proofs.YtijdjljnppkhmaaDoor

