/- PROVED: what is assembled is right; a refusal's line is one of the source's; remarks, blanks and empty lines put among the lines change nothing but lines: chapter 9's P9.4 (spandrellaw9.UnitFine returns true). No condition but the listed variables as the program's text lays them. -/
import Derived.Test.YtogkchgjpflmjaaGreatDoorMo1
import Derived.Test.YtogkchgjpflmjaaGreatDoorNum
import Derived.Test.YtogkchgjpflmjaaGreatDoorRegT
import Derived.Test.YtogkchgjpflmjaaGreatDoorUFrame
/- Blanks, remarks and empty lines among a source's lines change nothing but lines. -/
namespace Go.Proofs.YtogkchgjpflmjaaGreatDoor
open Go.ChangeShapes Go.WideShapes Go.ChangeAt Go.RowKit
set_option linter.unusedVariables false
set_option maxRecDepth 100000
def spT (d : Nat) (t : Tok) : Tok := { t with place := t.place + d }
theorem scan_shift (r : List UInt8) (a d : Nat) : scan r (a + d) = match scan r a with | .ok ts => .ok (ts.map (spT d)) | .error p => .error (p + d) := by
  induction hn : r.length using Nat.strongRecOn generalizing r a with
  | _ n ih =>
    subst hn
    cases r with
    | nil => unfold scan; rfl
    | cons b r =>
      rw [scan, scan]
      split
      · rfl
      · split
        · rw [show a + d + 1 = a + 1 + d by omega]
          exact ih r.length (by simp) r (a + 1) rfl
        · cases htk : tokAt (b :: r) with
          | none => rfl
          | some y =>
            obtain ⟨kind, n, k⟩ := y
            have hk := tokAt_some _ _ _ _ htk
            simp only
            rw [show a + d + k = a + k + d by omega, ih (r.drop (k - 1)).length (by simp; omega) (r.drop (k - 1)) (a + k) rfl]
            cases scan (r.drop (k - 1)) (a + k) with
            | error p => rfl
            | ok ts => rfl
theorem isS_spT (d : Nat) (t : Tok) (c : UInt8) : isS (spT d t) c = isS t c := rfl
theorem argsF_spT (d n n' : Nat) (ts : List Tok) : ∀ (arg : List Tok) (acc xs : List (List Tok)), argsF n ts arg acc = .ok xs → argsF n' (ts.map (spT d)) (arg.map (spT d)) (acc.map (List.map (spT d))) = .ok (xs.map (List.map (spT d))) := by
  induction ts with
  | nil =>
    intro arg acc xs h
    simp only [List.map_nil, argsF, List.length_map] at h ⊢
    split at h
    · cases h
    · rename_i h0
      cases h
      rw [if_neg h0]
      simp
  | cons t ts ih =>
    intro arg acc xs h
    simp only [List.map_cons, argsF, isS_spT, List.length_map] at h ⊢
    split at h
    · cases h
    · rename_i h1
      rw [if_neg h1]
      split at h
      · rename_i h2
        rw [if_pos h2]
        split at h
        · cases h
        · rename_i h3
          rw [if_neg h3]
          have := ih [] (acc ++ [arg]) xs h
          simpa using this
      · rename_i h2
        rw [if_neg h2]
        have := ih (arg ++ [t]) acc xs h
        simpa using this
theorem argsT_spT (d n n' : Nat) (ts : List Tok) (xs : List (List Tok)) (h : argsT n ts = .ok xs) : argsT n' (ts.map (spT d)) = .ok (xs.map (List.map (spT d))) := by
  unfold argsT at h ⊢
  rw [List.length_map]
  split at h
  · rename_i h0
    cases h
    rw [if_pos h0]
    rfl
  · rename_i h0
    rw [if_neg h0]
    exact argsF_spT d n n' ts [] [] xs h
theorem cutT_spT (d : Nat) (ts : List Tok) : cutT (ts.map (spT d)) = ((cutT ts).1, (cutT ts).2.map (spT d)) := by
  match ts with
  | [] => rfl
  | [t] => rfl
  | t :: u :: r =>
    simp only [List.map_cons, cutT, isS_spT]
    show (if t.kind = 1 ∧ isS u 58 = true then _ else _) = _
    split <;> rfl
theorem lineT_spT (d n n' : Nat) (lab : List UInt8) (ts : List Tok) (L : Ln) (h : lineT n lab ts = .ok L) : lineT n' lab (ts.map (spT d)) = .ok ⟨L.label, L.op, L.args.map (List.map (spT d))⟩ := by
  cases ts with
  | nil => cases h; rfl
  | cons t r =>
    simp only [List.map_cons, lineT] at h ⊢
    split at h
    · rename_i h1
      have h1' : (spT d t).kind = 1 := h1
      rw [if_pos h1']
      cases h2 : argsT n r with
      | error p => rw [h2] at h; cases h
      | ok xs =>
        rw [h2] at h
        cases h
        rw [argsT_spT d n n' r xs h2]
        rfl
    · cases h
def SpP (P : List UInt8) : Prop := P = [] ∨ P = [9, 32]
def SpQ (b Q : List UInt8) : Prop := Q = [] ∨ Q = 32 :: 59 :: b
theorem scan_sp {b P Q s : List UInt8} (hP : SpP P) (hQ : SpQ b Q) {ts : List Tok} (h : scan s 0 = .ok ts) : scan (P ++ (s ++ Q)) 0 = .ok (ts.map (spT P.length)) := by
  have h1 : scan (s ++ Q) 0 = .ok ts := by
    rcases hQ with rfl | rfl
    · rw [List.append_nil]; exact h
    · exact scan_cut s b 0 ts h
  have h2 : scan (P ++ (s ++ Q)) 0 = scan (s ++ Q) (0 + P.length) := by
    rcases hP with rfl | rfl
    · rfl
    · show scan (9 :: 32 :: (s ++ Q)) 0 = _
      rw [scan, if_neg (by decide), if_pos (by decide), scan, if_neg (by decide), if_pos (by decide)]
      rfl
  rw [h2, scan_shift, h1]
theorem parseL_sp {b P Q s : List UInt8} (hP : SpP P) (hQ : SpQ b Q) {L : Ln} (h : parseL s = .ok L) : parseL (P ++ (s ++ Q)) = .ok ⟨L.label, L.op, L.args.map (List.map (spT P.length))⟩ := by
  unfold parseL at h ⊢
  cases hs : scan s 0 with
  | error p => rw [hs] at h; cases h
  | ok ts =>
    rw [hs] at h
    rw [scan_sp hP hQ hs]
    simp only at h ⊢
    unfold parseT at h ⊢
    rw [cutT_spT]
    exact lineT_spT _ _ _ _ _ L h
def mapR (d : Nat) : PRes → PRes
  | .error e => .error e
  | .ok (x, r) => .ok (x, r.map (spT d))
def NoPl (d : Nat) (W : List Tok → PRes) : Prop := ∀ ts, W (ts.map (spT d)) = mapR d (W ts)
theorem minusF_spT (d : Nat) (ts : List Tok) : ∀ c, minusF (ts.map (spT d)) c = ((minusF ts c).1, (minusF ts c).2.map (spT d)) := by
  induction ts with
  | nil => intro c; rfl
  | cons t r ih =>
    intro c
    rw [List.map_cons, minusF, minusF, isS_spT]
    split
    · exact ih _
    · rfl
theorem closeF_spT (d : Nat) (c : Int) (R : PRes) : closeF c (mapR d R) = mapR d (closeF c R) := by
  match R with
  | .error e => rfl
  | .ok (x, []) => rfl
  | .ok (x, u :: r) =>
    by_cases h : isS u 41 = true
    · simp [mapR, closeF, isS_spT, h]
    · simp [mapR, closeF, isS_spT, h]
theorem bareF_spT {d : Nat} {W : List Tok → PRes} (hW : NoPl d W) (c : Int) (ts : List Tok) : bareF W c (ts.map (spT d)) = mapR d (bareF W c ts) := by
  cases ts with
  | nil => rfl
  | cons t r =>
    rw [List.map_cons, bareF, bareF, isS_spT, hW, closeF_spT]
    have : singleF (spT d t) = singleF t := rfl
    rw [this]
    split
    · rfl
    · cases singleF t <;> rfl
theorem factorF_spT {d : Nat} {W : List Tok → PRes} (hW : NoPl d W) : NoPl d (factorF W) := by
  intro ts
  unfold factorF
  rw [minusF_spT]
  exact bareF_spT hW _ _
theorem partL_spT {d : Nat} {W : List Tok → PRes} (hW : NoPl d W) (f : Nat) : ∀ x ts, partL W f x (ts.map (spT d)) = mapR d (partL W f x ts) := by
  induction f with
  | zero => intro x ts; rfl
  | succ f ih =>
    intro x ts
    cases ts with
    | nil => rfl
    | cons t r =>
      rw [List.map_cons, partL, partL, isS_spT, factorF_spT hW]
      split
      · cases factorF W r with
        | error e => rfl
        | ok p =>
          obtain ⟨y, r'⟩ := p
          simp only [mapR]
          cases productF x y with
          | none => rfl
          | some z => exact ih z r'
      · rfl
theorem partF_spT {d : Nat} {W : List Tok → PRes} (hW : NoPl d W) : NoPl d (partF W) := by
  intro ts
  unfold partF
  rw [factorF_spT hW]
  cases factorF W ts with
  | error e => rfl
  | ok p =>
    obtain ⟨y, r'⟩ := p
    simp only [mapR]
    rw [List.length_map]
    exact partL_spT hW _ _ _
theorem sumL_spT {d : Nat} {W : List Tok → PRes} (hW : NoPl d W) (f : Nat) : ∀ acc n ts, sumL W f acc n (ts.map (spT d)) = mapR d (sumL W f acc n ts) := by
  induction f with
  | zero => intro acc n ts; rfl
  | succ f ih =>
    intro acc n ts
    cases ts with
    | nil => rfl
    | cons t r =>
      rw [List.map_cons, sumL, sumL, isS_spT, isS_spT, partF_spT hW]
      split
      · cases partF W r with
        | error e => rfl
        | ok p =>
          obtain ⟨y, r'⟩ := p
          exact ih _ _ _
      · split
        · cases partF W r with
          | error e => rfl
          | ok p =>
            obtain ⟨y, r'⟩ := p
            exact ih _ _ _
        · rfl
theorem sumF_spT {d : Nat} {W : List Tok → PRes} (hW : NoPl d W) : NoPl d (sumF W) := by
  intro ts
  unfold sumF
  rw [partF_spT hW]
  cases partF W ts with
  | error e => rfl
  | ok p =>
    obtain ⟨y, r'⟩ := p
    simp only [mapR]
    rw [List.length_map]
    exact sumL_spT hW _ _ _ _
theorem sumD_spT (d k : Nat) : NoPl d (sumD k) := by
  induction k with
  | zero => intro ts; rfl
  | succ k ih => exact sumF_spT ih
theorem parseF_spT (d : Nat) (ts : List Tok) : parseF (ts.map (spT d)) = parseF ts := by
  unfold parseF
  rw [sumD_spT]
  match sumD 33 ts with
  | .error e => rfl
  | .ok (x, []) => rfl
  | .ok (x, u :: r) => rfl
theorem wordF_spT (d : Nat) (ts : List Tok) : wordF (ts.map (spT d)) = wordF ts := by
  match ts with
  | [] => rfl
  | [t] => rfl
  | t :: u :: r => rfl
theorem regF_spT (d : Nat) (ts : List Tok) (z : Bool) : regF (ts.map (spT d)) z = regF ts z := by unfold regF; rw [wordF_spT]
theorem constF_spT (d : Nat) (ts : List Tok) : constF (ts.map (spT d)) = constF ts := by unfold constF; rw [parseF_spT]
theorem numF_spT (d : Nat) (k : Int) (ts : List Tok) : numF k (ts.map (spT d)) = numF k ts := by unfold numF; rw [constF_spT]
theorem nameF_spT (d : Nat) (ts : List Tok) : nameF (ts.map (spT d)) = nameF ts := by unfold nameF; rw [wordF_spT]
theorem exprF_spT (d : Nat) (ts : List Tok) (x : Itm) : exprF (ts.map (spT d)) x = exprF ts x := by unfold exprF; rw [parseF_spT]
theorem stepF_spT (d : Nat) (wc : Int) (pl : Nat) (ts : List Tok) (x : Itm) : stepF wc pl (ts.map (spT d)) x = stepF wc pl ts x := by
  unfold stepF
  rw [regF_spT, constF_spT, exprF_spT]
  cases ts with
  | nil => rfl
  | cons t r =>
    simp only [List.map_cons, isS_spT, exprF_spT]
theorem opF_spT (d : Nat) (wants : List UInt8) (args : List (List Tok)) : ∀ pl x, opF wants (args.map (List.map (spT d))) pl x = opF wants args pl x := by
  induction args with
  | nil => intro pl x; rfl
  | cons arg r ih =>
    intro pl x
    rw [List.map_cons, opF, opF, stepF_spT]
    cases stepF (atI (bs (str wants)) pl) pl arg x with
    | error k => rfl
    | ok y => exact ih _ _
theorem itOf_spT (d : Nat) (k : Int) (ts : List Tok) : itOf k (ts.map (spT d)) = itOf k ts := by unfold itOf; rw [exprF_spT, numF_spT]
theorem itsF_spT (d : Nat) (k : Int) (args : List (List Tok)) : itsF k (args.map (List.map (spT d))) = itsF k args := by
  induction args with
  | nil => rfl
  | cons arg r ih => rw [List.map_cons, itsF, itsF, itOf_spT, ih]
theorem singF_spT (d : Nat) (k : Int) (args : List (List Tok)) : singF k (args.map (List.map (spT d))) = singF k args := by
  cases args with
  | nil => rfl
  | cons arg r => rw [List.map_cons, singF, singF, itOf_spT]
theorem readF_spT (d : Nat) (s : List UInt8) (args : List (List Tok)) (sec : Int) : readF s (args.map (List.map (spT d))) sec = readF s args sec := by
  have h1 : ∀ k m, singThg k m (args.map (List.map (spT d))) sec = singThg k m args sec := fun k m => by unfold singThg; rw [List.length_map, singF_spT]
  have h2 : ∀ k, sevThg k (args.map (List.map (spT d))) sec = sevThg k args sec := fun k => by unfold sevThg; rw [List.length_map, itsF_spT]
  have h3 : equThg (args.map (List.map (spT d))) = equThg args := by
    match args with
    | [] => rfl
    | [a] => rfl
    | [a, b] => show equF _ _ = equF _ _; unfold equF; rw [nameF_spT, parseF_spT]
    | a :: b :: c :: r => rfl
  have h4 : gloThg (args.map (List.map (spT d))) = gloThg args := by
    match args with
    | [] => rfl
    | [a] => show gloF _ = gloF _; unfold gloF; rw [nameF_spT]
    | a :: b :: r => rfl
  have h5 : secThg (args.map (List.map (spT d))) = secThg args := by
    match args with
    | [] => rfl
    | [a] => show secF _ = secF _; unfold secF; rw [wordF_spT]
    | a :: b :: r => rfl
  have h6 : opThg s (args.map (List.map (spT d))) sec = opThg s args sec := by unfold opThg; rw [List.length_map, opF_spT]
  unfold readF
  rw [h1, h1, h1, h2, h2, h3, h4, h5, h6]
theorem lineU_sp {b P Q s : List UInt8} (hP : SpP P) (hQ : SpQ b Q) {sec : Int} {p : List UInt8 × Thg} (h : lineU s sec = .ok p) : lineU (P ++ (s ++ Q)) sec = .ok p := by
  unfold lineU at h ⊢
  cases hp : parseL s with
  | error q => rw [hp] at h; cases h
  | ok L =>
    rw [hp] at h
    rw [parseL_sp hP hQ hp]
    simp only at h ⊢
    rw [readF_spT]
    exact h
def spF (b : List UInt8) : List UInt8 → List UInt8
  | [] => []
  | c :: r => if c = 10 then 32 :: 59 :: (b ++ 10 :: 10 :: 9 :: 32 :: spF b r) else c :: spF b r
theorem nlLen_in (x r : List UInt8) (h : (10 : UInt8) ∉ x) : nlLen (x ++ 10 :: r) = x.length := by
  induction x with
  | nil => simp [nlLen]
  | cons c x ih =>
    rw [List.cons_append]
    unfold nlLen
    rw [if_neg (fun e => h (by rw [e]; exact List.mem_cons_self)), ih (fun e => h (List.mem_cons_of_mem _ e))]
    rfl
theorem linesOf_in (x r : List UInt8) (h : (10 : UInt8) ∉ x) : linesOf (x ++ 10 :: r) = x :: linesOf r := by
  rw [linesOf_more _ (by simp), nlLen_in x r h, List.take_left', List.drop_append, List.drop_eq_nil_of_le (by omega)]
  · simp [show x.length + 1 - x.length = 1 by omega]
  · rfl
theorem linesOf_last (x : List UInt8) (h : (10 : UInt8) ∉ x) (h0 : x ≠ []) : linesOf x = [x] := by
  have e : nlLen x = x.length := nlLen_end x fun j hj he => h (List.mem_of_getElem? he)
  rw [linesOf_more _ h0, e, List.take_length, List.drop_eq_nil_of_le (by omega), linesOf_nil]
theorem cut_nl (s : List UInt8) : (10 : UInt8) ∉ s ∨ ∃ x r, (10 : UInt8) ∉ x ∧ s = x ++ 10 :: r := by
  induction s with
  | nil => exact .inl (by simp)
  | cons c s ih =>
    by_cases hc : c = 10
    · exact .inr ⟨[], s, by simp, by rw [hc]; rfl⟩
    · rcases ih with h | ⟨x, r, h1, h2⟩
      · exact .inl (by simp; exact ⟨fun e => hc e.symm, h⟩)
      · exact .inr ⟨c :: x, r, by simp; exact ⟨fun e => hc e.symm, h1⟩, by rw [h2]; rfl⟩
theorem spF_none (b s : List UInt8) (h : (10 : UInt8) ∉ s) : spF b s = s := by
  induction s with
  | nil => rfl
  | cons c s ih => rw [spF, if_neg (fun e => h (by rw [e]; exact List.mem_cons_self)), ih (fun e => h (List.mem_cons_of_mem _ e))]
theorem spF_some (b x r : List UInt8) (h : (10 : UInt8) ∉ x) : spF b (x ++ 10 :: r) = x ++ 32 :: 59 :: (b ++ 10 :: 10 :: ([9, 32] ++ spF b r)) := by
  induction x with
  | nil => simp [spF]
  | cons c s ih => rw [List.cons_append, spF, if_neg (fun e => h (by rw [e]; exact List.mem_cons_self)), ih (fun e => h (List.mem_cons_of_mem _ e))]; rfl
theorem spP_no {P : List UInt8} (h : SpP P) : (10 : UInt8) ∉ P := by
  rcases h with rfl | rfl
  · simp
  · decide
theorem lines_sp {b P x : List UInt8} (r : List UInt8) (hb : (10 : UInt8) ∉ b) (hP : SpP P) (hx : (10 : UInt8) ∉ x) : linesOf (P ++ spF b (x ++ 10 :: r)) = (P ++ (x ++ 32 :: 59 :: b)) :: [] :: linesOf ([9, 32] ++ spF b r) := by
  have e : P ++ spF b (x ++ 10 :: r) = (P ++ (x ++ 32 :: 59 :: b)) ++ 10 :: ([] ++ 10 :: ([9, 32] ++ spF b r)) := by
    rw [spF_some b x r hx]
    simp
  rw [e, linesOf_in _ _ (by
    have h1 := spP_no hP
    simp only [List.mem_append, List.mem_cons]
    rintro (h | h | h | h | h)
    · exact h1 h
    · exact hx h
    · revert h; decide
    · revert h; decide
    · exact hb h), linesOf_in _ _ (by simp)]
structure Sim (A B : Asm) : Prop where
  text : A.text = B.text
  data : A.data = B.data
  equs : A.equs = B.equs
  sec : A.sec = B.sec
  given : A.given = B.given
  asked : A.asked.map (·.1) = B.asked.map (·.1)
theorem take_sim {A A' C : Asm} {n m : Nat} {s s' : List UInt8} (hS : Sim A A') (h : takeF A n s = .ok C) (hl : ∀ p, lineU s A.sec = .ok p → lineU s' A.sec = .ok p) : ∃ C', takeF A' m s' = .ok C' ∧ Sim C C' := by
  obtain ⟨t, d, e, sc, g, k⟩ := A
  obtain ⟨t', d', e', sc', g', k'⟩ := A'
  obtain ⟨h1, h2, h3, h4, h5, h6⟩ := hS
  dsimp only at h1 h2 h3 h4 h5 h6
  subst h1 h2 h3 h4 h5
  unfold takeF at h ⊢
  dsimp only at h hl ⊢
  cases hu : lineU s sc with
  | error q => rw [hu] at h; cases h
  | ok p =>
    rw [hl p hu]
    rw [hu] at h
    obtain ⟨lb, x⟩ := p
    dsimp only at h ⊢
    cases hn : nameU g lb with
    | none => rw [hn] at h; cases h
    | some g1 =>
      rw [hn] at h
      dsimp only at h ⊢
      cases hn2 : (if x.kind = 3 then nameU g1 x.name else some g1) with
      | none => rw [hn2] at h; cases h
      | some g2 =>
        rw [hn2] at h
        dsimp only at h ⊢
        split at h
        · cases h
        · rename_i hc
          cases h
          rw [if_neg hc]
          refine ⟨_, rfl, ⟨rfl, rfl, rfl, rfl, rfl, ?_⟩⟩
          unfold layU
          dsimp only
          split
          · rw [List.map_append, List.map_append, h6]; rfl
          · exact h6
theorem take_few {A B : Asm} {n : Nat} {s : List UInt8} (h : takeF A n s = .ok B) : B.text.length + B.data.length ≤ 8192 := by
  unfold takeF at h
  split at h
  · cases h
  · split at h
    · cases h
    · split at h
      · cases h
      · split at h
        · cases h
        · rename_i hc
          cases h
          unfold layU
          dsimp only
          by_cases hs : A.sec = 1
          · simp only [hs, if_true, List.length_append] at hc ⊢; omega
          · simp only [hs, if_false, List.length_append] at hc ⊢; omega
theorem take_void {A : Asm} {n : Nat} {s : List UInt8} (h8 : A.text.length + A.data.length ≤ 8192) (h : lineU s A.sec = .ok ([], thgE)) : takeF A n s = .ok A := by
  obtain ⟨t, d, e, sc, g, k⟩ := A
  dsimp only at h h8
  unfold takeF
  dsimp only
  rw [h]
  dsimp only
  rw [show nameU g [] = some g from rfl]
  dsimp only
  rw [if_neg (by decide)]
  dsimp only
  rw [if_neg (by show ¬ _ + 0 > 8192; omega)]
  unfold layU
  simp [thgE, labF]
theorem void_nil (sec : Int) : lineU [] sec = .ok ([], thgE) := by
  unfold lineU
  have h : parseL [] = .ok ⟨[], [], []⟩ := by
    unfold parseL
    rw [scan]
    rfl
  rw [h]
  rfl
theorem void_blank (sec : Int) : lineU [9, 32] sec = .ok ([], thgE) := lineU_sp (b := []) (P := [9, 32]) (Q := []) (s := []) (.inr rfl) (.inl rfl) (void_nil sec)
theorem run_sp {b : List UInt8} (hb : (10 : UInt8) ∉ b) (s : List UInt8) : ∀ (P : List UInt8), SpP P → ∀ (A A' B : Asm) (n m : Nat), Sim A A' → A'.text.length + A'.data.length ≤ 8192 → runF A n (linesOf s) = .ok B → ∃ B', runF A' m (linesOf (P ++ spF b s)) = .ok B' ∧ Sim B B' := by
  induction hn : s.length using Nat.strongRecOn generalizing s with
  | _ k ih =>
    subst hn
    intro P hP A A' B n m hS h8 h
    rcases cut_nl s with h0 | ⟨x, r, hx, rfl⟩
    · rw [spF_none b s h0]
      by_cases hs : s = []
      · subst hs
        rw [linesOf_nil] at h
        cases h
        rcases hP with rfl | rfl
        · exact ⟨A', by rw [List.append_nil, linesOf_nil]; rfl, hS⟩
        · refine ⟨A', ?_, hS⟩
          rw [List.append_nil, linesOf_last _ (by decide) (by simp), runF, take_void h8 (void_blank _)]
          rfl
      · rw [linesOf_last s h0 hs, runF] at h
        have hp := spP_no hP
        rw [linesOf_last (P ++ s) (by simp only [List.mem_append]; rintro (h | h); exact hp h; exact h0 h) (by simp [hs]), runF]
        cases ht : takeF A n s with
        | error q => rw [ht] at h; cases h
        | ok C =>
          rw [ht] at h
          cases h
          obtain ⟨C', h1, h2⟩ := take_sim (m := m) (s' := P ++ s) hS ht (fun p hp => by have := lineU_sp (b := []) (Q := []) hP (.inl rfl) hp; rwa [List.append_nil] at this)
          rw [h1]
          exact ⟨C', rfl, h2⟩
    · rw [linesOf_in x r hx, runF] at h
      rw [lines_sp r hb hP hx, runF]
      cases ht : takeF A n x with
      | error q => rw [ht] at h; cases h
      | ok C =>
        rw [ht] at h
        dsimp only at h
        obtain ⟨C', h1, h2⟩ := take_sim (m := m) (s' := P ++ (x ++ 32 :: 59 :: b)) hS ht (fun p hp => lineU_sp (b := b) hP (.inr rfl) hp)
        rw [h1]
        dsimp only
        have h8' := take_few h1
        rw [runF, take_void h8' (void_nil _)]
        dsimp only
        exact ih r.length (by simp; omega) r rfl [9, 32] (.inr rfl) C C' B (n + 1) (m + 1 + 1) h2 h8' h
theorem lines_spn {b : List UInt8} (hb : (10 : UInt8) ∉ b) (s : List UInt8) : ∀ (P : List UInt8), SpP P → (linesOf (P ++ spF b s)).length ≤ 2 * s.length + 1 := by
  induction hn : s.length using Nat.strongRecOn generalizing s with
  | _ k ih =>
    subst hn
    intro P hP
    rcases cut_nl s with h0 | ⟨x, r, hx, rfl⟩
    · rw [spF_none b s h0]
      by_cases hs : P ++ s = []
      · rw [hs, linesOf_nil]; simp
      · have hp := spP_no hP
        rw [linesOf_last (P ++ s) (by simp only [List.mem_append]; rintro (h | h); exact hp h; exact h0 h) hs]
        simp
    · rw [lines_sp r hb hP hx]
      have := ih r.length (by simp; omega) r rfl [9, 32] (.inr rfl)
      simp only [List.length_cons, List.length_append]
      omega
theorem asm_spaced {b s : List UInt8} {A : Asm} (hb : (10 : UInt8) ∉ b) (hs : s.length ≤ 2000) (hl : (spF b s).length ≤ 65536) (h : asmF s = .ok A) : ∃ B, asmF (spF b s) = .ok B ∧ uvA B = uvA A := by
  rw [asm_short (by omega)] at h
  have hn := lines_spn hb s [] (.inl rfl)
  rw [List.nil_append] at hn
  cases hr : runF asmE 1 (linesOf s) with
  | error f => rw [hr] at h; cases h
  | ok B =>
    rw [hr] at h
    dsimp only at h
    cases hu : unknownF B with
    | some q => rw [hu] at h; cases h
    | none =>
      rw [hu] at h
      cases h
      obtain ⟨C, h1, h2⟩ := run_sp hb s [] (.inl rfl) asmE asmE A 1 1 ⟨rfl, rfl, rfl, rfl, rfl, rfl⟩ (by decide) hr
      rw [List.nil_append] at h1
      refine ⟨C, ?_, ?_⟩
      · unfold asmF
        rw [if_neg (by omega), if_neg (by omega), h1]
        dsimp only
        have hC : unknownF C = none := by
          unfold unknownF at hu ⊢
          rw [Option.map_eq_none_iff, List.find?_eq_none] at hu ⊢
          intro g hg
          have : g.1 ∈ A.asked.map (·.1) := by rw [h2.asked]; exact List.mem_map.2 ⟨g, hg, rfl⟩
          obtain ⟨g', hg', e⟩ := List.mem_map.1 this
          have := hu g' hg'
          rw [← e, ← h2.given]
          exact this
        rw [hC]
      · unfold uvA globF
        rw [h2.text, h2.data, h2.equs, h2.asked]
theorem linesOf_count (s : List UInt8) : (linesOf s).length ≤ 1 + s.count 10 := by
  induction hn : s.length using Nat.strongRecOn generalizing s with
  | _ k ih =>
    subst hn
    rcases cut_nl s with h0 | ⟨x, r, hx, rfl⟩
    · by_cases hs : s = []
      · subst hs; rw [linesOf_nil]; simp
      · rw [linesOf_last s h0 hs]; simp
    · rw [linesOf_in x r hx]
      have := ih r.length (by simp; omega) r rfl
      rw [List.count_append, List.count_cons_self, List.length_cons]
      omega
theorem run_line (l : List (List UInt8)) : ∀ A n f, runF A n l = .error f → n ≤ f.1 ∧ f.1 < n + l.length := by
  induction l with
  | nil => intro A n f h; cases h
  | cons s r ih =>
    intro A n f h
    unfold runF at h
    split at h
    · cases h; simp
    · have := ih _ _ _ h
      rw [List.length_cons]
      omega
theorem take_asked {A B : Asm} {n : Nat} {s : List UInt8} (h : takeF A n s = .ok B) : ∀ g ∈ B.asked, g ∈ A.asked ∨ g.2 = n := by
  unfold takeF at h
  split at h
  · cases h
  · split at h
    · cases h
    · split at h
      · cases h
      · split at h
        · cases h
        · cases h
          unfold layU
          dsimp only
          intro g hg
          split at hg
          · rcases List.mem_append.1 hg with hg | hg
            · exact .inl hg
            · rw [List.mem_singleton] at hg; subst hg; exact .inr rfl
          · exact .inl hg
theorem run_asked (l : List (List UInt8)) : ∀ A B n, runF A n l = .ok B → ∀ g ∈ B.asked, g ∈ A.asked ∨ (n ≤ g.2 ∧ g.2 < n + l.length) := by
  induction l with
  | nil => intro A B n h g hg; cases h; exact .inl hg
  | cons s r ih =>
    intro A B n h g hg
    unfold runF at h
    split at h
    · cases h
    · rename_i C hc
      rcases ih _ _ _ h g hg with h1 | h1
      · rcases take_asked hc g h1 with h2 | h2
        · exact .inl h2
        · exact .inr (by rw [List.length_cons]; omega)
      · exact .inr (by rw [List.length_cons]; omega)
theorem asm_line {s : List UInt8} {f : Nat × Int} (hs : s.length ≤ 2000) (h : asmF s = .error f) : 1 ≤ f.1 ∧ f.1 ≤ 1 + s.count 10 := by
  rw [asm_short (by omega)] at h
  have hc := linesOf_count s
  cases hr : runF asmE 1 (linesOf s) with
  | error g =>
    rw [hr] at h
    cases h
    have := run_line _ _ _ _ hr
    omega
  | ok B =>
    rw [hr] at h
    dsimp only at h
    cases hu : unknownF B with
    | none => rw [hu] at h; cases h
    | some q =>
      rw [hu] at h
      cases h
      unfold unknownF at hu
      rw [Option.map_eq_some_iff] at hu
      obtain ⟨g, hg, rfl⟩ := hu
      have hm := List.mem_of_find?_eq_some hg
      rcases run_asked _ _ _ _ hr g hm with h1 | h1
      · cases h1
      · show 1 ≤ g.2 ∧ g.2 ≤ _
        omega
end Go.Proofs.YtogkchgjpflmjaaGreatDoor
/- UnitFine: a source that is refused. -/
namespace Go.Proofs.YtogkchgjpflmjaaGreatDoor
open Go.ChangeShapes Go.WideShapes Go.ChangeAt Go.RowKit Go.Sort
set_option linter.unusedVariables false
set_option maxRecDepth 100000
theorem few2000 (l : List UInt8) (hs : l.length ≤ 9223372036854775807) (w : World) : Calls Tryz.prog 16 #[.string (str l), .int .i64 2000] w fun e w' => e = .returned (.string (str (l.take 2000))) ∧ w' = w := few9 l 2000 hs (by omega) w
theorem few50 (l : List UInt8) (hs : l.length ≤ 9223372036854775807) (w : World) : Calls Tryz.prog 16 #[.string (str l), .int .i64 50] w fun e w' => e = .returned (.string (str (l.take 50))) ∧ w' = w := few9 l 50 hs (by omega) w
theorem byte_at {s : List UInt8} {S : ByteArray} (hS : str s = S) {i : Nat} (hi : i < S.size) : s[i]? = some S[i] := by
  subst hS
  have h : i < s.length := hi
  rw [List.getElem?_eq_getElem h]
  rfl
theorem count_step (s : List UInt8) (i : Nat) (b : UInt8) (h : s[i]? = some b) : (s.take (i + 1)).count 10 = (s.take i).count 10 + if b = 10 then 1 else 0 := by
  rw [List.take_add_one, h, List.count_append]
  by_cases hb : b = 10 <;> simp [hb]
theorem ten_of {b : UInt8} (h : ((b.toNat : Int) == 10) = true) : b = 10 := by
  have h1 : (b.toNat : Int) = 10 := beq_iff_eq.1 h
  have h2 : b.toNat = 10 := by omega
  exact UInt8.toNat.inj h2
theorem not_ten {b : UInt8} (h : ((b.toNat : Int) == 10) = false) : b ≠ 10 := by
  rintro rfl
  cases h
set_option maxHeartbeats 8000000 in
theorem fine_bad (l1 l2 : List UInt8) (h1 : l1.length ≤ 9223372036854775807) (n : Nat) (k : Int) (hA : asmF (l1.take 2000) = .error (n, k)) (w : World) (hE : Env w) :
    Calls Tryz.prog 6 #[.string (str l1), .string (str l2)] w fun e w' => e = .returned (.bool true) ∧ Below w.heap.size w w' := by
  have f1 := Hid.intro (fun w1 => few2000 l1 h1 w1)
  have hk := Hid.intro known_any
  have a1 := Hid.intro (asb_bad hA w hE)
  have hln := asm_line (by simp; omega) hA
  have hlen : (l1.take 2000).length ≤ 2000 := by simp; omega
  have hEH := Hid.intro hE
  clear h1 hE hA
  have hsz : (str (l1.take 2000)).size = (l1.take 2000).length := rfl
  have hbs : bs (str (l1.take 2000)) = l1.take 2000 := rfl
  generalize l1.take 2000 = s at *
  generalize str l1 = S0 at *
  generalize str l2 = T0 at *
  go_enter Tryz.func6, Tryz.ntmps6
  go_wp2_with (first
    | (go_at_call 16; (with_reducible refine (f1.out _).mono ?_); rintro e w1 ⟨rfl, hw1⟩; subst w1)
    | (go_at_call 9
       (with_reducible refine (a1.out).mono ?_)
       rintro e w1 ⟨hb1, q, rfl, hq⟩
       have hB2 := Hid.intro (hb1.alloc hb1.size (.cells #[.slice none 0 0, .slice none 0 0, .slice none 0 0, .slice none 0 0] 26))
       have hE2 := Hid.intro (hEH.out.below hB2.out)
       have hq2 := Hid.intro ((below_alloc w1 (.cells #[.slice none 0 0, .slice none 0 0, .slice none 0 0, .slice none 0 0] 26)).block q (blk_lt hq.2) |>.trans hq.2)
       clear hq hb1))
  all_goals first | (exfalso; omega) | skip
  have hT2 := Hid.intro (below_alloc (w1.alloc (.cells #[.slice none 0 0, .slice none 0 0, .slice none 0 0, .slice none 0 0] 26)) (.cells #[.pointer none] 51))
  have hB3 := Hid.intro (hB2.out.trans (hT2.out.mono hB2.out.size))
  have hq3 := Hid.intro ((hT2.out.block q (blk_lt hq2.out)).trans hq2.out)
  have hbx := Hid.intro (Boxed.new (w1.alloc (.cells #[.slice none 0 0, .slice none 0 0, .slice none 0 0, .slice none 0 0] 26)) 51 (.pointer none))
  rw [show (w1.alloc (.cells #[.slice none 0 0, .slice none 0 0, .slice none 0 0, .slice none 0 0] 26)).heap.size = w1.heap.size + 1 from by simp] at hbx
  have hux := Hid.intro (heap_alloc_new w1 (.cells #[.slice none 0 0, .slice none 0 0, .slice none 0 0, .slice none 0 0] 26))
  have hux3 := Hid.intro ((hT2.out.block _ (blk_lt hux.out)).trans hux.out)
  have hlo : Hid (w.heap.size ≤ w1.heap.size + 1) := Hid.intro (by have := hB2.out.size; simp at this; exact this)
  generalize (w1.alloc (.cells #[.slice none 0 0, .slice none 0 0, .slice none 0 0, .slice none 0 0] 26)).alloc (.cells #[.pointer none] 51) = W3 at *
  clear hT2 hux hE2 hB2 hq2
  generalize w1.heap.size = g1 at *
  generalize hS : str s = S at *
  obtain ⟨m0, hm0⟩ : ∃ m0, s.length = m0 := ⟨_, rfl⟩
  rw [hm0] at hsz hlen
  replace hm0 := Hid.intro hm0
  replace hS := Hid.intro hS
  replace hln := Hid.intro hln
  replace hbs := Hid.intro hbs
  go_loopw [8, 9] (fun v8 v9 wr => ∃ i c : Nat, i ≤ m0 ∧ v8 = .int .i64 (c : Int) ∧ v9 = .int .i64 (i : Int) ∧ Hid (c = 1 + (s.take i).count 10) ∧ c ≤ 1 + i ∧ wr = W3) (fun v8 v9 wr => m0 - (intOf v9).toNat)
  case atStart => exact ⟨0, 1, by omega, rfl, rfl, Hid.intro (by simp), by omega, rfl⟩
  case round =>
    obtain ⟨i, c, hi, rfl, rfl, hc, hci, rfl⟩ := hrel
    by_cases hlt : i < m0
    · have hlt2 : (i : Int) < (m0 : Int) := by omega
      have i0 : (0 : Int) ≤ (i : Int) := by omega
      have hiS : i < S.size := by omega
      have hbyte := Hid.intro (byte_at hS.out hiS)
      go_wp2_with fail
      all_goals first | omega | skip
      · rename_i ht
        have hb := ten_of ht
        refine ⟨⟨i + 1, c + 1, by omega, by go_num, by go_num, Hid.intro ?_, by omega, trivial⟩, by simp [intOf]; omega⟩
        rw [count_step s i _ hbyte.out, if_pos hb, hc.out]
        omega
      · rename_i ht
        have hb := not_ten ht
        refine ⟨⟨i + 1, c, by omega, by go_num, by go_num, Hid.intro ?_, by omega, trivial⟩, by simp [intOf]; omega⟩
        rw [count_step s i _ hbyte.out, if_neg hb, hc.out, Nat.add_zero]
    · have hin : i = m0 := by omega
      subst hin
      have hlt3 : ¬ ((i : Int) < (i : Int)) := by omega
      have hcn : Hid (1 ≤ (n : Int) ∧ (n : Int) ≤ (c : Int)) := by
        have e1 := hln.out
        have e2 := hc.out
        rw [← hm0.out, List.take_length] at e2
        exact Hid.intro (by omega)
      have hX := Hid.intro (as_box q (g1 + 1) (.pointer none) wr (hEH.out.below hB3.out).err hbx.out)
      have h12 : Hid (∀ W : World, Calls Tryz.prog 12 #[.agg #[.slice none 0 0, .slice none 0 0, .slice none 0 0, .slice none 0 0], .agg #[.slice none 0 0, .slice none 0 0, .slice none 0 0, .slice none 0 0]] W fun e w' => e = .returned (.bool true) ∧ Below W.heap.size W w') := fun W => sameUnit_any none none none none none none none none 0 0 0 0 0 0 0 0 uE uE_held W (uE_in _ _ _ _ _) (uE_in _ _ _ _ _)
      have hqn : Hid (q < wr.heap.size) := blk_lt hq3.out
      have hgn : Hid (g1 < wr.heap.size) := blk_lt hux3.out
      have hqb : Hid (q ≠ g1 + 1) := Hid.intro (fun e => by
        have h1 := hq3.out
        rw [e] at h1
        have h2 := hbx.out.cell
        rw [cell_blockT h1 0] at h2
        cases h2)
      obtain ⟨n1, n2⟩ := hcn.out
      clear hc hln hm0 hcn
      go_wp2_with (first
        | (go_at_call 25
           (with_reducible refine (hX.out).mono ?_)
           rintro e w7 ⟨rfl, hg7, hbx7⟩
           have k0 := hbx7.cell
           have k1 := (two_read ((hg7.block q hqn.out (fun e => by cases e; exact hqb.out rfl)).trans hq3.out)).1
           obtain ⟨c0, c1, c2, c3⟩ := four_read ((hg7.block g1 hgn.out (fun e => by cases e)).trans hux3.out)
           have hB7 := Hid.intro (below_grown hB3.out hg7 hlo.out)
           clear hg7 hbx7)
        | (go_at_call 12
           (with_reducible refine (h12.out _).mono ?_)
           rintro e w8 ⟨rfl, hb8⟩
           have hB8 := Hid.intro (hB7.out.trans (hb8.mono hB7.out.size))
           clear hb8)
        | (go_at_call 15; (with_reducible refine (hk.out _ (hEH.out.below hB8.out)).mono ?_); rintro e w9 ⟨rfl, hb9⟩))
      all_goals first | (exfalso; omega) | skip
      go_ret
      exact ⟨rfl, hB8.out.trans (hb9.mono hB8.out.size)⟩
end Go.Proofs.YtogkchgjpflmjaaGreatDoor
/- UnitFine: a source that is assembled. -/
namespace Go.Proofs.YtogkchgjpflmjaaGreatDoor
open Go.ChangeShapes Go.WideShapes Go.ChangeAt Go.RowKit Go.Sort
set_option linter.unusedVariables false
set_option maxRecDepth 100000
theorem convert_none9 (a : Option Addr) (c : Nat) (w : World) : (convert 33 9 (.slice a 0 c)).run Tryz.prog w = .ok (.string (str [])) w := by
  cases a with
  | none => exact run_convert_bytes_nil (P := Tryz.prog) w 33 5 Tryz.underlying33 Tryz.underlying5 0 c 9 Tryz.underlying9
  | some a => exact run_convert_bytes_back (P := Tryz.prog) w 33 9 5 a c [] Tryz.underlying33 Tryz.underlying5 Tryz.underlying9 (fun j hj => by simp at hj)
theorem conv_own9 {w : World} {lo : Nat} {a : Option Addr} {n c : Nat} {l : List UInt8} (h : w.ownsRow lo 5 1 (.slice a n c) n (byV l)) : (convert 33 9 (.slice a n c)).run Tryz.prog w = .ok (.string (str l)) w := by
  have hn : n = l.length := by have := h.1; simp at this; omega
  subst hn
  by_cases h0 : l = []
  · subst h0; exact convert_none9 a c w
  · exact conv_own h h0
theorem spF_append (b x y : List UInt8) : spF b (x ++ y) = spF b x ++ spF b y := by
  induction x with
  | nil => rfl
  | cons c x ih =>
    rw [List.cons_append, spF, spF, ih]
    by_cases hc : c = 10
    · rw [if_pos hc, if_pos hc]; simp
    · rw [if_neg hc, if_neg hc]; rfl
theorem spF_step (b s : List UInt8) (i : Nat) (c : UInt8) (h : s[i]? = some c) : spF b (s.take (i + 1)) = spF b (s.take i) ++ if c = 10 then 32 :: 59 :: (b ++ [10, 10, 9, 32]) else [c] := by
  rw [List.take_add_one, h, spF_append]
  show spF b (s.take i) ++ spF b [c] = _
  rw [spF]
  by_cases hc : c = 10
  · rw [if_pos hc, if_pos hc]; simp [spF]
  · rw [if_neg hc, if_neg hc, spF]
theorem ext_one {S : ByteArray} {j : Nat} (hj : j < S.size) : S.extract j (j + 1) = str [S[j]] := by
  apply ByteArray.ext
  rw [ByteArray.data_extract]
  apply Array.ext
  · have h : j < S.data.size := hj
    simp [str]
    omega
  · intro i h1 h2
    simp [str] at h2
    subst h2
    simp [str]
    rfl
structure BySt (w0 : World) (a : Option Addr) (c n : Nat) (l : List UInt8) (wr : World) : Prop where
  bel : Below w0.heap.size w0 wr
  own : wr.ownsRow w0.heap.size 5 1 (.slice a n c) n (byV l)
theorem BySt.below {w0 : World} {a : Option Addr} {c n : Nat} {l : List UInt8} {wr w' : World} (h : BySt w0 a c n l wr) (hb : Below wr.heap.size wr w') : BySt w0 a c n l w' := ⟨h.bel.trans (hb.mono h.bel.size), own_keptB h.own hb⟩
theorem BySt.push {w0 : World} {a : Option Addr} {c n : Nat} {l : List UInt8} {wr w3 : World} (h : BySt w0 a c n l wr) {b : UInt8} {v' : Value} (ho : w3.ownsRow w0.heap.size 5 1 v' (n + 1) (byV l ++ byV [b])) (hg : wr.grownBy w3 (Value.slice a n c).ownBlock) : ∃ a' c', v' = .slice a' (n + 1) c' ∧ BySt w0 a' c' (n + 1) (l ++ [b]) w3 := by
  obtain ⟨a', c', rfl⟩ := own_slice ho
  exact ⟨a', c', rfl, h.bel.grown hg h.bel.size (fun j hj => (h.own.lt _ hj).1), by rw [byV, List.map_append]; exact ho⟩
theorem filter_step (t : List UInt8) (i : Nat) (b : UInt8) (h : t[i]? = some b) : (t.take (i + 1)).filter (· ≠ 10) = (t.take i).filter (· ≠ 10) ++ if b = 10 then [] else [b] := by
  rw [List.take_add_one, h, List.filter_append]
  by_cases hb : b = 10 <;> simp [hb]
set_option maxHeartbeats 8000000 in
theorem fine_ok (l1 l2 : List UInt8) (h1 : l1.length ≤ 9223372036854775807) (h2 : l2.length ≤ 9223372036854775807) (A : Asm) (hA : asmF (l1.take 2000) = .ok A) (w : World) (hE : Env w) :
    Calls Tryz.prog 6 #[.string (str l1), .string (str l2)] w fun e w' => e = .returned (.bool true) ∧ Below w.heap.size w w' := by
  have f1 := Hid.intro (fun w1 => few2000 l1 h1 w1)
  have f2 := Hid.intro (fun w1 => few50 l2 h2 w1)
  have hk := Hid.intro known_any
  have hheld := asm_held (asmF_ok hA).1 (asmF_ok hA).2.1 (by omega)
  have hright := (asm_right (asmF_ok hA).1 (asmF_ok hA).2.1 (by omega) (asmF_ok hA).2.2).2
  have a1 := Hid.intro (asb_ok hA w hE)
  have h14 := Hid.intro (fun ta tc da dc ea ec ga gc w1 (hT : Tab w1) hI => unitRight_is ta tc da dc ea ec ga gc (uvA A) hheld w1 hT hI 0 hright)
  have h12 := Hid.intro (fun ta da ea ga tb db eb gb tc dc ec gc tk dk ek gk w1 p1 p2 => sameUnit_any ta da ea ga tb db eb gb tc dc ec gc tk dk ek gk (uvA A) hheld w1 p1 p2)
  have hsp := Hid.intro (fun b (hb : (10 : UInt8) ∉ b) (hl : (spF b (l1.take 2000)).length ≤ 65536) => asm_spaced hb (by simp; omega) hl hA)
  have hlen : (l1.take 2000).length ≤ 2000 := by simp; omega
  have hlen2 : (l2.take 50).length ≤ 50 := by simp; omega
  have hEH := Hid.intro hE
  clear h1 h2 hE hA hheld hright
  have hsz : (str (l1.take 2000)).size = (l1.take 2000).length := rfl
  have hsz2 : (str (l2.take 50)).size = (l2.take 50).length := rfl
  generalize l1.take 2000 = s at *
  generalize l2.take 50 = t at *
  generalize str l1 = S0 at *
  generalize str l2 = T0 at *
  unfold unitV at a1 h14 h12
  generalize hnt : (uvA A).text.length = nt at *
  generalize hnd : (uvA A).data.length = nd at *
  generalize hne : (uvA A).equs.length = ne at *
  generalize hng : (uvA A).globs.length = ng at *
  replace hnt := Hid.intro hnt
  replace hnd := Hid.intro hnd
  replace hne := Hid.intro hne
  replace hng := Hid.intro hng
  obtain ⟨i0, hi5, hz0, hz1, hz2⟩ := info_parts info5
  go_enter Tryz.func6, Tryz.ntmps6
  go_wp2_with (first
    | (go_at_call 16; (with_reducible refine (f1.out _).mono ?_); rintro e w1 ⟨rfl, hw1⟩; subst w1)
    | (go_at_call 9
       (with_reducible refine (a1.out).mono ?_)
       rintro e w1 ⟨hb1, ta, tc, da, dc, ea, ec, ga, gc, rfl, hI⟩
       have hT := Hid.intro ((below_alloc w1 (.cells #[.slice ta nt tc, .slice da nd dc, .slice ea ne ec, .slice ga ng gc] 26)).alloc (by simp) (.cells #[.pointer none] 51))
       have hB3 := Hid.intro (hb1.trans (hT.out.mono hb1.size))
       have hI3 := Hid.intro (hI.below hT.out)
       have hux := Hid.intro (show ((w1.alloc (.cells #[.slice ta nt tc, .slice da nd dc, .slice ea ne ec, .slice ga ng gc] 26)).alloc (.cells #[.pointer none] 51)).heap[w1.heap.size]? = some (.cells #[.slice ta nt tc, .slice da nd dc, .slice ea ne ec, .slice ga ng gc] 26 (0, 0)) from by
         rw [Below.heap_alloc _ _ _ (by simp)]
         exact heap_alloc_new w1 _)
       obtain ⟨c0, c1, c2, c3⟩ := four_read hux.out
       have q14 := Hid.intro (h14.out ta tc da dc ea ec ga gc _ (hEH.out.below hB3.out).tab hI3.out)
       clear hb1 hI hT)
    | (go_at_call 14
       (with_reducible refine (q14.out).mono ?_)
       rintro e w4 ⟨rfl, hb4⟩
       have hB4 := Hid.intro (hB3.out.trans (hb4.mono hB3.out.size))
       have hI4 := Hid.intro (hI3.out.below hb4)
       have hux4 := Hid.intro ((hb4.block _ (blk_lt hux.out)).trans hux.out)
       clear hb4 c0 c1 c2 c3)
    | (go_at_call 16; (with_reducible refine (f2.out _).mono ?_); rintro e w5 ⟨rfl, hw5⟩; subst w5))
  all_goals first | (exfalso; omega) | skip
  clear hB3 hI3 hux q14 a1 h14 f1 f2
  generalize w1.heap.size = g1 at *
  have hN0 : Hid (BySt w4 none 0 0 [] w4) := ⟨Below.refl _ _, World.ownsRow_nil _ _ _ _⟩
  generalize hS : str s = S at *
  generalize hTt : str t = T at *
  obtain ⟨m0, hm0⟩ : ∃ m0, s.length = m0 := ⟨_, rfl⟩
  obtain ⟨k0, hk0⟩ : ∃ k0, t.length = k0 := ⟨_, rfl⟩
  rw [hm0] at hsz hlen
  rw [hk0] at hsz2 hlen2
  replace hm0 := Hid.intro hm0
  replace hk0 := Hid.intro hk0
  replace hS := Hid.intro hS
  replace hTt := Hid.intro hTt
  go_loopw [10, 12] (fun v10 v12 wr => ∃ (i : Nat) (ba : Option Addr) (bc bn : Nat), i ≤ k0 ∧ bn ≤ i ∧ v10 = .slice ba bn bc ∧ v12 = .int .i64 (i : Int) ∧ Hid (BySt w4 ba bc bn ((t.take i).filter (· ≠ 10)) wr)) (fun v10 v12 wr => k0 - (intOf v12).toNat)
  case atStart => exact ⟨0, none, 0, 0, by omega, by omega, rfl, rfl, by simpa using hN0⟩
  case round =>
    clear hN0
    obtain ⟨i, ba, bc, bn, hi, hbn, rfl, rfl, hB⟩ := hrel
    by_cases hlt : i < k0
    · have hlt2 : (i : Int) < (k0 : Int) := by omega
      have z0 : (0 : Int) ≤ (i : Int) := by omega
      have hiS : i < T.size := by omega
      have hbyte := Hid.intro (byte_at hTt.out hiS)
      have hB2 := Hid.intro (hB.out.below (below_alloc wr (.cells #[.int .u8 (T[i].toNat : Int)] 5)))
      have hsrc : Hid (Src (wr.alloc (.cells #[.int .u8 (T[i].toNat : Int)] 5)) (.slice (some ⟨wr.heap.size, 0, none⟩) 1 1) 1 (byV [T[i]])) := .inr ⟨_, _, rfl, cells_new wr #[.int .u8 (T[i].toNat : Int)] 5⟩
      have hbase : w4.heap.size ≤ (wr.alloc (.cells #[.int .u8 (T[i].toNat : Int)] 5)).heap.size := hB2.out.bel.size
      go_wp2_with (at_builtin; go_must (refine wpList_app rfl (.tmp 83) (.tmp 87) 33 rfl w4.heap.size 5 i0 _ 1 1 Tryz.underlying33 hi5 hz0 hz1 hz2 rfl (by decide) (.slice ba bn bc) bn _ rfl hB2.out.own (.slice (some ⟨_, 0, none⟩) 1 1) 1 (byV [T[i]]) rfl hsrc.out rfl (by simp [Value.oneCell']) (by unfold maxLen; omega) (by omega) hbase ?_; intro v' w3 ho hg hw; obtain ⟨a', c', rfl, hN⟩ := hB2.out.push ho hg; replace hN := Hid.intro hN; clear ho hg hw))
      all_goals first | omega | skip
      · rename_i ht
        have hb : ¬ T[i] = 10 := fun e => by rw [e] at ht; revert ht; decide
        refine ⟨⟨i + 1, a', c', bn + 1, by omega, by omega, rfl, by go_num, Hid.intro ?_⟩, by simp [intOf]; omega⟩
        rw [filter_step t i _ hbyte.out, if_neg hb]
        exact hN.out
      · rename_i ht
        have hb : T[i] = 10 := Classical.byContradiction fun hb => by
          have hn : ¬ (T[i].toNat : Int) = 10 := fun e => hb (ten_of (beq_iff_eq.2 e))
          simp [hn] at ht
        refine ⟨⟨i + 1, ba, bc, bn, by omega, by omega, rfl, by go_num, Hid.intro ?_⟩, by simp [intOf]; omega⟩
        rw [filter_step t i _ hbyte.out, if_pos hb, List.append_nil]
        exact hB.out
    · have hin : i = k0 := by omega
      subst hin
      have hlt3 : ¬ ((i : Int) < (i : Int)) := by omega
      have hb5 : Hid (BySt w4 ba bc bn (t.filter (· ≠ 10)) wr) := by
        have := hB.out
        rwa [← hk0.out, List.take_length] at this
      have hno : Hid ((10 : UInt8) ∉ t.filter (· ≠ 10)) := Hid.intro (by simp)
      have hbl : Hid ((t.filter (· ≠ 10)).length ≤ 50) := Hid.intro (by have := List.length_filter_le (· ≠ (10 : UInt8)) t; have h2 := hk0.out; omega)
      clear hB hk0
      generalize t.filter (· ≠ 10) = b at *
      have hcv := conv_own9 hb5.out.own
      have hB5 := Hid.intro (hB4.out.trans (hb5.out.bel.mono hB4.out.size))
      have hI5 := Hid.intro (hI4.out.below hb5.out.bel)
      have hux5 := Hid.intro ((hb5.out.bel.block _ (blk_lt hux4.out)).trans hux4.out)
      have hbz : (str b).size ≤ 50 := hbl.out
      clear hB4 hI4 hux4 hb5
      go_wp2_with fail
      all_goals first | (exfalso; omega) | skip
      go_loopw [13, 14] (fun v13 v14 w6 => ∃ (j : Nat) (X : ByteArray), j ≤ m0 ∧ v13 = .string X ∧ v14 = .int .i64 (j : Int) ∧ Hid (X = str (spF b (s.take j))) ∧ X.size ≤ 56 * j ∧ w6 = wr) (fun v13 v14 w6 => m0 - (intOf v14).toNat)
      case atStart => exact ⟨0, ⟨#[]⟩, by omega, rfl, rfl, Hid.intro rfl, by decide, rfl⟩
      case round =>
        obtain ⟨j, X, hj, rfl, rfl, hX, hXs, rfl⟩ := hrel
        by_cases hlt : j < m0
        · have hlt2 : (j : Int) < (m0 : Int) := by omega
          have z0 : (0 : Int) ≤ (j : Int) := by omega
          have hjS : j < S.size := by omega
          have hbyte := Hid.intro (byte_at hS.out hjS)
          have e4 : (⟨#[32, 59]⟩ : ByteArray).size = 2 := rfl
          have e5 : (⟨#[10, 10, 9, 32]⟩ : ByteArray).size = 4 := rfl
          go_wp2_with fail
          all_goals first | omega | (exfalso; omega) | skip
          · rename_i ht
            have hb := ten_of ht
            refine ⟨⟨j + 1, _, by omega, rfl, by go_num, Hid.intro ?_, ?_, trivial⟩, by simp [intOf]; omega⟩
            · rw [spF_step b s j _ hbyte.out, if_pos hb, hX.out]
              apply ByteArray.ext
              simp [str]
            · simp only [ByteArray.size_append]
              omega
          · rename_i ht
            have hb := not_ten ht
            refine ⟨⟨j + 1, _, by omega, rfl, by go_num, Hid.intro ?_, ?_, trivial⟩, by simp [intOf]; omega⟩
            · rw [spF_step b s j _ hbyte.out, if_neg hb, hX.out, ext_one hjS]
              apply ByteArray.ext
              simp [str]
            · rw [ext_one hjS, ByteArray.size_append]
              show X.size + 1 ≤ _
              omega
        · have hin : j = m0 := by omega
          subst hin
          have hlt3 : ¬ ((j : Int) < (j : Int)) := by omega
          have hX5 : Hid (X = str (spF b s)) := by
            have := hX.out
            rw [← hm0.out, List.take_length] at this
            exact Hid.intro this
          obtain ⟨c0, c1, c2, c3⟩ := four_read hux5.out
          by_cases hbig : X.size ≤ 65536
          · have hb2 : ¬ ((65536 : Int) < (X.size : Int)) := by omega
            have hl6 : (spF b s).length ≤ 65536 := by
              have h3 : X.size = (spF b s).length := by rw [hX5.out]; rfl
              omega
            obtain ⟨B, hB1, hB2⟩ := hsp.out b hno.out hl6
            have a2 := Hid.intro (asb_ok hB1 _ (hEH.out.below hB5.out))
            rw [hB2, ← hX5.out] at a2
            unfold unitV at a2
            rw [hnt.out, hnd.out, hne.out, hng.out] at a2
            have hgl := Hid.intro (blk_lt hux5.out)
            go_wp2_with (first
              | (go_at_call 9
                 (with_reducible refine (a2.out).mono ?_)
                 rintro e w7 ⟨hb7, xa, xc, ya, yc, za, zc, ua, uc, rfl, hJ⟩
                 have hA8 := Hid.intro (below_alloc w7 (.cells #[.slice xa nt xc, .slice ya nd yc, .slice za ne zc, .slice ua ng uc] 26))
                 have hB7 := Hid.intro (hB5.out.trans (hb7.mono hB5.out.size))
                 have hB8 := Hid.intro (hB7.out.trans (hA8.out.mono hB7.out.size))
                 have hux7 := (hb7.block _ hgl.out).trans hux5.out
                 clear c0 c1 c2 c3
                 obtain ⟨c0, c1, c2, c3⟩ := four_read ((hA8.out.block _ (blk_lt hux7)).trans hux7)
                 have q12 := Hid.intro (h12.out ta da ea ga xa ya za ua tc dc ec gc xc yc zc uc _ ((hI5.out.below hb7).below hA8.out) (hJ.below hA8.out))
                 clear hb7 hJ hux7)
              | (go_at_call 12
                 (with_reducible refine (q12.out).mono ?_)
                 rintro e w9 ⟨rfl, hb9⟩
                 have hB9 := Hid.intro (hB8.out.trans (hb9.mono hB8.out.size))
                 clear hb9)
              | (go_at_call 15; (with_reducible refine (hk.out _ (hEH.out.below hB9.out)).mono ?_); rintro e wf ⟨rfl, hbf⟩))
            all_goals first | omega | (exfalso; omega) | skip
            go_ret
            exact ⟨rfl, hB9.out.trans (hbf.mono hB9.out.size)⟩
          · have hb2 : (65536 : Int) < (X.size : Int) := by omega
            go_wp2_with (go_at_call 15; (with_reducible refine (hk.out _ (hEH.out.below hB5.out)).mono ?_); rintro e w9 ⟨rfl, hb9⟩)
            all_goals first | omega | (exfalso; omega) | skip
            go_ret
            exact ⟨rfl, hB5.out.trans (hb9.mono hB5.out.size)⟩
end Go.Proofs.YtogkchgjpflmjaaGreatDoor
/- UnitFine, of any two texts. -/
namespace Go.Proofs.YtogkchgjpflmjaaGreatDoor
open Go.ChangeShapes Go.WideShapes Go.ChangeAt Go.RowKit Go.Sort
theorem fine_any (l1 l2 : List UInt8) (h1 : l1.length ≤ 9223372036854775807) (h2 : l2.length ≤ 9223372036854775807) (w : World) (hE : Env w) :
    Calls Tryz.prog 6 #[.string (str l1), .string (str l2)] w fun e w' => e = .returned (.bool true) ∧ Below w.heap.size w w' := by
  cases hA : asmF (l1.take 2000) with
  | error f =>
    obtain ⟨n, k⟩ := f
    exact fine_bad l1 l2 h1 n k hA w hE
  | ok A => exact fine_ok l1 l2 h1 h2 A hA w hE
end Go.Proofs.YtogkchgjpflmjaaGreatDoor
namespace Go.Proofs.YtogkchgjpflmjaaGreatDoor.unitFine
open Go.ChangeShapes Go.WideShapes Go.ChangeAt Go.RowKit
open Go.ChangeMaps (open_string shut_string)
set_option linter.unusedVariables false
set_option maxRecDepth 100000
theorem str_bs (s : ByteArray) : str (bs s) = s := rfl
theorem fineW (s t : ByteArray) (w : World) (hE : Env w) (hs : s.size ≤ 9223372036854775807) (ht : t.size ≤ 9223372036854775807) :
    Calls Tryz.prog 6 #[.string s, .string t] w fun e w' => e = .returned (.bool true) ∧ Below w.heap.size w w' := fine_any (bs s) (bs t) hs ht w hE
theorem contract (H : Type) (enc : TypeId × Value → H) (W : World) (base : Nat) (args : Array Value) (ds gs : List (DataW H)) (before : List MemPlace)
    (hval : ∀ (j : Nat) t v, Tryz.f6.params[j]? = some t → args[j]? = some v → Value.okWide Tryz.prog W .any base t v)
    (hW : DataW.Whole enc Tryz.prog Tryz.f6.params.toList Rows.unitFineSpec.vars false W args.toList ds gs before) (hsz : (DataW.weightsEach Tryz.prog (Tryz.f6.params.toList ++ Rows.unitFineSpec.plain.varTypes Tryz.prog) (ds ++ gs)).all (· ≤ reachBytes) = true) (hL : laidMetH Tryz.prog Rows.unitFineRow.laid W) :
    Calls Tryz.prog 6 args W fun e W' => ∃ v, e = .returned v ∧ Rows.unitFineSpec.post enc Tryz.prog Tryz.f6 false true false false W args v W' := by
  have hW' := hW
  obtain ⟨p, q, hA0, hV, rfl, hfz, hnd⟩ := hW
  have hA : DataW.TrodAll enc Tryz.prog W 0 (fun _ => true) true Tryz.f6.params.toList args.toList ds p := hA0
  rw [Tryz.params6] at hA hval hsz
  obtain ⟨v0, vs0, d0, ds0, p0, q0, hargs, rfl, rfl, h0, r0⟩ := trodAll_cons hA
  obtain ⟨v1, vs1, d1, ds1, p1, q1, rfl, rfl, rfl, h1, r1⟩ := trodAll_cons r0
  obtain ⟨rfl, rfl, rfl⟩ := trodAll_nil r1
  obtain rfl : args = #[v0, v1] := by cases args; simp_all
  obtain ⟨rfl, rfl⟩ := trodVars_none hV
  obtain ⟨x0, rfl, rfl, rfl, w0⟩ := open_string Tryz.underlying9 (hval 0 9 v0 rfl rfl) h0
  obtain ⟨x1, rfl, rfl, rfl, w1⟩ := open_string Tryz.underlying9 (hval 1 9 v1 rfl rfl) h1
  clear hA0
  simp only [List.append_nil] at hW'
  refine (fineW x0 x1 W (env_of_laid hL) (Nat.le_trans w0 (by decide)) (Nat.le_trans w1 (by decide))).mono fun e W' ⟨he, bel⟩ => ?_
  subst he
  exact ⟨_, rfl, _, _, _, [], _, [], hW', trodAll_mk1 (shut_bool Tryz.underlying4 _), (trodAll_cons_mk (shut_string Tryz.underlying9 w0) (trodAll_cons_mk (shut_string Tryz.underlying9 w1) trodAll_mk0)), rfl, bel.frame _, fun h => by cases h⟩
theorem reads (os : Os) {H : Type} (enc : TypeId × Value → H) : ∃ places, DataW.whole enc Tryz.prog ((laidWorld os).forCall (fun _ _ => 0) ⟨#[], #[.string ⟨#[]⟩, .string ⟨#[]⟩], []⟩).memory Tryz.f6.params.toList Rows.unitFineSpec.vars false #[.string ⟨#[]⟩, .string ⟨#[]⟩].toList 8 = some ([.lit (.string []), .lit (.string [])], [], places) :=
  ⟨[], by kernel_rfl⟩
theorem lifted (os : Os) (started : os.Started) (H : Type) (enc : TypeId × Value → H) (F : Stop.Interp) :
    ReturnsInHanded {} Tryz.checked os 6 .any ((OpenSpec.ofChange Rows.unitFineSpec).preRow enc Tryz.prog Tryz.f6 Rows.unitFineRow.domain false Rows.unitFineRow.laid) (((OpenSpec.ofChange Rows.unitFineSpec).at F).post enc Tryz.prog Tryz.f6 false true false false) := by
  obtain ⟨places, hx⟩ := reads os enc
  refine returnsInHanded_of_row (C := Tryz.checked) (s := OpenSpec.ofChange Rows.unitFineSpec) ownKnob_none started (by kernel_rfl) Tryz.func6
    (witness_row_at (enc := enc) (C := Tryz.checked) false (laidWorld os) #[.string ⟨#[]⟩, .string ⟨#[]⟩] rfl (by kernel_rfl) (by kernel_rfl) (by kernel_rfl)
      (OpenSpec.preRow_of_cond 8 hx (by kernel_rfl) (fun k hk => by cases hk) (by kernel_rfl) (laid_met os _))) ?_
  intro W base args ds gs before hval hW x1 x2 x3 hL _ _
  exact contract H enc W base args ds gs before hval hW x3 hL
theorem said : Rows.UnitFineSaid :=
  OpenClaim.holds_of_cond 6 Tryz.f6 rfl rfl rfl rfl rfl rfl rfl ⟨rfl, rfl, rfl, rfl, rfl⟩ rfl rfl rfl rfl rfl (by kernel_rfl) Tryz.func6 (by kernel_rfl)
    (of_decide_eq_true (by kernel_rfl)) (by unfold Func.isWrapper; first | (rw [if_pos (by decide +kernel)]; kernel_rfl) | (rw [if_neg (by decide +kernel)]; exact ⟨rfl, rfl⟩))
    (fun os started H enc _ F => by rw [OpenClaim.pre_eq_preRow]; exact lifted os started H enc F)
theorem plain (f : FuncId) (fn : Func) (hf : Tryz.pinned.checked.prog.funcNamed "spandrel/spandrellaw9.UnitFine" = some f) (hfn : Tryz.pinned.checked.prog.funcs[f]? = some fn) :
    true = Tryz.pinned.checked.prog.looks [] ∧ ∀ (j : Nat) t, fn.params[j]? = some t → Tryz.pinned.checked.prog.wantsStandIn t = false := by
  obtain rfl : f = 6 := Option.some.inj ((show Tryz.prog.funcNamed "spandrel/spandrellaw9.UnitFine" = some 6 by kernel_rfl).symm.trans hf) |>.symm
  obtain rfl : fn = Tryz.f6 := (Option.some.inj (Tryz.func6.symm.trans hfn)).symm
  refine ⟨by kernel_rfl, fun j t ht => ?_⟩
  rw [Tryz.params6] at ht
  have hm := Array.mem_of_getElem? ht
  have h9 : Tryz.prog.wantsStandIn 9 = false := by kernel_rfl
  simp at hm
  subst hm
  exact h9
theorem card : Rows.UnitFineCardSaid :=
  Claim7.holds_tied_plain_at .later [] _ _ _ _ said (fun _ h => by cases h) (by kernel_rfl) (fun _ h => by cases h) unitFine_row_tie rfl ⟨rfl, rfl⟩ (by kernel_rfl) rfl plain (by kernel_rfl)
end Go.Proofs.YtogkchgjpflmjaaGreatDoor.unitFine
namespace Go.Proofs.YtogkchgjpflmjaaGreatDoor
theorem unitFine_holds : Rows.UnitFineCardSaid := unitFine.card
#print axioms unitFine_holds
end Go.Proofs.YtogkchgjpflmjaaGreatDoor
