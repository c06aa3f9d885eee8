/- The law's same, says, known. -/
import Derived.Test.YtlkmegchaeokgaaGreatDoorParseM
import Derived.Test.YtlkmegchaeokgaaGreatDoorKnown
import Derived.Test.YtlkmegchaeokgaaGreatDoorR5
import Derived.Test.YtlkmegchaeokgaaGreatDoorRefPL
import Derived.Test.YtlkmegchaeokgaaGreatDoorSameL
/- The expressions, reckoned: for closed texts. -/
namespace Go.Proofs.YtlkmegchaeokgaaGreatDoor
set_option linter.unusedVariables false
set_option maxRecDepth 100000

def insT (t : Tm) : List Tm → List Tm
  | [] => [t]
  | x :: r => if leT t x = true then t :: x :: r else x :: insT t r
def sortI : List Tm → List Tm
  | [] => []
  | t :: r => insT t (sortI r)

theorem insT_perm (t : Tm) (l : List Tm) : (t :: l).Perm (insT t l) := by
  induction l with
  | nil => exact List.Perm.refl _
  | cons x r ih =>
    unfold insT
    split
    · exact List.Perm.refl _
    · exact (List.Perm.swap x t r).trans (ih.cons x)

theorem sortI_perm (l : List Tm) : l.Perm (sortI l) := by
  induction l with
  | nil => exact List.Perm.refl _
  | cons t r ih => exact (ih.cons t).trans (insT_perm t _)

theorem insT_sorted (t : Tm) (l : List Tm) (h : l.Pairwise (fun a b => leT a b = true)) : (insT t l).Pairwise (fun a b => leT a b = true) := by
  induction l with
  | nil => exact List.pairwise_singleton _ _
  | cons x r ih =>
    obtain ⟨h1, h2⟩ := List.pairwise_cons.1 h
    unfold insT
    split
    · next hle =>
      refine List.pairwise_cons.2 ⟨fun b hb => ?_, h⟩
      rcases List.mem_cons.1 hb with rfl | hb
      · exact hle
      · exact leT_trans _ _ _ hle (h1 b hb)
    · next hle =>
      refine List.pairwise_cons.2 ⟨fun b hb => ?_, ih h2⟩
      rcases List.mem_cons.1 ((insT_perm t r).mem_iff.2 hb) with rfl | hb
      · have := leT_total x b
        have h3 : leT b x = false := by simpa using hle
        rw [h3] at this
        simpa using this
      · exact h1 b hb

theorem sortI_sorted (l : List Tm) : (sortI l).Pairwise (fun a b => leT a b = true) := by
  induction l with
  | nil => exact List.Pairwise.nil
  | cons t r ih => exact insT_sorted t _ ih

def normI (l : List Tm) : List Tm := gather (sortI l)
theorem norm_normI (l : List Tm) : norm l = normI l :=
  (gather_sorted (sortI_perm l) ((sortI_sorted l).imp (fun {a b} h => by simpa [leT] using h))).symm

def sumLI (within : List Tok → PRes) : Nat → List Tm → Int → List Tok → PRes
  | 0, acc, n, ts => .ok (⟨normI acc, n⟩, ts)
  | f + 1, acc, n, [] => .ok (⟨normI acc, n⟩, [])
  | f + 1, acc, n, t :: r =>
    if isS t 43 = true then
      match partF within r with
      | .error e => .error e
      | .ok (x, r') => sumLI within f (acc ++ x.terms) ((n + x.const) % 4294967296) r'
    else if isS t 45 = true then
      match partF within r with
      | .error e => .error e
      | .ok (x, r') => sumLI within f (acc ++ timesT x.terms 4294967295) ((n + x.const * 4294967295 % 4294967296) % 4294967296) r'
    else .ok (⟨normI acc, n⟩, t :: r)

theorem sumL_I (within : List Tok → PRes) (f : Nat) : ∀ acc n ts, sumL within f acc n ts = sumLI within f acc n ts := by
  induction f with
  | zero => intro acc n ts; unfold sumL sumLI; rw [norm_normI]
  | succ f ih =>
    intro acc n ts
    cases ts with
    | nil => unfold sumL sumLI; rw [norm_normI]
    | cons t r =>
      unfold sumL sumLI
      rw [norm_normI]
      split
      · cases partF within r with
        | error e => rfl
        | ok p => exact ih _ _ _
      · split
        · cases partF within r with
          | error e => rfl
          | ok p => exact ih _ _ _
        · rfl

def sumFI (within : List Tok → PRes) (ts : List Tok) : PRes :=
  match partF within ts with
  | .error e => .error e
  | .ok (x, r) => sumLI within r.length x.terms x.const r

theorem sumF_I (within : List Tok → PRes) : sumF within = sumFI within := by
  funext ts
  unfold sumF sumFI
  cases partF within ts with
  | error e => rfl
  | ok p => exact sumL_I _ _ _ _ _

def sumDI : Nat → List Tok → PRes
  | 0, _ => .error 21
  | d + 1, ts => sumFI (sumDI d) ts

theorem sumD_I (d : Nat) : sumD d = sumDI d := by
  induction d with
  | zero => funext ts; rfl
  | succ d ih => funext ts; show sumF (sumD d) ts = _; rw [ih, sumF_I]; rfl

def parseFI (ts : List Tok) : Except Int Lin :=
  match sumDI 33 ts with
  | .error e => .error e
  | .ok (x, []) => .ok x
  | .ok (_, _ :: _) => .error 20

theorem parseF_I (ts : List Tok) : parseF ts = parseFI ts := by unfold parseF parseFI; rw [sumD_I]; rcases sumDI 33 ts with e | ⟨x, _ | ⟨t, r⟩⟩ <;> rfl

def readI (f : Nat) (s : List UInt8) : Except Int Lin := match scanF f s 0 with
  | .ok ts => parseFI ts
  | .error _ => parseFI []

theorem ev0 : readI 100 [50, 42, 40, 97, 32, 45, 32, 51, 41, 32, 43, 32, 98, 32, 45, 32, 97] = .ok ⟨[⟨[97], 1⟩, ⟨[98], 1⟩], 4294967290⟩ := by rfl
theorem ev1 : readI 100 [97, 42, 98] = .error 21 := by rfl
theorem ev2 : readI 100 [40, 97, 45, 97, 41, 42, 98] = .ok ⟨[], 0⟩ := by rfl
theorem ev3 : readI 100 [97, 43] = .error 20 := by rfl
theorem ev4 : readI 100 [114, 49] = .error 20 := by rfl
theorem ev5 : readI 100 [] = .error 20 := by rfl
theorem ev6 : readI 100 [45, 32, 45, 49] = .ok ⟨[], 1⟩ := by rfl
def deep : Nat → List UInt8
  | 0 => [49]
  | n + 1 => [40] ++ deep n ++ [41]
theorem ev7 : readI 100 (deep 32) = .ok ⟨[], 1⟩ := by rfl
theorem ev8 : readI 100 ([40] ++ deep 32 ++ [41]) = .error 21 := by rfl
end Go.Proofs.YtlkmegchaeokgaaGreatDoor
/- Lines that are read for the law: their arguments in memory. -/
namespace Go.Proofs.YtlkmegchaeokgaaGreatDoor
open Go.ChangeShapes Go.WideShapes Go.ChangeAt Go.RowKit
set_option linter.unusedVariables false
set_option maxRecDepth 100000

/-- tokens that are few and short, their numbers of 32 bits -/
structure Small (xs : List Tok) : Prop where
  few : xs.length ≤ 1000
  short : ∀ t ∈ xs, t.text.length ≤ 1000000
  nums : ∀ t ∈ xs, 0 ≤ t.num ∧ t.num < 4294967296
  any : xs ≠ []

theorem tokLies_from {w : World} {a : Option Addr} {ts : List Tok} (h : TokLies w a ts) : TokFrom w a ts := by
  rcases h with h | ⟨g, ha, hg, hl⟩
  · exact .inl h
  · refine .inr ⟨g, 0, ha, hg, fun i t hi => ?_⟩
    obtain ⟨h0, h1, h2, h3⟩ := hl i t hi
    rw [Nat.zero_add]
    exact ⟨h0, h1, h2, h3⟩

theorem tokLies_tlies {w : World} {a : Option Addr} {ts : List Tok} (h : TokLies w a ts) : TLies w a ts := by
  rcases h with h | ⟨g, ha, hg, hl⟩
  · exact .inl h
  · refine .inr ⟨g, 0, ha, fun i t hi => ?_⟩
    obtain ⟨h0, h1, h2, h3⟩ := hl i t hi
    rw [Nat.zero_add]
    exact ⟨h0, h1, h2, h3⟩

theorem args_in {lo : Nat} {w : World} {a : Option Addr} {n c : Nat} {acc : List (List Tok)} {vs : List Value} {m : Nat} (h : ArgsOwn 55 64 lo w (.slice a n c) acc vs m) (hS : ∀ xs ∈ acc, Small xs) : ArgsIn w.heap.size w a acc := by
  refine ⟨?_, Nat.le_refl _⟩
  cases acc with
  | nil => exact .inl rfl
  | cons x0 acc =>
    have hl := h.len
    have hrow := h.row
    obtain ⟨hl', ⟨hv, h0⟩ | ⟨g, cap, cur, hv, hbg, hg, hle, hcap, hsz, htk⟩⟩ := h.row
    · rw [hl] at h0; simp at h0
    · injection hv with hv1 hv2 hv3
      subst hv1
      refine .inr ⟨g, rfl, (Array.getElem?_eq_some_iff.1 hg).1, fun i xs hi => ?_⟩
      have hi' : i < vs.length := by rw [hl]; exact (List.getElem?_eq_some_iff.1 hi).1
      obtain ⟨v, hv⟩ : ∃ v, vs[i]? = some v := ⟨vs[i], List.getElem?_eq_getElem hi'⟩
      obtain ⟨hx0, ho⟩ := h.each i v xs hv hi
      rw [hv2] at hrow
      have hcell := hrow.cellAt i (by omega)
      rw [hv] at hcell
      have hsm := hS xs (List.mem_of_getElem? hi)
      have hfw := hsm.few
      obtain ⟨a', c', rfl, hl2⟩ := own_lies ho
      rcases ho.2 with ⟨hvv, hh0⟩ | ⟨g', cap', cur', hvv, hB, hgh, hle', hcap', _⟩
      · exact absurd hh0 hx0
      · injection hvv with e1 e2 e3
        subst e1 e3
        have hgl := (Array.getElem?_eq_some_iff.1 hgh).1
        exact ⟨_, _, hcell, ⟨tokLies_from hl2, fun y hy => by cases hy; exact hgl, hle', by unfold maxLen at hcap'; omega, by omega, hsm.short⟩, fun y hy => by cases hy; exact hgl⟩

theorem rargs_in {w : World} {a : Option Addr} {acc : List (List Tok)} (h : ArgsLie w a acc) (hS : ∀ xs ∈ acc, Small xs) : RArgsIn w.heap.size w a acc := by
  refine ⟨?_, Nat.le_refl _⟩
  rcases h with h | ⟨G, ha, hG, hl⟩
  · exact .inl h
  · refine .inr ⟨G, ha, hG, fun i xs hi => ?_⟩
    obtain ⟨a', c', k1, k2⟩ := hl i xs hi
    have hsm := hS xs (List.mem_of_getElem? hi)
    have hx := hsm.any
    · have hold : ∀ y, a' = some y → y.block < w.heap.size := by
        rcases k2 with k | ⟨g, ha', hg', _⟩
        · exact absurd k hx
        · intro y hy; rw [ha'] at hy; cases hy; exact hg'
      exact ⟨a', c', k1, ⟨tokLies_tlies k2, hold, hsm.few, hsm.short, hsm.nums⟩, hold⟩

end Go.Proofs.YtlkmegchaeokgaaGreatDoor
/- The law's two lines: their tokens, and what they say. -/
namespace Go.Proofs.YtlkmegchaeokgaaGreatDoor
open Go.ChangeShapes Go.WideShapes Go.ChangeAt Go.RowKit
set_option linter.unusedVariables false
set_option maxRecDepth 100000

abbrev sAdd : ByteArray := ⟨#[97, 100, 100, 32, 114, 49, 44, 32, 114, 50]⟩
abbrev sLis : ByteArray := ⟨#[108, 105, 115, 32, 114, 49, 44, 32, 50, 48, 48]⟩
abbrev tR1 : Tok := ⟨1, [114, 49], 0, 4⟩
abbrev tR2 : Tok := ⟨1, [114, 50], 0, 8⟩
abbrev t200 : Tok := ⟨2, [50, 48, 48], 200, 8⟩
abbrev oAdd : List UInt8 := [97, 100, 100]
abbrev oLis : List UInt8 := [108, 105, 115]
abbrev lAdd : Ln := ⟨[], oAdd, [[tR1], [tR2]]⟩
abbrev lLis : Ln := ⟨[], oLis, [[tR1], [t200]]⟩

theorem scan_add : scan (bs sAdd) 0 = .ok [⟨1, oAdd, 0, 0⟩, tR1, ⟨3, [44], 0, 6⟩, tR2] := by rw [scan_eq 10 _ _ (by decide)]; kernel_rfl
theorem scan_lis : scan (bs sLis) 0 = .ok [⟨1, oLis, 0, 0⟩, tR1, ⟨3, [44], 0, 6⟩, t200] := by rw [scan_eq 11 _ _ (by decide)]; kernel_rfl
theorem parse_add : parseL (bs sAdd) = .ok lAdd := (parseL_ok scan_add).trans (by kernel_rfl)
theorem parse_lis : parseL (bs sLis) = .ok lLis := (parseL_ok scan_lis).trans (by kernel_rfl)

theorem find_add : findN oAdd = 14 := by decide +kernel
theorem find_lis : findN oLis = 36 := by decide +kernel
theorem shape_add : shapeN 14 = 4 := by decide +kernel
theorem reg_r1 : regF [tR1] false = some 1 := by decide +kernel
theorem reg_r2 : regF [tR2] false = some 2 := by decide +kernel

theorem shape_lis : shapeN 36 = 8 := by decide +kernel
theorem con_200 : constF [t200] = .ok 200 := by
  unfold constF
  rw [parseF_I]
  rfl

/-- what 'add r1, r2' is -/
def xAdd : Itm := setReg 1 2 (setReg 0 1 (opItm 14))

theorem thg_add : opThg oAdd [[tR1], [tR2]] 0 = .ok ⟨1, [xAdd], [], linE, 0⟩ ∧ opThg oAdd [[tR1], [tR2]] 1 = .error 21 := by
  unfold opThg
  rw [find_add, shape_add, opF_two, reg_r1]
  simp only
  rw [reg_r2]
  exact ⟨rfl, rfl⟩

theorem thg_lis : opThg oLis [[tR1], [t200]] 0 = .error 21 := by
  unfold opThg
  rw [find_lis, shape_lis, opF_small, reg_r1]
  simp only
  rw [con_200]
  simp only
  rw [if_neg (by decide), if_neg (by decide +kernel)]

theorem small_r (t : Tok) (h1 : t.text.length ≤ 1000000) (h2 : 0 ≤ t.num ∧ t.num < 4294967296) : Small [t] :=
  ⟨by simp, fun u hu => by simp at hu; rw [hu]; exact h1, fun u hu => by simp at hu; rw [hu]; exact h2, by simp⟩
theorem small_add : ∀ xs ∈ lAdd.args, Small xs := fun xs hx => by
  simp only [List.mem_cons, List.not_mem_nil, or_false] at hx
  rcases hx with rfl | rfl
  · exact small_r _ (by simp) (by simp)
  · exact small_r _ (by simp) (by simp)
theorem small_lis : ∀ xs ∈ lLis.args, Small xs := fun xs hx => by
  simp only [List.mem_cons, List.not_mem_nil, or_false] at hx
  rcases hx with rfl | rfl
  · exact small_r _ (by simp) (by simp)
  · exact small_r _ (by simp) (by simp)

end Go.Proofs.YtlkmegchaeokgaaGreatDoor
/- The law's read, of a line that parses. -/
namespace Go.Proofs.YtlkmegchaeokgaaGreatDoor
open Go.ChangeShapes Go.WideShapes Go.ChangeAt Go.RowKit
set_option linter.unusedVariables false
set_option maxRecDepth 100000

/-- items in memory, but for the terms of their expressions -/
def ItemsAt (w : World) (vi : Value) (l : List Itm) : Prop := (l = [] ∧ vi = .slice none 0 0) ∨ ∃ q c, vi = .slice (some ⟨q, 0, none⟩) l.length c ∧ ∀ (i : Nat) (x : Itm), l[i]? = some x → ∃ va n vc, ItAt w q (i * 10) x va n vc

/-- what read answers -/
def KOut (w' : World) (R : Except Int Thg) (e : Ending) : Prop :=
  match R with
  | .error k => e = .returned (.tuple #[thgZ, .int .i64 k, thgZ, .int .i64 k, .bool true])
  | .ok t => ∃ ai ni ci va n vc q, e = .returned (.tuple #[thgV t.kind (.slice ai ni ci) t.name (.slice va n vc) t.e.const t.sec, .int .i64 0, .agg #[.int .i64 1, .slice (some ⟨q, 0, none⟩) 1 1, .string ⟨#[]⟩, .slice none 0 0, .int .u32 0, .int .i64 0], .int .i64 0, .bool true]) ∧ ItemsAt w' (.slice ai ni ci) t.items

/-- a line is parsed by both -/
structure Lined (s : ByteArray) (L : Ln) : Prop where
  prog : ∀ w, Calls Tryz.prog 16 #[.string s] w fun e w' => Below w.heap.size w w' ∧ ∃ a c, e = .returned (.tuple #[.agg #[.string (str L.label), .string (str L.op), .slice a L.args.length c], .int .i64 0, .int .i64 0]) ∧ ArgsIn w'.heap.size w' a L.args
  doc : ∀ w, Calls Tryz.prog 28 #[.string s] w fun e w' => Below w.heap.size w w' ∧ ∃ a c, e = .returned (.tuple #[.agg #[.string (str L.label), .string (str L.op), .slice a L.args.length c], .int .i64 0, .int .i64 0]) ∧ RArgsIn w'.heap.size w' a L.args

/-- a line is read by both -/
structure Told (L : Ln) (sec : Int) (R : Except Int Thg) : Prop where
  prog : ∀ w a c, Tab w → ArgsIn w.heap.size w a L.args → Calls Tryz.prog 17 #[.agg #[.string (str L.label), .string (str L.op), .slice a L.args.length c], .int .i64 sec] w fun e w' => Below w.heap.size w w' ∧ ThOut w' R e
  doc : ∀ w a c, RArgsIn w.heap.size w a L.args → Calls Tryz.prog 29 #[.agg #[.string (str L.label), .string (str L.op), .slice a L.args.length c], .int .i64 sec] w fun e w' => Below w.heap.size w w' ∧ RThOut w' R e

theorem lined_add : Lined sAdd lAdd := by
  refine ⟨fun w => (parse_line sAdd (by decide) lAdd parse_add w).mono ?_, fun w => ?_⟩
  · rintro e w' ⟨hb, a, c, vs, m, he, hA⟩
    exact ⟨hb, a, c, he, args_in hA small_add⟩
  · refine (refParse_loop sAdd (by decide) ⟨1, oAdd, 0, 0⟩ tR1 [⟨3, [44], 0, 6⟩, tR2] scan_add rfl rfl w).mono ?_
    rw [show lnR [] oAdd (argsF sAdd.size (tR1 :: [⟨3, [44], 0, 6⟩, tR2]) [] []) = .ok lAdd from by kernel_rfl]
    rintro e w' ⟨hb, a, c, he, hA⟩
    exact ⟨hb, a, c, he, rargs_in hA small_add⟩

theorem lined_lis : Lined sLis lLis := by
  refine ⟨fun w => (parse_line sLis (by decide) lLis parse_lis w).mono ?_, fun w => ?_⟩
  · rintro e w' ⟨hb, a, c, vs, m, he, hA⟩
    exact ⟨hb, a, c, he, args_in hA small_lis⟩
  · refine (refParse_loop sLis (by decide) ⟨1, oLis, 0, 0⟩ tR1 [⟨3, [44], 0, 6⟩, t200] scan_lis rfl rfl w).mono ?_
    rw [show lnR [] oLis (argsF sLis.size (tR1 :: [⟨3, [44], 0, 6⟩, t200]) [] []) = .ok lLis from by kernel_rfl]
    rintro e w' ⟨hb, a, c, he, hA⟩
    exact ⟨hb, a, c, he, rargs_in hA small_lis⟩

theorem opF_kind4 (x1 x2 : List Tok) (n : Int) (x : Itm) (h : opF (wantsF 4) [x1, x2] 0 (opItm n) = .ok x) : x.kind = 2 := by
  rw [opF_two] at h
  cases h1 : regF x1 false with
  | none => rw [h1] at h; cases h
  | some r1 =>
    rw [h1] at h
    simp only at h
    cases h2 : regF x2 false with
    | none => rw [h2] at h; cases h
    | some r2 => rw [h2] at h; cases h; rfl
theorem opF_kind8 (x1 x2 : List Tok) (n : Int) (x : Itm) (h : opF (wantsF 8) [x1, x2] 0 (opItm n) = .ok x) : x.kind = 2 := by
  rw [opF_small] at h
  cases h1 : regF x1 false with
  | none => rw [h1] at h; cases h
  | some r1 =>
    rw [h1] at h
    simp only at h
    cases h2 : constF x2 with
    | error k => rw [h2] at h; cases h
    | ok m =>
      rw [h2] at h
      simp only at h
      split at h
      · cases h; rfl
      · cases h

theorem told_add (sec : Int) : Told lAdd sec (opThg oAdd [[tR1], [tR2]] sec) := by
  refine ⟨fun w a c hT hA => ?_, fun w a c hA => ?_⟩
  · exact read_op [] oAdd (by decide) (by rw [find_add]; decide) (by rw [find_add]; decide) (by simp) a c _ (by simp) sec w hA hT
  · refine refRead_op [] oAdd (by rw [find_add]; decide) (by rw [find_add]; decide) (by simp) a c _ sec w hA ?_ ?_ ?_
    · rw [find_add, shape_add]; rfl
    · rw [find_add, shape_add]; exact opF_kind4 _ _ _
    · rw [find_add, shape_add]; exact fun w1 h1 => codeTwo 14 shape_add a c [tR1] [tR2] w1 h1

theorem told_lis (sec : Int) : Told lLis sec (opThg oLis [[tR1], [t200]] sec) := by
  refine ⟨fun w a c hT hA => ?_, fun w a c hA => ?_⟩
  · exact read_op [] oLis (by decide) (by rw [find_lis]; decide) (by rw [find_lis]; decide) (by simp) a c _ (by simp) sec w hA hT
  · refine refRead_op [] oLis (by rw [find_lis]; decide) (by rw [find_lis]; decide) (by simp) a c _ sec w hA ?_ ?_ ?_
    · rw [find_lis, shape_lis]; rfl
    · rw [find_lis, shape_lis]; exact opF_kind8 _ _ _
    · rw [find_lis, shape_lis]; exact fun w1 h1 => codeSmall 36 (by omega) shape_lis a c [tR1] [t200] w1 h1

end Go.Proofs.YtlkmegchaeokgaaGreatDoor
/- The law's read: the walk. -/
namespace Go.Proofs.YtlkmegchaeokgaaGreatDoor
open Go.ChangeShapes Go.WideShapes Go.ChangeAt Go.RowKit
set_option linter.unusedVariables false
set_option maxRecDepth 100000

/-- while read runs: the two results -/
structure KSt (w wr : World) : Prop where
  bel : Below w.heap.size w wr
  r1 : wr.heap[w.heap.size]? = some (.cells zero6 37 (0, 0))
  r2 : wr.heap[w.heap.size + 1]? = some (.cells zero6 38 (0, 0))
  tab : Tab wr

theorem KSt.below {w wr w' : World} (h : KSt w wr) (hb : Below wr.heap.size wr w') : KSt w w' :=
  ⟨h.bel.trans (hb.mono h.bel.size), by rw [hb.block _ (blk_lt h.r1)]; exact h.r1, by rw [hb.block _ (blk_lt h.r2)]; exact h.r2, h.tab.below hb h.tab.size⟩

theorem kst_new {w : World} (hT : Tab w) : KSt w ((w.alloc (.cells zero6 37)).alloc (.cells zero6 38)) := by
  have hs : (w.alloc (.cells zero6 37)).heap.size = w.heap.size + 1 := by simp
  refine ⟨(below_alloc w _).alloc (by simp) _, ?_, ?_, (hT.alloc _).alloc _⟩
  · rw [Below.heap_alloc _ _ _ (by omega)]
    exact heap_alloc_new w _
  · rw [← hs]
    exact heap_alloc_new _ _

abbrev lineO (T : TypeId) (L : Ln) (a : Option Addr) (n c : Nat) : Obj := .cells #[.string (str L.label), .string (str L.op), .slice a n c] T

/-- both lines are parsed -/
structure KLn (w : World) (L : Ln) (a : Option Addr) (c g : Nat) (a2 : Option Addr) (c2 g2 : Nat) (wr : World) : Prop where
  st : KSt w wr
  l1 : wr.heap[g]? = some (.cells #[.string (str L.label), .string (str L.op), .slice a L.args.length c] 49 (0, 0))
  l2 : wr.heap[g2]? = some (.cells #[.string (str L.label), .string (str L.op), .slice a2 L.args.length c2] 71 (0, 0))
  a1 : ArgsIn wr.heap.size wr a L.args
  a2 : RArgsIn wr.heap.size wr a2 L.args

theorem KLn.below {w : World} {L : Ln} {a : Option Addr} {c g : Nat} {a2 : Option Addr} {c2 g2 : Nat} {wr w' : World} (h : KLn w L a c g a2 c2 g2 wr) (hb : Below wr.heap.size wr w') : KLn w L a c g a2 c2 g2 w' :=
  ⟨h.st.below hb, by rw [hb.block _ (blk_lt h.l1)]; exact h.l1, by rw [hb.block _ (blk_lt h.l2)]; exact h.l2, (h.a1.below hb).mono hb.size (Nat.le_refl _), rargs_mono (h.a2.below hb) hb.size (Nat.le_refl _)⟩

theorem kln_new {w w0 w1 w2 : World} {L : Ln} {a a2 : Option Addr} {c c2 : Nat} (hS : KSt w w0) (hb1 : Below w0.heap.size w0 w1) (hA1 : ArgsIn w1.heap.size w1 a L.args) (hb2 : Below (w1.alloc (lineO 49 L a L.args.length c)).heap.size (w1.alloc (lineO 49 L a L.args.length c)) w2) (hA2 : RArgsIn w2.heap.size w2 a2 L.args) :
    KLn w L a c w1.heap.size a2 c2 w2.heap.size (w2.alloc (lineO 71 L a2 L.args.length c2)) := by
  have hs1 : (w1.alloc (lineO 49 L a L.args.length c)).heap.size = w1.heap.size + 1 := by simp
  have hs2 := hb2.size
  have hb12 : Below w1.heap.size w1 w2 := (below_alloc w1 _).trans (hb2.mono (by omega))
  have hb3 := below_alloc w2 (lineO 71 L a2 L.args.length c2)
  have hs3 : (w2.alloc (lineO 71 L a2 L.args.length c2)).heap.size = w2.heap.size + 1 := by simp
  refine ⟨((hS.below hb1).below hb12).below hb3, ?_, heap_alloc_new w2 _, ?_, ?_⟩
  · rw [Below.heap_alloc _ _ _ (by omega), hb2.block _ (by omega)]
    exact heap_alloc_new w1 _
  · exact ((hA1.below hb12).below (hb3.mono (by omega))).mono (by omega) (by omega)
  · exact rargs_mono (hA2.below hb3) (by omega) (by omega)

theorem lie_slice {w : World} {vi : Value} {l : List Itm} (h : ItemsLie w vi l) : ∃ ai ni ci, vi = .slice ai ni ci := by
  rcases h with ⟨_, h⟩ | ⟨q, c, h, _⟩ <;> exact ⟨_, _, _, h⟩

theorem cell_same {w w' : World} {q : Nat} (h : w'.heap[q]? = w.heap[q]?) (j : Nat) : w'.cell? ⟨q, j, none⟩ = w.cell? ⟨q, j, none⟩ := by
  simp only [World.cell?, h]

theorem itemsAt_keep {w4 w9 : World} {vi : Value} {l : List Itm} {R1 R2 : Nat} {T1 T2 : TypeId} (h : ItemsLie w4 vi l) (h1 : w4.heap[R1]? = some (.cells zero6 T1 (0, 0))) (h2 : w4.heap[R2]? = some (.cells zero6 T2 (0, 0))) (hg : ∀ k, k < w4.heap.size → k ≠ R1 → k ≠ R2 → w9.heap[k]? = w4.heap[k]?) : ItemsAt w9 vi l := by
  rcases h with h | ⟨q, c, hv, hq, hl⟩
  · exact .inl h
  · refine .inr ⟨q, c, hv, fun i x hi => ?_⟩
    obtain ⟨va, n, vc, hI, _, _⟩ := hl i x hi
    have hno : ∀ {R : Nat} {T : TypeId}, w4.heap[R]? = some (.cells zero6 T (0, 0)) → q ≠ R := fun {R T} hR e => by
      have h9 := hI.n
      rw [e, cell_blockT hR] at h9
      have hno : (zero6)[i * 10 + 9]? = none := Array.getElem?_eq_none (by show 6 ≤ _; omega)
      rw [hno] at h9
      cases h9
    have hs := hg q hq (hno h1) (hno h2)
    have k := fun j => cell_same hs j
    obtain ⟨c0, c1, c2, c3, c4, c5, c6, c7, c8, c9⟩ := hI
    exact ⟨va, n, vc, (k _).trans c0, (k _).trans c1, (k _).trans c2, (k _).trans c3, (k _).trans c4, (k _).trans c5, (k _).trans c6, (k _).trans c7, (k _).trans c8, (k _).trans c9⟩

set_option maxHeartbeats 2000000 in
theorem readK (s : ByteArray) (L : Ln) (sec : Int) (R : Except Int Thg) (hL : Lined s L) (hR : Told L sec R) (hk : ∀ k, R = .error k → k ≠ 0) (w : World) (hT : Tab w) :
    Calls Tryz.prog 11 #[.string s, .int .i64 sec] w fun e w' => Below w.heap.size w w' ∧ KOut w' R e := by
  have hS0 := Hid.intro (kst_new hT)
  have hLH := Hid.intro hL
  have hRH := Hid.intro hR
  clear hL hR hT
  obtain ⟨n0, hn0⟩ : ∃ n0, n0 = L.args.length := ⟨_, rfl⟩
  go_enter Tryz.func11, Tryz.ntmps11
  go_upto_region 3 with (first
    | (go_at_call 16; (with_reducible refine (hLH.out.prog _).mono ?_); rintro e w1 ⟨hb1, a, c, rfl, hA1⟩)
    | (go_at_call 28; (with_reducible refine (hLH.out.doc _).mono ?_); rintro e w2 ⟨hb2, a2, c2, rfl, hA2⟩))
  all_goals first | omega | skip
  have hK := kln_new (c := c) (c2 := c2) hS0.out hb1 hA1 hb2 hA2
  obtain ⟨g, hg⟩ : ∃ g, g = w1.heap.size := ⟨_, rfl⟩
  obtain ⟨g2, hg2⟩ : ∃ g2, g2 = w2.heap.size := ⟨_, rfl⟩
  rw [← hg, ← hg2] at hK ⊢
  clear hn0
  generalize (w2.alloc (.cells #[.string (str L.label), .string (str L.op), .slice a2 L.args.length c2] 71)) = w3 at hK ⊢
  clear hg hg2 hb1 hb2 hA1 hA2 hS0
  replace hK := Hid.intro hK
  have l10 := (cell_blockT hK.out.l1 0).trans rfl
  have l11 := (cell_blockT hK.out.l1 1).trans rfl
  have l12 := (cell_blockT hK.out.l1 2).trans rfl
  have h17 := Hid.intro (hRH.out.prog w3 a c hK.out.st.tab hK.out.a1)
  have h29 := Hid.intro (fun w4 (h4 : KLn w L a c g a2 c2 g2 w4) => hRH.out.doc w4 a2 c2 h4.a2)
  cases R with
  | error k =>
    go_upto_region 7 with (first
      | (go_at_call 17; (with_reducible refine (h17.out).mono ?_); rintro e w4 ⟨hb4, rfl⟩; have hK4 := Hid.intro (fun o => (hK.out.below hb4).below (below_alloc w4 o)); have l20 := fun o => (cell_blockT (hK4.out o).l2 0).trans rfl; have l21 := fun o => (cell_blockT (hK4.out o).l2 1).trans rfl; have l22 := fun o => (cell_blockT (hK4.out o).l2 2).trans rfl; have hT4 := Hid.intro (heap_alloc_new w4 (.cells #[.int .i64 0, .slice none 0 0, .string (str []), .slice none 0 0, .int .u32 0, .int .i64 0] 37)))
      | (go_at_call 29; (with_reducible refine (h29.out _ (hK4.out _)).mono ?_); rintro e w5 ⟨hb5, rfl⟩))
    all_goals first | omega | skip
    have hK6 := ((hK4.out (.cells #[.int .i64 0, .slice none 0 0, .string (str []), .slice none 0 0, .int .u32 0, .int .i64 0] 37)).below hb5).below (below_alloc w5 (.cells #[.int .i64 0, .slice none 0 0, .string (str []), .slice none 0 0, .int .u32 0, .int .i64 0] 38))
    have hs45 := hb5.size
    have hs4 : (w4.alloc (.cells #[.int .i64 0, .slice none 0 0, .string (str []), .slice none 0 0, .int .u32 0, .int .i64 0] 37)).heap.size = w4.heap.size + 1 := by simp
    rw [hs4] at hs45
    have ht6 : (w5.alloc (.cells #[.int .i64 0, .slice none 0 0, .string (str []), .slice none 0 0, .int .u32 0, .int .i64 0] 38)).heap[w4.heap.size]? = some (.cells #[.int .i64 0, .slice none 0 0, .string (str []), .slice none 0 0, .int .u32 0, .int .i64 0] 37 (0, 0)) := by
      rw [Below.heap_alloc _ _ _ (by omega), hb5.block _ (by simp)]
      exact hT4.out
    have hu6 : (w5.alloc (.cells #[.int .i64 0, .slice none 0 0, .string (str []), .slice none 0 0, .int .u32 0, .int .i64 0] 38)).heap[w5.heap.size]? = some (.cells #[.int .i64 0, .slice none 0 0, .string (str []), .slice none 0 0, .int .u32 0, .int .i64 0] 38 (0, 0)) := heap_alloc_new w5 _
    have hlt4 : w.heap.size + 1 < w4.heap.size := Nat.lt_of_lt_of_le (blk_lt hK.out.st.r2) hb4.size
    obtain ⟨gt, hgt⟩ : ∃ gt, gt = w4.heap.size := ⟨_, rfl⟩
    obtain ⟨gu, hgu⟩ : ∃ gu, gu = w5.heap.size := ⟨_, rfl⟩
    rw [← hgt] at ht6 ⊢
    rw [← hgu] at hu6 ⊢
    have hd1 : gt ≠ w.heap.size := by omega
    have hd2 : gt ≠ w.heap.size + 1 := by omega
    have hd3 : gu ≠ w.heap.size := by omega
    have hd4 : gu ≠ w.heap.size + 1 := by omega
    clear l20 l21 l22 l10 l11 l12 hT4 hK4 hgt hgu hs45 hs4 hlt4 hb5 hb4
    generalize (w5.alloc (.cells #[.int .i64 0, .slice none 0 0, .string (str []), .slice none 0 0, .int .u32 0, .int .i64 0] 38)) = w6 at hK6 ht6 hu6 ⊢
    have hS6 := Hid.intro hK6.st
    have t := fun j => cell_blockT ht6 j
    have t0 := (t 0).trans rfl
    have t1 := (t 1).trans rfl
    have t2 := (t 2).trans rfl
    have t3 := (t 3).trans rfl
    have t4 := (t 4).trans rfl
    have t5 := (t 5).trans rfl
    have u := fun j => cell_blockT hu6 j
    have u0 := (u 0).trans rfl
    have u1 := (u 1).trans rfl
    have u2 := (u 2).trans rfl
    have u3 := (u 3).trans rfl
    have u4 := (u 4).trans rfl
    have u5 := (u 5).trans rfl
    have r := fun j => cell_blockT hS6.out.r1 j
    have r0 := (r 0).trans rfl
    have r1 := (r 1).trans rfl
    have r2 := (r 2).trans rfl
    have r3 := (r 3).trans rfl
    have r4 := (r 4).trans rfl
    have r5 := (r 5).trans rfl
    have q := fun j => cell_blockT hS6.out.r2 j
    have q0 := (q 0).trans rfl
    have q1 := (q 1).trans rfl
    have q2 := (q 2).trans rfl
    have q3 := (q 3).trans rfl
    have q4 := (q 4).trans rfl
    have q5 := (q 5).trans rfl
    have rf := fun j => frozen_of_row w6 w.heap.size j _ 37 hS6.out.r1
    have qf := fun j => frozen_of_row w6 (w.heap.size + 1) j _ 38 hS6.out.r2
    clear t u r q hK6 ht6 hu6 hK h17 h29 hLH hRH
    go_region
    all_goals first | omega | skip
    go_wp2
    all_goals first | omega | skip
    have hbs := hS6.out.bel.size
    have hr2l := blk_lt hS6.out.r2
    obtain ⟨s1, s2⟩ := six_setT hS6.out.r1 (.int .i64 0) (.slice none 0 0) (.string (str [])) (.slice none 0 0) (.int .u32 0) (.int .i64 0)
    have hr2' := hS6.out.r2
    rw [← s2.block (w.heap.size + 1) hr2l (by simp)] at hr2'
    have hB7 := hS6.out.bel.grown s2 hbs (fun j hj => by cases hj; exact Nat.le_refl _)
    generalize (((((w6.setCell ⟨w.heap.size, 0, none⟩ (.int .i64 0)).setCell ⟨w.heap.size, 1, none⟩ (.slice none 0 0)).setCell ⟨w.heap.size, 2, none⟩ (.string (str []))).setCell ⟨w.heap.size, 3, none⟩ (.slice none 0 0)).setCell ⟨w.heap.size, 4, none⟩ (.int .u32 0)).setCell ⟨w.heap.size, 5, none⟩ (.int .i64 0) = w7 at s1 s2 hr2' hB7 ⊢
    obtain ⟨s3, s4⟩ := six_setT hr2' (.int .i64 0) (.slice none 0 0) (.string (str [])) (.slice none 0 0) (.int .u32 0) (.int .i64 0)
    have hs27 := s2.size
    rw [← s4.block w.heap.size (by omega) (by simp)] at s1
    have hB9 := hB7.grown s4 (by omega) (fun j hj => by cases hj; omega)
    generalize (((((w7.setCell ⟨w.heap.size + 1, 0, none⟩ (.int .i64 0)).setCell ⟨w.heap.size + 1, 1, none⟩ (.slice none 0 0)).setCell ⟨w.heap.size + 1, 2, none⟩ (.string (str []))).setCell ⟨w.heap.size + 1, 3, none⟩ (.slice none 0 0)).setCell ⟨w.heap.size + 1, 4, none⟩ (.int .u32 0)).setCell ⟨w.heap.size + 1, 5, none⟩ (.int .i64 0) = w8 at s1 s3 s4 hB9 ⊢
    have k := fun j => cell_blockT s1 j
    have k0 := (k 0).trans rfl
    have k1 := (k 1).trans rfl
    have k2 := (k 2).trans rfl
    have k3 := (k 3).trans rfl
    have k4 := (k 4).trans rfl
    have k5 := (k 5).trans rfl
    have m := fun j => cell_blockT s3 j
    have m0 := (m 0).trans rfl
    have m1 := (m 1).trans rfl
    have m2 := (m 2).trans rfl
    have m3 := (m 3).trans rfl
    have m4 := (m 4).trans rfl
    have m5 := (m 5).trans rfl
    refine bodyPost_ret (by simp [results, Tryz.results11, go_sem, k0, k1, k2, k3, k4, k5, m0, m1, m2, m3, m4, m5]; try rfl) rfl ?_
    exact ⟨hB9.drew, rfl⟩
  | ok t =>
    go_upto_region 7 with (first
      | (go_at_call 17; (with_reducible refine (h17.out).mono ?_); rintro e w4 ⟨hb4, vi, va, n, vc, rfl, hit, hnn, _⟩; clear hnn; obtain ⟨ai, ni, ci, rfl⟩ := lie_slice hit; replace hit := Hid.intro hit; have hK4 := Hid.intro (fun o => (hK.out.below hb4).below (below_alloc w4 o)); have l20 := fun o => (cell_blockT (hK4.out o).l2 0).trans rfl; have l21 := fun o => (cell_blockT (hK4.out o).l2 1).trans rfl; have l22 := fun o => (cell_blockT (hK4.out o).l2 2).trans rfl; have hT4 := Hid.intro (heap_alloc_new w4 (.cells #[.int .i64 t.kind, .slice ai ni ci, .string (str t.name), .slice va n vc, .int .u32 t.e.const, .int .i64 t.sec] 37)))
      | (go_at_call 29; (with_reducible refine (h29.out _ (hK4.out _)).mono ?_); rintro e w5 ⟨hb5, qq, rfl⟩))
    all_goals first | omega | skip
    have hK6 := ((hK4.out (.cells #[.int .i64 t.kind, .slice ai ni ci, .string (str t.name), .slice va n vc, .int .u32 t.e.const, .int .i64 t.sec] 37)).below hb5).below (below_alloc w5 (.cells #[.int .i64 1, .slice (some ⟨qq, 0, none⟩) 1 1, .string ⟨#[]⟩, .slice none 0 0, .int .u32 0, .int .i64 0] 38))
    have hs45 := hb5.size
    have hs4 : (w4.alloc (.cells #[.int .i64 t.kind, .slice ai ni ci, .string (str t.name), .slice va n vc, .int .u32 t.e.const, .int .i64 t.sec] 37)).heap.size = w4.heap.size + 1 := by simp
    rw [hs4] at hs45
    have ht6 : (w5.alloc (.cells #[.int .i64 1, .slice (some ⟨qq, 0, none⟩) 1 1, .string ⟨#[]⟩, .slice none 0 0, .int .u32 0, .int .i64 0] 38)).heap[w4.heap.size]? = some (.cells #[.int .i64 t.kind, .slice ai ni ci, .string (str t.name), .slice va n vc, .int .u32 t.e.const, .int .i64 t.sec] 37 (0, 0)) := by
      rw [Below.heap_alloc _ _ _ (by omega), hb5.block _ (by simp)]
      exact hT4.out
    have hu6 : (w5.alloc (.cells #[.int .i64 1, .slice (some ⟨qq, 0, none⟩) 1 1, .string ⟨#[]⟩, .slice none 0 0, .int .u32 0, .int .i64 0] 38)).heap[w5.heap.size]? = some (.cells #[.int .i64 1, .slice (some ⟨qq, 0, none⟩) 1 1, .string ⟨#[]⟩, .slice none 0 0, .int .u32 0, .int .i64 0] 38 (0, 0)) := heap_alloc_new w5 _
    have hlt4 : w.heap.size + 1 < w4.heap.size := Nat.lt_of_lt_of_le (blk_lt hK.out.st.r2) hb4.size
    obtain ⟨gt, hgt⟩ : ∃ gt, gt = w4.heap.size := ⟨_, rfl⟩
    obtain ⟨gu, hgu⟩ : ∃ gu, gu = w5.heap.size := ⟨_, rfl⟩
    rw [← hgt] at ht6 ⊢
    rw [← hgu] at hu6 ⊢
    have hd1 : gt ≠ w.heap.size := by omega
    have hd2 : gt ≠ w.heap.size + 1 := by omega
    have hd3 : gu ≠ w.heap.size := by omega
    have hd4 : gu ≠ w.heap.size + 1 := by omega
    have hkeep : Hid (∀ w9 : World, (∀ k, k < w4.heap.size → k ≠ w.heap.size → k ≠ w.heap.size + 1 → w9.heap[k]? = (w5.alloc (.cells #[.int .i64 1, .slice (some ⟨qq, 0, none⟩) 1 1, .string ⟨#[]⟩, .slice none 0 0, .int .u32 0, .int .i64 0] 38)).heap[k]?) → ItemsAt w9 (.slice ai ni ci) t.items) := fun w9 h9 => itemsAt_keep hit.out (hK.out.below hb4).st.r1 (hK.out.below hb4).st.r2 (fun k hk h1 h2 => by
      rw [h9 k hk h1 h2, Below.heap_alloc _ _ _ (by omega), hb5.block _ (by simp; omega), Below.heap_alloc _ _ _ hk])
    have hw45 : w4.heap.size ≤ w5.heap.size + 1 := by omega
    have hsz6 : (w5.alloc (.cells #[.int .i64 1, .slice (some ⟨qq, 0, none⟩) 1 1, .string ⟨#[]⟩, .slice none 0 0, .int .u32 0, .int .i64 0] 38)).heap.size = w5.heap.size + 1 := by simp
    rw [← hsz6] at hw45
    clear l20 l21 l22 l10 l11 l12 hT4 hK4 hgt hgu hs45 hs4 hlt4 hb5 hb4 hsz6 hit
    generalize (w5.alloc (.cells #[.int .i64 1, .slice (some ⟨qq, 0, none⟩) 1 1, .string ⟨#[]⟩, .slice none 0 0, .int .u32 0, .int .i64 0] 38)) = w6 at hK6 ht6 hu6 hkeep hw45 ⊢
    have hS6 := Hid.intro hK6.st
    have tt := fun j => cell_blockT ht6 j
    have t0 := (tt 0).trans rfl
    have t1 := (tt 1).trans rfl
    have t2 := (tt 2).trans rfl
    have t3 := (tt 3).trans rfl
    have t4 := (tt 4).trans rfl
    have t5 := (tt 5).trans rfl
    have u := fun j => cell_blockT hu6 j
    have u0 := (u 0).trans rfl
    have u1 := (u 1).trans rfl
    have u2 := (u 2).trans rfl
    have u3 := (u 3).trans rfl
    have u4 := (u 4).trans rfl
    have u5 := (u 5).trans rfl
    have r := fun j => cell_blockT hS6.out.r1 j
    have r0 := (r 0).trans rfl
    have r1 := (r 1).trans rfl
    have r2 := (r 2).trans rfl
    have r3 := (r 3).trans rfl
    have r4 := (r 4).trans rfl
    have r5 := (r 5).trans rfl
    have q := fun j => cell_blockT hS6.out.r2 j
    have q0 := (q 0).trans rfl
    have q1 := (q 1).trans rfl
    have q2 := (q 2).trans rfl
    have q3 := (q 3).trans rfl
    have q4 := (q 4).trans rfl
    have q5 := (q 5).trans rfl
    have rf := fun j => frozen_of_row w6 w.heap.size j _ 37 hS6.out.r1
    have qf := fun j => frozen_of_row w6 (w.heap.size + 1) j _ 38 hS6.out.r2
    clear tt u r q hK6 ht6 hu6 hK h17 h29 hLH hRH
    replace hw45 := Hid.intro hw45
    go_region
    all_goals first | omega | skip
    go_wp2
    all_goals first | omega | skip
    have hbs := hS6.out.bel.size
    have hr2l := blk_lt hS6.out.r2
    obtain ⟨s1, s2⟩ := six_setT hS6.out.r1 (.int .i64 t.kind) (.slice ai ni ci) (.string (str t.name)) (.slice va n vc) (.int .u32 t.e.const) (.int .i64 t.sec)
    have hr2' := hS6.out.r2
    rw [← s2.block (w.heap.size + 1) hr2l (by simp)] at hr2'
    have hB7 := hS6.out.bel.grown s2 hbs (fun j hj => by cases hj; exact Nat.le_refl _)
    generalize (((((w6.setCell ⟨w.heap.size, 0, none⟩ (.int .i64 t.kind)).setCell ⟨w.heap.size, 1, none⟩ (.slice ai ni ci)).setCell ⟨w.heap.size, 2, none⟩ (.string (str t.name))).setCell ⟨w.heap.size, 3, none⟩ (.slice va n vc)).setCell ⟨w.heap.size, 4, none⟩ (.int .u32 t.e.const)).setCell ⟨w.heap.size, 5, none⟩ (.int .i64 t.sec) = w7 at s1 s2 hr2' hB7 ⊢
    obtain ⟨s3, s4⟩ := six_setT hr2' (.int .i64 1) (.slice (some ⟨qq, 0, none⟩) 1 1) (.string ⟨#[]⟩) (.slice none 0 0) (.int .u32 0) (.int .i64 0)
    have hs27 := s2.size
    rw [← s4.block w.heap.size (by omega) (by simp)] at s1
    have hB9 := hB7.grown s4 (by omega) (fun j hj => by cases hj; omega)
    generalize (((((w7.setCell ⟨w.heap.size + 1, 0, none⟩ (.int .i64 1)).setCell ⟨w.heap.size + 1, 1, none⟩ (.slice (some ⟨qq, 0, none⟩) 1 1)).setCell ⟨w.heap.size + 1, 2, none⟩ (.string ⟨#[]⟩)).setCell ⟨w.heap.size + 1, 3, none⟩ (.slice none 0 0)).setCell ⟨w.heap.size + 1, 4, none⟩ (.int .u32 0)).setCell ⟨w.heap.size + 1, 5, none⟩ (.int .i64 0) = w8 at s1 s3 s4 hB9 ⊢
    have k := fun j => cell_blockT s1 j
    have k0 := (k 0).trans rfl
    have k1 := (k 1).trans rfl
    have k2 := (k 2).trans rfl
    have k3 := (k 3).trans rfl
    have k4 := (k 4).trans rfl
    have k5 := (k 5).trans rfl
    have m := fun j => cell_blockT s3 j
    have m0 := (m 0).trans rfl
    have m1 := (m 1).trans rfl
    have m2 := (m 2).trans rfl
    have m3 := (m 3).trans rfl
    have m4 := (m 4).trans rfl
    have m5 := (m 5).trans rfl
    refine bodyPost_ret (by simp [results, Tryz.results11, go_sem, k0, k1, k2, k3, k4, k5, m0, m1, m2, m3, m4, m5]; try rfl) rfl ?_
    refine ⟨hB9.drew, ai, ni, ci, va, n, vc, qq, rfl, hkeep.out _ (fun k hk h1 h2 => ?_)⟩
    show w8.heap[k]? = _
    have hk6 := hw45.out
    rw [s4.block k (by omega) (by simp [h2]), s2.block k (by omega) (by simp [h1])]

end Go.Proofs.YtlkmegchaeokgaaGreatDoor
namespace Go.Proofs.YtlkmegchaeokgaaGreatDoor
open Go.ChangeShapes Go.WideShapes Go.ChangeAt Go.RowKit
set_option linter.unusedVariables false
set_option maxRecDepth 100000

theorem sameItems_nil (w : World) : Calls Tryz.prog 30 #[.slice none 0 0, .slice none 0 0] w fun e w' => e = .returned (.bool true) ∧ w' = w := by
  go_enter Tryz.func30, Tryz.ntmps30
  go_wp2
  go_loopw [5] (fun v5 wr => v5 = .int .i64 0 ∧ wr = w) (fun v5 wr => 0)
  case atStart => exact ⟨rfl, rfl⟩
  case round =>
    obtain ⟨rfl, rfl⟩ := hrel
    go_wp2
    all_goals first | omega | skip
    go_ret
    exact ⟨rfl, rfl⟩

theorem two_rows (w : World) (A C : Array Value) (T1 T2 : TypeId) : ((w.alloc (.cells A T1)).alloc (.cells C T2)).heap[w.heap.size]? = some (.cells A T1 (0, 0)) ∧ ((w.alloc (.cells A T1)).alloc (.cells C T2)).heap[w.heap.size + 1]? = some (.cells C T2 (0, 0)) := by
  have hs : (w.alloc (.cells A T1)).heap.size = w.heap.size + 1 := by simp
  refine ⟨?_, ?_⟩
  · rw [Below.heap_alloc _ _ _ (by omega)]
    exact heap_alloc_new w _
  · rw [← hs]
    exact heap_alloc_new _ _

abbrev zs6 : Array Value := #[.int .i64 0, .slice none 0 0, .string (str []), .slice none 0 0, .int .u32 0, .int .i64 0]

theorem sameZ (w : World) : Calls Tryz.prog 13 #[thgZ, thgZ] w fun e w' => e = .returned (.bool true) ∧ Below w.heap.size w w' := by
  have h31 : Hid (∀ w, Calls Tryz.prog 31 #[.agg #[.slice none 0 0, .int .u32 0], .agg #[.slice none 0 0, .int .u32 0]] w fun e w' => e = .returned (.bool true) ∧ Below w.heap.size w w') := fun w => refSame_any none none 0 0 [] [] 0 0 w (TmLies.nil _ _) (TmLies.nil _ _) (by simp) (by simp)
  have h30 := Hid.intro sameItems_nil
  go_enter Tryz.func13, Tryz.ntmps13
  go_wp2_with (first | (go_at_call 30; (with_reducible refine (h30.out _).mono ?_); rintro e w1 ⟨rfl, hw1⟩; subst hw1) | (go_at_call 31; (with_reducible refine (h31.out _).mono ?_); rintro e w2 ⟨rfl, hb2⟩; have z5 : w2.cell? ⟨w.heap.size, 5, none⟩ = some (.int .i64 0) := (cell_blockT (show w2.heap[w.heap.size]? = some (.cells zs6 37 (0, 0)) from by rw [hb2.block _ (by simp; omega)]; exact (two_rows w zs6 zs6 37 38).1) 5).trans rfl; have y5 : w2.cell? ⟨w.heap.size + 1, 5, none⟩ = some (.int .i64 0) := (cell_blockT (show w2.heap[w.heap.size + 1]? = some (.cells zs6 38 (0, 0)) from by rw [hb2.block _ (by simp)]; exact (two_rows w zs6 zs6 37 38).2) 5).trans rfl))
  all_goals first | omega | skip
  go_ret
  exact ⟨rfl, ((below_alloc w _).alloc (by simp) _).trans (hb2.mono (by simp; omega))⟩

theorem saysK (s : ByteArray) (L : Ln) (sec k : Int) (hL : Lined s L) (hR : Told L sec (.error k)) (hk : k ≠ 0) (w : World) (hT : Tab w) :
    Calls Tryz.prog 8 #[.string s, .int .i64 sec, .int .i64 k] w fun e w' => e = .returned (.bool true) ∧ Below w.heap.size w w' := by
  have hrd := Hid.intro (readK s L sec (.error k) hL hR (fun j h => by cases h; exact hk) w hT)
  have hsm := Hid.intro sameZ
  clear hL hR hT
  go_enter Tryz.func8, Tryz.ntmps8
  go_wp2_with (first | (go_at_call 11; (with_reducible refine (hrd.out).mono ?_); rintro e w1 ⟨hb1, rfl⟩) | (go_at_call 13; (with_reducible refine (hsm.out _).mono ?_); rintro e w2 ⟨rfl, hb2⟩))
  all_goals first | omega | skip
  go_ret
  refine ⟨rfl, ?_⟩
  have := hb1.size
  exact ((hb1.alloc (by omega) _).alloc (by simp; omega) _).trans (hb2.mono (by simp; omega))

set_option maxHeartbeats 1000000 in
theorem itemKnown_any (w : World) (hT : Tab w) : Calls Tryz.prog 10 #[] w fun e w' => e = .returned (.bool true) ∧ Below w.heap.size w w' := by
  have hr := readK sAdd lAdd 0 _ lined_add (told_add 0) (fun k h => by rw [thg_add.1] at h; cases h) w hT
  rw [thg_add.1] at hr
  replace hr := Hid.intro hr
  have hTH := Hid.intro hT
  have h21 := told_add 1
  rw [thg_add.2] at h21
  have h22 := told_lis 0
  rw [thg_lis] at h22
  have hs1' : Hid (∀ w1, Tab w1 → Calls Tryz.prog 8 #[.string sAdd, .int .i64 1, .int .i64 21] w1 fun e w' => e = .returned (.bool true) ∧ Below w1.heap.size w1 w') := fun w1 h1 => saysK sAdd lAdd 1 21 lined_add h21 (by decide) w1 h1
  have hs2 : Hid (∀ w1, Tab w1 → Calls Tryz.prog 8 #[.string sLis, .int .i64 0, .int .i64 21] w1 fun e w' => e = .returned (.bool true) ∧ Below w1.heap.size w1 w') := fun w1 h1 => saysK sLis lLis 0 21 lined_lis h22 (by decide) w1 h1
  clear h21 h22 hT
  go_enter Tryz.func10, Tryz.ntmps10
  go_upto_region 2 with (go_at_call 11; (with_reducible refine (hr.out).mono ?_); rintro e w1 ⟨hb1, ai, ni, ci, va, n, vc, q, rfl, hit⟩)
  all_goals first | omega | skip
  obtain ⟨q', c', hv, hI⟩ : ∃ q' c', Value.slice ai ni ci = .slice (some ⟨q', 0, none⟩) 1 c' ∧ ∃ va n vc, ItAt w1 q' 0 xAdd va n vc := by
    rcases hit with ⟨h, _⟩ | ⟨q', c', hv, hl⟩
    · cases h
    · obtain ⟨va, n, vc, h⟩ := hl 0 xAdd rfl
      exact ⟨q', c', hv, va, n, vc, h⟩
  injection hv with e1 e2 e3
  subst e1 e2 e3
  obtain ⟨va', n', vc', hI⟩ := hI
  have hql : q' < w1.heap.size := World.block_lt_of_cell? w1 _ hI.kind
  have hs1 := hb1.size
  have hB2 : Below w1.heap.size w1 ((w1.alloc (.cells #[.int .i64 1, .slice (some ⟨q', 0, none⟩) 1 ci, .string (str []), .slice va n vc, .int .u32 linE.const, .int .i64 0] 37)).alloc (.cells #[.int .i64 1, .slice (some ⟨q, 0, none⟩) 1 1, .string ⟨#[]⟩, .slice none 0 0, .int .u32 0, .int .i64 0] 38)) := (below_alloc w1 _).alloc (by simp) _
  have ht := (two_rows w1 #[.int .i64 1, .slice (some ⟨q', 0, none⟩) 1 ci, .string (str []), .slice va n vc, .int .u32 linE.const, .int .i64 0] #[.int .i64 1, .slice (some ⟨q, 0, none⟩) 1 1, .string ⟨#[]⟩, .slice none 0 0, .int .u32 0, .int .i64 0] 37 38).1
  generalize ((w1.alloc (.cells #[.int .i64 1, .slice (some ⟨q', 0, none⟩) 1 ci, .string (str []), .slice va n vc, .int .u32 linE.const, .int .i64 0] 37)).alloc (.cells #[.int .i64 1, .slice (some ⟨q, 0, none⟩) 1 1, .string ⟨#[]⟩, .slice none 0 0, .int .u32 0, .int .i64 0] 38)) = w2 at hB2 ht ⊢
  have t0 := (cell_blockT ht 0).trans rfl
  have t1 := (cell_blockT ht 1).trans rfl
  have c2 : w2.cell? ⟨q', 2, none⟩ = some (.int .i64 14) := (hB2.cell (p := ⟨q', 2, none⟩) hql).trans (hI.op.trans rfl)
  have c3 : w2.cell? ⟨q', 3, none⟩ = some (.int .i64 1) := (hB2.cell (p := ⟨q', 3, none⟩) hql).trans (hI.a.trans rfl)
  have c4 : w2.cell? ⟨q', 4, none⟩ = some (.int .i64 2) := (hB2.cell (p := ⟨q', 4, none⟩) hql).trans (hI.b.trans rfl)
  have c5 : w2.cell? ⟨q', 5, none⟩ = some (.int .i32 0) := (hB2.cell (p := ⟨q', 5, none⟩) hql).trans (hI.m.trans rfl)
  have c6 : w2.cell? ⟨q', 6, none⟩ = some (.int .i64 0) := (hB2.cell (p := ⟨q', 6, none⟩) hql).trans (hI.form.trans rfl)
  have hbw : Hid (Below w.heap.size w w2) := (show Below _ _ _ from hb1.trans (hB2.mono hs1))
  have hT2 : Hid (Tab w2) := (show Tab _ from hTH.out.below hbw.out hTH.out.size)
  clear hI ht hB2 hr hql hs1
  go_wp2_with (first | (go_at_call 8; (with_reducible refine (hs1'.out _ hT2.out).mono ?_); rintro e w3 ⟨rfl, hb3⟩; have hT3 := Hid.intro (hT2.out.below hb3 hT2.out.size)) | (go_at_call 8; (with_reducible refine (hs2.out _ hT3.out).mono ?_); rintro e w4 ⟨rfl, hb4⟩))
  all_goals first | omega | skip
  go_ret
  refine ⟨rfl, ?_⟩
  have h1 := hbw.out.size
  have h2 := hb3.size
  exact (hbw.out.trans (hb3.mono (by omega))).trans (hb4.mono (by omega))

end Go.Proofs.YtlkmegchaeokgaaGreatDoor
