/- The expressions, reckoned: for closed texts. -/
import Derived.Test.YtijdjljnppkhmabDoorParseM
import Derived.Test.YtijdjljnppkhmabDoorKnown
namespace Go.Proofs.YtijdjljnppkhmabDoor
set_option linter.unusedVariables false
set_option maxRecDepth 100000

def insT (t : Tm) : List Tm → List Tm
  | [] => [t]
  | x :: r => if leT t x = true then t :: x :: r else x :: insT t r
def sortI : List Tm → List Tm
  | [] => []
  | t :: r => insT t (sortI r)

theorem insT_perm (t : Tm) (l : List Tm) : (t :: l).Perm (insT t l) := by
  induction l with
  | nil => exact List.Perm.refl _
  | cons x r ih =>
    unfold insT
    split
    · exact List.Perm.refl _
    · exact (List.Perm.swap x t r).trans (ih.cons x)

theorem sortI_perm (l : List Tm) : l.Perm (sortI l) := by
  induction l with
  | nil => exact List.Perm.refl _
  | cons t r ih => exact (ih.cons t).trans (insT_perm t _)

theorem insT_sorted (t : Tm) (l : List Tm) (h : l.Pairwise (fun a b => leT a b = true)) : (insT t l).Pairwise (fun a b => leT a b = true) := by
  induction l with
  | nil => exact List.pairwise_singleton _ _
  | cons x r ih =>
    obtain ⟨h1, h2⟩ := List.pairwise_cons.1 h
    unfold insT
    split
    · next hle =>
      refine List.pairwise_cons.2 ⟨fun b hb => ?_, h⟩
      rcases List.mem_cons.1 hb with rfl | hb
      · exact hle
      · exact leT_trans _ _ _ hle (h1 b hb)
    · next hle =>
      refine List.pairwise_cons.2 ⟨fun b hb => ?_, ih h2⟩
      rcases List.mem_cons.1 ((insT_perm t r).mem_iff.2 hb) with rfl | hb
      · have := leT_total x b
        have h3 : leT b x = false := by simpa using hle
        rw [h3] at this
        simpa using this
      · exact h1 b hb

theorem sortI_sorted (l : List Tm) : (sortI l).Pairwise (fun a b => leT a b = true) := by
  induction l with
  | nil => exact List.Pairwise.nil
  | cons t r ih => exact insT_sorted t _ ih

def normI (l : List Tm) : List Tm := gather (sortI l)
theorem norm_normI (l : List Tm) : norm l = normI l :=
  (gather_sorted (sortI_perm l) ((sortI_sorted l).imp (fun {a b} h => by simpa [leT] using h))).symm

def sumLI (within : List Tok → PRes) : Nat → List Tm → Int → List Tok → PRes
  | 0, acc, n, ts => .ok (⟨normI acc, n⟩, ts)
  | f + 1, acc, n, [] => .ok (⟨normI acc, n⟩, [])
  | f + 1, acc, n, t :: r =>
    if isS t 43 = true then
      match partF within r with
      | .error e => .error e
      | .ok (x, r') => sumLI within f (acc ++ x.terms) ((n + x.const) % 4294967296) r'
    else if isS t 45 = true then
      match partF within r with
      | .error e => .error e
      | .ok (x, r') => sumLI within f (acc ++ timesT x.terms 4294967295) ((n + x.const * 4294967295 % 4294967296) % 4294967296) r'
    else .ok (⟨normI acc, n⟩, t :: r)

theorem sumL_I (within : List Tok → PRes) (f : Nat) : ∀ acc n ts, sumL within f acc n ts = sumLI within f acc n ts := by
  induction f with
  | zero => intro acc n ts; unfold sumL sumLI; rw [norm_normI]
  | succ f ih =>
    intro acc n ts
    cases ts with
    | nil => unfold sumL sumLI; rw [norm_normI]
    | cons t r =>
      unfold sumL sumLI
      rw [norm_normI]
      split
      · cases partF within r with
        | error e => rfl
        | ok p => exact ih _ _ _
      · split
        · cases partF within r with
          | error e => rfl
          | ok p => exact ih _ _ _
        · rfl

def sumFI (within : List Tok → PRes) (ts : List Tok) : PRes :=
  match partF within ts with
  | .error e => .error e
  | .ok (x, r) => sumLI within r.length x.terms x.const r

theorem sumF_I (within : List Tok → PRes) : sumF within = sumFI within := by
  funext ts
  unfold sumF sumFI
  cases partF within ts with
  | error e => rfl
  | ok p => exact sumL_I _ _ _ _ _

def sumDI : Nat → List Tok → PRes
  | 0, _ => .error 21
  | d + 1, ts => sumFI (sumDI d) ts

theorem sumD_I (d : Nat) : sumD d = sumDI d := by
  induction d with
  | zero => funext ts; rfl
  | succ d ih => funext ts; show sumF (sumD d) ts = _; rw [ih, sumF_I]; rfl

def parseFI (ts : List Tok) : Except Int Lin :=
  match sumDI 33 ts with
  | .error e => .error e
  | .ok (x, []) => .ok x
  | .ok (_, _ :: _) => .error 20

theorem parseF_I (ts : List Tok) : parseF ts = parseFI ts := by unfold parseF parseFI; rw [sumD_I]; rcases sumDI 33 ts with e | ⟨x, _ | ⟨t, r⟩⟩ <;> rfl

def readI (f : Nat) (s : List UInt8) : Except Int Lin := match scanF f s 0 with
  | .ok ts => parseFI ts
  | .error _ => parseFI []

theorem ev0 : readI 100 [50, 42, 40, 97, 32, 45, 32, 51, 41, 32, 43, 32, 98, 32, 45, 32, 97] = .ok ⟨[⟨[97], 1⟩, ⟨[98], 1⟩], 4294967290⟩ := by rfl
theorem ev1 : readI 100 [97, 42, 98] = .error 21 := by rfl
theorem ev2 : readI 100 [40, 97, 45, 97, 41, 42, 98] = .ok ⟨[], 0⟩ := by rfl
theorem ev3 : readI 100 [97, 43] = .error 20 := by rfl
theorem ev4 : readI 100 [114, 49] = .error 20 := by rfl
theorem ev5 : readI 100 [] = .error 20 := by rfl
theorem ev6 : readI 100 [45, 32, 45, 49] = .ok ⟨[], 1⟩ := by rfl
def deep : Nat → List UInt8
  | 0 => [49]
  | n + 1 => [40] ++ deep n ++ [41]
theorem ev7 : readI 100 (deep 32) = .ok ⟨[], 1⟩ := by rfl
theorem ev8 : readI 100 ([40] ++ deep 32 ++ [41]) = .error 21 := by rfl
end Go.Proofs.YtijdjljnppkhmabDoor
