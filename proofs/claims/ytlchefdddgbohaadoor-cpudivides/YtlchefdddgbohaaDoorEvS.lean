/- Single operations of the evaluator: texts, equality. -/
import Derived.Test.YtlchefdddgbohaaDoorEvQ
import Derived.Lib.Strings
import Derived.ChangeKeysEq
noncomputable section
namespace Go.Ev
open Go.RowKit
set_option linter.unusedVariables false
set_option linter.unusedSimpArgs false
theorem blt8 (a b : UInt8) : Nat.blt a.toNat b.toNat = decide (a < b) := by
  rw [Bool.eq_iff_iff, Nat.blt_eq, decide_eq_true_iff]
  exact Iff.rfl
theorem less_is : ∀ l m : List UInt8, less l m = Op.bytesLess l m
  | [], [] => by rw [less]; rfl
  | [], _ :: _ => by rw [less]; rfl
  | _ :: _, [] => by rw [less]; rfl
  | a :: x, b :: y => by
    rw [less, beq8, blt8, less_is x y]
    rfl
section
variable {P : Program} {ty : Ty} {sz : Nat → Nat} {w0 : World} {Φ : Fx} {R : Rn} {w : World} {h : Hp}
theorem o_str_is (hh : HR sz w0 Φ R w h) {op : BinOp} {t : Nat} {ox oy : Operand} {x y x' y' v : Value} (hx : VR R x x') (hy : VR R y y')
    (ho : o_str op x y = some v) : Ok0 P R w v (do eqGuard op t ox oy x' y'; binOp op t x' y') := by
  unfold o_str at ho
  split at ho
  · rename_i a b
    rw [hx.str, hy.str]
    have hg : (eqGuard op t ox oy (.string a) (.string b)).run P w = .ok () w := by
      unfold eqGuard
      cases op <;> rfl
    have hs : ∀ u, lit u = true → (binOp op t (.string a) (.string b)).run P w = .ok u w → some u = some v → Ok0 P R w v (do eqGuard op t ox oy (.string a) (.string b); binOp op t (.string a) (.string b)) := fun u hl hr he => by
      cases he
      refine .same hh (.lit hl) ?_
      rw [Sem.run_bind, hg]
      exact hr
    cases op <;> dsimp only at ho <;> first | (cases ho; done) | skip
    case add =>
      cases hn : Nat.ble (a.data.toList.length + b.data.toList.length) 1000000 with
      | false => rw [hn] at ho; cases ho
      | true =>
        rw [hn] at ho
        have hlen := Nat.le_of_ble_eq_true hn
        refine hs _ rfl ?_ ho
        have h2 : ¬ (IntKind.i64.max < ((a.size + b.size : Nat) : Int)) := by
          have e1 : a.size = a.data.toList.length := rfl
          have e2 : b.size = b.data.toList.length := rfl
          have e3 : IntKind.i64.max = 9223372036854775807 := rfl
          omega
        have h3 : (a ++ b) = (⟨(a.data.toList ++ b.data.toList).toArray⟩ : ByteArray) := by
          apply ByteArray.ext
          simp
        show (Op.stringOp .add a b).run P w = _
        unfold Op.stringOp
        dsimp only
        rw [if_neg h2, h3]
        rfl
    all_goals
      refine hs _ rfl ?_ ho
      simp [binOp, Op.stringOp, Lib.toList_data, less_is, same_is]
  · cases ho
def eqB (op : BinOp) (b : Bool) : Option Value := match op with
  | .eql => some (.bool b)
  | .neq => some (.bool (!b))
  | _ => none
def eqK (j k : IntKind) : Bool := decide (j = k)
/-- are two fields alike? -/
def eqFs (ty : Ty) (eq : Nat → Value → Value → Option Bool) : List Field → List Value → List Value → Option Bool
  | [], _, _ => some true
  | f :: fs, xs, ys => match fldAt ty f.type xs f.offset, fldAt ty f.type ys f.offset with
    | some a, some b => match eq f.type a b with
      | some true => eqFs ty eq fs xs ys
      | r => r
    | _, _ => none
def eqAs (ty : Ty) (eq : Nat → Value → Value → Option Bool) (e s : Nat) : List Nat → List Value → List Value → Option Bool
  | [], _, _ => some true
  | i :: is, xs, ys => match fldAt ty e xs (i * s), fldAt ty e ys (i * s) with
    | some a, some b => match eq e a b with
      | some true => eqAs ty eq e s is xs ys
      | r => r
    | _, _ => none
def eqv (ty : Ty) : Nat → Nat → Value → Value → Option Bool
  | 0, _, _, _ => none
  | d + 1, t, x, y => match desc ty t with
    | some .bool => match x, y with
      | .bool a, .bool b => some (a == b)
      | _, _ => none
    | some (.int _) => match x, y with
      | .int j a, .int k b => bif eqK j k then some (a == b) else none
      | _, _ => none
    | some .string => match x, y with
      | .string a, .string b => some (same a.data.toList b.data.toList)
      | _, _ => none
    | some (.pointer _) => match x, y with
      | .pointer none, .pointer b => some b.isNone
      | .pointer (some _), .pointer none => some false
      | _, _ => none
    | some (.slice _) => match x, y with
      | .slice none 0 0, .slice none 0 0 => some true
      | .slice (some a) _ _, .slice none 0 0 => bif Nat.beq a.block many then none else some false
      | _, _ => none
    | some (.map _ _) => match x, y with
      | .map none, .map none => some true
      | .map (some _), .map none => some false
      | _, _ => none
    | some (.func _ _ _) => match x, y with
      | .nilFunc, .nilFunc => some true
      | .func _ _ _, .nilFunc => some false
      | _, _ => none
    | some (.struct fs) => match x, y with
      | .agg xs, .agg ys => bif memN t ty.cm then eqFs ty (eqv ty d) fs.toList xs.toList ys.toList else none
      | _, _ => none
    | some (.array n e) => match x, y, ty.get e with
      | .agg xs, .agg ys, some i => eqAs ty (eqv ty d) e i.size (List.range n) xs.toList ys.toList
      | _, _, _ => none
    | _ => none
def o_eqv (ty : Ty) (t : Nat) (x y : Value) : Option Bool := match desc ty t with
  | some (.array _ _) => none
  | _ => eqv ty 100 t x y
theorem VR.nil {R : Rn} {v : Value} (h : VR R (.pointer none) v) : v = .pointer none := h.of_lit rfl (fun e => by cases e)
theorem VR.sliceNil {R : Rn} {v : Value} (h : VR R (.slice none 0 0) v) : v = .slice none 0 0 := by
  rcases h with (h | ⟨_, _, h, _⟩) | ⟨_, _, h, _⟩
  · cases h; rfl
  · cases h
  · cases h
theorem VR.sliceSome {R : Rn} {a : Addr} {n c : Nat} {v : Value} (h : VR R (.slice (some a) n c) v) (hm : a.block ≠ many) : ∃ b m d, v = .slice (some b) m d := by
  rcases h with (h | ⟨_, _, h, _⟩) | ⟨_, _, h, _⟩
  · cases h with
    | lit _ hl => cases hl
    | sl _ _ _ _ _ _ => exact ⟨_, _, _, rfl⟩
    | slg _ _ _ _ _ _ _ _ => exact ⟨_, _, _, rfl⟩
    | sle _ _ => exact absurd rfl hm
  · cases h
  · cases h
theorem VR.mapSome {R : Rn} {i : Nat} {v : Value} (h : VR R (.map (some i)) v) : v = .map (some (R.ρ i)) ∧ R.D i := by
  rcases h with (h | ⟨_, _, h, _⟩) | ⟨_, _, h, _⟩
  · cases h with
    | lit _ hl => cases hl
    | mp _ h => exact ⟨rfl, h⟩
  · cases h
  · cases h
theorem VR.mapNone {R : Rn} {v : Value} (h : VR R (.map none) v) : v = .map none := h.of_lit rfl (fun e => by cases e)
theorem VR.nilF {R : Rn} {v : Value} (h : VR R .nilFunc v) : v = .nilFunc := h.of_lit rfl (fun e => by cases e)
theorem VR.someF {R : Rn} {g : Fn} {f c : Array Value} {v : Value} (h : VR R (.func g f c) v) : ∃ g' f' c', v = .func g' f' c' := by
  rcases h with (h | ⟨_, _, h, _⟩) | ⟨_, _, h, _⟩
  · cases h <;> exact ⟨_, _, _, rfl⟩
  · cases h
  · cases h
theorem eqFs_is (T : TyOK P ty) {eq : Nat → Value → Value → Option Bool} {d : Nat} (ih : ∀ t x y c x' y', eq t x y = some c → VR R x x' → VR R y y' → (Op.equalIn d t x' y').run P w = .ok c w) {xs ys : List Value} {xs' ys' : Array Value} (hx : A2 (SR R) xs xs'.toList) (hy : A2 (SR R) ys ys'.toList) :
    ∀ (fs : List Field) (c : Bool), fs.all (·.name != "_") = true → eqFs ty eq fs xs ys = some c → (Op.eqFields d xs' ys' fs).run P w = .ok c w
  | [], c, _, h => by cases h; simp [Op.eqFields]
  | f :: fs, c, hn, h => by
    rw [List.all_cons, Bool.and_eq_true] at hn
    have hne : f.name ≠ "_" := by simpa using hn.1
    unfold eqFs at h
    split at h
    · rename_i a b ha hb
      obtain ⟨a', h1, h2⟩ := fldAt_is (P := P) T w hx ha
      obtain ⟨b', h3, h4⟩ := fldAt_is (P := P) T w hy hb
      unfold Op.eqFields
      rw [if_pos hne]
      cases he : eq f.type a b with
      | none => rw [he] at h; cases h
      | some r =>
        rw [he] at h
        have h5 := ih _ _ _ _ _ _ he h1 h3
        rw [Sem.run_bind, h2]
        simp only [Result.andThen_ok]
        rw [Sem.run_bind, h4]
        simp only [Result.andThen_ok]
        rw [Sem.run_bind, h5]
        simp only [Result.andThen_ok]
        cases r with
        | true => simpa using eqFs_is T ih hx hy fs c hn.2 h
        | false => cases h; simp
    · cases h
theorem eqAs_is (T : TyOK P ty) {eq : Nat → Value → Value → Option Bool} {d : Nat} (ih : ∀ t x y c x' y', eq t x y = some c → VR R x x' → VR R y y' → (Op.equalIn d t x' y').run P w = .ok c w) {xs ys : List Value} {xs' ys' : Array Value} (hx : A2 (SR R) xs xs'.toList) (hy : A2 (SR R) ys ys'.toList) {e s : Nat} :
    ∀ (is : List Nat) (c : Bool), eqAs ty eq e s is xs ys = some c → (Op.eqItems d e s xs' ys' is).run P w = .ok c w
  | [], c, h => by cases h; simp [Op.eqItems]
  | i :: is, c, h => by
    unfold eqAs at h
    split at h
    · rename_i a b ha hb
      obtain ⟨a', h1, h2⟩ := fldAt_is (P := P) T w hx ha
      obtain ⟨b', h3, h4⟩ := fldAt_is (P := P) T w hy hb
      unfold Op.eqItems
      cases he : eq e a b with
      | none => rw [he] at h; cases h
      | some r =>
        rw [he] at h
        have h5 := ih _ _ _ _ _ _ he h1 h3
        rw [Sem.run_bind, h2]
        simp only [Result.andThen_ok]
        rw [Sem.run_bind, h4]
        simp only [Result.andThen_ok]
        rw [Sem.run_bind, h5]
        simp only [Result.andThen_ok]
        cases r with
        | true => simpa using eqAs_is T ih hx hy is c h
        | false => cases h; simp
    · cases h
theorem eqv_is (T : TyOK P ty) : ∀ (d t : Nat) (x y : Value) (c : Bool) (x' y' : Value), eqv ty d t x y = some c → VR R x x' → VR R y y' → ∀ e, (Op.equalIn (d + e) t x' y').run P w = .ok c w
  | 0, _, _, _, _, _, _, h, _, _, _ => by cases h
  | d + 1, t, x, y, c, x', y', h, hx, hy, e => by
    rw [show d + 1 + e = (d + e) + 1 by omega]
    unfold eqv at h
    split at h
    · rename_i hd
      have hu := desc_is T hd
      split at h
      · cases h
        rw [hx.bool, hy.bool]
        simp [Op.equalIn, run_underlying hu]
      · cases h
    · rename_i hd
      have hu := desc_is T hd
      split at h
      · rename_i j a k b
        rw [hx.int, hy.int]
        by_cases hk : j = k
        · subst hk
          rw [show eqK j j = true from decide_eq_true rfl] at h
          cases h
          simp [Op.equalIn, run_underlying hu]
        · rw [show eqK j k = false from decide_eq_false hk] at h
          cases h
      · cases h
    · rename_i hd
      have hu := desc_is T hd
      split at h
      · rename_i a b
        cases h
        rw [hx.str, hy.str]
        simp only [Op.equalIn, Sem.run_bind, run_underlying hu, Result.andThen_ok, Sem.run_pure]
        rw [same_is, beq_toListBytes, ByteArray.toList_eq, ByteArray.toList_eq]
      · cases h
    · rename_i hd
      have hu := desc_is T hd
      split at h
      · rename_i b
        cases h
        rw [hx.nil]
        cases b with
        | none => rw [hy.nil]; simp [Op.equalIn, run_underlying hu]
        | some a => rw [hy.ptr.1]; simp [Op.equalIn, run_underlying hu]
      · cases h
        rw [hx.ptr.1, hy.nil]
        simp [Op.equalIn, run_underlying hu]
      · cases h
    · rename_i hd
      have hu := desc_is T hd
      split at h
      · cases h
        rw [hx.sliceNil, hy.sliceNil]
        simp [Op.equalIn, run_underlying hu]
      · rename_i a _ _
        by_cases hm : a.block = many
        · rw [Tr.beq_iff, decide_eq_true hm] at h; cases h
        · rw [Tr.beq_iff, decide_eq_false hm] at h
          cases h
          obtain ⟨b, m, d', rfl⟩ := hx.sliceSome hm
          rw [hy.sliceNil]
          simp [Op.equalIn, run_underlying hu]
      · cases h
    · rename_i hd
      have hu := desc_is T hd
      split at h
      · cases h
        rw [hx.mapNone, hy.mapNone]
        simp [Op.equalIn, run_underlying hu]
      · cases h
        rw [hx.mapSome.1, hy.mapNone]
        simp [Op.equalIn, run_underlying hu]
      · cases h
    · rename_i hd
      have hu := desc_is T hd
      split at h
      · cases h
        rw [hx.nilF, hy.nilF]
        simp [Op.equalIn, run_underlying hu]
      · cases h
        obtain ⟨g', f', c', rfl⟩ := hx.someF
        rw [hy.nilF]
        simp [Op.equalIn, run_underlying hu]
      · cases h
    · rename_i fs hd
      have hu := desc_is T hd
      split at h
      · rename_i xs ys
        cases hm : memN t ty.cm with
        | false => rw [hm] at h; cases h
        | true =>
          rw [hm] at h
          dsimp only [cond_true] at h
          have hcm := T.cm t ((memN_iff _ _).1 hm)
          unfold EqT at hcm
          simp only [Bool.and_eq_true, Bool.not_eq_true'] at hcm
          obtain ⟨xs', rfl, hxs⟩ := hx.agg
          obtain ⟨ys', rfl, hys⟩ := hy.agg
          have hfs : P.fieldsOf t = fs := by unfold Program.fieldsOf; rw [hu]
          rw [run_equalIn_struct w (d + e) t xs' ys' (by rw [hfs]; exact hu) hcm.1.2, hfs]
          exact eqFs_is T (fun t x y c x' y' h1 h2 h3 => eqv_is T d t x y c x' y' h1 h2 h3 e) hxs hys fs.toList c (by rw [← hfs]; exact hcm.2) h
      · cases h
    · rename_i n el hd
      have hu := desc_is T hd
      split at h
      · rename_i xs ys i hi
        obtain ⟨xs', rfl, hxs⟩ := hx.agg
        obtain ⟨ys', rfl, hys⟩ := hy.agg
        have hinf := T.ty el i hi
        rw [run_equalIn_array w (d + e) xs' ys' hu hinf]
        have hcells : P.cellsOf el = i.size := by unfold Program.cellsOf; rw [hinf]; rfl
        rw [hcells]
        exact eqAs_is T (fun t x y c x' y' h1 h2 h3 => eqv_is T d t x y c x' y' h1 h2 h3 e) hxs hys _ c h
      · cases h
    · cases h
theorem o_eq_is (T : TyOK P ty) (hh : HR sz w0 Φ R w h) {op : BinOp} {t : Nat} {ox oy : Operand} {x y x' y' v : Value} (hx : VR R x x') (hy : VR R y y') (hi : ∀ k n, x ≠ .int k n) (hs : ∀ s, x ≠ .string s)
    {c : Bool} (ho : o_eqv ty t x y = some c) (hv : eqB op c = some v) : Ok0 P R w v (do eqGuard op t ox oy x' y'; binOp op t x' y') := by
  have hna : (∀ n e, desc ty t ≠ some (.array n e)) ∧ eqv ty 100 t x y = some c := by
    unfold o_eqv at ho
    split at ho
    · cases ho
    · rename_i h
      exact ⟨fun n e he => h n e he, ho⟩
  obtain ⟨hna, ho2⟩ := hna
  clear ho
  have ho := ho2
  clear ho2
  have heq : (Op.equal t x' y').run P w = .ok c w := eqv_is T 100 t x y c x' y' ho hx hy 9900
  have fin : (eqGuard op t ox oy x' y').run P w = .ok () w → (op = .eql → binOp op t x' y' = (do pure (.bool (← Op.equal t x' y')))) → (op = .neq → binOp op t x' y' = (do pure (.bool (!(← Op.equal t x' y'))))) → Ok0 P R w v (do eqGuard op t ox oy x' y'; binOp op t x' y') := fun h1 h3 h4 => by
    cases op <;> cases hv
    · refine .same hh (.lit rfl) ?_
      rw [Sem.run_bind, h1, h3 rfl]
      simp [heq]
    · refine .same hh (.lit rfl) ?_
      rw [Sem.run_bind, h1, h4 rfl]
      simp [heq]
  unfold eqv at ho
  split at ho
  · split at ho
    · (have e1 := hx.bool; have e2 := hy.bool; subst e1; subst e2)
      exact fin (by unfold eqGuard; cases op <;> rfl) (fun e => by subst e; rfl) (fun e => by subst e; rfl)
    · cases ho
  · split at ho
    · exact absurd rfl (hi _ _)
    · cases ho
  · split at ho
    · exact absurd rfl (hs _)
    · cases ho
  · split at ho
    · rename_i b
      (have e1 := hx.nil; subst e1)
      cases b with
      | none => (have e1 := hy.nil; subst e1); exact fin (by unfold eqGuard; cases op <;> rfl) (fun e => by subst e; rfl) (fun e => by subst e; rfl)
      | some a => (have e1 := hy.ptr.1; subst e1); exact fin (by unfold eqGuard; cases op <;> rfl) (fun e => by subst e; rfl) (fun e => by subst e; rfl)
    · (have e1 := hx.ptr.1; have e2 := hy.nil; subst e1; subst e2)
      exact fin (by unfold eqGuard; cases op <;> rfl) (fun e => by subst e; rfl) (fun e => by subst e; rfl)
    · cases ho
  · split at ho
    · (have e1 := hx.sliceNil; have e2 := hy.sliceNil; subst e1; subst e2)
      exact fin (by unfold eqGuard; cases op <;> rfl) (fun e => by subst e; rfl) (fun e => by subst e; rfl)
    · rename_i a _ _
      by_cases hm : a.block = many
      · rw [Tr.beq_iff, decide_eq_true hm] at ho; cases ho
      · obtain ⟨b, m, d', rfl⟩ := hx.sliceSome hm
        (have e1 := hy.sliceNil; subst e1)
        exact fin (by unfold eqGuard; cases op <;> rfl) (fun e => by subst e; rfl) (fun e => by subst e; rfl)
    · cases ho
  · split at ho
    · (have e1 := hx.mapNone; have e2 := hy.mapNone; subst e1; subst e2)
      exact fin (by unfold eqGuard; cases op <;> rfl) (fun e => by subst e; rfl) (fun e => by subst e; rfl)
    · (have e1 := hx.mapSome.1; have e2 := hy.mapNone; subst e1; subst e2)
      exact fin (by unfold eqGuard; cases op <;> rfl) (fun e => by subst e; rfl) (fun e => by subst e; rfl)
    · cases ho
  · split at ho
    · (have e1 := hx.nilF; have e2 := hy.nilF; subst e1; subst e2)
      exact fin (by unfold eqGuard; cases op <;> rfl) (fun e => by subst e; rfl) (fun e => by subst e; rfl)
    · obtain ⟨g', f', c', rfl⟩ := hx.someF
      (have e1 := hy.nilF; subst e1)
      exact fin (by unfold eqGuard; cases op <;> rfl) (fun e => by subst e; rfl) (fun e => by subst e; rfl)
    · cases ho
  · split at ho
    · rename_i xs ys
      cases hm : memN t ty.cm with
      | false => rw [hm] at ho; cases ho
      | true =>
        have hcm := T.cm t ((memN_iff _ _).1 hm)
        unfold EqT at hcm
        simp only [Bool.and_eq_true, Bool.not_eq_true'] at hcm
        obtain ⟨xs', rfl, hxs⟩ := hx.agg
        obtain ⟨ys', rfl, hys⟩ := hy.agg
        exact fin (run_eqGuard_agg w op t ox oy xs' ys' hcm.1.1) (fun e => by subst e; rfl) (fun e => by subst e; rfl)
    · cases ho
  · rename_i n e hd
    exact absurd hd (hna n e)
  · cases ho
end
end Go.Ev
