/- The evaluator's maps as they change; closures; made lists. -/
import Derived.Test.YtlchefdddgbohaaDoorEvQ
import Derived.Lib.Strings
import Derived.ChangeKeysEq
import Derived.Deep.DeepAppendWide
import Derived.Laws.OwnMore
import Derived.Laws.Slices
import Derived.Great.BuildSlice
import Derived.MapKept
import Derived.WideKeyRuns
import Derived.Laws.MakeOwn
/- Single operations of the evaluator: texts, equality. -/
noncomputable section
namespace Go.Ev
open Go.RowKit
set_option linter.unusedVariables false
set_option linter.unusedSimpArgs false
theorem blt8 (a b : UInt8) : Nat.blt a.toNat b.toNat = decide (a < b) := by
  rw [Bool.eq_iff_iff, Nat.blt_eq, decide_eq_true_iff]
  exact Iff.rfl
theorem less_is : ∀ l m : List UInt8, less l m = Op.bytesLess l m
  | [], [] => by rw [less]; rfl
  | [], _ :: _ => by rw [less]; rfl
  | _ :: _, [] => by rw [less]; rfl
  | a :: x, b :: y => by
    rw [less, beq8, blt8, less_is x y]
    rfl
section
variable {P : Program} {ty : Ty} {sz : Nat → Nat} {w0 : World} {Φ : Fx} {R : Rn} {w : World} {h : Hp}
theorem o_str_is (hh : HR sz w0 Φ R w h) {op : BinOp} {t : Nat} {ox oy : Operand} {x y x' y' v : Value} (hx : VR R x x') (hy : VR R y y')
    (ho : o_str op x y = some v) : Ok0 P R w v (do eqGuard op t ox oy x' y'; binOp op t x' y') := by
  unfold o_str at ho
  split at ho
  · rename_i a b
    rw [hx.str, hy.str]
    have hg : (eqGuard op t ox oy (.string a) (.string b)).run P w = .ok () w := by
      unfold eqGuard
      cases op <;> rfl
    have hs : ∀ u, lit u = true → (binOp op t (.string a) (.string b)).run P w = .ok u w → some u = some v → Ok0 P R w v (do eqGuard op t ox oy (.string a) (.string b); binOp op t (.string a) (.string b)) := fun u hl hr he => by
      cases he
      refine .same hh (.lit hl) ?_
      rw [Sem.run_bind, hg]
      exact hr
    cases op <;> dsimp only at ho <;> first | (cases ho; done) | skip
    case add =>
      cases hn : Nat.ble (a.data.toList.length + b.data.toList.length) 1000000 with
      | false => rw [hn] at ho; cases ho
      | true =>
        rw [hn] at ho
        have hlen := Nat.le_of_ble_eq_true hn
        refine hs _ rfl ?_ ho
        have h2 : ¬ (IntKind.i64.max < ((a.size + b.size : Nat) : Int)) := by
          have e1 : a.size = a.data.toList.length := rfl
          have e2 : b.size = b.data.toList.length := rfl
          have e3 : IntKind.i64.max = 9223372036854775807 := rfl
          omega
        have h3 : (a ++ b) = (⟨(a.data.toList ++ b.data.toList).toArray⟩ : ByteArray) := by
          apply ByteArray.ext
          simp
        show (Op.stringOp .add a b).run P w = _
        unfold Op.stringOp
        dsimp only
        rw [if_neg h2, h3]
        rfl
    all_goals
      refine hs _ rfl ?_ ho
      simp [binOp, Op.stringOp, Lib.toList_data, less_is, same_is]
  · cases ho
def eqB (op : BinOp) (b : Bool) : Option Value := match op with
  | .eql => some (.bool b)
  | .neq => some (.bool (!b))
  | _ => none
def eqK (j k : IntKind) : Bool := decide (j = k)
/-- are two fields alike? -/
def eqFs (ty : Ty) (eq : Nat → Value → Value → Option Bool) : List Field → List Value → List Value → Option Bool
  | [], _, _ => some true
  | f :: fs, xs, ys => match fldAt ty f.type xs f.offset, fldAt ty f.type ys f.offset with
    | some a, some b => match eq f.type a b with
      | some true => eqFs ty eq fs xs ys
      | r => r
    | _, _ => none
def eqAs (ty : Ty) (eq : Nat → Value → Value → Option Bool) (e s : Nat) : List Nat → List Value → List Value → Option Bool
  | [], _, _ => some true
  | i :: is, xs, ys => match fldAt ty e xs (i * s), fldAt ty e ys (i * s) with
    | some a, some b => match eq e a b with
      | some true => eqAs ty eq e s is xs ys
      | r => r
    | _, _ => none
def eqv (ty : Ty) : Nat → Nat → Value → Value → Option Bool
  | 0, _, _, _ => none
  | d + 1, t, x, y => match desc ty t with
    | some .bool => match x, y with
      | .bool a, .bool b => some (a == b)
      | _, _ => none
    | some (.int _) => match x, y with
      | .int j a, .int k b => bif eqK j k then some (a == b) else none
      | _, _ => none
    | some .string => match x, y with
      | .string a, .string b => some (same a.data.toList b.data.toList)
      | _, _ => none
    | some (.pointer _) => match x, y with
      | .pointer none, .pointer b => some b.isNone
      | .pointer (some _), .pointer none => some false
      | _, _ => none
    | some (.slice _) => match x, y with
      | .slice none 0 0, .slice none 0 0 => some true
      | .slice (some a) _ _, .slice none 0 0 => bif Nat.beq a.block many then none else some false
      | _, _ => none
    | some (.map _ _) => match x, y with
      | .map none, .map none => some true
      | .map (some _), .map none => some false
      | _, _ => none
    | some (.func _ _ _) => match x, y with
      | .nilFunc, .nilFunc => some true
      | .func _ _ _, .nilFunc => some false
      | _, _ => none
    | some (.struct fs) => match x, y with
      | .agg xs, .agg ys => bif memN t ty.cm then eqFs ty (eqv ty d) fs.toList xs.toList ys.toList else none
      | _, _ => none
    | some (.array n e) => match x, y, ty.get e with
      | .agg xs, .agg ys, some i => eqAs ty (eqv ty d) e i.size (List.range n) xs.toList ys.toList
      | _, _, _ => none
    | _ => none
def o_eqv (ty : Ty) (t : Nat) (x y : Value) : Option Bool := match desc ty t with
  | some (.array _ _) => none
  | _ => eqv ty 100 t x y
theorem VR.nil {R : Rn} {v : Value} (h : VR R (.pointer none) v) : v = .pointer none := h.of_lit rfl (fun e => by cases e)
theorem VR.sliceNil {R : Rn} {v : Value} (h : VR R (.slice none 0 0) v) : v = .slice none 0 0 := by
  rcases h with (h | ⟨_, _, h, _⟩) | ⟨_, _, h, _⟩
  · cases h; rfl
  · cases h
  · cases h
theorem VR.sliceSome {R : Rn} {a : Addr} {n c : Nat} {v : Value} (h : VR R (.slice (some a) n c) v) (hm : a.block ≠ many) : ∃ b m d, v = .slice (some b) m d := by
  rcases h with (h | ⟨_, _, h, _⟩) | ⟨_, _, h, _⟩
  · cases h with
    | lit _ hl => cases hl
    | sl _ _ _ _ _ _ => exact ⟨_, _, _, rfl⟩
    | slg _ _ _ _ _ _ _ _ => exact ⟨_, _, _, rfl⟩
    | sle _ _ => exact absurd rfl hm
  · cases h
  · cases h
theorem VR.mapSome {R : Rn} {i : Nat} {v : Value} (h : VR R (.map (some i)) v) : v = .map (some (R.ρ i)) ∧ R.D i := by
  rcases h with (h | ⟨_, _, h, _⟩) | ⟨_, _, h, _⟩
  · cases h with
    | lit _ hl => cases hl
    | mp _ h => exact ⟨rfl, h⟩
  · cases h
  · cases h
theorem VR.mapNone {R : Rn} {v : Value} (h : VR R (.map none) v) : v = .map none := h.of_lit rfl (fun e => by cases e)
theorem VR.nilF {R : Rn} {v : Value} (h : VR R .nilFunc v) : v = .nilFunc := h.of_lit rfl (fun e => by cases e)
theorem VR.someF {R : Rn} {g : Fn} {f c : Array Value} {v : Value} (h : VR R (.func g f c) v) : ∃ g' f' c', v = .func g' f' c' := by
  rcases h with (h | ⟨_, _, h, _⟩) | ⟨_, _, h, _⟩
  · cases h <;> exact ⟨_, _, _, rfl⟩
  · cases h
  · cases h
theorem eqFs_is (T : TyOK P ty) {eq : Nat → Value → Value → Option Bool} {d : Nat} (ih : ∀ t x y c x' y', eq t x y = some c → VR R x x' → VR R y y' → (Op.equalIn d t x' y').run P w = .ok c w) {xs ys : List Value} {xs' ys' : Array Value} (hx : A2 (SR R) xs xs'.toList) (hy : A2 (SR R) ys ys'.toList) :
    ∀ (fs : List Field) (c : Bool), fs.all (·.name != "_") = true → eqFs ty eq fs xs ys = some c → (Op.eqFields d xs' ys' fs).run P w = .ok c w
  | [], c, _, h => by cases h; simp [Op.eqFields]
  | f :: fs, c, hn, h => by
    rw [List.all_cons, Bool.and_eq_true] at hn
    have hne : f.name ≠ "_" := by simpa using hn.1
    unfold eqFs at h
    split at h
    · rename_i a b ha hb
      obtain ⟨a', h1, h2⟩ := fldAt_is (P := P) T w hx ha
      obtain ⟨b', h3, h4⟩ := fldAt_is (P := P) T w hy hb
      unfold Op.eqFields
      rw [if_pos hne]
      cases he : eq f.type a b with
      | none => rw [he] at h; cases h
      | some r =>
        rw [he] at h
        have h5 := ih _ _ _ _ _ _ he h1 h3
        rw [Sem.run_bind, h2]
        simp only [Result.andThen_ok]
        rw [Sem.run_bind, h4]
        simp only [Result.andThen_ok]
        rw [Sem.run_bind, h5]
        simp only [Result.andThen_ok]
        cases r with
        | true => simpa using eqFs_is T ih hx hy fs c hn.2 h
        | false => cases h; simp
    · cases h
theorem eqAs_is (T : TyOK P ty) {eq : Nat → Value → Value → Option Bool} {d : Nat} (ih : ∀ t x y c x' y', eq t x y = some c → VR R x x' → VR R y y' → (Op.equalIn d t x' y').run P w = .ok c w) {xs ys : List Value} {xs' ys' : Array Value} (hx : A2 (SR R) xs xs'.toList) (hy : A2 (SR R) ys ys'.toList) {e s : Nat} :
    ∀ (is : List Nat) (c : Bool), eqAs ty eq e s is xs ys = some c → (Op.eqItems d e s xs' ys' is).run P w = .ok c w
  | [], c, h => by cases h; simp [Op.eqItems]
  | i :: is, c, h => by
    unfold eqAs at h
    split at h
    · rename_i a b ha hb
      obtain ⟨a', h1, h2⟩ := fldAt_is (P := P) T w hx ha
      obtain ⟨b', h3, h4⟩ := fldAt_is (P := P) T w hy hb
      unfold Op.eqItems
      cases he : eq e a b with
      | none => rw [he] at h; cases h
      | some r =>
        rw [he] at h
        have h5 := ih _ _ _ _ _ _ he h1 h3
        rw [Sem.run_bind, h2]
        simp only [Result.andThen_ok]
        rw [Sem.run_bind, h4]
        simp only [Result.andThen_ok]
        rw [Sem.run_bind, h5]
        simp only [Result.andThen_ok]
        cases r with
        | true => simpa using eqAs_is T ih hx hy is c h
        | false => cases h; simp
    · cases h
theorem eqv_is (T : TyOK P ty) : ∀ (d t : Nat) (x y : Value) (c : Bool) (x' y' : Value), eqv ty d t x y = some c → VR R x x' → VR R y y' → ∀ e, (Op.equalIn (d + e) t x' y').run P w = .ok c w
  | 0, _, _, _, _, _, _, h, _, _, _ => by cases h
  | d + 1, t, x, y, c, x', y', h, hx, hy, e => by
    rw [show d + 1 + e = (d + e) + 1 by omega]
    unfold eqv at h
    split at h
    · rename_i hd
      have hu := desc_is T hd
      split at h
      · cases h
        rw [hx.bool, hy.bool]
        simp [Op.equalIn, run_underlying hu]
      · cases h
    · rename_i hd
      have hu := desc_is T hd
      split at h
      · rename_i j a k b
        rw [hx.int, hy.int]
        by_cases hk : j = k
        · subst hk
          rw [show eqK j j = true from decide_eq_true rfl] at h
          cases h
          simp [Op.equalIn, run_underlying hu]
        · rw [show eqK j k = false from decide_eq_false hk] at h
          cases h
      · cases h
    · rename_i hd
      have hu := desc_is T hd
      split at h
      · rename_i a b
        cases h
        rw [hx.str, hy.str]
        simp only [Op.equalIn, Sem.run_bind, run_underlying hu, Result.andThen_ok, Sem.run_pure]
        rw [same_is, beq_toListBytes, ByteArray.toList_eq, ByteArray.toList_eq]
      · cases h
    · rename_i hd
      have hu := desc_is T hd
      split at h
      · rename_i b
        cases h
        rw [hx.nil]
        cases b with
        | none => rw [hy.nil]; simp [Op.equalIn, run_underlying hu]
        | some a => rw [hy.ptr.1]; simp [Op.equalIn, run_underlying hu]
      · cases h
        rw [hx.ptr.1, hy.nil]
        simp [Op.equalIn, run_underlying hu]
      · cases h
    · rename_i hd
      have hu := desc_is T hd
      split at h
      · cases h
        rw [hx.sliceNil, hy.sliceNil]
        simp [Op.equalIn, run_underlying hu]
      · rename_i a _ _
        by_cases hm : a.block = many
        · rw [Tr.beq_iff, decide_eq_true hm] at h; cases h
        · rw [Tr.beq_iff, decide_eq_false hm] at h
          cases h
          obtain ⟨b, m, d', rfl⟩ := hx.sliceSome hm
          rw [hy.sliceNil]
          simp [Op.equalIn, run_underlying hu]
      · cases h
    · rename_i hd
      have hu := desc_is T hd
      split at h
      · cases h
        rw [hx.mapNone, hy.mapNone]
        simp [Op.equalIn, run_underlying hu]
      · cases h
        rw [hx.mapSome.1, hy.mapNone]
        simp [Op.equalIn, run_underlying hu]
      · cases h
    · rename_i hd
      have hu := desc_is T hd
      split at h
      · cases h
        rw [hx.nilF, hy.nilF]
        simp [Op.equalIn, run_underlying hu]
      · cases h
        obtain ⟨g', f', c', rfl⟩ := hx.someF
        rw [hy.nilF]
        simp [Op.equalIn, run_underlying hu]
      · cases h
    · rename_i fs hd
      have hu := desc_is T hd
      split at h
      · rename_i xs ys
        cases hm : memN t ty.cm with
        | false => rw [hm] at h; cases h
        | true =>
          rw [hm] at h
          dsimp only [cond_true] at h
          have hcm := T.cm t ((memN_iff _ _).1 hm)
          unfold EqT at hcm
          simp only [Bool.and_eq_true, Bool.not_eq_true'] at hcm
          obtain ⟨xs', rfl, hxs⟩ := hx.agg
          obtain ⟨ys', rfl, hys⟩ := hy.agg
          have hfs : P.fieldsOf t = fs := by unfold Program.fieldsOf; rw [hu]
          rw [run_equalIn_struct w (d + e) t xs' ys' (by rw [hfs]; exact hu) hcm.1.2, hfs]
          exact eqFs_is T (fun t x y c x' y' h1 h2 h3 => eqv_is T d t x y c x' y' h1 h2 h3 e) hxs hys fs.toList c (by rw [← hfs]; exact hcm.2) h
      · cases h
    · rename_i n el hd
      have hu := desc_is T hd
      split at h
      · rename_i xs ys i hi
        obtain ⟨xs', rfl, hxs⟩ := hx.agg
        obtain ⟨ys', rfl, hys⟩ := hy.agg
        have hinf := T.ty el i hi
        rw [run_equalIn_array w (d + e) xs' ys' hu hinf]
        have hcells : P.cellsOf el = i.size := by unfold Program.cellsOf; rw [hinf]; rfl
        rw [hcells]
        exact eqAs_is T (fun t x y c x' y' h1 h2 h3 => eqv_is T d t x y c x' y' h1 h2 h3 e) hxs hys _ c h
      · cases h
    · cases h
theorem o_eq_is (T : TyOK P ty) (hh : HR sz w0 Φ R w h) {op : BinOp} {t : Nat} {ox oy : Operand} {x y x' y' v : Value} (hx : VR R x x') (hy : VR R y y') (hi : ∀ k n, x ≠ .int k n) (hs : ∀ s, x ≠ .string s)
    {c : Bool} (ho : o_eqv ty t x y = some c) (hv : eqB op c = some v) : Ok0 P R w v (do eqGuard op t ox oy x' y'; binOp op t x' y') := by
  have hna : (∀ n e, desc ty t ≠ some (.array n e)) ∧ eqv ty 100 t x y = some c := by
    unfold o_eqv at ho
    split at ho
    · cases ho
    · rename_i h
      exact ⟨fun n e he => h n e he, ho⟩
  obtain ⟨hna, ho2⟩ := hna
  clear ho
  have ho := ho2
  clear ho2
  have heq : (Op.equal t x' y').run P w = .ok c w := eqv_is T 100 t x y c x' y' ho hx hy 9900
  have fin : (eqGuard op t ox oy x' y').run P w = .ok () w → (op = .eql → binOp op t x' y' = (do pure (.bool (← Op.equal t x' y')))) → (op = .neq → binOp op t x' y' = (do pure (.bool (!(← Op.equal t x' y'))))) → Ok0 P R w v (do eqGuard op t ox oy x' y'; binOp op t x' y') := fun h1 h3 h4 => by
    cases op <;> cases hv
    · refine .same hh (.lit rfl) ?_
      rw [Sem.run_bind, h1, h3 rfl]
      simp [heq]
    · refine .same hh (.lit rfl) ?_
      rw [Sem.run_bind, h1, h4 rfl]
      simp [heq]
  unfold eqv at ho
  split at ho
  · split at ho
    · (have e1 := hx.bool; have e2 := hy.bool; subst e1; subst e2)
      exact fin (by unfold eqGuard; cases op <;> rfl) (fun e => by subst e; rfl) (fun e => by subst e; rfl)
    · cases ho
  · split at ho
    · exact absurd rfl (hi _ _)
    · cases ho
  · split at ho
    · exact absurd rfl (hs _)
    · cases ho
  · split at ho
    · rename_i b
      (have e1 := hx.nil; subst e1)
      cases b with
      | none => (have e1 := hy.nil; subst e1); exact fin (by unfold eqGuard; cases op <;> rfl) (fun e => by subst e; rfl) (fun e => by subst e; rfl)
      | some a => (have e1 := hy.ptr.1; subst e1); exact fin (by unfold eqGuard; cases op <;> rfl) (fun e => by subst e; rfl) (fun e => by subst e; rfl)
    · (have e1 := hx.ptr.1; have e2 := hy.nil; subst e1; subst e2)
      exact fin (by unfold eqGuard; cases op <;> rfl) (fun e => by subst e; rfl) (fun e => by subst e; rfl)
    · cases ho
  · split at ho
    · (have e1 := hx.sliceNil; have e2 := hy.sliceNil; subst e1; subst e2)
      exact fin (by unfold eqGuard; cases op <;> rfl) (fun e => by subst e; rfl) (fun e => by subst e; rfl)
    · rename_i a _ _
      by_cases hm : a.block = many
      · rw [Tr.beq_iff, decide_eq_true hm] at ho; cases ho
      · obtain ⟨b, m, d', rfl⟩ := hx.sliceSome hm
        (have e1 := hy.sliceNil; subst e1)
        exact fin (by unfold eqGuard; cases op <;> rfl) (fun e => by subst e; rfl) (fun e => by subst e; rfl)
    · cases ho
  · split at ho
    · (have e1 := hx.mapNone; have e2 := hy.mapNone; subst e1; subst e2)
      exact fin (by unfold eqGuard; cases op <;> rfl) (fun e => by subst e; rfl) (fun e => by subst e; rfl)
    · (have e1 := hx.mapSome.1; have e2 := hy.mapNone; subst e1; subst e2)
      exact fin (by unfold eqGuard; cases op <;> rfl) (fun e => by subst e; rfl) (fun e => by subst e; rfl)
    · cases ho
  · split at ho
    · (have e1 := hx.nilF; have e2 := hy.nilF; subst e1; subst e2)
      exact fin (by unfold eqGuard; cases op <;> rfl) (fun e => by subst e; rfl) (fun e => by subst e; rfl)
    · obtain ⟨g', f', c', rfl⟩ := hx.someF
      (have e1 := hy.nilF; subst e1)
      exact fin (by unfold eqGuard; cases op <;> rfl) (fun e => by subst e; rfl) (fun e => by subst e; rfl)
    · cases ho
  · split at ho
    · rename_i xs ys
      cases hm : memN t ty.cm with
      | false => rw [hm] at ho; cases ho
      | true =>
        have hcm := T.cm t ((memN_iff _ _).1 hm)
        unfold EqT at hcm
        simp only [Bool.and_eq_true, Bool.not_eq_true'] at hcm
        obtain ⟨xs', rfl, hxs⟩ := hx.agg
        obtain ⟨ys', rfl, hys⟩ := hy.agg
        exact fin (run_eqGuard_agg w op t ox oy xs' ys' hcm.1.1) (fun e => by subst e; rfl) (fun e => by subst e; rfl)
    · cases ho
  · rename_i n e hd
    exact absurd hd (hna n e)
  · cases ho
end
end Go.Ev
/- The evaluator's append. -/
noncomputable section
namespace Go.Ev
open Go.RowKit
set_option linter.unusedVariables false
set_option linter.unusedSimpArgs false
section
variable {P : Program}
theorem app_where (w : World) (base : Nat) (t ty e : TypeId) (i : TypeInfo) (z : Value) (ht : P.underlying t = some (.slice e)) (hi : P.info? e = some i) (hz : i.zero = some z)
    (v : Value) (n : Nat) (xs : List Value) (hown : w.ownsRow base e i.size v n xs)
    (a : Addr) (m c : Nat) (news : List Value) (hl : news.length = m * i.size) (hnews : ∀ j u, news[j]? = some u → w.cell? (a.add j) = some u) (h1 : ∀ u ∈ news, u.oneCell' = true)
    (h63 : n + m ≤ maxLen) (hbytes : ((n + m) + (n + m) / 4 + 192) * i.bytes ≤ 281474976710656) (hm : 0 < m) {v' : Value} {w' : World}
    (hr : (Builtin.append_ #[t, t] ty #[v, .slice (some a) m c]).run P w = .ok v' w') : v'.ownBlock = v.ownBlock ∨ v'.ownBlock = some w.heap.size := by
  have hsmall : n + m ≤ 9223372036854775807 := by simp only [maxLen] at h63; omega
  rcases hown.2 with ⟨rfl, rfl⟩ | ⟨g, cap, cur, rfl, hbg, hg, hnc, hcm, hcs, htake⟩
  · rw [run_append_nil (P := P) w t ty e i z ht hi hz a m c news hl hnews hm (by omega) (Nat.le_trans (Nat.mul_le_mul_right _ (by omega)) hbytes)] at hr
    cases hr
    exact .inr rfl
  · by_cases hroom : n + m ≤ cap
    · rw [run_append_room (P := P) w t ty e i ht hi g n cap cur hg a m c news hl hnews h1 hroom (by rw [hl, hcs, ← Nat.add_mul]; exact Nat.mul_le_mul_right _ hroom)] at hr
      cases hr
      exact .inl rfl
    · rw [run_append_grow (P := P) w t ty e i z ht hi hz ⟨g, 0, none⟩ n cap xs hown.1 (hown.cells (g := g) rfl) a m c news hl hnews (by omega) (by omega) (growslice_fits_wide (by omega) hbytes)] at hr
      cases hr
      exact .inr rfl
end
/-- the sizes of the types -/
def SzOK (ty : Ty) (sz : Nat → Nat) : Prop := ∀ e i, ty.get e = some i → sz e = i.size
/-- what the list appended to holds: its cells, and the heap without it -/
def appOld (h : Hp) (e s : Nat) (bx : Option Addr) (n cx : Nat) : Option (List Value × Hp) :=
  match bx with
  | none => bif Nat.beq n 0 && Nat.beq cx 0 then some ([], h) else none
  | some a => bif Nat.beq a.off 0 then match h.heap.get a.block with
      | some (.row b) => let old := b.cells.take (n * s)
        bif Nat.beq b.elem e && Nat.beq old.length (n * s) && (bif Nat.beq cx many then b.grow else (!b.grow && Nat.beq b.cells.length (cx * s) && Nat.ble n cx && Nat.ble cx 1000000)) then some (old, ⟨h.heap.del a.block, h.next, h.tab⟩) else none
      | _ => none
    else none
def o_append (ty : Ty) (h : Hp) (t : Nat) (x y : Value) : Option (Value × Hp) :=
  match desc ty t, x, y with
  | some (.slice e), .slice bx n cx, .slice by_ m cy => bif Nat.beq m 0 then (bif Nat.ble n cx && (ty.get e).isSome then some (x, h) else none) else
    match ty.get e, by_ with
    | some i, some a2 => match i.zero with
      | some z => bif Nat.beq z.cells.toList.length i.size && Nat.blt 0 i.size && Nat.ble (n + m) 1000000 && Nat.ble (((n + m) + (n + m) / 4 + 192) * i.bytes) 281474976710656 then
          match ldA h a2 (m * i.size) with
          | some news => match appOld h e i.size bx n cx with
            | some (old, h1) => match newA h1 (.row ⟨old ++ news, e, true⟩) with
              | some (k, h2) => some (.slice (some ⟨k, 0, none⟩) (n + m) many, h2)
              | none => none
            | none => none
          | none => none
        else none
      | none => none
    | _, _ => none
  | _, _, _ => none
section
variable {P : Program} {ty : Ty} {sz : Nat → Nat} {w0 : World} {Φ : Fx} {R : Rn} {w : World} {h : Hp}
theorem appOld_is (hS : SzOK ty sz) (hh : HR sz w0 Φ R w h) {e : Nat} {i : TypeInfo} (hi : ty.get e = some i) {bx : Option Addr} {n cx : Nat} {x' : Value} (hx : VR R (.slice bx n cx) x') {old : List Value} {h1 : Hp}
    (ho : appOld h e i.size bx n cx = some (old, h1)) :
    ∃ old', A2 (SR R) old old' ∧ w.ownsRow 0 e i.size x' n old' ∧ (∀ k, x'.ownBlock = some k → ¬ Φ k) ∧ HR sz w0 Φ R w h1 ∧ (∀ k c, h1.heap.get k = some c → some (R.ρ k) ≠ x'.ownBlock) := by
  unfold appOld at ho
  cases bx with
  | none =>
    dsimp only at ho
    cases hn : Nat.beq n 0 && Nat.beq cx 0 with
    | false => rw [hn] at ho; cases ho
    | true =>
      rw [hn] at ho
      cases ho
      rw [Bool.and_eq_true] at hn
      have e1 := Nat.eq_of_beq_eq_true hn.1
      have e2 := Nat.eq_of_beq_eq_true hn.2
      subst e1
      subst e2
      have e3 : x' = .slice none 0 0 := by
        rcases hx with (hx | ⟨_, _, hx, _⟩) | ⟨_, _, hx, _⟩
        · cases hx; rfl
        · cases hx
        · cases hx
      subst e3
      exact ⟨[], ⟨rfl, fun i v hv => by cases hv⟩, ⟨by simp, .inl ⟨rfl, rfl⟩⟩, fun k hk => (by cases hk), hh, fun k c _ hk => by cases hk⟩
  | some a =>
    dsimp only at ho
    cases hn : Nat.beq a.off 0 with
    | false => rw [hn] at ho; cases ho
    | true =>
      rw [hn] at ho
      dsimp only [cond_true] at ho
      have e2 := Nat.eq_of_beq_eq_true hn
      split at ho
      case h_2 => cases ho
      case h_1 b hb =>
        cases hg : Nat.beq b.elem e && Nat.beq (b.cells.take (n * i.size)).length (n * i.size) && (bif Nat.beq cx many then b.grow else (!b.grow && Nat.beq b.cells.length (cx * i.size) && Nat.ble n cx && Nat.ble cx 1000000)) with
        | false => rw [hg] at ho; cases ho
        | true =>
          rw [hg] at ho
          cases ho
          rw [Bool.and_eq_true, Bool.and_eq_true] at hg
          obtain ⟨⟨hg2, hg3⟩, hg1⟩ := hg
          have hel := Nat.eq_of_beq_eq_true hg2
          have hlen := Nat.eq_of_beq_eq_true hg3
          obtain ⟨hN, hlo, cur, hc, hcs, hng, hgr⟩ := hh.row hb
          have hm : many = 36893488147419103232 := rfl
          have hsl : ∃ c', x' = .slice (some (ra R a)) n c' ∧ n ≤ c' ∧ c' ≤ maxLen ∧ cur.size = c' * i.size := by
            rcases hx with (hx | ⟨_, _, hx, _⟩) | ⟨_, _, hx, _⟩
            · cases hx with
              | lit _ hl => cases hl
              | sl _ _ _ h0 hbN hcm =>
                have hne : Nat.beq cx many = false := by rw [Tr.beq_iff]; exact decide_eq_false (by omega)
                rw [hne] at hg1
                simp only [cond_false, Bool.and_eq_true, Nat.ble_eq, Bool.not_eq_true'] at hg1
                obtain ⟨⟨⟨k1, k2⟩, k3⟩, k4⟩ := hg1
                exact ⟨cx, rfl, k3, by unfold maxLen; omega, by rw [hng k1]; exact Nat.eq_of_beq_eq_true k2⟩
              | slg _ _ c' h0 hbN hbm hnc hk =>
                have hne : Nat.beq many many = true := by rw [Tr.beq_iff]; exact decide_eq_true rfl
                rw [hne] at hg1
                obtain ⟨hk1, hk2⟩ := hgr hg1
                have := hk e2
                subst this
                exact ⟨_, rfl, hnc, hk1, by rw [hk2, hel, hS e i hi]⟩
              | sle a' c' => exact absurd (hh.small_of hN) (Nat.lt_irrefl _)
            · cases hx
            · cases hx
          obtain ⟨c', rfl, hnc, hk1, hk2⟩ := hsl
          have hcl : n * i.size ≤ cur.size := by rw [hk2]; exact Nat.mul_le_mul_right _ hnc
          refine ⟨cur.toList.take (n * i.size), ⟨by simp at hlen ⊢; omega, fun j v hv => ?_⟩, ⟨by simp; omega, .inr ⟨R.ρ a.block, c', cur, ?_, Nat.zero_le _, by rw [← hel]; exact hc, hnc, hk1, hk2, rfl⟩⟩, fun k hk => (by cases hk; rw [show (ra R a).block = R.ρ a.block from rb_of hh hN]; exact hlo), hh.del a.block, fun k c hk hkb => ?_⟩
          · have hj : j < n * i.size := by have := (List.getElem?_eq_some_iff.1 hv).1; omega
            rw [List.getElem?_take, if_pos hj] at hv ⊢
            rw [Array.getElem?_toList]
            exact hcs j v hv
          · unfold ra
            rw [e2, rb_of hh hN]
          · dsimp only at hk
            rw [Tr.get_del] at hk
            by_cases e : k = a.block
            · rw [if_pos e] at hk; cases hk
            · rw [if_neg e] at hk
              exact e (hh.inj k a.block c _ hk hb ((Option.some.inj hkb).trans (rb_of hh hN)))
theorem o_append_is (T : TyOK P ty) (hS : SzOK ty sz) (hh : HR sz w0 Φ R w h) {t u : Nat} {x y x' y' v : Value} {h' : Hp} (hx : VR R x x') (hy : VR R y y') (ho : o_append ty h t x y = some (v, h')) :
    Ok P sz w0 Φ R w h' v (Builtin.append_ #[t, t] u #[x', y']) := by
  unfold o_append at ho
  split at ho
  · rename_i e bx n cx by_ m cy hd
    have hu := desc_is T hd
    cases hm : Nat.beq m 0 with
    | true => 
      rw [hm] at ho
      dsimp only [cond_true] at ho
      cases hc : Nat.ble n cx && (ty.get e).isSome with
      | false => rw [hc] at ho; cases ho
      | true =>
        rw [hc] at ho
        cases ho
        rw [Bool.and_eq_true] at hc
        have hle := Nat.le_of_ble_eq_true hc.1
        obtain ⟨i, hi⟩ := Option.isSome_iff_exists.1 hc.2
        have hinf := T.ty e i hi
        have hm0 := Nat.eq_of_beq_eq_true hm
        subst hm0
        obtain ⟨b2, c2, rfl, _⟩ := hy.slice
        have hx2 : ∃ b1 c1, x' = .slice b1 n c1 ∧ n ≤ c1 := by
          rcases hx with (hx | ⟨_, _, hx, _⟩) | ⟨_, _, hx, _⟩
          · cases hx with
            | lit _ hl => exact ⟨_, _, rfl, hle⟩
            | sl _ _ _ _ _ _ => exact ⟨_, _, rfl, hle⟩
            | slg _ _ c' _ _ _ hnc _ => exact ⟨_, _, rfl, hnc⟩
            | sle a' c' => exact ⟨_, _, rfl, Nat.zero_le _⟩
          · cases hx
          · cases hx
        obtain ⟨b1, c1, rfl, hle1⟩ := hx2
        refine .same hh hx ?_
        cases b1 <;> cases b2 <;> simp [Builtin.append_, run_underlying hu, sizeOf, typeInfo, hinf, Builtin.lenOf, Builtin.firstCells, loadCells, loadCellsFrom, storeCells, hle1]
    | false =>
      rw [hm] at ho
      dsimp only [cond_false] at ho
      have hm0 : m ≠ 0 := Nat.ne_of_beq_eq_false hm
      split at ho
      · rename_i i a2 hi
        have hinf := T.ty e i hi
        split at ho
        · rename_i z hz
          cases hc : Nat.beq z.cells.toList.length i.size && Nat.blt 0 i.size && Nat.ble (n + m) 1000000 && Nat.ble (((n + m) + (n + m) / 4 + 192) * i.bytes) 281474976710656 with
          | false => rw [hc] at ho; cases ho
          | true =>
            rw [hc] at ho
            dsimp only [cond_true] at ho
            simp only [Bool.and_eq_true, Nat.ble_eq, Nat.blt_eq] at hc
            obtain ⟨⟨⟨hc1, hc2⟩, hc3⟩, hc4⟩ := hc
            have hzs : z.cells.size = i.size := by have := Nat.eq_of_beq_eq_true hc1; simpa using this
            cases hl : ldA h a2 (m * i.size) with
            | none => rw [hl] at ho; cases ho
            | some news =>
              rw [hl] at ho
              dsimp only at ho
              cases hold : appOld h e i.size bx n cx with
              | none => rw [hold] at ho; cases ho
              | some p =>
                obtain ⟨old, h1⟩ := p
                rw [hold] at ho
                dsimp only at ho
                cases hnew : newA h1 (.row ⟨old ++ news, e, true⟩) with
                | none => rw [hnew] at ho; cases ho
                | some q =>
                  obtain ⟨k, h2⟩ := q
                  rw [hnew] at ho
                  cases ho
                  obtain ⟨b', c', rfl, hb⟩ := hy.slice
                  obtain ⟨rfl, hsp, hbN⟩ := hb a2 rfl hm0
                  obtain ⟨news', hn1, hn2, hn3⟩ := ldA_is hh hsp hl
                  obtain ⟨old', ho1, hown, hfr, hh1, hne⟩ := appOld_is hS hh hi hx hold
                  have hml : n + m ≤ maxLen := by unfold maxLen; omega
                  obtain ⟨v', w', hr, hown', hgr, hnil⟩ := run_append_own_wide (P := P) w 0 t u e i z i.size i.bytes hu hinf hz rfl rfl hzs hc2 x' n old' hown (ra R a2) m c' news' hn2 hn3 hn1.one hml hc4 (Nat.zero_le _)
                  have hw := app_where (P := P) w 0 t u e i z hu hinf hz x' n old' hown (ra R a2) m c' news' hn2 hn3 hn1.one hml hc4 (by omega) hr
                  rcases hown'.2 with ⟨rfl, h0⟩ | ⟨g, cap, cur, rfl, hbg, hg, hnc, hcm, hcs, htake⟩
                  · omega
                  have hgw : ∀ k c, h1.heap.get k = some c → R.ρ k ≠ g := fun k c hk e => by
                    rcases hw with hw | hw
                    · exact hne k c hk (by rw [e, ← hw]; rfl)
                    · have := hh1.old hk
                      have e2 : g = w.heap.size := Option.some.inj hw
                      omega
                  have hA : A2 (SR R) (old ++ news) (old' ++ news') := ⟨by simp [ho1.1, hn1.1], fun j v hv => by
                    rw [List.getElem?_append] at hv ⊢
                    rw [← ho1.1]
                    by_cases c : j < old.length
                    · rw [if_pos c] at hv ⊢; exact ho1.2 j v hv
                    · rw [if_neg c] at hv ⊢; exact hn1.2 _ v hv⟩
                  have hxe := hh1.add_ext g cap
                  obtain ⟨rfl, hR⟩ := hh1.new (w' := w') (g := g) (k := cap) (b := ⟨old ++ news, e, true⟩) (cur := cur) (hh1.stayGrown hgr hfr) (fun hk => by
                      rcases hw with hw | hw
                      · exact hfr g (by rw [← hw]; rfl) hk
                      · have e2 : g = w.heap.size := Option.some.inj hw
                        exact hh.young (e2 ▸ hk)) hgw hg
                    (fun k c hk => hgr.block _ (hh1.old hk) (hne k c hk))
                    (fun j v hv => by
                      obtain ⟨v', h3, h4⟩ := hA.2 j v hv
                      refine ⟨v', ?_, h4⟩
                      rw [← htake, List.getElem?_take] at h3
                      split at h3
                      · rwa [Array.getElem?_toList] at h3
                      · cases h3) (fun hx => by cases hx) (fun _ => ⟨hcm, by rw [hcs, hS e i hi]⟩) hnew
                  have eρ : (R.add g cap).ρ R.N = g := if_pos rfl
                  have eκ : (R.add g cap).κ R.N = cap := if_pos rfl
                  refine ⟨R.add g cap, w', _, hxe, hR, ?_, hr⟩
                  have hDN : (R.add g cap).D R.N := .inr rfl
                  have hs := SR.slg (R := R.add g cap) ⟨R.N, 0, none⟩ (n + m) cap rfl hDN (hR.small_of hDN) hnc (fun _ => eκ.symm)
                  unfold ra at hs
                  dsimp only at hs
                  rw [rb_of hR hDN, eρ] at hs
                  exact .inl (.inl hs)
        · cases ho
      · cases ho
  · cases ho
/-- an append that must lay a new list -/
def o_appendG (ty : Ty) (h : Hp) (t : Nat) (x y : Value) : Option (Value × Hp) :=
  match desc ty t, x, y with
  | some (.slice e), .slice (some a1) n c, .slice (some a2) m _ => match ty.get e with
    | some i => match i.zero with
      | some z => bif Nat.blt c many && Nat.blt c (n + m) && Nat.ble n c && Nat.blt 0 m && Nat.beq z.cells.toList.length i.size && Nat.ble (n + m) 1000000 && Nat.ble (((n + m) + (n + m) / 4 + 192) * i.bytes) 281474976710656 then
          match ldA h a1 (n * i.size), ldA h a2 (m * i.size) with
          | some old, some news => match newA h (.row ⟨old ++ news, e, true⟩) with
            | some (k, h2) => some (.slice (some ⟨k, 0, none⟩) (n + m) many, h2)
            | none => none
          | _, _ => none
        else none
      | none => none
    | none => none
  | _, _, _ => none
theorem o_appendG_is (T : TyOK P ty) (hS : SzOK ty sz) (hh : HR sz w0 Φ R w h) {t u : Nat} {x y x' y' v : Value} {h' : Hp} (hx : VR R x x') (hy : VR R y y') (ho : o_appendG ty h t x y = some (v, h')) :
    Ok P sz w0 Φ R w h' v (Builtin.append_ #[t, t] u #[x', y']) := by
  unfold o_appendG at ho
  split at ho
  · rename_i e a1 n c a2 m cy hd
    have hu := desc_is T hd
    split at ho
    · rename_i i hi
      have hinf := T.ty e i hi
      split at ho
      · rename_i z hz
        cases hc : Nat.blt c many && Nat.blt c (n + m) && Nat.ble n c && Nat.blt 0 m && Nat.beq z.cells.toList.length i.size && Nat.ble (n + m) 1000000 && Nat.ble (((n + m) + (n + m) / 4 + 192) * i.bytes) 281474976710656 with
        | false => rw [hc] at ho; cases ho
        | true =>
          rw [hc] at ho
          dsimp only [cond_true] at ho
          simp only [Bool.and_eq_true, Nat.ble_eq, Nat.blt_eq] at hc
          obtain ⟨⟨⟨⟨⟨⟨hc1, hc2⟩, hc3⟩, hc4⟩, hc5⟩, hc6⟩, hc7⟩ := hc
          have hzs : z.cells.size = i.size := by have := Nat.eq_of_beq_eq_true hc5; simpa using this
          split at ho
          · rename_i old news hl1 hl2
            cases hnew : newA h (.row ⟨old ++ news, e, true⟩) with
            | none => rw [hnew] at ho; cases ho
            | some q =>
              obtain ⟨k, h2⟩ := q
              rw [hnew] at ho
              cases ho
              have hx2 : x' = .slice (some (ra R a1)) n c ∧ a1.spot = none := by
                rcases hx with (hx | ⟨_, _, hx, _⟩) | ⟨_, _, hx, _⟩
                · cases hx with
                  | lit _ hl => cases hl
                  | sl _ _ _ h0 _ _ => exact ⟨rfl, h0⟩
                  | slg _ _ _ _ _ _ _ _ => exact absurd hc1 (Nat.lt_irrefl _)
                  | sle _ _ => exact absurd hc1 (Nat.lt_irrefl _)
                · cases hx
                · cases hx
              obtain ⟨rfl, hsp1⟩ := hx2
              obtain ⟨b', c', rfl, hb⟩ := hy.slice
              obtain ⟨rfl, hsp, hbN⟩ := hb a2 rfl (by omega)
              obtain ⟨old', ho1, ho2, ho3⟩ := ldA_is hh hsp1 hl1
              obtain ⟨news', hn1, hn2, hn3⟩ := ldA_is hh hsp hl2
              have hml : n + m ≤ maxLen := by unfold maxLen; omega
              have hr := run_append_grow (P := P) w t u e i z hu hinf hz (ra R a1) n c old' ho2 ho3 (ra R a2) m c' news' hn2 hn3 hc2 (by omega) (growslice_fits_wide hc2 hc7)
              have hge := grownCap_ge w (n + m) c e
              have hcm : grownCap w (n + m) c e ≤ maxLen := grownCap_le_maxLen w (n + m) c e hml
              generalize grownCap w (n + m) c e = cap at hr hge hcm
              have hgr : w.grownBy (w.drew.alloc (.cells (old'.toArray ++ news'.toArray ++ Builtin.zeroCells z.cells (cap - (n + m))) e)) none := ⟨rfl, rfl, rfl, by simp, fun k hk _ => heap_alloc_old w.drew _ hk⟩
              have hA : A2 (SR R) (old ++ news) (old' ++ news') := ⟨by simp [ho1.1, hn1.1], fun j v hv => by
                rw [List.getElem?_append] at hv ⊢
                rw [← ho1.1]
                by_cases c : j < old.length
                · rw [if_pos c] at hv ⊢; exact ho1.2 j v hv
                · rw [if_neg c] at hv ⊢; exact hn1.2 _ v hv⟩
              have hxe := hh.add_ext w.heap.size cap
              obtain ⟨rfl, hR⟩ := hh.new (g := w.heap.size) (k := cap) (b := ⟨old ++ news, e, true⟩) (cur := old'.toArray ++ news'.toArray ++ Builtin.zeroCells z.cells (cap - (n + m))) (hh.stayGrown hgr (fun k hk => by cases hk)) (fun hk => hh.young hk)
                (fun k c hk => by have := hh.old hk; omega) (heap_alloc_new w.drew _)
                (fun k c hk => hgr.block _ (hh.old hk) (fun e => by cases e))
                (fun j v hv => by
                  obtain ⟨v', h3, h4⟩ := hA.2 j v hv
                  refine ⟨v', ?_, h4⟩
                  have hj := (List.getElem?_eq_some_iff.1 h3).1
                  rw [← Array.getElem?_toList]
                  simp only [Array.toList_append]
                  rw [List.getElem?_append_left (by simpa using hj)]
                  simpa using h3) (fun hx => by cases hx) (fun _ => ⟨hcm, by
                    rw [hS e i hi]
                    simp only [Array.size_append, List.size_toArray, size_zeroCells, hzs, ho2, hn2, ← Nat.add_mul]
                    congr 1
                    omega⟩) hnew
              have eρ : (R.add w.heap.size cap).ρ R.N = w.heap.size := if_pos rfl
              have eκ : (R.add w.heap.size cap).κ R.N = cap := if_pos rfl
              refine ⟨R.add w.heap.size cap, _, _, hxe, hR, ?_, hr⟩
              have hDN : (R.add w.heap.size cap).D R.N := .inr rfl
              have hs := SR.slg (R := R.add w.heap.size cap) ⟨R.N, 0, none⟩ (n + m) cap rfl hDN (hR.small_of hDN) hge (fun _ => eκ.symm)
              unfold ra at hs
              dsimp only at hs
              rw [rb_of hR hDN, eρ] at hs
              exact .inl (.inl hs)
          · cases ho
      · cases ho
    · cases ho
  · cases ho
def o_appendX (ty : Ty) (h : Hp) (t : Nat) (x y : Value) : Option (Value × Hp) := match o_append ty h t x y with
  | some r => some r
  | none => o_appendG ty h t x y
theorem o_appendX_is (T : TyOK P ty) (hS : SzOK ty sz) (hh : HR sz w0 Φ R w h) {t u : Nat} {x y x' y' v : Value} {h' : Hp} (hx : VR R x x') (hy : VR R y y') (ho : o_appendX ty h t x y = some (v, h')) :
    Ok P sz w0 Φ R w h' v (Builtin.append_ #[t, t] u #[x', y']) := by
  unfold o_appendX at ho
  split at ho
  · rename_i r hr
    cases ho
    exact o_append_is T hS hh hx hy hr
  · exact o_appendG_is T hS hh hx hy ho
end
end Go.Ev
/- The evaluator's slices of slices and texts; structs built. -/
noncomputable section
namespace Go.Ev
open Go.RowKit
set_option linter.unusedVariables false
set_option linter.unusedSimpArgs false
def IsB (o : Option Value) (d n : Nat) : Prop := (o = none ∧ n = d) ∨ ∃ k, o = some (.int k (n : Int))
section
variable {P : Program} {ty : Ty} {sz : Nat → Nat} {w0 : World} {Φ : Fx} {R : Rn} {w : World} {h : Hp}
theorem bounds_run (s : Bool) {len cap : Nat} {lo hi : Option Value} {l u : Nat} (hlo : IsB lo 0 l) (hhi : IsB hi len u) (h1 : l ≤ u) (h2 : u ≤ cap) : (Instr.sliceBounds s len cap lo hi none).run P w = .ok (l, u, cap) w := by
  rcases hlo with ⟨rfl, rfl⟩ | ⟨k, rfl⟩ <;> rcases hhi with ⟨rfl, rfl⟩ | ⟨k', rfl⟩ <;> simp [Instr.sliceBounds, Instr.sliceBound, asIntOf, h1, h2]
def bnd (o : Option Value) (d : Nat) : Option Nat := match o with
  | none => some d
  | some (.int _ (.ofNat n)) => some n
  | _ => none
def OV (R : Rn) (o o' : Option Value) : Prop := (o = none ∧ o' = none) ∨ ∃ v v', o = some v ∧ o' = some v' ∧ VR R v v'
theorem bnd_is {o o' : Option Value} (ho : OV R o o') {d n : Nat} (hb : bnd o d = some n) : IsB o' d n := by
  rcases ho with ⟨rfl, rfl⟩ | ⟨v, v', rfl, rfl, hv⟩
  · cases hb; exact .inl ⟨rfl, rfl⟩
  · unfold bnd at hb
    split at hb
    · rename_i h; cases h
    · rename_i k m h
      cases h
      cases hb
      exact .inr ⟨k, by rw [hv.int]; rfl⟩
    · cases hb
def o_slice (ty : Ty) (t : Nat) (x : Value) (lo hi : Option Value) : Option Value :=
  match x with
  | .string s => match desc ty t, bnd lo 0, bnd hi s.data.toList.length with
    | some .string, some l, some u => bif Nat.ble l u && Nat.ble u s.data.toList.length then some (.string ⟨((s.data.toList.take u).drop l).toArray⟩) else none
    | _, _, _ => none
  | .slice (some a) n c => match desc ty t, bnd lo 0, bnd hi n with
    | some (.slice e), some l, some u => match size ty e with
      | some s =>
        bif Nat.ble l u && Nat.ble u n && Nat.ble n c && Nat.blt 0 s then
          bif Nat.beq c many then
            bif Nat.beq l u then (bif Nat.beq l 0 then some (.slice (some a) 0 many) else some (.slice (some ⟨many, 0, none⟩) 0 many))
            else some (.slice (some ⟨a.block, a.off + l * s, none⟩) (u - l) many)
          else some (.slice (some (bif Nat.beq c l then a else ⟨a.block, a.off + l * s, none⟩)) (u - l) (c - l))
        else none
      | none => none
    | _, _, _ => none
  | .slice none 0 0 => match desc ty t, bnd lo 0, bnd hi 0 with
    | some (.slice e), some 0, some 0 => match size ty e with
      | some s => some x
      | none => none
    | _, _, _ => none
  | _ => none
theorem o_slice_is (T : TyOK P ty) (hh : HR sz w0 Φ R w h) {t : Nat} {x x' v : Value} {lo hi lo' hi' : Option Value} (hx : VR R x x') (hlo : OV R lo lo') (hhi : OV R hi hi') (ho : o_slice ty t x lo hi = some v) :
    Ok0 P R w v (Instr.sliceAt t x' lo' hi' none) := by
  unfold o_slice at ho
  split at ho
  · rename_i s
    rw [hx.str]
    split at ho
    · rename_i l u hd hl hu
      have hdu := desc_is T hd
      cases hc : Nat.ble l u && Nat.ble u s.data.toList.length with
      | false => rw [hc] at ho; cases ho
      | true =>
        rw [hc] at ho
        cases ho
        simp only [Bool.and_eq_true, Nat.ble_eq] at hc
        have hus : u ≤ s.size := hc.2
        refine .same hh (.lit rfl) ?_
        have hb := bounds_run (P := P) (w := w) false (len := s.size) (cap := s.size) (bnd_is hlo hl) (bnd_is hhi hu) hc.1 hus
        simp [Instr.sliceAt, Instr.slice, run_underlying hdu, hb]
        apply ByteArray.ext
        simp [ByteArray.data_extract]
        apply Array.ext'
        simp [List.drop_take]
    · cases ho
  · rename_i a n c
    split at ho
    · rename_i e l u hd hl hu
      have hdu := desc_is T hd
      split at ho
      · rename_i s hz
        cases hc : Nat.ble l u && Nat.ble u n && Nat.ble n c && Nat.blt 0 s with
        | false => rw [hc] at ho; cases ho
        | true =>
          rw [hc] at ho
          dsimp only [cond_true] at ho
          simp only [Bool.and_eq_true, Nat.ble_eq, Nat.blt_eq] at hc
          obtain ⟨⟨⟨hc1, hc2⟩, hc3⟩, hc4⟩ := hc
          have run : ∀ b' c', x' = .slice b' n c' → n ≤ c' → (Instr.sliceAt t x' lo' hi' none).run P w = .ok (.slice (if c' = l then b' else b'.map (·.add (l * s))) (u - l) (c' - l)) w := fun b' c' hb hnc => by
            subst hb
            have hb := bounds_run (P := P) (w := w) true (len := n) (cap := c') (bnd_is hlo hl) (bnd_is hhi hu) hc1 (by omega)
            simp [Instr.sliceAt, Instr.slice, run_underlying hdu, hb, size_is T w hz]
          rcases hx with (hx | ⟨_, _, hx, _⟩) | ⟨_, _, hx, _⟩
          · cases hx with
            | lit _ hl => cases hl
            | sl _ _ _ h0 hbN hcm =>
              have hne : Nat.beq c many = false := by rw [Tr.beq_iff]; exact decide_eq_false (by omega)
              rw [hne] at ho
              cases ho
              refine .same hh ?_ (run _ _ rfl hc3)
              by_cases e : c = l
              · rw [Tr.beq_iff, decide_eq_true e, if_pos e]
                exact .inl (.inl (.sl a _ _ h0 hbN (by omega)))
              · rw [Tr.beq_iff, decide_eq_false e, if_neg e]
                have := SR.sl (R := R) ⟨a.block, a.off + l * s, none⟩ (u - l) (c - l) rfl hbN (by omega)
                rw [← ra_add] at this
                exact .inl (.inl this)
            | slg _ _ c' h0 hbN hbm hnc hk =>
              have hne : Nat.beq many many = true := by rw [Tr.beq_iff]; exact decide_eq_true rfl
              rw [hne] at ho
              dsimp only [cond_true] at ho
              by_cases e : l = u
              · rw [Tr.beq_iff l u, decide_eq_true e] at ho
                dsimp only [cond_true] at ho
                by_cases e0 : l = 0
                · rw [Tr.beq_iff l 0, decide_eq_true e0] at ho
                  cases ho
                  refine .same hh ?_ (run _ _ rfl hnc)
                  subst e0
                  subst e
                  have hb : (if c' = 0 then some (ra R a) else (some (ra R a)).map (·.add (0 * s))) = some (ra R a) := by
                    split
                    · rfl
                    · simp [Addr.add]
                  rw [hb]
                  exact .inl (.inl (.slg a 0 c' h0 hbN hbm (Nat.zero_le _) hk))
                · rw [Tr.beq_iff l 0, decide_eq_false e0] at ho
                  cases ho
                  refine .same hh ?_ (run _ _ rfl hnc)
                  rw [e, Nat.sub_self]
                  exact .inl (.inl (.sle _ _))
              · rw [Tr.beq_iff l u, decide_eq_false e] at ho
                cases ho
                refine .same hh ?_ (run _ _ rfl hnc)
                rw [if_neg (by omega)]
                have := SR.slg (R := R) ⟨a.block, a.off + l * s, none⟩ (u - l) (c' - l) rfl hbN hbm (by omega) (fun h => by
                  dsimp only at h
                  have h1 : a.off = 0 := by omega
                  have h2 : l * s = 0 := by omega
                  have h3 : l = 0 := by
                    rcases Nat.mul_eq_zero.1 h2 with h | h
                    · exact h
                    · omega
                  rw [h3]
                  exact hk h1)
                rw [← ra_add] at this
                exact .inl (.inl this)
            | sle a' c' =>
              have e1 : l = 0 := by omega
              have e2 : u = 0 := by omega
              subst e1
              subst e2
              have hne : Nat.beq many many = true := by rw [Tr.beq_iff]; exact decide_eq_true rfl
              rw [hne] at ho
              cases ho
              exact .same hh (.inl (.inl (.sle _ _))) (run _ _ rfl (Nat.zero_le _))
          · cases hx
          · cases hx
      · cases ho
    · cases ho
  · split at ho
    · rename_i e hd hl hu
      have hdu := desc_is T hd
      split at ho
      · rename_i s hz
        cases ho
        have e3 : x' = .slice none 0 0 := by
          rcases hx with (hx | ⟨_, _, hx, _⟩) | ⟨_, _, hx, _⟩
          · cases hx; rfl
          · cases hx
          · cases hx
        subst e3
        refine .same hh hx ?_
        have hb := bounds_run (P := P) (w := w) true (len := 0) (cap := 0) (bnd_is hlo hl) (bnd_is hhi hu) (Nat.le_refl _) (Nat.le_refl _)
        simp [Instr.sliceAt, Instr.slice, run_underlying hdu, hb, size_is T w hz]
      · cases ho
    · cases ho
  · cases ho
/-- a slice of an array that is pointed to -/
def o_sliceP (ty : Ty) (t : Nat) (a : Addr) (lo hi : Option Value) : Option Value :=
  match desc ty t with
  | some (.pointer r) => match desc ty r with
    | some (.array n e) => match bnd lo 0, bnd hi n, size ty e with
      | some l, some u, some s => bif Nat.ble l u && Nat.ble u n && Nat.blt n many then some (.slice (some (bif Nat.beq n l then a else ⟨a.block, a.off + l * s, none⟩)) (u - l) (n - l)) else none
      | _, _, _ => none
    | _ => none
  | _ => none
def o_sliceX (ty : Ty) (t : Nat) (x : Value) (lo hi : Option Value) : Option Value :=
  match x with
  | .pointer (some a) => o_sliceP ty t a lo hi
  | _ => o_slice ty t x lo hi
theorem sl_at {a : Addr} (h0 : a.spot = none) (hN : Nm R a.block) (l m s n : Nat) (hm : m - l < many) : VR R (.slice (some (bif Nat.beq m l then a else ⟨a.block, a.off + l * s, none⟩)) n (m - l)) (.slice (some (if m = l then ra R a else (ra R a).add (l * s))) n (m - l)) := by
  by_cases e : m = l
  · rw [Tr.beq_iff, decide_eq_true e, if_pos e]
    exact .inl (.inl (.sl a _ _ h0 hN hm))
  · rw [Tr.beq_iff, decide_eq_false e, if_neg e]
    have := SR.sl (R := R) ⟨a.block, a.off + l * s, none⟩ n (m - l) rfl hN hm
    rw [← ra_add] at this
    exact .inl (.inl this)
theorem bounds_run2 {len : Nat} {lo hi : Option Value} {l u : Nat} (hlo : IsB lo 0 l) (hhi : IsB hi len u) (h1 : l ≤ u) (h2 : u ≤ len) : (Instr.sliceBounds false len len lo hi none).run P w = .ok (l, u, len) w := bounds_run false hlo hhi h1 h2
theorem o_sliceX_is (T : TyOK P ty) (hh : HR sz w0 Φ R w h) {t : Nat} {x x' v : Value} {lo hi lo' hi' : Option Value} (hx : VR R x x') (hlo : OV R lo lo') (hhi : OV R hi hi') (ho : o_sliceX ty t x lo hi = some v) :
    Ok0 P R w v (Instr.sliceAt t x' lo' hi' none) := by
  unfold o_sliceX at ho
  split at ho
  · rename_i a
    obtain ⟨rfl, h0, hN⟩ := hx.ptr
    unfold o_sliceP at ho
    split at ho
    · rename_i r hd
      have hdu := desc_is T hd
      split at ho
      · rename_i n e hd2
        have hdu2 := desc_is T hd2
        split at ho
        · rename_i l u s hl hu hz
          cases hc : Nat.ble l u && Nat.ble u n && Nat.blt n many with
          | false => rw [hc] at ho; cases ho
          | true =>
            rw [hc] at ho
            cases ho
            simp only [Bool.and_eq_true, Nat.ble_eq, Nat.blt_eq] at hc
            obtain ⟨⟨hc1, hc2⟩, hc3⟩ := hc
            have hb := bounds_run (P := P) (w := w) false (len := n) (cap := n) (bnd_is hlo hl) (bnd_is hhi hu) hc1 hc2
            refine .same hh (sl_at h0 hN l n s (u - l) (by omega)) ?_
            simp [Instr.sliceAt, Instr.slice, run_underlying hdu, run_underlying hdu2, asAddr, hb, size_is T w hz]
        · cases ho
      · cases ho
    · cases ho
  · exact o_slice_is T hh hx hlo hhi ho
/-- a slice whose room is told -/
def o_slice3 (ty : Ty) (t : Nat) (x : Value) (lo : Option Value) (hi mx : Value) : Option Value :=
  match desc ty t, bnd lo 0, bnd (some hi) 0, bnd (some mx) 0 with
  | some (.slice e), some l, some u, some m => match size ty e with
    | some s => bif Nat.ble l u && Nat.ble u m then match x with
        | .slice (some a) n c => bif Nat.ble n c && Nat.blt 0 n then (bif Nat.ble m n && Nat.blt m many then some (.slice (some (bif Nat.beq m l then a else ⟨a.block, a.off + l * s, none⟩)) (u - l) (m - l)) else none) else none
        | _ => none
      else none
    | none => none
  | _, _, _, _ => none
theorem bounds_run3 {len cap : Nat} {lo : Option Value} {hi mx : Value} {l u m : Nat} (hlo : IsB lo 0 l) (hhi : IsB (some hi) 0 u) (hmx : IsB (some mx) 0 m) (h1 : l ≤ u) (h2 : u ≤ m) (h3 : m ≤ cap) : (Instr.sliceBounds true len cap lo (some hi) (some mx)).run P w = .ok (l, u, m) w := by
  rcases hhi with ⟨h, _⟩ | ⟨k, h⟩
  · cases h
  · cases h
    rcases hmx with ⟨h, _⟩ | ⟨k', h⟩
    · cases h
    · cases h
      rcases hlo with ⟨rfl, rfl⟩ | ⟨k'', rfl⟩ <;> simp [Instr.sliceBounds, Instr.sliceBound, asIntOf, h1, h2, h3]
theorem o_slice3_is (T : TyOK P ty) (hh : HR sz w0 Φ R w h) {t : Nat} {x x' v hi hi' mx mx' : Value} {lo lo' : Option Value} (hx : VR R x x') (hlo : OV R lo lo') (hhi : VR R hi hi') (hmx : VR R mx mx') (ho : o_slice3 ty t x lo hi mx = some v) :
    Ok0 P R w v (Instr.sliceAt t x' lo' (some hi') (some mx')) := by
  unfold o_slice3 at ho
  split at ho
  · rename_i e l u m hd hl hu hm
    have hdu := desc_is T hd
    split at ho
    · rename_i s hz
      cases hc : Nat.ble l u && Nat.ble u m with
      | false => rw [hc] at ho; cases ho
      | true =>
        rw [hc] at ho
        dsimp only [cond_true] at ho
        simp only [Bool.and_eq_true, Nat.ble_eq] at hc
        split at ho
        · rename_i a n c
          cases hc2 : Nat.ble n c && Nat.blt 0 n with
          | false => rw [hc2] at ho; cases ho
          | true =>
            rw [hc2] at ho
            dsimp only [cond_true] at ho
            simp only [Bool.and_eq_true, Nat.ble_eq, Nat.blt_eq] at hc2
            cases hc3 : Nat.ble m n && Nat.blt m many with
            | false => rw [hc3] at ho; cases ho
            | true =>
              rw [hc3] at ho
              cases ho
              simp only [Bool.and_eq_true, Nat.ble_eq, Nat.blt_eq] at hc3
              have hx2 : ∃ c', x' = .slice (some (ra R a)) n c' ∧ n ≤ c' ∧ a.spot = none ∧ Nm R a.block := by
                rcases hx with (hx | ⟨_, _, hx, _⟩) | ⟨_, _, hx, _⟩
                · cases hx with
                  | lit _ hl => cases hl
                  | sl _ _ _ h0 hbN _ => exact ⟨_, rfl, hc2.1, h0, hbN⟩
                  | slg _ _ c' h0 hbN _ hnc _ => exact ⟨c', rfl, hnc, h0, .inl hbN⟩
                  | sle _ _ => exact absurd hc2.2 (Nat.lt_irrefl _)
                · cases hx
                · cases hx
              obtain ⟨c', rfl, hnc, h0, hN⟩ := hx2
              have hb := bounds_run3 (P := P) (w := w) (len := n) (cap := c') (bnd_is hlo hl) (bnd_is (.inr ⟨_, _, rfl, rfl, hhi⟩) hu) (bnd_is (.inr ⟨_, _, rfl, rfl, hmx⟩) hm) hc.1 hc.2 (by omega)
              refine .same hh (sl_at h0 hN l m s (u - l) (by omega)) ?_
              simp [Instr.sliceAt, Instr.slice, run_underlying hdu, hb, size_is T w hz]
              split <;> rfl
        · cases ho
    · cases ho
  · cases ho
end
end Go.Ev
/- The evaluator's structs and lists built of parts. -/
noncomputable section
namespace Go.Ev
open Go.RowKit
set_option linter.unusedVariables false
set_option linter.unusedSimpArgs false
def fillA (place : Nat → Option (Nat × Nat)) : List Value → List (Nat × Value) → Option (List Value)
  | cs, [] => some cs
  | cs, (i, v) :: r => match place i, cellsOf v with
    | some (off, n), some l => bif Nat.beq l.length n && Nat.ble (off + n) cs.length then fillA place (cs.take off ++ l ++ cs.drop (off + n)) r else none
    | _, _ => none
inductive PR (R : Rn) : List (Nat × Value) → List (Nat × Value) → Prop
  | nil : PR R [] []
  | cons (i : Nat) (v v' : Value) (l l' : List (Nat × Value)) : VR R v v' → PR R l l' → PR R ((i, v) :: l) ((i, v') :: l')
theorem fold_set (off : Nat) : ∀ (l : List Value) (k : Nat) (arr : Array Value), ((l.zipIdx k).foldl (fun cs c => cs.setIfInBounds (off + c.2) c.1) arr).size = arr.size ∧
    ∀ i, ((l.zipIdx k).foldl (fun cs c => cs.setIfInBounds (off + c.2) c.1) arr)[i]? = if off + k ≤ i ∧ i < off + k + l.length ∧ i < arr.size then l[i - (off + k)]? else arr[i]?
  | [], k, arr => ⟨rfl, fun i => by rw [if_neg (by simp; omega)]; rfl⟩
  | v :: l, k, arr => by
    rw [List.zipIdx_cons, List.foldl_cons]
    obtain ⟨h1, h2⟩ := fold_set off l (k + 1) (arr.setIfInBounds (off + k) v)
    refine ⟨by rw [h1]; simp, fun i => ?_⟩
    rw [h2]
    simp only [Array.size_setIfInBounds, List.length_cons]
    by_cases c : off + (k + 1) ≤ i ∧ i < off + (k + 1) + l.length ∧ i < arr.size
    · rw [if_pos c, if_pos (by omega), show i - (off + k) = (i - (off + (k + 1))) + 1 by omega]
      rfl
    · rw [if_neg c]
      by_cases e : i = off + k
      · subst e
        by_cases hs : off + k < arr.size
        · rw [if_pos (by omega), Array.getElem?_setIfInBounds_self_of_lt hs, Nat.sub_self]
          rfl
        · rw [if_neg (by omega), Array.getElem?_eq_none (by simp; omega), Array.getElem?_eq_none (by omega)]
      · rw [Array.getElem?_setIfInBounds_ne (fun h => e h.symm), if_neg (by omega)]
section
variable {P : Program} {ty : Ty} {sz : Nat → Nat} {w0 : World} {Φ : Fx} {R : Rn} {w : World} {h : Hp}
theorem fill_is (place : Nat → Option (Nat × Nat)) {ps ps' : List (Nat × Value)} (hp : PR R ps ps') : ∀ (cs : List Value) (cs' : Array Value) (r : List Value), A2 (SR R) cs cs'.toList → fillA place cs ps = some r →
    ∃ r', Instr.fill place cs' ps' = some r' ∧ A2 (SR R) r r'.toList := by
  induction hp with
  | nil => intro cs cs' r hc h; cases h; exact ⟨cs', rfl, hc⟩
  | cons i v v' l l' hv _ ih =>
    intro cs cs' r hc h
    unfold fillA at h
    split at h
    · rename_i off n lv hpl hcl
      cases hb : Nat.beq lv.length n && Nat.ble (off + n) cs.length with
      | false => rw [hb] at h; cases h
      | true =>
        rw [hb] at h
        dsimp only [cond_true] at h
        rw [Bool.and_eq_true, Nat.ble_eq] at hb
        have hln := Nat.eq_of_beq_eq_true hb.1
        have hle := hb.2
        have hv' := cellsOf_is hv hcl
        have hvs : v'.cells.size = n := by have := hv'.1; simp at this; omega
        have hcs : cs.length = cs'.size := by have := hc.1; simpa using this
        unfold Instr.fill
        rw [hpl]
        dsimp only
        rw [if_neg (by simp [hvs]; omega)]
        refine ih _ _ r ?_ h
        have hfold : (v'.cells.zipIdx.foldl (fun cs (x : Value × Nat) => match x with | (c, j) => cs.setIfInBounds (off + j) c) cs') = (v'.cells.toList.zipIdx 0).foldl (fun cs c => cs.setIfInBounds (off + c.2) c.1) cs' := by
          rw [← Array.foldl_toList, Array.toList_zipIdx]
        rw [hfold]
        obtain ⟨h1, h2⟩ := fold_set off v'.cells.toList 0 cs'
        refine ⟨by simp [h1, hcs]; omega, fun j x hx => ?_⟩
        rw [Array.getElem?_toList, h2]
        simp only [List.getElem?_append, List.length_append, List.length_take] at hx
        rw [show min off cs.length = off by omega] at hx
        by_cases c1 : j < off
        · rw [if_pos (by omega), if_pos c1, List.getElem?_take, if_pos c1] at hx
          rw [if_neg (by omega), ← Array.getElem?_toList]
          exact hc.2 j x hx
        · by_cases c2 : j < off + n
          · rw [if_pos (by omega), if_neg c1] at hx
            have hsz : v'.cells.toList.length = n := by simpa using hvs
            rw [if_pos (by omega), Nat.add_zero]
            exact hv'.2 _ x hx
          · rw [if_neg (by omega), List.getElem?_drop, show off + n + (j - (off + lv.length)) = j by omega] at hx
            have hsz : v'.cells.toList.length = n := by simpa using hvs
            rw [if_neg (by omega), ← Array.getElem?_toList]
            exact hc.2 j x hx
    · cases h
def placesL (ty : Ty) : List Field → Option (List (Nat × Nat))
  | [] => some []
  | f :: r => match size ty f.type, placesL ty r with
    | some n, some l => some ((f.offset, n) :: l)
    | _, _ => none
theorem size_info (T : TyOK P ty) {t n : Nat} (h : size ty t = some n) : ∃ i, P.info? t = some i ∧ i.size = n := by
  unfold size at h
  cases hi : ty.get t with
  | none => rw [hi] at h; cases h
  | some i => rw [hi] at h; cases h; exact ⟨i, T.ty t i hi, rfl⟩
theorem placesL_is (T : TyOK P ty) : ∀ (fs : List Field) (l : List (Nat × Nat)), placesL ty fs = some l → fs.mapM (fun f => (P.info? f.type).map fun i => (f.offset, i.size)) = some l
  | [], l, h => by cases h; rfl
  | f :: r, l, h => by
    unfold placesL at h
    split at h
    · rename_i n l' hn hl
      cases h
      obtain ⟨i, h1, h2⟩ := size_info T hn
      simp [List.mapM_cons, h1, h2, placesL_is T r l' hl]
    · cases h
theorem zero_info (T : TyOK P ty) {t : Nat} {z : Value} (h : zero ty t = some z) : ∃ i, P.info? t = some i ∧ i.zero = some z := by
  unfold zero at h
  cases hi : ty.get t with
  | none => rw [hi] at h; cases h
  | some i => rw [hi] at h; exact ⟨i, T.ty t i hi, h⟩
def o_build (ty : Ty) (t : Nat) (ps : List (Nat × Value)) : Option Value :=
  match desc ty t, zero ty t with
  | some (.struct fs), some z => match placesL ty fs.toList, cellsOf z with
    | some pl, some zc => bif zc.all lit then (match fillA (fun i => pl[i]?) zc ps with
        | some cs => some (.agg cs.toArray)
        | none => none) else none
    | _, _ => none
  | some (.array _ e), some z => match size ty e, cellsOf z with
    | some s, some zc => bif zc.all lit then (match fillA (fun i => some (i * s, s)) zc ps with
        | some cs => some (.agg cs.toArray)
        | none => none) else none
    | _, _ => none
  | _, _ => none
theorem o_build_is (T : TyOK P ty) (hh : HR sz w0 Φ R w h) {t : Nat} {ps : List (Nat × Value)} {ps' : Array (Nat × Value)} (hp : PR R ps ps'.toList) {v : Value} (ho : o_build ty t ps = some v) : Ok0 P R w v (Instr.build t ps') := by
  have fin : ∀ (place : Nat → Option (Nat × Nat)) (z : Value) (zc : List Value), cellsOf z = some zc → (∀ cells, Instr.fill place z.cells ps'.toList = some cells → P.built t ps'.toList = some cells) →
      (bif zc.all lit then (match fillA place zc ps with | some cs => some (Value.agg cs.toArray) | none => none) else none) = some v → Ok0 P R w v (Instr.build t ps') := fun place z zc hzc hbt he => by
    cases hl : zc.all lit with
    | false => rw [hl] at he; cases he
    | true =>
      rw [hl] at he
      dsimp only [cond_true] at he
      cases hf : fillA place zc ps with
      | none => rw [hf] at he; cases he
      | some cs =>
        rw [hf] at he
        cases he
        obtain ⟨r', h1, h2⟩ := fill_is place hp zc z.cells cs (by rw [cellsOf_cells hzc]; exact A2.lits hl) hf
        exact .same hh (.inl (.inr ⟨_, r', rfl, rfl, h2⟩)) (run_build w t ps' r' (hbt r' h1))
  unfold o_build at ho
  split at ho
  · rename_i fs z hd hz
    have hu := desc_is T hd
    obtain ⟨it, hi1, hi2⟩ := zero_info T hz
    split at ho
    · rename_i pl zc hpl hzc
      refine fin _ z zc hzc (fun cells hc => ?_) ho
      unfold Program.built
      rw [hi1, hu]
      dsimp only
      rw [hi2, placesL_is T _ _ hpl]
      dsimp only
      rw [← hc]
      congr 1
      funext i
      simp
    · cases ho
  · rename_i n e z hd hz
    have hu := desc_is T hd
    obtain ⟨it, hi1, hi2⟩ := zero_info T hz
    split at ho
    · rename_i s zc hs hzc
      obtain ⟨ie, he1, he2⟩ := size_info T hs
      refine fin _ z zc hzc (fun cells hc => ?_) ho
      unfold Program.built
      rw [hi1, hu]
      dsimp only
      rw [hi2, he1]
      dsimp only
      rw [he2]
      exact hc
    · cases ho
  · cases ho
/-- so many of one -/
def zeros : Nat → List Value → List Value
  | 0, _ => []
  | n + 1, z => z ++ zeros n z
def o_buildNone (ty : Ty) (h : Hp) (t : Nat) : Option (Value × Hp) :=
  match desc ty t with
  | some (.slice e) => match size ty e, newA h (.row ⟨[], e, false⟩) with
    | some _, some (i, h') => some (.slice (some ⟨i, 0, none⟩) 0 0, h')
    | _, _ => none
  | _ => none
theorem o_buildNone_is (T : TyOK P ty) (hh : HR sz w0 Φ R w h) {t : Nat} {v : Value} {h' : Hp} (ho : o_buildNone ty h t = some (v, h')) : Ok P sz w0 Φ R w h' v (Instr.buildSlice t 0 #[]) := by
  unfold o_buildNone at ho
  split at ho
  · rename_i e hd
    have hu := desc_is T hd
    split at ho
    · rename_i s i h1 hs hn
      cases ho
      obtain ⟨R', h4, h5, h6, h7⟩ := newCell hh (cur := #[]) ⟨rfl, fun i v hv => (by cases hv)⟩ hn
      refine ⟨R', _, .slice (some ⟨w.heap.size, 0, none⟩) 0 0, h4, h5, ?_, ?_⟩
      · exact sl_new h5 h6 h7 0 0 (by unfold many; omega)
      · simp [Instr.buildSlice, run_underlying hu, size_is T w hs, Instr.fill, newRow]
        have e0 : Array.range 0 = #[] := by decide
        rw [e0, Array.map_empty]
    · cases ho
  · cases ho
def o_buildSlice (ty : Ty) (h : Hp) (t len : Nat) (ps : List (Nat × Value)) : Option (Value × Hp) :=
  bif Nat.beq len 0 && ps.isEmpty then o_buildNone ty h t else
  match desc ty t with
  | some (.slice e) => match size ty e, zero ty e with
    | some s, some z => match cellsOf z with
      | some zc => bif zc.all lit && Nat.ble (len * s) 10000 && Nat.blt 0 (len * s) && Nat.beq zc.length s then match fillA (fun i => some (i * s, s)) (zeros len zc) ps with
          | some cs => match newA h (.row ⟨cs, e, false⟩) with
            | some (i, h') => some (.slice (some ⟨i, 0, none⟩) len len, h')
            | none => none
          | none => none
        else none
      | none => none
    | _, _ => none
  | _ => none
theorem zeros_len (z : List Value) : ∀ n, (zeros n z).length = n * z.length
  | 0 => by simp [zeros]
  | n + 1 => by rw [zeros, List.length_append, zeros_len z n, Nat.succ_mul, Nat.add_comm]
theorem zeros_get (z : List Value) (hz : 0 < z.length) : ∀ n i, i < n * z.length → (zeros n z)[i]? = z[i % z.length]?
  | 0, i, h => by simp at h
  | n + 1, i, h => by
    rw [zeros, List.getElem?_append]
    by_cases c : i < z.length
    · rw [if_pos c, Nat.mod_eq_of_lt c]
    · rw [if_neg c, zeros_get z hz n _ (by rw [Nat.succ_mul] at h; omega), ← Nat.mod_eq_sub_mod (by omega)]
theorem o_buildSlice_is (T : TyOK P ty) (hh : HR sz w0 Φ R w h) {t len : Nat} {ps : List (Nat × Value)} {ps' : Array (Nat × Value)} (hp : PR R ps ps'.toList) {v : Value} {h' : Hp} (ho : o_buildSlice ty h t len ps = some (v, h')) :
    Ok P sz w0 Φ R w h' v (Instr.buildSlice t len ps') := by
  unfold o_buildSlice at ho
  cases hnone : Nat.beq len 0 && ps.isEmpty with
  | true =>
  rw [hnone] at ho
  rw [Bool.and_eq_true, List.isEmpty_iff] at hnone
  obtain ⟨k1, k2⟩ := hnone
  have k3 := Nat.eq_of_beq_eq_true k1
  subst k3
  subst k2
  have k4 : ps' = #[] := Array.ext' (by generalize ps'.toList = q at hp; cases hp; rfl)
  subst k4
  exact o_buildNone_is T hh ho
  | false =>
  rw [hnone] at ho
  dsimp only [cond_false] at ho
  split at ho
  · rename_i e hd
    have hu := desc_is T hd
    split at ho
    · rename_i s z hs hz
      split at ho
      · rename_i zc hzc
        cases hc : zc.all lit && Nat.ble (len * s) 10000 && Nat.blt 0 (len * s) && Nat.beq zc.length s with
        | false => rw [hc] at ho; cases ho
        | true =>
          rw [hc] at ho
          dsimp only [cond_true] at ho
          simp only [Bool.and_eq_true, Nat.ble_eq, Nat.blt_eq] at hc
          obtain ⟨⟨⟨hc1, hc2⟩, hc3⟩, hc4⟩ := hc
          have hzl := Nat.eq_of_beq_eq_true hc4
          cases hf : fillA (fun i => some (i * s, s)) (zeros len zc) ps with
          | none => rw [hf] at ho; cases ho
          | some cs =>
            rw [hf] at ho
            dsimp only at ho
            cases hn : newA h (.row ⟨cs, e, false⟩) with
            | none => rw [hn] at ho; cases ho
            | some p =>
              obtain ⟨i, h1⟩ := p
              rw [hn] at ho
              cases ho
              obtain ⟨it, hi1, hi2⟩ := zero_info T hz
              obtain ⟨it2, hj1, hj2⟩ := size_info T hs
              rw [hi1] at hj1
              cases hj1
              subst hj2
              have hcz := cellsOf_cells hzc
              have hczs : z.cells.size = it.size := by rw [← hzl, ← hcz]; simp
              have hpos : 0 < zc.length := by
                rcases Nat.eq_zero_or_pos zc.length with h0 | h0
                · rw [hzl] at h0; rw [h0] at hc3; simp at hc3
                · exact h0
              have hbase : A2 (SR R) (zeros len zc) ((Array.range (len * it.size)).map (z.cells[· % z.cells.size]!)).toList := by
                refine ⟨by rw [zeros_len, hzl]; simp, fun j x hx => ?_⟩
                have hj : j < len * zc.length := by have := (List.getElem?_eq_some_iff.1 hx).1; rwa [zeros_len] at this
                rw [zeros_get zc hpos len j hj] at hx
                refine ⟨x, ?_, .lit x (List.all_eq_true.1 hc1 x (List.mem_of_getElem? hx))⟩
                have hj2 : j < len * it.size := by rw [← hzl]; exact hj
                have hm : j % it.size < z.cells.size := by rw [hczs]; exact Nat.mod_lt _ (by omega)
                rw [hzl, ← hcz, Array.getElem?_toList] at hx
                simp [hj2, hczs]
                rw [getElem!_pos z.cells (j % it.size) hm]
                rw [Array.getElem?_eq_getElem hm] at hx
                exact Option.some.inj hx
              obtain ⟨r', h2, h3⟩ := fill_is _ hp _ _ cs hbase hf
              obtain ⟨R', h4, h5, h6, h7⟩ := newCell hh (cur := r') h3 hn
              have hr := run_buildSlice (P := P) w t e len ps' r' it z hu hi1 hi2 (by omega) (by omega) h2
              refine ⟨R', _, _, h4, h5, ?_, hr⟩
              exact sl_new h5 h6 h7 len len (by
                have : len ≤ len * it.size := Nat.le_mul_of_pos_right _ (by omega)
                unfold many; omega)
      · cases ho
    · cases ho
  · cases ho
end
end Go.Ev
/- The evaluator's maps, closures, made lists. -/
noncomputable section
namespace Go.Ev
open Go.RowKit Go.MapKept
set_option linter.unusedVariables false
set_option linter.unusedSimpArgs false
def flat1 : Value → Bool
  | .bool _ | .int _ _ | .string _ => true
  | _ => false
def flat : Value → Bool
  | .agg cs => cs.toList.all flat1
  | v => flat1 v
theorem SR.flat {R : Rn} {v v' : Value} (h : SR R v v') (hf : flat1 v = true) : v' = v := by
  cases h <;> first | rfl | (cases hf; done)
theorem flat1_lit {v : Value} (hf : flat1 v = true) : lit v = true := by
  cases v <;> first | rfl | (cases hf; done)
theorem VR0.flat {R : Rn} {v v' : Value} (h : VR0 R v v') (hf : Go.Ev.flat v = true) : v' = v := by
  rcases h with h | ⟨cs, cs', rfl, rfl, h⟩
  · cases h <;> first | rfl | (cases hf; done)
  · congr 1
    apply Array.ext'
    have hf' : cs.toList.all flat1 = true := hf
    refine List.ext_getElem? fun i => ?_
    cases hi : cs.toList[i]? with
    | none =>
      have := h.1
      rw [List.getElem?_eq_none_iff] at hi ⊢
      omega
    | some v =>
      obtain ⟨v', h1, h2⟩ := h.2 i v hi
      rw [h1, h2.flat (List.all_eq_true.1 hf' v (List.mem_of_getElem? hi))]
theorem VR.flat {R : Rn} {v v' : Value} (h : VR R v v') (hf : Go.Ev.flat v = true) : v' = v := by
  rcases h with h | ⟨_, _, rfl, _⟩
  · exact h.flat hf
  · cases hf
theorem VR.of_flat {R : Rn} {v : Value} (hf : Go.Ev.flat v = true) : VR R v v := by
  unfold Go.Ev.flat at hf
  split at hf
  · rename_i cs
    exact .inl (.inr ⟨cs, cs, rfl, rfl, rfl, fun i v hv => ⟨v, hv, .lit v (flat1_lit (List.all_eq_true.1 hf v (List.mem_of_getElem? hv)))⟩⟩)
  · exact .lit (flat1_lit hf)
def kOK (ty : Ty) : Nat → Nat → Value → Bool
  | 0, _, _ => false
  | d + 1, t, x => match desc ty t with
    | some .bool | some (.int _) | some .string => true
    | some (.struct fs) => match x with
      | .agg cs => fs.toList.all fun f => match fldAt ty f.type cs.toList f.offset with
        | some a => kOK ty d f.type a
        | none => false
      | _ => false
    | some (.array n e) => match x, size ty e with
      | .agg cs, some s => (List.range' 0 n).all fun i => match fldAt ty e cs.toList (i * s) with
        | some a => kOK ty d e a
        | none => false
      | _, _ => false
    | _ => false
section
variable {P : Program} {ty : Ty} {sz : Nat → Nat} {w0 : World} {Φ : Fx} {R : Rn} {w : World} {h : Hp}
theorem kOK_is (T : TyOK P ty) (em : Bool) : ∀ (d t : Nat) (x x' : Value), kOK ty d t x = true → VR R x x' → ∀ e, (Instr.checkKey em (d + e) t x').run P w = .ok () w
  | 0, _, _, _, h, _, _ => by cases h
  | d + 1, t, x, x', h, hx, e => by
    rw [show d + 1 + e = (d + e) + 1 by omega]
    unfold kOK at h
    split at h
    · rename_i hd
      have hu := desc_is T hd
      simp [Instr.checkKey, run_underlying hu]
    · rename_i hd
      have hu := desc_is T hd
      simp [Instr.checkKey, run_underlying hu]
    · rename_i hd
      have hu := desc_is T hd
      simp [Instr.checkKey, run_underlying hu]
    · rename_i fs hd
      have hu := desc_is T hd
      split at h
      · rename_i cs
        obtain ⟨cs', rfl, hcs⟩ := hx.agg
        simp only [Instr.checkKey, Sem.run_bind, run_underlying hu, Result.andThen_ok]
        rw [← Array.forIn_toList]
        generalize fs.toList = l at h
        induction l with
        | nil => simp
        | cons f l ih =>
          rw [List.all_cons, Bool.and_eq_true] at h
          have h1 := h.1
          split at h1
          · rename_i a ha
            obtain ⟨a', h2, h3⟩ := fldAt_is (P := P) T w hcs ha
            have h4 := kOK_is T em d f.type a a' h1 h2 e
            have h5 := ih h.2
            rw [List.forIn_cons]
            by_cases hn : f.name = "_"
            · simp only [hn, ne_eq, not_true, if_false, Sem.run_bind, Sem.run_pure, Result.andThen_ok]
              exact h5
            · simp only [ne_eq, hn, not_false_eq_true, if_true, Sem.run_bind, h3, Result.andThen_ok, h4, Sem.run_pure]
              exact h5
          · cases h1
      · cases h
    · rename_i n el hd
      have hu := desc_is T hd
      split at h
      · rename_i cs s hs
        obtain ⟨cs', rfl, hcs⟩ := hx.agg
        have hsz := size_is T w hs
        simp only [Instr.checkKey, Sem.run_bind, run_underlying hu, Result.andThen_ok]
        simp only [Std.Legacy.Range.forIn_eq_forIn_range', Std.Legacy.Range.size, Nat.sub_zero, Nat.add_one_sub_one, Nat.div_one]
        generalize List.range' 0 n = l at h
        induction l with
        | nil => simp
        | cons j l ih =>
          rw [List.all_cons, Bool.and_eq_true] at h
          have h1 := h.1
          split at h1
          · rename_i a ha
            obtain ⟨a', h2, h3⟩ := fldAt_is (P := P) T w hcs ha
            have h4 := kOK_is T em d el a a' h1 h2 e
            simp only [List.forIn_cons, Sem.run_bind, hsz, Result.andThen_ok, h3, h4, Sem.run_pure]
            exact ih h.2
          · cases h1
      · cases h
    · cases h
/-- the entry with a key -/
def findK (ty : Ty) (kt : Nat) (k : Value) : List (Value × Value × Nat) → Nat → Option (Option (Nat × Value × Value))
  | [], _ => some none
  | (k2, v, _) :: l, i => bif flat k2 then match eqv ty 100 kt k k2 with
      | some true => some (some (i, k2, v))
      | some false => findK ty kt k l (i + 1)
      | none => none
    else none
def FK (R : Rn) : Option (Nat × Value × Value) → Option (Nat × Value) → Prop
  | none, r => r = none
  | some (i, _, v), r => ∃ v', r = some (i, v') ∧ VR0 R v v'
theorem findAsk_is (T : TyOK P ty) {kt : Nat} {k : Value} (hk : flat k = true) {es : List (Value × Value × Nat)} {es' : List MapEntry} (he : ER R es es') : ∀ (i : Nat) (r : Option (Nat × Value × Value)), findK ty kt k es i = some r →
    ∃ r', (Instr.findAsking kt k es' i).run P w = .ok r' w ∧ FK R r r' := by
  induction he with
  | nil => intro i r h; cases h; exact ⟨none, by simp [Instr.findAsking], rfl⟩
  | cons k2 v v' n l l' hv _ ih =>
    intro i r h
    unfold findK at h
    cases hf : flat k2 with
    | false => rw [hf] at h; cases h
    | true =>
      rw [hf] at h
      dsimp only [cond_true] at h
      split at h
      · rename_i he
        cases h
        have h1 : (Op.equal kt k k2).run P w = .ok true w := eqv_is (R := R) T 100 kt k k2 true k k2 he (.of_flat hk) (.of_flat hf) 9900
        exact ⟨some (i, v'), by simp [Instr.findAsking, h1], v', rfl, hv⟩
      · rename_i he
        have h1 : (Op.equal kt k k2).run P w = .ok false w := eqv_is (R := R) T 100 kt k k2 false k k2 he (.of_flat hk) (.of_flat hf) 9900
        obtain ⟨r', h2, h3⟩ := ih (i + 1) r h
        exact ⟨r', by simp [Instr.findAsking, h1, h2], h3⟩
      · cases h
theorem sameNow_of {d : Nat} {kt : Nat} {dd : TypeDesc} (hd : desc ty kt = some dd) (hp : dd = .bool ∨ dd = .string ∨ ∃ q, dd = .int q) {k k2 : Value} {c : Bool} (h : eqv ty (d + 1) kt k k2 = some c) : Instr.sameNow dd k k2 = some c := by
  unfold eqv at h
  rw [hd] at h
  rcases hp with rfl | rfl | ⟨q, rfl⟩
  · dsimp only at h
    split at h
    · cases h; rfl
    · cases h
  · dsimp only at h
    split at h
    · cases h
      rename_i a b
      show some (a == b) = some (same a.data.toList b.data.toList)
      rw [same_is, beq_toListBytes, ByteArray.toList_eq, ByteArray.toList_eq]
    · cases h
  · dsimp only at h
    split at h
    · rename_i j a l b
      by_cases e : j = l
      · subst e
        rw [show eqK j j = true from decide_eq_true rfl] at h
        cases h
        simp [Instr.sameNow]
      · rw [show eqK j l = false from decide_eq_false e] at h
        cases h
    · cases h
theorem findNow_is {kt : Nat} {dd : TypeDesc} (hd : desc ty kt = some dd) (hp : dd = .bool ∨ dd = .string ∨ ∃ q, dd = .int q) {k : Value} {es : List (Value × Value × Nat)} {es' : List MapEntry} (he : ER R es es') : ∀ (i : Nat) (r : Option (Nat × Value × Value)), findK ty kt k es i = some r →
    ∃ r', Instr.findNow dd k es' i = some r' ∧ FK R r r' := by
  induction he with
  | nil => intro i r h; cases h; exact ⟨none, rfl, rfl⟩
  | cons k2 v v' n l l' hv _ ih =>
    intro i r h
    unfold findK at h
    cases hf : flat k2 with
    | false => rw [hf] at h; cases h
    | true =>
      rw [hf] at h
      dsimp only [cond_true] at h
      split at h
      · rename_i he
        cases h
        refine ⟨some (i, v'), ?_, v', rfl, hv⟩
        unfold Instr.findNow
        rw [sameNow_of hd hp he]
      · rename_i he
        obtain ⟨r', h2, h3⟩ := ih (i + 1) r h
        refine ⟨r', ?_, h3⟩
        unfold Instr.findNow
        rw [sameNow_of hd hp he]
        exact h2
      · cases h
/-- types whose keys are held against each other -/
def keyT (ty : Ty) (kt : Nat) : Bool := match desc ty kt with
  | some .bool | some .string | some (.int _) | some (.struct _) => true
  | _ => false
theorem findKey_is (T : TyOK P ty) {kt : Nat} (hkt : keyT ty kt = true) {k : Value} (hk : flat k = true) {es : List (Value × Value × Nat)} {es' : List MapEntry} (he : ER R es es') {r : Option (Nat × Value × Value)} (h : findK ty kt k es 0 = some r) :
    ∃ r', (Instr.findKey kt k es').run P w = .ok r' w ∧ FK R r r' := by
  unfold keyT at hkt
  have plain : ∀ dd, desc ty kt = some dd → (dd = .bool ∨ dd = .string ∨ ∃ q, dd = .int q) → ∃ r', (Instr.findKey kt k es').run P w = .ok r' w ∧ FK R r r' := fun dd hd hp => by
    obtain ⟨r', h1, h2⟩ := findNow_is hd hp he 0 r h
    exact ⟨r', run_findKey (desc_is T hd) h1, h2⟩
  split at hkt
  · rename_i hd; exact plain _ hd (.inl rfl)
  · rename_i hd; exact plain _ hd (.inr (.inl rfl))
  · rename_i q hd; exact plain _ hd (.inr (.inr ⟨_, rfl⟩))
  · rename_i fs hd
    obtain ⟨r', h1, h2⟩ := findAsk_is (P := P) (w := w) T hk he 0 r h
    exact ⟨r', by rw [run_findKey_eq w (by rw [desc_is T hd])]; exact h1, h2⟩
  · cases hkt
def litV (v : Value) : Bool := match v with
  | .agg cs => cs.toList.all lit
  | v => lit v
theorem litV_is {v : Value} (hv : litV v = true) : VR0 R v v := by
  unfold litV at hv
  split at hv
  · rename_i cs
    exact .inr ⟨cs, cs, rfl, rfl, A2.lits hv⟩
  · exact .inl (.lit _ hv)
def entsOf (h : Hp) : Value → Option (List (Value × Value × Nat))
  | .map none => some []
  | .map (some i) => match h.heap.get i with
    | some (.map es _) => some es
    | _ => none
  | _ => none
def okV (b : Bool) (v : Value) (c : Bool) : Value := bif b then .tuple #[v, .bool c] else v
def o_lookup (ty : Ty) (h : Hp) (xt : Nat) (x k : Value) (b : Bool) : Option Value :=
  match desc ty xt with
  | some (.map kt et) => bif flat k && kOK ty 20 kt k && keyT ty kt then match entsOf h x with
      | some es => match findK ty kt k es 0 with
        | some (some (_, _, v)) => some (okV b v true)
        | some none => match zero ty et with
          | some z => bif litV z then some (okV b z false) else none
          | none => none
        | none => none
      | none => none
    else none
  | _ => none
theorem okV_is {b c : Bool} {v v' : Value} (h : VR0 R v v') : VR R (okV b v c) (if b then .tuple #[v', .bool c] else v') := by
  cases b with
  | false => exact .inl h
  | true => exact .inr ⟨_, _, rfl, rfl, rfl, fun i x hx => by
      match i, hx with
      | 0, hx => cases hx; exact ⟨v', rfl, h⟩
      | 1, hx => cases hx; exact ⟨_, rfl, .inl (.lit _ rfl)⟩⟩
theorem o_lookup_is (T : TyOK P ty) (hh : HR sz w0 Φ R w h) {xt : Nat} {x x' k k' v : Value} {b : Bool} (hx : VR R x x') (hk : VR R k k') (ho : o_lookup ty h xt x k b = some v) : Ok0 P R w v (Instr.lookup xt x' k' b) := by
  unfold o_lookup at ho
  split at ho
  · rename_i kt et hd
    have hu := desc_is T hd
    cases hc : flat k && kOK ty 20 kt k && keyT ty kt with
    | false => rw [hc] at ho; cases ho
    | true =>
      rw [hc] at ho
      dsimp only [cond_true] at ho
      rw [Bool.and_eq_true, Bool.and_eq_true] at hc
      obtain ⟨⟨hf, hko⟩, hkt⟩ := hc
      have e1 := hk.flat hf
      subst e1
      split at ho
      · rename_i es hes
        have hent : ∃ es' : Array MapEntry, ER R es es'.toList ∧ ∀ (r' : Option (Nat × Value)) (z : Value), (∀ em, (Instr.checkKey em 10000 kt k').run P w = .ok () w) → (Instr.findKey kt k' es'.toList).run P w = .ok r' w → (r' = none → (zeroValue et).run P w = .ok z w) →
            (Instr.lookup xt x' k' b).run P w = .ok (match r' with | some (_, v) => (if b then .tuple #[v, .bool true] else v) | none => (if b then .tuple #[z, .bool false] else z)) w := by
          unfold entsOf at hes
          split at hes
          · cases hes
            have e1 := hx.mapNone
            subst e1
            refine ⟨#[], .nil, fun r' z h1 h2 h3 => ?_⟩
            cases r' with
            | none => simp at h2; simp [Instr.lookup, run_underlying hu, h1, h2, h3 rfl]
            | some p => simp at h2; simp [Instr.lookup, run_underlying hu, h1, h2]
          · rename_i i
            split at hes
            · rename_i es2 ck hb
              cases hes
              obtain ⟨e2, hD⟩ := hx.mapSome
              subst e2
              obtain ⟨_, _, es', h1, h2⟩ := hh.map hb
              refine ⟨es', h2, fun r' z h3 h4 h5 => ?_⟩
              have hg : (getObj (R.ρ i)).run P w = .ok (.map es' ck) w := by simp [getObj, Sem.run, h1]
              cases r' with
              | none => simp [Instr.lookup, run_underlying hu, hg, h3, h4, h5 rfl]
              | some p => simp [Instr.lookup, run_underlying hu, hg, h3, h4]
            · cases hes
          · cases hes
        obtain ⟨es', hER, hK⟩ := hent
        have hck : ∀ em, (Instr.checkKey em 10000 kt k').run P w = .ok () w := fun em => kOK_is T em 20 kt k' k' hko hk 9980
        split at ho
        · rename_i j k2 u hfk
          cases ho
          obtain ⟨r', h1, u', rfl, h3⟩ := findKey_is (P := P) (w := w) T hkt hf hER hfk
          exact ⟨_, okV_is (b := b) (c := true) h3, hK _ (.bool true) hck h1 (fun e => by cases e)⟩
        · rename_i hfk
          split at ho
          · rename_i z hz
            cases hl : litV z with
            | false => rw [hl] at ho; cases ho
            | true =>
              rw [hl] at ho
              cases ho
              obtain ⟨r', h1, rfl⟩ := findKey_is (P := P) (w := w) T hkt hf hER hfk
              exact ⟨_, okV_is (b := b) (c := false) (litV_is hl), hK none z hck h1 (fun _ => zero_is T w hz)⟩
          · cases ho
        · cases ho
      · cases ho
  · cases ho
end
end Go.Ev
noncomputable section
namespace Go.Ev
open Go.RowKit Go.MapKept
set_option linter.unusedVariables false
set_option linter.unusedSimpArgs false
def setE : List (Value × Value × Nat) → Nat → Value → Value → List (Value × Value × Nat)
  | [], _, _, _ => []
  | (_, _, n) :: l, 0, k, v => (k, v, n) :: l
  | x :: l, i + 1, k, v => x :: setE l i k v
theorem setE_is {R : Rn} {es : List (Value × Value × Nat)} {es' : List MapEntry} (he : ER R es es') (k : Value) {v v' : Value} (hv : VR0 R v v') : ∀ i, ER R (setE es i k v) (es'.modify i fun e => { e with key := k, val := v' }) := by
  induction he with
  | nil => intro i; cases i <;> exact .nil
  | cons k2 u u' n l l' hu hl ih =>
    intro i
    cases i with
    | zero => exact .cons k v v' n l l' hv hl
    | succ i => exact .cons k2 u u' n _ _ hu (ih i)
theorem ER.push {R : Rn} {es : List (Value × Value × Nat)} {es' : List MapEntry} (he : ER R es es') (k : Value) {v v' : Value} (hv : VR0 R v v') (n : Nat) : ER R (es ++ [(k, v, n)]) (es' ++ [⟨k, v', n⟩]) := by
  induction he with
  | nil => exact .cons k v v' n [] [] hv .nil
  | cons k2 u u' m l l' hu _ ih => exact .cons k2 u u' m _ _ hu ih
theorem ER.len {R : Rn} {es : List (Value × Value × Nat)} {es' : List MapEntry} (he : ER R es es') : es.length = es'.length := by
  induction he with
  | nil => rfl
  | cons k2 u u' m l l' hu _ ih => simp [ih]
theorem findK_key {ty : Ty} {kt : Nat} {k : Value} {R : Rn} {es : List (Value × Value × Nat)} {es' : List MapEntry} (he : ER R es es') : ∀ (i : Nat) {j : Nat} {k2 v : Value}, findK ty kt k es i = some (some (j, k2, v)) → i ≤ j ∧ ∃ e, es'[j - i]? = some e ∧ e.key = k2 := by
  induction he with
  | nil => intro i j k2 v h; cases h
  | cons k3 u u' m l l' hu _ ih =>
    intro i j k2 v h
    unfold findK at h
    cases hf : flat k3 with
    | false => rw [hf] at h; cases h
    | true =>
      rw [hf] at h
      dsimp only [cond_true] at h
      split at h
      · cases h
        exact ⟨Nat.le_refl _, ⟨_, u', m⟩, by rw [Nat.sub_self]; rfl, rfl⟩
      · obtain ⟨h1, e, h2, h3⟩ := ih (i + 1) h
        refine ⟨by omega, e, ?_, h3⟩
        rw [show j - i = (j - (i + 1)) + 1 by omega]
        exact h2
      · cases h
def isTup : Value → Bool
  | .tuple _ => true
  | _ => false
theorem VR.not_tup {R : Rn} {v v' : Value} (hv : VR R v v') (h : isTup v = false) : VR0 R v v' := by
  rcases hv with hv | ⟨vs, vs', rfl, rfl, _⟩
  · exact hv
  · cases h
def o_mapUpdate (ty : Ty) (h : Hp) (mt : Nat) (m k v : Value) : Option Hp :=
  match desc ty mt, m with
  | some (.map kt _), .map (some i) => match h.heap.get i with
    | some (.map es ck) => bif flat k && kOK ty 20 kt k && keyT ty kt && !isTup v then match findK ty kt k es 0 with
        | some (some (j, k2, _)) => bif Instr.sameBits 10000 k2 k then some ⟨h.heap.put 40 i (.map (setE es j k v) ck), h.next, h.tab⟩ else none
        | some none => some ⟨h.heap.put 40 i (.map (es ++ [(k, v, ck)]) (ck + 1)), h.next, h.tab⟩
        | none => none
      else none
    | _ => none
  | _, _ => none
section
variable {P : Program} {ty : Ty} {sz : Nat → Nat} {w0 : World} {Φ : Fx} {R : Rn} {w : World} {h : Hp}
theorem o_mapUpdate_is (T : TyOK P ty) (hh : HR sz w0 Φ R w h) {mt : Nat} {m m' k k' v v' : Value} (hm : VR R m m') (hk : VR R k k') (hv : VR R v v') {h' : Hp} (ho : o_mapUpdate ty h mt m k v = some h') :
    ∃ w', HR sz w0 Φ R w' h' ∧ (Instr.mapUpdate mt m' k' v').run P w = .ok () w' := by
  unfold o_mapUpdate at ho
  split at ho
  · rename_i kt et i hd
    have hu := desc_is T hd
    split at ho
    · rename_i es ck hb
      cases hc : flat k && kOK ty 20 kt k && keyT ty kt && !isTup v with
      | false => rw [hc] at ho; cases ho
      | true =>
        rw [hc] at ho
        dsimp only [cond_true] at ho
        simp only [Bool.and_eq_true, Bool.not_eq_true'] at hc
        obtain ⟨⟨⟨hf, hko⟩, hkt⟩, htup⟩ := hc
        have e1 := hk.flat hf
        subst e1
        have hv0 := hv.not_tup htup
        obtain ⟨e2, hD⟩ := hm.mapSome
        subst e2
        obtain ⟨_, hΦ, es', h1, hER⟩ := hh.map hb
        have hg : (getObj (R.ρ i)).run P w = .ok (.map es' ck) w := by simp [getObj, Sem.run, h1]
        have hck : (Instr.checkKey false 10000 kt k').run P w = .ok () w := kOK_is T false 20 kt k' k' hko hk 9980
        have hst : ∀ o, (setObj (R.ρ i) o).run P w = .ok () (w.putObj (R.ρ i) o) := fun o => run_setObj_map o h1
        split at ho
        · rename_i j k2 u hfk
          cases hs : Instr.sameBits 10000 k2 k' with
          | false => rw [hs] at ho; cases ho
          | true =>
            rw [hs] at ho
            cases ho
            obtain ⟨r', h2, u', rfl, h3⟩ := findKey_is (P := P) (w := w) T hkt hf hER hfk
            obtain ⟨_, e, h4, h5⟩ := findK_key hER 0 hfk
            rw [Nat.sub_zero, Array.getElem?_toList] at h4
            refine ⟨w.putObj (R.ρ i) (.map (es'.modify j fun e => { e with key := k', val := v' }) ck), hh.putObj hb ⟨_, rfl, by rw [Array.toList_modify]; exact setE_is hER k' hv0 j⟩, ?_⟩
            have hkey : (Instr.keyThatStays (((es'[j]?).map (·.key)).getD k') k').run P w = .ok k' w := by
              rw [h4]
              simp only [Option.map_some, Option.getD_some, h5, Instr.keyThatStays, hs, if_true]
              rfl
            simp only [Instr.mapUpdate, Sem.run_bind, run_underlying hu, Result.andThen_ok, hg, hck, h2, hkey, hst]
        · rename_i hfk
          cases ho
          obtain ⟨r', h2, rfl⟩ := findKey_is (P := P) (w := w) T hkt hf hER hfk
          refine ⟨w.putObj (R.ρ i) (.map (es'.push ⟨k', v', ck⟩) (ck + 1)), hh.putObj hb ⟨_, rfl, by rw [Array.toList_push]; exact hER.push k' hv0 ck⟩, ?_⟩
          simp only [Instr.mapUpdate, Sem.run_bind, run_underlying hu, Result.andThen_ok, hg, hck, h2, hst]
        · cases ho
    · cases ho
  · cases ho
/-- a map is made -/
def o_makeMap (h : Hp) : Option (Value × Hp) := match newA h (.map [] 0) with
  | some (i, h') => some (.map (some i), h')
  | none => none
theorem o_makeMap_is (hh : HR sz w0 Φ R w h) {t : Nat} {v : Value} {h' : Hp} (ho : o_makeMap h = some (v, h')) : Ok P sz w0 Φ R w h' v (Instr.makeMap t none) := by
  unfold o_makeMap at ho
  cases hn : newA h (.map [] 0) with
  | none => rw [hn] at ho; cases ho
  | some p =>
    obtain ⟨i, h1⟩ := p
    rw [hn] at ho
    cases ho
    obtain ⟨rfl, hr⟩ := hh.newO (w' := w.alloc (.map #[] 0)) (g := w.heap.size) (k := 0) (o := .map #[] 0) (hh.stayAlloc _) hh.young (fun i c hc => Nat.ne_of_lt (hh.old hc)) (fun i c hc => Below.heap_alloc _ _ _ (hh.old hc)) (by show (w.heap.push _)[w.heap.size]? = _; simp)
      (show OR sz (R.add w.heap.size 0) R.N (.map [] 0) (.map #[] 0) from ⟨#[], rfl, .nil⟩) hn
    have hD : (R.add w.heap.size 0).D R.N := .inr rfl
    have hρ : (R.add w.heap.size 0).ρ R.N = w.heap.size := if_pos rfl
    refine ⟨_, _, .map (some w.heap.size), hh.add_ext _ _, hr, ?_, ?_⟩
    · have := SR.mp (R := R.add w.heap.size 0) R.N hD
      rw [hρ] at this
      exact .inl (.inl this)
    · rfl
def o_lenM (h : Hp) (ty : Ty) (t : Nat) (x : Value) : Option Value :=
  match desc ty t with
  | some (.map _ _) => match entsOf h x with
    | some es => some (goInt es.length)
    | none => none
  | _ => none
theorem o_lenM_is (T : TyOK P ty) (hh : HR sz w0 Φ R w h) {t u : Nat} {x x' v : Value} (hx : VR R x x') (ho : o_lenM h ty t x = some v) : Ok0 P R w v (Builtin.len_ #[t] u #[x']) := by
  unfold o_lenM at ho
  split at ho
  · rename_i kt et hd
    have hu := desc_is T hd
    split at ho
    · rename_i es hes
      cases ho
      unfold entsOf at hes
      split at hes
      · cases hes
        have e1 := hx.mapNone
        subst e1
        refine .same hh (.lit rfl) ?_
        simp [Builtin.len_, run_underlying hu]
      · rename_i i
        split at hes
        · rename_i es2 ck hb
          cases hes
          obtain ⟨e2, hD⟩ := hx.mapSome
          subst e2
          obtain ⟨_, _, es', h1, h2⟩ := hh.map hb
          have hg : (getObj (R.ρ i)).run P w = .ok (.map es' ck) w := by simp [getObj, Sem.run, h1]
          refine .same hh (.lit rfl) ?_
          have := h2.len
          simp at this
          simp [Builtin.len_, run_underlying hu, hg, this]
        · cases hes
      · cases hes
    · cases ho
  · cases ho
def o_cap (ty : Ty) (t : Nat) (x : Value) : Option Value :=
  match x, desc ty t with
  | .slice a n c, some (.slice _) => bif Nat.beq c many then none else some (goInt c)
  | _, _ => none
theorem o_cap_is (T : TyOK P ty) (hh : HR sz w0 Φ R w h) {t u : Nat} {x x' v : Value} (hx : VR R x x') (ho : o_cap ty t x = some v) : Ok0 P R w v (Builtin.cap_ #[t] u #[x']) := by
  unfold o_cap at ho
  split at ho
  · rename_i a n c e hd
    have hu := desc_is T hd
    cases hc : Nat.beq c many with
    | true => rw [hc] at ho; cases ho
    | false =>
      rw [hc] at ho
      cases ho
      have hne := Nat.ne_of_beq_eq_false hc
      have : ∃ b, x' = .slice b n c := by
        rcases hx with (hx | ⟨_, _, hx, _⟩) | ⟨_, _, hx, _⟩
        · cases hx with
          | lit _ hl => exact ⟨_, rfl⟩
          | sl _ _ _ _ _ _ => exact ⟨_, rfl⟩
          | slg _ _ _ _ _ _ _ _ => exact absurd rfl hne
          | sle _ _ => exact absurd rfl hne
        · cases hx
        · cases hx
      obtain ⟨b, rfl⟩ := this
      refine .same hh (.lit rfl) ?_
      simp [Builtin.cap_, run_underlying hu]
  · cases ho
/-- a closure is made -/
def sc (v : Value) : Bool := match v with
  | .agg _ => false
  | .tuple _ => false
  | v => base v
def o_makeFunc (fn : Fn) (f c : List Value) : Option Value :=
  match fn with
  | .func g => bif f.all sc && c.all sc then some (.func (.func g) f.toArray c.toArray) else none
  | _ => none
theorem VR.sc {R : Rn} {v v' : Value} (h : VR R v v') (hs : Go.Ev.sc v = true) : BR R v v' := by
  rcases h with (h | ⟨_, _, rfl, _⟩) | ⟨_, _, rfl, _⟩
  · refine h.br ?_
    unfold Go.Ev.sc at hs
    split at hs
    · cases hs
    · cases hs
    · exact hs
  · cases hs
  · cases hs
theorem A2.sc {R : Rn} {l l' : List Value} (h : A2 (VR R) l l') (hs : l.all Go.Ev.sc = true) : A2 (BR R) l l' :=
  ⟨h.1, fun i v hv => by
    obtain ⟨v', h1, h2⟩ := h.2 i v hv
    exact ⟨v', h1, h2.sc (List.all_eq_true.1 hs v (List.mem_of_getElem? hv))⟩⟩
theorem o_makeFunc_is (hh : HR sz w0 Φ R w h) {fn : Fn} {f c : List Value} {f' c' : Array Value} (hf : A2 (VR R) f f'.toList) (hc : A2 (VR R) c c'.toList) {v : Value} (ho : o_makeFunc fn f c = some v) : Ok0 P R w v (Instr.makeFunc fn f' c') := by
  unfold o_makeFunc at ho
  split at ho
  · rename_i g
    cases hs : f.all sc && c.all sc with
    | false => rw [hs] at ho; cases ho
    | true =>
      rw [hs] at ho
      cases ho
      rw [Bool.and_eq_true] at hs
      exact .same hh (.inl (.inl (.fn g _ _ f' c' (hf.sc hs.1) (hc.sc hs.2)))) rfl
  · cases ho
/-- a list is made -/
def newMk (ty : Ty) (t : Nat) (l c : Value) : Option (Nat × Nat × Nat × List Value) :=
  match l, c, desc ty t with
  | .int .i64 (.ofNat n), .int .i64 (.ofNat m), some (.slice e) => match ty.get e with
    | some i => match i.zero with
      | some z => match cellsOf z with
        | some zc => bif zc.all lit && Nat.ble n m && Nat.ble m 100000 && Nat.ble (m * i.bytes) 100000 && Nat.beq zc.length i.size && Nat.blt 0 i.size then some (n, m, e, zeros m zc) else none
        | none => none
      | none => none
    | none => none
  | _, _, _ => none
def o_makeSlice (ty : Ty) (h : Hp) (t : Nat) (l c : Value) : Option (Value × Hp) :=
  match newMk ty t l c with
  | some (n, m, e, cs) => match newA h (.row ⟨cs, e, false⟩) with
    | some (k, h') => some (.slice (some ⟨k, 0, none⟩) n m, h')
    | none => none
  | none => none
theorem newMk_is (T : TyOK P ty) {t : Nat} {l c l' c' : Value} (hl : VR R l l') (hc : VR R c c') {n0 m0 e0 : Nat} {cs : List Value} (ho : newMk ty t l c = some (n0, m0, e0, cs)) : n0 < many ∧ m0 < many ∧ ∃ r' : Array Value, A2 (SR R) cs r'.toList ∧ (Instr.makeSlice t l' c').run P w = .ok (.slice (some ⟨w.heap.size, 0, none⟩) n0 m0) (w.alloc (.cells r' e0)) := by
  unfold newMk at ho
  split at ho
  · rename_i n m e hd
    have hu := desc_is T hd
    rw [hl.int, hc.int]
    split at ho
    · rename_i it hi
      have hinf := T.ty e it hi
      split at ho
      · rename_i z hz
        split at ho
        · rename_i zc hzc
          cases hcc : zc.all lit && Nat.ble n m && Nat.ble m 100000 && Nat.ble (m * it.bytes) 100000 && Nat.beq zc.length it.size && Nat.blt 0 it.size with
          | false => rw [hcc] at ho; cases ho
          | true =>
            rw [hcc] at ho
            dsimp only [cond_true] at ho
            simp only [Bool.and_eq_true, Nat.ble_eq, Nat.blt_eq] at hcc
            obtain ⟨⟨⟨⟨⟨hc1, hc2⟩, hc3⟩, hc4⟩, hc5⟩, hc6⟩ := hcc
            have hzl := Nat.eq_of_beq_eq_true hc5
            · cases ho
              have hcz := cellsOf_cells hzc
              have hczs : z.cells.size = it.size := by rw [← hzl, ← hcz]; simp
              have hpos : 0 < zc.length := by omega
              have hmade : madeCells z.cells (m0 * it.size) = (Array.range (m0 * it.size)).map (z.cells[· % z.cells.size]!) := rfl
              have hbase : A2 (SR R) (zeros m0 zc) (madeCells z.cells (m0 * it.size)).toList := by
                rw [hmade]
                refine ⟨by rw [zeros_len, hzl]; simp, fun j x hx => ?_⟩
                have hj : j < m0 * zc.length := by have := (List.getElem?_eq_some_iff.1 hx).1; rwa [zeros_len] at this
                rw [zeros_get zc hpos m0 j hj] at hx
                refine ⟨x, ?_, .lit x (List.all_eq_true.1 hc1 x (List.mem_of_getElem? hx))⟩
                have hj2 : j < m0 * it.size := by rw [← hzl]; exact hj
                have hm : j % it.size < z.cells.size := by rw [hczs]; exact Nat.mod_lt _ (by omega)
                rw [hzl, ← hcz, Array.getElem?_toList] at hx
                simp [hj2, hczs]
                rw [getElem!_pos z.cells (j % it.size) hm]
                rw [Array.getElem?_eq_getElem hm] at hx
                exact Option.some.inj hx
              refine ⟨by unfold many; omega, by unfold many; omega, _, hbase, ?_⟩
              have hb : (it.bytes : Int) * (m0 : Int) ≤ 281474976710656 := by
                have : ((m0 * it.bytes : Nat) : Int) ≤ 100000 := by omega
                rw [Int.natCast_mul, Int.mul_comm] at this
                omega
              have := run_make (P := P) w t e0 it z hu hinf hz .i64 .i64 (n0 : Int) (m0 : Int) (by omega) (by omega) hb (by omega)
              simp only [Int.toNat_natCast] at this
              exact this
        · cases ho
      · cases ho
    · cases ho
  · cases ho
theorem o_makeSlice_is (T : TyOK P ty) (hh : HR sz w0 Φ R w h) {t : Nat} {l c l' c' v : Value} (hl : VR R l l') (hc : VR R c c') {h' : Hp} (ho : o_makeSlice ty h t l c = some (v, h')) : Ok P sz w0 Φ R w h' v (Instr.makeSlice t l' c') := by
  unfold o_makeSlice at ho
  split at ho
  · rename_i n m e cs hm
    split at ho
    · rename_i k h1 hn
      cases ho
      obtain ⟨h2, h3, r', h4, h5⟩ := newMk_is (P := P) (w := w) T hl hc hm
      obtain ⟨R', h6, h7, h8, h9⟩ := newCell hh h4 hn
      exact ⟨R', _, _, h6, h7, sl_new h7 h8 h9 n m h3, h5⟩
    · cases ho
  · cases ho
/-- a place of an array -/
def o_indexX (ty : Ty) (t : Nat) (x ix : Value) : Option Value :=
  match x with
  | .agg cs => match ix, desc ty t with
    | .int _ (.ofNat i), some (.array n e) => match size ty e with
      | some s => bif Nat.blt i n then fldAt ty e cs.toList (i * s) else none
      | none => none
    | _, _ => none
  | _ => o_index ty t x ix
theorem o_indexX_is (T : TyOK P ty) (hh : HR sz w0 Φ R w h) {t : Nat} {x x' ix ix' v : Value} (hx : VR R x x') (hi : VR R ix ix') (ho : o_indexX ty t x ix = some v) : Ok0 P R w v (Instr.index t x' ix') := by
  unfold o_indexX at ho
  split at ho
  · rename_i cs
    split at ho
    · rename_i k i n e hd
      have hu := desc_is T hd
      rw [hi.int]
      obtain ⟨cs', rfl, hcs⟩ := hx.agg
      split at ho
      · rename_i s hs
        cases hlt : Nat.blt i n with
        | false => rw [hlt] at ho; cases ho
        | true =>
          rw [hlt] at ho
          dsimp only [cond_true] at ho
          rw [Nat.blt_eq] at hlt
          obtain ⟨v', h1, h2⟩ := fldAt_is (P := P) T w hcs ho
          refine .same hh h1 ?_
          simp [Instr.index, run_underlying hu, asIntOf, size_is T w hs, h2, hlt]
      · cases ho
    · cases ho
  · exact o_index_is T hh hx hi ho
theorem o_makeMapR_is (hh : HR sz w0 Φ R w h) (T : TyOK P ty) {t kt et : Nat} (hd : desc ty t = some (.map kt et)) {k : IntKind} {n : Int} {x' : Value} (hx : VR R (.int k n) x') {v : Value} {h' : Hp} (ho : o_makeMap h = some (v, h')) : Ok P sz w0 Φ R w h' v (Instr.makeMap t (some x')) := by
  obtain ⟨R', w', v', h1, h2, h3, h4⟩ := o_makeMap_is (P := P) (t := t) hh ho
  refine ⟨R', w', v', h1, h2, h3, ?_⟩
  have hu := desc_is T hd
  rw [hx.int]
  have e : (Instr.makeMap t (some (.int k n))).run P w = (Instr.makeMap t none).run P w := by
    simp [Instr.makeMap, run_underlying hu, asInt, asIntOf]
  rw [e, h4]
theorem ER.filter {R : Rn} (p : Nat → Bool) {es : List (Value × Value × Nat)} {es' : List MapEntry} (he : ER R es es') : ER R (es.filter fun e => p e.2.2) (es'.filter fun e => p e.born) := by
  induction he with
  | nil => exact .nil
  | cons k v v' n l l' hv _ ih =>
    by_cases hp : p n = true
    · simp only [List.filter_cons, hp, if_true]
      exact .cons k v v' n _ _ hv ih
    · simp only [List.filter_cons, hp, if_false]
      exact ih
/-- a range over a map -/
def o_range (ty : Ty) (h : Hp) (t : Nat) (x : Value) : Option (Value × Hp) :=
  match desc ty t, x with
  | some (.map _ _), .map none => match newA h (.iter none 0 [] 0) with
    | some (i, h') => some (.pointer (some ⟨i, 0, none⟩), h')
    | none => none
  | some (.map _ _), .map (some m) => match h.heap.get m with
    | some (.map _ ck) => match newA h (.iter (some m) ck [] ck) with
      | some (i, h') => some (.pointer (some ⟨i, 0, none⟩), h')
      | none => none
    | _ => none
  | _, _ => none
theorem iter_new (hh : HR sz w0 Φ R w h) {m : Option Nat} {since : Nat} {seen : List Nat} {last : Nat} (hm : ∀ i, m = some i → R.D i) {i : Nat} {h' : Hp} (hn : newA h (.iter m since seen last) = some (i, h')) :
    ∃ R', Ext R R' ∧ HR sz w0 Φ R' (w.alloc (.mapIter (m.map R.ρ) since seen.toArray last)) h' ∧ VR R' (.pointer (some ⟨i, 0, none⟩)) (.pointer (some ⟨w.heap.size, 0, none⟩)) := by
  have hx := hh.add_ext w.heap.size 0
  obtain ⟨rfl, hr⟩ := hh.newO (w' := w.alloc (.mapIter (m.map R.ρ) since seen.toArray last)) (g := w.heap.size) (k := 0) (o := .mapIter (m.map R.ρ) since seen.toArray last) (hh.stayAlloc _) hh.young (fun i c hc => Nat.ne_of_lt (hh.old hc)) (fun i c hc => Below.heap_alloc _ _ _ (hh.old hc)) (by show (w.heap.push _)[w.heap.size]? = _; simp)
      (show OR sz (R.add w.heap.size 0) R.N (.iter m since seen last) (.mapIter (m.map R.ρ) since seen.toArray last) from ⟨by
        cases m with
        | none => rfl
        | some j => simp [hx.ρ j (hm j rfl)], fun j hj => hx.D j (hm j hj)⟩) hn
  exact ⟨_, hx, hr, ptr_new hr (.inr rfl) (if_pos rfl)⟩
theorem o_range_is (T : TyOK P ty) (hh : HR sz w0 Φ R w h) {t : Nat} {x x' : Value} (hx : VR R x x') {v : Value} {h' : Hp} (ho : o_range ty h t x = some (v, h')) : Ok P sz w0 Φ R w h' v (Instr.range t x') := by
  unfold o_range at ho
  split at ho
  · rename_i kt et hd
    have hu := desc_is T hd
    split at ho
    · rename_i i h1 hn
      cases ho
      have e1 := hx.mapNone
      subst e1
      obtain ⟨R', h2, h3, h4⟩ := iter_new hh (fun i hi => by cases hi) hn
      refine ⟨R', _, _, h2, h3, h4, ?_⟩
      simp only [Instr.range, Sem.run_bind, run_underlying hu, Result.andThen_ok, Sem.run_pure]
      rfl
    · cases ho
  · rename_i kt et m hd
    have hu := desc_is T hd
    split at ho
    · rename_i es ck hb
      split at ho
      · rename_i i h1 hn
        cases ho
        obtain ⟨e2, hD⟩ := hx.mapSome
        subst e2
        obtain ⟨_, _, es', h5, h6⟩ := hh.map hb
        have hg : (getObj (R.ρ m)).run P w = .ok (.map es' ck) w := by simp [getObj, Sem.run, h5]
        obtain ⟨R', h2, h3, h4⟩ := iter_new hh (fun i hi => by cases hi; exact hD) hn
        refine ⟨R', _, _, h2, h3, h4, ?_⟩
        simp only [Instr.range, Sem.run_bind, run_underlying hu, Result.andThen_ok, Sem.run_pure, hg]
        rfl
      · cases ho
    · cases ho
  · cases ho
def left (es : List (Value × Value × Nat)) (seen : List Nat) : List (Value × Value × Nat) := es.filter fun e => !memN e.2.2 seen
def o_next (h : Hp) (it : Value) : Option (Value × Hp) :=
  match it with
  | .pointer (some ⟨r, 0, none⟩) => match h.heap.get r with
    | some (.iter none _ _ _) => some (.tuple #[.bool false], h)
    | some (.iter (some m) since seen last) => match h.heap.get m with
      | some (.map es ck) => bif seen.isEmpty || es.any (fun e => Nat.blt e.2.2 last) then match left es seen with
          | [] => some (.tuple #[.bool false], ⟨h.heap.del r, h.next, h.tab⟩)
          | [(k, v, n)] => bif Nat.blt n since && flat k then some (.tuple #[.bool true, k, v], ⟨h.heap.put 40 r (.iter (some m) since (seen ++ [n]) ck), h.next, h.tab⟩) else none
          | _ => none
        else none
      | _ => none
    | _ => none
  | _ => none
theorem over_rel : VR R (.tuple #[.bool false]) (.tuple #[.bool false]) := .inr ⟨_, _, rfl, rfl, rfl, fun i x hx => by
  match i, hx with
  | 0, hx => cases hx; exact ⟨_, rfl, .inl (.lit _ rfl)⟩⟩
theorem memN_contains (n : Nat) (l : List Nat) : memN n l = l.toArray.contains n := by
  rw [Bool.eq_iff_iff, memN_iff, Array.contains_iff_mem]
  simp
theorem o_next_is (hh : HR sz w0 Φ R w h) {it it' : Value} {t : Nat} (hi : VR R it it') {v : Value} {h' : Hp} (ho : o_next h it = some (v, h')) : Ok P sz w0 Φ R w h' v (Instr.next it' false t) := by
  unfold o_next at ho
  split at ho
  · rename_i r
    obtain ⟨rfl, _, hN⟩ := hi.ptr
    split at ho
    · rename_i since seen last hb
      cases ho
      obtain ⟨hD, _, o, h1, h2, _⟩ := hh.blk _ _ hb
      have hra : ra R ⟨r, 0, none⟩ = ⟨R.ρ r, 0, none⟩ := by unfold ra; rw [rb_of hh hD]
      rw [hra]
      rw [h2] at h1
      have hg : (getObj (R.ρ r)).run P w = .ok (.mapIter none since seen.toArray last) w := by simp [getObj, Sem.run, h1]
      refine ⟨R, w, _, .refl R, hh, over_rel, ?_⟩
      simp [Instr.next, hg]
    · rename_i m since seen last hb
      obtain ⟨hD, hΦ, o, h1, h2, h2D⟩ := hh.blk _ _ hb
      have hra : ra R ⟨r, 0, none⟩ = ⟨R.ρ r, 0, none⟩ := by unfold ra; rw [rb_of hh hD]
      rw [hra]
      rw [h2] at h1
      have hg : (getObj (R.ρ r)).run P w = .ok (.mapIter (some (R.ρ m)) since seen.toArray last) w := by simp [getObj, Sem.run, h1]
      split at ho
      · rename_i es ck hbm
        obtain ⟨_, _, es', h5, hER⟩ := hh.map hbm
        have hgm : (getObj (R.ρ m)).run P w = .ok (.map es' ck) w := by simp [getObj, Sem.run, h5]
        cases hc : seen.isEmpty || es.any (fun e => Nat.blt e.2.2 last) with
        | false => rw [hc] at ho; cases ho
        | true =>
          rw [hc] at ho
          dsimp only [cond_true] at ho
          have hcond : (!seen.toArray.isEmpty && !es'.isEmpty && es'.all (fun e => decide (e.born ≥ last))) = false := by
            rw [Bool.or_eq_true] at hc
            rcases hc with hc | hc
            · rw [List.isEmpty_iff] at hc
              subst hc
              rfl
            · have : ∃ e' ∈ es'.toList, e'.born < last := by
                clear hbm h5 hgm ho
                generalize es'.toList = l at hER
                induction hER with
                | nil => cases hc
                | cons k u u' n l l' _ _ ih =>
                  rw [List.any_cons, Bool.or_eq_true] at hc
                  rcases hc with hc | hc
                  · exact ⟨_, List.mem_cons_self .., by simpa [Nat.blt_eq] using hc⟩
                  · obtain ⟨e', h1, h2⟩ := ih hc
                    exact ⟨e', List.mem_cons_of_mem _ h1, h2⟩
              obtain ⟨e', h6, h7⟩ := this
              have hall : es'.all (fun e => decide (e.born ≥ last)) = false := by
                rw [← Bool.not_eq_true, Array.all_eq_true_iff_forall_mem]
                intro hall
                have := hall e' (Array.mem_toList_iff.1 h6)
                simp at this
                omega
              rw [hall, Bool.and_false]
          have hleft := hER.filter (fun n => !memN n seen)
          have hfl : (es'.filter fun e => !seen.toArray.contains e.born).toList = es'.toList.filter fun e => !memN e.born seen := by
            rw [Array.toList_filter]
            congr 1
            funext e
            rw [memN_contains]
          rw [← hfl] at hleft
          generalize hL : (es'.filter fun e => !seen.toArray.contains e.born) = L at hleft
          change ER R (left es seen) L.toList at hleft
          split at ho
          · rename_i hl
            cases ho
            rw [hl] at hleft
            have hL0 : L = #[] := by generalize hq : L.toList = q at hleft; cases hleft; exact Array.ext' hq
            refine ⟨R, w, _, .refl R, hh.del r, over_rel, ?_⟩
            subst hL0
            simp only [Instr.next, Sem.run_bind, Sem.run_pure, Result.andThen_ok, hg, hgm, hcond, Bool.false_eq_true, if_false, hL]
            simp [Question.forced]
          · rename_i k u n hl
            cases hc2 : Nat.blt n since && flat k with
            | false => rw [hc2] at ho; cases ho
            | true =>
              rw [hc2] at ho
              cases ho
              rw [Bool.and_eq_true, Nat.blt_eq] at hc2
              rw [hl] at hleft
              have hL1 : ∃ u', VR0 R u u' ∧ L = #[⟨k, u', n⟩] := by
                generalize hq : L.toList = q at hleft
                cases hleft with
                | cons _ _ u' _ _ _ hu hnil =>
                  cases hnil
                  exact ⟨u', hu, Array.ext' hq⟩
              obtain ⟨u', hu, hL1⟩ := hL1
              subst hL1
              refine ⟨R, w.putObj (R.ρ r) (.mapIter (some (R.ρ m)) since (seen.toArray.push n) ck), .tuple #[.bool true, k, u'], .refl R, hh.putObj hb ⟨by simp, fun i hi => by cases hi; exact (hh.blk _ _ hbm).1⟩, ?_, ?_⟩
              · exact .inr ⟨_, _, rfl, rfl, rfl, fun i x hx => by
                  match i, hx with
                  | 0, hx => cases hx; exact ⟨_, rfl, .inl (.lit _ rfl)⟩
                  | 1, hx => cases hx; exact ⟨_, rfl, (VR.of_flat hc2.2).not_tup (by cases k <;> first | rfl | cases hc2.2)⟩
                  | 2, hx => cases hx; exact ⟨_, rfl, hu⟩⟩
              · have h3 : ¬ since ≤ n := by omega
                have h4 : (setObj (R.ρ r) (.mapIter (some (R.ρ m)) since (seen.toArray.push n) ck)).run P w = .ok () (w.putObj (R.ρ r) (.mapIter (some (R.ρ m)) since (seen.toArray.push n) ck)) := by simp [setObj, Sem.run, h1, World.putObj]
                simp only [Instr.next, Sem.run_bind, Sem.run_pure, Result.andThen_ok, hg, hgm, hcond, Bool.false_eq_true, if_false, hL]
                simp [Question.forced, hc2.1, h3]
                simp at h4
                rw [h4]
                simp
          · cases ho
      · cases ho
    · cases ho
  · cases ho
/-- a range of two entries left, or more: what may come next -/
def o_nextL (h : Hp) (it : Value) : Option (List (Value × Hp)) :=
  match it with
  | .pointer (some ⟨r, 0, none⟩) => match h.heap.get r with
    | some (.iter (some m) since seen last) => match h.heap.get m with
      | some (.map es ck) => bif (seen.isEmpty || es.any (fun e => Nat.blt e.2.2 last)) && Nat.blt 1 (left es seen).length && (left es seen).all (fun e => Nat.blt e.2.2 since && flat e.1) then
          some ((left es seen).map fun e => (.tuple #[.bool true, e.1, e.2.1], ⟨h.heap.put 40 r (.iter (some m) since (seen ++ [e.2.2]) ck), h.next, h.tab⟩))
        else none
      | _ => none
    | _ => none
  | _ => none
theorem ER.at {R : Rn} {es : List (Value × Value × Nat)} {es' : List MapEntry} (he : ER R es es') : ∀ {i : Nat} {e' : MapEntry}, es'[i]? = some e' → ∃ v, es[i]? = some (e'.key, v, e'.born) ∧ VR0 R v e'.val := by
  induction he with
  | nil => intro i e' h; cases h
  | cons k u u' n l l' hu _ ih =>
    intro i e' h
    cases i with
    | zero => cases h; exact ⟨u, rfl, hu⟩
    | succ i => exact ih h
theorem ER.length {R : Rn} {es : List (Value × Value × Nat)} {es' : List MapEntry} (he : ER R es es') : es.length = es'.length := by
  induction he with
  | nil => rfl
  | cons k u u' n l l' hu _ ih => simp [ih]
theorem o_nextL_is (hh : HR sz w0 Φ R w h) {it it' : Value} {t : Nat} (hi : VR R it it') {L : List (Value × Hp)} (ho : o_nextL h it = some L) :
    ∃ p ∈ L, ∃ R' w' v', Ext R R' ∧ HR sz w0 Φ R' w' p.2 ∧ VR R' p.1 v' ∧ (Instr.next it' false t).run P w = .ok v' w' := by
  unfold o_nextL at ho
  split at ho
  · rename_i r
    obtain ⟨rfl, _, hN⟩ := hi.ptr
    split at ho
    · rename_i m since seen last hb
      obtain ⟨hD, hΦ, o, h1, h2, h2D⟩ := hh.blk _ _ hb
      have hra : ra R ⟨r, 0, none⟩ = ⟨R.ρ r, 0, none⟩ := by unfold ra; rw [rb_of hh hD]
      rw [hra]
      rw [h2] at h1
      have hg : (getObj (R.ρ r)).run P w = .ok (.mapIter (some (R.ρ m)) since seen.toArray last) w := by simp [getObj, Sem.run, h1]
      split at ho
      · rename_i es ck hbm
        obtain ⟨_, _, es', h5, hER⟩ := hh.map hbm
        have hgm : (getObj (R.ρ m)).run P w = .ok (.map es' ck) w := by simp [getObj, Sem.run, h5]
        cases hc : (seen.isEmpty || es.any (fun e => Nat.blt e.2.2 last)) && Nat.blt 1 (left es seen).length && (left es seen).all (fun e => Nat.blt e.2.2 since && flat e.1) with
        | false => rw [hc] at ho; cases ho
        | true =>
          rw [hc] at ho
          cases ho
          rw [Bool.and_eq_true, Bool.and_eq_true, Nat.blt_eq] at hc
          obtain ⟨⟨hc, hlen⟩, hall⟩ := hc
          have hcond : (!seen.toArray.isEmpty && !es'.isEmpty && es'.all (fun e => decide (e.born ≥ last))) = false := by
            rw [Bool.or_eq_true] at hc
            rcases hc with hc | hc
            · rw [List.isEmpty_iff] at hc
              subst hc
              rfl
            · have : ∃ e' ∈ es'.toList, e'.born < last := by
                clear hbm h5 hgm hlen hall
                generalize es'.toList = l at hER
                induction hER with
                | nil => cases hc
                | cons k u u' n l l' _ _ ih =>
                  rw [List.any_cons, Bool.or_eq_true] at hc
                  rcases hc with hc | hc
                  · exact ⟨_, List.mem_cons_self .., by simpa [Nat.blt_eq] using hc⟩
                  · obtain ⟨e', h1, h2⟩ := ih hc
                    exact ⟨e', List.mem_cons_of_mem _ h1, h2⟩
              obtain ⟨e', h6, h7⟩ := this
              have hall : es'.all (fun e => decide (e.born ≥ last)) = false := by
                rw [← Bool.not_eq_true, Array.all_eq_true_iff_forall_mem]
                intro hall
                have := hall e' (Array.mem_toList_iff.1 h6)
                simp at this
                omega
              rw [hall, Bool.and_false]
          have hleft := hER.filter (fun n => !memN n seen)
          have hfl : (es'.filter fun e => !seen.toArray.contains e.born).toList = es'.toList.filter fun e => !memN e.born seen := by
            rw [Array.toList_filter]
            congr 1
            funext e
            rw [memN_contains]
          rw [← hfl] at hleft
          generalize hL : (es'.filter fun e => !seen.toArray.contains e.born) = L at hleft
          change ER R (left es seen) L.toList at hleft
          have hLs : (left es seen).length = L.size := by rw [hleft.length, Array.length_toList]
          have hborn : ∀ e' ∈ L, e'.born < since := fun e' he' => by
            obtain ⟨i, hi, rfl⟩ := Array.mem_iff_getElem.1 he'
            obtain ⟨v, hv, _⟩ := hleft.at (i := i) (e' := L[i]) (by simp)
            have := List.all_eq_true.1 hall _ (List.mem_of_getElem? hv)
            rw [Bool.and_eq_true, Nat.blt_eq] at this
            exact this.1
          have hold : (L.filter fun e => decide (e.born < since)) = L := Array.filter_eq_self.2 fun e he => by simpa using hborn e he
          have hnew : (L.filter fun e => decide (e.born ≥ since)) = #[] := by
            rw [Array.filter_eq_empty_iff]
            intro e he
            have := hborn e he
            simp
            omega
          have hne : L.isEmpty = false := by
            cases hq : L.isEmpty with
            | false => rfl
            | true => rw [Array.isEmpty_iff] at hq; subst hq; rw [hLs] at hlen; simp at hlen
          generalize hpk : Question.cut (.mapNext L.size) (w.tape w.drawn (.mapNext L.size)) = pk
          have hpl : pk < L.size := by rw [← hpk]; exact Nat.mod_lt _ (by omega)
          obtain ⟨u, hu1, hu2⟩ := hleft.at (i := pk) (e' := L[pk]) (by simp [hpl])
          have hmem := List.mem_of_getElem? hu1
          have hflat := List.all_eq_true.1 hall _ hmem
          rw [Bool.and_eq_true] at hflat
          refine ⟨_, List.mem_map.2 ⟨_, hmem, rfl⟩, R, w.drew.putObj (R.ρ r) (.mapIter (some (R.ρ m)) since (seen.toArray.push L[pk].born) ck), .tuple #[.bool true, L[pk].key, L[pk].val], .refl R,
            (hh.on (w' := w.drew) ⟨rfl, rfl, rfl, Nat.le_refl _, fun _ _ => rfl⟩ fun _ _ _ => rfl).putObj hb ⟨by simp, fun i hi => by cases hi; exact (hh.blk _ _ hbm).1⟩, ?_, ?_⟩
          · exact .inr ⟨_, _, rfl, rfl, rfl, fun i x hx => by
              match i, hx with
              | 0, hx => cases hx; exact ⟨_, rfl, .inl (.lit _ rfl)⟩
              | 1, hx => cases hx; exact ⟨_, rfl, (VR.of_flat hflat.2).not_tup (by have := hflat.2; revert this; generalize L[pk].key = k; intro h; cases k <;> first | rfl | cases h)⟩
              | 2, hx => cases hx; exact ⟨_, rfl, hu2⟩⟩
          · have h4 : (setObj (R.ρ r) (.mapIter (some (R.ρ m)) since (seen.toArray.push L[pk].born) ck)).run P w.drew = .ok () (w.drew.putObj (R.ρ r) (.mapIter (some (R.ρ m)) since (seen.toArray.push L[pk].born) ck)) := by
              have h1' : w.drew.heap[R.ρ r]? = some (.mapIter (some (R.ρ m)) since seen.toArray last) := h1
              simp [setObj, Sem.run, h1', World.putObj]
            have hforced : Question.forced (.mapNext L.size) = false := by
              show decide (L.size ≤ 1) = false
              exact decide_eq_false (by omega)
            have hcand : ((L.map some : Array (Option MapEntry)))[pk]? = some (some L[pk]) := by simp [hpl]
            simp only [Instr.next, Sem.run_bind, Sem.run_pure, Result.andThen_ok, hg, hgm, hcond, Bool.false_eq_true, if_false, hL, hold, hnew, hne, Array.empty_append, Array.append_empty, Array.size_map, run_choose_drew, hforced, hpk, hcand, h4]
      · cases ho
    · cases ho
  · cases ho
/-- the entry where a range stands -/
def findE : List (Value × Value × Nat) → Nat → Option (Value × Value)
  | [], _ => none
  | (k, v, m) :: l, n => bif Nat.beq m n then some (k, v) else findE l n
theorem findE_is {es : List (Value × Value × Nat)} {es' : List MapEntry} (he : ER R es es') {n : Nat} : ∀ {k v : Value}, findE es n = some (k, v) → ∃ e, es'.find? (fun e => e.born == n) = some e ∧ e.key = k ∧ VR0 R v e.val := by
  induction he with
  | nil => intro k v h; cases h
  | cons k2 u u' m l l' hu _ ih =>
    intro k v h
    unfold findE at h
    by_cases e : m = n
    · subst e
      rw [show Nat.beq m m = true by rw [Tr.beq_iff]; exact decide_eq_true rfl] at h
      cases h
      exact ⟨⟨_, u', m⟩, by simp, rfl, hu⟩
    · rw [show Nat.beq m n = false by rw [Tr.beq_iff]; exact decide_eq_false e] at h
      obtain ⟨e', h1, h2⟩ := ih h
      exact ⟨e', by simp [e, h1], h2⟩
def o_entry (h : Hp) (it : Value) : Option Value :=
  match it with
  | .pointer (some ⟨r, 0, none⟩) => match h.heap.get r with
    | some (.iter (some m) _ seen last) => match h.heap.get m, seen.getLast? with
      | some (.map es ck), some n => bif Nat.beq ck last then match findE es n with
          | some (k, v) => bif flat k then some (.tuple #[k, v]) else none
          | none => none
        else none
      | _, _ => none
    | _ => none
  | _ => none
theorem o_entry_is (hh : HR sz w0 Φ R w h) {it it' v : Value} (hi : VR R it it') (ho : o_entry h it = some v) : Ok0 P R w v (Instr.entry it') := by
  unfold o_entry at ho
  split at ho
  · rename_i r
    obtain ⟨rfl, _, hN⟩ := hi.ptr
    split at ho
    · rename_i m since seen last hb
      obtain ⟨hD, hΦ, o, h1, h2, h2D⟩ := hh.blk _ _ hb
      have hra : ra R ⟨r, 0, none⟩ = ⟨R.ρ r, 0, none⟩ := by unfold ra; rw [rb_of hh hD]
      rw [hra]
      rw [h2] at h1
      have hg : (getObj (R.ρ r)).run P w = .ok (.mapIter (some (R.ρ m)) since seen.toArray last) w := by simp [getObj, Sem.run, h1]
      split at ho
      · rename_i es ck n hbm hn
        obtain ⟨_, _, es', h5, hER⟩ := hh.map hbm
        have hgm : (getObj (R.ρ m)).run P w = .ok (.map es' ck) w := by simp [getObj, Sem.run, h5]
        cases hc : Nat.beq ck last with
        | false => rw [hc] at ho; cases ho
        | true =>
          rw [hc] at ho
          dsimp only [cond_true] at ho
          have hck := Nat.eq_of_beq_eq_true hc
          subst hck
          split at ho
          · rename_i k u hf
            cases hk : flat k with
            | false => rw [hk] at ho; cases ho
            | true =>
              rw [hk] at ho
              cases ho
              obtain ⟨e, h6, h7, h8⟩ := findE_is hER hf
              have hback : seen.toArray.back? = some n := by rw [List.back?_toArray]; exact hn
              have hfind : es'.find? (fun e => e.born == n) = some e := by rw [← Array.find?_toList]; exact h6
              refine .same hh (v' := .tuple #[k, e.val]) (.inr ⟨_, _, rfl, rfl, rfl, fun i x hx => by
                match i, hx with
                | 0, hx => cases hx; exact ⟨_, rfl, (VR.of_flat hk).not_tup (by cases k <;> first | rfl | cases hk)⟩
                | 1, hx => cases hx; exact ⟨_, rfl, h8⟩⟩) ?_
              simp only [Instr.entry, Sem.run_bind, Sem.run_pure, Result.andThen_ok, hg, hgm, hback]
              simp [hfind, h7]
          · cases ho
      · cases ho
    · cases ho
  · cases ho
end
end Go.Ev
