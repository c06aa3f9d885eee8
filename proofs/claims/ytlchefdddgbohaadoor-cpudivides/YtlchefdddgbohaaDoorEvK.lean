/- The evaluator's maps as they change; closures; made lists. -/
import Derived.Test.YtlchefdddgbohaaDoorEvN
import Derived.Laws.MakeOwn
noncomputable section
namespace Go.Ev
open Go.RowKit Go.MapKept
set_option linter.unusedVariables false
set_option linter.unusedSimpArgs false
def setE : List (Value × Value × Nat) → Nat → Value → Value → List (Value × Value × Nat)
  | [], _, _, _ => []
  | (_, _, n) :: l, 0, k, v => (k, v, n) :: l
  | x :: l, i + 1, k, v => x :: setE l i k v
theorem setE_is {R : Rn} {es : List (Value × Value × Nat)} {es' : List MapEntry} (he : ER R es es') (k : Value) {v v' : Value} (hv : VR0 R v v') : ∀ i, ER R (setE es i k v) (es'.modify i fun e => { e with key := k, val := v' }) := by
  induction he with
  | nil => intro i; cases i <;> exact .nil
  | cons k2 u u' n l l' hu hl ih =>
    intro i
    cases i with
    | zero => exact .cons k v v' n l l' hv hl
    | succ i => exact .cons k2 u u' n _ _ hu (ih i)
theorem ER.push {R : Rn} {es : List (Value × Value × Nat)} {es' : List MapEntry} (he : ER R es es') (k : Value) {v v' : Value} (hv : VR0 R v v') (n : Nat) : ER R (es ++ [(k, v, n)]) (es' ++ [⟨k, v', n⟩]) := by
  induction he with
  | nil => exact .cons k v v' n [] [] hv .nil
  | cons k2 u u' m l l' hu _ ih => exact .cons k2 u u' m _ _ hu ih
theorem ER.len {R : Rn} {es : List (Value × Value × Nat)} {es' : List MapEntry} (he : ER R es es') : es.length = es'.length := by
  induction he with
  | nil => rfl
  | cons k2 u u' m l l' hu _ ih => simp [ih]
theorem findK_key {ty : Ty} {kt : Nat} {k : Value} {R : Rn} {es : List (Value × Value × Nat)} {es' : List MapEntry} (he : ER R es es') : ∀ (i : Nat) {j : Nat} {k2 v : Value}, findK ty kt k es i = some (some (j, k2, v)) → i ≤ j ∧ ∃ e, es'[j - i]? = some e ∧ e.key = k2 := by
  induction he with
  | nil => intro i j k2 v h; cases h
  | cons k3 u u' m l l' hu _ ih =>
    intro i j k2 v h
    unfold findK at h
    cases hf : flat k3 with
    | false => rw [hf] at h; cases h
    | true =>
      rw [hf] at h
      dsimp only [cond_true] at h
      split at h
      · cases h
        exact ⟨Nat.le_refl _, ⟨_, u', m⟩, by rw [Nat.sub_self]; rfl, rfl⟩
      · obtain ⟨h1, e, h2, h3⟩ := ih (i + 1) h
        refine ⟨by omega, e, ?_, h3⟩
        rw [show j - i = (j - (i + 1)) + 1 by omega]
        exact h2
      · cases h
def isTup : Value → Bool
  | .tuple _ => true
  | _ => false
theorem VR.not_tup {R : Rn} {v v' : Value} (hv : VR R v v') (h : isTup v = false) : VR0 R v v' := by
  rcases hv with hv | ⟨vs, vs', rfl, rfl, _⟩
  · exact hv
  · cases h
def o_mapUpdate (ty : Ty) (h : Hp) (mt : Nat) (m k v : Value) : Option Hp :=
  match desc ty mt, m with
  | some (.map kt _), .map (some i) => match h.heap.get i with
    | some (.map es ck) => bif flat k && kOK ty 20 kt k && keyT ty kt && !isTup v then match findK ty kt k es 0 with
        | some (some (j, k2, _)) => bif Instr.sameBits 10000 k2 k then some ⟨h.heap.put 40 i (.map (setE es j k v) ck), h.next, h.tab⟩ else none
        | some none => some ⟨h.heap.put 40 i (.map (es ++ [(k, v, ck)]) (ck + 1)), h.next, h.tab⟩
        | none => none
      else none
    | _ => none
  | _, _ => none
section
variable {P : Program} {ty : Ty} {sz : Nat → Nat} {w0 : World} {Φ : Fx} {R : Rn} {w : World} {h : Hp}
theorem o_mapUpdate_is (T : TyOK P ty) (hh : HR sz w0 Φ R w h) {mt : Nat} {m m' k k' v v' : Value} (hm : VR R m m') (hk : VR R k k') (hv : VR R v v') {h' : Hp} (ho : o_mapUpdate ty h mt m k v = some h') :
    ∃ w', HR sz w0 Φ R w' h' ∧ (Instr.mapUpdate mt m' k' v').run P w = .ok () w' := by
  unfold o_mapUpdate at ho
  split at ho
  · rename_i kt et i hd
    have hu := desc_is T hd
    split at ho
    · rename_i es ck hb
      cases hc : flat k && kOK ty 20 kt k && keyT ty kt && !isTup v with
      | false => rw [hc] at ho; cases ho
      | true =>
        rw [hc] at ho
        dsimp only [cond_true] at ho
        simp only [Bool.and_eq_true, Bool.not_eq_true'] at hc
        obtain ⟨⟨⟨hf, hko⟩, hkt⟩, htup⟩ := hc
        have e1 := hk.flat hf
        subst e1
        have hv0 := hv.not_tup htup
        obtain ⟨e2, hD⟩ := hm.mapSome
        subst e2
        obtain ⟨_, hΦ, es', h1, hER⟩ := hh.map hb
        have hg : (getObj (R.ρ i)).run P w = .ok (.map es' ck) w := by simp [getObj, Sem.run, h1]
        have hck : (Instr.checkKey false 10000 kt k').run P w = .ok () w := kOK_is T false 20 kt k' k' hko hk 9980
        have hst : ∀ o, (setObj (R.ρ i) o).run P w = .ok () (w.putObj (R.ρ i) o) := fun o => run_setObj_map o h1
        split at ho
        · rename_i j k2 u hfk
          cases hs : Instr.sameBits 10000 k2 k' with
          | false => rw [hs] at ho; cases ho
          | true =>
            rw [hs] at ho
            cases ho
            obtain ⟨r', h2, u', rfl, h3⟩ := findKey_is (P := P) (w := w) T hkt hf hER hfk
            obtain ⟨_, e, h4, h5⟩ := findK_key hER 0 hfk
            rw [Nat.sub_zero, Array.getElem?_toList] at h4
            refine ⟨w.putObj (R.ρ i) (.map (es'.modify j fun e => { e with key := k', val := v' }) ck), hh.putObj hb ⟨_, rfl, by rw [Array.toList_modify]; exact setE_is hER k' hv0 j⟩, ?_⟩
            have hkey : (Instr.keyThatStays (((es'[j]?).map (·.key)).getD k') k').run P w = .ok k' w := by
              rw [h4]
              simp only [Option.map_some, Option.getD_some, h5, Instr.keyThatStays, hs, if_true]
              rfl
            simp only [Instr.mapUpdate, Sem.run_bind, run_underlying hu, Result.andThen_ok, hg, hck, h2, hkey, hst]
        · rename_i hfk
          cases ho
          obtain ⟨r', h2, rfl⟩ := findKey_is (P := P) (w := w) T hkt hf hER hfk
          refine ⟨w.putObj (R.ρ i) (.map (es'.push ⟨k', v', ck⟩) (ck + 1)), hh.putObj hb ⟨_, rfl, by rw [Array.toList_push]; exact hER.push k' hv0 ck⟩, ?_⟩
          simp only [Instr.mapUpdate, Sem.run_bind, run_underlying hu, Result.andThen_ok, hg, hck, h2, hst]
        · cases ho
    · cases ho
  · cases ho
/-- a map is made -/
def o_makeMap (h : Hp) : Option (Value × Hp) := match newA h (.map [] 0) with
  | some (i, h') => some (.map (some i), h')
  | none => none
theorem o_makeMap_is (hh : HR sz w0 Φ R w h) {t : Nat} {v : Value} {h' : Hp} (ho : o_makeMap h = some (v, h')) : Ok P sz w0 Φ R w h' v (Instr.makeMap t none) := by
  unfold o_makeMap at ho
  cases hn : newA h (.map [] 0) with
  | none => rw [hn] at ho; cases ho
  | some p =>
    obtain ⟨i, h1⟩ := p
    rw [hn] at ho
    cases ho
    obtain ⟨rfl, hr⟩ := hh.newO (w' := w.alloc (.map #[] 0)) (g := w.heap.size) (k := 0) (o := .map #[] 0) (hh.stayAlloc _) hh.young (fun i c hc => Nat.ne_of_lt (hh.old hc)) (fun i c hc => Below.heap_alloc _ _ _ (hh.old hc)) (by show (w.heap.push _)[w.heap.size]? = _; simp)
      (show OR sz (R.add w.heap.size 0) R.N (.map [] 0) (.map #[] 0) from ⟨#[], rfl, .nil⟩) hn
    have hD : (R.add w.heap.size 0).D R.N := .inr rfl
    have hρ : (R.add w.heap.size 0).ρ R.N = w.heap.size := if_pos rfl
    refine ⟨_, _, .map (some w.heap.size), hh.add_ext _ _, hr, ?_, ?_⟩
    · have := SR.mp (R := R.add w.heap.size 0) R.N hD
      rw [hρ] at this
      exact .inl (.inl this)
    · rfl
def o_lenM (h : Hp) (ty : Ty) (t : Nat) (x : Value) : Option Value :=
  match desc ty t with
  | some (.map _ _) => match entsOf h x with
    | some es => some (goInt es.length)
    | none => none
  | _ => none
theorem o_lenM_is (T : TyOK P ty) (hh : HR sz w0 Φ R w h) {t u : Nat} {x x' v : Value} (hx : VR R x x') (ho : o_lenM h ty t x = some v) : Ok0 P R w v (Builtin.len_ #[t] u #[x']) := by
  unfold o_lenM at ho
  split at ho
  · rename_i kt et hd
    have hu := desc_is T hd
    split at ho
    · rename_i es hes
      cases ho
      unfold entsOf at hes
      split at hes
      · cases hes
        have e1 := hx.mapNone
        subst e1
        refine .same hh (.lit rfl) ?_
        simp [Builtin.len_, run_underlying hu]
      · rename_i i
        split at hes
        · rename_i es2 ck hb
          cases hes
          obtain ⟨e2, hD⟩ := hx.mapSome
          subst e2
          obtain ⟨_, _, es', h1, h2⟩ := hh.map hb
          have hg : (getObj (R.ρ i)).run P w = .ok (.map es' ck) w := by simp [getObj, Sem.run, h1]
          refine .same hh (.lit rfl) ?_
          have := h2.len
          simp at this
          simp [Builtin.len_, run_underlying hu, hg, this]
        · cases hes
      · cases hes
    · cases ho
  · cases ho
def o_cap (ty : Ty) (t : Nat) (x : Value) : Option Value :=
  match x, desc ty t with
  | .slice a n c, some (.slice _) => bif Nat.beq c many then none else some (goInt c)
  | _, _ => none
theorem o_cap_is (T : TyOK P ty) (hh : HR sz w0 Φ R w h) {t u : Nat} {x x' v : Value} (hx : VR R x x') (ho : o_cap ty t x = some v) : Ok0 P R w v (Builtin.cap_ #[t] u #[x']) := by
  unfold o_cap at ho
  split at ho
  · rename_i a n c e hd
    have hu := desc_is T hd
    cases hc : Nat.beq c many with
    | true => rw [hc] at ho; cases ho
    | false =>
      rw [hc] at ho
      cases ho
      have hne := Nat.ne_of_beq_eq_false hc
      have : ∃ b, x' = .slice b n c := by
        rcases hx with (hx | ⟨_, _, hx, _⟩) | ⟨_, _, hx, _⟩
        · cases hx with
          | lit _ hl => exact ⟨_, rfl⟩
          | sl _ _ _ _ _ _ => exact ⟨_, rfl⟩
          | slg _ _ _ _ _ _ _ _ => exact absurd rfl hne
          | sle _ _ => exact absurd rfl hne
        · cases hx
        · cases hx
      obtain ⟨b, rfl⟩ := this
      refine .same hh (.lit rfl) ?_
      simp [Builtin.cap_, run_underlying hu]
  · cases ho
/-- a closure is made -/
def sc (v : Value) : Bool := match v with
  | .agg _ => false
  | .tuple _ => false
  | v => base v
def o_makeFunc (fn : Fn) (f c : List Value) : Option Value :=
  match fn with
  | .func g => bif f.all sc && c.all sc then some (.func (.func g) f.toArray c.toArray) else none
  | _ => none
theorem VR.sc {R : Rn} {v v' : Value} (h : VR R v v') (hs : Go.Ev.sc v = true) : BR R v v' := by
  rcases h with (h | ⟨_, _, rfl, _⟩) | ⟨_, _, rfl, _⟩
  · refine h.br ?_
    unfold Go.Ev.sc at hs
    split at hs
    · cases hs
    · cases hs
    · exact hs
  · cases hs
  · cases hs
theorem A2.sc {R : Rn} {l l' : List Value} (h : A2 (VR R) l l') (hs : l.all Go.Ev.sc = true) : A2 (BR R) l l' :=
  ⟨h.1, fun i v hv => by
    obtain ⟨v', h1, h2⟩ := h.2 i v hv
    exact ⟨v', h1, h2.sc (List.all_eq_true.1 hs v (List.mem_of_getElem? hv))⟩⟩
theorem o_makeFunc_is (hh : HR sz w0 Φ R w h) {fn : Fn} {f c : List Value} {f' c' : Array Value} (hf : A2 (VR R) f f'.toList) (hc : A2 (VR R) c c'.toList) {v : Value} (ho : o_makeFunc fn f c = some v) : Ok0 P R w v (Instr.makeFunc fn f' c') := by
  unfold o_makeFunc at ho
  split at ho
  · rename_i g
    cases hs : f.all sc && c.all sc with
    | false => rw [hs] at ho; cases ho
    | true =>
      rw [hs] at ho
      cases ho
      rw [Bool.and_eq_true] at hs
      exact .same hh (.inl (.inl (.fn g _ _ f' c' (hf.sc hs.1) (hc.sc hs.2)))) rfl
  · cases ho
/-- a list is made -/
def newMk (ty : Ty) (t : Nat) (l c : Value) : Option (Nat × Nat × Nat × List Value) :=
  match l, c, desc ty t with
  | .int .i64 (.ofNat n), .int .i64 (.ofNat m), some (.slice e) => match ty.get e with
    | some i => match i.zero with
      | some z => match cellsOf z with
        | some zc => bif zc.all lit && Nat.ble n m && Nat.ble m 100000 && Nat.ble (m * i.bytes) 100000 && Nat.beq zc.length i.size && Nat.blt 0 i.size then some (n, m, e, zeros m zc) else none
        | none => none
      | none => none
    | none => none
  | _, _, _ => none
def o_makeSlice (ty : Ty) (h : Hp) (t : Nat) (l c : Value) : Option (Value × Hp) :=
  match newMk ty t l c with
  | some (n, m, e, cs) => match newA h (.row ⟨cs, e, false⟩) with
    | some (k, h') => some (.slice (some ⟨k, 0, none⟩) n m, h')
    | none => none
  | none => none
theorem newMk_is (T : TyOK P ty) {t : Nat} {l c l' c' : Value} (hl : VR R l l') (hc : VR R c c') {n0 m0 e0 : Nat} {cs : List Value} (ho : newMk ty t l c = some (n0, m0, e0, cs)) : n0 < many ∧ m0 < many ∧ ∃ r' : Array Value, A2 (SR R) cs r'.toList ∧ (Instr.makeSlice t l' c').run P w = .ok (.slice (some ⟨w.heap.size, 0, none⟩) n0 m0) (w.alloc (.cells r' e0)) := by
  unfold newMk at ho
  split at ho
  · rename_i n m e hd
    have hu := desc_is T hd
    rw [hl.int, hc.int]
    split at ho
    · rename_i it hi
      have hinf := T.ty e it hi
      split at ho
      · rename_i z hz
        split at ho
        · rename_i zc hzc
          cases hcc : zc.all lit && Nat.ble n m && Nat.ble m 100000 && Nat.ble (m * it.bytes) 100000 && Nat.beq zc.length it.size && Nat.blt 0 it.size with
          | false => rw [hcc] at ho; cases ho
          | true =>
            rw [hcc] at ho
            dsimp only [cond_true] at ho
            simp only [Bool.and_eq_true, Nat.ble_eq, Nat.blt_eq] at hcc
            obtain ⟨⟨⟨⟨⟨hc1, hc2⟩, hc3⟩, hc4⟩, hc5⟩, hc6⟩ := hcc
            have hzl := Nat.eq_of_beq_eq_true hc5
            · cases ho
              have hcz := cellsOf_cells hzc
              have hczs : z.cells.size = it.size := by rw [← hzl, ← hcz]; simp
              have hpos : 0 < zc.length := by omega
              have hmade : madeCells z.cells (m0 * it.size) = (Array.range (m0 * it.size)).map (z.cells[· % z.cells.size]!) := rfl
              have hbase : A2 (SR R) (zeros m0 zc) (madeCells z.cells (m0 * it.size)).toList := by
                rw [hmade]
                refine ⟨by rw [zeros_len, hzl]; simp, fun j x hx => ?_⟩
                have hj : j < m0 * zc.length := by have := (List.getElem?_eq_some_iff.1 hx).1; rwa [zeros_len] at this
                rw [zeros_get zc hpos m0 j hj] at hx
                refine ⟨x, ?_, .lit x (List.all_eq_true.1 hc1 x (List.mem_of_getElem? hx))⟩
                have hj2 : j < m0 * it.size := by rw [← hzl]; exact hj
                have hm : j % it.size < z.cells.size := by rw [hczs]; exact Nat.mod_lt _ (by omega)
                rw [hzl, ← hcz, Array.getElem?_toList] at hx
                simp [hj2, hczs]
                rw [getElem!_pos z.cells (j % it.size) hm]
                rw [Array.getElem?_eq_getElem hm] at hx
                exact Option.some.inj hx
              refine ⟨by unfold many; omega, by unfold many; omega, _, hbase, ?_⟩
              have hb : (it.bytes : Int) * (m0 : Int) ≤ 281474976710656 := by
                have : ((m0 * it.bytes : Nat) : Int) ≤ 100000 := by omega
                rw [Int.natCast_mul, Int.mul_comm] at this
                omega
              have := run_make (P := P) w t e0 it z hu hinf hz .i64 .i64 (n0 : Int) (m0 : Int) (by omega) (by omega) hb (by omega)
              simp only [Int.toNat_natCast] at this
              exact this
        · cases ho
      · cases ho
    · cases ho
  · cases ho
theorem o_makeSlice_is (T : TyOK P ty) (hh : HR sz w0 Φ R w h) {t : Nat} {l c l' c' v : Value} (hl : VR R l l') (hc : VR R c c') {h' : Hp} (ho : o_makeSlice ty h t l c = some (v, h')) : Ok P sz w0 Φ R w h' v (Instr.makeSlice t l' c') := by
  unfold o_makeSlice at ho
  split at ho
  · rename_i n m e cs hm
    split at ho
    · rename_i k h1 hn
      cases ho
      obtain ⟨h2, h3, r', h4, h5⟩ := newMk_is (P := P) (w := w) T hl hc hm
      obtain ⟨R', h6, h7, h8, h9⟩ := newCell hh h4 hn
      exact ⟨R', _, _, h6, h7, sl_new h7 h8 h9 n m h3, h5⟩
    · cases ho
  · cases ho
/-- a place of an array -/
def o_indexX (ty : Ty) (t : Nat) (x ix : Value) : Option Value :=
  match x with
  | .agg cs => match ix, desc ty t with
    | .int _ (.ofNat i), some (.array n e) => match size ty e with
      | some s => bif Nat.blt i n then fldAt ty e cs.toList (i * s) else none
      | none => none
    | _, _ => none
  | _ => o_index ty t x ix
theorem o_indexX_is (T : TyOK P ty) (hh : HR sz w0 Φ R w h) {t : Nat} {x x' ix ix' v : Value} (hx : VR R x x') (hi : VR R ix ix') (ho : o_indexX ty t x ix = some v) : Ok0 P R w v (Instr.index t x' ix') := by
  unfold o_indexX at ho
  split at ho
  · rename_i cs
    split at ho
    · rename_i k i n e hd
      have hu := desc_is T hd
      rw [hi.int]
      obtain ⟨cs', rfl, hcs⟩ := hx.agg
      split at ho
      · rename_i s hs
        cases hlt : Nat.blt i n with
        | false => rw [hlt] at ho; cases ho
        | true =>
          rw [hlt] at ho
          dsimp only [cond_true] at ho
          rw [Nat.blt_eq] at hlt
          obtain ⟨v', h1, h2⟩ := fldAt_is (P := P) T w hcs ho
          refine .same hh h1 ?_
          simp [Instr.index, run_underlying hu, asIntOf, size_is T w hs, h2, hlt]
      · cases ho
    · cases ho
  · exact o_index_is T hh hx hi ho
theorem o_makeMapR_is (hh : HR sz w0 Φ R w h) (T : TyOK P ty) {t kt et : Nat} (hd : desc ty t = some (.map kt et)) {k : IntKind} {n : Int} {x' : Value} (hx : VR R (.int k n) x') {v : Value} {h' : Hp} (ho : o_makeMap h = some (v, h')) : Ok P sz w0 Φ R w h' v (Instr.makeMap t (some x')) := by
  obtain ⟨R', w', v', h1, h2, h3, h4⟩ := o_makeMap_is (P := P) (t := t) hh ho
  refine ⟨R', w', v', h1, h2, h3, ?_⟩
  have hu := desc_is T hd
  rw [hx.int]
  have e : (Instr.makeMap t (some (.int k n))).run P w = (Instr.makeMap t none).run P w := by
    simp [Instr.makeMap, run_underlying hu, asInt, asIntOf]
  rw [e, h4]
theorem ER.filter {R : Rn} (p : Nat → Bool) {es : List (Value × Value × Nat)} {es' : List MapEntry} (he : ER R es es') : ER R (es.filter fun e => p e.2.2) (es'.filter fun e => p e.born) := by
  induction he with
  | nil => exact .nil
  | cons k v v' n l l' hv _ ih =>
    by_cases hp : p n = true
    · simp only [List.filter_cons, hp, if_true]
      exact .cons k v v' n _ _ hv ih
    · simp only [List.filter_cons, hp, if_false]
      exact ih
/-- a range over a map -/
def o_range (ty : Ty) (h : Hp) (t : Nat) (x : Value) : Option (Value × Hp) :=
  match desc ty t, x with
  | some (.map _ _), .map none => match newA h (.iter none 0 [] 0) with
    | some (i, h') => some (.pointer (some ⟨i, 0, none⟩), h')
    | none => none
  | some (.map _ _), .map (some m) => match h.heap.get m with
    | some (.map _ ck) => match newA h (.iter (some m) ck [] ck) with
      | some (i, h') => some (.pointer (some ⟨i, 0, none⟩), h')
      | none => none
    | _ => none
  | _, _ => none
theorem iter_new (hh : HR sz w0 Φ R w h) {m : Option Nat} {since : Nat} {seen : List Nat} {last : Nat} (hm : ∀ i, m = some i → R.D i) {i : Nat} {h' : Hp} (hn : newA h (.iter m since seen last) = some (i, h')) :
    ∃ R', Ext R R' ∧ HR sz w0 Φ R' (w.alloc (.mapIter (m.map R.ρ) since seen.toArray last)) h' ∧ VR R' (.pointer (some ⟨i, 0, none⟩)) (.pointer (some ⟨w.heap.size, 0, none⟩)) := by
  have hx := hh.add_ext w.heap.size 0
  obtain ⟨rfl, hr⟩ := hh.newO (w' := w.alloc (.mapIter (m.map R.ρ) since seen.toArray last)) (g := w.heap.size) (k := 0) (o := .mapIter (m.map R.ρ) since seen.toArray last) (hh.stayAlloc _) hh.young (fun i c hc => Nat.ne_of_lt (hh.old hc)) (fun i c hc => Below.heap_alloc _ _ _ (hh.old hc)) (by show (w.heap.push _)[w.heap.size]? = _; simp)
      (show OR sz (R.add w.heap.size 0) R.N (.iter m since seen last) (.mapIter (m.map R.ρ) since seen.toArray last) from ⟨by
        cases m with
        | none => rfl
        | some j => simp [hx.ρ j (hm j rfl)], fun j hj => hx.D j (hm j hj)⟩) hn
  exact ⟨_, hx, hr, ptr_new hr (.inr rfl) (if_pos rfl)⟩
theorem o_range_is (T : TyOK P ty) (hh : HR sz w0 Φ R w h) {t : Nat} {x x' : Value} (hx : VR R x x') {v : Value} {h' : Hp} (ho : o_range ty h t x = some (v, h')) : Ok P sz w0 Φ R w h' v (Instr.range t x') := by
  unfold o_range at ho
  split at ho
  · rename_i kt et hd
    have hu := desc_is T hd
    split at ho
    · rename_i i h1 hn
      cases ho
      have e1 := hx.mapNone
      subst e1
      obtain ⟨R', h2, h3, h4⟩ := iter_new hh (fun i hi => by cases hi) hn
      refine ⟨R', _, _, h2, h3, h4, ?_⟩
      simp only [Instr.range, Sem.run_bind, run_underlying hu, Result.andThen_ok, Sem.run_pure]
      rfl
    · cases ho
  · rename_i kt et m hd
    have hu := desc_is T hd
    split at ho
    · rename_i es ck hb
      split at ho
      · rename_i i h1 hn
        cases ho
        obtain ⟨e2, hD⟩ := hx.mapSome
        subst e2
        obtain ⟨_, _, es', h5, h6⟩ := hh.map hb
        have hg : (getObj (R.ρ m)).run P w = .ok (.map es' ck) w := by simp [getObj, Sem.run, h5]
        obtain ⟨R', h2, h3, h4⟩ := iter_new hh (fun i hi => by cases hi; exact hD) hn
        refine ⟨R', _, _, h2, h3, h4, ?_⟩
        simp only [Instr.range, Sem.run_bind, run_underlying hu, Result.andThen_ok, Sem.run_pure, hg]
        rfl
      · cases ho
    · cases ho
  · cases ho
def left (es : List (Value × Value × Nat)) (seen : List Nat) : List (Value × Value × Nat) := es.filter fun e => !memN e.2.2 seen
def o_next (h : Hp) (it : Value) : Option (Value × Hp) :=
  match it with
  | .pointer (some ⟨r, 0, none⟩) => match h.heap.get r with
    | some (.iter none _ _ _) => some (.tuple #[.bool false], h)
    | some (.iter (some m) since seen last) => match h.heap.get m with
      | some (.map es ck) => bif seen.isEmpty || es.any (fun e => Nat.blt e.2.2 last) then match left es seen with
          | [] => some (.tuple #[.bool false], ⟨h.heap.del r, h.next, h.tab⟩)
          | [(k, v, n)] => bif Nat.blt n since && flat k then some (.tuple #[.bool true, k, v], ⟨h.heap.put 40 r (.iter (some m) since (seen ++ [n]) ck), h.next, h.tab⟩) else none
          | _ => none
        else none
      | _ => none
    | _ => none
  | _ => none
theorem over_rel : VR R (.tuple #[.bool false]) (.tuple #[.bool false]) := .inr ⟨_, _, rfl, rfl, rfl, fun i x hx => by
  match i, hx with
  | 0, hx => cases hx; exact ⟨_, rfl, .inl (.lit _ rfl)⟩⟩
theorem memN_contains (n : Nat) (l : List Nat) : memN n l = l.toArray.contains n := by
  rw [Bool.eq_iff_iff, memN_iff, Array.contains_iff_mem]
  simp
theorem o_next_is (hh : HR sz w0 Φ R w h) {it it' : Value} {t : Nat} (hi : VR R it it') {v : Value} {h' : Hp} (ho : o_next h it = some (v, h')) : Ok P sz w0 Φ R w h' v (Instr.next it' false t) := by
  unfold o_next at ho
  split at ho
  · rename_i r
    obtain ⟨rfl, _, hN⟩ := hi.ptr
    split at ho
    · rename_i since seen last hb
      cases ho
      obtain ⟨hD, _, o, h1, h2, _⟩ := hh.blk _ _ hb
      have hra : ra R ⟨r, 0, none⟩ = ⟨R.ρ r, 0, none⟩ := by unfold ra; rw [rb_of hh hD]
      rw [hra]
      rw [h2] at h1
      have hg : (getObj (R.ρ r)).run P w = .ok (.mapIter none since seen.toArray last) w := by simp [getObj, Sem.run, h1]
      refine ⟨R, w, _, .refl R, hh, over_rel, ?_⟩
      simp [Instr.next, hg]
    · rename_i m since seen last hb
      obtain ⟨hD, hΦ, o, h1, h2, h2D⟩ := hh.blk _ _ hb
      have hra : ra R ⟨r, 0, none⟩ = ⟨R.ρ r, 0, none⟩ := by unfold ra; rw [rb_of hh hD]
      rw [hra]
      rw [h2] at h1
      have hg : (getObj (R.ρ r)).run P w = .ok (.mapIter (some (R.ρ m)) since seen.toArray last) w := by simp [getObj, Sem.run, h1]
      split at ho
      · rename_i es ck hbm
        obtain ⟨_, _, es', h5, hER⟩ := hh.map hbm
        have hgm : (getObj (R.ρ m)).run P w = .ok (.map es' ck) w := by simp [getObj, Sem.run, h5]
        cases hc : seen.isEmpty || es.any (fun e => Nat.blt e.2.2 last) with
        | false => rw [hc] at ho; cases ho
        | true =>
          rw [hc] at ho
          dsimp only [cond_true] at ho
          have hcond : (!seen.toArray.isEmpty && !es'.isEmpty && es'.all (fun e => decide (e.born ≥ last))) = false := by
            rw [Bool.or_eq_true] at hc
            rcases hc with hc | hc
            · rw [List.isEmpty_iff] at hc
              subst hc
              rfl
            · have : ∃ e' ∈ es'.toList, e'.born < last := by
                clear hbm h5 hgm ho
                generalize es'.toList = l at hER
                induction hER with
                | nil => cases hc
                | cons k u u' n l l' _ _ ih =>
                  rw [List.any_cons, Bool.or_eq_true] at hc
                  rcases hc with hc | hc
                  · exact ⟨_, List.mem_cons_self .., by simpa [Nat.blt_eq] using hc⟩
                  · obtain ⟨e', h1, h2⟩ := ih hc
                    exact ⟨e', List.mem_cons_of_mem _ h1, h2⟩
              obtain ⟨e', h6, h7⟩ := this
              have hall : es'.all (fun e => decide (e.born ≥ last)) = false := by
                rw [← Bool.not_eq_true, Array.all_eq_true_iff_forall_mem]
                intro hall
                have := hall e' (Array.mem_toList_iff.1 h6)
                simp at this
                omega
              rw [hall, Bool.and_false]
          have hleft := hER.filter (fun n => !memN n seen)
          have hfl : (es'.filter fun e => !seen.toArray.contains e.born).toList = es'.toList.filter fun e => !memN e.born seen := by
            rw [Array.toList_filter]
            congr 1
            funext e
            rw [memN_contains]
          rw [← hfl] at hleft
          generalize hL : (es'.filter fun e => !seen.toArray.contains e.born) = L at hleft
          change ER R (left es seen) L.toList at hleft
          split at ho
          · rename_i hl
            cases ho
            rw [hl] at hleft
            have hL0 : L = #[] := by generalize hq : L.toList = q at hleft; cases hleft; exact Array.ext' hq
            refine ⟨R, w, _, .refl R, hh.del r, over_rel, ?_⟩
            subst hL0
            simp only [Instr.next, Sem.run_bind, Sem.run_pure, Result.andThen_ok, hg, hgm, hcond, Bool.false_eq_true, if_false, hL]
            simp [Question.forced]
          · rename_i k u n hl
            cases hc2 : Nat.blt n since && flat k with
            | false => rw [hc2] at ho; cases ho
            | true =>
              rw [hc2] at ho
              cases ho
              rw [Bool.and_eq_true, Nat.blt_eq] at hc2
              rw [hl] at hleft
              have hL1 : ∃ u', VR0 R u u' ∧ L = #[⟨k, u', n⟩] := by
                generalize hq : L.toList = q at hleft
                cases hleft with
                | cons _ _ u' _ _ _ hu hnil =>
                  cases hnil
                  exact ⟨u', hu, Array.ext' hq⟩
              obtain ⟨u', hu, hL1⟩ := hL1
              subst hL1
              refine ⟨R, w.putObj (R.ρ r) (.mapIter (some (R.ρ m)) since (seen.toArray.push n) ck), .tuple #[.bool true, k, u'], .refl R, hh.putObj hb ⟨by simp, fun i hi => by cases hi; exact (hh.blk _ _ hbm).1⟩, ?_, ?_⟩
              · exact .inr ⟨_, _, rfl, rfl, rfl, fun i x hx => by
                  match i, hx with
                  | 0, hx => cases hx; exact ⟨_, rfl, .inl (.lit _ rfl)⟩
                  | 1, hx => cases hx; exact ⟨_, rfl, (VR.of_flat hc2.2).not_tup (by cases k <;> first | rfl | cases hc2.2)⟩
                  | 2, hx => cases hx; exact ⟨_, rfl, hu⟩⟩
              · have h3 : ¬ since ≤ n := by omega
                have h4 : (setObj (R.ρ r) (.mapIter (some (R.ρ m)) since (seen.toArray.push n) ck)).run P w = .ok () (w.putObj (R.ρ r) (.mapIter (some (R.ρ m)) since (seen.toArray.push n) ck)) := by simp [setObj, Sem.run, h1, World.putObj]
                simp only [Instr.next, Sem.run_bind, Sem.run_pure, Result.andThen_ok, hg, hgm, hcond, Bool.false_eq_true, if_false, hL]
                simp [Question.forced, hc2.1, h3]
                simp at h4
                rw [h4]
                simp
          · cases ho
      · cases ho
    · cases ho
  · cases ho
/-- a range of two entries left, or more: what may come next -/
def o_nextL (h : Hp) (it : Value) : Option (List (Value × Hp)) :=
  match it with
  | .pointer (some ⟨r, 0, none⟩) => match h.heap.get r with
    | some (.iter (some m) since seen last) => match h.heap.get m with
      | some (.map es ck) => bif (seen.isEmpty || es.any (fun e => Nat.blt e.2.2 last)) && Nat.blt 1 (left es seen).length && (left es seen).all (fun e => Nat.blt e.2.2 since && flat e.1) then
          some ((left es seen).map fun e => (.tuple #[.bool true, e.1, e.2.1], ⟨h.heap.put 40 r (.iter (some m) since (seen ++ [e.2.2]) ck), h.next, h.tab⟩))
        else none
      | _ => none
    | _ => none
  | _ => none
theorem ER.at {R : Rn} {es : List (Value × Value × Nat)} {es' : List MapEntry} (he : ER R es es') : ∀ {i : Nat} {e' : MapEntry}, es'[i]? = some e' → ∃ v, es[i]? = some (e'.key, v, e'.born) ∧ VR0 R v e'.val := by
  induction he with
  | nil => intro i e' h; cases h
  | cons k u u' n l l' hu _ ih =>
    intro i e' h
    cases i with
    | zero => cases h; exact ⟨u, rfl, hu⟩
    | succ i => exact ih h
theorem ER.length {R : Rn} {es : List (Value × Value × Nat)} {es' : List MapEntry} (he : ER R es es') : es.length = es'.length := by
  induction he with
  | nil => rfl
  | cons k u u' n l l' hu _ ih => simp [ih]
theorem o_nextL_is (hh : HR sz w0 Φ R w h) {it it' : Value} {t : Nat} (hi : VR R it it') {L : List (Value × Hp)} (ho : o_nextL h it = some L) :
    ∃ p ∈ L, ∃ R' w' v', Ext R R' ∧ HR sz w0 Φ R' w' p.2 ∧ VR R' p.1 v' ∧ (Instr.next it' false t).run P w = .ok v' w' := by
  unfold o_nextL at ho
  split at ho
  · rename_i r
    obtain ⟨rfl, _, hN⟩ := hi.ptr
    split at ho
    · rename_i m since seen last hb
      obtain ⟨hD, hΦ, o, h1, h2, h2D⟩ := hh.blk _ _ hb
      have hra : ra R ⟨r, 0, none⟩ = ⟨R.ρ r, 0, none⟩ := by unfold ra; rw [rb_of hh hD]
      rw [hra]
      rw [h2] at h1
      have hg : (getObj (R.ρ r)).run P w = .ok (.mapIter (some (R.ρ m)) since seen.toArray last) w := by simp [getObj, Sem.run, h1]
      split at ho
      · rename_i es ck hbm
        obtain ⟨_, _, es', h5, hER⟩ := hh.map hbm
        have hgm : (getObj (R.ρ m)).run P w = .ok (.map es' ck) w := by simp [getObj, Sem.run, h5]
        cases hc : (seen.isEmpty || es.any (fun e => Nat.blt e.2.2 last)) && Nat.blt 1 (left es seen).length && (left es seen).all (fun e => Nat.blt e.2.2 since && flat e.1) with
        | false => rw [hc] at ho; cases ho
        | true =>
          rw [hc] at ho
          cases ho
          rw [Bool.and_eq_true, Bool.and_eq_true, Nat.blt_eq] at hc
          obtain ⟨⟨hc, hlen⟩, hall⟩ := hc
          have hcond : (!seen.toArray.isEmpty && !es'.isEmpty && es'.all (fun e => decide (e.born ≥ last))) = false := by
            rw [Bool.or_eq_true] at hc
            rcases hc with hc | hc
            · rw [List.isEmpty_iff] at hc
              subst hc
              rfl
            · have : ∃ e' ∈ es'.toList, e'.born < last := by
                clear hbm h5 hgm hlen hall
                generalize es'.toList = l at hER
                induction hER with
                | nil => cases hc
                | cons k u u' n l l' _ _ ih =>
                  rw [List.any_cons, Bool.or_eq_true] at hc
                  rcases hc with hc | hc
                  · exact ⟨_, List.mem_cons_self .., by simpa [Nat.blt_eq] using hc⟩
                  · obtain ⟨e', h1, h2⟩ := ih hc
                    exact ⟨e', List.mem_cons_of_mem _ h1, h2⟩
              obtain ⟨e', h6, h7⟩ := this
              have hall : es'.all (fun e => decide (e.born ≥ last)) = false := by
                rw [← Bool.not_eq_true, Array.all_eq_true_iff_forall_mem]
                intro hall
                have := hall e' (Array.mem_toList_iff.1 h6)
                simp at this
                omega
              rw [hall, Bool.and_false]
          have hleft := hER.filter (fun n => !memN n seen)
          have hfl : (es'.filter fun e => !seen.toArray.contains e.born).toList = es'.toList.filter fun e => !memN e.born seen := by
            rw [Array.toList_filter]
            congr 1
            funext e
            rw [memN_contains]
          rw [← hfl] at hleft
          generalize hL : (es'.filter fun e => !seen.toArray.contains e.born) = L at hleft
          change ER R (left es seen) L.toList at hleft
          have hLs : (left es seen).length = L.size := by rw [hleft.length, Array.length_toList]
          have hborn : ∀ e' ∈ L, e'.born < since := fun e' he' => by
            obtain ⟨i, hi, rfl⟩ := Array.mem_iff_getElem.1 he'
            obtain ⟨v, hv, _⟩ := hleft.at (i := i) (e' := L[i]) (by simp)
            have := List.all_eq_true.1 hall _ (List.mem_of_getElem? hv)
            rw [Bool.and_eq_true, Nat.blt_eq] at this
            exact this.1
          have hold : (L.filter fun e => decide (e.born < since)) = L := Array.filter_eq_self.2 fun e he => by simpa using hborn e he
          have hnew : (L.filter fun e => decide (e.born ≥ since)) = #[] := by
            rw [Array.filter_eq_empty_iff]
            intro e he
            have := hborn e he
            simp
            omega
          have hne : L.isEmpty = false := by
            cases hq : L.isEmpty with
            | false => rfl
            | true => rw [Array.isEmpty_iff] at hq; subst hq; rw [hLs] at hlen; simp at hlen
          generalize hpk : Question.cut (.mapNext L.size) (w.tape w.drawn (.mapNext L.size)) = pk
          have hpl : pk < L.size := by rw [← hpk]; exact Nat.mod_lt _ (by omega)
          obtain ⟨u, hu1, hu2⟩ := hleft.at (i := pk) (e' := L[pk]) (by simp [hpl])
          have hmem := List.mem_of_getElem? hu1
          have hflat := List.all_eq_true.1 hall _ hmem
          rw [Bool.and_eq_true] at hflat
          refine ⟨_, List.mem_map.2 ⟨_, hmem, rfl⟩, R, w.drew.putObj (R.ρ r) (.mapIter (some (R.ρ m)) since (seen.toArray.push L[pk].born) ck), .tuple #[.bool true, L[pk].key, L[pk].val], .refl R,
            (hh.on (w' := w.drew) ⟨rfl, rfl, rfl, Nat.le_refl _, fun _ _ => rfl⟩ fun _ _ _ => rfl).putObj hb ⟨by simp, fun i hi => by cases hi; exact (hh.blk _ _ hbm).1⟩, ?_, ?_⟩
          · exact .inr ⟨_, _, rfl, rfl, rfl, fun i x hx => by
              match i, hx with
              | 0, hx => cases hx; exact ⟨_, rfl, .inl (.lit _ rfl)⟩
              | 1, hx => cases hx; exact ⟨_, rfl, (VR.of_flat hflat.2).not_tup (by have := hflat.2; revert this; generalize L[pk].key = k; intro h; cases k <;> first | rfl | cases h)⟩
              | 2, hx => cases hx; exact ⟨_, rfl, hu2⟩⟩
          · have h4 : (setObj (R.ρ r) (.mapIter (some (R.ρ m)) since (seen.toArray.push L[pk].born) ck)).run P w.drew = .ok () (w.drew.putObj (R.ρ r) (.mapIter (some (R.ρ m)) since (seen.toArray.push L[pk].born) ck)) := by
              have h1' : w.drew.heap[R.ρ r]? = some (.mapIter (some (R.ρ m)) since seen.toArray last) := h1
              simp [setObj, Sem.run, h1', World.putObj]
            have hforced : Question.forced (.mapNext L.size) = false := by
              show decide (L.size ≤ 1) = false
              exact decide_eq_false (by omega)
            have hcand : ((L.map some : Array (Option MapEntry)))[pk]? = some (some L[pk]) := by simp [hpl]
            simp only [Instr.next, Sem.run_bind, Sem.run_pure, Result.andThen_ok, hg, hgm, hcond, Bool.false_eq_true, if_false, hL, hold, hnew, hne, Array.empty_append, Array.append_empty, Array.size_map, run_choose_drew, hforced, hpk, hcand, h4]
      · cases ho
    · cases ho
  · cases ho
/-- the entry where a range stands -/
def findE : List (Value × Value × Nat) → Nat → Option (Value × Value)
  | [], _ => none
  | (k, v, m) :: l, n => bif Nat.beq m n then some (k, v) else findE l n
theorem findE_is {es : List (Value × Value × Nat)} {es' : List MapEntry} (he : ER R es es') {n : Nat} : ∀ {k v : Value}, findE es n = some (k, v) → ∃ e, es'.find? (fun e => e.born == n) = some e ∧ e.key = k ∧ VR0 R v e.val := by
  induction he with
  | nil => intro k v h; cases h
  | cons k2 u u' m l l' hu _ ih =>
    intro k v h
    unfold findE at h
    by_cases e : m = n
    · subst e
      rw [show Nat.beq m m = true by rw [Tr.beq_iff]; exact decide_eq_true rfl] at h
      cases h
      exact ⟨⟨_, u', m⟩, by simp, rfl, hu⟩
    · rw [show Nat.beq m n = false by rw [Tr.beq_iff]; exact decide_eq_false e] at h
      obtain ⟨e', h1, h2⟩ := ih h
      exact ⟨e', by simp [e, h1], h2⟩
def o_entry (h : Hp) (it : Value) : Option Value :=
  match it with
  | .pointer (some ⟨r, 0, none⟩) => match h.heap.get r with
    | some (.iter (some m) _ seen last) => match h.heap.get m, seen.getLast? with
      | some (.map es ck), some n => bif Nat.beq ck last then match findE es n with
          | some (k, v) => bif flat k then some (.tuple #[k, v]) else none
          | none => none
        else none
      | _, _ => none
    | _ => none
  | _ => none
theorem o_entry_is (hh : HR sz w0 Φ R w h) {it it' v : Value} (hi : VR R it it') (ho : o_entry h it = some v) : Ok0 P R w v (Instr.entry it') := by
  unfold o_entry at ho
  split at ho
  · rename_i r
    obtain ⟨rfl, _, hN⟩ := hi.ptr
    split at ho
    · rename_i m since seen last hb
      obtain ⟨hD, hΦ, o, h1, h2, h2D⟩ := hh.blk _ _ hb
      have hra : ra R ⟨r, 0, none⟩ = ⟨R.ρ r, 0, none⟩ := by unfold ra; rw [rb_of hh hD]
      rw [hra]
      rw [h2] at h1
      have hg : (getObj (R.ρ r)).run P w = .ok (.mapIter (some (R.ρ m)) since seen.toArray last) w := by simp [getObj, Sem.run, h1]
      split at ho
      · rename_i es ck n hbm hn
        obtain ⟨_, _, es', h5, hER⟩ := hh.map hbm
        have hgm : (getObj (R.ρ m)).run P w = .ok (.map es' ck) w := by simp [getObj, Sem.run, h5]
        cases hc : Nat.beq ck last with
        | false => rw [hc] at ho; cases ho
        | true =>
          rw [hc] at ho
          dsimp only [cond_true] at ho
          have hck := Nat.eq_of_beq_eq_true hc
          subst hck
          split at ho
          · rename_i k u hf
            cases hk : flat k with
            | false => rw [hk] at ho; cases ho
            | true =>
              rw [hk] at ho
              cases ho
              obtain ⟨e, h6, h7, h8⟩ := findE_is hER hf
              have hback : seen.toArray.back? = some n := by rw [List.back?_toArray]; exact hn
              have hfind : es'.find? (fun e => e.born == n) = some e := by rw [← Array.find?_toList]; exact h6
              refine .same hh (v' := .tuple #[k, e.val]) (.inr ⟨_, _, rfl, rfl, rfl, fun i x hx => by
                match i, hx with
                | 0, hx => cases hx; exact ⟨_, rfl, (VR.of_flat hk).not_tup (by cases k <;> first | rfl | cases hk)⟩
                | 1, hx => cases hx; exact ⟨_, rfl, h8⟩⟩) ?_
              simp only [Instr.entry, Sem.run_bind, Sem.run_pure, Result.andThen_ok, hg, hgm, hback]
              simp [hfind, h7]
          · cases ho
      · cases ho
    · cases ho
  · cases ho
end
end Go.Ev
