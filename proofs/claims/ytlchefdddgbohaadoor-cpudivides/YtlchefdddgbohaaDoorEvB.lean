/- The evaluator's structs and lists built of parts. -/
import Derived.Test.YtlchefdddgbohaaDoorEvL
import Derived.Great.BuildSlice
noncomputable section
namespace Go.Ev
open Go.RowKit
set_option linter.unusedVariables false
set_option linter.unusedSimpArgs false
def fillA (place : Nat → Option (Nat × Nat)) : List Value → List (Nat × Value) → Option (List Value)
  | cs, [] => some cs
  | cs, (i, v) :: r => match place i, cellsOf v with
    | some (off, n), some l => bif Nat.beq l.length n && Nat.ble (off + n) cs.length then fillA place (cs.take off ++ l ++ cs.drop (off + n)) r else none
    | _, _ => none
inductive PR (R : Rn) : List (Nat × Value) → List (Nat × Value) → Prop
  | nil : PR R [] []
  | cons (i : Nat) (v v' : Value) (l l' : List (Nat × Value)) : VR R v v' → PR R l l' → PR R ((i, v) :: l) ((i, v') :: l')
theorem fold_set (off : Nat) : ∀ (l : List Value) (k : Nat) (arr : Array Value), ((l.zipIdx k).foldl (fun cs c => cs.setIfInBounds (off + c.2) c.1) arr).size = arr.size ∧
    ∀ i, ((l.zipIdx k).foldl (fun cs c => cs.setIfInBounds (off + c.2) c.1) arr)[i]? = if off + k ≤ i ∧ i < off + k + l.length ∧ i < arr.size then l[i - (off + k)]? else arr[i]?
  | [], k, arr => ⟨rfl, fun i => by rw [if_neg (by simp; omega)]; rfl⟩
  | v :: l, k, arr => by
    rw [List.zipIdx_cons, List.foldl_cons]
    obtain ⟨h1, h2⟩ := fold_set off l (k + 1) (arr.setIfInBounds (off + k) v)
    refine ⟨by rw [h1]; simp, fun i => ?_⟩
    rw [h2]
    simp only [Array.size_setIfInBounds, List.length_cons]
    by_cases c : off + (k + 1) ≤ i ∧ i < off + (k + 1) + l.length ∧ i < arr.size
    · rw [if_pos c, if_pos (by omega), show i - (off + k) = (i - (off + (k + 1))) + 1 by omega]
      rfl
    · rw [if_neg c]
      by_cases e : i = off + k
      · subst e
        by_cases hs : off + k < arr.size
        · rw [if_pos (by omega), Array.getElem?_setIfInBounds_self_of_lt hs, Nat.sub_self]
          rfl
        · rw [if_neg (by omega), Array.getElem?_eq_none (by simp; omega), Array.getElem?_eq_none (by omega)]
      · rw [Array.getElem?_setIfInBounds_ne (fun h => e h.symm), if_neg (by omega)]
section
variable {P : Program} {ty : Ty} {sz : Nat → Nat} {w0 : World} {Φ : Fx} {R : Rn} {w : World} {h : Hp}
theorem fill_is (place : Nat → Option (Nat × Nat)) {ps ps' : List (Nat × Value)} (hp : PR R ps ps') : ∀ (cs : List Value) (cs' : Array Value) (r : List Value), A2 (SR R) cs cs'.toList → fillA place cs ps = some r →
    ∃ r', Instr.fill place cs' ps' = some r' ∧ A2 (SR R) r r'.toList := by
  induction hp with
  | nil => intro cs cs' r hc h; cases h; exact ⟨cs', rfl, hc⟩
  | cons i v v' l l' hv _ ih =>
    intro cs cs' r hc h
    unfold fillA at h
    split at h
    · rename_i off n lv hpl hcl
      cases hb : Nat.beq lv.length n && Nat.ble (off + n) cs.length with
      | false => rw [hb] at h; cases h
      | true =>
        rw [hb] at h
        dsimp only [cond_true] at h
        rw [Bool.and_eq_true, Nat.ble_eq] at hb
        have hln := Nat.eq_of_beq_eq_true hb.1
        have hle := hb.2
        have hv' := cellsOf_is hv hcl
        have hvs : v'.cells.size = n := by have := hv'.1; simp at this; omega
        have hcs : cs.length = cs'.size := by have := hc.1; simpa using this
        unfold Instr.fill
        rw [hpl]
        dsimp only
        rw [if_neg (by simp [hvs]; omega)]
        refine ih _ _ r ?_ h
        have hfold : (v'.cells.zipIdx.foldl (fun cs (x : Value × Nat) => match x with | (c, j) => cs.setIfInBounds (off + j) c) cs') = (v'.cells.toList.zipIdx 0).foldl (fun cs c => cs.setIfInBounds (off + c.2) c.1) cs' := by
          rw [← Array.foldl_toList, Array.toList_zipIdx]
        rw [hfold]
        obtain ⟨h1, h2⟩ := fold_set off v'.cells.toList 0 cs'
        refine ⟨by simp [h1, hcs]; omega, fun j x hx => ?_⟩
        rw [Array.getElem?_toList, h2]
        simp only [List.getElem?_append, List.length_append, List.length_take] at hx
        rw [show min off cs.length = off by omega] at hx
        by_cases c1 : j < off
        · rw [if_pos (by omega), if_pos c1, List.getElem?_take, if_pos c1] at hx
          rw [if_neg (by omega), ← Array.getElem?_toList]
          exact hc.2 j x hx
        · by_cases c2 : j < off + n
          · rw [if_pos (by omega), if_neg c1] at hx
            have hsz : v'.cells.toList.length = n := by simpa using hvs
            rw [if_pos (by omega), Nat.add_zero]
            exact hv'.2 _ x hx
          · rw [if_neg (by omega), List.getElem?_drop, show off + n + (j - (off + lv.length)) = j by omega] at hx
            have hsz : v'.cells.toList.length = n := by simpa using hvs
            rw [if_neg (by omega), ← Array.getElem?_toList]
            exact hc.2 j x hx
    · cases h
def placesL (ty : Ty) : List Field → Option (List (Nat × Nat))
  | [] => some []
  | f :: r => match size ty f.type, placesL ty r with
    | some n, some l => some ((f.offset, n) :: l)
    | _, _ => none
theorem size_info (T : TyOK P ty) {t n : Nat} (h : size ty t = some n) : ∃ i, P.info? t = some i ∧ i.size = n := by
  unfold size at h
  cases hi : ty.get t with
  | none => rw [hi] at h; cases h
  | some i => rw [hi] at h; cases h; exact ⟨i, T.ty t i hi, rfl⟩
theorem placesL_is (T : TyOK P ty) : ∀ (fs : List Field) (l : List (Nat × Nat)), placesL ty fs = some l → fs.mapM (fun f => (P.info? f.type).map fun i => (f.offset, i.size)) = some l
  | [], l, h => by cases h; rfl
  | f :: r, l, h => by
    unfold placesL at h
    split at h
    · rename_i n l' hn hl
      cases h
      obtain ⟨i, h1, h2⟩ := size_info T hn
      simp [List.mapM_cons, h1, h2, placesL_is T r l' hl]
    · cases h
theorem zero_info (T : TyOK P ty) {t : Nat} {z : Value} (h : zero ty t = some z) : ∃ i, P.info? t = some i ∧ i.zero = some z := by
  unfold zero at h
  cases hi : ty.get t with
  | none => rw [hi] at h; cases h
  | some i => rw [hi] at h; exact ⟨i, T.ty t i hi, h⟩
def o_build (ty : Ty) (t : Nat) (ps : List (Nat × Value)) : Option Value :=
  match desc ty t, zero ty t with
  | some (.struct fs), some z => match placesL ty fs.toList, cellsOf z with
    | some pl, some zc => bif zc.all lit then (match fillA (fun i => pl[i]?) zc ps with
        | some cs => some (.agg cs.toArray)
        | none => none) else none
    | _, _ => none
  | some (.array _ e), some z => match size ty e, cellsOf z with
    | some s, some zc => bif zc.all lit then (match fillA (fun i => some (i * s, s)) zc ps with
        | some cs => some (.agg cs.toArray)
        | none => none) else none
    | _, _ => none
  | _, _ => none
theorem o_build_is (T : TyOK P ty) (hh : HR sz w0 Φ R w h) {t : Nat} {ps : List (Nat × Value)} {ps' : Array (Nat × Value)} (hp : PR R ps ps'.toList) {v : Value} (ho : o_build ty t ps = some v) : Ok0 P R w v (Instr.build t ps') := by
  have fin : ∀ (place : Nat → Option (Nat × Nat)) (z : Value) (zc : List Value), cellsOf z = some zc → (∀ cells, Instr.fill place z.cells ps'.toList = some cells → P.built t ps'.toList = some cells) →
      (bif zc.all lit then (match fillA place zc ps with | some cs => some (Value.agg cs.toArray) | none => none) else none) = some v → Ok0 P R w v (Instr.build t ps') := fun place z zc hzc hbt he => by
    cases hl : zc.all lit with
    | false => rw [hl] at he; cases he
    | true =>
      rw [hl] at he
      dsimp only [cond_true] at he
      cases hf : fillA place zc ps with
      | none => rw [hf] at he; cases he
      | some cs =>
        rw [hf] at he
        cases he
        obtain ⟨r', h1, h2⟩ := fill_is place hp zc z.cells cs (by rw [cellsOf_cells hzc]; exact A2.lits hl) hf
        exact .same hh (.inl (.inr ⟨_, r', rfl, rfl, h2⟩)) (run_build w t ps' r' (hbt r' h1))
  unfold o_build at ho
  split at ho
  · rename_i fs z hd hz
    have hu := desc_is T hd
    obtain ⟨it, hi1, hi2⟩ := zero_info T hz
    split at ho
    · rename_i pl zc hpl hzc
      refine fin _ z zc hzc (fun cells hc => ?_) ho
      unfold Program.built
      rw [hi1, hu]
      dsimp only
      rw [hi2, placesL_is T _ _ hpl]
      dsimp only
      rw [← hc]
      congr 1
      funext i
      simp
    · cases ho
  · rename_i n e z hd hz
    have hu := desc_is T hd
    obtain ⟨it, hi1, hi2⟩ := zero_info T hz
    split at ho
    · rename_i s zc hs hzc
      obtain ⟨ie, he1, he2⟩ := size_info T hs
      refine fin _ z zc hzc (fun cells hc => ?_) ho
      unfold Program.built
      rw [hi1, hu]
      dsimp only
      rw [hi2, he1]
      dsimp only
      rw [he2]
      exact hc
    · cases ho
  · cases ho
/-- so many of one -/
def zeros : Nat → List Value → List Value
  | 0, _ => []
  | n + 1, z => z ++ zeros n z
def o_buildNone (ty : Ty) (h : Hp) (t : Nat) : Option (Value × Hp) :=
  match desc ty t with
  | some (.slice e) => match size ty e, newA h (.row ⟨[], e, false⟩) with
    | some _, some (i, h') => some (.slice (some ⟨i, 0, none⟩) 0 0, h')
    | _, _ => none
  | _ => none
theorem o_buildNone_is (T : TyOK P ty) (hh : HR sz w0 Φ R w h) {t : Nat} {v : Value} {h' : Hp} (ho : o_buildNone ty h t = some (v, h')) : Ok P sz w0 Φ R w h' v (Instr.buildSlice t 0 #[]) := by
  unfold o_buildNone at ho
  split at ho
  · rename_i e hd
    have hu := desc_is T hd
    split at ho
    · rename_i s i h1 hs hn
      cases ho
      obtain ⟨R', h4, h5, h6, h7⟩ := newCell hh (cur := #[]) ⟨rfl, fun i v hv => (by cases hv)⟩ hn
      refine ⟨R', _, .slice (some ⟨w.heap.size, 0, none⟩) 0 0, h4, h5, ?_, ?_⟩
      · exact sl_new h5 h6 h7 0 0 (by unfold many; omega)
      · simp [Instr.buildSlice, run_underlying hu, size_is T w hs, Instr.fill, newRow]
        have e0 : Array.range 0 = #[] := by decide
        rw [e0, Array.map_empty]
    · cases ho
  · cases ho
def o_buildSlice (ty : Ty) (h : Hp) (t len : Nat) (ps : List (Nat × Value)) : Option (Value × Hp) :=
  bif Nat.beq len 0 && ps.isEmpty then o_buildNone ty h t else
  match desc ty t with
  | some (.slice e) => match size ty e, zero ty e with
    | some s, some z => match cellsOf z with
      | some zc => bif zc.all lit && Nat.ble (len * s) 10000 && Nat.blt 0 (len * s) && Nat.beq zc.length s then match fillA (fun i => some (i * s, s)) (zeros len zc) ps with
          | some cs => match newA h (.row ⟨cs, e, false⟩) with
            | some (i, h') => some (.slice (some ⟨i, 0, none⟩) len len, h')
            | none => none
          | none => none
        else none
      | none => none
    | _, _ => none
  | _ => none
theorem zeros_len (z : List Value) : ∀ n, (zeros n z).length = n * z.length
  | 0 => by simp [zeros]
  | n + 1 => by rw [zeros, List.length_append, zeros_len z n, Nat.succ_mul, Nat.add_comm]
theorem zeros_get (z : List Value) (hz : 0 < z.length) : ∀ n i, i < n * z.length → (zeros n z)[i]? = z[i % z.length]?
  | 0, i, h => by simp at h
  | n + 1, i, h => by
    rw [zeros, List.getElem?_append]
    by_cases c : i < z.length
    · rw [if_pos c, Nat.mod_eq_of_lt c]
    · rw [if_neg c, zeros_get z hz n _ (by rw [Nat.succ_mul] at h; omega), ← Nat.mod_eq_sub_mod (by omega)]
theorem o_buildSlice_is (T : TyOK P ty) (hh : HR sz w0 Φ R w h) {t len : Nat} {ps : List (Nat × Value)} {ps' : Array (Nat × Value)} (hp : PR R ps ps'.toList) {v : Value} {h' : Hp} (ho : o_buildSlice ty h t len ps = some (v, h')) :
    Ok P sz w0 Φ R w h' v (Instr.buildSlice t len ps') := by
  unfold o_buildSlice at ho
  cases hnone : Nat.beq len 0 && ps.isEmpty with
  | true =>
  rw [hnone] at ho
  rw [Bool.and_eq_true, List.isEmpty_iff] at hnone
  obtain ⟨k1, k2⟩ := hnone
  have k3 := Nat.eq_of_beq_eq_true k1
  subst k3
  subst k2
  have k4 : ps' = #[] := Array.ext' (by generalize ps'.toList = q at hp; cases hp; rfl)
  subst k4
  exact o_buildNone_is T hh ho
  | false =>
  rw [hnone] at ho
  dsimp only [cond_false] at ho
  split at ho
  · rename_i e hd
    have hu := desc_is T hd
    split at ho
    · rename_i s z hs hz
      split at ho
      · rename_i zc hzc
        cases hc : zc.all lit && Nat.ble (len * s) 10000 && Nat.blt 0 (len * s) && Nat.beq zc.length s with
        | false => rw [hc] at ho; cases ho
        | true =>
          rw [hc] at ho
          dsimp only [cond_true] at ho
          simp only [Bool.and_eq_true, Nat.ble_eq, Nat.blt_eq] at hc
          obtain ⟨⟨⟨hc1, hc2⟩, hc3⟩, hc4⟩ := hc
          have hzl := Nat.eq_of_beq_eq_true hc4
          cases hf : fillA (fun i => some (i * s, s)) (zeros len zc) ps with
          | none => rw [hf] at ho; cases ho
          | some cs =>
            rw [hf] at ho
            dsimp only at ho
            cases hn : newA h (.row ⟨cs, e, false⟩) with
            | none => rw [hn] at ho; cases ho
            | some p =>
              obtain ⟨i, h1⟩ := p
              rw [hn] at ho
              cases ho
              obtain ⟨it, hi1, hi2⟩ := zero_info T hz
              obtain ⟨it2, hj1, hj2⟩ := size_info T hs
              rw [hi1] at hj1
              cases hj1
              subst hj2
              have hcz := cellsOf_cells hzc
              have hczs : z.cells.size = it.size := by rw [← hzl, ← hcz]; simp
              have hpos : 0 < zc.length := by
                rcases Nat.eq_zero_or_pos zc.length with h0 | h0
                · rw [hzl] at h0; rw [h0] at hc3; simp at hc3
                · exact h0
              have hbase : A2 (SR R) (zeros len zc) ((Array.range (len * it.size)).map (z.cells[· % z.cells.size]!)).toList := by
                refine ⟨by rw [zeros_len, hzl]; simp, fun j x hx => ?_⟩
                have hj : j < len * zc.length := by have := (List.getElem?_eq_some_iff.1 hx).1; rwa [zeros_len] at this
                rw [zeros_get zc hpos len j hj] at hx
                refine ⟨x, ?_, .lit x (List.all_eq_true.1 hc1 x (List.mem_of_getElem? hx))⟩
                have hj2 : j < len * it.size := by rw [← hzl]; exact hj
                have hm : j % it.size < z.cells.size := by rw [hczs]; exact Nat.mod_lt _ (by omega)
                rw [hzl, ← hcz, Array.getElem?_toList] at hx
                simp [hj2, hczs]
                rw [getElem!_pos z.cells (j % it.size) hm]
                rw [Array.getElem?_eq_getElem hm] at hx
                exact Option.some.inj hx
              obtain ⟨r', h2, h3⟩ := fill_is _ hp _ _ cs hbase hf
              obtain ⟨R', h4, h5, h6, h7⟩ := newCell hh (cur := r') h3 hn
              have hr := run_buildSlice (P := P) w t e len ps' r' it z hu hi1 hi2 (by omega) (by omega) h2
              refine ⟨R', _, _, h4, h5, ?_, hr⟩
              exact sl_new h5 h6 h7 len len (by
                have : len ≤ len * it.size := Nat.le_mul_of_pos_right _ (by omega)
                unfold many; omega)
      · cases ho
    · cases ho
  · cases ho
end
end Go.Ev
