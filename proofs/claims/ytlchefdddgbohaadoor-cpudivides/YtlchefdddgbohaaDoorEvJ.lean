/- The evaluator's texts as bytes: appended, made of bytes; the least of two. -/
import Derived.Test.YtlchefdddgbohaaDoorEvI
import Derived.Lib.AppendStr
import Derived.Laws.BytesString
noncomputable section
namespace Go.Ev
open Go.RowKit Go.MapKept
set_option linter.unusedVariables false
set_option linter.unusedSimpArgs false
def byteVs (s : ByteArray) : List Value := s.data.toList.map fun b => .int .u8 b.toNat
def o_appendS (ty : Ty) (h : Hp) (t t2 : Nat) (x y : Value) : Option (Value × Hp) :=
  match desc ty t, desc ty t2, x, y with
  | some (.slice e), some .string, .slice bx n cx, .string s => match ty.get e with
    | some i => match i.zero with
      | some (.int .u8 0) => bif Nat.beq i.size 1 && Nat.beq i.bytes 1 && Nat.blt 0 s.data.toList.length && Nat.ble (n + s.data.toList.length) 1000000 then
          match appOld h e i.size bx n cx with
          | some (old, h1) => match newA h1 (.row ⟨old ++ byteVs s, e, true⟩) with
            | some (k, h2) => some (.slice (some ⟨k, 0, none⟩) (n + s.data.toList.length) many, h2)
            | none => none
          | none => none
        else none
      | _ => none
    | none => none
  | _, _, _, _ => none
section
variable {P : Program} {ty : Ty} {sz : Nat → Nat} {w0 : World} {Φ : Fx} {R : Rn} {w : World} {h : Hp}
theorem appS_where (w : World) (base : Nat) (t u tt e : TypeId) (i : TypeInfo) (ht : P.underlying t = some (.slice e)) (hu : P.underlying u = some .string) (hi : P.info? e = some i) (hz : i.zero = some (.int .u8 0)) (hs1 : i.size = 1) (hb1 : i.bytes = 1)
    (v : Value) (n : Nat) (xs : List Value) (hown : w.ownsRow base e 1 v n xs) (s : ByteArray) (h63 : n + s.size ≤ maxLen) (hbytes : n + s.size ≤ 140737488355328) (hm : 0 < s.size) {v' : Value} {w' : World}
    (hr : (Builtin.append_ #[t, u] tt #[v, .string s]).run P w = .ok v' w') : v'.ownBlock = v.ownBlock ∨ v'.ownBlock = some w.heap.size := by
  rcases hown.2 with ⟨rfl, rfl⟩ | ⟨g, cap, cur, rfl, hbg, hg, hnc, hcm, hcs, htake⟩
  · rw [run_append_nil_string (P := P) w t u tt e i _ ht hu hi hz s hm (by omega) (by rw [hb1]; omega)] at hr
    cases hr
    exact .inr rfl
  · by_cases hroom : n + s.size ≤ cap
    · rw [Lib.run_append_room_string (P := P) w t u tt e i ht hu hi hs1 g n cap cur hg s hroom (by rw [hcs]; omega)] at hr
      cases hr
      exact .inl rfl
    · have hxl : xs.length = n * i.size := by rw [hs1]; simpa using hown.1
      have hcell := hown.cells (g := g) rfl
      rw [Lib.run_append_grow_string (P := P) w t u tt e i _ ht hu hi hz ⟨g, 0, none⟩ n cap xs hxl hcell s (by omega) (by unfold maxLen at h63; omega) (growslice_fits (by omega) (by rw [hb1]; omega))] at hr
      cases hr
      exact .inr rfl
theorem byteVs_is (s : ByteArray) : byteVs s = Lib.strCells s := by
  unfold byteVs Lib.strCells
  rfl
theorem o_appendS_is (T : TyOK P ty) (hS : SzOK ty sz) (hh : HR sz w0 Φ R w h) {t t2 u : Nat} {x y x' y' v : Value} {h' : Hp} (hx : VR R x x') (hy : VR R y y') (ho : o_appendS ty h t t2 x y = some (v, h')) :
    Ok P sz w0 Φ R w h' v (Builtin.append_ #[t, t2] u #[x', y']) := by
  unfold o_appendS at ho
  split at ho
  · rename_i e bx n cx s hd hd2
    have hu := desc_is T hd
    have hu2 := desc_is T hd2
    have e1 := hy.str
    subst e1
    split at ho
    · rename_i i hi
      have hinf := T.ty e i hi
      split at ho
      · rename_i hz
        cases hc : Nat.beq i.size 1 && Nat.beq i.bytes 1 && Nat.blt 0 s.data.toList.length && Nat.ble (n + s.data.toList.length) 1000000 with
        | false => rw [hc] at ho; cases ho
        | true =>
          rw [hc] at ho
          dsimp only [cond_true] at ho
          simp only [Bool.and_eq_true, Nat.ble_eq, Nat.blt_eq] at hc
          obtain ⟨⟨⟨hc1, hc2⟩, hc3⟩, hc4⟩ := hc
          have hs1 := Nat.eq_of_beq_eq_true hc1
          have hb1 := Nat.eq_of_beq_eq_true hc2
          have hsl : s.data.toList.length = s.size := rfl
          rw [hsl] at hc3 hc4
          cases hold : appOld h e i.size bx n cx with
          | none => rw [hold] at ho; cases ho
          | some p =>
            obtain ⟨old, h1⟩ := p
            rw [hold] at ho
            dsimp only at ho
            cases hnew : newA h1 (.row ⟨old ++ byteVs s, e, true⟩) with
            | none => rw [hnew] at ho; cases ho
            | some q =>
              obtain ⟨k, h2⟩ := q
              rw [hnew] at ho
              cases ho
              obtain ⟨old', ho1, hown, hfr, hh1, hne⟩ := appOld_is hS hh hi hx hold
              rw [hs1] at hown
              have hml : n + s.size ≤ maxLen := by unfold maxLen; omega
              obtain ⟨v', w', hr, hown', hgr, hnil⟩ := Lib.run_append_own_string (P := P) w 0 t t2 u e i hu hu2 hinf hz hs1 hb1 x' n old' hown s hml (by omega) (Nat.zero_le _)
              have hw := appS_where (P := P) w 0 t t2 u e i hu hu2 hinf hz hs1 hb1 x' n old' hown s hml (by omega) hc3 hr
              rcases hown'.2 with ⟨rfl, h0⟩ | ⟨g, cap, cur, rfl, hbg, hg, hnc, hcm, hcs, htake⟩
              · omega
              have hgw : ∀ k c, h1.heap.get k = some c → R.ρ k ≠ g := fun k c hk e => by
                rcases hw with hw | hw
                · exact hne k c hk (by rw [e, ← hw]; rfl)
                · have := hh1.old hk
                  have e2 : g = w.heap.size := Option.some.inj hw
                  omega
              have hA : A2 (SR R) (old ++ byteVs s) (old' ++ Lib.strCells s) := by
                rw [byteVs_is]
                refine ⟨by simp [ho1.1], fun j v hv => ?_⟩
                rw [List.getElem?_append] at hv ⊢
                rw [← ho1.1]
                by_cases c : j < old.length
                · rw [if_pos c] at hv ⊢; exact ho1.2 j v hv
                · rw [if_neg c] at hv ⊢
                  refine ⟨v, hv, .lit v ?_⟩
                  have := List.mem_of_getElem? hv
                  rw [← byteVs_is] at this
                  unfold byteVs at this
                  obtain ⟨b, _, rfl⟩ := List.mem_map.1 this
                  rfl
              have hxe := hh1.add_ext g cap
              obtain ⟨rfl, hR⟩ := hh1.new (w' := w') (g := g) (k := cap) (b := ⟨old ++ byteVs s, e, true⟩) (cur := cur) (hh1.stayGrown hgr hfr) (fun hk => by
                  rcases hw with hw | hw
                  · exact hfr g (by rw [← hw]; rfl) hk
                  · have e2 : g = w.heap.size := Option.some.inj hw
                    exact hh.young (e2 ▸ hk)) hgw hg
                (fun k c hk => hgr.block _ (hh1.old hk) (hne k c hk))
                (fun j v hv => by
                  obtain ⟨v', h3, h4⟩ := hA.2 j v hv
                  refine ⟨v', ?_, h4⟩
                  rw [← htake, List.getElem?_take] at h3
                  split at h3
                  · rwa [Array.getElem?_toList] at h3
                  · cases h3) (fun hx => by cases hx) (fun _ => ⟨hcm, by show cur.size = cap * sz e; rw [hcs, hS e i hi, hs1]⟩) hnew
              have eρ : (R.add g cap).ρ R.N = g := if_pos rfl
              have eκ : (R.add g cap).κ R.N = cap := if_pos rfl
              refine ⟨R.add g cap, w', _, hxe, hR, ?_, hr⟩
              have hDN : (R.add g cap).D R.N := .inr rfl
              have hs := SR.slg (R := R.add g cap) ⟨R.N, 0, none⟩ (n + s.size) cap rfl hDN (hR.small_of hDN) hnc (fun _ => eκ.symm)
              unfold ra at hs
              dsimp only at hs
              rw [rb_of hR hDN, eρ] at hs
              exact .inl (.inl hs)
      · cases ho
    · cases ho
  · cases ho
/-- bytes as a text -/
def bytesOf : List Value → Option (List UInt8)
  | [] => some []
  | .int .u8 (.ofNat n) :: l => match bytesOf l with
    | some r => some (UInt8.ofNat n :: r)
    | none => none
  | _ => none
theorem bytesOf_is : ∀ (l : List Value) (r : List UInt8), bytesOf l = some r → ∃ ns : List Int, l = ns.map (Value.int .u8) ∧ ns.map (fun n => UInt8.ofNat n.toNat) = r
  | [], r, h => by cases h; exact ⟨[], rfl, rfl⟩
  | v :: l, r, h => by
    unfold bytesOf at h
    split at h
    · rename_i heq; cases heq
    · rename_i n l2 heq
      cases heq
      split at h
      · rename_i r2 hr
        cases h
        obtain ⟨ns, h1, h2⟩ := bytesOf_is l r2 hr
        exact ⟨(n : Int) :: ns, by rw [h1]; rfl, by rw [List.map_cons, h2]; rfl⟩
      · cases h
    · cases h
theorem foldl_push : ∀ (l : List UInt8) (b : ByteArray), (l.foldl (fun r n => r.push n) b).data.toList = b.data.toList ++ l
  | [], b => by simp
  | x :: l, b => by
    rw [List.foldl_cons, foldl_push l (b.push x)]
    have : (b.push x).data.toList = b.data.toList ++ [x] := by
      show (b.data.push x).toList = _
      simp
    rw [this]
    simp
theorem A2.bytes {l l' : List Value} (h : A2 (SR R) l l') {r : List UInt8} (hr : bytesOf l = some r) : l' = l := by
  obtain ⟨ns, h1, _⟩ := bytesOf_is l r hr
  refine List.ext_getElem? fun i => ?_
  cases hi : l[i]? with
  | none =>
    have := h.1
    rw [List.getElem?_eq_none_iff] at hi ⊢
    omega
  | some v =>
    obtain ⟨v', h2, h3⟩ := h.2 i v hi
    rw [h2]
    congr 1
    refine h3.flat ?_
    have := List.mem_of_getElem? hi
    rw [h1] at this
    obtain ⟨n, _, rfl⟩ := List.mem_map.1 this
    rfl
def o_convX (ty : Ty) (h : Hp) (s d : Nat) (x : Value) : Option Value :=
  match x with
  | .slice (some a) n _ => match desc ty s, desc ty d with
    | some (.slice e), some .string => match desc ty e with
      | some (.int .u8) => match (bif Nat.beq n 0 then some [] else ldA h a n) with
        | some l => match bytesOf l with
          | some r => some (.string ⟨r.toArray⟩)
          | none => none
        | none => none
      | _ => none
    | _, _ => none
  | .slice none 0 0 => match desc ty s, desc ty d with
    | some (.slice e), some .string => match desc ty e with
      | some (.int .u8) => some (.string ⟨#[]⟩)
      | _ => none
    | _, _ => none
  | _ => o_conv ty s d x
theorem o_convX_is (T : TyOK P ty) (hh : HR sz w0 Φ R w h) {s d : Nat} {x x' v : Value} (hx : VR R x x') (ho : o_convX ty h s d x = some v) : Ok0 P R w v (convert s d x') := by
  unfold o_convX at ho
  split at ho
  · rename_i a n c
    split at ho
    · rename_i e hd1 hd2
      split at ho
      · rename_i hde
        split at ho
        · rename_i l hl
          split at ho
          · rename_i r hr
            cases ho
            have hu1 := desc_is T hd1
            have hu2 := desc_is T hd2
            have hue := desc_is T hde
            obtain ⟨b', c', rfl, hb⟩ := hx.slice
            obtain ⟨ns, h3, h4⟩ := bytesOf_is l r hr
            have fin : ∀ b, (loadCells b n).run P w = .ok (ns.map (Value.int .u8)).toArray w → (convert s d (.slice (some b) n c')).run P w = .ok (.string ⟨r.toArray⟩) w := fun b hb => by
              have h5 := run_bytesToString (P := P) w b n c' ns hb
              have h6 : (ns.foldl (fun r n => r.push (UInt8.ofNat n.toNat)) ByteArray.empty) = ⟨r.toArray⟩ := by
                rw [← h4, ← List.foldl_map (f := fun n : Int => UInt8.ofNat n.toNat) (g := fun (r : ByteArray) n => r.push n)]
                apply ByteArray.ext
                apply Array.ext'
                rw [foldl_push]
                simp
              rw [h6] at h5
              simp only [convert, Sem.run_bind, run_underlying hu1, run_underlying hu2, run_underlying hue, Result.andThen_ok]
              exact h5
            cases hn : Nat.beq n 0 with
            | true =>
              rw [hn] at hl
              cases hl
              have hn0 := Nat.eq_of_beq_eq_true hn
              subst hn0
              have hns : ns = [] := by cases ns with | nil => rfl | cons _ _ => cases h3
              subst hns
              cases h4
              refine .same hh (.lit rfl) ?_
              cases b' with
              | none =>
                simp only [convert, Sem.run_bind, run_underlying hu1, run_underlying hu2, run_underlying hue, Result.andThen_ok]
                rfl
              | some b => exact fin b (by simp [loadCells, loadCellsFrom])
            | false =>
              rw [hn] at hl
              have hn0 : n ≠ 0 := Nat.ne_of_beq_eq_false hn
              obtain ⟨rfl, hsp, _⟩ := hb a rfl hn0
              obtain ⟨l', h5, h6, h7⟩ := ldA_is hh hsp hl
              have e1 := h5.bytes hr
              subst e1
              refine .same hh (.lit rfl) (fin _ ?_)
              have := run_loadCells_list (P := P) w (ra R a) l' h7
              rw [h6] at this
              rw [this, h3]
          · cases ho
        · cases ho
      · cases ho
    · cases ho
  · split at ho
    · rename_i e hd1 hd2
      split at ho
      · rename_i hde
        cases ho
        have hu1 := desc_is T hd1
        have hu2 := desc_is T hd2
        have hue := desc_is T hde
        have e1 := hx.sliceNil
        subst e1
        refine .same hh (.lit rfl) ?_
        simp only [convert, Sem.run_bind, run_underlying hu1, run_underlying hu2, run_underlying hue, Result.andThen_ok]
        rfl
      · cases ho
    · cases ho
  · exact o_conv_is T hh hx ho
def o_min (x y : Value) : Option Value :=
  match x, y with
  | .int k a, .int _ b => some (.int k (if b < a then b else a))
  | _, _ => none
theorem o_min_is (hh : HR sz w0 Φ R w h) {x x' y y' v : Value} {ts : Array TypeId} {t : Nat} (hx : VR R x x') (hy : VR R y y') (ho : o_min x y = some v) : Ok0 P R w v (Builtin.min_ ts t #[x', y']) := by
  unfold o_min at ho
  split at ho
  · cases ho
    rw [hx.int, hy.int]
    refine .same hh (.lit rfl) ?_
    simp [Builtin.min_, Builtin.min2]
  · cases ho
def o_cpx (x y : Value) : Option Value :=
  match x, y with
  | .float .f64 a, .float .f64 b => some (.complex .f64 a b)
  | .float .f32 a, .float .f32 b => some (.complex .f32 a b)
  | _, _ => none
theorem o_cpx_is (hh : HR sz w0 Φ R w h) {x x' y y' v : Value} {ts : Array TypeId} {t : Nat} (hx : VR R x x') (hy : VR R y y') (ho : o_cpx x y = some v) : Ok0 P R w v (Builtin.complex_ ts t #[x', y']) := by
  unfold o_cpx at ho
  split at ho
  · cases ho
    rw [hx.flt, hy.flt]
    exact .same hh (.lit rfl) rfl
  · cases ho
    rw [hx.flt, hy.flt]
    exact .same hh (.lit rfl) rfl
  · cases ho
def o_re (x : Value) : Option Value :=
  match x with
  | .complex k a _ => some (.float k a)
  | _ => none
theorem o_re_is (hh : HR sz w0 Φ R w h) {x x' v : Value} {ts : Array TypeId} {t : Nat} (hx : VR R x x') (ho : o_re x = some v) : Ok0 P R w v (Builtin.real_ ts t #[x']) := by
  unfold o_re at ho
  split at ho
  · cases ho
    rw [hx.cpx]
    exact .same hh (.lit rfl) rfl
  · cases ho
def o_im (x : Value) : Option Value :=
  match x with
  | .complex k _ b => some (.float k b)
  | _ => none
theorem o_im_is (hh : HR sz w0 Φ R w h) {x x' v : Value} {ts : Array TypeId} {t : Nat} (hx : VR R x x') (ho : o_im x = some v) : Ok0 P R w v (Builtin.imag_ ts t #[x']) := by
  unfold o_im at ho
  split at ho
  · cases ho
    rw [hx.cpx]
    exact .same hh (.lit rfl) rfl
  · cases ho
def mn (m n : Nat) : Nat := bif Nat.ble m n then m else n
theorem mn_is (m n : Nat) : mn m n = Nat.min m n := by
  unfold mn
  cases h : Nat.ble m n with
  | true => exact (Nat.min_eq_left (Nat.le_of_ble_eq_true h)).symm
  | false =>
    have : ¬ m ≤ n := fun e => by rw [Nat.ble_eq_true_of_le e] at h; cases h
    exact (Nat.min_eq_right (Nat.le_of_lt (Nat.lt_of_not_le this))).symm
def o_copy (ty : Ty) (h : Hp) (t : Nat) (x y : Value) : Option (Value × Hp) :=
  match desc ty t, x, y with
  | some (.slice e), .slice bx n _, .slice by_ m _ => match size ty e with
    | some s => bif Nat.beq (mn m n) 0 then some (goInt (mn m n), h) else
      match bx, by_ with
      | some a, some b => match ldA h b (mn m n * s) with
        | some l => match stA h a l with
          | some h' => some (goInt (mn m n), h')
          | none => none
        | none => none
      | _, _ => none
    | none => none
  | _, _, _ => none
theorem o_copy_is (T : TyOK P ty) (hh : HR sz w0 Φ R w h) {t t2 u : Nat} {x y x' y' v : Value} {h' : Hp} (hx : VR R x x') (hy : VR R y y') (ho : o_copy ty h t x y = some (v, h')) :
    Ok P sz w0 Φ R w h' v (Builtin.copy_ #[t, t2] u #[x', y']) := by
  unfold o_copy at ho
  split at ho
  · rename_i e bx n cx by_ m cy hd
    have hu := desc_is T hd
    obtain ⟨b1, c1, rfl, hb1⟩ := hx.slice
    obtain ⟨b2, c2, rfl, hb2⟩ := hy.slice
    split at ho
    · rename_i s hs
      cases hk : Nat.beq (mn m n) 0 with
      | true =>
        rw [hk] at ho
        cases ho
        have hk0 := Nat.eq_of_beq_eq_true hk
        rw [hk0]
        rw [mn_is] at hk0
        refine .same hh (.lit rfl) ?_
        cases b1 <;> cases b2 <;> simp [Builtin.copy_, run_underlying hu, size_is T w hs, Builtin.lenOf, Builtin.firstCells, hk0, loadCells, loadCellsFrom, storeCells]
      | false =>
        rw [hk] at ho
        dsimp only [cond_false] at ho
        have hk0 := Nat.ne_of_beq_eq_false hk
        have hmin := mn_is m n
        have hm0 : m ≠ 0 := fun e => hk0 (by rw [hmin, e]; exact Nat.zero_min n)
        have hn0 : n ≠ 0 := fun e => hk0 (by rw [hmin, e]; exact Nat.min_zero m)
        split at ho
        · rename_i a b
          obtain ⟨rfl, hsa, _⟩ := hb1 a rfl hn0
          obtain ⟨rfl, hsb, _⟩ := hb2 b rfl hm0
          cases hl : ldA h b (mn m n * s) with
          | none => rw [hl] at ho; cases ho
          | some l =>
            rw [hl] at ho
            dsimp only at ho
            cases hst : stA h a l with
            | none => rw [hst] at ho; cases ho
            | some h1 =>
              rw [hst] at ho
              cases ho
              obtain ⟨l', h1, h2, h3⟩ := ldA_is hh hsb hl
              obtain ⟨w', hw, hrun⟩ := stA_is (P := P) hh hsa h1 hst
              have hld := run_loadCells_list (P := P) w (ra R b) l' h3
              rw [h2] at hld
              refine ⟨R, w', _, .refl R, hw, .lit rfl, ?_⟩
              simp only [hmin] at hld ⊢
              simp [Builtin.copy_, run_underlying hu, size_is T w hs, Builtin.lenOf, Builtin.firstCells, hld, hrun]
        · cases ho
    · cases ho
  · cases ho
end
end Go.Ev
