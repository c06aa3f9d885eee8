/- The evaluator's calls are calls. -/
import Derived.Test.YtlchefdddgbohaaDoorEvK
import Derived.Lib.AppendStr
import Derived.Laws.BytesString
import Derived.Orders
import Derived.OrdersIn
/- The evaluator's append of so many zeros to nothing. -/
noncomputable section
namespace Go.Ev
open Go.RowKit Go.MapKept
set_option linter.unusedVariables false
set_option linter.unusedSimpArgs false
def o_appendZ (ty : Ty) (h : Hp) (t t2 : Nat) (x y : Value) : Option (Value × Hp) :=
  match x, y, desc ty t, desc ty t2 with
  | .slice none 0 0, .int _ (.ofNat m), some (.slice e), some (.int _) => match ty.get e with
    | some i => match i.zero with
      | some z => match cellsOf z with
        | some zc => bif zc.all lit && Nat.blt 0 m && Nat.ble m 100000 && Nat.ble (m * i.bytes) 100000 && Nat.beq zc.length i.size && Nat.blt 0 i.size then match newA h (.row ⟨zeros m zc, e, true⟩) with
            | some (k, h') => some (.slice (some ⟨k, 0, none⟩) m many, h')
            | none => none
          else none
        | none => none
      | none => none
    | none => none
  | _, _, _, _ => none
section
variable {P : Program} {ty : Ty} {sz : Nat → Nat} {w0 : World} {Φ : Fx} {R : Rn} {w : World} {h : Hp}
theorem run_append_zeros {t t2 u e : TypeId} {i : TypeInfo} {z : Value} {q : IntKind} (ht : P.underlying t = some (.slice e)) (ht2 : P.underlying t2 = some (.int q)) (hi : P.info? e = some i) (hz : i.zero = some z) (k : IntKind) (m : Nat) (h0 : 0 < m) (hm : m ≤ 100000) (hb : m * i.bytes ≤ 100000) (hs : 0 < i.size) (w : World) :
    (Builtin.append_ #[t, t2] u #[.slice none 0 0, .int k (m : Int)]).run P w = .ok (.slice (some ⟨w.heap.size, 0, none⟩) m (grownCap w m 0 e)) (w.drew.alloc (.cells (Builtin.zeroCells z.cells m ++ Builtin.zeroCells z.cells (grownCap w m 0 e - m)) e)) := by
  have hn : m ≠ 0 := by omega
  have h63' : ¬ (9223372036854775807 < (m : Int)) := by omega
  have h48' : ¬ (281474976710656 < Builtin.nextslicecap m 0 * i.bytes) := by rw [nextslicecap_zero h0]; omega
  have wl : IntKind.i64.wrap (m : Int) = m := by rw [IntKind.wrap_i64]; omega
  have h49 : ¬ (281474976710656 < (m : Int) * (i.bytes : Int)) := by
    have : ((m * i.bytes : Nat) : Int) ≤ 100000 := by omega
    rw [Int.natCast_mul] at this
    omega
  have h5 : ¬ ((m : Int) < 0) := by omega
  have h6 : ¬ (i.size = 0) := by omega
  simp [Builtin.append_, run_underlying ht, run_underlying ht2, sizeOf, typeInfo, zeroValue, hi, hz, asInt, asIntOf, wl, h5, h49, hn, h63', h48', h6, Question.forced, run_firstCells_none, newRow, grownCap]
  intro hms
  rcases Nat.mul_eq_zero.1 hms with h | h <;> omega
theorem zeroCells_A2 {zc : List Value} {z : Value} (hcz : z.cells.toList = zc) (hl : zc.all lit = true) (hpos : 0 < zc.length) (m : Nat) : A2 (SR R) (zeros m zc) (Builtin.zeroCells z.cells m).toList := by
  have hsz : z.cells.size = zc.length := by rw [← hcz]; simp
  refine ⟨by rw [zeros_len, Array.length_toList (xs := Builtin.zeroCells z.cells m), size_zeroCells, hsz], fun j x hx => ?_⟩
  have hj : j < m * zc.length := by have := (List.getElem?_eq_some_iff.1 hx).1; rwa [zeros_len] at this
  rw [zeros_get zc hpos m j hj] at hx
  refine ⟨x, ?_, .lit x (List.all_eq_true.1 hl x (List.mem_of_getElem? hx))⟩
  have hm : j % z.cells.size < z.cells.size := Nat.mod_lt _ (by omega)
  rw [← hsz, ← hcz, Array.getElem?_toList, Array.getElem?_eq_getElem hm] at hx
  rw [Array.getElem?_toList]
  unfold Builtin.zeroCells
  simp [hsz, hj]
  rw [← hsz, getElem!_pos z.cells (j % z.cells.size) hm]
  exact Option.some.inj hx
theorem o_appendZ_is (T : TyOK P ty) (hS : SzOK ty sz) (hh : HR sz w0 Φ R w h) {t t2 u : Nat} {x y x' y' v : Value} {h' : Hp} (hx : VR R x x') (hy : VR R y y') (ho : o_appendZ ty h t t2 x y = some (v, h')) :
    Ok P sz w0 Φ R w h' v (Builtin.append_ #[t, t2] u #[x', y']) := by
  unfold o_appendZ at ho
  split at ho
  · rename_i k m e q hd hd2
    have hu := desc_is T hd
    have hu2 := desc_is T hd2
    have e1 := hx.sliceNil
    subst e1
    rw [hy.int]
    split at ho
    · rename_i i hi
      have hinf := T.ty e i hi
      split at ho
      · rename_i z hz
        split at ho
        · rename_i zc hzc
          cases hc : zc.all lit && Nat.blt 0 m && Nat.ble m 100000 && Nat.ble (m * i.bytes) 100000 && Nat.beq zc.length i.size && Nat.blt 0 i.size with
          | false => rw [hc] at ho; cases ho
          | true =>
            rw [hc] at ho
            dsimp only [cond_true] at ho
            simp only [Bool.and_eq_true, Nat.ble_eq, Nat.blt_eq] at hc
            obtain ⟨⟨⟨⟨⟨hc1, hc2⟩, hc3⟩, hc4⟩, hc5⟩, hc6⟩ := hc
            have hzl := Nat.eq_of_beq_eq_true hc5
            split at ho
            · rename_i k2 h2 hn
              cases ho
              have hcz := cellsOf_cells hzc
              have hA := zeroCells_A2 (R := R) hcz hc1 (by omega) m
              have hcap := grownCap_ge w m 0 e
              have hcap2 := grownCap_le_maxLen w m 0 e (by unfold maxLen; omega)
              have hszz : z.cells.size = i.size := by rw [← hzl, ← hcz]; simp
              generalize hC : grownCap w m 0 e = C at hcap hcap2
              have hrun := run_append_zeros (P := P) (u := u) hu hu2 hinf hz k m hc2 hc3 hc4 hc6 w
              rw [hC] at hrun
              have hs1 : Stay Φ w w.drew := ⟨rfl, rfl, rfl, Nat.le_refl _, fun _ _ => rfl⟩
              have hh1 : HR sz w0 Φ R w.drew h := hh.on hs1 fun _ _ _ => rfl
              obtain ⟨rfl, hr⟩ := hh1.new (w' := w.drew.alloc (.cells (Builtin.zeroCells z.cells m ++ Builtin.zeroCells z.cells (C - m)) e)) (g := w.heap.size) (k := C) (b := ⟨zeros m zc, e, true⟩) (cur := Builtin.zeroCells z.cells m ++ Builtin.zeroCells z.cells (C - m)) (hh1.stayAlloc _) hh1.young (fun i c hc => Nat.ne_of_lt (hh1.old hc)) (World.alloc_heap_new w.drew _)
                (fun i c hc => Below.heap_alloc _ _ _ (hh1.old hc)) (fun j x hx => by
                  obtain ⟨x', h3, h4⟩ := hA.2 j x hx
                  refine ⟨x', ?_, h4⟩
                  rw [Array.getElem?_toList] at h3
                  rw [Array.getElem?_append_left (Array.getElem?_eq_some_iff.1 h3).1]
                  exact h3) (fun hx => by cases hx) (fun _ => ⟨hcap2, by
                    show _ = C * sz e
                    rw [hS e i hi, Array.size_append, size_zeroCells, size_zeroCells, hszz, ← Nat.add_mul, Nat.add_sub_cancel' hcap]⟩) hn
              have hDN : (R.add w.heap.size C).D R.N := .inr rfl
              have eρ : (R.add w.heap.size C).ρ R.N = w.heap.size := if_pos rfl
              have eκ : (R.add w.heap.size C).κ R.N = C := if_pos rfl
              refine ⟨_, _, _, hh1.add_ext _ _, hr, ?_, hrun⟩
              have hs := SR.slg (R := R.add w.heap.size C) ⟨R.N, 0, none⟩ m C rfl hDN (hr.small_of hDN) hcap (fun _ => eκ.symm)
              have era : ra (R.add w.heap.size C) ⟨R.N, 0, none⟩ = ⟨w.heap.size, 0, none⟩ := by unfold ra; rw [rb_of hr hDN, eρ]
              rw [era] at hs
              exact .inl (.inl hs)
            · cases ho
        · cases ho
      · cases ho
    · cases ho
  · cases ho
end
end Go.Ev
/- The evaluator's texts as bytes: appended, made of bytes; the least of two. -/
noncomputable section
namespace Go.Ev
open Go.RowKit Go.MapKept
set_option linter.unusedVariables false
set_option linter.unusedSimpArgs false
def byteVs (s : ByteArray) : List Value := s.data.toList.map fun b => .int .u8 b.toNat
def o_appendS (ty : Ty) (h : Hp) (t t2 : Nat) (x y : Value) : Option (Value × Hp) :=
  match desc ty t, desc ty t2, x, y with
  | some (.slice e), some .string, .slice bx n cx, .string s => match ty.get e with
    | some i => match i.zero with
      | some (.int .u8 0) => bif Nat.beq i.size 1 && Nat.beq i.bytes 1 && Nat.blt 0 s.data.toList.length && Nat.ble (n + s.data.toList.length) 1000000 then
          match appOld h e i.size bx n cx with
          | some (old, h1) => match newA h1 (.row ⟨old ++ byteVs s, e, true⟩) with
            | some (k, h2) => some (.slice (some ⟨k, 0, none⟩) (n + s.data.toList.length) many, h2)
            | none => none
          | none => none
        else none
      | _ => none
    | none => none
  | _, _, _, _ => none
section
variable {P : Program} {ty : Ty} {sz : Nat → Nat} {w0 : World} {Φ : Fx} {R : Rn} {w : World} {h : Hp}
theorem appS_where (w : World) (base : Nat) (t u tt e : TypeId) (i : TypeInfo) (ht : P.underlying t = some (.slice e)) (hu : P.underlying u = some .string) (hi : P.info? e = some i) (hz : i.zero = some (.int .u8 0)) (hs1 : i.size = 1) (hb1 : i.bytes = 1)
    (v : Value) (n : Nat) (xs : List Value) (hown : w.ownsRow base e 1 v n xs) (s : ByteArray) (h63 : n + s.size ≤ maxLen) (hbytes : n + s.size ≤ 140737488355328) (hm : 0 < s.size) {v' : Value} {w' : World}
    (hr : (Builtin.append_ #[t, u] tt #[v, .string s]).run P w = .ok v' w') : v'.ownBlock = v.ownBlock ∨ v'.ownBlock = some w.heap.size := by
  rcases hown.2 with ⟨rfl, rfl⟩ | ⟨g, cap, cur, rfl, hbg, hg, hnc, hcm, hcs, htake⟩
  · rw [run_append_nil_string (P := P) w t u tt e i _ ht hu hi hz s hm (by omega) (by rw [hb1]; omega)] at hr
    cases hr
    exact .inr rfl
  · by_cases hroom : n + s.size ≤ cap
    · rw [Lib.run_append_room_string (P := P) w t u tt e i ht hu hi hs1 g n cap cur hg s hroom (by rw [hcs]; omega)] at hr
      cases hr
      exact .inl rfl
    · have hxl : xs.length = n * i.size := by rw [hs1]; simpa using hown.1
      have hcell := hown.cells (g := g) rfl
      rw [Lib.run_append_grow_string (P := P) w t u tt e i _ ht hu hi hz ⟨g, 0, none⟩ n cap xs hxl hcell s (by omega) (by unfold maxLen at h63; omega) (growslice_fits (by omega) (by rw [hb1]; omega))] at hr
      cases hr
      exact .inr rfl
theorem byteVs_is (s : ByteArray) : byteVs s = Lib.strCells s := by
  unfold byteVs Lib.strCells
  rfl
theorem o_appendS_is (T : TyOK P ty) (hS : SzOK ty sz) (hh : HR sz w0 Φ R w h) {t t2 u : Nat} {x y x' y' v : Value} {h' : Hp} (hx : VR R x x') (hy : VR R y y') (ho : o_appendS ty h t t2 x y = some (v, h')) :
    Ok P sz w0 Φ R w h' v (Builtin.append_ #[t, t2] u #[x', y']) := by
  unfold o_appendS at ho
  split at ho
  · rename_i e bx n cx s hd hd2
    have hu := desc_is T hd
    have hu2 := desc_is T hd2
    have e1 := hy.str
    subst e1
    split at ho
    · rename_i i hi
      have hinf := T.ty e i hi
      split at ho
      · rename_i hz
        cases hc : Nat.beq i.size 1 && Nat.beq i.bytes 1 && Nat.blt 0 s.data.toList.length && Nat.ble (n + s.data.toList.length) 1000000 with
        | false => rw [hc] at ho; cases ho
        | true =>
          rw [hc] at ho
          dsimp only [cond_true] at ho
          simp only [Bool.and_eq_true, Nat.ble_eq, Nat.blt_eq] at hc
          obtain ⟨⟨⟨hc1, hc2⟩, hc3⟩, hc4⟩ := hc
          have hs1 := Nat.eq_of_beq_eq_true hc1
          have hb1 := Nat.eq_of_beq_eq_true hc2
          have hsl : s.data.toList.length = s.size := rfl
          rw [hsl] at hc3 hc4
          cases hold : appOld h e i.size bx n cx with
          | none => rw [hold] at ho; cases ho
          | some p =>
            obtain ⟨old, h1⟩ := p
            rw [hold] at ho
            dsimp only at ho
            cases hnew : newA h1 (.row ⟨old ++ byteVs s, e, true⟩) with
            | none => rw [hnew] at ho; cases ho
            | some q =>
              obtain ⟨k, h2⟩ := q
              rw [hnew] at ho
              cases ho
              obtain ⟨old', ho1, hown, hfr, hh1, hne⟩ := appOld_is hS hh hi hx hold
              rw [hs1] at hown
              have hml : n + s.size ≤ maxLen := by unfold maxLen; omega
              obtain ⟨v', w', hr, hown', hgr, hnil⟩ := Lib.run_append_own_string (P := P) w 0 t t2 u e i hu hu2 hinf hz hs1 hb1 x' n old' hown s hml (by omega) (Nat.zero_le _)
              have hw := appS_where (P := P) w 0 t t2 u e i hu hu2 hinf hz hs1 hb1 x' n old' hown s hml (by omega) hc3 hr
              rcases hown'.2 with ⟨rfl, h0⟩ | ⟨g, cap, cur, rfl, hbg, hg, hnc, hcm, hcs, htake⟩
              · omega
              have hgw : ∀ k c, h1.heap.get k = some c → R.ρ k ≠ g := fun k c hk e => by
                rcases hw with hw | hw
                · exact hne k c hk (by rw [e, ← hw]; rfl)
                · have := hh1.old hk
                  have e2 : g = w.heap.size := Option.some.inj hw
                  omega
              have hA : A2 (SR R) (old ++ byteVs s) (old' ++ Lib.strCells s) := by
                rw [byteVs_is]
                refine ⟨by simp [ho1.1], fun j v hv => ?_⟩
                rw [List.getElem?_append] at hv ⊢
                rw [← ho1.1]
                by_cases c : j < old.length
                · rw [if_pos c] at hv ⊢; exact ho1.2 j v hv
                · rw [if_neg c] at hv ⊢
                  refine ⟨v, hv, .lit v ?_⟩
                  have := List.mem_of_getElem? hv
                  rw [← byteVs_is] at this
                  unfold byteVs at this
                  obtain ⟨b, _, rfl⟩ := List.mem_map.1 this
                  rfl
              have hxe := hh1.add_ext g cap
              obtain ⟨rfl, hR⟩ := hh1.new (w' := w') (g := g) (k := cap) (b := ⟨old ++ byteVs s, e, true⟩) (cur := cur) (hh1.stayGrown hgr hfr) (fun hk => by
                  rcases hw with hw | hw
                  · exact hfr g (by rw [← hw]; rfl) hk
                  · have e2 : g = w.heap.size := Option.some.inj hw
                    exact hh.young (e2 ▸ hk)) hgw hg
                (fun k c hk => hgr.block _ (hh1.old hk) (hne k c hk))
                (fun j v hv => by
                  obtain ⟨v', h3, h4⟩ := hA.2 j v hv
                  refine ⟨v', ?_, h4⟩
                  rw [← htake, List.getElem?_take] at h3
                  split at h3
                  · rwa [Array.getElem?_toList] at h3
                  · cases h3) (fun hx => by cases hx) (fun _ => ⟨hcm, by show cur.size = cap * sz e; rw [hcs, hS e i hi, hs1]⟩) hnew
              have eρ : (R.add g cap).ρ R.N = g := if_pos rfl
              have eκ : (R.add g cap).κ R.N = cap := if_pos rfl
              refine ⟨R.add g cap, w', _, hxe, hR, ?_, hr⟩
              have hDN : (R.add g cap).D R.N := .inr rfl
              have hs := SR.slg (R := R.add g cap) ⟨R.N, 0, none⟩ (n + s.size) cap rfl hDN (hR.small_of hDN) hnc (fun _ => eκ.symm)
              unfold ra at hs
              dsimp only at hs
              rw [rb_of hR hDN, eρ] at hs
              exact .inl (.inl hs)
      · cases ho
    · cases ho
  · cases ho
/-- bytes as a text -/
def bytesOf : List Value → Option (List UInt8)
  | [] => some []
  | .int .u8 (.ofNat n) :: l => match bytesOf l with
    | some r => some (UInt8.ofNat n :: r)
    | none => none
  | _ => none
theorem bytesOf_is : ∀ (l : List Value) (r : List UInt8), bytesOf l = some r → ∃ ns : List Int, l = ns.map (Value.int .u8) ∧ ns.map (fun n => UInt8.ofNat n.toNat) = r
  | [], r, h => by cases h; exact ⟨[], rfl, rfl⟩
  | v :: l, r, h => by
    unfold bytesOf at h
    split at h
    · rename_i heq; cases heq
    · rename_i n l2 heq
      cases heq
      split at h
      · rename_i r2 hr
        cases h
        obtain ⟨ns, h1, h2⟩ := bytesOf_is l r2 hr
        exact ⟨(n : Int) :: ns, by rw [h1]; rfl, by rw [List.map_cons, h2]; rfl⟩
      · cases h
    · cases h
theorem foldl_push : ∀ (l : List UInt8) (b : ByteArray), (l.foldl (fun r n => r.push n) b).data.toList = b.data.toList ++ l
  | [], b => by simp
  | x :: l, b => by
    rw [List.foldl_cons, foldl_push l (b.push x)]
    have : (b.push x).data.toList = b.data.toList ++ [x] := by
      show (b.data.push x).toList = _
      simp
    rw [this]
    simp
theorem A2.bytes {l l' : List Value} (h : A2 (SR R) l l') {r : List UInt8} (hr : bytesOf l = some r) : l' = l := by
  obtain ⟨ns, h1, _⟩ := bytesOf_is l r hr
  refine List.ext_getElem? fun i => ?_
  cases hi : l[i]? with
  | none =>
    have := h.1
    rw [List.getElem?_eq_none_iff] at hi ⊢
    omega
  | some v =>
    obtain ⟨v', h2, h3⟩ := h.2 i v hi
    rw [h2]
    congr 1
    refine h3.flat ?_
    have := List.mem_of_getElem? hi
    rw [h1] at this
    obtain ⟨n, _, rfl⟩ := List.mem_map.1 this
    rfl
def o_convX (ty : Ty) (h : Hp) (s d : Nat) (x : Value) : Option Value :=
  match x with
  | .slice (some a) n _ => match desc ty s, desc ty d with
    | some (.slice e), some .string => match desc ty e with
      | some (.int .u8) => match (bif Nat.beq n 0 then some [] else ldA h a n) with
        | some l => match bytesOf l with
          | some r => some (.string ⟨r.toArray⟩)
          | none => none
        | none => none
      | _ => none
    | _, _ => none
  | .slice none 0 0 => match desc ty s, desc ty d with
    | some (.slice e), some .string => match desc ty e with
      | some (.int .u8) => some (.string ⟨#[]⟩)
      | _ => none
    | _, _ => none
  | _ => o_conv ty s d x
theorem o_convX_is (T : TyOK P ty) (hh : HR sz w0 Φ R w h) {s d : Nat} {x x' v : Value} (hx : VR R x x') (ho : o_convX ty h s d x = some v) : Ok0 P R w v (convert s d x') := by
  unfold o_convX at ho
  split at ho
  · rename_i a n c
    split at ho
    · rename_i e hd1 hd2
      split at ho
      · rename_i hde
        split at ho
        · rename_i l hl
          split at ho
          · rename_i r hr
            cases ho
            have hu1 := desc_is T hd1
            have hu2 := desc_is T hd2
            have hue := desc_is T hde
            obtain ⟨b', c', rfl, hb⟩ := hx.slice
            obtain ⟨ns, h3, h4⟩ := bytesOf_is l r hr
            have fin : ∀ b, (loadCells b n).run P w = .ok (ns.map (Value.int .u8)).toArray w → (convert s d (.slice (some b) n c')).run P w = .ok (.string ⟨r.toArray⟩) w := fun b hb => by
              have h5 := run_bytesToString (P := P) w b n c' ns hb
              have h6 : (ns.foldl (fun r n => r.push (UInt8.ofNat n.toNat)) ByteArray.empty) = ⟨r.toArray⟩ := by
                rw [← h4, ← List.foldl_map (f := fun n : Int => UInt8.ofNat n.toNat) (g := fun (r : ByteArray) n => r.push n)]
                apply ByteArray.ext
                apply Array.ext'
                rw [foldl_push]
                simp
              rw [h6] at h5
              simp only [convert, Sem.run_bind, run_underlying hu1, run_underlying hu2, run_underlying hue, Result.andThen_ok]
              exact h5
            cases hn : Nat.beq n 0 with
            | true =>
              rw [hn] at hl
              cases hl
              have hn0 := Nat.eq_of_beq_eq_true hn
              subst hn0
              have hns : ns = [] := by cases ns with | nil => rfl | cons _ _ => cases h3
              subst hns
              cases h4
              refine .same hh (.lit rfl) ?_
              cases b' with
              | none =>
                simp only [convert, Sem.run_bind, run_underlying hu1, run_underlying hu2, run_underlying hue, Result.andThen_ok]
                rfl
              | some b => exact fin b (by simp [loadCells, loadCellsFrom])
            | false =>
              rw [hn] at hl
              have hn0 : n ≠ 0 := Nat.ne_of_beq_eq_false hn
              obtain ⟨rfl, hsp, _⟩ := hb a rfl hn0
              obtain ⟨l', h5, h6, h7⟩ := ldA_is hh hsp hl
              have e1 := h5.bytes hr
              subst e1
              refine .same hh (.lit rfl) (fin _ ?_)
              have := run_loadCells_list (P := P) w (ra R a) l' h7
              rw [h6] at this
              rw [this, h3]
          · cases ho
        · cases ho
      · cases ho
    · cases ho
  · split at ho
    · rename_i e hd1 hd2
      split at ho
      · rename_i hde
        cases ho
        have hu1 := desc_is T hd1
        have hu2 := desc_is T hd2
        have hue := desc_is T hde
        have e1 := hx.sliceNil
        subst e1
        refine .same hh (.lit rfl) ?_
        simp only [convert, Sem.run_bind, run_underlying hu1, run_underlying hu2, run_underlying hue, Result.andThen_ok]
        rfl
      · cases ho
    · cases ho
  · exact o_conv_is T hh hx ho
def o_min (x y : Value) : Option Value :=
  match x, y with
  | .int k a, .int _ b => some (.int k (if b < a then b else a))
  | _, _ => none
theorem o_min_is (hh : HR sz w0 Φ R w h) {x x' y y' v : Value} {ts : Array TypeId} {t : Nat} (hx : VR R x x') (hy : VR R y y') (ho : o_min x y = some v) : Ok0 P R w v (Builtin.min_ ts t #[x', y']) := by
  unfold o_min at ho
  split at ho
  · cases ho
    rw [hx.int, hy.int]
    refine .same hh (.lit rfl) ?_
    simp [Builtin.min_, Builtin.min2]
  · cases ho
def o_cpx (x y : Value) : Option Value :=
  match x, y with
  | .float .f64 a, .float .f64 b => some (.complex .f64 a b)
  | .float .f32 a, .float .f32 b => some (.complex .f32 a b)
  | _, _ => none
theorem o_cpx_is (hh : HR sz w0 Φ R w h) {x x' y y' v : Value} {ts : Array TypeId} {t : Nat} (hx : VR R x x') (hy : VR R y y') (ho : o_cpx x y = some v) : Ok0 P R w v (Builtin.complex_ ts t #[x', y']) := by
  unfold o_cpx at ho
  split at ho
  · cases ho
    rw [hx.flt, hy.flt]
    exact .same hh (.lit rfl) rfl
  · cases ho
    rw [hx.flt, hy.flt]
    exact .same hh (.lit rfl) rfl
  · cases ho
def o_re (x : Value) : Option Value :=
  match x with
  | .complex k a _ => some (.float k a)
  | _ => none
theorem o_re_is (hh : HR sz w0 Φ R w h) {x x' v : Value} {ts : Array TypeId} {t : Nat} (hx : VR R x x') (ho : o_re x = some v) : Ok0 P R w v (Builtin.real_ ts t #[x']) := by
  unfold o_re at ho
  split at ho
  · cases ho
    rw [hx.cpx]
    exact .same hh (.lit rfl) rfl
  · cases ho
def o_im (x : Value) : Option Value :=
  match x with
  | .complex k _ b => some (.float k b)
  | _ => none
theorem o_im_is (hh : HR sz w0 Φ R w h) {x x' v : Value} {ts : Array TypeId} {t : Nat} (hx : VR R x x') (ho : o_im x = some v) : Ok0 P R w v (Builtin.imag_ ts t #[x']) := by
  unfold o_im at ho
  split at ho
  · cases ho
    rw [hx.cpx]
    exact .same hh (.lit rfl) rfl
  · cases ho
def mn (m n : Nat) : Nat := bif Nat.ble m n then m else n
theorem mn_is (m n : Nat) : mn m n = Nat.min m n := by
  unfold mn
  cases h : Nat.ble m n with
  | true => exact (Nat.min_eq_left (Nat.le_of_ble_eq_true h)).symm
  | false =>
    have : ¬ m ≤ n := fun e => by rw [Nat.ble_eq_true_of_le e] at h; cases h
    exact (Nat.min_eq_right (Nat.le_of_lt (Nat.lt_of_not_le this))).symm
def o_copy (ty : Ty) (h : Hp) (t : Nat) (x y : Value) : Option (Value × Hp) :=
  match desc ty t, x, y with
  | some (.slice e), .slice bx n _, .slice by_ m _ => match size ty e with
    | some s => bif Nat.beq (mn m n) 0 then some (goInt (mn m n), h) else
      match bx, by_ with
      | some a, some b => match ldA h b (mn m n * s) with
        | some l => match stA h a l with
          | some h' => some (goInt (mn m n), h')
          | none => none
        | none => none
      | _, _ => none
    | none => none
  | _, _, _ => none
theorem o_copy_is (T : TyOK P ty) (hh : HR sz w0 Φ R w h) {t t2 u : Nat} {x y x' y' v : Value} {h' : Hp} (hx : VR R x x') (hy : VR R y y') (ho : o_copy ty h t x y = some (v, h')) :
    Ok P sz w0 Φ R w h' v (Builtin.copy_ #[t, t2] u #[x', y']) := by
  unfold o_copy at ho
  split at ho
  · rename_i e bx n cx by_ m cy hd
    have hu := desc_is T hd
    obtain ⟨b1, c1, rfl, hb1⟩ := hx.slice
    obtain ⟨b2, c2, rfl, hb2⟩ := hy.slice
    split at ho
    · rename_i s hs
      cases hk : Nat.beq (mn m n) 0 with
      | true =>
        rw [hk] at ho
        cases ho
        have hk0 := Nat.eq_of_beq_eq_true hk
        rw [hk0]
        rw [mn_is] at hk0
        refine .same hh (.lit rfl) ?_
        cases b1 <;> cases b2 <;> simp [Builtin.copy_, run_underlying hu, size_is T w hs, Builtin.lenOf, Builtin.firstCells, hk0, loadCells, loadCellsFrom, storeCells]
      | false =>
        rw [hk] at ho
        dsimp only [cond_false] at ho
        have hk0 := Nat.ne_of_beq_eq_false hk
        have hmin := mn_is m n
        have hm0 : m ≠ 0 := fun e => hk0 (by rw [hmin, e]; exact Nat.zero_min n)
        have hn0 : n ≠ 0 := fun e => hk0 (by rw [hmin, e]; exact Nat.min_zero m)
        split at ho
        · rename_i a b
          obtain ⟨rfl, hsa, _⟩ := hb1 a rfl hn0
          obtain ⟨rfl, hsb, _⟩ := hb2 b rfl hm0
          cases hl : ldA h b (mn m n * s) with
          | none => rw [hl] at ho; cases ho
          | some l =>
            rw [hl] at ho
            dsimp only at ho
            cases hst : stA h a l with
            | none => rw [hst] at ho; cases ho
            | some h1 =>
              rw [hst] at ho
              cases ho
              obtain ⟨l', h1, h2, h3⟩ := ldA_is hh hsb hl
              obtain ⟨w', hw, hrun⟩ := stA_is (P := P) hh hsa h1 hst
              have hld := run_loadCells_list (P := P) w (ra R b) l' h3
              rw [h2] at hld
              refine ⟨R, w', _, .refl R, hw, .lit rfl, ?_⟩
              simp only [hmin] at hld ⊢
              simp [Builtin.copy_, run_underlying hu, size_is T w hs, Builtin.lenOf, Builtin.firstCells, hld, hrun]
        · cases ho
    · cases ho
  · cases ho
end
end Go.Ev
/- The evaluator whole, and that it is sound. -/
noncomputable section
namespace Go.Ev
open Go.RowKit
set_option linter.unusedVariables false
set_option linter.unusedSimpArgs false
def evL (fr : Fr) : List Operand → Option (List Value)
  | [] => some []
  | x :: r => match ev1 fr x, evL fr r with
    | some v, some l => some (v :: l)
    | _, _ => none
def evP (fr : Fr) : List (Nat × Operand) → Option (List (Nat × Value))
  | [] => some []
  | (i, x) :: r => match ev1 fr x, evP fr r with
    | some v, some l => some ((i, v) :: l)
    | _, _ => none
def evO (fr : Fr) : Option Operand → Option (Option Value)
  | none => some none
  | some x => match ev1 fr x with
    | some v => some (some v)
    | none => none
def o_bin (ty : Ty) (op : BinOp) (t : Nat) (a b : Value) : Option Value :=
  match a with
  | .int _ _ => match o_int op t a b with
    | some v => some v
    | none => none
  | .float _ _ => match o_int op t a b with
    | some v => some v
    | none => none
  | .complex _ _ _ => match o_int op t a b with
    | some v => some v
    | none => none
  | .string _ => o_str op a b
  | _ => match o_eqv ty t a b with
    | some c => eqB op c
    | none => none
def o_appendY (ty : Ty) (h : Hp) (t t2 : Nat) (x y : Value) : Option (Value × Hp) := match y with
  | .string _ => o_appendS ty h t t2 x y
  | _ => o_appendZ ty h t t2 x y
def isCon : Operand → Bool
  | .const _ => true
  | _ => false
def o_nilI (ty : Ty) (op : BinOp) (t : Nat) : Option Value := match desc ty t with
  | some (.interface _) => eqB op true
  | _ => none
def o_lenA (ty : Ty) (h : Hp) (t : Nat) (x : Value) : Option Value := match x with
  | .map _ => o_lenM h ty t x
  | _ => o_len ty t x
def operQ (ty : Ty) (fr : Fr) (h : Hp) (o : Oper) : Option Value :=
  match o.op with
  | .move x => (ev1 fr x)
  | .assign x => (ev1 fr x)
  | .pick c a b => match ev1 fr c with
    | some (.bool t) => (bif t then ev1 fr a else ev1 fr b)
    | _ => none
  | .build t ps => match evP fr ps.toList with
    | some l => (o_build ty t l)
    | none => none
  | .load t a => match ev1 fr a with
    | some v => (o_load ty h t v)
    | none => none
  | .nilCheck x => match ev1 fr x with
    | some (.pointer (some a)) => some (.pointer (some a))
    | some (.func (.func g) f c) => some (.func (.func g) f c)
    | some (.func (.yield g) f c) => some (.func (.yield g) f c)
    | _ => none
  | .binOp op t x y _ => match ev1 fr x, ev1 fr y with
    | some .nilIface, some .nilIface => bif isCon x || isCon y then o_nilI ty op t else none
    | some a, some b => (o_bin ty op t a b)
    | _, _ => none
  | .makeFunc fn f c => match evL fr f.toList, evL fr c.toList with
    | some a, some b => o_makeFunc fn a b
    | _, _ => none
  | .lookup t x i b => match ev1 fr x, ev1 fr i with
    | some m, some k => o_lookup ty h t m k b
    | _, _ => none
  | .entry x => match ev1 fr x with
    | some i => o_entry h i
    | none => none
  | .unOp op _ x => match ev1 fr x with
    | some a => (o_un op a)
    | none => none
  | .convert s d x => match ev1 fr x with
    | some a => (o_convX ty h s d a)
    | none => none
  | .fieldAddr s x f => match ev1 fr x with
    | some a => (o_fieldAddr ty s a f)
    | none => none
  | .field s x f => match ev1 fr x with
    | some a => (o_field ty s a f)
    | none => none
  | .indexAddr t x i => match ev1 fr x, ev1 fr i with
    | some a, some b => (o_indexAddr ty t a b)
    | _, _ => none
  | .index t x i => match ev1 fr x, ev1 fr i with
    | some a, some b => (o_indexX ty t a b)
    | _, _ => none
  | .slice t x lo hi none => match ev1 fr x, evO fr lo, evO fr hi with
    | some a, some l, some u => (o_sliceX ty t a l u)
    | _, _, _ => none
  | .slice t x lo (some hi) (some m) => match ev1 fr x, evO fr lo, ev1 fr hi, ev1 fr m with
    | some a, some l, some u, some k => (o_slice3 ty t a l u k)
    | _, _, _, _ => none
  | .extract x i => match ev1 fr x with
    | some a => (o_extract a i)
    | none => none
  | .call c => match c.callee with
    | .builtin .len => match evL fr c.args.toList, c.argTypes.toList with
      | some [x], [t] => o_lenA ty h t x
      | _, _ => none
    | .builtin .cap => match evL fr c.args.toList, c.argTypes.toList with
      | some [x], [t] => o_cap ty t x
      | _, _ => none
    | .builtin .min => match evL fr c.args.toList with
      | some [x, y] => o_min x y
      | _ => none
    | .builtin .complex => match evL fr c.args.toList with
      | some [x, y] => o_cpx x y
      | _ => none
    | .builtin .real => match evL fr c.args.toList with
      | some [x] => o_re x
      | _ => none
    | .builtin .imag => match evL fr c.args.toList with
      | some [x] => o_im x
      | _ => none
    | _ => none
  | _ => none
def operE (ty : Ty) (call : CallF) (fr : Fr) (h : Hp) (o : Oper) : Option (Value × Hp) :=
  match o.op with
  | .alloc e => o_alloc ty h e
  | .box e x => match ev1 fr x with
    | some v => o_box h e v
    | none => none
  | .buildSlice t len ps => match evP fr ps.toList with
    | some l => o_buildSlice ty h t len l
    | none => none
  | .store t a x => match ev1 fr a, ev1 fr x with
    | some p, some v => match o_store ty h t p v with
      | some h' => some (undef, h')
      | none => none
    | _, _ => none
  | .makeMap t none => o_makeMap h
  | .makeMap t (some x) => match ev1 fr x, desc ty t with
    | some (.int _ _), some (.map _ _) => o_makeMap h
    | _, _ => none
  | .range t x => match ev1 fr x with
    | some m => o_range ty h t m
    | none => none
  | .next x b => match ev1 fr x with
    | some i => bif b then none else o_next h i
    | none => none
  | .makeSlice t l c => match ev1 fr l, ev1 fr c with
    | some a, some b => o_makeSlice ty h t a b
    | _, _ => none
  | .mapUpdate t m k x => match ev1 fr m, ev1 fr k, ev1 fr x with
    | some a, some b, some v => match o_mapUpdate ty h t a b v with
      | some h' => some (undef, h')
      | none => none
    | _, _, _ => none
  | .insert t m k x => match ev1 fr m, ev1 fr k, ev1 fr x with
    | some a, some b, some v => match o_mapUpdate ty h t a b v with
      | some h' => some (undef, h')
      | none => none
    | _, _, _ => none
  | .call c => match c.callee with
    | .value f => match ev1 fr f, evL fr c.args.toList with
      | some (.func (.func g) fs cs), some l => call (.fn g) (fs.toList ++ l ++ cs.toList) h
      | some (.func (.yield i) fs cs), some l => bif fs.isEmpty && cs.isEmpty then call (.yl i) l h else none
      | _, _ => none
    | .builtin .append => match evL fr c.args.toList, c.argTypes.toList with
      | some [x, y], [t, t2] => bif Nat.beq t t2 then o_appendX ty h t x y else o_appendY ty h t t2 x y
      | _, _ => none
    | .builtin .copy => match evL fr c.args.toList, c.argTypes.toList with
      | some [x, y], [t, _] => o_copy ty h t x y
      | _, _ => none
    | _ => none
  | _ => none
def oper (ty : Ty) (call : CallF) (fr : Fr) (h : Hp) (o : Oper) : Option (Value × Hp) :=
  match operQ ty fr h o with
  | some v => some (v, h)
  | none => operE ty call fr h o

section
variable {P : Program} {ty : Ty} {sz : Nat → Nat} {w0 : World} {Φ : Fx}
theorem evL_is {R : Rn} {rd : Option Nat} {nt : Nat} {fr : Fr} {a : Act} (hf : FR R rd nt fr a) : ∀ (l : List Operand) (vs : List Value), evL fr l = some vs → A2 (VR R) vs (l.map a.eval)
  | [], vs, h => by cases h; exact ⟨rfl, fun i v hv => by cases hv⟩
  | x :: r, vs, h => by
    unfold evL at h
    split at h
    · rename_i v l hv hl
      cases h
      obtain ⟨v', h1, h2⟩ := ev1_is hf hv
      have ih := evL_is hf r l hl
      refine ⟨by simp [ih.1], fun i u hu => ?_⟩
      cases i with
      | zero => cases hu; exact ⟨v', by simp [h1], h2⟩
      | succ i => exact ih.2 i u hu
    · cases h
theorem evP_is {R : Rn} {rd : Option Nat} {nt : Nat} {fr : Fr} {a : Act} (hf : FR R rd nt fr a) : ∀ (l : List (Nat × Operand)) (vs : List (Nat × Value)), evP fr l = some vs → PR R vs (l.map fun p => (p.1, a.eval p.2))
  | [], vs, h => by cases h; exact .nil
  | (i, x) :: r, vs, h => by
    unfold evP at h
    split at h
    · rename_i v l hv hl
      cases h
      obtain ⟨v', h1, h2⟩ := ev1_is hf hv
      rw [List.map_cons]
      dsimp only
      rw [h1]
      exact .cons i v v' _ _ h2 (evP_is hf r l hl)
    · cases h
theorem evO_is {R : Rn} {rd : Option Nat} {nt : Nat} {fr : Fr} {a : Act} (hf : FR R rd nt fr a) {x : Option Operand} {v : Option Value} (h : evO fr x = some v) : OV R v (x.map a.eval) := by
  unfold evO at h
  split at h
  · cases h; exact .inl ⟨rfl, rfl⟩
  · split at h
    · rename_i x v hv
      cases h
      obtain ⟨v', h1, h2⟩ := ev1_is hf hv
      exact .inr ⟨_, _, rfl, by simp [h1], h2⟩
    · cases h
theorem o_bin_is (T : TyOK P ty) {R : Rn} {w : World} {h : Hp} (hh : HR sz w0 Φ R w h) {op : BinOp} {t : Nat} {ox oy : Operand} {x y x' y' v : Value} (hx : VR R x x') (hy : VR R y y')
    (ho : o_bin ty op t x y = some v) : Ok0 P R w v (do eqGuard op t ox oy x' y'; binOp op t x' y') := by
  unfold o_bin at ho
  split at ho
  · split at ho
    · rename_i u hu
      cases ho
      exact o_int_is hh hx hy hu
    · cases ho
  · split at ho
    · rename_i u hu
      cases ho
      exact o_int_is hh hx hy hu
    · cases ho
  · split at ho
    · rename_i u hu
      cases ho
      exact o_int_is hh hx hy hu
    · cases ho
  · exact o_str_is hh hx hy ho
  · rename_i hi hf hcx hs
    split at ho
    · rename_i c hc
      exact o_eq_is T hh hx hy (fun k n e => hi k n e) (fun s e => hs s e) hc ho
    · cases ho
theorem parts_map (a : Act) (ps : Array (Nat × Operand)) : (ps.map fun (i, x) => (i, a.eval x)).toList = ps.toList.map fun p => (p.1, a.eval p.2) := by
  rw [Array.toList_map]
theorem list1 {r : Value → Value → Prop} {x : Value} {l : List Value} (h : A2 r [x] l) : ∃ x', l = [x'] ∧ r x x' := by
  obtain ⟨h1, h2⟩ := h
  match l, h1 with
  | [x'], _ =>
    obtain ⟨v, h3, h4⟩ := h2 0 x rfl
    cases h3
    exact ⟨x', rfl, h4⟩
theorem list2 {r : Value → Value → Prop} {x y : Value} {l : List Value} (h : A2 r [x, y] l) : ∃ x' y', l = [x', y'] ∧ r x x' ∧ r y y' := by
  obtain ⟨h1, h2⟩ := h
  match l, h1 with
  | [x', y'], _ =>
    obtain ⟨v, h3, h4⟩ := h2 0 x rfl
    obtain ⟨u, h5, h6⟩ := h2 1 y rfl
    cases h3
    cases h5
    exact ⟨x', y', rfl, h4, h6⟩
/-- what one operation does, said of its run -/
def OpR (P : Program) (sz : Nat → Nat) (w0 : World) (Φ : Fx) (R : Rn) (w : World) (h' : Hp) (v : Value) (r : Result Next) : Prop :=
  (∃ R' w' v', Ext R R' ∧ HR sz w0 Φ R' w' h' ∧ VR R' v v' ∧ (r = .ok (.value v') w' ∨ (r = .ok .skip w' ∧ v' = undef))) ∨
  (∃ g args, r = .ok (.enter g args) w ∧ ∀ W : Ending → World → Prop, (∀ R' w' v', Ext R R' → HR sz w0 Φ R' w' h' → VR R' v v' → W (.returned v') w') → Calls P g args w W) ∨
  ∃ l f tmps as bd, r = .ok (.round l f tmps as bd) w ∧ ∀ W : Ending → World → Prop, (∀ R' w' v', Ext R R' → HR sz w0 Φ R' w' h' → VR R' v v' → W (.returned v') w') → RoundIn Fence.wide 0 P l f tmps as bd w W
theorem OpR.wp {R : Rn} {w : World} {h' : Hp} {v : Value} {o : Oper} {a : Act} (nd : ∀ c, o.op ≠ .defer c) (hr : OpR P sz w0 Φ R w h' v ((execOp a.eval o).run P w)) {rd : Option Nat} {K : Act → World → Prop} {Q : Exit → Act → World → Prop}
    (hK : ∀ R' w' v', Ext R R' → HR sz w0 Φ R' w' h' → VR R' v v' → K (a.put o.dst v') w') : o.wpIn (FW rd) 0 P a w K Q := by
  rcases hr with ⟨R', w', v', h1, h2, h3, h4 | ⟨h4, rfl⟩⟩ | ⟨g, args, h4, h5⟩ | ⟨l, f, tmps, as, bd, h4, h5⟩
  · exact wp_val nd h4 (hK R' w' v' h1 h2 h3)
  · exact wp_skp nd h4 (hK R' w' _ h1 h2 h3)
  · refine ⟨fun _ _ => trivial, ?_⟩
    rw [Oper.semAt_eq _ _ _ nd, h4]
    refine ⟨fun hx => (by cases hx), callsIn_wide.2 (h5 (fun
      | .returned v, w'' => K (a.put o.dst v) w''
      | .panicked chain, w'' => Q (.panic chain) a w''
      | .outgrown, _ => LetsOut Q) fun R' w' v' h1 h2 h3 => hK R' w' v' h1 h2 h3)⟩
  · refine ⟨fun _ _ => trivial, ?_⟩
    rw [Oper.semAt_eq _ _ _ nd, h4]
    exact ⟨fun hx => (by cases hx), h5 (fun
      | .returned v, w'' => K (a.put o.dst v) w''
      | .panicked chain, w'' => Q (.panic chain) a w''
      | .outgrown, _ => LetsOut Q) fun R' w' v' h1 h2 h3 => hK R' w' v' h1 h2 h3⟩
theorem o_lenA_is (T : TyOK P ty) {R : Rn} {w : World} {h : Hp} (hh : HR sz w0 Φ R w h) {t u : Nat} {x x' v : Value} (hx : VR R x x') (ho : o_lenA ty h t x = some v) : Ok0 P R w v (Builtin.len_ #[t] u #[x']) := by
  unfold o_lenA at ho
  split at ho
  · exact o_lenM_is T hh hx ho
  · exact o_len_is T hh hx ho
theorem o_nilI_is (T : TyOK P ty) {R : Rn} {w : World} {h : Hp} (hh : HR sz w0 Φ R w h) {op : BinOp} {t : Nat} {ox oy : Operand} (hc : (isCon ox || isCon oy) = true) {v : Value} (ho : o_nilI ty op t = some v) :
    Ok0 P R w v (do eqGuard op t ox oy .nilIface .nilIface; binOp op t .nilIface .nilIface) := by
  unfold o_nilI at ho
  split at ho
  · rename_i ms hd
    have hu := desc_is T hd
    have hg : (eqGuard op t ox oy .nilIface .nilIface).run P w = .ok () w := by
      cases ox <;> cases oy <;> first | (cases hc; done) | (cases op <;> simp [eqGuard])
    have he : (Op.equal t .nilIface .nilIface).run P w = .ok true w := by
      have key : ∀ d, (Op.equalIn (d + 1) t .nilIface .nilIface).run P w = .ok true w := fun d => by simp [Op.equalIn, run_underlying hu]
      exact key 9999
    cases op <;> cases ho
    · refine .same hh (.lit rfl) ?_
      rw [Sem.run_bind, hg]
      simp [binOp, he]
    · refine .same hh (.lit rfl) ?_
      rw [Sem.run_bind, hg]
      simp [binOp, he]
  · cases ho
theorem VR.func2 {R : Rn} {g : Nat} {f c : Array Value} {v : Value} (h : VR R (.func (.func g) f c) v) : ∃ f' c', v = .func (.func g) f' c' ∧ A2 (VR R) f.toList f'.toList ∧ A2 (VR R) c.toList c'.toList := by
  have up : ∀ {l m : List Value}, A2 (BR R) l m → A2 (VR R) l m := fun h => h.mono fun _ _ h => .inl (.inl h.sr)
  rcases h with (h | ⟨_, _, h, _⟩) | ⟨_, _, h, _⟩
  · cases h with
    | lit _ hl =>
      have hl2 : (f.isEmpty && c.isEmpty) = true := hl
      rw [Bool.and_eq_true, Array.isEmpty_iff, Array.isEmpty_iff] at hl2
      obtain ⟨rfl, rfl⟩ := hl2
      exact ⟨#[], #[], rfl, ⟨rfl, fun i v hv => by simp at hv⟩, ⟨rfl, fun i v hv => by simp at hv⟩⟩
    | fn _ _ _ f' c' h1 h2 => exact ⟨f', c', rfl, up h1, up h2⟩
  · cases h
  · cases h
theorem VR.yld {R : Rn} {i : Nat} {f c : Array Value} {v : Value} (h : VR R (.func (.yield i) f c) v) : v = .func (.yield (R.ρ i)) #[] #[] ∧ R.D i ∧ f = #[] ∧ c = #[] := by
  rcases h with (h | ⟨_, _, h, _⟩) | ⟨_, _, h, _⟩
  · cases h with
    | lit _ hl => cases hl
    | yl _ hD => exact ⟨rfl, hD, rfl, rfl⟩
  · cases h
  · cases h
theorem A2.app {r : Value → Value → Prop} {a a' b b' : List Value} (h : A2 r a a') (k : A2 r b b') : A2 r (a ++ b) (a' ++ b') := ⟨by simp [h.1, k.1], fun j v hv => by
  rw [List.getElem?_append] at hv ⊢
  rw [← h.1]
  by_cases c : j < a.length
  · rw [if_pos c] at hv ⊢; exact h.2 j v hv
  · rw [if_neg c] at hv ⊢; exact k.2 _ v hv⟩
theorem o_appendY_is (T : TyOK P ty) (hS : SzOK ty sz) {R : Rn} {w : World} {h : Hp} (hh : HR sz w0 Φ R w h) {t t2 u : Nat} {x y x' y' v : Value} {h' : Hp} (hx : VR R x x') (hy : VR R y y') (ho : o_appendY ty h t t2 x y = some (v, h')) :
    Ok P sz w0 Φ R w h' v (Builtin.append_ #[t, t2] u #[x', y']) := by
  unfold o_appendY at ho
  split at ho
  · exact o_appendS_is T hS hh hx hy ho
  · exact o_appendZ_is T hS hh hx hy ho
theorem operQ_is (T : TyOK P ty) {fr : Fr} {h : Hp} {o : Oper} {v : Value} (he : operQ ty fr h o = some v) {R : Rn} {w : World} {rd : Option Nat} {nt : Nat} {a : Act} (hh : HR sz w0 Φ R w h) (hf : FR R rd nt fr a) :
    ∃ v', VR R v v' ∧ (execOp a.eval o).run P w = .ok (.value v') w := by
  unfold operQ at he
  have via : ∀ {s : Sem Value}, execOp a.eval o = (do pure (Next.value (← s))) → Ok0 P R w v s → ∃ v', VR R v v' ∧ (execOp a.eval o).run P w = .ok (.value v') w := fun e ⟨v', h1, h2⟩ => ⟨v', h1, by rw [e]; exact run_v h2⟩
  have one : ∀ {x : Operand} {u : Value}, ev1 fr x = some u → ∃ u', a.eval x = u' ∧ VR R u u' := fun hx => ev1_is hf hx
  cases hop : o.op <;> rw [hop] at he <;> (try dsimp only at he) <;> first | (cases he; done) | skip
  case move x =>
    have h1 := he
    obtain ⟨v', h2, h3⟩ := one h1
    exact ⟨v', h3, (by unfold execOp; rw [hop]; dsimp only; rw [h2]; rfl)⟩
  case assign x =>
    have h1 := he
    obtain ⟨v', h2, h3⟩ := one h1
    exact ⟨v', h3, (by unfold execOp; rw [hop]; dsimp only; rw [h2]; rfl)⟩
  case pick c x y =>
    split at he
    · rename_i t hc
      have h1 := he
      obtain ⟨c', h2, h3⟩ := one hc
      rw [h3.bool] at h2
      cases t with
      | true =>
        obtain ⟨v', h4, h5⟩ := one h1
        exact ⟨v', h5, (by unfold execOp; rw [hop]; simp [h2, asBool, h4])⟩
      | false =>
        obtain ⟨v', h4, h5⟩ := one h1
        exact ⟨v', h5, (by unfold execOp; rw [hop]; simp [h2, asBool, h4])⟩
    · cases he
  case build t ps =>
    split at he
    · rename_i l hl
      have h1 := he
      exact via (s := Instr.build t (ps.map fun (i, x) => (i, a.eval x))) (by unfold execOp; rw [hop]) (o_build_is T hh (by rw [parts_map]; exact evP_is hf _ _ hl) h1)
    · cases he
  case load t x =>
    split at he
    · rename_i u hu
      have h1 := he
      obtain ⟨u', h2, h3⟩ := one hu
      exact via (s := Instr.loadAt t u') (by unfold execOp; rw [hop]; dsimp only; rw [h2]) (o_load_is T hh h3 h1)
    · cases he
  case nilCheck x =>
    split at he
    · rename_i p hp
      cases he
      obtain ⟨p', h2, h3⟩ := one hp
      have h4 := h3.ptr.1
      exact ⟨p', h3, (by unfold execOp; rw [hop]; dsimp only; rw [h2, h4]; rfl)⟩
    · rename_i g f c hp
      cases he
      obtain ⟨p', h2, h3⟩ := one hp
      obtain ⟨f', c', h4, _, _⟩ := h3.func2
      exact ⟨p', h3, (by unfold execOp; rw [hop]; dsimp only; rw [h2, h4]; rfl)⟩
    · rename_i g f c hp
      cases he
      obtain ⟨p', h2, h3⟩ := one hp
      obtain ⟨h4, _, _, _⟩ := h3.yld
      exact ⟨p', h3, (by unfold execOp; rw [hop]; dsimp only; rw [h2, h4]; rfl)⟩
    · cases he
  case binOp op t x y ty2 =>
    split at he
    · rename_i hp hu
      cases hcn : isCon x || isCon y with
      | false => rw [hcn] at he; cases he
      | true =>
        rw [hcn] at he
        dsimp only [cond_true] at he
        obtain ⟨p', h2, h3⟩ := one hp
        obtain ⟨u', h4, h5⟩ := one hu
        have e1 : p' = .nilIface := h3.of_lit rfl (fun e => by cases e)
        have e2 : u' = .nilIface := h5.of_lit rfl (fun e => by cases e)
        rw [e1] at h2
        rw [e2] at h4
        exact via (s := do eqGuard op t x y .nilIface .nilIface; binOp op t .nilIface .nilIface) (by unfold execOp; rw [hop]; dsimp only; rw [h2, h4]) (o_nilI_is T hh hcn he)
    · rename_i p u hp hu
      have h1 := he
      obtain ⟨p', h2, h3⟩ := one hp
      obtain ⟨u', h4, h5⟩ := one hu
      exact via (s := do eqGuard op t x y p' u'; binOp op t p' u') (by unfold execOp; rw [hop]; dsimp only; rw [h2, h4]) (o_bin_is T hh h3 h5 h1)
    · cases he
  case unOp op t x =>
    split at he
    · rename_i u hu
      have h1 := he
      obtain ⟨u', h2, h3⟩ := one hu
      exact via (s := Op.unary op u') (by unfold execOp; rw [hop]; dsimp only; rw [h2]) (o_un_is hh h3 h1)
    · cases he
  case convert s d x =>
    split at he
    · rename_i u hu
      have h1 := he
      obtain ⟨u', h2, h3⟩ := one hu
      exact via (s := convert s d u') (by unfold execOp; rw [hop]; dsimp only; rw [h2]) (o_convX_is T hh h3 h1)
    · cases he
  case fieldAddr s x f =>
    split at he
    · rename_i u hu
      have h1 := he
      obtain ⟨u', h2, h3⟩ := one hu
      exact via (s := Instr.fieldAt s u' f) (by unfold execOp; rw [hop]; dsimp only; rw [h2]) (o_fieldAddr_is T hh h3 h1)
    · cases he
  case field s x f =>
    split at he
    · rename_i u hu
      have h1 := he
      obtain ⟨u', h2, h3⟩ := one hu
      exact via (s := Instr.field s u' f) (by unfold execOp; rw [hop]; dsimp only; rw [h2]) (o_field_is T hh h3 h1)
    · cases he
  case indexAddr t x i =>
    split at he
    · rename_i p u hp hu
      have h1 := he
      obtain ⟨p', h2, h3⟩ := one hp
      obtain ⟨u', h4, h5⟩ := one hu
      exact via (s := Instr.indexAt t p' u') (by unfold execOp; rw [hop]; dsimp only; rw [h2, h4]) (o_indexAddr_is T hh h3 h5 h1)
    · cases he
  case index t x i =>
    split at he
    · rename_i p u hp hu
      have h1 := he
      obtain ⟨p', h2, h3⟩ := one hp
      obtain ⟨u', h4, h5⟩ := one hu
      exact via (s := Instr.index t p' u') (by unfold execOp; rw [hop]; dsimp only; rw [h2, h4]) (o_indexX_is T hh h3 h5 h1)
    · cases he
  case slice t x lo hi mx =>
    cases mx with
    | some m =>
      cases hi with
      | none => cases he
      | some hi =>
        dsimp only at he
        split at he
        · rename_i p l u k hp hl hu hk
          have h1 := he
          obtain ⟨p', h2, h3⟩ := one hp
          obtain ⟨u', h4, h5⟩ := one hu
          obtain ⟨k', h6, h7⟩ := one hk
          exact via (s := Instr.sliceAt t p' (lo.map a.eval) (some u') (some k')) (by unfold execOp; rw [hop]; dsimp only; rw [h2]; simp only [Option.map_some, h4, h6]) (o_slice3_is T hh h3 (evO_is hf hl) h5 h7 h1)
        · cases he
    | none =>
      dsimp only at he
      split at he
      · rename_i p l u hp hl hu
        have h1 := he
        obtain ⟨p', h2, h3⟩ := one hp
        exact via (s := Instr.sliceAt t p' (lo.map a.eval) (hi.map a.eval) none) (by unfold execOp; rw [hop]; dsimp only; rw [h2]; rfl) (o_sliceX_is T hh h3 (evO_is hf hl) (evO_is hf hu) h1)
      · cases he
  case makeFunc fn f c =>
    split at he
    · rename_i p u hp hu
      exact via (s := Instr.makeFunc fn (f.map a.eval) (c.map a.eval)) (by unfold execOp; rw [hop]) (o_makeFunc_is hh (by rw [Array.toList_map]; exact evL_is hf _ _ hp) (by rw [Array.toList_map]; exact evL_is hf _ _ hu) he)
    · cases he
  case lookup t x i b =>
    split at he
    · rename_i p u hp hu
      have h1 := he
      obtain ⟨p', h2, h3⟩ := one hp
      obtain ⟨u', h4, h5⟩ := one hu
      exact via (s := Instr.lookup t p' u' b) (by unfold execOp; rw [hop]; dsimp only; rw [h2, h4]) (o_lookup_is T hh h3 h5 h1)
    · cases he
  case entry x =>
    split at he
    · rename_i u hu
      obtain ⟨u', h2, h3⟩ := one hu
      exact via (s := Instr.entry u') (by unfold execOp; rw [hop]; dsimp only; rw [h2]) (o_entry_is hh h3 he)
    · cases he
  case extract x i =>
    split at he
    · rename_i u hu
      have h1 := he
      obtain ⟨u', h2, h3⟩ := one hu
      exact via (s := Instr.extract u' i) (by unfold execOp; rw [hop]; dsimp only; rw [h2]) (o_extract_is hh h3 h1)
    · cases he
  case call c =>
    split at he
    · rename_i hcal
      split at he
      · rename_i x t hl ht
        have h1 := he
        obtain ⟨x', hx1, hx2⟩ := list1 (evL_is hf _ _ hl)
        have e1 : c.args.map a.eval = #[x'] := Array.ext' (by rw [Array.toList_map]; exact hx1)
        have e2 : c.argTypes = #[t] := Array.ext' ht
        exact via (s := Builtin.len_ #[t] o.type #[x']) (by unfold execOp; rw [hop]; dsimp only; unfold resolve; rw [e1, hcal, e2]; rfl) (o_lenA_is T hh hx2 h1)
      · cases he
    · rename_i hcal
      split at he
      · rename_i x t hl ht
        have h1 := he
        obtain ⟨x', hx1, hx2⟩ := list1 (evL_is hf _ _ hl)
        have e1 : c.args.map a.eval = #[x'] := Array.ext' (by rw [Array.toList_map]; exact hx1)
        have e2 : c.argTypes = #[t] := Array.ext' ht
        exact via (s := Builtin.cap_ #[t] o.type #[x']) (by unfold execOp; rw [hop]; dsimp only; unfold resolve; rw [e1, hcal, e2]; rfl) (o_cap_is T hh hx2 h1)
      · cases he
    · rename_i hcal
      split at he
      · rename_i x y hl
        have h1 := he
        obtain ⟨x', y', hx1, hx2, hx3⟩ := list2 (evL_is hf _ _ hl)
        have e1 : c.args.map a.eval = #[x', y'] := Array.ext' (by rw [Array.toList_map]; exact hx1)
        exact via (s := Builtin.min_ c.argTypes o.type #[x', y']) (by unfold execOp; rw [hop]; dsimp only; unfold resolve; rw [e1, hcal]; rfl) (o_min_is hh hx2 hx3 h1)
      · cases he
    · rename_i hcal
      split at he
      · rename_i x y hl
        have h1 := he
        obtain ⟨x', y', hx1, hx2, hx3⟩ := list2 (evL_is hf _ _ hl)
        have e1 : c.args.map a.eval = #[x', y'] := Array.ext' (by rw [Array.toList_map]; exact hx1)
        exact via (s := Builtin.complex_ c.argTypes o.type #[x', y']) (by unfold execOp; rw [hop]; dsimp only; unfold resolve; rw [e1, hcal]; rfl) (o_cpx_is hh hx2 hx3 h1)
      · cases he
    · rename_i hcal
      split at he
      · rename_i x hl
        have h1 := he
        obtain ⟨x', hx1, hx2⟩ := list1 (evL_is hf _ _ hl)
        have e1 : c.args.map a.eval = #[x'] := Array.ext' (by rw [Array.toList_map]; exact hx1)
        exact via (s := Builtin.real_ c.argTypes o.type #[x']) (by unfold execOp; rw [hop]; dsimp only; unfold resolve; rw [e1, hcal]; rfl) (o_re_is hh hx2 h1)
      · cases he
    · rename_i hcal
      split at he
      · rename_i x hl
        have h1 := he
        obtain ⟨x', hx1, hx2⟩ := list1 (evL_is hf _ _ hl)
        have e1 : c.args.map a.eval = #[x'] := Array.ext' (by rw [Array.toList_map]; exact hx1)
        exact via (s := Builtin.imag_ c.argTypes o.type #[x']) (by unfold execOp; rw [hop]; dsimp only; unfold resolve; rw [e1, hcal]; rfl) (o_im_is hh hx2 h1)
      · cases he
    · cases he
theorem operE_is (T : TyOK P ty) (hS : SzOK ty sz) {call : CallF} (hcall : CallS P sz call) {fr : Fr} {h : Hp} {o : Oper} {v : Value} {h' : Hp} (he : operE ty call fr h o = some (v, h')) {R : Rn} {w : World} {rd : Option Nat} {nt : Nat} {a : Act}
    (hh : HR sz w0 Φ R w h) (hf : FR R rd nt fr a) : OpR P sz w0 Φ R w h' v ((execOp a.eval o).run P w) := by
  unfold operE at he
  have via : ∀ {s : Sem Value}, execOp a.eval o = (do pure (Next.value (← s))) → Ok P sz w0 Φ R w h' v s → OpR P sz w0 Φ R w h' v ((execOp a.eval o).run P w) := fun e ⟨R', w', v', h1, h2, h3, h4⟩ => .inl ⟨R', w', v', h1, h2, h3, .inl (by rw [e]; exact run_v h4)⟩
  have one : ∀ {x : Operand} {u : Value}, ev1 fr x = some u → ∃ u', a.eval x = u' ∧ VR R u u' := fun hx => ev1_is hf hx
  cases hop : o.op <;> rw [hop] at he <;> (try dsimp only at he) <;> first | (cases he; done) | skip
  case alloc e => exact via (by unfold execOp; rw [hop]) (o_alloc_is T hh he)
  case box e x =>
    split at he
    · rename_i u hu
      obtain ⟨u', h2, h3⟩ := one hu
      exact via (s := Instr.box e u') (by unfold execOp; rw [hop]; dsimp only; rw [h2]) (o_box_is hh h3 he)
    · cases he
  case buildSlice t len ps =>
    split at he
    · rename_i l hl
      exact via (s := Instr.buildSlice t len (ps.map fun (i, x) => (i, a.eval x))) (by unfold execOp; rw [hop]) (o_buildSlice_is T hh (by rw [parts_map]; exact evP_is hf _ _ hl) he)
    · cases he
  case store t x y =>
    split at he
    · rename_i p u hp hu
      obtain ⟨p', h2, h3⟩ := one hp
      obtain ⟨u', h4, h5⟩ := one hu
      split at he
      · rename_i h1 hs
        cases he
        obtain ⟨w', h6, h7⟩ := o_store_is T hh h3 h5 hs
        exact .inl ⟨R, w', undef, .refl R, h6, VR.undef, .inr ⟨by unfold execOp; rw [hop]; dsimp only; rw [h2, h4]; exact run_u h7, rfl⟩⟩
      · cases he
    · cases he
  case makeMap t r =>
    cases r with
    | some x =>
      dsimp only at he
      split at he
      · rename_i k n kt et hu hd
        obtain ⟨u', h2, h3⟩ := one hu
        exact via (s := Instr.makeMap t (some u')) (by unfold execOp; rw [hop]; dsimp only [Option.map_some]; rw [h2]) (o_makeMapR_is hh T hd h3 he)
      · cases he
    | none => exact via (s := Instr.makeMap t none) (by unfold execOp; rw [hop]; rfl) (o_makeMap_is hh he)
  case range t x =>
    split at he
    · rename_i u hu
      obtain ⟨u', h2, h3⟩ := one hu
      exact via (s := Instr.range t u') (by unfold execOp; rw [hop]; dsimp only; rw [h2]) (o_range_is T hh h3 he)
    · cases he
  case next x b =>
    split at he
    · rename_i u hu
      obtain ⟨u', h2, h3⟩ := one hu
      cases b with
      | true => cases he
      | false => exact via (s := Instr.next u' false o.type) (by unfold execOp; rw [hop]; dsimp only; rw [h2]) (o_next_is hh h3 he)
    · cases he
  case makeSlice t x y =>
    split at he
    · rename_i p u hp hu
      obtain ⟨p', h2, h3⟩ := one hp
      obtain ⟨u', h4, h5⟩ := one hu
      exact via (s := Instr.makeSlice t p' u') (by unfold execOp; rw [hop]; dsimp only; rw [h2, h4]) (o_makeSlice_is T hh h3 h5 he)
    · cases he
  case mapUpdate t m k x =>
    split at he
    · rename_i p u q hp hu hq
      obtain ⟨p', h2, h3⟩ := one hp
      obtain ⟨u', h4, h5⟩ := one hu
      obtain ⟨q', h6, h7⟩ := one hq
      split at he
      · rename_i h1 hs
        cases he
        obtain ⟨w', h8, h9⟩ := o_mapUpdate_is T hh h3 h5 h7 hs
        exact .inl ⟨R, w', undef, .refl R, h8, VR.undef, .inr ⟨by unfold execOp; rw [hop]; dsimp only; rw [h2, h4, h6]; exact run_u h9, rfl⟩⟩
      · cases he
    · cases he
  case insert t m k x =>
    split at he
    · rename_i p u q hp hu hq
      obtain ⟨p', h2, h3⟩ := one hp
      obtain ⟨u', h4, h5⟩ := one hu
      obtain ⟨q', h6, h7⟩ := one hq
      split at he
      · rename_i h1 hs
        cases he
        obtain ⟨w', h8, h9⟩ := o_mapUpdate_is T hh h3 h5 h7 hs
        exact .inl ⟨R, w', undef, .refl R, h8, VR.undef, .inr ⟨by unfold execOp; rw [hop]; dsimp only; rw [h2, h4, h6]; exact run_u h9, rfl⟩⟩
      · cases he
    · cases he
  case call c =>
    split at he
    · rename_i f hcal
      split at he
      · rename_i g fs cs l hfv hl
        obtain ⟨u', h2, h3⟩ := one hfv
        obtain ⟨f', c', rfl, hf1, hf2⟩ := h3.func2
        have hargs := evL_is hf _ _ hl
        have hA : A2 (VR R) (fs.toList ++ l ++ cs.toList) ((f' ++ c.args.map a.eval) ++ c').toList := by
          rw [Array.toList_append, Array.toList_append, Array.toList_map]
          exact (hf1.app hargs).app hf2
        obtain ⟨hcb, _⟩ := hcall w0 Φ (.fn g) _ h v h' he R w _ (fun _ _ => True) hh hA (fun _ _ _ _ _ _ => trivial)
        have hrun : (execOp a.eval o).run P w = .ok (.enter g ((f' ++ c.args.map a.eval) ++ c')) w := by
          unfold execOp
          rw [hop]
          simp only [resolve, hcal, h2, Deferred.ofValue, Sem.run_bind, Sem.run_pure, Result.andThen_ok, invoke]
          exact run_callFunc hcb _ _
        exact .inr (.inl ⟨g, _, hrun, fun W hW => (hcall w0 Φ (.fn g) _ h v h' he R w _ W hh hA hW).2⟩)
      · rename_i i fs cs l hfv hl
        cases hem : fs.isEmpty && cs.isEmpty with
        | false => rw [hem] at he; cases he
        | true =>
          rw [hem] at he
          dsimp only [cond_true] at he
          obtain ⟨u', h2, h3⟩ := one hfv
          obtain ⟨rfl, hD, _, _⟩ := h3.yld
          have hargs := evL_is hf _ _ hl
          have hA : A2 (VR R) l (c.args.map a.eval).toList := by rw [Array.toList_map]; exact hargs
          obtain ⟨_, fn, tmps, as, bd, hy, _⟩ := hcall w0 Φ (.yl i) _ h v h' he R w _ (fun _ _ => True) hh hA (fun _ _ _ _ _ _ => trivial)
          have hrun : (execOp a.eval o).run P w = .ok (.round (R.ρ i) fn tmps as bd) w := by
            unfold execOp
            rw [hop]
            simp only [resolve, hcal, h2, Deferred.ofValue, Sem.run_bind, Sem.run_pure, Result.andThen_ok, invoke, Array.empty_append]
            exact hy
          refine .inr (.inr ⟨_, _, _, _, _, hrun, fun W hW => ?_⟩)
          obtain ⟨_, fn2, tmps2, as2, bd2, hy2, hR⟩ := hcall w0 Φ (.yl i) _ h v h' he R w _ W hh hA hW
          rw [hy] at hy2
          cases hy2
          exact hR
      · cases he
    · rename_i hcal
      split at he
      · rename_i x y t t2 hl ht
        cases hte : Nat.beq t t2 with
        | false =>
          rw [hte] at he
          obtain ⟨x', y', hx1, hx2, hx3⟩ := list2 (evL_is hf _ _ hl)
          have e1 : c.args.map a.eval = #[x', y'] := Array.ext' (by rw [Array.toList_map]; exact hx1)
          have e2 : c.argTypes = #[t, t2] := Array.ext' ht
          exact via (s := Builtin.append_ #[t, t2] o.type #[x', y']) (by unfold execOp; rw [hop]; dsimp only; unfold resolve; rw [e1, hcal, e2]; rfl) (o_appendY_is T hS hh hx2 hx3 he)
        | true =>
          rw [hte] at he
          have e0 := Nat.eq_of_beq_eq_true hte
          subst e0
          obtain ⟨x', y', hx1, hx2, hx3⟩ := list2 (evL_is hf _ _ hl)
          have e1 : c.args.map a.eval = #[x', y'] := Array.ext' (by rw [Array.toList_map]; exact hx1)
          have e2 : c.argTypes = #[t, t] := Array.ext' ht
          exact via (s := Builtin.append_ #[t, t] o.type #[x', y']) (by unfold execOp; rw [hop]; dsimp only; unfold resolve; rw [e1, hcal, e2]; rfl) (o_appendX_is T hS hh hx2 hx3 he)
      · cases he
    · rename_i hcal
      split at he
      · rename_i x y t t2 hl ht
        obtain ⟨x', y', hx1, hx2, hx3⟩ := list2 (evL_is hf _ _ hl)
        have e1 : c.args.map a.eval = #[x', y'] := Array.ext' (by rw [Array.toList_map]; exact hx1)
        have e2 : c.argTypes = #[t, t2] := Array.ext' ht
        exact via (s := Builtin.copy_ #[t, t2] o.type #[x', y']) (by unfold execOp; rw [hop]; dsimp only; unfold resolve; rw [e1, hcal, e2]; rfl) (o_copy_is T hh hx2 hx3 he)
      · cases he
    · cases he
theorem nd_Q {fr : Fr} {h : Hp} {o : Oper} {v : Value} (he : operQ ty fr h o = some v) : ∀ c, o.op ≠ .defer c := fun c e => by
  unfold operQ at he
  rw [e] at he
  cases he
theorem nd_E {call : CallF} {fr : Fr} {h : Hp} {o : Oper} {v : Value × Hp} (he : operE ty call fr h o = some v) : ∀ c, o.op ≠ .defer c := fun c e => by
  unfold operE at he
  rw [e] at he
  cases he
theorem oper_is (T : TyOK P ty) (hS : SzOK ty sz) (call : CallF) (hcall : CallS P sz call) : OpS P sz (oper ty call) := by
  intro w0 Φ fr h o v h' he R w rd nt a K Q hh hf hK
  unfold oper at he
  cases hq : operQ ty fr h o with
  | some u =>
    rw [hq] at he
    cases he
    obtain ⟨v', h1, h2⟩ := operQ_is T hq hh hf
    exact wp_val (nd_Q hq) h2 (hK R w v' (.refl R) hh h1)
  | none =>
    rw [hq] at he
    exact (operE_is T hS hcall he hh hf).wp (nd_E he) hK
/-- functions whose word is known -/
def callX (ex : Nat → List Value → Option Value) (call : CallF) : CallF := fun c args h => match c with
  | .fn f => match ex f args with
    | some v => some (v, h)
    | none => call (.fn f) args h
  | .yl i => call (.yl i) args h
def flat2 : Value → Bool
  | .float _ _ | .complex _ _ _ => true
  | v => flat v
theorem VR.flat2 {R : Rn} {v v' : Value} (h : VR R v v') (hf : Go.Ev.flat2 v = true) : v' = v := by
  unfold Go.Ev.flat2 at hf
  split at hf
  · rcases h with (h | ⟨_, _, h, _⟩) | ⟨_, _, h, _⟩
    · cases h; rfl
    · cases h
    · cases h
  · rcases h with (h | ⟨_, _, h, _⟩) | ⟨_, _, h, _⟩
    · cases h; rfl
    · cases h
    · cases h
  · exact h.flat hf
theorem VR.of_flat2 {R : Rn} {v : Value} (hf : Go.Ev.flat2 v = true) : VR R v v := by
  unfold Go.Ev.flat2 at hf
  split at hf
  · exact .lit rfl
  · exact .lit rfl
  · exact .of_flat hf
def ExOK (P : Program) (ex : Nat → List Value → Option Value) : Prop := ∀ f args v, ex f args = some v → args.all flat2 = true ∧ flat2 v = true ∧ Callable P f ∧ ∀ w, Calls P f args.toArray w fun e w' => e = .returned v ∧ Below w.heap.size w w'
theorem callX_is {ex : Nat → List Value → Option Value} (hx : ExOK P ex) {call : CallF} (hcall : CallS P sz call) : CallS P sz (callX ex call) := by
  intro w0 Φ c args h v h' he R w args' W hh hA hW
  cases c with
  | yl i => exact hcall w0 Φ (.yl i) args h v h' he R w args' W hh hA hW
  | fn f =>
    unfold callX at he
    dsimp only at he
    cases hf : ex f args with
    | none =>
      rw [hf] at he
      exact hcall w0 Φ (.fn f) args h v h' he R w args' W hh hA hW
    | some u =>
      rw [hf] at he
      cases he
      obtain ⟨h1, h2, h3, h4⟩ := hx f args v hf
      have ha : args' = args.toArray := by
        apply Array.ext'
        refine List.ext_getElem? fun i => ?_
        cases hi : args[i]? with
        | none =>
          have := hA.1
          rw [List.getElem?_eq_none_iff] at hi
          rw [List.getElem?_eq_none_iff]
          omega
        | some v =>
          obtain ⟨v', h5, h6⟩ := hA.2 i v hi
          rw [h5, h6.flat2 (List.all_eq_true.1 h1 v (List.mem_of_getElem? hi))]
      subst ha
      refine ⟨h3, (h4 w).mono fun e w' he => ?_⟩
      obtain ⟨rfl, hb⟩ := he
      exact hW R w' v (.refl R) (hh.on ⟨hb.os, hb.tape, hb.output, hb.size, fun k hk => hb.block k (hh.stay hk)⟩ fun j c hc => hb.block _ (hh.old hc)) (.of_flat2 h2)
end
end Go.Ev
/- Regions that draw their order. -/
noncomputable section
namespace Go.Ev
open Go.RowKit
set_option linter.unusedVariables false
set_option linter.unusedSimpArgs false
def depsOf (o : Oper) : List Nat := o.after.toList.filterMap fun e => bif Region.binds .any e then some e.on else none
def depsAt (ops : Array Oper) (q : Nat) : List Nat := match ops.toList[q]? with
  | some o => depsOf o
  | none => []
def dstAt (ops : Array Oper) (q : Nat) : Option Nat := match ops.toList[q]? with
  | some o => o.dst
  | none => none
def looks (ops : Array Oper) (q : Nat) : List Nat := match ops.toList[q]? with
  | some o => o.looksAt ops
  | none => []
def anc (ops : Array Oper) : List Nat → List Nat → List Nat
  | [], S => S
  | q :: r, S => anc ops r (bif memN q S then depsAt ops q ++ S else S)
/-- who reads what p writes, and does not wait for it -/
def antiJ (ops : Array Oper) (p d j : Nat) : Bool := memN d (looks ops j) && (Nat.beq p j || !memN p (depsAt ops j))
def anti (ops : Array Oper) (p : Nat) : Bool := match dstAt ops p with
  | some d => (List.range ops.size).any (antiJ ops p d)
  | none => false
def statB (nt : Nat) (ops : Array Oper) : Bool := ((List.range ops.size).all fun p => match dstAt ops p with
  | some d => (List.range ops.size).all fun j => (!antiJ ops p d j || memN j (anc ops (List.range ops.size).reverse (depsAt ops p))) && (Nat.beq p j || (match dstAt ops j with | some e => !Nat.beq d e | none => true))
  | none => true) && (List.range ops.size).all fun j => (looks ops j).all (Nat.blt · nt)
def isU : Option Value → Bool
  | some (.tuple x) => x.toList.isEmpty
  | _ => false
def chk1 (ty : Ty) (ops : Array Oper) (fr : Fr) (h : Hp) (p : Nat) : Bool := match ops.toList[p]? with
  | some o => match wantd ops fr o with
    | some false => (match o.dst with | some d => isU (fr.get d) | none => true)
    | some true => match operQ ty fr h o with
      | some v => (match o.dst with
        | some d => (match fr.get d with | some u => beqV u v | none => false)
        | none => true)
      | none => false
    | none => false
  | none => false
/-- new places: what is answered, by the place -/
inductive NV where
  | ptr | sl (n c : Nat) | mp
def NV.val : NV → Nat → Value
  | .ptr, i => .pointer (some ⟨i, 0, none⟩)
  | .sl n c, i => .slice (some ⟨i, 0, none⟩) n c
  | .mp, i => .map (some i)
def newCs (ty : Ty) (t len : Nat) (ps : List (Nat × Value)) : Option (Nat × List Value) :=
  match desc ty t with
  | some (.slice e) => bif Nat.beq len 0 && ps.isEmpty then (match size ty e with | some _ => some (e, []) | none => none) else
    match size ty e, zero ty e with
    | some s, some z => match cellsOf z with
      | some zc => bif zc.all lit && Nat.ble (len * s) 10000 && Nat.blt 0 (len * s) && Nat.beq zc.length s then match fillA (fun i => some (i * s, s)) (zeros len zc) ps with
          | some cs => some (e, cs)
          | none => none
        else none
      | none => none
    | _, _ => none
  | _ => none
def operN (ty : Ty) (fr : Fr) (o : Oper) : Option (NV × Ob) := match o.op with
  | .alloc e => match zero ty e with
    | some z => match cellsOf z with
      | some l => bif l.all lit then some (.ptr, .row ⟨l, e, false⟩) else none
      | none => none
    | none => none
  | .box e x => match ev1 fr x with
    | some v => match cellsOf v with
      | some l => some (.ptr, .row ⟨l, e, false⟩)
      | none => none
    | none => none
  | .buildSlice t len ps => match evP fr ps.toList with
    | some l => match newCs ty t len l with
      | some (e, cs) => some (.sl len len, .row ⟨cs, e, false⟩)
      | none => none
    | none => none
  | .makeMap t none => some (.mp, .map [] 0)
  | .makeSlice t l c => match ev1 fr l, ev1 fr c with
    | some a, some b => match newMk ty t a b with
      | some (n, m, e, cs) => some (.sl n m, .row ⟨cs, e, false⟩)
      | none => none
    | _, _ => none
  | _ => none
/-- new places are taken in -/
def commit : List (Nat × Nat × Ob) → Hp → Hp
  | [], h => h
  | (_, x, ob) :: l, h => commit l ⟨h.heap.put 40 x ob, h.next, h.tab⟩
def memA (p : Nat) : List (Nat × Nat × Ob) → Bool
  | [] => false
  | (q, _, _) :: l => Nat.beq p q || memA p l
def runD (ty : Ty) (opE : Fr → Hp → Oper → Option (Value × Hp)) (nt : Nat) (ops : Array Oper) : List Nat → List Nat → List Nat → List (Nat × Nat × Ob) → Fr → Hp → Option (Fr × Hp)
  | [], done, cand, al, fr, h => bif (List.range ops.size).all (memN · done) then some (fr, commit al h) else none
  | i :: rest, done, cand, al, fr, h => match ops.toList[i]? with
    | none => none
    | some o => bif memN i done || !(depsOf o).all (memN · done) then none else
      match wantd ops fr o with
      | none => none
      | some false => bif anti ops i then none else match putd nt fr o.dst undef with
        | none => none
        | some fr' => runD ty opE nt ops rest (i :: done) (i :: cand) al fr' h
      | some true => match (bif anti ops i then none else operQ ty fr h o) with
        | some v => match putd nt fr o.dst v with
          | none => none
          | some fr' => runD ty opE nt ops rest (i :: done) (i :: cand) al fr' h
        | none => match (bif anti ops i then none else operN ty fr o) with
          | some (k, ob) => bif Nat.blt h.next 500000000 then match putd nt fr o.dst (k.val h.next) with
              | none => none
              | some fr' => runD ty opE nt ops rest (i :: done) (i :: cand) ((i, h.next, ob) :: al) fr' ⟨h.heap, h.next + 1, h.tab⟩
            else none
          | none => match opE fr (commit (al.filter fun e => memN e.1 (anc ops done (depsOf o))) h) o with
            | none => none
            | some (v, h') => match putd nt fr o.dst v with
              | none => none
              | some fr' => bif (List.range ops.size).all (fun j => Nat.beq j i || memN j done || !(depsAt ops j).all (memN · done)) &&
                  (cand.filter fun p => !memN p (anc ops done (depsOf o))).all (fun p => memA p (al.filter fun e => !memN e.1 (anc ops done (depsOf o))) || chk1 ty ops fr' h' p) then
                  runD ty opE nt ops rest (i :: done) (cand.filter fun p => !memN p (anc ops done (depsOf o))) (al.filter fun e => !memN e.1 (anc ops done (depsOf o))) fr' h' else none
/-- the order: what changes nothing first, then new places -/
def rank (o : Op) : Nat := match o with
  | .alloc _ | .box _ _ | .buildSlice _ _ _ | .makeMap _ _ | .makeSlice _ _ _ => 1
  | .store _ _ _ | .mapUpdate _ _ _ _ | .insert _ _ _ _ | .range _ _ | .next _ _ => 2
  | .call c => match c.callee with | .builtin .len => 0 | .builtin .cap => 0 | .builtin .min => 0 | .builtin .complex => 0 | .builtin .real => 0 | .builtin .imag => 0 | _ => 2
  | _ => 0
def pick (ops : Array Oper) (r : Nat) : List Nat → Option Nat
  | [] => none
  | i :: l => match ops.toList[i]? with
    | some o => bif Nat.beq (rank o.op) r && !anti ops i then some i else pick ops r l
    | none => pick ops r l
def ordG (ops : Array Oper) : Nat → List Nat → List Nat
  | 0, l => l.reverse
  | n + 1, l =>
    let rdy := (List.range ops.size).filter fun j => !memN j l && (depsAt ops j).all (memN · l)
    match pick ops 0 rdy with
    | some i => ordG ops n (i :: l)
    | none => match pick ops 1 rdy with
      | some i => ordG ops n (i :: l)
      | none => match rdy with
        | i :: _ => ordG ops n (i :: l)
        | [] => l.reverse

section
variable {ops : Array Oper}
theorem at_some {j : Nat} {o : Oper} (h : ops.toList[j]? = some o) : ops[j]? = some o := by rwa [Array.getElem?_toList] at h
theorem depsAt_some {j : Nat} {o : Oper} (h : ops[j]? = some o) : depsAt ops j = depsOf o := by unfold depsAt; rw [Array.getElem?_toList, h]
theorem dstAt_some {j : Nat} {o : Oper} (h : ops[j]? = some o) : dstAt ops j = o.dst := by unfold dstAt; rw [Array.getElem?_toList, h]
theorem looks_some {j : Nat} {o : Oper} (h : ops[j]? = some o) : looks ops j = o.looksAt ops := by unfold looks; rw [Array.getElem?_toList, h]
theorem mem_deps {o : Oper} {x : Nat} : x ∈ depsOf o ↔ ∃ e ∈ o.after, Region.binds .any e = true ∧ e.on = x := by
  unfold depsOf
  rw [List.mem_filterMap]
  constructor
  · rintro ⟨e, he, hx⟩
    cases hb : Region.binds .any e with
    | false => rw [hb] at hx; cases hx
    | true => rw [hb] at hx; cases hx; exact ⟨e, Array.mem_toList_iff.1 he, hb, rfl⟩
  · rintro ⟨e, he, hb, rfl⟩
    exact ⟨e, Array.mem_toList_iff.2 he, by rw [hb]; rfl⟩
theorem ready_iff {listed : Array Bool} {j : Nat} : j ∈ Region.ready .any ops listed ↔ listed.getD j true = false ∧ ∃ o, ops[j]? = some o ∧ ∀ x ∈ depsOf o, listed.getD x false = true := by
  rw [mem_ready]
  constructor
  · rintro ⟨h1, o, h2, h3⟩
    exact ⟨h1, o, h2, fun x hx => by obtain ⟨e, he, hb, rfl⟩ := mem_deps.1 hx; exact h3 e he hb⟩
  · rintro ⟨h1, o, h2, h3⟩
    exact ⟨h1, o, h2, fun e he hb => h3 _ (mem_deps.2 ⟨e, he, hb, rfl⟩)⟩
theorem anti_no {p : Nat} (h : anti ops p = false) {j d : Nat} (hj : j < ops.size) (hd : dstAt ops p = some d) (hm : d ∈ looks ops j) : p ≠ j ∧ p ∈ depsAt ops j := by
  unfold anti at h
  rw [hd] at h
  have h1 := List.any_eq_false.1 h j (List.mem_range.2 hj)
  unfold antiJ at h1
  rw [(memN_iff _ _).2 hm, Bool.true_and, Bool.not_eq_true, Bool.or_eq_false_iff, Bool.not_eq_false', memN_iff, Tr.beq_iff, decide_eq_false_iff_not] at h1
  exact h1
theorem stat_is {nt : Nat} (h : statB nt ops = true) {p j d : Nat} (hp : p < ops.size) (hj : j < ops.size) (hd : dstAt ops p = some d) :
    (d ∈ looks ops j → (p ≠ j ∧ p ∈ depsAt ops j) ∨ j ∈ anc ops (List.range ops.size).reverse (depsAt ops p)) ∧ (p ≠ j → dstAt ops j ≠ some d) := by
  unfold statB at h
  rw [Bool.and_eq_true] at h
  have h1 := List.all_eq_true.1 h.1 p (List.mem_range.2 hp)
  rw [hd] at h1
  have h2 := List.all_eq_true.1 h1 j (List.mem_range.2 hj)
  rw [Bool.and_eq_true] at h2
  refine ⟨fun hm => ?_, fun hne hdj => ?_⟩
  · have h3 := h2.1
    rw [Bool.or_eq_true, memN_iff, Bool.not_eq_true'] at h3
    rcases h3 with h3 | h3
    · unfold antiJ at h3
      rw [(memN_iff _ _).2 hm, Bool.true_and, Bool.or_eq_false_iff, Bool.not_eq_false', memN_iff, Tr.beq_iff, decide_eq_false_iff_not] at h3
      exact .inl h3
    · exact .inr h3
  · have h3 := h2.2
    rw [hdj] at h3
    simp only [Bool.or_eq_true, Tr.beq_iff, decide_eq_true_iff, Bool.not_eq_true', decide_eq_false_iff_not, not_true] at h3
    rcases h3 with h3 | h3
    · exact hne h3
    · exact h3
theorem stat_lt {nt : Nat} (h : statB nt ops = true) {j : Nat} (hj : j < ops.size) : ∀ t ∈ looks ops j, t < nt := by
  unfold statB at h
  rw [Bool.and_eq_true] at h
  have h1 := List.all_eq_true.1 h.2 j (List.mem_range.2 hj)
  exact fun t ht => by have := List.all_eq_true.1 h1 t ht; simpa [Nat.blt_eq] using this
theorem anc_is {L : Nat → Prop} (hL : ∀ q, L q → ∀ x ∈ depsAt ops q, L x) : ∀ (done S : List Nat), (∀ x ∈ S, L x) → ∀ x ∈ anc ops done S, L x
  | [], S, hS => hS
  | q :: r, S, hS => by
    rw [anc]
    cases hm : memN q S with
    | false => exact anc_is hL r S hS
    | true =>
      refine anc_is hL r _ fun x hx => ?_
      rcases List.mem_append.1 hx with hx | hx
      · exact hL q (hS q ((memN_iff _ _).1 hm)) x hx
      · exact hS x hx
/-! what an operation looks at -/
theorem ev1_congr {fr fr2 : Fr} {x : Operand} (h : ∀ t, x = .tmp t → fr.get t = fr2.get t) : ev1 fr x = ev1 fr2 x := by
  cases x with
  | tmp t => exact h t rfl
  | const v => rfl
  | global g => rfl
  | func f => rfl
theorem evL_congr {fr fr2 : Fr} : ∀ {l : List Operand}, (∀ x ∈ l, ev1 fr x = ev1 fr2 x) → evL fr l = evL fr2 l
  | [], _ => rfl
  | x :: l, h => by
    unfold evL
    rw [h x (List.mem_cons_self ..), evL_congr fun y hy => h y (List.mem_cons_of_mem _ hy)]
theorem evP_congr {fr fr2 : Fr} : ∀ {l : List (Nat × Operand)}, (∀ x ∈ l.map (·.2), ev1 fr x = ev1 fr2 x) → evP fr l = evP fr2 l
  | [], _ => rfl
  | (i, x) :: l, h => by
    unfold evP
    rw [h x (List.mem_cons_self ..), evP_congr fun y hy => h y (List.mem_cons_of_mem _ hy)]
theorem evO_congr {fr fr2 : Fr} {x : Option Operand} (h : ∀ y, x = some y → ev1 fr y = ev1 fr2 y) : evO fr x = evO fr2 x := by
  cases x with
  | none => rfl
  | some y => simp only [evO, h y rfl]
theorem operQ_congr {ty : Ty} {fr fr2 : Fr} {h : Hp} {o : Oper} (e : ∀ x ∈ o.op.operands, ev1 fr x = ev1 fr2 x) : operQ ty fr h o = operQ ty fr2 h o := by
  unfold operQ
  cases hop : o.op <;> rw [hop] at e <;> try rfl
  case move x => exact e x (by simp [Op.operands])
  case assign x => exact e x (by simp [Op.operands])
  case pick c x y => simp only [e c (by simp [Op.operands]), e x (by simp [Op.operands]), e y (by simp [Op.operands])]
  case build t ps => simp only [evP_congr (l := ps.toList) fun x hx => e x (by simp only [Op.operands]; simpa using hx)]
  case load t x => simp only [e x (by simp [Op.operands])]
  case nilCheck x => simp only [e x (by simp [Op.operands])]
  case binOp op t x y t2 => simp only [e x (by simp [Op.operands]), e y (by simp [Op.operands])]
  case unOp op t x => simp only [e x (by simp [Op.operands])]
  case convert s d x => simp only [e x (by simp [Op.operands])]
  case fieldAddr s x f => simp only [e x (by simp [Op.operands])]
  case field s x f => simp only [e x (by simp [Op.operands])]
  case indexAddr t x i => simp only [e x (by simp [Op.operands]), e i (by simp [Op.operands])]
  case index t x i => simp only [e x (by simp [Op.operands]), e i (by simp [Op.operands])]
  case slice t x lo hi mx =>
    cases mx with
    | some m =>
      cases hi with
      | none => rfl
      | some hi => simp only [e x (by simp [Op.operands]), evO_congr (x := lo) fun y hy => e y (by subst hy; simp [Op.operands]), e hi (by simp [Op.operands]), e m (by simp [Op.operands])]
    | none =>
      simp only [e x (by simp [Op.operands]), evO_congr (x := lo) fun y hy => e y (by subst hy; simp [Op.operands]), evO_congr (x := hi) fun y hy => e y (by subst hy; simp [Op.operands])]
  case extract x i => simp only [e x (by simp [Op.operands])]
  case makeFunc fn f c =>
    simp only [evL_congr (l := f.toList) fun x hx => e x (by simp [Op.operands] at hx ⊢; exact .inl hx), evL_congr (l := c.toList) fun x hx => e x (by simp [Op.operands] at hx ⊢; exact .inr hx)]
  case lookup t x i b => simp only [e x (by simp [Op.operands]), e i (by simp [Op.operands])]
  case entry x => simp only [e x (by simp [Op.operands])]
  case call c => simp only [evL_congr (l := c.args.toList) fun x hx => e x (by simp only [Op.operands, Call.operands]; simp at hx ⊢; exact .inr hx)]
theorem operN_congr {ty : Ty} {fr fr2 : Fr} {o : Oper} (e : ∀ x ∈ o.op.operands, ev1 fr x = ev1 fr2 x) : operN ty fr o = operN ty fr2 o := by
  unfold operN
  cases hop : o.op <;> rw [hop] at e <;> try rfl
  case box t x => simp only [e x (by simp [Op.operands])]
  case buildSlice t n ps => simp only [evP_congr (l := ps.toList) fun x hx => e x (by simp only [Op.operands]; simpa using hx)]
  case makeMap t r => cases r <;> rfl
  case makeSlice t x y => simp only [e x (by simp [Op.operands]), e y (by simp [Op.operands])]
theorem operE_congr {ty : Ty} {call : CallF} {fr fr2 : Fr} {h : Hp} {o : Oper} (e : ∀ x ∈ o.op.operands, ev1 fr x = ev1 fr2 x) : operE ty call fr h o = operE ty call fr2 h o := by
  unfold operE
  cases hop : o.op <;> rw [hop] at e <;> try rfl
  case box t x => simp only [e x (by simp [Op.operands])]
  case buildSlice t n ps => simp only [evP_congr (l := ps.toList) fun x hx => e x (by simp only [Op.operands]; simpa using hx)]
  case store t x y => simp only [e x (by simp [Op.operands]), e y (by simp [Op.operands])]
  case makeMap t r =>
    cases r with
    | none => rfl
    | some x => simp only [e x (by simp [Op.operands])]
  case range t x => simp only [e x (by simp [Op.operands])]
  case next x b => simp only [e x (by simp [Op.operands])]
  case makeSlice t x y => simp only [e x (by simp [Op.operands]), e y (by simp [Op.operands])]
  case mapUpdate t m k x => simp only [e m (by simp [Op.operands]), e k (by simp [Op.operands]), e x (by simp [Op.operands])]
  case insert t m k x => simp only [e m (by simp [Op.operands]), e k (by simp [Op.operands]), e x (by simp [Op.operands])]
  case call c =>
    have e1 : evL fr c.args.toList = evL fr2 c.args.toList := evL_congr fun x hx => e x (by simp only [Op.operands, Call.operands]; simp at hx ⊢; exact .inr hx)
    simp only [e1]
    cases hc : c.callee with
    | value f => simp only [e f (by simp [Op.operands, Call.operands, hc])]
    | invoke r n => rfl
    | builtin b => cases b <;> rfl
theorem opnd {o : Oper} {fr fr2 : Fr} (h : ∀ t ∈ o.looksAt ops, fr.get t = fr2.get t) : ∀ x ∈ o.op.operands, ev1 fr x = ev1 fr2 x := fun x hx => ev1_congr fun t e => h t (List.mem_append_left _ (List.mem_filterMap.2 ⟨x, by simpa using hx, by rw [e]⟩))
theorem wantd_congr {o : Oper} {fr fr2 : Fr} (h : ∀ t ∈ o.looksAt ops, fr.get t = fr2.get t) : wantd ops fr o = wantd ops fr2 o := by
  unfold wantd
  cases hg : o.guard with
  | none => rfl
  | some gw =>
    obtain ⟨g, want⟩ := gw
    dsimp only
    cases hp : ops.toList[g]? with
    | none => rfl
    | some p =>
      dsimp only
      cases hd : p.dst with
      | none => rfl
      | some d =>
        have : d ∈ o.looksAt ops := List.mem_append_right _ (by
          rw [hg]
          dsimp only
          rw [Array.getElem?_toList] at hp
          rw [hp]
          simp [hd])
        dsimp only
        rw [h d this]
/-- a frame cut down -/
def restrT (t : Tr Value) : List Nat → Tr Value
  | [] => .lf
  | k :: L => match t.get k with
    | some v => (restrT t L).put 40 k v
    | none => restrT t L
theorem get_restrT (t : Tr Value) : ∀ (L : List Nat), (∀ k ∈ L, k < 549755813888) → ∀ j, (restrT t L).get j = if j ∈ L then t.get j else none
  | [], _, j => by simp [restrT, Tr.get_lf]
  | k :: L, h, j => by
    have ih := get_restrT t L (fun k hk => h k (List.mem_cons_of_mem _ hk)) j
    have hk := h k (List.mem_cons_self ..)
    unfold restrT
    cases hv : t.get k with
    | some v =>
      dsimp only
      rw [Tr.get_put 40 _ _ _ _ (by omega), ih]
      by_cases e : j = k
      · subst e; simp [hv]
      · simp [e]
    | none =>
      dsimp only
      rw [ih]
      by_cases e : j = k
      · subst e
        by_cases m : j ∈ L
        · simp [m]
        · simp [m, hv]
      · simp [e]
def restr (fr : Fr) (L : List Nat) : Fr := ⟨restrT fr.t L, fr.ms⟩
end
end Go.Ev
/- Regions that draw their order: new places; what holds on the way. -/
noncomputable section
namespace Go.Ev
open Go.RowKit
set_option linter.unusedVariables false
set_option linter.unusedSimpArgs false
section
variable {P : Program} {ty : Ty} {sz : Nat → Nat} {w0 : World} {Φ : Fx} {R : Rn} {w : World} {h : Hp}
theorem row_or {l : List Value} {cur : Array Value} (hl : A2 (SR R) l cur.toList) {R' : Rn} (e : Ext0 R R') (i el : Nat) : OR sz R' i (.row ⟨l, el, false⟩) (.cells cur el (0, 0)) :=
  ⟨cur, rfl, fun j v hv => by
    obtain ⟨v', h1, h2⟩ := hl.2 j v hv
    exact ⟨v', by rw [← Array.getElem?_toList]; exact h1, h2.ext e⟩, fun _ => by have := hl.1; simpa using this.symm, fun hx => by cases hx⟩
theorem newCs_is (T : TyOK P ty) {t len : Nat} {ps : List (Nat × Value)} {ps' : Array (Nat × Value)} (hp : PR R ps ps'.toList) {e : Nat} {cs : List Value} (ho : newCs ty t len ps = some (e, cs)) :
    len < many ∧ ∃ r' : Array Value, A2 (SR R) cs r'.toList ∧ (Instr.buildSlice t len ps').run P w = .ok (.slice (some ⟨w.heap.size, 0, none⟩) len len) (w.alloc (.cells r' e)) := by
  unfold newCs at ho
  split at ho
  · rename_i el hd
    have hu := desc_is T hd
    cases hnone : Nat.beq len 0 && ps.isEmpty with
    | true =>
      rw [hnone] at ho
      dsimp only [cond_true] at ho
      rw [Bool.and_eq_true, List.isEmpty_iff] at hnone
      obtain ⟨k1, k2⟩ := hnone
      have k3 := Nat.eq_of_beq_eq_true k1
      subst k3
      subst k2
      have k4 : ps' = #[] := Array.ext' (by generalize ps'.toList = q at hp; cases hp; rfl)
      subst k4
      split at ho
      · rename_i s hs
        cases ho
        refine ⟨by unfold many; omega, #[], ⟨rfl, fun i v hv => by cases hv⟩, ?_⟩
        simp [Instr.buildSlice, run_underlying hu, size_is T w hs, Instr.fill, newRow]
        have e0 : Array.range 0 = #[] := by decide
        rw [e0, Array.map_empty]
      · cases ho
    | false =>
      rw [hnone] at ho
      dsimp only [cond_false] at ho
      split at ho
      · rename_i s z hs hz
        split at ho
        · rename_i zc hzc
          cases hc : zc.all lit && Nat.ble (len * s) 10000 && Nat.blt 0 (len * s) && Nat.beq zc.length s with
          | false => rw [hc] at ho; cases ho
          | true =>
            rw [hc] at ho
            dsimp only [cond_true] at ho
            simp only [Bool.and_eq_true, Nat.ble_eq, Nat.blt_eq] at hc
            obtain ⟨⟨⟨hc1, hc2⟩, hc3⟩, hc4⟩ := hc
            have hzl := Nat.eq_of_beq_eq_true hc4
            cases hf : fillA (fun i => some (i * s, s)) (zeros len zc) ps with
            | none => rw [hf] at ho; cases ho
            | some cs2 =>
              rw [hf] at ho
              cases ho
              obtain ⟨it, hi1, hi2⟩ := zero_info T hz
              obtain ⟨it2, hj1, hj2⟩ := size_info T hs
              rw [hi1] at hj1
              cases hj1
              subst hj2
              have hcz := cellsOf_cells hzc
              have hczs : z.cells.size = it.size := by rw [← hzl, ← hcz]; simp
              have hpos : 0 < zc.length := by
                rcases Nat.eq_zero_or_pos zc.length with h0 | h0
                · rw [hzl] at h0; rw [h0] at hc3; simp at hc3
                · exact h0
              have hbase : A2 (SR R) (zeros len zc) ((Array.range (len * it.size)).map (z.cells[· % z.cells.size]!)).toList := by
                refine ⟨by rw [zeros_len, hzl]; simp, fun j x hx => ?_⟩
                have hj : j < len * zc.length := by have := (List.getElem?_eq_some_iff.1 hx).1; rwa [zeros_len] at this
                rw [zeros_get zc hpos len j hj] at hx
                refine ⟨x, ?_, .lit x (List.all_eq_true.1 hc1 x (List.mem_of_getElem? hx))⟩
                have hj2 : j < len * it.size := by rw [← hzl]; exact hj
                have hm : j % it.size < z.cells.size := by rw [hczs]; exact Nat.mod_lt _ (by omega)
                rw [hzl, ← hcz, Array.getElem?_toList] at hx
                simp [hj2, hczs]
                rw [getElem!_pos z.cells (j % it.size) hm]
                rw [Array.getElem?_eq_getElem hm] at hx
                exact Option.some.inj hx
              obtain ⟨r', h2, h3⟩ := fill_is _ hp _ _ _ hbase hf
              have hle : len ≤ len * it.size := Nat.le_mul_of_pos_right _ (by omega)
              exact ⟨by unfold many; omega, r', h3, run_buildSlice (P := P) w t _ len ps' r' it z hu hi1 hi2 (by omega) (by omega) h2⟩
        · cases ho
      · cases ho
  · cases ho
theorem operN_is (T : TyOK P ty) {fr : Fr} {o : Oper} {k : NV} {ob : Ob} (he : operN ty fr o = some (k, ob)) {rd : Option Nat} {nt : Nat} {a : Act} (hf : FR R rd nt fr a) :
    (∀ n c, k = .sl n c → c < many) ∧ ∃ o', (execOp a.eval o).run P w = .ok (.value (k.val w.heap.size)) (w.alloc o') ∧ ∀ R' i, Ext0 R R' → OR sz R' i ob o' := by
  unfold operN at he
  cases hop : o.op <;> rw [hop] at he <;> (try dsimp only at he) <;> first | (cases he; done) | skip
  case alloc e =>
    split at he
    · rename_i z hz
      split at he
      · rename_i l hc
        cases hl : l.all lit with
        | false => rw [hl] at he; cases he
        | true =>
          rw [hl] at he
          cases he
          have hcz := cellsOf_cells hc
          refine ⟨fun n c hk => (by cases hk), .cells z.cells e, ?_, fun R' i x => row_or (R := R) (by rw [hcz]; exact A2.lits hl) x i e⟩
          have : (Instr.alloc e true (.tuple #[])).run P w = .ok (NV.ptr.val w.heap.size) (w.alloc (.cells z.cells e)) := by simp [Instr.alloc, zero_is T w hz, newVar, newRow, NV.val]
          unfold execOp
          rw [hop]
          exact run_v this
      · cases he
    · cases he
  case box e x =>
    split at he
    · rename_i v hv
      split at he
      · rename_i l hc
        cases he
        obtain ⟨v', h1, h2⟩ := ev1_is hf hv
        refine ⟨fun n c hk => (by cases hk), .cells v'.cells e, ?_, fun R' i x => row_or (cellsOf_is h2 hc) x i e⟩
        have : (Instr.box e v').run P w = .ok (NV.ptr.val w.heap.size) (w.alloc (.cells v'.cells e)) := by simp [Instr.box, newVar, newRow, NV.val]
        unfold execOp
        rw [hop]
        dsimp only
        rw [h1]
        exact run_v this
      · cases he
    · cases he
  case buildSlice t len ps =>
    split at he
    · rename_i l hl
      split at he
      · rename_i e cs hcs
        cases he
        obtain ⟨h0, r', h1, h2⟩ := newCs_is (P := P) (w := w) T (ps' := ps.map fun (i, x) => (i, a.eval x)) (by rw [parts_map]; exact evP_is hf _ _ hl) hcs
        refine ⟨fun n c hk => by cases hk; exact h0, .cells r' e, ?_, fun R' i x => row_or h1 x i e⟩
        unfold execOp
        rw [hop]
        exact run_v h2
      · cases he
    · cases he
  case makeSlice t x y =>
    split at he
    · rename_i p u hp hu
      split at he
      · rename_i n m e cs hm
        cases he
        obtain ⟨p', h1, h2⟩ := ev1_is hf hp
        obtain ⟨u', h3, h4⟩ := ev1_is hf hu
        obtain ⟨_, h6, r', h7, h8⟩ := newMk_is (P := P) (w := w) T h2 h4 hm
        refine ⟨fun n' c' hk => by cases hk; exact h6, .cells r' e, ?_, fun R' i x => row_or h7 x i e⟩
        unfold execOp
        rw [hop]
        dsimp only
        rw [h1, h3]
        exact run_v h8
      · cases he
    · cases he
  case makeMap t r =>
    cases r with
    | some x => cases he
    | none =>
      cases he
      refine ⟨fun n c hk => (by cases hk), .map #[] 0, ?_, fun R' i x => ⟨#[], rfl, .nil⟩⟩
      unfold execOp
      rw [hop]
      rfl
theorem NV.rel (hh : HR sz w0 Φ R w h) (k : NV) (hk : ∀ n c, k = .sl n c → c < many) {x g : Nat} (hD : R.D x) (hρ : R.ρ x = g) : VR R (k.val x) (k.val g) := by
  cases k with
  | ptr => exact ptr_new hh hD hρ
  | sl n c => exact sl_new hh hD hρ n c (hk n c rfl)
  | mp =>
    have := SR.mp (R := R) x hD
    rw [hρ] at this
    exact .inl (.inl this)
/-- a name that no place has yet -/
theorem HR.addD (hh : HR sz w0 Φ R w h) {x : Nat} (hx : x < R.N) (hD : ¬ R.D x) (g k : Nat) : HR sz w0 Φ (R.addAt x g k) w h := by
  have e := R.addAt_ext hD g k
  have hne : ∀ j c, h.heap.get j = some c → (R.addAt x g k).ρ j = R.ρ j := fun j c hc => e.ρ j (hh.blk j c hc).1
  refine ⟨hh.nx, hh.small, hh.bel, hh.frm, fun j hj => ?_, fun j c hc => ?_, fun i j c d hc hd hij => ?_, hh.tabE, fun g' l hl => ?_⟩
  · rcases hj with hj | rfl
    · exact hh.dom j hj
    · exact hx
  · obtain ⟨h1, h2, o, h3, h4⟩ := hh.blk j c hc
    rw [hne j c hc]
    exact ⟨.inl h1, h2, o, h3, h4.ext e h1⟩
  · rw [hne i c hc, hne j d hd] at hij
    exact hh.inj i j c d hc hd hij
  · obtain ⟨h1, cur, e', z, h2, h3⟩ := hh.tab g' l hl
    exact ⟨h1, cur, e', z, h2, h3.mono fun _ _ h => h.ext e⟩
/-- a frame that keeps more -/
def Fx.or (Φ : Fx) (Ψ : Nat → Prop) : Fx := ⟨fun k => Φ k ∨ Ψ k, Φ.tab⟩
theorem HR.narrow (hh : HR sz w0 Φ R w h) {Ψ : Nat → Prop} (h1 : ∀ k, Ψ k → k < w.heap.size) (h2 : ∀ j c, h.heap.get j = some c → ¬ Ψ (R.ρ j)) : HR sz w (Φ.or Ψ) R w h :=
  ⟨hh.nx, hh.small, Stay.refl _ _, fun k hk => by
    rcases hk with hk | hk
    · exact hh.stay hk
    · exact h1 k hk, hh.dom, fun i b hb => by
    obtain ⟨k1, k2, o, k3, k4⟩ := hh.blk i b hb
    exact ⟨k1, fun hx => hx.elim k2 (h2 i b hb), o, k3, k4⟩, hh.inj, hh.tabE, fun g l hl => by
    obtain ⟨k1, k2⟩ := hh.tab g l hl
    exact ⟨.inl k1, k2⟩⟩
theorem HR.widen (hh : HR sz w0 Φ R w h) {Ψ : Nat → Prop} {R' : Rn} {w' : World} {h' : Hp} (hh' : HR sz w (Φ.or Ψ) R' w' h') : HR sz w0 Φ R' w' h' :=
  ⟨hh'.nx, hh'.small, hh.bel.trans (hh'.bel.mono fun k hk => .inl hk), hh.frm, hh'.dom, fun i b hb => by
    obtain ⟨k1, k2, o, k3, k4⟩ := hh'.blk i b hb
    exact ⟨k1, fun hx => k2 (.inl hx), o, k3, k4⟩, hh'.inj, hh'.tabE, fun g l hl => by
    obtain ⟨_, k2⟩ := hh'.tab g l hl
    exact ⟨(hh.tab g l (by rw [hh.tabE]; rw [hh'.tabE] at hl; exact hl)).1, k2⟩⟩
end
end Go.Ev
/- Regions that draw their order: what holds on the way. -/
noncomputable section
namespace Go.Ev
open Go.RowKit
set_option linter.unusedVariables false
set_option linter.unusedSimpArgs false
section
variable {ops : Array Oper}
theorem set_getD {listed : Array Bool} {j : Nat} (hj : j < listed.size) (x : Nat) : (listed.setIfInBounds j true).getD x false = if x = j then true else listed.getD x false := by
  by_cases e : x = j
  · subst e
    simp [hj]
  · rw [if_neg e, getD_set_ne false (fun h => e h.symm)]
theorem getD_bools {listed : Array Bool} {j : Nat} (h : listed.getD j true = false) : j < listed.size ∧ listed.getD j false = false := by
  by_cases hj : j < listed.size
  · refine ⟨hj, ?_⟩
    simp [hj] at h ⊢
    exact h
  · simp [Array.getElem?_eq_none (Nat.le_of_not_lt hj)] at h
theorem getD_bools' {listed : Array Bool} {j : Nat} (hj : j < listed.size) (h : listed.getD j false = false) : listed.getD j true = false := by
  simp [hj] at h ⊢
  exact h
def cnt (ops : Array Oper) (listed : Array Bool) : Nat := (List.range ops.size).countP fun j => !listed.getD j true
theorem countP_lt {α : Type} {p q : α → Bool} {y : α} : ∀ (l : List α), (∀ x ∈ l, p x = true → q x = true) → y ∈ l → q y = true → p y = false → l.countP p < l.countP q
  | [], _, h, _, _ => by cases h
  | x :: l, hpq, hy, h1, h2 => by
    rw [List.countP_cons, List.countP_cons]
    have hle : l.countP p ≤ l.countP q := List.countP_mono_left fun z hz => hpq z (List.mem_cons_of_mem _ hz)
    rcases List.mem_cons.1 hy with rfl | hy
    · rw [h1, h2]
      simp
      omega
    · have ih := countP_lt l (fun z hz => hpq z (List.mem_cons_of_mem _ hz)) hy h1 h2
      have := hpq x (List.mem_cons_self ..)
      cases hp : p x with
      | true => rw [this hp]; simp; omega
      | false =>
        cases q x <;> simp <;> omega
theorem cnt_lt {listed : Array Bool} {j : Nat} (hj : j < ops.size) (h : listed.getD j true = false) : cnt ops (listed.setIfInBounds j true) < cnt ops listed := by
  refine countP_lt (y := j) _ (fun x hx hp => ?_) (List.mem_range.2 hj) (by rw [h]; rfl) ?_
  · by_cases e : x = j
    · subst e; rw [h]; rfl
    · rwa [getD_set_ne true (fun h => e h.symm)] at hp
  · have := (getD_bools h).1
    simp [this]
def Topo (ops : Array Oper) : List Nat → Prop
  | [] => True
  | i :: l => (∀ x ∈ depsAt ops i, x ∈ l) ∧ Topo ops l
theorem topo_deps : ∀ {done : List Nat}, Topo ops done → ∀ {p x : Nat}, p ∈ done → x ∈ depsAt ops p → x ∈ done
  | [], _, p, x, hp, _ => by cases hp
  | i :: l, hT, p, x, hp, hx => by
    rcases List.mem_cons.1 hp with rfl | hp
    · exact List.mem_cons_of_mem _ (hT.1 x hx)
    · exact List.mem_cons_of_mem _ (topo_deps hT.2 hp hx)
theorem put_get {a : Act} {d : Option Nat} {v : Value} {t : Nat} (h : d ≠ some t) : (a.put d v).tmps[t]? = a.tmps[t]? := by
  cases d with
  | none => rfl
  | some d => exact Array.getElem?_setIfInBounds_ne (fun e => h (by rw [e]))
theorem put_same {a : Act} {t : Nat} {v : Value} (h : t < a.tmps.size) : (a.put (some t) v).tmps[t]? = some v := Array.getElem?_setIfInBounds_self_of_lt h
theorem put_size (a : Act) (d : Option Nat) (v : Value) : (a.put d v).tmps.size = a.tmps.size := by cases d <;> simp [Act.put]
theorem put_defs (a : Act) (d : Option Nat) (v : Value) : (a.put d v).defers = a.defers := by cases d <;> rfl
theorem putd_get {nt : Nat} (hn : nt < 549755813888) {fr fr' : Fr} {d : Option Nat} {v : Value} (hp : putd nt fr d v = some fr') : fr'.ms = fr.ms ∧ (∀ e, d = some e → e < nt) ∧ ∀ t, fr'.get t = if d = some t then some v else fr.get t := by
  unfold putd at hp
  cases d with
  | none => cases hp; exact ⟨rfl, fun e he => (by cases he), fun t => (by rw [if_neg (by intro h; cases h)])⟩
  | some d =>
    dsimp only at hp
    cases hb : Nat.blt d nt with
    | false => rw [hb] at hp; cases hp
    | true =>
      rw [hb] at hp
      cases hp
      rw [Nat.blt_eq] at hb
      refine ⟨rfl, fun e he => (by cases he; exact hb), fun t => ?_⟩
      show (fr.t.put 40 d v).get t = _
      rw [Tr.get_put 40 fr.t d v t (by omega)]
      by_cases e : t = d
      · rw [if_pos e, if_pos (by rw [e])]
      · rw [if_neg e, if_neg (fun h => e (Option.some.inj h).symm)]
        rfl
def Pq (ty : Ty) (ops : Array Oper) (fr : Fr) (h : Hp) (p : Nat) : Prop := ∃ o v, ops[p]? = some o ∧ ((wantd ops fr o = some true ∧ operQ ty fr h o = some v) ∨ (wantd ops fr o = some false ∧ v = undef)) ∧ ∀ d, o.dst = some d → fr.get d = some v
def Pn (ty : Ty) (ops : Array Oper) (fr : Fr) (x : Nat) (ob : Ob) (p : Nat) : Prop := ∃ o k, ops[p]? = some o ∧ wantd ops fr o = some true ∧ operN ty fr o = some (k, ob) ∧ ∀ d, o.dst = some d → fr.get d = some (k.val x)
theorem Pq.on {ty : Ty} {fr fr' : Fr} {h : Hp} {p : Nat} (hp : Pq ty ops fr h p) (h1 : ∀ t ∈ looks ops p, fr.get t = fr'.get t) (h2 : ∀ d, dstAt ops p = some d → fr.get d = fr'.get d) : Pq ty ops fr' h p := by
  obtain ⟨o, v, ho, hw, hd⟩ := hp
  rw [looks_some ho] at h1
  rw [dstAt_some ho] at h2
  refine ⟨o, v, ho, ?_, fun d e => by rw [← h2 d e]; exact hd d e⟩
  rw [← wantd_congr h1, ← operQ_congr (opnd h1)]
  exact hw
theorem Pn.on {ty : Ty} {fr fr' : Fr} {x : Nat} {ob : Ob} {p : Nat} (hp : Pn ty ops fr x ob p) (h1 : ∀ t ∈ looks ops p, fr.get t = fr'.get t) (h2 : ∀ d, dstAt ops p = some d → fr.get d = fr'.get d) : Pn ty ops fr' x ob p := by
  obtain ⟨o, k, ho, hw, hN, hd⟩ := hp
  rw [looks_some ho] at h1
  rw [dstAt_some ho] at h2
  refine ⟨o, k, ho, ?_, ?_, fun d e => by rw [← h2 d e]; exact hd d e⟩
  · rw [← wantd_congr h1]; exact hw
  · rw [← operN_congr (opnd h1)]; exact hN
theorem chk1_is {ty : Ty} {fr : Fr} {h : Hp} {p : Nat} (hc : chk1 ty ops fr h p = true) : Pq ty ops fr h p := by
  unfold chk1 at hc
  split at hc
  · rename_i o ho
    split at hc
    · rename_i hw
      refine ⟨o, undef, at_some ho, .inr ⟨hw, rfl⟩, fun d hd => ?_⟩
      rw [hd] at hc
      dsimp only at hc
      unfold isU at hc
      split at hc
      · rename_i x hx
        rw [List.isEmpty_iff] at hc
        rw [hx]
        have : x = #[] := Array.ext' hc
        rw [this]; rfl
      · cases hc
    · rename_i hw
      split at hc
      · rename_i v hv
        refine ⟨o, v, at_some ho, .inl ⟨hw, hv⟩, fun d hd => ?_⟩
        rw [hd] at hc
        dsimp only at hc
        split at hc
        · rename_i u hu
          rw [hu, beqV_eq hc]
        · cases hc
      · cases hc
    · cases hc
  · cases hc
theorem memA_iff (p : Nat) : ∀ (l : List (Nat × Nat × Ob)), memA p l = true ↔ ∃ x ob, (p, x, ob) ∈ l
  | [] => by simp [memA]
  | (q, y, c) :: l => by
    rw [memA, Bool.or_eq_true, memA_iff p l, Tr.beq_iff, decide_eq_true_iff]
    constructor
    · rintro (rfl | ⟨x, ob, h⟩)
      · exact ⟨y, c, List.mem_cons_self ..⟩
      · exact ⟨x, ob, List.mem_cons_of_mem _ h⟩
    · rintro ⟨x, ob, h⟩
      rcases List.mem_cons.1 h with h | h
      · cases h; exact .inl rfl
      · exact .inr ⟨x, ob, h⟩
theorem step_agree {nt : Nat} (hst : statB nt ops = true) (hn : nt < 549755813888) {i : Nat} (hna : anti ops i = false) {o : Oper} (ho : ops[i]? = some o) {done : List Nat} (hi : i ∉ done) (hT : Topo ops done) (hr : ∀ p ∈ done, p < ops.size) {fr fr' : Fr} {v : Value} (hp : putd nt fr o.dst v = some fr') {p : Nat} (hpd : p ∈ done) :
    (∀ t ∈ looks ops p, fr.get t = fr'.get t) ∧ (∀ d, dstAt ops p = some d → fr.get d = fr'.get d) := by
  have hi1 := (Array.getElem?_eq_some_iff.1 ho).1
  have hp1 := hr p hpd
  have hne : i ≠ p := fun e => hi (e ▸ hpd)
  have hg := (putd_get hn hp).2.2
  refine ⟨fun t ht => ?_, fun d hd => ?_⟩
  · rw [hg t]
    by_cases e : o.dst = some t
    · exact absurd (topo_deps hT hpd (anti_no hna hp1 (by rw [dstAt_some ho]; exact e) ht).2) hi
    · rw [if_neg e]
  · rw [hg d]
    by_cases e : o.dst = some d
    · exact absurd hd ((stat_is hst hi1 hp1 (by rw [dstAt_some ho]; exact e)).2 hne)
    · rw [if_neg e]
end
/-- a new place that is laid, and not taken in yet -/
def Ex' (sz : Nat → Nat) (Φ : Fx) (R : Rn) (w : World) (h : Hp) (x : Nat) (ob : Ob) : Prop :=
  R.D x ∧ ¬ Φ (R.ρ x) ∧ (∃ o, w.heap[R.ρ x]? = some o ∧ OR sz R x ob o) ∧ ∀ j c, h.heap.get j = some c → R.ρ j ≠ R.ρ x
structure Inv (ty : Ty) (sz : Nat → Nat) (w0 : World) (Φ : Fx) (ops : Array Oper) (rd : Option Nat) (nt : Nat) (R0 : Rn) (done cand : List Nat) (al : List (Nat × Nat × Ob)) (fr : Fr) (h : Hp) (R : Rn) (listed : Array Bool) (a : Act) (w : World) : Prop where
  size : listed.size = ops.size
  sub : ∀ j, listed.getD j false = true → j ∈ done
  clo : ∀ j, listed.getD j false = true → ∀ x ∈ depsAt ops j, listed.getD x false = true
  pend : ∀ p ∈ done, listed.getD p false = false → p ∈ cand
  hr : HR sz w0 Φ R w h
  e0 : Ext R0 R
  cd : ∀ p ∈ cand, p ∈ done
  chk : ∀ p ∈ cand, (∃ x ob, (p, x, ob) ∈ al) ∨ Pq ty ops fr h p
  na : ∀ p ∈ done, listed.getD p false = false → anti ops p = false
  alp : ∀ p x ob, (p, x, ob) ∈ al → p ∈ done ∧ x < R.N ∧ R0.N ≤ x ∧ (listed.getD p false = false → Pn ty ops fr x ob p)
  alu : ∀ p x ob, (p, x, ob) ∈ al → listed.getD p false = false → ¬ R.D x
  all : ∀ p x ob, (p, x, ob) ∈ al → listed.getD p false = true → Ex' sz Φ R w h x ob
  alf : ∀ p x ob y ob', (p, x, ob) ∈ al → (p, y, ob') ∈ al → x = y ∧ ob = ob'
  aln : ∀ p x ob q ob', (p, x, ob) ∈ al → (q, x, ob') ∈ al → p = q
  alr : ∀ p x ob q y ob', (p, x, ob) ∈ al → (q, y, ob') ∈ al → listed.getD p false = true → listed.getD q false = true → x ≠ y → R.ρ x ≠ R.ρ y
  nd : (al.map fun e => e.2.1).Nodup
  topo : Topo ops done
  rng : ∀ p ∈ done, p < ops.size
  db : ∀ p ∈ done, ∀ d, dstAt ops p = some d → d < nt
  tm : nt ≤ a.tmps.size ∧ nt < 549755813888 ∧ MK R rd fr.ms a.defers
  st : ∀ t v, fr.get t = some v → (∀ p ∈ done, listed.getD p false = false → dstAt ops p ≠ some t) → ∃ v', a.tmps[t]? = some v' ∧ VR R v v'
section
variable {P : Program} {ty : Ty} {sz : Nat → Nat} {w0 : World} {Φ : Fx} {ops : Array Oper} {rd : Option Nat} {nt : Nat} {R0 : Rn} {done cand : List Nat} {al : List (Nat × Nat × Ob)} {fr : Fr} {h : Hp} {R : Rn} {listed : Array Bool} {a : Act} {w : World}
theorem Inv.unl (I : Inv ty sz w0 Φ ops rd nt R0 done cand al fr h R listed a w) {i : Nat} (hi : i ∉ done) : listed.getD i false = false := by
  cases e : listed.getD i false with
  | false => rfl
  | true => exact absurd (I.sub i e) hi
theorem Inv.take (I : Inv ty sz w0 Φ ops rd nt R0 done cand al fr h R listed a w) (hst : statB nt ops = true) {i : Nat} (hna : anti ops i = false) {o : Oper} (ho : ops[i]? = some o) (hi : i ∉ done) (hd : ∀ x ∈ depsOf o, x ∈ done) {v : Value} {fr' : Fr}
    (hw : (wantd ops fr o = some true ∧ operQ ty fr h o = some v) ∨ (wantd ops fr o = some false ∧ v = undef)) (hp : putd nt fr o.dst v = some fr') : Inv ty sz w0 Φ ops rd nt R0 (i :: done) (i :: cand) al fr' h R listed a w := by
  have hul := I.unl hi
  have hi1 := (Array.getElem?_eq_some_iff.1 ho).1
  have hg := putd_get I.tm.2.1 hp
  have hag := fun {p : Nat} (hpd : p ∈ done) => step_agree hst I.tm.2.1 hna ho hi I.topo I.rng hp hpd
  have hself : ∀ t ∈ looks ops i, fr.get t = fr'.get t := fun t ht => by
    rw [hg.2.2 t]
    by_cases e : o.dst = some t
    · exact absurd rfl (anti_no hna hi1 (by rw [dstAt_some ho]; exact e) ht).1
    · rw [if_neg e]
  refine ⟨I.size, fun j hj => List.mem_cons_of_mem _ (I.sub j hj), I.clo, fun p hp hl => ?_, I.hr, I.e0, fun p hp => ?_, fun p hp => ?_, fun p hp hl => ?_, fun p x ob hm => ?_, I.alu, I.all, I.alf, I.aln, I.alr, I.nd, ⟨by rw [depsAt_some ho]; exact hd, I.topo⟩, fun p hp => ?_, fun p hp d hpd => ?_, ?_, fun t u hu ht => ?_⟩
  · rcases List.mem_cons.1 hp with rfl | hp
    · exact List.mem_cons_self ..
    · exact List.mem_cons_of_mem _ (I.pend p hp hl)
  · rcases List.mem_cons.1 hp with rfl | hp
    · exact List.mem_cons_self ..
    · exact List.mem_cons_of_mem _ (I.cd p hp)
  · rcases List.mem_cons.1 hp with rfl | hp
    · refine .inr ⟨o, v, ho, ?_, fun d hd => by rw [hg.2.2 d, if_pos hd]⟩
      rw [looks_some ho] at hself
      rw [← wantd_congr hself, ← operQ_congr (opnd hself)]
      exact hw
    · rcases I.chk p hp with hc | hc
      · exact .inl hc
      · exact .inr (hc.on (hag (I.cd p hp)).1 (hag (I.cd p hp)).2)
  · rcases List.mem_cons.1 hp with rfl | hp
    · exact hna
    · exact I.na p hp hl
  · obtain ⟨h1, h2, h3, h4⟩ := I.alp p x ob hm
    exact ⟨List.mem_cons_of_mem _ h1, h2, h3, fun hl => (h4 hl).on (hag h1).1 (hag h1).2⟩
  · rcases List.mem_cons.1 hp with rfl | hp
    · exact hi1
    · exact I.rng p hp
  · rcases List.mem_cons.1 hp with rfl | hp
    · rw [dstAt_some ho] at hpd; exact hg.2.1 d hpd
    · exact I.db p hp d hpd
  · rw [hg.1]; exact I.tm
  · have hne : o.dst ≠ some t := by have := ht i (List.mem_cons_self ..) hul; rwa [dstAt_some ho] at this
    rw [hg.2.2 t, if_neg hne] at hu
    exact I.st t u hu fun p hp hl => ht p (List.mem_cons_of_mem _ hp) hl
theorem Inv.takeN (I : Inv ty sz w0 Φ ops rd nt R0 done cand al fr h R listed a w) (hst : statB nt ops = true) {i : Nat} (hna : anti ops i = false) {o : Oper} (ho : ops[i]? = some o) (hi : i ∉ done) (hd : ∀ x ∈ depsOf o, x ∈ done) {k : NV} {ob : Ob} {fr' : Fr}
    (hw : wantd ops fr o = some true) (hN : operN ty fr o = some (k, ob)) (hlt : h.next < 500000000) (hp : putd nt fr o.dst (k.val h.next) = some fr') :
    Inv ty sz w0 Φ ops rd nt R0 (i :: done) (i :: cand) ((i, h.next, ob) :: al) fr' ⟨h.heap, h.next + 1, h.tab⟩ R.bump listed a w := by
  have hul := I.unl hi
  have hi1 := (Array.getElem?_eq_some_iff.1 ho).1
  have hg := putd_get I.tm.2.1 hp
  have hnx := I.hr.nx
  have hb := R.bump_ext
  have hag := fun {p : Nat} (hpd : p ∈ done) => step_agree hst I.tm.2.1 hna ho hi I.topo I.rng hp hpd
  have hself : ∀ t ∈ looks ops i, fr.get t = fr'.get t := fun t ht => by
    rw [hg.2.2 t]
    by_cases e : o.dst = some t
    · exact absurd rfl (anti_no hna hi1 (by rw [dstAt_some ho]; exact e) ht).1
    · rw [if_neg e]
  have ald : ∀ p x ob, (p, x, ob) ∈ al → p ≠ i ∧ x ≠ h.next := fun p x ob hm => by
    obtain ⟨h1, h2, _, _⟩ := I.alp p x ob hm
    exact ⟨fun e => hi (e ▸ h1), by omega⟩
  refine ⟨I.size, fun j hj => List.mem_cons_of_mem _ (I.sub j hj), I.clo, fun p hp hl => ?_, I.hr.bump hlt, I.e0.trans hb, fun p hp => ?_, fun p hp => ?_, fun p hp hl => ?_, fun p x ob' hm => ?_, fun p x ob' hm hl => ?_, fun p x ob' hm hl => ?_, fun p x ob1 y ob2 hm hm2 => ?_, fun p x ob1 q ob2 hm hm2 => ?_, fun p x ob1 q y ob2 hm hm2 hl hl2 => ?_, ?_, ⟨by rw [depsAt_some ho]; exact hd, I.topo⟩, fun p hp => ?_, fun p hp d hpd => ?_, ?_, fun t u hu ht => ?_⟩
  · rcases List.mem_cons.1 hp with rfl | hp
    · exact List.mem_cons_self ..
    · exact List.mem_cons_of_mem _ (I.pend p hp hl)
  · rcases List.mem_cons.1 hp with rfl | hp
    · exact List.mem_cons_self ..
    · exact List.mem_cons_of_mem _ (I.cd p hp)
  · rcases List.mem_cons.1 hp with rfl | hp
    · exact .inl ⟨_, _, List.mem_cons_self ..⟩
    · rcases I.chk p hp with ⟨x, ob', hc⟩ | hc
      · exact .inl ⟨x, ob', List.mem_cons_of_mem _ hc⟩
      · have hc2 := hc.on (hag (I.cd p hp)).1 (hag (I.cd p hp)).2
        obtain ⟨o2, v2, q1, q2, q3⟩ := hc2
        refine .inr ⟨o2, v2, q1, ?_, q3⟩
        rw [show operQ ty fr' ⟨h.heap, h.next + 1, h.tab⟩ o2 = operQ ty fr' h o2 from rfl]
        exact q2
  · rcases List.mem_cons.1 hp with rfl | hp
    · exact hna
    · exact I.na p hp hl
  · rcases List.mem_cons.1 hm with hm | hm
    · cases hm
      refine ⟨List.mem_cons_self .., by show h.next < R.N + 1; omega, by have := I.e0.le; omega, fun _ => ⟨o, k, ho, ?_, ?_, fun d hd => by rw [hg.2.2 d, if_pos hd]⟩⟩
      · rw [looks_some ho] at hself
        rw [← wantd_congr hself]; exact hw
      · rw [looks_some ho] at hself
        rw [← operN_congr (opnd hself)]; exact hN
    · obtain ⟨h1, h2, h3, h4⟩ := I.alp p x ob' hm
      exact ⟨List.mem_cons_of_mem _ h1, Nat.lt_succ_of_lt h2, h3, fun hl => (h4 hl).on (hag h1).1 (hag h1).2⟩
  · rcases List.mem_cons.1 hm with hm | hm
    · cases hm
      intro hD
      have := I.hr.dom _ hD
      omega
    · exact I.alu p x ob' hm hl
  · rcases List.mem_cons.1 hm with hm | hm
    · cases hm
      rw [hul] at hl
      cases hl
    · obtain ⟨q1, q2, ⟨o3, q3, q4⟩, q5⟩ := I.all p x ob' hm hl
      exact ⟨q1, q2, ⟨o3, q3, q4.ext hb q1⟩, q5⟩
  · rcases List.mem_cons.1 hm with hm | hm <;> rcases List.mem_cons.1 hm2 with hm2 | hm2
    · cases hm; cases hm2; exact ⟨rfl, rfl⟩
    · cases hm; exact absurd rfl (ald _ _ _ hm2).1
    · cases hm2; exact absurd rfl (ald _ _ _ hm).1
    · exact I.alf p x ob1 y ob2 hm hm2
  · rcases List.mem_cons.1 hm with hm | hm <;> rcases List.mem_cons.1 hm2 with hm2 | hm2
    · cases hm; cases hm2; rfl
    · cases hm; exact absurd rfl (ald _ _ _ hm2).2
    · cases hm2; exact absurd rfl (ald _ _ _ hm).2
    · exact I.aln p x ob1 q ob2 hm hm2
  · rcases List.mem_cons.1 hm with hm | hm
    · cases hm
      rw [hul] at hl
      cases hl
    · rcases List.mem_cons.1 hm2 with hm2 | hm2
      · cases hm2
        rw [hul] at hl2
        cases hl2
      · exact I.alr p x ob1 q y ob2 hm hm2 hl hl2
  · rw [List.map_cons, List.nodup_cons]
    refine ⟨fun hm => ?_, I.nd⟩
    obtain ⟨⟨p, x, ob'⟩, h1, h2⟩ := List.mem_map.1 hm
    exact (ald p x ob' h1).2 h2
  · rcases List.mem_cons.1 hp with rfl | hp
    · exact hi1
    · exact I.rng p hp
  · rcases List.mem_cons.1 hp with rfl | hp
    · rw [dstAt_some ho] at hpd; exact hg.2.1 d hpd
    · exact I.db p hp d hpd
  · rw [hg.1]; exact ⟨I.tm.1, I.tm.2.1, I.tm.2.2.ext hb⟩
  · have hne : o.dst ≠ some t := by have := ht i (List.mem_cons_self ..) hul; rwa [dstAt_some ho] at this
    rw [hg.2.2 t, if_neg hne] at hu
    obtain ⟨v', h1, h2⟩ := I.st t u hu fun p hp hl => ht p (List.mem_cons_of_mem _ hp) hl
    exact ⟨v', h1, h2.ext hb⟩
/-- what an operation that is ready looks at -/
theorem Inv.look (I : Inv ty sz w0 Φ ops rd nt R0 done cand al fr h R listed a w) (hst : statB nt ops = true) {j : Nat} {o : Oper} (ho : ops[j]? = some o) (hr : j ∈ Region.ready .any ops listed) :
    FR R rd nt (restr fr (looks ops j)) a ∧ ∀ t ∈ o.looksAt ops, fr.get t = (restr fr (looks ops j)).get t := by
  obtain ⟨hl, o', ho', hdl⟩ := ready_iff.1 hr
  rw [ho] at ho'
  cases ho'
  have hj1 := (Array.getElem?_eq_some_iff.1 ho).1
  have hlt := stat_lt hst hj1
  have hn := I.tm.2.1
  have hget := get_restrT fr.t (looks ops j) (fun k hk => by have := hlt k hk; omega)
  refine ⟨⟨I.tm.1, hn, I.tm.2.2, fun t v hv => ?_⟩, fun t ht => ?_⟩
  · change (restrT fr.t (looks ops j)).get t = some v at hv
    rw [hget] at hv
    by_cases hm : t ∈ looks ops j
    · rw [if_pos hm] at hv
      refine I.st t v hv fun p hp hlp hdp => ?_
      have := (anti_no (I.na p hp hlp) hj1 hdp hm).2
      rw [depsAt_some ho] at this
      rw [hdl p this] at hlp
      cases hlp
    · rw [if_neg hm] at hv; cases hv
  · change fr.t.get t = (restrT fr.t (looks ops j)).get t
    rw [hget, if_pos (by rw [looks_some ho]; exact ht)]
theorem Inv.fin (I : Inv ty sz w0 Φ ops rd nt R0 done cand al fr h R listed a w) {j : Nat} {o : Oper} (ho : ops[j]? = some o) (hr : j ∈ Region.ready .any ops listed) (hj : j ∈ done) (hna : ∀ x ob, (j, x, ob) ∉ al) {v v' : Value} (hd : ∀ d, o.dst = some d → fr.get d = some v) (hv : VR R v v') :
    Inv ty sz w0 Φ ops rd nt R0 done cand al fr h R (listed.setIfInBounds j true) (a.put o.dst v') w := by
  obtain ⟨hl, o', ho', hdl⟩ := ready_iff.1 hr
  rw [ho] at ho'
  cases ho'
  obtain ⟨hjs, hlf⟩ := getD_bools hl
  have hset := set_getD hjs
  have mono : ∀ x, listed.getD x false = true → (listed.setIfInBounds j true).getD x false = true := fun x hx => by rw [hset]; split <;> first | rfl | exact hx
  have back : ∀ x, x ≠ j → (listed.setIfInBounds j true).getD x false = listed.getD x false := fun x hx => by rw [hset, if_neg hx]
  have nj : ∀ {p x : Nat} {ob : Ob}, (p, x, ob) ∈ al → p ≠ j := fun hm e => hna _ _ (e ▸ hm)
  refine ⟨by simp [I.size], fun x hx => ?_, fun x hx y hy => ?_, fun p hp hlp => ?_, I.hr, I.e0, I.cd, I.chk, fun p hp hlp => ?_, fun p x ob hm => ?_, fun p x ob hm hl => ?_, fun p x ob hm hl => ?_, I.alf, I.aln, fun p x ob q y ob' hm hm2 hl hl2 => ?_, I.nd, I.topo, I.rng, I.db, ⟨by rw [put_size]; exact I.tm.1, I.tm.2.1, by rw [put_defs]; exact I.tm.2.2⟩, fun t u hu ht => ?_⟩
  · by_cases e : x = j
    · subst e; exact hj
    · rw [back x e] at hx; exact I.sub x hx
  · by_cases e : x = j
    · subst e
      rw [depsAt_some ho] at hy
      exact mono y (hdl y hy)
    · rw [back x e] at hx
      exact mono y (I.clo x hx y hy)
  · rw [hset] at hlp
    by_cases e : p = j
    · rw [if_pos e] at hlp; cases hlp
    · rw [if_neg e] at hlp; exact I.pend p hp hlp
  · rw [hset] at hlp
    by_cases e : p = j
    · rw [if_pos e] at hlp; cases hlp
    · rw [if_neg e] at hlp; exact I.na p hp hlp
  · obtain ⟨h1, h2, h3, h4⟩ := I.alp p x ob hm
    exact ⟨h1, h2, h3, fun hl => h4 (by rw [← back p (nj hm)]; exact hl)⟩
  · rw [back p (nj hm)] at hl; exact I.alu p x ob hm hl
  · rw [back p (nj hm)] at hl; exact I.all p x ob hm hl
  · rw [back p (nj hm)] at hl; rw [back q (nj hm2)] at hl2; exact I.alr p x ob q y ob' hm hm2 hl hl2
  · by_cases e : o.dst = some t
    · have := hd t e
      rw [hu] at this
      cases this
      have hts : t < a.tmps.size := Nat.lt_of_lt_of_le (I.db j hj t (by rw [dstAt_some ho]; exact e)) I.tm.1
      exact ⟨v', by rw [e]; exact put_same hts, hv⟩
    · obtain ⟨u', h1, h2⟩ := I.st t u hu fun p hp hlp => by
        by_cases ep : p = j
        · subst ep; rw [dstAt_some ho]; exact e
        · exact ht p hp (by rw [back p ep]; exact hlp)
      exact ⟨u', by rw [put_get e]; exact h1, h2⟩
/-- a new place is laid -/
theorem Inv.finN (I : Inv ty sz w0 Φ ops rd nt R0 done cand al fr h R listed a w) {j : Nat} {o : Oper} (ho : ops[j]? = some o) (hr : j ∈ Region.ready .any ops listed) (hj : j ∈ done) {x : Nat} {ob : Ob} (hmem : (j, x, ob) ∈ al) {k : NV} (hk : ∀ n c, k = .sl n c → c < many)
    (hd : ∀ d, o.dst = some d → fr.get d = some (k.val x)) {o' : Obj} (hor : ∀ R' i, Ext0 R R' → OR sz R' i ob o') :
    Inv ty sz w0 Φ ops rd nt R0 done cand al fr h (R.addAt x w.heap.size 0) (listed.setIfInBounds j true) (a.put o.dst (k.val w.heap.size)) (w.alloc o') := by
  obtain ⟨hl, o2, ho2, hdl⟩ := ready_iff.1 hr
  rw [ho] at ho2
  cases ho2
  obtain ⟨hjs, hlf⟩ := getD_bools hl
  have hset := set_getD hjs
  have mono : ∀ x, listed.getD x false = true → (listed.setIfInBounds j true).getD x false = true := fun x hx => by rw [hset]; split <;> first | rfl | exact hx
  have back : ∀ x, x ≠ j → (listed.setIfInBounds j true).getD x false = listed.getD x false := fun x hx => by rw [hset, if_neg hx]
  have hul := I.alu j x ob hmem hlf
  obtain ⟨_, hxN, hx0, _⟩ := I.alp j x ob hmem
  have ex := R.addAt_ext hul w.heap.size 0
  generalize hR' : R.addAt x w.heap.size 0 = R' at ex
  have hDx : R'.D x := by rw [← hR']; exact .inr rfl
  have hρx : R'.ρ x = w.heap.size := by rw [← hR']; exact if_pos rfl
  have hDy : ∀ y, R'.D y → y ≠ x → R.D y := fun y hy hne => by
    rw [← hR'] at hy
    rcases hy with hy | hy
    · exact hy
    · exact absurd hy hne
  have hH : HR sz w0 Φ R' (w.alloc o') h := by
    rw [← hR']
    refine (I.hr.addD hxN hul w.heap.size 0).on (I.hr.stayAlloc _) fun i c hc => ?_
    rw [hR', ex.ρ i (I.hr.blk i c hc).1]
    exact Below.heap_alloc _ _ _ (I.hr.old hc)
  have hsz : w.heap.size < (w.alloc o').heap.size := by simp
  have hnew : Ex' sz Φ R' (w.alloc o') h x ob := by
    refine ⟨hDx, by rw [hρx]; exact I.hr.young, ⟨o', by rw [hρx]; show (w.heap.push _)[w.heap.size]? = _; simp, hor R' x ex⟩, fun i c hc => ?_⟩
    rw [hρx, ex.ρ i (I.hr.blk i c hc).1]
    exact Nat.ne_of_lt (I.hr.old hc)
  have hold : ∀ {y : Nat} {ob' : Ob}, Ex' sz Φ R w h y ob' → Ex' sz Φ R' (w.alloc o') h y ob' ∧ R.ρ y < w.heap.size := fun {y ob'} hy => by
    obtain ⟨q1, q2, ⟨o3, q3, q4⟩, q5⟩ := hy
    have hlt := (Array.getElem?_eq_some_iff.1 q3).1
    refine ⟨⟨ex.D y q1, by rw [ex.ρ y q1]; exact q2, ⟨o3, ?_, q4.ext ex q1⟩, fun i c hc => ?_⟩, hlt⟩
    · rw [ex.ρ y q1, Below.heap_alloc _ _ _ hlt]; exact q3
    · rw [ex.ρ y q1, ex.ρ i (I.hr.blk i c hc).1]; exact q5 i c hc
  refine ⟨by simp [I.size], fun x hx => ?_, fun x hx y hy => ?_, fun p hp hlp => ?_, hH, ?_, I.cd, I.chk, fun p hp hlp => ?_, fun p y ob' hm => ?_, fun p y ob' hm hl => ?_, fun p y ob' hm hl => ?_, I.alf, I.aln, fun p y ob1 q z ob2 hm hm2 hl hl2 hne => ?_, I.nd, I.topo, I.rng, I.db, ⟨by rw [put_size]; exact I.tm.1, I.tm.2.1, by rw [put_defs]; exact I.tm.2.2.ext ex⟩, fun t u hu ht => ?_⟩
  · by_cases e : x = j
    · subst e; exact hj
    · rw [back x e] at hx; exact I.sub x hx
  · by_cases e : x = j
    · subst e
      rw [depsAt_some ho] at hy
      exact mono y (hdl y hy)
    · rw [back x e] at hx
      exact mono y (I.clo x hx y hy)
  · rw [hset] at hlp
    by_cases e : p = j
    · rw [if_pos e] at hlp; cases hlp
    · rw [if_neg e] at hlp; exact I.pend p hp hlp
  · refine ⟨I.e0.toExt0.trans ex, fun i hi hlt => ?_⟩
    by_cases e : i = x
    · omega
    · exact I.e0.nw i (hDy i hi e) hlt
  · rw [hset] at hlp
    by_cases e : p = j
    · rw [if_pos e] at hlp; cases hlp
    · rw [if_neg e] at hlp; exact I.na p hp hlp
  · obtain ⟨h1, h2, h3, h4⟩ := I.alp p y ob' hm
    refine ⟨h1, by rw [← hR']; exact h2, h3, fun hl => h4 ?_⟩
    rw [hset] at hl
    by_cases e : p = j
    · rw [if_pos e] at hl; cases hl
    · rw [if_neg e] at hl; exact hl
  · by_cases e : p = j
    · subst e
      rw [hset, if_pos rfl] at hl
      cases hl
    · rw [back p e] at hl
      intro hD
      refine I.alu p y ob' hm hl (hDy y hD fun e2 => ?_)
      subst e2
      exact e (I.aln p y ob' j ob hm hmem)
  · by_cases e : p = j
    · subst e
      obtain ⟨rfl, rfl⟩ := I.alf p y ob' x ob hm hmem
      exact hnew
    · rw [back p e] at hl
      exact (hold (I.all p y ob' hm hl)).1
  · by_cases e : p = j
    · subst e
      obtain ⟨rfl, rfl⟩ := I.alf p y ob1 x ob hm hmem
      by_cases e2 : q = p
      · subst e2
        obtain ⟨rfl, _⟩ := I.alf q z ob2 y ob1 hm2 hmem
        exact absurd rfl hne
      · rw [back q e2] at hl2
        have hz := I.all q z ob2 hm2 hl2
        rw [hρx, ex.ρ z hz.1]
        have := (hold hz).2
        omega
    · rw [back p e] at hl
      have hy := I.all p y ob1 hm hl
      by_cases e2 : q = j
      · subst e2
        obtain ⟨rfl, rfl⟩ := I.alf q z ob2 x ob hm2 hmem
        rw [hρx, ex.ρ y hy.1]
        have := (hold hy).2
        omega
      · rw [back q e2] at hl2
        have hz := I.all q z ob2 hm2 hl2
        rw [ex.ρ y hy.1, ex.ρ z hz.1]
        exact I.alr p y ob1 q z ob2 hm hm2 hl hl2 hne
  · by_cases e : o.dst = some t
    · have := hd t e
      rw [hu] at this
      cases this
      have hts : t < a.tmps.size := Nat.lt_of_lt_of_le (I.db j hj t (by rw [dstAt_some ho]; exact e)) I.tm.1
      exact ⟨_, by rw [e]; exact put_same hts, NV.rel hH k hk hDx hρx⟩
    · obtain ⟨u', h1, h2⟩ := I.st t u hu fun p hp hlp => by
        by_cases ep : p = j
        · subst ep; rw [dstAt_some ho]; exact e
        · exact ht p hp (by rw [back p ep]; exact hlp)
      exact ⟨u', by rw [put_get e]; exact h1, h2.ext ex⟩
theorem commit_is : ∀ (l : List (Nat × Nat × Ob)) (h : Hp), (l.map fun e => e.2.1).Nodup → HR sz w0 Φ R w h → (∀ p x ob, (p, x, ob) ∈ l → Ex' sz Φ R w h x ob) → (∀ p x ob q y ob', (p, x, ob) ∈ l → (q, y, ob') ∈ l → x ≠ y → R.ρ x ≠ R.ρ y) →
    HR sz w0 Φ R w (commit l h) ∧ (commit l h).next = h.next ∧ (∀ i b, (commit l h).heap.get i = some b → h.heap.get i = some b ∨ ∃ p, (p, i, b) ∈ l)
  | [], h, _, hh, _, _ => ⟨hh, rfl, fun i b hb => .inl hb⟩
  | (p, x, ob) :: l, h, hnd, hh, hE, hne => by
    rw [List.map_cons, List.nodup_cons] at hnd
    obtain ⟨q1, q2, ⟨o, q3, q4⟩, q5⟩ := hE p x ob (List.mem_cons_self ..)
    have hsm := hh.small
    have hxN := hh.dom x q1
    have hget : ∀ j, (h.heap.put 40 x ob).get j = if j = x then some ob else h.heap.get j := fun j => Tr.get_put 40 _ _ _ j (by omega)
    have h1 := hh.putAt (i := x) (b := ob) q1 q2 (fun j c hc _ => q5 j c hc) q3 q4
    obtain ⟨r1, r2, r3⟩ := commit_is l ⟨h.heap.put 40 x ob, h.next, h.tab⟩ hnd.2 h1 (fun p' y ob' hm => by
      obtain ⟨s1, s2, s3, s4⟩ := hE p' y ob' (List.mem_cons_of_mem _ hm)
      refine ⟨s1, s2, s3, fun j c hc => ?_⟩
      dsimp only at hc
      rw [hget] at hc
      by_cases e : j = x
      · subst e
        by_cases e2 : j = y
        · subst e2
          exact absurd (List.mem_map.2 ⟨_, hm, rfl⟩) hnd.1
        · exact hne p j ob p' y ob' (List.mem_cons_self ..) (List.mem_cons_of_mem _ hm) e2
      · rw [if_neg e] at hc
        exact s4 j c hc) (fun p1 y ob1 q z ob2 hm hm2 => hne p1 y ob1 q z ob2 (List.mem_cons_of_mem _ hm) (List.mem_cons_of_mem _ hm2))
    refine ⟨r1, r2, fun i b hb => ?_⟩
    rcases r3 i b hb with hb | ⟨p', hm⟩
    · dsimp only at hb
      rw [hget] at hb
      by_cases e : i = x
      · rw [if_pos e] at hb
        cases hb
        subst e
        exact .inr ⟨p, List.mem_cons_self ..⟩
      · rw [if_neg e] at hb
        exact .inl hb
    · exact .inr ⟨p', List.mem_cons_of_mem _ hm⟩
/-- an operation that every order takes here -/
theorem Inv.eff (I : Inv ty sz w0 Φ ops rd nt R0 done cand al fr h R listed a w) (hst : statB nt ops = true) {i : Nat} {o : Oper} (ho : ops[i]? = some o) (hr : i ∈ Region.ready .any ops listed) (hi : i ∉ done) (hd : ∀ x ∈ depsOf o, x ∈ done) :
    HR sz w (Φ.or fun k => ∃ p x ob, (p, x, ob) ∈ (al.filter fun e => !memN e.1 (anc ops done (depsOf o))) ∧ listed.getD p false = true ∧ k = R.ρ x) R w (commit (al.filter fun e => memN e.1 (anc ops done (depsOf o))) h) ∧
    ∀ {v v' : Value} {fr' : Fr} {R' : Rn} {w' : World} {h' : Hp}, putd nt fr o.dst v = some fr' → Ext R R' →
      HR sz w (Φ.or fun k => ∃ p x ob, (p, x, ob) ∈ (al.filter fun e => !memN e.1 (anc ops done (depsOf o))) ∧ listed.getD p false = true ∧ k = R.ρ x) R' w' h' → VR R' v v' →
      ((cand.filter fun p => !memN p (anc ops done (depsOf o))).all (fun p => memA p (al.filter fun e => !memN e.1 (anc ops done (depsOf o))) || chk1 ty ops fr' h' p)) = true →
      Inv ty sz w0 Φ ops rd nt R0 (i :: done) (cand.filter fun p => !memN p (anc ops done (depsOf o))) (al.filter fun e => !memN e.1 (anc ops done (depsOf o))) fr' h' R' (listed.setIfInBounds i true) (a.put o.dst v') w' := by
  obtain ⟨hl, o2, ho2, hdl⟩ := ready_iff.1 hr
  rw [ho] at ho2
  cases ho2
  obtain ⟨hjs, hlf⟩ := getD_bools hl
  have hset := set_getD hjs
  have hi1 := (Array.getElem?_eq_some_iff.1 ho).1
  have mono : ∀ x, listed.getD x false = true → (listed.setIfInBounds i true).getD x false = true := fun x hx => by rw [hset]; split <;> first | rfl | exact hx
  have back : ∀ x, x ≠ i → (listed.setIfInBounds i true).getD x false = listed.getD x false := fun x hx => by rw [hset, if_neg hx]
  have hanc := anc_is (ops := ops) (L := fun x => listed.getD x false = true) I.clo done (depsOf o) hdl
  generalize hA : anc ops done (depsOf o) = A at hanc
  have m1 : ∀ {p x : Nat} {ob : Ob}, (p, x, ob) ∈ (al.filter fun e => memN e.1 A) ↔ (p, x, ob) ∈ al ∧ p ∈ A := fun {p x ob} => by rw [List.mem_filter, memN_iff]
  have m2 : ∀ {p x : Nat} {ob : Ob}, (p, x, ob) ∈ (al.filter fun e => !memN e.1 A) ↔ (p, x, ob) ∈ al ∧ p ∉ A := fun {p x ob} => by
    rw [List.mem_filter, Bool.not_eq_true', ← Bool.not_eq_true, memN_iff]
  have hE1 : ∀ p x ob, (p, x, ob) ∈ (al.filter fun e => memN e.1 A) → Ex' sz Φ R w h x ob := fun p x ob hm => I.all p x ob (m1.1 hm).1 (hanc p (m1.1 hm).2)
  obtain ⟨hc1, hc2, hc3⟩ := commit_is (al.filter fun e => memN e.1 A) h (I.nd.sublist ((List.filter_sublist ..).map _)) I.hr hE1 fun p x ob q y ob' hm hm2 hne => I.alr p x ob q y ob' (m1.1 hm).1 (m1.1 hm2).1 (hanc p (m1.1 hm).2) (hanc q (m1.1 hm2).2) hne
  generalize hh1 : commit (al.filter fun e => memN e.1 A) h = h1 at hc1 hc2 hc3
  have apart : ∀ p x ob, (p, x, ob) ∈ al → p ∉ A → listed.getD p false = true → ∀ j c, h1.heap.get j = some c → R.ρ j ≠ R.ρ x := fun p x ob hm hpA hpl j c hc => by
    rcases hc3 j c hc with hc | ⟨q, hq⟩
    · exact (I.all p x ob hm hpl).2.2.2 j c hc
    · have hq' := m1.1 hq
      refine I.alr q j c p x ob hq'.1 hm (hanc q hq'.2) hpl fun e => ?_
      subst e
      exact hpA (I.aln q j c p ob hq'.1 hm ▸ hq'.2)
  refine ⟨hc1.narrow (fun k hk => ?_) fun j c hc hx => ?_, fun {v v' fr' R' w' h'} hp he hh' hv hck => ?_⟩
  · obtain ⟨p, x, ob, hm, hpl, rfl⟩ := hk
    obtain ⟨_, _, ⟨o3, q3, _⟩, _⟩ := I.all p x ob (m2.1 hm).1 hpl
    exact (Array.getElem?_eq_some_iff.1 q3).1
  · obtain ⟨p, x, ob, hm, hpl, he⟩ := hx
    exact apart p x ob (m2.1 hm).1 (m2.1 hm).2 hpl j c hc he
  · have hH := hc1.widen hh'
    have hg := putd_get I.tm.2.1 hp
    have hanc2 := anc_is (ops := ops) (L := fun x => listed.getD x false = true) I.clo (List.range ops.size).reverse (depsOf o) hdl
    have hag : ∀ {p : Nat}, p ∈ done → listed.getD p false = false → (∀ t ∈ looks ops p, fr.get t = fr'.get t) ∧ (∀ d, dstAt ops p = some d → fr.get d = fr'.get d) := fun {p} hpd hpl => by
      have hp1 := I.rng p hpd
      have hne : i ≠ p := fun e => hi (e ▸ hpd)
      refine ⟨fun t ht => ?_, fun d hd => ?_⟩
      · rw [hg.2.2 t]
        by_cases e : o.dst = some t
        · rcases (stat_is hst hi1 hp1 (by rw [dstAt_some ho]; exact e)).1 ht with h5 | h5
          · exact absurd (topo_deps I.topo hpd h5.2) hi
          · rw [depsAt_some ho] at h5
            rw [hanc2 p h5] at hpl
            cases hpl
        · rw [if_neg e]
      · rw [hg.2.2 d]
        by_cases e : o.dst = some d
        · exact absurd hd ((stat_is hst hi1 hp1 (by rw [dstAt_some ho]; exact e)).2 hne)
        · rw [if_neg e]
    have ndone : ∀ {p x : Nat} {ob : Ob}, (p, x, ob) ∈ al → p ≠ i := fun hm e => hi (e ▸ (I.alp _ _ _ hm).1)
    refine ⟨by simp [I.size], fun x hx => ?_, fun x hx y hy => ?_, fun p hp hlp => ?_, hH, I.e0.trans he, fun p hp => List.mem_cons_of_mem _ (I.cd p (List.mem_filter.1 hp).1), fun p hp => ?_, fun p hp hlp => ?_, fun p x ob hm => ?_, fun p x ob hm hl hD => ?_, fun p x ob hm hl => ?_,
      fun p x ob y ob' hm hm2 => I.alf p x ob y ob' (m2.1 hm).1 (m2.1 hm2).1, fun p x ob q ob' hm hm2 => I.aln p x ob q ob' (m2.1 hm).1 (m2.1 hm2).1, fun p x ob q y ob' hm hm2 hl hl2 hne => ?_, I.nd.sublist ((List.filter_sublist ..).map _), ⟨by rw [depsAt_some ho]; exact hd, I.topo⟩, fun p hp => ?_, fun p hp d hpd => ?_, ?_, fun t u hu ht => ?_⟩
    · by_cases e : x = i
      · subst e; exact List.mem_cons_self ..
      · rw [back x e] at hx; exact List.mem_cons_of_mem _ (I.sub x hx)
    · by_cases e : x = i
      · subst e
        rw [depsAt_some ho] at hy
        exact mono y (hdl y hy)
      · rw [back x e] at hx
        exact mono y (I.clo x hx y hy)
    · rw [hset] at hlp
      by_cases e : p = i
      · rw [if_pos e] at hlp; cases hlp
      · rw [if_neg e] at hlp
        rcases List.mem_cons.1 hp with h4 | hp
        · exact absurd h4 e
        · refine List.mem_filter.2 ⟨I.pend p hp hlp, ?_⟩
          rw [Bool.not_eq_true', ← Bool.not_eq_true, memN_iff]
          intro hm
          rw [hanc p hm] at hlp
          cases hlp
    · have := List.all_eq_true.1 hck p hp
      rw [Bool.or_eq_true, memA_iff] at this
      rcases this with h1 | h1
      · exact .inl h1
      · exact .inr (chk1_is h1)
    · rw [hset] at hlp
      by_cases e : p = i
      · rw [if_pos e] at hlp; cases hlp
      · rw [if_neg e] at hlp
        rcases List.mem_cons.1 hp with h4 | hp
        · exact absurd h4 e
        · exact I.na p hp hlp
    · obtain ⟨q1, q2, q3, q4⟩ := I.alp p x ob (m2.1 hm).1
      refine ⟨List.mem_cons_of_mem _ q1, Nat.lt_of_lt_of_le q2 he.le, q3, fun hl => ?_⟩
      rw [back p (ndone (m2.1 hm).1)] at hl
      exact (q4 hl).on (hag q1 hl).1 (hag q1 hl).2
    · rw [back p (ndone (m2.1 hm).1)] at hl
      exact I.alu p x ob (m2.1 hm).1 hl (he.nw x hD (I.alp p x ob (m2.1 hm).1).2.1)
    · rw [back p (ndone (m2.1 hm).1)] at hl
      obtain ⟨q1, q2, ⟨o3, q3, q4⟩, q5⟩ := I.all p x ob (m2.1 hm).1 hl
      have hΨ : (Φ.or fun k => ∃ p x ob, (p, x, ob) ∈ (al.filter fun e => !memN e.1 A) ∧ listed.getD p false = true ∧ k = R.ρ x) (R.ρ x) := .inr ⟨p, x, ob, hm, hl, rfl⟩
      refine ⟨he.D x q1, by rw [he.ρ x q1]; exact q2, ⟨o3, by rw [he.ρ x q1, hh'.bel.block _ hΨ]; exact q3, q4.ext he q1⟩, fun j c hc e => ?_⟩
      rw [he.ρ x q1] at e
      exact (hh'.blk j c hc).2.1 (e ▸ hΨ)
    · rw [back p (ndone (m2.1 hm).1)] at hl
      rw [back q (ndone (m2.1 hm2).1)] at hl2
      rw [he.ρ x (I.all p x ob (m2.1 hm).1 hl).1, he.ρ y (I.all q y ob' (m2.1 hm2).1 hl2).1]
      exact I.alr p x ob q y ob' (m2.1 hm).1 (m2.1 hm2).1 hl hl2 hne
    · rcases List.mem_cons.1 hp with rfl | hp
      · exact hi1
      · exact I.rng p hp
    · rcases List.mem_cons.1 hp with rfl | hp
      · rw [dstAt_some ho] at hpd; exact hg.2.1 d hpd
      · exact I.db p hp d hpd
    · rw [hg.1, put_size, put_defs]; exact ⟨I.tm.1, I.tm.2.1, I.tm.2.2.ext he⟩
    · by_cases e : o.dst = some t
      · rw [hg.2.2 t, if_pos e] at hu
        cases hu
        exact ⟨v', by rw [e]; exact put_same (Nat.lt_of_lt_of_le (hg.2.1 t e) I.tm.1), hv⟩
      · rw [hg.2.2 t, if_neg e] at hu
        obtain ⟨u', h1, h2⟩ := I.st t u hu fun p hp hlp => ht p (List.mem_cons_of_mem _ hp) (by rw [back p (fun ep => hi (ep ▸ hp))]; exact hlp)
        exact ⟨u', by rw [put_get e]; exact h1, h2.ext he⟩
theorem all_listed {D : List Nat} (hT : Topo ops D) (hr : ∀ i ∈ D, i < ops.size) (hs : listed.size = ops.size) (h0 : Region.ready .any ops listed = []) : ∀ i ∈ D, listed.getD i false = true := by
  induction D with
  | nil => intro i hi; cases hi
  | cons k l ih =>
    have ihl := ih hT.2 fun i hi => hr i (List.mem_cons_of_mem _ hi)
    intro i hi
    rcases List.mem_cons.1 hi with rfl | hi
    · cases e : listed.getD i false with
      | true => rfl
      | false =>
        exfalso
        have hlt := hr i (List.mem_cons_self ..)
        have : i ∈ Region.ready .any ops listed := ready_iff.2 ⟨getD_bools' (by omega) e, ops[i], Array.getElem?_eq_getElem hlt, fun x hx => ihl x (hT.1 x (by rw [depsAt_some (Array.getElem?_eq_getElem hlt)]; exact hx))⟩
        rw [h0] at this
        cases this
    · exact ihl i hi
end
end Go.Ev
/- A region that draws its order, whole. -/
noncomputable section
namespace Go.Ev
open Go.RowKit
set_option linter.unusedVariables false
set_option linter.unusedSimpArgs false
section
variable {P : Program} {ty : Ty} {sz : Nat → Nat} {w0 : World} {Φ : Fx} {ops : Array Oper} {rd : Option Nat} {nt : Nat} {opE : Fr → Hp → Oper → Option (Value × Hp)}
theorem allmem {l d : List Nat} : (l.all (memN · d)) = true ↔ ∀ x ∈ l, x ∈ d := by
  rw [List.all_eq_true]
  exact ⟨fun h x hx => (memN_iff _ _).1 (h x hx), fun h x hx => (memN_iff _ _).2 (h x hx)⟩
/-- one step of runD -/
theorem runD_cons {i : Nat} {rest done cand : List Nat} {al : List (Nat × Nat × Ob)} {fr : Fr} {h : Hp} {r : Fr × Hp} (he : runD ty opE nt ops (i :: rest) done cand al fr h = some r) :
    ∃ o, ops[i]? = some o ∧ i ∉ done ∧ (∀ x ∈ depsOf o, x ∈ done) ∧
      (anti ops i = false ∧ (∃ v fr', ((wantd ops fr o = some true ∧ operQ ty fr h o = some v) ∨ (wantd ops fr o = some false ∧ v = undef)) ∧ putd nt fr o.dst v = some fr' ∧ runD ty opE nt ops rest (i :: done) (i :: cand) al fr' h = some r) ∨
       anti ops i = false ∧ (∃ k ob fr', wantd ops fr o = some true ∧ operN ty fr o = some (k, ob) ∧ h.next < 500000000 ∧ putd nt fr o.dst (k.val h.next) = some fr' ∧ runD ty opE nt ops rest (i :: done) (i :: cand) ((i, h.next, ob) :: al) fr' ⟨h.heap, h.next + 1, h.tab⟩ = some r) ∨
       (∃ v h' fr', wantd ops fr o = some true ∧ opE fr (commit (al.filter fun e => memN e.1 (anc ops done (depsOf o))) h) o = some (v, h') ∧ putd nt fr o.dst v = some fr' ∧ (∀ j, j < ops.size → j ≠ i → j ∉ done → ¬ ∀ x ∈ depsAt ops j, x ∈ done) ∧
          ((cand.filter fun p => !memN p (anc ops done (depsOf o))).all (fun p => memA p (al.filter fun e => !memN e.1 (anc ops done (depsOf o))) || chk1 ty ops fr' h' p)) = true ∧
          runD ty opE nt ops rest (i :: done) (cand.filter fun p => !memN p (anc ops done (depsOf o))) (al.filter fun e => !memN e.1 (anc ops done (depsOf o))) fr' h' = some r)) := by
  rw [runD] at he
  split at he
  · cases he
  · rename_i o ho
    cases hc : memN i done || !(depsOf o).all (memN · done) with
    | true => rw [hc] at he; cases he
    | false =>
      rw [hc] at he
      dsimp only [cond_false] at he
      rw [Bool.or_eq_false_iff] at hc
      have h1 : i ∉ done := fun hi => by rw [(memN_iff _ _).2 hi] at hc; cases hc.1
      have h2 : ∀ x ∈ depsOf o, x ∈ done := by
        have := hc.2
        rw [Bool.not_eq_false'] at this
        exact allmem.1 this
      refine ⟨o, at_some ho, h1, h2, ?_⟩
      split at he
      · cases he
      · rename_i hw
        cases hna : anti ops i with
        | true => rw [hna] at he; cases he
        | false =>
          rw [hna] at he
          dsimp only [cond_false] at he
          split at he
          · cases he
          · rename_i fr' hp
            exact .inl ⟨rfl, undef, fr', .inr ⟨hw, rfl⟩, hp, he⟩
      · rename_i hw
        split at he
        · rename_i v hv
          cases hna : anti ops i with
          | true => rw [hna] at hv; cases hv
          | false =>
            rw [hna] at hv
            dsimp only [cond_false] at hv
            split at he
            · cases he
            · rename_i fr' hp
              exact .inl ⟨rfl, v, fr', .inl ⟨hw, hv⟩, hp, he⟩
        · split at he
          · rename_i k ob hN
            cases hna : anti ops i with
            | true => rw [hna] at hN; cases hN
            | false =>
            rw [hna] at hN
            dsimp only [cond_false] at hN
            cases hlt : Nat.blt h.next 500000000 with
            | false => rw [hlt] at he; cases he
            | true =>
              rw [hlt] at he
              dsimp only [cond_true] at he
              rw [Nat.blt_eq] at hlt
              split at he
              · cases he
              · rename_i fr' hp
                exact .inr (.inl ⟨rfl, k, ob, fr', hw, hN, hlt, hp, he⟩)
          · split at he
            · cases he
            · rename_i v h' hv
              split at he
              · cases he
              · rename_i fr' hp
                cases hk : (List.range ops.size).all (fun j => Nat.beq j i || memN j done || !(depsAt ops j).all (memN · done)) && ((cand.filter fun p => !memN p (anc ops done (depsOf o))).all (fun p => memA p (al.filter fun e => !memN e.1 (anc ops done (depsOf o))) || chk1 ty ops fr' h' p)) with
                | false => rw [hk] at he; cases he
                | true =>
                  rw [hk] at he
                  rw [Bool.and_eq_true] at hk
                  refine .inr (.inr ⟨v, h', fr', hw, hv, hp, fun j hj hne hnd hall => ?_, hk.2, he⟩)
                  have := List.all_eq_true.1 hk.1 j (List.mem_range.2 hj)
                  simp only [Bool.or_eq_true, Bool.not_eq_true', Tr.beq_iff, decide_eq_true_iff, memN_iff] at this
                  rcases this with (h5 | h5) | h5
                  · exact hne h5
                  · exact hnd h5
                  · rw [allmem.2 hall] at h5; cases h5
theorem runD_cover : ∀ (rest done cand : List Nat) (al : List (Nat × Nat × Ob)) (fr : Fr) (h : Hp) (r : Fr × Hp), runD ty opE nt ops rest done cand al fr h = some r → Topo ops done → (∀ i ∈ done, i < ops.size) →
    ∃ D, Topo ops D ∧ (∀ i ∈ D, i < ops.size) ∧ (∀ j, j < ops.size → j ∈ D)
  | [], done, cand, al, fr, h, r, he, hT, hR => by
    rw [runD] at he
    cases hc : (List.range ops.size).all (memN · done) with
    | false => rw [hc] at he; cases he
    | true => exact ⟨done, hT, hR, fun j hj => allmem.1 hc j (List.mem_range.2 hj)⟩
  | i :: rest, done, cand, al, fr, h, r, he, hT, hR => by
    obtain ⟨o, ho, h1, h2, h3⟩ := runD_cons he
    have hT' : Topo ops (i :: done) := ⟨by rw [depsAt_some ho]; exact h2, hT⟩
    have hR' : ∀ k ∈ i :: done, k < ops.size := fun k hk => by
      rcases List.mem_cons.1 hk with rfl | hk
      · exact (Array.getElem?_eq_some_iff.1 ho).1
      · exact hR k hk
    rcases h3 with ⟨_, v, fr', _, _, h4⟩ | ⟨_, k, ob, fr', _, _, _, _, h4⟩ | ⟨v, h', fr', _, _, _, _, _, h4⟩
    · exact runD_cover rest _ _ _ _ _ r h4 hT' hR'
    · exact runD_cover rest _ _ _ _ _ r h4 hT' hR'
    · exact runD_cover rest _ _ _ _ _ r h4 hT' hR'
variable {R0 : Rn} {done cand : List Nat} {al : List (Nat × Nat × Ob)} {fr : Fr} {h : Hp} {R : Rn} {listed : Array Bool} {a : Act} {w : World}
/-- where none is ready all are done -/
theorem simD_end {rest : List Nat} {frF : Fr} {hF : Hp} {Q : Exit → Act → World → Prop} (he : runD ty opE nt ops rest done cand al fr h = some (frF, hF)) (I : Inv ty sz w0 Φ ops rd nt R0 done cand al fr h R listed a w) (h0 : Region.ready .any ops listed = [])
    (hQ : ∀ R' w' a', Ext R0 R' → HR sz w0 Φ R' w' hF → FR R' rd nt frF a' → Q .normal a' w') : Q .normal a w := by
  obtain ⟨D, hT, hD, hall⟩ := runD_cover _ _ _ _ _ _ _ he I.topo I.rng
  have hl := all_listed hT hD I.size h0
  cases rest with
  | cons i rest =>
    obtain ⟨o, ho, h1, _⟩ := runD_cons he
    exact absurd (I.sub i (hl i (hall i (Array.getElem?_eq_some_iff.1 ho).1))) h1
  | nil =>
    rw [runD] at he
    cases hc : (List.range ops.size).all (memN · done) with
    | false => rw [hc] at he; cases he
    | true =>
      rw [hc] at he
      cases he
      have li : ∀ {p x : Nat} {ob : Ob}, (p, x, ob) ∈ al → listed.getD p false = true := fun hm => hl _ (hall _ (I.rng _ (I.alp _ _ _ hm).1))
      obtain ⟨hH, _, _⟩ := commit_is al h I.nd I.hr (fun p x ob hm => I.all p x ob hm (li hm)) fun p x ob q y ob' hm hm2 hne => I.alr p x ob q y ob' hm hm2 (li hm) (li hm2) hne
      refine hQ R w a I.e0 hH ⟨I.tm.1, I.tm.2.1, I.tm.2.2, fun t v hv => I.st t v hv fun p hp hlp => ?_⟩
      rw [hl p (hall p (I.rng p hp))] at hlp
      cases hlp
theorem notSel_Q {o : Oper} {v : Value} (h : operQ ty fr h o = some v) : ∀ cs c, o.op ≠ .select cs c := fun cs c e => by
  unfold operQ at h
  rw [e] at h
  cases h
theorem nd_N {o : Oper} {p : NV × Ob} (h : operN ty fr o = some p) : ∀ c, o.op ≠ .defer c := fun c e => by
  unfold operN at h
  rw [e] at h
  cases h
theorem pendStep (T : TyOK P ty) (I : Inv ty sz w0 Φ ops rd nt R0 done cand al fr h R listed a w) (hst : statB nt ops = true) {j : Nat} (hj : j ∈ Region.ready .any ops listed) (hd : j ∈ done) {Q : Exit → Act → World → Prop} {K : Act → World → Prop}
    (hK : ∀ R' a' w', Inv ty sz w0 Φ ops rd nt R0 done cand al fr h R' (listed.setIfInBounds j true) a' w' → K a' w') : wpOpIn (FW rd) 0 P ops Q j K a w := by
  have hpend := I.pend j hd (getD_bools (ready_iff.1 hj).1).2
  by_cases hal : ∃ x ob, (j, x, ob) ∈ al
  · obtain ⟨x, ob, hmem⟩ := hal
    obtain ⟨_, _, _, hPn⟩ := I.alp j x ob hmem
    obtain ⟨o, k, ho, hw, hN, hdst⟩ := hPn (getD_bools (ready_iff.1 hj).1).2
    obtain ⟨hF, hag⟩ := I.look hst ho hj
    unfold wpOpIn
    simp only [ho]
    rw [wantd_congr hag] at hw
    rw [operN_congr (opnd hag)] at hN
    rw [wantd_is hF hw, if_pos rfl]
    obtain ⟨hk, o', hrun, hor⟩ := operN_is (P := P) (w := w) T hN hF
    exact wp_val (nd_N hN) hrun (hK _ _ _ (I.finN ho hj hd hmem hk hdst hor))
  · have hna : ∀ x ob, (j, x, ob) ∉ al := fun x ob hm => hal ⟨x, ob, hm⟩
    rcases I.chk j hpend with hc | ⟨o, v, ho, hv, hdst⟩
    · exact absurd hc hal
    · obtain ⟨hF, hag⟩ := I.look hst ho hj
      unfold wpOpIn
      simp only [ho]
      rw [wantd_congr hag, operQ_congr (opnd hag)] at hv
      rcases hv with ⟨h1, h2⟩ | ⟨h1, rfl⟩
      · rw [wantd_is hF h1, if_pos rfl]
        obtain ⟨v', h3, h4⟩ := operQ_is T h2 I.hr hF
        exact wp_val (nd_Q h2) h4 (hK _ _ _ (I.fin ho hj hd hna hdst h3))
      · rw [wantd_is hF h1, if_neg Bool.false_ne_true]
        exact ⟨fun _ _ => trivial, hK _ _ _ (I.fin ho hj hd hna hdst VR.undef)⟩
theorem simD (T : TyOK P ty) (hS : SzOK ty sz) {call : CallF} (hcall : CallS P sz call) (hst : statB nt ops = true) {frF : Fr} {hF : Hp} {Q : Exit → Act → World → Prop} (hQ : ∀ R' w' a', Ext R0 R' → HR sz w0 Φ R' w' hF → FR R' rd nt frF a' → Q .normal a' w') :
    ∀ (fuel : Nat) (rest done cand : List Nat) (al : List (Nat × Nat × Ob)) (fr : Fr) (h : Hp) (R : Rn) (listed : Array Bool) (a : Act) (w : World), runD ty (oper ty call) nt ops rest done cand al fr h = some (frF, hF) → Inv ty sz w0 Φ ops rd nt R0 done cand al fr h R listed a w →
      cnt ops listed ≤ fuel → wpAnyIn (FW rd) 0 P .any ops Q fuel listed a w := by
  intro fuel
  induction fuel with
  | zero =>
    intro rest done cand al fr h R listed a w he I hc
    have h0 : Region.ready .any ops listed = [] := by
      rw [List.eq_nil_iff_forall_not_mem]
      intro j hj
      have h1 := (ready_iff.1 hj).1
      have := cnt_lt (ops := ops) (by have := (getD_bools h1).1; rw [I.size] at this; exact this) h1
      omega
    exact ⟨h0, simD_end he I h0 hQ⟩
  | succ fuel ih =>
    intro rest
    induction rest with
    | nil =>
      intro done cand al fr h R listed a w he I hc
      refine ⟨fun h0 => simD_end he I h0 hQ, fun j hj => ?_⟩
      have h1 := (ready_iff.1 hj).1
      have hjs : j < ops.size := by have := (getD_bools h1).1; rw [I.size] at this; exact this
      have hall : ∀ k, k < ops.size → k ∈ done := by
        have he' := he
        rw [runD] at he'
        cases hc2 : (List.range ops.size).all (memN · done) with
        | false => rw [hc2] at he'; cases he'
        | true => exact fun k hk => allmem.1 hc2 k (List.mem_range.2 hk)
      exact pendStep T I hst hj (hall j hjs) fun R' a' w' I' => ih [] done cand al fr h R' _ a' w' he I' (by have := cnt_lt hjs h1; omega)
    | cons i rest ihr =>
      intro done cand al fr h R listed a w he I hc
      obtain ⟨o, ho, hi, hdp, h3⟩ := runD_cons he
      rcases h3 with ⟨hna, v, fr', hv, hp, h4⟩ | ⟨hna, k, ob, fr', hw, hN, hlt, hp, h4⟩ | ⟨v, h', fr', hw, hE, hp, hon, hck, h4⟩
      · exact ihr _ _ _ fr' h R listed a w h4 (I.take hst hna ho hi hdp hv hp) hc
      · exact ihr _ _ _ fr' _ _ listed a w h4 (I.takeN hst hna ho hi hdp hw hN hlt hp) hc
      · refine ⟨fun h0 => simD_end he I h0 hQ, fun j hj => ?_⟩
        have h1 := (ready_iff.1 hj).1
        have hjs : j < ops.size := by have := (getD_bools h1).1; rw [I.size] at this; exact this
        by_cases hjd : j ∈ done
        · exact pendStep T I hst hj hjd fun R' a' w' I' => ih (i :: rest) done cand al fr h R' _ a' w' he I' (by have := cnt_lt hjs h1; omega)
        · have hji : j = i := Classical.byContradiction fun hne => by
            obtain ⟨_, o', ho', hdl⟩ := ready_iff.1 hj
            exact hon j hjs hne hjd fun x hx => I.sub x (hdl x (by rwa [depsAt_some ho'] at hx))
          subst hji
          obtain ⟨hF', hag⟩ := I.look hst ho hj
          unfold wpOpIn
          simp only [ho]
          have hw' := hw
          rw [wantd_congr hag] at hw'
          have hE' := hE
          unfold oper at hE'
          rw [operQ_congr (opnd hag), operE_congr (opnd hag)] at hE'
          rw [wantd_is hF' hw', if_pos rfl]
          obtain ⟨hHn, hgo⟩ := I.eff hst ho hj hi hdp
          exact oper_is T hS call hcall w _ _ _ o v h' hE' R w rd nt a _ _ hHn hF' fun R' w' v' he' hh' hv' => ih rest _ _ _ fr' h' R' _ _ w' h4 (hgo hp he' hh' hv' hck) (by have := cnt_lt hjs h1; omega)
/-- a region that draws -/
def drawn (ty : Ty) (opE : Fr → Hp → Oper → Option (Value × Hp)) (nt : Nat) (ops : Array Oper) (fr : Fr) (h : Hp) : Option (Fr × Hp) :=
  bif statB nt ops then runD ty opE nt ops (ordG ops ops.size []) [] [] [] fr h else none
theorem drawn_is (T : TyOK P ty) (hS : SzOK ty sz) {call : CallF} (hcall : CallS P sz call) (hm : P.follows .mixedOrders = true) : DrS P sz (fun nt ops fr h => drawn ty (oper ty call) nt ops fr h) := by
  intro w0 Φ nt ops fr h frF hF he id R rd w a Q hh hf hQ
  dsimp only at he
  unfold drawn at he
  cases hst : statB nt ops with
  | false => rw [hst] at he; cases he
  | true =>
    rw [hst] at he
    refine wpIn_region_any hm ?_
    have hh' : HR sz w0 Φ R { w with drawn := w.drawn + 1 } h := hh.on ⟨rfl, rfl, rfl, Nat.le_refl _, fun _ _ => rfl⟩ fun _ _ _ => rfl
    have hg : ∀ j, (Array.replicate ops.size false).getD j false = false := fun j => by simp [Array.getElem?_replicate]; split <;> rfl
    refine simD (R0 := R) T hS hcall hst hQ ops.size _ [] [] [] fr h R _ a _ he ?_ ?_
    · constructor
      case size => simp
      case sub => intro j hj; rw [hg] at hj; cases hj
      case clo => intro j hj; rw [hg] at hj; cases hj
      case pend => intro p hp; cases hp
      case hr => exact hh'
      case e0 => exact .refl R
      case cd => intro p hp; cases hp
      case chk => intro p hp; cases hp
      case na => intro p hp; cases hp
      case alp => intro p x ob hm; cases hm
      case alu => intro p x ob hm; cases hm
      case all => intro p x ob hm; cases hm
      case alf => intro p x ob y ob' hm; cases hm
      case aln => intro p x ob q ob' hm; cases hm
      case alr => intro p x ob q y ob' hm; cases hm
      case nd => exact List.nodup_nil
      case topo => trivial
      case rng => intro p hp; cases hp
      case db => intro p hp; cases hp
      case tm => exact ⟨hf.1, hf.2.1, hf.2.2.1⟩
      case st => exact fun t v hv _ => hf.2.2.2 t v hv
    · unfold cnt
      exact Nat.le_trans List.countP_le_length (by simp)
end
end Go.Ev
noncomputable section
namespace Go.Ev
open Go.RowKit
set_option linter.unusedVariables false
set_option linter.unusedSimpArgs false
def one (ty : Ty) (fr : Fr) (h : Hp) : ResultVar → Option Value
  | .tmp t => fr.get t
  | .cell a t => match fr.get a with
    | some v => o_load ty h t v
    | none => none
def isT : Value → Bool
  | .tuple _ => true
  | _ => false
def ones (ty : Ty) (fr : Fr) (h : Hp) : List ResultVar → Option (List Value)
  | [] => some []
  | r :: l => match one ty fr h r, ones ty fr h l with
    | some v, some vs => bif isT v then none else some (v :: vs)
    | _, _ => none
def resE (ty : Ty) (fn : Func) (fr : Fr) (h : Hp) : Option Value :=
  match ones ty fr h fn.results.toList with
  | some [v] => some v
  | some vs => some (.tuple vs.toArray)
  | none => none
section
variable {P : Program} {ty : Ty} {sz : Nat → Nat} {w0 : World} {Φ : Fx} {R : Rn} {w : World} {h : Hp}
def oneS (tmps : Array Value) : ResultVar → Sem Value
  | .tmp t => pure (tmps.getD t undef)
  | .cell a t => do loadVar t (← asAddr (tmps.getD a undef))
theorem VR.notT {v v' : Value} (hv : VR R v v') (h : isT v = false) : VR0 R v v' := by
  rcases hv with hv | ⟨vs, vs', rfl, rfl, _⟩
  · exact hv
  · cases h
theorem one_is (T : TyOK P ty) (hh : HR sz w0 Φ R w h) {rd : Option Nat} {nt : Nat} {fr : Fr} {a : Act} (hf : FR R rd nt fr a) {r : ResultVar} {v : Value} (ho : one ty fr h r = some v) : ∃ v', VR R v v' ∧ (oneS a.tmps r).run P w = .ok v' w := by
  cases r with
  | tmp t =>
    obtain ⟨v', h1, h2⟩ := hf.2.2.2 t v ho
    exact ⟨v', h2, by simp [oneS, h1]⟩
  | cell c t =>
    unfold one at ho
    dsimp only at ho
    split at ho
    · rename_i p hp
      obtain ⟨p', h1, h2⟩ := hf.2.2.2 c p hp
      obtain ⟨v', h3, h4⟩ := o_load_run (P := P) T hh h2 ho
      refine ⟨v', h3, ?_⟩
      have hpp : ∃ ad, p = .pointer (some ad) := by
        unfold o_load at ho
        split at ho
        · exact ⟨_, rfl⟩
        · cases ho
      obtain ⟨ad, rfl⟩ := hpp
      rw [h2.ptr.1] at h1 h4
      simp [Instr.loadAt, Instr.sureAddr] at h4
      simp [oneS, h1, asAddr, h4]
    · cases ho
theorem ones_is (T : TyOK P ty) (hh : HR sz w0 Φ R w h) {rd : Option Nat} {nt : Nat} {fr : Fr} {a : Act} (hf : FR R rd nt fr a) : ∀ (l : List ResultVar) (vs : List Value), ones ty fr h l = some vs → ∃ vs', A2 (VR0 R) vs vs' ∧ (l.mapM (oneS a.tmps)).run P w = .ok vs' w
  | [], vs, ho => by cases ho; exact ⟨[], ⟨rfl, fun i v hv => by cases hv⟩, rfl⟩
  | r :: l, vs, ho => by
    unfold ones at ho
    split at ho
    · rename_i v us hv hl
      cases ht : isT v with
      | true => rw [ht] at ho; cases ho
      | false =>
        rw [ht] at ho
        cases ho
        obtain ⟨v', h1, h2⟩ := one_is (P := P) T hh hf hv
        obtain ⟨us', h3, h4⟩ := ones_is T hh hf l us hl
        refine ⟨v' :: us', ⟨by simp [h3.1], fun i x hx => ?_⟩, by simp [List.mapM_cons, h2, h4]⟩
        cases i with
        | zero => cases hx; exact ⟨v', rfl, h1.notT ht⟩
        | succ i => exact h3.2 i x hx
    · cases ho
theorem resE_is (T : TyOK P ty) : ResS P sz (resE ty) := by
  intro w0 Φ fn fr h v ho R w rd nt a hh hf
  unfold resE at ho
  have run : ∀ vs, ones ty fr h fn.results.toList = some vs → ∃ vs', A2 (VR0 R) vs vs' ∧ (results fn a.tmps).run P w = .ok (if h : vs'.toArray.size = 1 then vs'.toArray[0] else .tuple vs'.toArray) w := fun vs hv => by
    obtain ⟨vs', h1, h2⟩ := ones_is (P := P) T hh hf _ _ hv
    refine ⟨vs', h1, ?_⟩
    have e : results fn a.tmps = (do let vs ← fn.results.mapM (oneS a.tmps); pure (if h : vs.size = 1 then vs[0] else .tuple vs)) := by
      unfold results
      congr 1
    rw [e, Array.mapM_eq_mapM_toList]
    simp [h2]
  split at ho
  · rename_i u hu
    cases ho
    obtain ⟨vs', h1, h2⟩ := run _ hu
    obtain ⟨v', h3, h4⟩ := list1 h1
    subst h3
    exact ⟨v', h2, .inl h4⟩
  · rename_i vs hne hu
    cases ho
    obtain ⟨vs', h1, h2⟩ := run _ hu
    have hl : vs'.toArray.size ≠ 1 := fun e => by
      have e2 : vs.length = 1 := by rw [h1.1]; simpa using e
      match vs, e2 with
      | [x], _ => exact hne x rfl
    rw [dif_neg hl] at h2
    exact ⟨_, h2, .inr ⟨_, _, rfl, rfl, h1⟩⟩
  · cases ho

/-- a range of which two entries are left or more -/
def nextL (fr : Fr) (h : Hp) (o : Oper) : Option (List (Value × Hp)) := match o.op with
  | .next x b => match ev1 fr x with
    | some i => bif b then none else o_nextL h i
    | none => none
  | _ => none
def operL (ty : Ty) (call : CallF) : OpL := fun fr h o => match oper ty call fr h o with
  | some p => some [p]
  | none => nextL fr h o
theorem operL_is (T : TyOK P ty) (hS : SzOK ty sz) (call : CallF) (hcall : CallS P sz call) : OpSL P sz (operL ty call) := by
  intro w0 Φ fr h o L he R w rd nt a K Q hh hf hK
  unfold operL at he
  cases ho : oper ty call fr h o with
  | some p =>
    rw [ho] at he
    cases he
    exact oper_is T hS call hcall w0 Φ fr h o p.1 p.2 ho R w rd nt a K Q hh hf fun R' w' v' x1 x2 x3 => hK p (List.mem_singleton_self _) R' w' v' x1 x2 x3
  | none =>
    rw [ho] at he
    dsimp only at he
    unfold nextL at he
    split at he
    · rename_i x b hop
      split at he
      · rename_i i hi
        cases b with
        | true => cases he
        | false =>
          dsimp only [cond_false] at he
          obtain ⟨u', h2, h3⟩ := ev1_is hf hi
          obtain ⟨p, hp, R', w', v', x1, x2, x3, x4⟩ := o_nextL_is (P := P) (t := o.type) hh h3 he
          exact wp_val (fun c e => by rw [hop] at e; cases e) (by
            have e : execOp a.eval o = (do pure (Next.value (← Instr.next u' false o.type))) := by unfold execOp; rw [hop]; dsimp only; rw [h2]
            rw [e]
            exact run_v x4) (hK p hp R' w' v' x1 x2 x3)
      · cases he
    · cases he

/-- a function's run by the tables -/
def evF (ty : Ty) (ex : Nat → List Value → Option Value) (fns : Tr Func) : Nat → Nat → Code → Fr → Hp → Outs :=
  ev fns (fun call => operL ty (callX ex call)) (fun call nt ops fr h => drawn ty (oper ty (callX ex call)) nt ops fr h) (resE ty)
def runF (ty : Ty) (ex : Nat → List Value → Option Value) (fns : Tr Func) (n f : Nat) (args : List Value) (h : Hp) : Option (Value × Hp) := callB fns (resE ty) (evF ty ex fns n) (.fn f) args h
theorem runF_is {fns : Tr Func} {ex : Nat → List Value → Option Value} (T : TyOK P ty) (F : FnOK P fns) (X : ExOK P ex) (hm : P.follows .mixedOrders = true) (hS : SzOK ty sz) (n : Nat) : CallS P sz (callB fns (resE ty) (evF ty ex fns n)) :=
  callB_is F (resE_is T) (ev_is F (resE_is T) (fun call hc => operL_is T hS _ (callX_is X hc)) (fun call hc => drawn_is T hS (callX_is X hc) hm) n).1
def noX : Nat → List Value → Option Value := fun _ _ => none
theorem noX_is (P : Program) : ExOK P noX := fun f args v h => by cases h
def R0 : Rn := ⟨fun _ => 0, fun _ => 0, fun _ => False, 0⟩
/-- the tables lie there -/
def TabIs (tab : Tr (List Value)) (w : World) : Prop := ∀ g l, tab.get g = some l → ∃ cur e z, w.heap[g]? = some (.cells cur e z) ∧ A2 (SR R0) l cur.toList
theorem TabIs.none (w : World) : TabIs .lf w := fun g l h => by rw [Tr.get_lf] at h; cases h
theorem HR.init (sz : Nat → Nat) (w : World) (tab : Tr (List Value)) (ht : TabIs tab w) : HR sz w ⟨fun k => k < w.heap.size, tab⟩ R0 w ⟨.lf, 0, tab⟩ :=
  ⟨rfl, by decide, Stay.refl _ _, fun _ hk => hk, fun i hi => hi.elim, fun i b hb => (by rw [Tr.get_lf] at hb; cases hb), fun i j b c hb => (by rw [Tr.get_lf] at hb; cases hb), rfl, fun g l hl => by
    obtain ⟨cur, e, z, h1, h2⟩ := ht g l hl
    exact ⟨(Array.getElem?_eq_some_iff.1 h1).1, cur, e, z, h1, h2⟩⟩
/-- **What a closed call of plain values answers, it answers in every world in which the tables lie, and nothing that was there is changed.** -/
theorem runF_lit {fns : Tr Func} {ex : Nat → List Value → Option Value} (T : TyOK P ty) (F : FnOK P fns) (X : ExOK P ex) (hm : P.follows .mixedOrders = true) {tab : Tr (List Value)} {n f : Nat} {args : List Value} {v : Value} {h' : Hp} (ha : args.all lit = true) (hr : runF ty ex fns n f args ⟨.lf, 0, tab⟩ = some (v, h')) (hv : lit v = true) (hn : v ≠ .slice none 0 0)
    (w : World) (ht : TabIs tab w) {W : Ending → World → Prop} (hW : ∀ w', Below w.heap.size w w' → W (.returned v) w') : Calls P f args.toArray w W := by
  have hS : SzOK ty (fun e => match ty.get e with | some i => i.size | none => 0) := fun e i he => by dsimp only; rw [he]
  have hA : A2 (VR R0) args args.toArray.toList := ⟨by simp, fun i x hx => ⟨x, by simpa using hx, .lit (List.all_eq_true.1 ha x (List.mem_of_getElem? hx))⟩⟩
  exact (runF_is T F X hm hS n w ⟨fun k => k < w.heap.size, tab⟩ (.fn f) args _ v h' hr R0 w args.toArray W (HR.init _ w tab ht) hA fun R' w' v' e hh hv' => by
    rw [hv'.of_lit hv hn]
    exact hW w' ⟨hh.bel.os, hh.bel.tape, hh.bel.output, hh.bel.size, hh.bel.block⟩).2
end
end Go.Ev
