/- The evaluator's append. -/
import Derived.Test.YtlchefdddgbohaaDoorEvS
import Derived.Deep.DeepAppendWide
import Derived.Laws.OwnMore
noncomputable section
namespace Go.Ev
open Go.RowKit
set_option linter.unusedVariables false
set_option linter.unusedSimpArgs false
section
variable {P : Program}
theorem app_where (w : World) (base : Nat) (t ty e : TypeId) (i : TypeInfo) (z : Value) (ht : P.underlying t = some (.slice e)) (hi : P.info? e = some i) (hz : i.zero = some z)
    (v : Value) (n : Nat) (xs : List Value) (hown : w.ownsRow base e i.size v n xs)
    (a : Addr) (m c : Nat) (news : List Value) (hl : news.length = m * i.size) (hnews : ∀ j u, news[j]? = some u → w.cell? (a.add j) = some u) (h1 : ∀ u ∈ news, u.oneCell' = true)
    (h63 : n + m ≤ maxLen) (hbytes : ((n + m) + (n + m) / 4 + 192) * i.bytes ≤ 281474976710656) (hm : 0 < m) {v' : Value} {w' : World}
    (hr : (Builtin.append_ #[t, t] ty #[v, .slice (some a) m c]).run P w = .ok v' w') : v'.ownBlock = v.ownBlock ∨ v'.ownBlock = some w.heap.size := by
  have hsmall : n + m ≤ 9223372036854775807 := by simp only [maxLen] at h63; omega
  rcases hown.2 with ⟨rfl, rfl⟩ | ⟨g, cap, cur, rfl, hbg, hg, hnc, hcm, hcs, htake⟩
  · rw [run_append_nil (P := P) w t ty e i z ht hi hz a m c news hl hnews hm (by omega) (Nat.le_trans (Nat.mul_le_mul_right _ (by omega)) hbytes)] at hr
    cases hr
    exact .inr rfl
  · by_cases hroom : n + m ≤ cap
    · rw [run_append_room (P := P) w t ty e i ht hi g n cap cur hg a m c news hl hnews h1 hroom (by rw [hl, hcs, ← Nat.add_mul]; exact Nat.mul_le_mul_right _ hroom)] at hr
      cases hr
      exact .inl rfl
    · rw [run_append_grow (P := P) w t ty e i z ht hi hz ⟨g, 0, none⟩ n cap xs hown.1 (hown.cells (g := g) rfl) a m c news hl hnews (by omega) (by omega) (growslice_fits_wide (by omega) hbytes)] at hr
      cases hr
      exact .inr rfl
end
/-- the sizes of the types -/
def SzOK (ty : Ty) (sz : Nat → Nat) : Prop := ∀ e i, ty.get e = some i → sz e = i.size
/-- what the list appended to holds: its cells, and the heap without it -/
def appOld (h : Hp) (e s : Nat) (bx : Option Addr) (n cx : Nat) : Option (List Value × Hp) :=
  match bx with
  | none => bif Nat.beq n 0 && Nat.beq cx 0 then some ([], h) else none
  | some a => bif Nat.beq a.off 0 then match h.heap.get a.block with
      | some (.row b) => let old := b.cells.take (n * s)
        bif Nat.beq b.elem e && Nat.beq old.length (n * s) && (bif Nat.beq cx many then b.grow else (!b.grow && Nat.beq b.cells.length (cx * s) && Nat.ble n cx && Nat.ble cx 1000000)) then some (old, ⟨h.heap.del a.block, h.next, h.tab⟩) else none
      | _ => none
    else none
def o_append (ty : Ty) (h : Hp) (t : Nat) (x y : Value) : Option (Value × Hp) :=
  match desc ty t, x, y with
  | some (.slice e), .slice bx n cx, .slice by_ m cy => bif Nat.beq m 0 then (bif Nat.ble n cx && (ty.get e).isSome then some (x, h) else none) else
    match ty.get e, by_ with
    | some i, some a2 => match i.zero with
      | some z => bif Nat.beq z.cells.toList.length i.size && Nat.blt 0 i.size && Nat.ble (n + m) 1000000 && Nat.ble (((n + m) + (n + m) / 4 + 192) * i.bytes) 281474976710656 then
          match ldA h a2 (m * i.size) with
          | some news => match appOld h e i.size bx n cx with
            | some (old, h1) => match newA h1 (.row ⟨old ++ news, e, true⟩) with
              | some (k, h2) => some (.slice (some ⟨k, 0, none⟩) (n + m) many, h2)
              | none => none
            | none => none
          | none => none
        else none
      | none => none
    | _, _ => none
  | _, _, _ => none
section
variable {P : Program} {ty : Ty} {sz : Nat → Nat} {w0 : World} {Φ : Fx} {R : Rn} {w : World} {h : Hp}
theorem appOld_is (hS : SzOK ty sz) (hh : HR sz w0 Φ R w h) {e : Nat} {i : TypeInfo} (hi : ty.get e = some i) {bx : Option Addr} {n cx : Nat} {x' : Value} (hx : VR R (.slice bx n cx) x') {old : List Value} {h1 : Hp}
    (ho : appOld h e i.size bx n cx = some (old, h1)) :
    ∃ old', A2 (SR R) old old' ∧ w.ownsRow 0 e i.size x' n old' ∧ (∀ k, x'.ownBlock = some k → ¬ Φ k) ∧ HR sz w0 Φ R w h1 ∧ (∀ k c, h1.heap.get k = some c → some (R.ρ k) ≠ x'.ownBlock) := by
  unfold appOld at ho
  cases bx with
  | none =>
    dsimp only at ho
    cases hn : Nat.beq n 0 && Nat.beq cx 0 with
    | false => rw [hn] at ho; cases ho
    | true =>
      rw [hn] at ho
      cases ho
      rw [Bool.and_eq_true] at hn
      have e1 := Nat.eq_of_beq_eq_true hn.1
      have e2 := Nat.eq_of_beq_eq_true hn.2
      subst e1
      subst e2
      have e3 : x' = .slice none 0 0 := by
        rcases hx with (hx | ⟨_, _, hx, _⟩) | ⟨_, _, hx, _⟩
        · cases hx; rfl
        · cases hx
        · cases hx
      subst e3
      exact ⟨[], ⟨rfl, fun i v hv => by cases hv⟩, ⟨by simp, .inl ⟨rfl, rfl⟩⟩, fun k hk => (by cases hk), hh, fun k c _ hk => by cases hk⟩
  | some a =>
    dsimp only at ho
    cases hn : Nat.beq a.off 0 with
    | false => rw [hn] at ho; cases ho
    | true =>
      rw [hn] at ho
      dsimp only [cond_true] at ho
      have e2 := Nat.eq_of_beq_eq_true hn
      split at ho
      case h_2 => cases ho
      case h_1 b hb =>
        cases hg : Nat.beq b.elem e && Nat.beq (b.cells.take (n * i.size)).length (n * i.size) && (bif Nat.beq cx many then b.grow else (!b.grow && Nat.beq b.cells.length (cx * i.size) && Nat.ble n cx && Nat.ble cx 1000000)) with
        | false => rw [hg] at ho; cases ho
        | true =>
          rw [hg] at ho
          cases ho
          rw [Bool.and_eq_true, Bool.and_eq_true] at hg
          obtain ⟨⟨hg2, hg3⟩, hg1⟩ := hg
          have hel := Nat.eq_of_beq_eq_true hg2
          have hlen := Nat.eq_of_beq_eq_true hg3
          obtain ⟨hN, hlo, cur, hc, hcs, hng, hgr⟩ := hh.row hb
          have hm : many = 36893488147419103232 := rfl
          have hsl : ∃ c', x' = .slice (some (ra R a)) n c' ∧ n ≤ c' ∧ c' ≤ maxLen ∧ cur.size = c' * i.size := by
            rcases hx with (hx | ⟨_, _, hx, _⟩) | ⟨_, _, hx, _⟩
            · cases hx with
              | lit _ hl => cases hl
              | sl _ _ _ h0 hbN hcm =>
                have hne : Nat.beq cx many = false := by rw [Tr.beq_iff]; exact decide_eq_false (by omega)
                rw [hne] at hg1
                simp only [cond_false, Bool.and_eq_true, Nat.ble_eq, Bool.not_eq_true'] at hg1
                obtain ⟨⟨⟨k1, k2⟩, k3⟩, k4⟩ := hg1
                exact ⟨cx, rfl, k3, by unfold maxLen; omega, by rw [hng k1]; exact Nat.eq_of_beq_eq_true k2⟩
              | slg _ _ c' h0 hbN hbm hnc hk =>
                have hne : Nat.beq many many = true := by rw [Tr.beq_iff]; exact decide_eq_true rfl
                rw [hne] at hg1
                obtain ⟨hk1, hk2⟩ := hgr hg1
                have := hk e2
                subst this
                exact ⟨_, rfl, hnc, hk1, by rw [hk2, hel, hS e i hi]⟩
              | sle a' c' => exact absurd (hh.small_of hN) (Nat.lt_irrefl _)
            · cases hx
            · cases hx
          obtain ⟨c', rfl, hnc, hk1, hk2⟩ := hsl
          have hcl : n * i.size ≤ cur.size := by rw [hk2]; exact Nat.mul_le_mul_right _ hnc
          refine ⟨cur.toList.take (n * i.size), ⟨by simp at hlen ⊢; omega, fun j v hv => ?_⟩, ⟨by simp; omega, .inr ⟨R.ρ a.block, c', cur, ?_, Nat.zero_le _, by rw [← hel]; exact hc, hnc, hk1, hk2, rfl⟩⟩, fun k hk => (by cases hk; rw [show (ra R a).block = R.ρ a.block from rb_of hh hN]; exact hlo), hh.del a.block, fun k c hk hkb => ?_⟩
          · have hj : j < n * i.size := by have := (List.getElem?_eq_some_iff.1 hv).1; omega
            rw [List.getElem?_take, if_pos hj] at hv ⊢
            rw [Array.getElem?_toList]
            exact hcs j v hv
          · unfold ra
            rw [e2, rb_of hh hN]
          · dsimp only at hk
            rw [Tr.get_del] at hk
            by_cases e : k = a.block
            · rw [if_pos e] at hk; cases hk
            · rw [if_neg e] at hk
              exact e (hh.inj k a.block c _ hk hb ((Option.some.inj hkb).trans (rb_of hh hN)))
theorem o_append_is (T : TyOK P ty) (hS : SzOK ty sz) (hh : HR sz w0 Φ R w h) {t u : Nat} {x y x' y' v : Value} {h' : Hp} (hx : VR R x x') (hy : VR R y y') (ho : o_append ty h t x y = some (v, h')) :
    Ok P sz w0 Φ R w h' v (Builtin.append_ #[t, t] u #[x', y']) := by
  unfold o_append at ho
  split at ho
  · rename_i e bx n cx by_ m cy hd
    have hu := desc_is T hd
    cases hm : Nat.beq m 0 with
    | true => 
      rw [hm] at ho
      dsimp only [cond_true] at ho
      cases hc : Nat.ble n cx && (ty.get e).isSome with
      | false => rw [hc] at ho; cases ho
      | true =>
        rw [hc] at ho
        cases ho
        rw [Bool.and_eq_true] at hc
        have hle := Nat.le_of_ble_eq_true hc.1
        obtain ⟨i, hi⟩ := Option.isSome_iff_exists.1 hc.2
        have hinf := T.ty e i hi
        have hm0 := Nat.eq_of_beq_eq_true hm
        subst hm0
        obtain ⟨b2, c2, rfl, _⟩ := hy.slice
        have hx2 : ∃ b1 c1, x' = .slice b1 n c1 ∧ n ≤ c1 := by
          rcases hx with (hx | ⟨_, _, hx, _⟩) | ⟨_, _, hx, _⟩
          · cases hx with
            | lit _ hl => exact ⟨_, _, rfl, hle⟩
            | sl _ _ _ _ _ _ => exact ⟨_, _, rfl, hle⟩
            | slg _ _ c' _ _ _ hnc _ => exact ⟨_, _, rfl, hnc⟩
            | sle a' c' => exact ⟨_, _, rfl, Nat.zero_le _⟩
          · cases hx
          · cases hx
        obtain ⟨b1, c1, rfl, hle1⟩ := hx2
        refine .same hh hx ?_
        cases b1 <;> cases b2 <;> simp [Builtin.append_, run_underlying hu, sizeOf, typeInfo, hinf, Builtin.lenOf, Builtin.firstCells, loadCells, loadCellsFrom, storeCells, hle1]
    | false =>
      rw [hm] at ho
      dsimp only [cond_false] at ho
      have hm0 : m ≠ 0 := Nat.ne_of_beq_eq_false hm
      split at ho
      · rename_i i a2 hi
        have hinf := T.ty e i hi
        split at ho
        · rename_i z hz
          cases hc : Nat.beq z.cells.toList.length i.size && Nat.blt 0 i.size && Nat.ble (n + m) 1000000 && Nat.ble (((n + m) + (n + m) / 4 + 192) * i.bytes) 281474976710656 with
          | false => rw [hc] at ho; cases ho
          | true =>
            rw [hc] at ho
            dsimp only [cond_true] at ho
            simp only [Bool.and_eq_true, Nat.ble_eq, Nat.blt_eq] at hc
            obtain ⟨⟨⟨hc1, hc2⟩, hc3⟩, hc4⟩ := hc
            have hzs : z.cells.size = i.size := by have := Nat.eq_of_beq_eq_true hc1; simpa using this
            cases hl : ldA h a2 (m * i.size) with
            | none => rw [hl] at ho; cases ho
            | some news =>
              rw [hl] at ho
              dsimp only at ho
              cases hold : appOld h e i.size bx n cx with
              | none => rw [hold] at ho; cases ho
              | some p =>
                obtain ⟨old, h1⟩ := p
                rw [hold] at ho
                dsimp only at ho
                cases hnew : newA h1 (.row ⟨old ++ news, e, true⟩) with
                | none => rw [hnew] at ho; cases ho
                | some q =>
                  obtain ⟨k, h2⟩ := q
                  rw [hnew] at ho
                  cases ho
                  obtain ⟨b', c', rfl, hb⟩ := hy.slice
                  obtain ⟨rfl, hsp, hbN⟩ := hb a2 rfl hm0
                  obtain ⟨news', hn1, hn2, hn3⟩ := ldA_is hh hsp hl
                  obtain ⟨old', ho1, hown, hfr, hh1, hne⟩ := appOld_is hS hh hi hx hold
                  have hml : n + m ≤ maxLen := by unfold maxLen; omega
                  obtain ⟨v', w', hr, hown', hgr, hnil⟩ := run_append_own_wide (P := P) w 0 t u e i z i.size i.bytes hu hinf hz rfl rfl hzs hc2 x' n old' hown (ra R a2) m c' news' hn2 hn3 hn1.one hml hc4 (Nat.zero_le _)
                  have hw := app_where (P := P) w 0 t u e i z hu hinf hz x' n old' hown (ra R a2) m c' news' hn2 hn3 hn1.one hml hc4 (by omega) hr
                  rcases hown'.2 with ⟨rfl, h0⟩ | ⟨g, cap, cur, rfl, hbg, hg, hnc, hcm, hcs, htake⟩
                  · omega
                  have hgw : ∀ k c, h1.heap.get k = some c → R.ρ k ≠ g := fun k c hk e => by
                    rcases hw with hw | hw
                    · exact hne k c hk (by rw [e, ← hw]; rfl)
                    · have := hh1.old hk
                      have e2 : g = w.heap.size := Option.some.inj hw
                      omega
                  have hA : A2 (SR R) (old ++ news) (old' ++ news') := ⟨by simp [ho1.1, hn1.1], fun j v hv => by
                    rw [List.getElem?_append] at hv ⊢
                    rw [← ho1.1]
                    by_cases c : j < old.length
                    · rw [if_pos c] at hv ⊢; exact ho1.2 j v hv
                    · rw [if_neg c] at hv ⊢; exact hn1.2 _ v hv⟩
                  have hxe := hh1.add_ext g cap
                  obtain ⟨rfl, hR⟩ := hh1.new (w' := w') (g := g) (k := cap) (b := ⟨old ++ news, e, true⟩) (cur := cur) (hh1.stayGrown hgr hfr) (fun hk => by
                      rcases hw with hw | hw
                      · exact hfr g (by rw [← hw]; rfl) hk
                      · have e2 : g = w.heap.size := Option.some.inj hw
                        exact hh.young (e2 ▸ hk)) hgw hg
                    (fun k c hk => hgr.block _ (hh1.old hk) (hne k c hk))
                    (fun j v hv => by
                      obtain ⟨v', h3, h4⟩ := hA.2 j v hv
                      refine ⟨v', ?_, h4⟩
                      rw [← htake, List.getElem?_take] at h3
                      split at h3
                      · rwa [Array.getElem?_toList] at h3
                      · cases h3) (fun hx => by cases hx) (fun _ => ⟨hcm, by rw [hcs, hS e i hi]⟩) hnew
                  have eρ : (R.add g cap).ρ R.N = g := if_pos rfl
                  have eκ : (R.add g cap).κ R.N = cap := if_pos rfl
                  refine ⟨R.add g cap, w', _, hxe, hR, ?_, hr⟩
                  have hDN : (R.add g cap).D R.N := .inr rfl
                  have hs := SR.slg (R := R.add g cap) ⟨R.N, 0, none⟩ (n + m) cap rfl hDN (hR.small_of hDN) hnc (fun _ => eκ.symm)
                  unfold ra at hs
                  dsimp only at hs
                  rw [rb_of hR hDN, eρ] at hs
                  exact .inl (.inl hs)
        · cases ho
      · cases ho
  · cases ho
/-- an append that must lay a new list -/
def o_appendG (ty : Ty) (h : Hp) (t : Nat) (x y : Value) : Option (Value × Hp) :=
  match desc ty t, x, y with
  | some (.slice e), .slice (some a1) n c, .slice (some a2) m _ => match ty.get e with
    | some i => match i.zero with
      | some z => bif Nat.blt c many && Nat.blt c (n + m) && Nat.ble n c && Nat.blt 0 m && Nat.beq z.cells.toList.length i.size && Nat.ble (n + m) 1000000 && Nat.ble (((n + m) + (n + m) / 4 + 192) * i.bytes) 281474976710656 then
          match ldA h a1 (n * i.size), ldA h a2 (m * i.size) with
          | some old, some news => match newA h (.row ⟨old ++ news, e, true⟩) with
            | some (k, h2) => some (.slice (some ⟨k, 0, none⟩) (n + m) many, h2)
            | none => none
          | _, _ => none
        else none
      | none => none
    | none => none
  | _, _, _ => none
theorem o_appendG_is (T : TyOK P ty) (hS : SzOK ty sz) (hh : HR sz w0 Φ R w h) {t u : Nat} {x y x' y' v : Value} {h' : Hp} (hx : VR R x x') (hy : VR R y y') (ho : o_appendG ty h t x y = some (v, h')) :
    Ok P sz w0 Φ R w h' v (Builtin.append_ #[t, t] u #[x', y']) := by
  unfold o_appendG at ho
  split at ho
  · rename_i e a1 n c a2 m cy hd
    have hu := desc_is T hd
    split at ho
    · rename_i i hi
      have hinf := T.ty e i hi
      split at ho
      · rename_i z hz
        cases hc : Nat.blt c many && Nat.blt c (n + m) && Nat.ble n c && Nat.blt 0 m && Nat.beq z.cells.toList.length i.size && Nat.ble (n + m) 1000000 && Nat.ble (((n + m) + (n + m) / 4 + 192) * i.bytes) 281474976710656 with
        | false => rw [hc] at ho; cases ho
        | true =>
          rw [hc] at ho
          dsimp only [cond_true] at ho
          simp only [Bool.and_eq_true, Nat.ble_eq, Nat.blt_eq] at hc
          obtain ⟨⟨⟨⟨⟨⟨hc1, hc2⟩, hc3⟩, hc4⟩, hc5⟩, hc6⟩, hc7⟩ := hc
          have hzs : z.cells.size = i.size := by have := Nat.eq_of_beq_eq_true hc5; simpa using this
          split at ho
          · rename_i old news hl1 hl2
            cases hnew : newA h (.row ⟨old ++ news, e, true⟩) with
            | none => rw [hnew] at ho; cases ho
            | some q =>
              obtain ⟨k, h2⟩ := q
              rw [hnew] at ho
              cases ho
              have hx2 : x' = .slice (some (ra R a1)) n c ∧ a1.spot = none := by
                rcases hx with (hx | ⟨_, _, hx, _⟩) | ⟨_, _, hx, _⟩
                · cases hx with
                  | lit _ hl => cases hl
                  | sl _ _ _ h0 _ _ => exact ⟨rfl, h0⟩
                  | slg _ _ _ _ _ _ _ _ => exact absurd hc1 (Nat.lt_irrefl _)
                  | sle _ _ => exact absurd hc1 (Nat.lt_irrefl _)
                · cases hx
                · cases hx
              obtain ⟨rfl, hsp1⟩ := hx2
              obtain ⟨b', c', rfl, hb⟩ := hy.slice
              obtain ⟨rfl, hsp, hbN⟩ := hb a2 rfl (by omega)
              obtain ⟨old', ho1, ho2, ho3⟩ := ldA_is hh hsp1 hl1
              obtain ⟨news', hn1, hn2, hn3⟩ := ldA_is hh hsp hl2
              have hml : n + m ≤ maxLen := by unfold maxLen; omega
              have hr := run_append_grow (P := P) w t u e i z hu hinf hz (ra R a1) n c old' ho2 ho3 (ra R a2) m c' news' hn2 hn3 hc2 (by omega) (growslice_fits_wide hc2 hc7)
              have hge := grownCap_ge w (n + m) c e
              have hcm : grownCap w (n + m) c e ≤ maxLen := grownCap_le_maxLen w (n + m) c e hml
              generalize grownCap w (n + m) c e = cap at hr hge hcm
              have hgr : w.grownBy (w.drew.alloc (.cells (old'.toArray ++ news'.toArray ++ Builtin.zeroCells z.cells (cap - (n + m))) e)) none := ⟨rfl, rfl, rfl, by simp, fun k hk _ => heap_alloc_old w.drew _ hk⟩
              have hA : A2 (SR R) (old ++ news) (old' ++ news') := ⟨by simp [ho1.1, hn1.1], fun j v hv => by
                rw [List.getElem?_append] at hv ⊢
                rw [← ho1.1]
                by_cases c : j < old.length
                · rw [if_pos c] at hv ⊢; exact ho1.2 j v hv
                · rw [if_neg c] at hv ⊢; exact hn1.2 _ v hv⟩
              have hxe := hh.add_ext w.heap.size cap
              obtain ⟨rfl, hR⟩ := hh.new (g := w.heap.size) (k := cap) (b := ⟨old ++ news, e, true⟩) (cur := old'.toArray ++ news'.toArray ++ Builtin.zeroCells z.cells (cap - (n + m))) (hh.stayGrown hgr (fun k hk => by cases hk)) (fun hk => hh.young hk)
                (fun k c hk => by have := hh.old hk; omega) (heap_alloc_new w.drew _)
                (fun k c hk => hgr.block _ (hh.old hk) (fun e => by cases e))
                (fun j v hv => by
                  obtain ⟨v', h3, h4⟩ := hA.2 j v hv
                  refine ⟨v', ?_, h4⟩
                  have hj := (List.getElem?_eq_some_iff.1 h3).1
                  rw [← Array.getElem?_toList]
                  simp only [Array.toList_append]
                  rw [List.getElem?_append_left (by simpa using hj)]
                  simpa using h3) (fun hx => by cases hx) (fun _ => ⟨hcm, by
                    rw [hS e i hi]
                    simp only [Array.size_append, List.size_toArray, size_zeroCells, hzs, ho2, hn2, ← Nat.add_mul]
                    congr 1
                    omega⟩) hnew
              have eρ : (R.add w.heap.size cap).ρ R.N = w.heap.size := if_pos rfl
              have eκ : (R.add w.heap.size cap).κ R.N = cap := if_pos rfl
              refine ⟨R.add w.heap.size cap, _, _, hxe, hR, ?_, hr⟩
              have hDN : (R.add w.heap.size cap).D R.N := .inr rfl
              have hs := SR.slg (R := R.add w.heap.size cap) ⟨R.N, 0, none⟩ (n + m) cap rfl hDN (hR.small_of hDN) hge (fun _ => eκ.symm)
              unfold ra at hs
              dsimp only at hs
              rw [rb_of hR hDN, eρ] at hs
              exact .inl (.inl hs)
          · cases ho
      · cases ho
    · cases ho
  · cases ho
def o_appendX (ty : Ty) (h : Hp) (t : Nat) (x y : Value) : Option (Value × Hp) := match o_append ty h t x y with
  | some r => some r
  | none => o_appendG ty h t x y
theorem o_appendX_is (T : TyOK P ty) (hS : SzOK ty sz) (hh : HR sz w0 Φ R w h) {t u : Nat} {x y x' y' v : Value} {h' : Hp} (hx : VR R x x') (hy : VR R y y') (ho : o_appendX ty h t x y = some (v, h')) :
    Ok P sz w0 Φ R w h' v (Builtin.append_ #[t, t] u #[x', y']) := by
  unfold o_appendX at ho
  split at ho
  · rename_i r hr
    cases ho
    exact o_append_is T hS hh hx hy hr
  · exact o_appendG_is T hS hh hx hy ho
end
end Go.Ev
