/- The evaluator's slices of slices and texts; structs built. -/
import Derived.Test.YtlchefdddgbohaaDoorEvA
import Derived.Laws.Slices
noncomputable section
namespace Go.Ev
open Go.RowKit
set_option linter.unusedVariables false
set_option linter.unusedSimpArgs false
def IsB (o : Option Value) (d n : Nat) : Prop := (o = none ∧ n = d) ∨ ∃ k, o = some (.int k (n : Int))
section
variable {P : Program} {ty : Ty} {sz : Nat → Nat} {w0 : World} {Φ : Fx} {R : Rn} {w : World} {h : Hp}
theorem bounds_run (s : Bool) {len cap : Nat} {lo hi : Option Value} {l u : Nat} (hlo : IsB lo 0 l) (hhi : IsB hi len u) (h1 : l ≤ u) (h2 : u ≤ cap) : (Instr.sliceBounds s len cap lo hi none).run P w = .ok (l, u, cap) w := by
  rcases hlo with ⟨rfl, rfl⟩ | ⟨k, rfl⟩ <;> rcases hhi with ⟨rfl, rfl⟩ | ⟨k', rfl⟩ <;> simp [Instr.sliceBounds, Instr.sliceBound, asIntOf, h1, h2]
def bnd (o : Option Value) (d : Nat) : Option Nat := match o with
  | none => some d
  | some (.int _ (.ofNat n)) => some n
  | _ => none
def OV (R : Rn) (o o' : Option Value) : Prop := (o = none ∧ o' = none) ∨ ∃ v v', o = some v ∧ o' = some v' ∧ VR R v v'
theorem bnd_is {o o' : Option Value} (ho : OV R o o') {d n : Nat} (hb : bnd o d = some n) : IsB o' d n := by
  rcases ho with ⟨rfl, rfl⟩ | ⟨v, v', rfl, rfl, hv⟩
  · cases hb; exact .inl ⟨rfl, rfl⟩
  · unfold bnd at hb
    split at hb
    · rename_i h; cases h
    · rename_i k m h
      cases h
      cases hb
      exact .inr ⟨k, by rw [hv.int]; rfl⟩
    · cases hb
def o_slice (ty : Ty) (t : Nat) (x : Value) (lo hi : Option Value) : Option Value :=
  match x with
  | .string s => match desc ty t, bnd lo 0, bnd hi s.data.toList.length with
    | some .string, some l, some u => bif Nat.ble l u && Nat.ble u s.data.toList.length then some (.string ⟨((s.data.toList.take u).drop l).toArray⟩) else none
    | _, _, _ => none
  | .slice (some a) n c => match desc ty t, bnd lo 0, bnd hi n with
    | some (.slice e), some l, some u => match size ty e with
      | some s =>
        bif Nat.ble l u && Nat.ble u n && Nat.ble n c && Nat.blt 0 s then
          bif Nat.beq c many then
            bif Nat.beq l u then (bif Nat.beq l 0 then some (.slice (some a) 0 many) else some (.slice (some ⟨many, 0, none⟩) 0 many))
            else some (.slice (some ⟨a.block, a.off + l * s, none⟩) (u - l) many)
          else some (.slice (some (bif Nat.beq c l then a else ⟨a.block, a.off + l * s, none⟩)) (u - l) (c - l))
        else none
      | none => none
    | _, _, _ => none
  | .slice none 0 0 => match desc ty t, bnd lo 0, bnd hi 0 with
    | some (.slice e), some 0, some 0 => match size ty e with
      | some s => some x
      | none => none
    | _, _, _ => none
  | _ => none
theorem o_slice_is (T : TyOK P ty) (hh : HR sz w0 Φ R w h) {t : Nat} {x x' v : Value} {lo hi lo' hi' : Option Value} (hx : VR R x x') (hlo : OV R lo lo') (hhi : OV R hi hi') (ho : o_slice ty t x lo hi = some v) :
    Ok0 P R w v (Instr.sliceAt t x' lo' hi' none) := by
  unfold o_slice at ho
  split at ho
  · rename_i s
    rw [hx.str]
    split at ho
    · rename_i l u hd hl hu
      have hdu := desc_is T hd
      cases hc : Nat.ble l u && Nat.ble u s.data.toList.length with
      | false => rw [hc] at ho; cases ho
      | true =>
        rw [hc] at ho
        cases ho
        simp only [Bool.and_eq_true, Nat.ble_eq] at hc
        have hus : u ≤ s.size := hc.2
        refine .same hh (.lit rfl) ?_
        have hb := bounds_run (P := P) (w := w) false (len := s.size) (cap := s.size) (bnd_is hlo hl) (bnd_is hhi hu) hc.1 hus
        simp [Instr.sliceAt, Instr.slice, run_underlying hdu, hb]
        apply ByteArray.ext
        simp [ByteArray.data_extract]
        apply Array.ext'
        simp [List.drop_take]
    · cases ho
  · rename_i a n c
    split at ho
    · rename_i e l u hd hl hu
      have hdu := desc_is T hd
      split at ho
      · rename_i s hz
        cases hc : Nat.ble l u && Nat.ble u n && Nat.ble n c && Nat.blt 0 s with
        | false => rw [hc] at ho; cases ho
        | true =>
          rw [hc] at ho
          dsimp only [cond_true] at ho
          simp only [Bool.and_eq_true, Nat.ble_eq, Nat.blt_eq] at hc
          obtain ⟨⟨⟨hc1, hc2⟩, hc3⟩, hc4⟩ := hc
          have run : ∀ b' c', x' = .slice b' n c' → n ≤ c' → (Instr.sliceAt t x' lo' hi' none).run P w = .ok (.slice (if c' = l then b' else b'.map (·.add (l * s))) (u - l) (c' - l)) w := fun b' c' hb hnc => by
            subst hb
            have hb := bounds_run (P := P) (w := w) true (len := n) (cap := c') (bnd_is hlo hl) (bnd_is hhi hu) hc1 (by omega)
            simp [Instr.sliceAt, Instr.slice, run_underlying hdu, hb, size_is T w hz]
          rcases hx with (hx | ⟨_, _, hx, _⟩) | ⟨_, _, hx, _⟩
          · cases hx with
            | lit _ hl => cases hl
            | sl _ _ _ h0 hbN hcm =>
              have hne : Nat.beq c many = false := by rw [Tr.beq_iff]; exact decide_eq_false (by omega)
              rw [hne] at ho
              cases ho
              refine .same hh ?_ (run _ _ rfl hc3)
              by_cases e : c = l
              · rw [Tr.beq_iff, decide_eq_true e, if_pos e]
                exact .inl (.inl (.sl a _ _ h0 hbN (by omega)))
              · rw [Tr.beq_iff, decide_eq_false e, if_neg e]
                have := SR.sl (R := R) ⟨a.block, a.off + l * s, none⟩ (u - l) (c - l) rfl hbN (by omega)
                rw [← ra_add] at this
                exact .inl (.inl this)
            | slg _ _ c' h0 hbN hbm hnc hk =>
              have hne : Nat.beq many many = true := by rw [Tr.beq_iff]; exact decide_eq_true rfl
              rw [hne] at ho
              dsimp only [cond_true] at ho
              by_cases e : l = u
              · rw [Tr.beq_iff l u, decide_eq_true e] at ho
                dsimp only [cond_true] at ho
                by_cases e0 : l = 0
                · rw [Tr.beq_iff l 0, decide_eq_true e0] at ho
                  cases ho
                  refine .same hh ?_ (run _ _ rfl hnc)
                  subst e0
                  subst e
                  have hb : (if c' = 0 then some (ra R a) else (some (ra R a)).map (·.add (0 * s))) = some (ra R a) := by
                    split
                    · rfl
                    · simp [Addr.add]
                  rw [hb]
                  exact .inl (.inl (.slg a 0 c' h0 hbN hbm (Nat.zero_le _) hk))
                · rw [Tr.beq_iff l 0, decide_eq_false e0] at ho
                  cases ho
                  refine .same hh ?_ (run _ _ rfl hnc)
                  rw [e, Nat.sub_self]
                  exact .inl (.inl (.sle _ _))
              · rw [Tr.beq_iff l u, decide_eq_false e] at ho
                cases ho
                refine .same hh ?_ (run _ _ rfl hnc)
                rw [if_neg (by omega)]
                have := SR.slg (R := R) ⟨a.block, a.off + l * s, none⟩ (u - l) (c' - l) rfl hbN hbm (by omega) (fun h => by
                  dsimp only at h
                  have h1 : a.off = 0 := by omega
                  have h2 : l * s = 0 := by omega
                  have h3 : l = 0 := by
                    rcases Nat.mul_eq_zero.1 h2 with h | h
                    · exact h
                    · omega
                  rw [h3]
                  exact hk h1)
                rw [← ra_add] at this
                exact .inl (.inl this)
            | sle a' c' =>
              have e1 : l = 0 := by omega
              have e2 : u = 0 := by omega
              subst e1
              subst e2
              have hne : Nat.beq many many = true := by rw [Tr.beq_iff]; exact decide_eq_true rfl
              rw [hne] at ho
              cases ho
              exact .same hh (.inl (.inl (.sle _ _))) (run _ _ rfl (Nat.zero_le _))
          · cases hx
          · cases hx
      · cases ho
    · cases ho
  · split at ho
    · rename_i e hd hl hu
      have hdu := desc_is T hd
      split at ho
      · rename_i s hz
        cases ho
        have e3 : x' = .slice none 0 0 := by
          rcases hx with (hx | ⟨_, _, hx, _⟩) | ⟨_, _, hx, _⟩
          · cases hx; rfl
          · cases hx
          · cases hx
        subst e3
        refine .same hh hx ?_
        have hb := bounds_run (P := P) (w := w) true (len := 0) (cap := 0) (bnd_is hlo hl) (bnd_is hhi hu) (Nat.le_refl _) (Nat.le_refl _)
        simp [Instr.sliceAt, Instr.slice, run_underlying hdu, hb, size_is T w hz]
      · cases ho
    · cases ho
  · cases ho
/-- a slice of an array that is pointed to -/
def o_sliceP (ty : Ty) (t : Nat) (a : Addr) (lo hi : Option Value) : Option Value :=
  match desc ty t with
  | some (.pointer r) => match desc ty r with
    | some (.array n e) => match bnd lo 0, bnd hi n, size ty e with
      | some l, some u, some s => bif Nat.ble l u && Nat.ble u n && Nat.blt n many then some (.slice (some (bif Nat.beq n l then a else ⟨a.block, a.off + l * s, none⟩)) (u - l) (n - l)) else none
      | _, _, _ => none
    | _ => none
  | _ => none
def o_sliceX (ty : Ty) (t : Nat) (x : Value) (lo hi : Option Value) : Option Value :=
  match x with
  | .pointer (some a) => o_sliceP ty t a lo hi
  | _ => o_slice ty t x lo hi
theorem sl_at {a : Addr} (h0 : a.spot = none) (hN : Nm R a.block) (l m s n : Nat) (hm : m - l < many) : VR R (.slice (some (bif Nat.beq m l then a else ⟨a.block, a.off + l * s, none⟩)) n (m - l)) (.slice (some (if m = l then ra R a else (ra R a).add (l * s))) n (m - l)) := by
  by_cases e : m = l
  · rw [Tr.beq_iff, decide_eq_true e, if_pos e]
    exact .inl (.inl (.sl a _ _ h0 hN hm))
  · rw [Tr.beq_iff, decide_eq_false e, if_neg e]
    have := SR.sl (R := R) ⟨a.block, a.off + l * s, none⟩ n (m - l) rfl hN hm
    rw [← ra_add] at this
    exact .inl (.inl this)
theorem bounds_run2 {len : Nat} {lo hi : Option Value} {l u : Nat} (hlo : IsB lo 0 l) (hhi : IsB hi len u) (h1 : l ≤ u) (h2 : u ≤ len) : (Instr.sliceBounds false len len lo hi none).run P w = .ok (l, u, len) w := bounds_run false hlo hhi h1 h2
theorem o_sliceX_is (T : TyOK P ty) (hh : HR sz w0 Φ R w h) {t : Nat} {x x' v : Value} {lo hi lo' hi' : Option Value} (hx : VR R x x') (hlo : OV R lo lo') (hhi : OV R hi hi') (ho : o_sliceX ty t x lo hi = some v) :
    Ok0 P R w v (Instr.sliceAt t x' lo' hi' none) := by
  unfold o_sliceX at ho
  split at ho
  · rename_i a
    obtain ⟨rfl, h0, hN⟩ := hx.ptr
    unfold o_sliceP at ho
    split at ho
    · rename_i r hd
      have hdu := desc_is T hd
      split at ho
      · rename_i n e hd2
        have hdu2 := desc_is T hd2
        split at ho
        · rename_i l u s hl hu hz
          cases hc : Nat.ble l u && Nat.ble u n && Nat.blt n many with
          | false => rw [hc] at ho; cases ho
          | true =>
            rw [hc] at ho
            cases ho
            simp only [Bool.and_eq_true, Nat.ble_eq, Nat.blt_eq] at hc
            obtain ⟨⟨hc1, hc2⟩, hc3⟩ := hc
            have hb := bounds_run (P := P) (w := w) false (len := n) (cap := n) (bnd_is hlo hl) (bnd_is hhi hu) hc1 hc2
            refine .same hh (sl_at h0 hN l n s (u - l) (by omega)) ?_
            simp [Instr.sliceAt, Instr.slice, run_underlying hdu, run_underlying hdu2, asAddr, hb, size_is T w hz]
        · cases ho
      · cases ho
    · cases ho
  · exact o_slice_is T hh hx hlo hhi ho
/-- a slice whose room is told -/
def o_slice3 (ty : Ty) (t : Nat) (x : Value) (lo : Option Value) (hi mx : Value) : Option Value :=
  match desc ty t, bnd lo 0, bnd (some hi) 0, bnd (some mx) 0 with
  | some (.slice e), some l, some u, some m => match size ty e with
    | some s => bif Nat.ble l u && Nat.ble u m then match x with
        | .slice (some a) n c => bif Nat.ble n c && Nat.blt 0 n then (bif Nat.ble m n && Nat.blt m many then some (.slice (some (bif Nat.beq m l then a else ⟨a.block, a.off + l * s, none⟩)) (u - l) (m - l)) else none) else none
        | _ => none
      else none
    | none => none
  | _, _, _, _ => none
theorem bounds_run3 {len cap : Nat} {lo : Option Value} {hi mx : Value} {l u m : Nat} (hlo : IsB lo 0 l) (hhi : IsB (some hi) 0 u) (hmx : IsB (some mx) 0 m) (h1 : l ≤ u) (h2 : u ≤ m) (h3 : m ≤ cap) : (Instr.sliceBounds true len cap lo (some hi) (some mx)).run P w = .ok (l, u, m) w := by
  rcases hhi with ⟨h, _⟩ | ⟨k, h⟩
  · cases h
  · cases h
    rcases hmx with ⟨h, _⟩ | ⟨k', h⟩
    · cases h
    · cases h
      rcases hlo with ⟨rfl, rfl⟩ | ⟨k'', rfl⟩ <;> simp [Instr.sliceBounds, Instr.sliceBound, asIntOf, h1, h2, h3]
theorem o_slice3_is (T : TyOK P ty) (hh : HR sz w0 Φ R w h) {t : Nat} {x x' v hi hi' mx mx' : Value} {lo lo' : Option Value} (hx : VR R x x') (hlo : OV R lo lo') (hhi : VR R hi hi') (hmx : VR R mx mx') (ho : o_slice3 ty t x lo hi mx = some v) :
    Ok0 P R w v (Instr.sliceAt t x' lo' (some hi') (some mx')) := by
  unfold o_slice3 at ho
  split at ho
  · rename_i e l u m hd hl hu hm
    have hdu := desc_is T hd
    split at ho
    · rename_i s hz
      cases hc : Nat.ble l u && Nat.ble u m with
      | false => rw [hc] at ho; cases ho
      | true =>
        rw [hc] at ho
        dsimp only [cond_true] at ho
        simp only [Bool.and_eq_true, Nat.ble_eq] at hc
        split at ho
        · rename_i a n c
          cases hc2 : Nat.ble n c && Nat.blt 0 n with
          | false => rw [hc2] at ho; cases ho
          | true =>
            rw [hc2] at ho
            dsimp only [cond_true] at ho
            simp only [Bool.and_eq_true, Nat.ble_eq, Nat.blt_eq] at hc2
            cases hc3 : Nat.ble m n && Nat.blt m many with
            | false => rw [hc3] at ho; cases ho
            | true =>
              rw [hc3] at ho
              cases ho
              simp only [Bool.and_eq_true, Nat.ble_eq, Nat.blt_eq] at hc3
              have hx2 : ∃ c', x' = .slice (some (ra R a)) n c' ∧ n ≤ c' ∧ a.spot = none ∧ Nm R a.block := by
                rcases hx with (hx | ⟨_, _, hx, _⟩) | ⟨_, _, hx, _⟩
                · cases hx with
                  | lit _ hl => cases hl
                  | sl _ _ _ h0 hbN _ => exact ⟨_, rfl, hc2.1, h0, hbN⟩
                  | slg _ _ c' h0 hbN _ hnc _ => exact ⟨c', rfl, hnc, h0, .inl hbN⟩
                  | sle _ _ => exact absurd hc2.2 (Nat.lt_irrefl _)
                · cases hx
                · cases hx
              obtain ⟨c', rfl, hnc, h0, hN⟩ := hx2
              have hb := bounds_run3 (P := P) (w := w) (len := n) (cap := c') (bnd_is hlo hl) (bnd_is (.inr ⟨_, _, rfl, rfl, hhi⟩) hu) (bnd_is (.inr ⟨_, _, rfl, rfl, hmx⟩) hm) hc.1 hc.2 (by omega)
              refine .same hh (sl_at h0 hN l m s (u - l) (by omega)) ?_
              simp [Instr.sliceAt, Instr.slice, run_underlying hdu, hb, size_is T w hz]
              split <;> rfl
        · cases ho
    · cases ho
  · cases ho
end
end Go.Ev
