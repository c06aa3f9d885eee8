/- Single operations of the evaluator: places in lists, parts, len, calls. -/
import Derived.Test.YtlchefdddgbohaaDoorEvP
noncomputable section
namespace Go.Ev
open Go.RowKit
set_option linter.unusedVariables false
set_option linter.unusedSimpArgs false
section
variable {P : Program} {ty : Ty} {sz : Nat → Nat} {w0 : World} {Φ : Fx} {R : Rn} {w : World} {h : Hp}

theorem VR.slice {R : Rn} {b : Option Addr} {n c : Nat} {v : Value} (h : VR R (.slice b n c) v) : ∃ b' c', v = .slice b' n c' ∧ (∀ a, b = some a → n ≠ 0 → b' = some (ra R a) ∧ a.spot = none ∧ Nm R a.block) := by
  rcases h with (h | ⟨_, _, h, _⟩) | ⟨_, _, h, _⟩
  · cases h with
    | lit _ hl =>
      refine ⟨b, c, rfl, fun a ha => ?_⟩
      subst ha
      cases hl
    | sl a _ _ h0 hb hc => exact ⟨_, _, rfl, fun a' ha _ => by cases ha; exact ⟨rfl, h0, hb⟩⟩
    | slg a _ c' h0 hb hm hn hk => exact ⟨_, _, rfl, fun a' ha _ => by cases ha; exact ⟨rfl, h0, .inl hb⟩⟩
    | sle a c' => exact ⟨_, _, rfl, fun a' ha hn => absurd rfl hn⟩
  · cases h
  · cases h

def o_indexAddr (ty : Ty) (t : Nat) (x ix : Value) : Option Value :=
  match ix with
  | .int _ (.ofNat i) => match x, desc ty t with
    | .slice (some a) n _, some (.slice e) => match size ty e with
      | some s => bif Nat.blt i n then some (.pointer (some ⟨a.block, a.off + i * s, none⟩)) else none
      | none => none
    | .pointer (some a), some (.array n e) => match size ty e with
      | some s => bif Nat.blt i n then some (.pointer (some ⟨a.block, a.off + i * s, none⟩)) else none
      | none => none
    | _, _ => none
  | _ => none
theorem o_indexAddr_is (T : TyOK P ty) (hh : HR sz w0 Φ R w h) {t : Nat} {x x' ix ix' v : Value} (hx : VR R x x') (hi : VR R ix ix') (ho : o_indexAddr ty t x ix = some v) : Ok0 P R w v (Instr.indexAt t x' ix') := by
  unfold o_indexAddr at ho
  split at ho
  · rename_i k i
    rw [hi.int]
    split at ho
    · rename_i a n c e hd
      have hu := desc_is T hd
      cases hz : size ty e with
      | none => rw [hz] at ho; cases ho
      | some s =>
        rw [hz] at ho
        dsimp only at ho
        cases hn : Nat.blt i n with
        | false => rw [hn] at ho; cases ho
        | true =>
          rw [hn] at ho
          cases ho
          have hlt : i < n := by simpa [Nat.blt_eq] using hn
          obtain ⟨b', c', rfl, hb⟩ := hx.slice
          obtain ⟨rfl, h0, hbN⟩ := hb a rfl (by omega)
          refine .same hh (.inl (.inl (.ptr ⟨a.block, a.off + i * s, none⟩ rfl hbN))) ?_
          simp [Instr.indexAt, run_underlying hu, asIntOf, size_is T w hz, ra_add, hlt]
    · rename_i a n e hd
      have hu := desc_is T hd
      cases hz : size ty e with
      | none => rw [hz] at ho; cases ho
      | some s =>
        rw [hz] at ho
        dsimp only at ho
        cases hn : Nat.blt i n with
        | false => rw [hn] at ho; cases ho
        | true =>
          rw [hn] at ho
          cases ho
          have hlt : i < n := by simpa [Nat.blt_eq] using hn
          obtain ⟨rfl, h0, hbN⟩ := hx.ptr
          refine .same hh (.inl (.inl (.ptr ⟨a.block, a.off + i * s, none⟩ rfl hbN))) ?_
          simp [Instr.indexAt, run_underlying hu, asIntOf, size_is T w hz, ra_add, hlt, Instr.sureAddr]
    · cases ho
  · cases ho
def o_index (ty : Ty) (t : Nat) (x ix : Value) : Option Value :=
  match ix with
  | .int _ (.ofNat i) => match x, desc ty t with
    | .string s, some .string => match s.data.toList[i]? with
      | some b => some (.int .u8 b.toNat)
      | none => none
    | _, _ => none
  | _ => none
theorem o_index_is (T : TyOK P ty) (hh : HR sz w0 Φ R w h) {t : Nat} {x x' ix ix' v : Value} (hx : VR R x x') (hi : VR R ix ix') (ho : o_index ty t x ix = some v) : Ok0 P R w v (Instr.index t x' ix') := by
  unfold o_index at ho
  split at ho
  · rename_i k i
    rw [hi.int]
    split at ho
    · rename_i s hd
      have hu := desc_is T hd
      rw [hx.str]
      split at ho
      · rename_i b hb
        cases ho
        rw [Array.getElem?_toList] at hb
        have hb' : s[i]? = some b := by
          have hlt := (Array.getElem?_eq_some_iff.1 hb).1
          have hv := (Array.getElem?_eq_some_iff.1 hb).2
          rw [getElem?_pos s i hlt]
          exact congrArg some hv
        refine .same hh (.lit rfl) ?_
        simp [Instr.index, run_underlying hu, asIntOf, hb']
      · cases ho
    · cases ho
  · cases ho
def fldAt (ty : Ty) (t : Nat) (cs : List Value) (off : Nat) : Option Value :=
  match isAg ty t with
  | some true => match size ty t with
    | some n => some (.agg ((cs.drop off).take n).toArray)
    | none => none
  | some false => cs[off]?
  | none => none
def o_field (ty : Ty) (s : Nat) (x : Value) (f : Nat) : Option Value :=
  match x, fld ty s f with
  | .agg cs, some g => fldAt ty g.type cs.toList g.offset
  | _, _ => none
theorem VR.agg {R : Rn} {cs : Array Value} {v : Value} (h : VR R (.agg cs) v) : ∃ cs', v = .agg cs' ∧ A2 (SR R) cs.toList cs'.toList := by
  rcases h with (h | ⟨_, cs', h, h2, h3⟩) | ⟨_, _, h, _⟩
  · cases h with
    | lit _ hl => cases hl
  · cases h; exact ⟨cs', h2, h3⟩
  · cases h
theorem A2.cut {r : Value → Value → Prop} {l l' : List Value} (h : A2 r l l') (o n : Nat) : A2 r ((l.drop o).take n) ((l'.drop o).take n) :=
  ⟨by simp [h.1], fun i v hv => by
    have hlt : i < n := by have := (List.getElem?_eq_some_iff.1 hv).1; simp at this; omega
    rw [List.getElem?_take, if_pos hlt, List.getElem?_drop] at hv ⊢
    exact h.2 _ v hv⟩
theorem fldAt_is (T : TyOK P ty) (w : World) {t : Nat} {cs : List Value} {cs' : Array Value} {off : Nat} {v : Value} (hcs : A2 (SR R) cs cs'.toList) (ho : fldAt ty t cs off = some v) : ∃ v', VR R v v' ∧ (part t cs' off).run P w = .ok v' w := by
  unfold fldAt at ho
  split at ho
  · rename_i hag
    cases hz : size ty t with
    | none => rw [hz] at ho; cases ho
    | some n =>
      rw [hz] at ho
      cases ho
      refine ⟨_, .inl (.inr ⟨_, ((cs'.toList.drop off).take n).toArray, rfl, rfl, hcs.cut _ _⟩), ?_⟩
      simp [part, isAg_is T w hag, size_is T w hz]
      apply Array.ext'
      simp [List.drop_take]
  · rename_i hag
    obtain ⟨v', h1, h2⟩ := hcs.2 _ v ho
    rw [Array.getElem?_toList] at h1
    refine ⟨v', .inl (.inl h2), ?_⟩
    simp [part, isAg_is T w hag, h1]
  · cases ho
theorem o_field_is (T : TyOK P ty) (hh : HR sz w0 Φ R w h) {s : Nat} {x x' v : Value} {f : Nat} (hx : VR R x x') (ho : o_field ty s x f = some v) : Ok0 P R w v (Instr.field s x' f) := by
  unfold o_field at ho
  split at ho
  · rename_i cs g hg
    obtain ⟨cs', rfl, hcs⟩ := hx.agg
    unfold fld at hg
    split at hg
    · rename_i fs hd
      have hu := desc_is T hd
      rw [Array.getElem?_toList] at hg
      obtain ⟨v', h1, h2⟩ := fldAt_is (P := P) T w hcs ho
      refine .same hh h1 ?_
      simp [Instr.field, run_underlying hu, hg, asAgg, h2]
    · cases hg
  · cases ho
def o_len (ty : Ty) (t : Nat) (x : Value) : Option Value :=
  match x, desc ty t with
  | .slice _ n _, some (.slice _) => some (goInt n)
  | .string s, some .string => some (goInt s.data.toList.length)
  | _, _ => none
theorem o_len_is (T : TyOK P ty) (hh : HR sz w0 Φ R w h) {t u : Nat} {x x' v : Value} (hx : VR R x x') (ho : o_len ty t x = some v) : Ok0 P R w v (Builtin.len_ #[t] u #[x']) := by
  unfold o_len at ho
  split at ho
  · rename_i n _ e hd
    cases ho
    obtain ⟨b', c', rfl, _⟩ := hx.slice
    refine .same hh (.lit rfl) ?_
    simp [Builtin.len_, run_underlying (desc_is T hd)]
  · rename_i s hd
    cases ho
    rw [hx.str]
    refine .same hh (.lit rfl) ?_
    simp [Builtin.len_, run_underlying (desc_is T hd)]
  · cases ho
def o_un (op : UnOp) (x : Value) : Option Value :=
  bif lit x then match Op.unary op x with
    | .pure v => bif lit v then some v else none
    | _ => none
  else none
theorem VR.of_lit {R : Rn} {v v' : Value} (h : VR R v v') (hl : Go.Ev.lit v = true) (hn : v ≠ .slice none 0 0) : v' = v := by
  rcases h with (h | ⟨_, _, rfl, _⟩) | ⟨_, _, rfl, _⟩
  · cases h with
    | lit _ _ => rfl
    | ptr _ _ _ => cases hl
    | sl _ _ _ _ _ _ => cases hl
    | slg _ _ _ _ _ _ _ _ => cases hl
    | sle _ _ => cases hl
    | mp _ _ => cases hl
    | yl _ _ => cases hl
    | fn _ _ _ f' c' h1 h2 =>
      have hl2 : (Array.isEmpty _ && Array.isEmpty _) = true := hl
      rw [Bool.and_eq_true, Array.isEmpty_iff, Array.isEmpty_iff] at hl2
      obtain ⟨rfl, rfl⟩ := hl2
      have e1 : f' = #[] := Array.eq_empty_of_size_eq_zero (by have := h1.1; simpa using this.symm)
      have e2 : c' = #[] := Array.eq_empty_of_size_eq_zero (by have := h2.1; simpa using this.symm)
      rw [e1, e2]
  · cases hl
  · cases hl
theorem o_un_is (hh : HR sz w0 Φ R w h) {op : UnOp} {x x' v : Value} (hx : VR R x x') (ho : o_un op x = some v) : Ok0 P R w v (Op.unary op x') := by
  unfold o_un at ho
  cases hl : lit x with
  | false => rw [hl] at ho; cases ho
  | true =>
    rw [hl] at ho
    dsimp only [cond_true] at ho
    split at ho
    · rename_i u hu
      cases hlu : lit u with
      | false => rw [hlu] at ho; cases ho
      | true =>
        rw [hlu] at ho
        cases ho
        have e : x' = x := hx.of_lit hl (fun e => by subst e; cases op <;> cases hu)
        rw [e, hu]
        exact .same hh (.lit hlu) rfl
    · cases ho
def o_conv (ty : Ty) (s d : Nat) (x : Value) : Option Value :=
  match x, desc ty s, desc ty d with
  | .int _ n, some _, some (.int k) => some (.int k (k.wrap n))
  | .int _ n, some _, some (.float k) => some (.float k (k.nearest n))
  | .float s b, some _, some (.int k) => match Conv.floatToInt s b k with
    | .pure v => bif lit v then some v else none
    | _ => none
  | .float s b, some _, some (.float k) => match Conv.floatToFloat s b k with
    | .pure v => bif lit v then some v else none
    | _ => none
  | .string b, some (.string), some .string => some (.string b)
  | _, _, _ => none
theorem o_conv_is (T : TyOK P ty) (hh : HR sz w0 Φ R w h) {s d : Nat} {x x' v : Value} (hx : VR R x x') (ho : o_conv ty s d x = some v) : Ok0 P R w v (convert s d x') := by
  unfold o_conv at ho
  split at ho
  · rename_i k n ds k' hs hd
    cases ho
    rw [hx.int]
    refine .same hh (.lit rfl) ?_
    simp [convert, run_underlying (desc_is T hs), run_underlying (desc_is T hd), Conv.intToInt]
  · rename_i k n ds k' hs hd
    cases ho
    rw [hx.int]
    refine .same hh (.lit rfl) ?_
    simp [convert, run_underlying (desc_is T hs), run_underlying (desc_is T hd), Conv.intToFloat]
  · rename_i k b ds k' hs hd
    rw [hx.flt]
    split at ho
    · rename_i u hu
      cases hl : lit u with
      | false => rw [hl] at ho; cases ho
      | true =>
        rw [hl] at ho
        cases ho
        refine .same hh (.lit hl) ?_
        simp only [convert, Sem.run_bind, run_underlying (desc_is T hs), run_underlying (desc_is T hd), Result.andThen_ok]
        rw [hu]
        rfl
    · cases ho
  · rename_i k b ds k' hs hd
    rw [hx.flt]
    split at ho
    · rename_i u hu
      cases hl : lit u with
      | false => rw [hl] at ho; cases ho
      | true =>
        rw [hl] at ho
        cases ho
        refine .same hh (.lit hl) ?_
        simp only [convert, Sem.run_bind, run_underlying (desc_is T hs), run_underlying (desc_is T hd), Result.andThen_ok]
        rw [hu]
        rfl
    · cases ho
  · rename_i b hs hd
    cases ho
    rw [hx.str]
    refine .same hh (.lit rfl) ?_
    simp [convert, run_underlying (desc_is T hs), run_underlying (desc_is T hd)]
  · cases ho
def o_extract (x : Value) (i : Nat) : Option Value :=
  match x with
  | .tuple vs => vs.toList[i]?
  | _ => none
theorem o_extract_is (hh : HR sz w0 Φ R w h) {x x' v : Value} {i : Nat} (hx : VR R x x') (ho : o_extract x i = some v) : Ok0 P R w v (Instr.extract x' i) := by
  unfold o_extract at ho
  split at ho
  · rename_i vs
    rcases hx with (hx | ⟨_, _, hx, _⟩) | ⟨_, vs', h1, rfl, h3⟩
    · cases hx with
      | lit _ hl => cases hl
    · cases hx
    · cases h1
      obtain ⟨v', h4, h5⟩ := h3.2 i v ho
      rw [Array.getElem?_toList] at h4
      refine .same hh (.inl h5) ?_
      simp [Instr.extract, h4]
  · cases ho
end
end Go.Ev
