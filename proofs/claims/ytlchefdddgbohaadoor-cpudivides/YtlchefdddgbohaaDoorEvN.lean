/- The evaluator's maps, closures, made lists. -/
import Derived.Test.YtlchefdddgbohaaDoorEvB
import Derived.MapKept
import Derived.WideKeyRuns
noncomputable section
namespace Go.Ev
open Go.RowKit Go.MapKept
set_option linter.unusedVariables false
set_option linter.unusedSimpArgs false
def flat1 : Value → Bool
  | .bool _ | .int _ _ | .string _ => true
  | _ => false
def flat : Value → Bool
  | .agg cs => cs.toList.all flat1
  | v => flat1 v
theorem SR.flat {R : Rn} {v v' : Value} (h : SR R v v') (hf : flat1 v = true) : v' = v := by
  cases h <;> first | rfl | (cases hf; done)
theorem flat1_lit {v : Value} (hf : flat1 v = true) : lit v = true := by
  cases v <;> first | rfl | (cases hf; done)
theorem VR0.flat {R : Rn} {v v' : Value} (h : VR0 R v v') (hf : Go.Ev.flat v = true) : v' = v := by
  rcases h with h | ⟨cs, cs', rfl, rfl, h⟩
  · cases h <;> first | rfl | (cases hf; done)
  · congr 1
    apply Array.ext'
    have hf' : cs.toList.all flat1 = true := hf
    refine List.ext_getElem? fun i => ?_
    cases hi : cs.toList[i]? with
    | none =>
      have := h.1
      rw [List.getElem?_eq_none_iff] at hi ⊢
      omega
    | some v =>
      obtain ⟨v', h1, h2⟩ := h.2 i v hi
      rw [h1, h2.flat (List.all_eq_true.1 hf' v (List.mem_of_getElem? hi))]
theorem VR.flat {R : Rn} {v v' : Value} (h : VR R v v') (hf : Go.Ev.flat v = true) : v' = v := by
  rcases h with h | ⟨_, _, rfl, _⟩
  · exact h.flat hf
  · cases hf
theorem VR.of_flat {R : Rn} {v : Value} (hf : Go.Ev.flat v = true) : VR R v v := by
  unfold Go.Ev.flat at hf
  split at hf
  · rename_i cs
    exact .inl (.inr ⟨cs, cs, rfl, rfl, rfl, fun i v hv => ⟨v, hv, .lit v (flat1_lit (List.all_eq_true.1 hf v (List.mem_of_getElem? hv)))⟩⟩)
  · exact .lit (flat1_lit hf)
def kOK (ty : Ty) : Nat → Nat → Value → Bool
  | 0, _, _ => false
  | d + 1, t, x => match desc ty t with
    | some .bool | some (.int _) | some .string => true
    | some (.struct fs) => match x with
      | .agg cs => fs.toList.all fun f => match fldAt ty f.type cs.toList f.offset with
        | some a => kOK ty d f.type a
        | none => false
      | _ => false
    | some (.array n e) => match x, size ty e with
      | .agg cs, some s => (List.range' 0 n).all fun i => match fldAt ty e cs.toList (i * s) with
        | some a => kOK ty d e a
        | none => false
      | _, _ => false
    | _ => false
section
variable {P : Program} {ty : Ty} {sz : Nat → Nat} {w0 : World} {Φ : Fx} {R : Rn} {w : World} {h : Hp}
theorem kOK_is (T : TyOK P ty) (em : Bool) : ∀ (d t : Nat) (x x' : Value), kOK ty d t x = true → VR R x x' → ∀ e, (Instr.checkKey em (d + e) t x').run P w = .ok () w
  | 0, _, _, _, h, _, _ => by cases h
  | d + 1, t, x, x', h, hx, e => by
    rw [show d + 1 + e = (d + e) + 1 by omega]
    unfold kOK at h
    split at h
    · rename_i hd
      have hu := desc_is T hd
      simp [Instr.checkKey, run_underlying hu]
    · rename_i hd
      have hu := desc_is T hd
      simp [Instr.checkKey, run_underlying hu]
    · rename_i hd
      have hu := desc_is T hd
      simp [Instr.checkKey, run_underlying hu]
    · rename_i fs hd
      have hu := desc_is T hd
      split at h
      · rename_i cs
        obtain ⟨cs', rfl, hcs⟩ := hx.agg
        simp only [Instr.checkKey, Sem.run_bind, run_underlying hu, Result.andThen_ok]
        rw [← Array.forIn_toList]
        generalize fs.toList = l at h
        induction l with
        | nil => simp
        | cons f l ih =>
          rw [List.all_cons, Bool.and_eq_true] at h
          have h1 := h.1
          split at h1
          · rename_i a ha
            obtain ⟨a', h2, h3⟩ := fldAt_is (P := P) T w hcs ha
            have h4 := kOK_is T em d f.type a a' h1 h2 e
            have h5 := ih h.2
            rw [List.forIn_cons]
            by_cases hn : f.name = "_"
            · simp only [hn, ne_eq, not_true, if_false, Sem.run_bind, Sem.run_pure, Result.andThen_ok]
              exact h5
            · simp only [ne_eq, hn, not_false_eq_true, if_true, Sem.run_bind, h3, Result.andThen_ok, h4, Sem.run_pure]
              exact h5
          · cases h1
      · cases h
    · rename_i n el hd
      have hu := desc_is T hd
      split at h
      · rename_i cs s hs
        obtain ⟨cs', rfl, hcs⟩ := hx.agg
        have hsz := size_is T w hs
        simp only [Instr.checkKey, Sem.run_bind, run_underlying hu, Result.andThen_ok]
        simp only [Std.Legacy.Range.forIn_eq_forIn_range', Std.Legacy.Range.size, Nat.sub_zero, Nat.add_one_sub_one, Nat.div_one]
        generalize List.range' 0 n = l at h
        induction l with
        | nil => simp
        | cons j l ih =>
          rw [List.all_cons, Bool.and_eq_true] at h
          have h1 := h.1
          split at h1
          · rename_i a ha
            obtain ⟨a', h2, h3⟩ := fldAt_is (P := P) T w hcs ha
            have h4 := kOK_is T em d el a a' h1 h2 e
            simp only [List.forIn_cons, Sem.run_bind, hsz, Result.andThen_ok, h3, h4, Sem.run_pure]
            exact ih h.2
          · cases h1
      · cases h
    · cases h
/-- the entry with a key -/
def findK (ty : Ty) (kt : Nat) (k : Value) : List (Value × Value × Nat) → Nat → Option (Option (Nat × Value × Value))
  | [], _ => some none
  | (k2, v, _) :: l, i => bif flat k2 then match eqv ty 100 kt k k2 with
      | some true => some (some (i, k2, v))
      | some false => findK ty kt k l (i + 1)
      | none => none
    else none
def FK (R : Rn) : Option (Nat × Value × Value) → Option (Nat × Value) → Prop
  | none, r => r = none
  | some (i, _, v), r => ∃ v', r = some (i, v') ∧ VR0 R v v'
theorem findAsk_is (T : TyOK P ty) {kt : Nat} {k : Value} (hk : flat k = true) {es : List (Value × Value × Nat)} {es' : List MapEntry} (he : ER R es es') : ∀ (i : Nat) (r : Option (Nat × Value × Value)), findK ty kt k es i = some r →
    ∃ r', (Instr.findAsking kt k es' i).run P w = .ok r' w ∧ FK R r r' := by
  induction he with
  | nil => intro i r h; cases h; exact ⟨none, by simp [Instr.findAsking], rfl⟩
  | cons k2 v v' n l l' hv _ ih =>
    intro i r h
    unfold findK at h
    cases hf : flat k2 with
    | false => rw [hf] at h; cases h
    | true =>
      rw [hf] at h
      dsimp only [cond_true] at h
      split at h
      · rename_i he
        cases h
        have h1 : (Op.equal kt k k2).run P w = .ok true w := eqv_is (R := R) T 100 kt k k2 true k k2 he (.of_flat hk) (.of_flat hf) 9900
        exact ⟨some (i, v'), by simp [Instr.findAsking, h1], v', rfl, hv⟩
      · rename_i he
        have h1 : (Op.equal kt k k2).run P w = .ok false w := eqv_is (R := R) T 100 kt k k2 false k k2 he (.of_flat hk) (.of_flat hf) 9900
        obtain ⟨r', h2, h3⟩ := ih (i + 1) r h
        exact ⟨r', by simp [Instr.findAsking, h1, h2], h3⟩
      · cases h
theorem sameNow_of {d : Nat} {kt : Nat} {dd : TypeDesc} (hd : desc ty kt = some dd) (hp : dd = .bool ∨ dd = .string ∨ ∃ q, dd = .int q) {k k2 : Value} {c : Bool} (h : eqv ty (d + 1) kt k k2 = some c) : Instr.sameNow dd k k2 = some c := by
  unfold eqv at h
  rw [hd] at h
  rcases hp with rfl | rfl | ⟨q, rfl⟩
  · dsimp only at h
    split at h
    · cases h; rfl
    · cases h
  · dsimp only at h
    split at h
    · cases h
      rename_i a b
      show some (a == b) = some (same a.data.toList b.data.toList)
      rw [same_is, beq_toListBytes, ByteArray.toList_eq, ByteArray.toList_eq]
    · cases h
  · dsimp only at h
    split at h
    · rename_i j a l b
      by_cases e : j = l
      · subst e
        rw [show eqK j j = true from decide_eq_true rfl] at h
        cases h
        simp [Instr.sameNow]
      · rw [show eqK j l = false from decide_eq_false e] at h
        cases h
    · cases h
theorem findNow_is {kt : Nat} {dd : TypeDesc} (hd : desc ty kt = some dd) (hp : dd = .bool ∨ dd = .string ∨ ∃ q, dd = .int q) {k : Value} {es : List (Value × Value × Nat)} {es' : List MapEntry} (he : ER R es es') : ∀ (i : Nat) (r : Option (Nat × Value × Value)), findK ty kt k es i = some r →
    ∃ r', Instr.findNow dd k es' i = some r' ∧ FK R r r' := by
  induction he with
  | nil => intro i r h; cases h; exact ⟨none, rfl, rfl⟩
  | cons k2 v v' n l l' hv _ ih =>
    intro i r h
    unfold findK at h
    cases hf : flat k2 with
    | false => rw [hf] at h; cases h
    | true =>
      rw [hf] at h
      dsimp only [cond_true] at h
      split at h
      · rename_i he
        cases h
        refine ⟨some (i, v'), ?_, v', rfl, hv⟩
        unfold Instr.findNow
        rw [sameNow_of hd hp he]
      · rename_i he
        obtain ⟨r', h2, h3⟩ := ih (i + 1) r h
        refine ⟨r', ?_, h3⟩
        unfold Instr.findNow
        rw [sameNow_of hd hp he]
        exact h2
      · cases h
/-- types whose keys are held against each other -/
def keyT (ty : Ty) (kt : Nat) : Bool := match desc ty kt with
  | some .bool | some .string | some (.int _) | some (.struct _) => true
  | _ => false
theorem findKey_is (T : TyOK P ty) {kt : Nat} (hkt : keyT ty kt = true) {k : Value} (hk : flat k = true) {es : List (Value × Value × Nat)} {es' : List MapEntry} (he : ER R es es') {r : Option (Nat × Value × Value)} (h : findK ty kt k es 0 = some r) :
    ∃ r', (Instr.findKey kt k es').run P w = .ok r' w ∧ FK R r r' := by
  unfold keyT at hkt
  have plain : ∀ dd, desc ty kt = some dd → (dd = .bool ∨ dd = .string ∨ ∃ q, dd = .int q) → ∃ r', (Instr.findKey kt k es').run P w = .ok r' w ∧ FK R r r' := fun dd hd hp => by
    obtain ⟨r', h1, h2⟩ := findNow_is hd hp he 0 r h
    exact ⟨r', run_findKey (desc_is T hd) h1, h2⟩
  split at hkt
  · rename_i hd; exact plain _ hd (.inl rfl)
  · rename_i hd; exact plain _ hd (.inr (.inl rfl))
  · rename_i q hd; exact plain _ hd (.inr (.inr ⟨_, rfl⟩))
  · rename_i fs hd
    obtain ⟨r', h1, h2⟩ := findAsk_is (P := P) (w := w) T hk he 0 r h
    exact ⟨r', by rw [run_findKey_eq w (by rw [desc_is T hd])]; exact h1, h2⟩
  · cases hkt
def litV (v : Value) : Bool := match v with
  | .agg cs => cs.toList.all lit
  | v => lit v
theorem litV_is {v : Value} (hv : litV v = true) : VR0 R v v := by
  unfold litV at hv
  split at hv
  · rename_i cs
    exact .inr ⟨cs, cs, rfl, rfl, A2.lits hv⟩
  · exact .inl (.lit _ hv)
def entsOf (h : Hp) : Value → Option (List (Value × Value × Nat))
  | .map none => some []
  | .map (some i) => match h.heap.get i with
    | some (.map es _) => some es
    | _ => none
  | _ => none
def okV (b : Bool) (v : Value) (c : Bool) : Value := bif b then .tuple #[v, .bool c] else v
def o_lookup (ty : Ty) (h : Hp) (xt : Nat) (x k : Value) (b : Bool) : Option Value :=
  match desc ty xt with
  | some (.map kt et) => bif flat k && kOK ty 20 kt k && keyT ty kt then match entsOf h x with
      | some es => match findK ty kt k es 0 with
        | some (some (_, _, v)) => some (okV b v true)
        | some none => match zero ty et with
          | some z => bif litV z then some (okV b z false) else none
          | none => none
        | none => none
      | none => none
    else none
  | _ => none
theorem okV_is {b c : Bool} {v v' : Value} (h : VR0 R v v') : VR R (okV b v c) (if b then .tuple #[v', .bool c] else v') := by
  cases b with
  | false => exact .inl h
  | true => exact .inr ⟨_, _, rfl, rfl, rfl, fun i x hx => by
      match i, hx with
      | 0, hx => cases hx; exact ⟨v', rfl, h⟩
      | 1, hx => cases hx; exact ⟨_, rfl, .inl (.lit _ rfl)⟩⟩
theorem o_lookup_is (T : TyOK P ty) (hh : HR sz w0 Φ R w h) {xt : Nat} {x x' k k' v : Value} {b : Bool} (hx : VR R x x') (hk : VR R k k') (ho : o_lookup ty h xt x k b = some v) : Ok0 P R w v (Instr.lookup xt x' k' b) := by
  unfold o_lookup at ho
  split at ho
  · rename_i kt et hd
    have hu := desc_is T hd
    cases hc : flat k && kOK ty 20 kt k && keyT ty kt with
    | false => rw [hc] at ho; cases ho
    | true =>
      rw [hc] at ho
      dsimp only [cond_true] at ho
      rw [Bool.and_eq_true, Bool.and_eq_true] at hc
      obtain ⟨⟨hf, hko⟩, hkt⟩ := hc
      have e1 := hk.flat hf
      subst e1
      split at ho
      · rename_i es hes
        have hent : ∃ es' : Array MapEntry, ER R es es'.toList ∧ ∀ (r' : Option (Nat × Value)) (z : Value), (∀ em, (Instr.checkKey em 10000 kt k').run P w = .ok () w) → (Instr.findKey kt k' es'.toList).run P w = .ok r' w → (r' = none → (zeroValue et).run P w = .ok z w) →
            (Instr.lookup xt x' k' b).run P w = .ok (match r' with | some (_, v) => (if b then .tuple #[v, .bool true] else v) | none => (if b then .tuple #[z, .bool false] else z)) w := by
          unfold entsOf at hes
          split at hes
          · cases hes
            have e1 := hx.mapNone
            subst e1
            refine ⟨#[], .nil, fun r' z h1 h2 h3 => ?_⟩
            cases r' with
            | none => simp at h2; simp [Instr.lookup, run_underlying hu, h1, h2, h3 rfl]
            | some p => simp at h2; simp [Instr.lookup, run_underlying hu, h1, h2]
          · rename_i i
            split at hes
            · rename_i es2 ck hb
              cases hes
              obtain ⟨e2, hD⟩ := hx.mapSome
              subst e2
              obtain ⟨_, _, es', h1, h2⟩ := hh.map hb
              refine ⟨es', h2, fun r' z h3 h4 h5 => ?_⟩
              have hg : (getObj (R.ρ i)).run P w = .ok (.map es' ck) w := by simp [getObj, Sem.run, h1]
              cases r' with
              | none => simp [Instr.lookup, run_underlying hu, hg, h3, h4, h5 rfl]
              | some p => simp [Instr.lookup, run_underlying hu, hg, h3, h4]
            · cases hes
          · cases hes
        obtain ⟨es', hER, hK⟩ := hent
        have hck : ∀ em, (Instr.checkKey em 10000 kt k').run P w = .ok () w := fun em => kOK_is T em 20 kt k' k' hko hk 9980
        split at ho
        · rename_i j k2 u hfk
          cases ho
          obtain ⟨r', h1, u', rfl, h3⟩ := findKey_is (P := P) (w := w) T hkt hf hER hfk
          exact ⟨_, okV_is (b := b) (c := true) h3, hK _ (.bool true) hck h1 (fun e => by cases e)⟩
        · rename_i hfk
          split at ho
          · rename_i z hz
            cases hl : litV z with
            | false => rw [hl] at ho; cases ho
            | true =>
              rw [hl] at ho
              cases ho
              obtain ⟨r', h1, rfl⟩ := findKey_is (P := P) (w := w) T hkt hf hER hfk
              exact ⟨_, okV_is (b := b) (c := false) (litV_is hl), hK none z hck h1 (fun _ => zero_is T w hz)⟩
          · cases ho
        · cases ho
      · cases ho
  · cases ho
end
end Go.Ev
