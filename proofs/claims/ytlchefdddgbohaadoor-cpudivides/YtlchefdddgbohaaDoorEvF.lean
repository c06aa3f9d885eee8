/- Regions that draw their order: what holds on the way. -/
import Derived.Test.YtlchefdddgbohaaDoorEvE
noncomputable section
namespace Go.Ev
open Go.RowKit
set_option linter.unusedVariables false
set_option linter.unusedSimpArgs false
section
variable {ops : Array Oper}
theorem set_getD {listed : Array Bool} {j : Nat} (hj : j < listed.size) (x : Nat) : (listed.setIfInBounds j true).getD x false = if x = j then true else listed.getD x false := by
  by_cases e : x = j
  · subst e
    simp [hj]
  · rw [if_neg e, getD_set_ne false (fun h => e h.symm)]
theorem getD_bools {listed : Array Bool} {j : Nat} (h : listed.getD j true = false) : j < listed.size ∧ listed.getD j false = false := by
  by_cases hj : j < listed.size
  · refine ⟨hj, ?_⟩
    simp [hj] at h ⊢
    exact h
  · simp [Array.getElem?_eq_none (Nat.le_of_not_lt hj)] at h
theorem getD_bools' {listed : Array Bool} {j : Nat} (hj : j < listed.size) (h : listed.getD j false = false) : listed.getD j true = false := by
  simp [hj] at h ⊢
  exact h
def cnt (ops : Array Oper) (listed : Array Bool) : Nat := (List.range ops.size).countP fun j => !listed.getD j true
theorem countP_lt {α : Type} {p q : α → Bool} {y : α} : ∀ (l : List α), (∀ x ∈ l, p x = true → q x = true) → y ∈ l → q y = true → p y = false → l.countP p < l.countP q
  | [], _, h, _, _ => by cases h
  | x :: l, hpq, hy, h1, h2 => by
    rw [List.countP_cons, List.countP_cons]
    have hle : l.countP p ≤ l.countP q := List.countP_mono_left fun z hz => hpq z (List.mem_cons_of_mem _ hz)
    rcases List.mem_cons.1 hy with rfl | hy
    · rw [h1, h2]
      simp
      omega
    · have ih := countP_lt l (fun z hz => hpq z (List.mem_cons_of_mem _ hz)) hy h1 h2
      have := hpq x (List.mem_cons_self ..)
      cases hp : p x with
      | true => rw [this hp]; simp; omega
      | false =>
        cases q x <;> simp <;> omega
theorem cnt_lt {listed : Array Bool} {j : Nat} (hj : j < ops.size) (h : listed.getD j true = false) : cnt ops (listed.setIfInBounds j true) < cnt ops listed := by
  refine countP_lt (y := j) _ (fun x hx hp => ?_) (List.mem_range.2 hj) (by rw [h]; rfl) ?_
  · by_cases e : x = j
    · subst e; rw [h]; rfl
    · rwa [getD_set_ne true (fun h => e h.symm)] at hp
  · have := (getD_bools h).1
    simp [this]
def Topo (ops : Array Oper) : List Nat → Prop
  | [] => True
  | i :: l => (∀ x ∈ depsAt ops i, x ∈ l) ∧ Topo ops l
theorem topo_deps : ∀ {done : List Nat}, Topo ops done → ∀ {p x : Nat}, p ∈ done → x ∈ depsAt ops p → x ∈ done
  | [], _, p, x, hp, _ => by cases hp
  | i :: l, hT, p, x, hp, hx => by
    rcases List.mem_cons.1 hp with rfl | hp
    · exact List.mem_cons_of_mem _ (hT.1 x hx)
    · exact List.mem_cons_of_mem _ (topo_deps hT.2 hp hx)
theorem put_get {a : Act} {d : Option Nat} {v : Value} {t : Nat} (h : d ≠ some t) : (a.put d v).tmps[t]? = a.tmps[t]? := by
  cases d with
  | none => rfl
  | some d => exact Array.getElem?_setIfInBounds_ne (fun e => h (by rw [e]))
theorem put_same {a : Act} {t : Nat} {v : Value} (h : t < a.tmps.size) : (a.put (some t) v).tmps[t]? = some v := Array.getElem?_setIfInBounds_self_of_lt h
theorem put_size (a : Act) (d : Option Nat) (v : Value) : (a.put d v).tmps.size = a.tmps.size := by cases d <;> simp [Act.put]
theorem put_defs (a : Act) (d : Option Nat) (v : Value) : (a.put d v).defers = a.defers := by cases d <;> rfl
theorem putd_get {nt : Nat} (hn : nt < 549755813888) {fr fr' : Fr} {d : Option Nat} {v : Value} (hp : putd nt fr d v = some fr') : fr'.ms = fr.ms ∧ (∀ e, d = some e → e < nt) ∧ ∀ t, fr'.get t = if d = some t then some v else fr.get t := by
  unfold putd at hp
  cases d with
  | none => cases hp; exact ⟨rfl, fun e he => (by cases he), fun t => (by rw [if_neg (by intro h; cases h)])⟩
  | some d =>
    dsimp only at hp
    cases hb : Nat.blt d nt with
    | false => rw [hb] at hp; cases hp
    | true =>
      rw [hb] at hp
      cases hp
      rw [Nat.blt_eq] at hb
      refine ⟨rfl, fun e he => (by cases he; exact hb), fun t => ?_⟩
      show (fr.t.put 40 d v).get t = _
      rw [Tr.get_put 40 fr.t d v t (by omega)]
      by_cases e : t = d
      · rw [if_pos e, if_pos (by rw [e])]
      · rw [if_neg e, if_neg (fun h => e (Option.some.inj h).symm)]
        rfl
def Pq (ty : Ty) (ops : Array Oper) (fr : Fr) (h : Hp) (p : Nat) : Prop := ∃ o v, ops[p]? = some o ∧ ((wantd ops fr o = some true ∧ operQ ty fr h o = some v) ∨ (wantd ops fr o = some false ∧ v = undef)) ∧ ∀ d, o.dst = some d → fr.get d = some v
def Pn (ty : Ty) (ops : Array Oper) (fr : Fr) (x : Nat) (ob : Ob) (p : Nat) : Prop := ∃ o k, ops[p]? = some o ∧ wantd ops fr o = some true ∧ operN ty fr o = some (k, ob) ∧ ∀ d, o.dst = some d → fr.get d = some (k.val x)
theorem Pq.on {ty : Ty} {fr fr' : Fr} {h : Hp} {p : Nat} (hp : Pq ty ops fr h p) (h1 : ∀ t ∈ looks ops p, fr.get t = fr'.get t) (h2 : ∀ d, dstAt ops p = some d → fr.get d = fr'.get d) : Pq ty ops fr' h p := by
  obtain ⟨o, v, ho, hw, hd⟩ := hp
  rw [looks_some ho] at h1
  rw [dstAt_some ho] at h2
  refine ⟨o, v, ho, ?_, fun d e => by rw [← h2 d e]; exact hd d e⟩
  rw [← wantd_congr h1, ← operQ_congr (opnd h1)]
  exact hw
theorem Pn.on {ty : Ty} {fr fr' : Fr} {x : Nat} {ob : Ob} {p : Nat} (hp : Pn ty ops fr x ob p) (h1 : ∀ t ∈ looks ops p, fr.get t = fr'.get t) (h2 : ∀ d, dstAt ops p = some d → fr.get d = fr'.get d) : Pn ty ops fr' x ob p := by
  obtain ⟨o, k, ho, hw, hN, hd⟩ := hp
  rw [looks_some ho] at h1
  rw [dstAt_some ho] at h2
  refine ⟨o, k, ho, ?_, ?_, fun d e => by rw [← h2 d e]; exact hd d e⟩
  · rw [← wantd_congr h1]; exact hw
  · rw [← operN_congr (opnd h1)]; exact hN
theorem chk1_is {ty : Ty} {fr : Fr} {h : Hp} {p : Nat} (hc : chk1 ty ops fr h p = true) : Pq ty ops fr h p := by
  unfold chk1 at hc
  split at hc
  · rename_i o ho
    split at hc
    · rename_i hw
      refine ⟨o, undef, at_some ho, .inr ⟨hw, rfl⟩, fun d hd => ?_⟩
      rw [hd] at hc
      dsimp only at hc
      unfold isU at hc
      split at hc
      · rename_i x hx
        rw [List.isEmpty_iff] at hc
        rw [hx]
        have : x = #[] := Array.ext' hc
        rw [this]; rfl
      · cases hc
    · rename_i hw
      split at hc
      · rename_i v hv
        refine ⟨o, v, at_some ho, .inl ⟨hw, hv⟩, fun d hd => ?_⟩
        rw [hd] at hc
        dsimp only at hc
        split at hc
        · rename_i u hu
          rw [hu, beqV_eq hc]
        · cases hc
      · cases hc
    · cases hc
  · cases hc
theorem memA_iff (p : Nat) : ∀ (l : List (Nat × Nat × Ob)), memA p l = true ↔ ∃ x ob, (p, x, ob) ∈ l
  | [] => by simp [memA]
  | (q, y, c) :: l => by
    rw [memA, Bool.or_eq_true, memA_iff p l, Tr.beq_iff, decide_eq_true_iff]
    constructor
    · rintro (rfl | ⟨x, ob, h⟩)
      · exact ⟨y, c, List.mem_cons_self ..⟩
      · exact ⟨x, ob, List.mem_cons_of_mem _ h⟩
    · rintro ⟨x, ob, h⟩
      rcases List.mem_cons.1 h with h | h
      · cases h; exact .inl rfl
      · exact .inr ⟨x, ob, h⟩
theorem step_agree {nt : Nat} (hst : statB nt ops = true) (hn : nt < 549755813888) {i : Nat} (hna : anti ops i = false) {o : Oper} (ho : ops[i]? = some o) {done : List Nat} (hi : i ∉ done) (hT : Topo ops done) (hr : ∀ p ∈ done, p < ops.size) {fr fr' : Fr} {v : Value} (hp : putd nt fr o.dst v = some fr') {p : Nat} (hpd : p ∈ done) :
    (∀ t ∈ looks ops p, fr.get t = fr'.get t) ∧ (∀ d, dstAt ops p = some d → fr.get d = fr'.get d) := by
  have hi1 := (Array.getElem?_eq_some_iff.1 ho).1
  have hp1 := hr p hpd
  have hne : i ≠ p := fun e => hi (e ▸ hpd)
  have hg := (putd_get hn hp).2.2
  refine ⟨fun t ht => ?_, fun d hd => ?_⟩
  · rw [hg t]
    by_cases e : o.dst = some t
    · exact absurd (topo_deps hT hpd (anti_no hna hp1 (by rw [dstAt_some ho]; exact e) ht).2) hi
    · rw [if_neg e]
  · rw [hg d]
    by_cases e : o.dst = some d
    · exact absurd hd ((stat_is hst hi1 hp1 (by rw [dstAt_some ho]; exact e)).2 hne)
    · rw [if_neg e]
end
/-- a new place that is laid, and not taken in yet -/
def Ex' (sz : Nat → Nat) (Φ : Fx) (R : Rn) (w : World) (h : Hp) (x : Nat) (ob : Ob) : Prop :=
  R.D x ∧ ¬ Φ (R.ρ x) ∧ (∃ o, w.heap[R.ρ x]? = some o ∧ OR sz R x ob o) ∧ ∀ j c, h.heap.get j = some c → R.ρ j ≠ R.ρ x
structure Inv (ty : Ty) (sz : Nat → Nat) (w0 : World) (Φ : Fx) (ops : Array Oper) (rd : Option Nat) (nt : Nat) (R0 : Rn) (done cand : List Nat) (al : List (Nat × Nat × Ob)) (fr : Fr) (h : Hp) (R : Rn) (listed : Array Bool) (a : Act) (w : World) : Prop where
  size : listed.size = ops.size
  sub : ∀ j, listed.getD j false = true → j ∈ done
  clo : ∀ j, listed.getD j false = true → ∀ x ∈ depsAt ops j, listed.getD x false = true
  pend : ∀ p ∈ done, listed.getD p false = false → p ∈ cand
  hr : HR sz w0 Φ R w h
  e0 : Ext R0 R
  cd : ∀ p ∈ cand, p ∈ done
  chk : ∀ p ∈ cand, (∃ x ob, (p, x, ob) ∈ al) ∨ Pq ty ops fr h p
  na : ∀ p ∈ done, listed.getD p false = false → anti ops p = false
  alp : ∀ p x ob, (p, x, ob) ∈ al → p ∈ done ∧ x < R.N ∧ R0.N ≤ x ∧ (listed.getD p false = false → Pn ty ops fr x ob p)
  alu : ∀ p x ob, (p, x, ob) ∈ al → listed.getD p false = false → ¬ R.D x
  all : ∀ p x ob, (p, x, ob) ∈ al → listed.getD p false = true → Ex' sz Φ R w h x ob
  alf : ∀ p x ob y ob', (p, x, ob) ∈ al → (p, y, ob') ∈ al → x = y ∧ ob = ob'
  aln : ∀ p x ob q ob', (p, x, ob) ∈ al → (q, x, ob') ∈ al → p = q
  alr : ∀ p x ob q y ob', (p, x, ob) ∈ al → (q, y, ob') ∈ al → listed.getD p false = true → listed.getD q false = true → x ≠ y → R.ρ x ≠ R.ρ y
  nd : (al.map fun e => e.2.1).Nodup
  topo : Topo ops done
  rng : ∀ p ∈ done, p < ops.size
  db : ∀ p ∈ done, ∀ d, dstAt ops p = some d → d < nt
  tm : nt ≤ a.tmps.size ∧ nt < 549755813888 ∧ MK R rd fr.ms a.defers
  st : ∀ t v, fr.get t = some v → (∀ p ∈ done, listed.getD p false = false → dstAt ops p ≠ some t) → ∃ v', a.tmps[t]? = some v' ∧ VR R v v'
section
variable {P : Program} {ty : Ty} {sz : Nat → Nat} {w0 : World} {Φ : Fx} {ops : Array Oper} {rd : Option Nat} {nt : Nat} {R0 : Rn} {done cand : List Nat} {al : List (Nat × Nat × Ob)} {fr : Fr} {h : Hp} {R : Rn} {listed : Array Bool} {a : Act} {w : World}
theorem Inv.unl (I : Inv ty sz w0 Φ ops rd nt R0 done cand al fr h R listed a w) {i : Nat} (hi : i ∉ done) : listed.getD i false = false := by
  cases e : listed.getD i false with
  | false => rfl
  | true => exact absurd (I.sub i e) hi
theorem Inv.take (I : Inv ty sz w0 Φ ops rd nt R0 done cand al fr h R listed a w) (hst : statB nt ops = true) {i : Nat} (hna : anti ops i = false) {o : Oper} (ho : ops[i]? = some o) (hi : i ∉ done) (hd : ∀ x ∈ depsOf o, x ∈ done) {v : Value} {fr' : Fr}
    (hw : (wantd ops fr o = some true ∧ operQ ty fr h o = some v) ∨ (wantd ops fr o = some false ∧ v = undef)) (hp : putd nt fr o.dst v = some fr') : Inv ty sz w0 Φ ops rd nt R0 (i :: done) (i :: cand) al fr' h R listed a w := by
  have hul := I.unl hi
  have hi1 := (Array.getElem?_eq_some_iff.1 ho).1
  have hg := putd_get I.tm.2.1 hp
  have hag := fun {p : Nat} (hpd : p ∈ done) => step_agree hst I.tm.2.1 hna ho hi I.topo I.rng hp hpd
  have hself : ∀ t ∈ looks ops i, fr.get t = fr'.get t := fun t ht => by
    rw [hg.2.2 t]
    by_cases e : o.dst = some t
    · exact absurd rfl (anti_no hna hi1 (by rw [dstAt_some ho]; exact e) ht).1
    · rw [if_neg e]
  refine ⟨I.size, fun j hj => List.mem_cons_of_mem _ (I.sub j hj), I.clo, fun p hp hl => ?_, I.hr, I.e0, fun p hp => ?_, fun p hp => ?_, fun p hp hl => ?_, fun p x ob hm => ?_, I.alu, I.all, I.alf, I.aln, I.alr, I.nd, ⟨by rw [depsAt_some ho]; exact hd, I.topo⟩, fun p hp => ?_, fun p hp d hpd => ?_, ?_, fun t u hu ht => ?_⟩
  · rcases List.mem_cons.1 hp with rfl | hp
    · exact List.mem_cons_self ..
    · exact List.mem_cons_of_mem _ (I.pend p hp hl)
  · rcases List.mem_cons.1 hp with rfl | hp
    · exact List.mem_cons_self ..
    · exact List.mem_cons_of_mem _ (I.cd p hp)
  · rcases List.mem_cons.1 hp with rfl | hp
    · refine .inr ⟨o, v, ho, ?_, fun d hd => by rw [hg.2.2 d, if_pos hd]⟩
      rw [looks_some ho] at hself
      rw [← wantd_congr hself, ← operQ_congr (opnd hself)]
      exact hw
    · rcases I.chk p hp with hc | hc
      · exact .inl hc
      · exact .inr (hc.on (hag (I.cd p hp)).1 (hag (I.cd p hp)).2)
  · rcases List.mem_cons.1 hp with rfl | hp
    · exact hna
    · exact I.na p hp hl
  · obtain ⟨h1, h2, h3, h4⟩ := I.alp p x ob hm
    exact ⟨List.mem_cons_of_mem _ h1, h2, h3, fun hl => (h4 hl).on (hag h1).1 (hag h1).2⟩
  · rcases List.mem_cons.1 hp with rfl | hp
    · exact hi1
    · exact I.rng p hp
  · rcases List.mem_cons.1 hp with rfl | hp
    · rw [dstAt_some ho] at hpd; exact hg.2.1 d hpd
    · exact I.db p hp d hpd
  · rw [hg.1]; exact I.tm
  · have hne : o.dst ≠ some t := by have := ht i (List.mem_cons_self ..) hul; rwa [dstAt_some ho] at this
    rw [hg.2.2 t, if_neg hne] at hu
    exact I.st t u hu fun p hp hl => ht p (List.mem_cons_of_mem _ hp) hl
theorem Inv.takeN (I : Inv ty sz w0 Φ ops rd nt R0 done cand al fr h R listed a w) (hst : statB nt ops = true) {i : Nat} (hna : anti ops i = false) {o : Oper} (ho : ops[i]? = some o) (hi : i ∉ done) (hd : ∀ x ∈ depsOf o, x ∈ done) {k : NV} {ob : Ob} {fr' : Fr}
    (hw : wantd ops fr o = some true) (hN : operN ty fr o = some (k, ob)) (hlt : h.next < 500000000) (hp : putd nt fr o.dst (k.val h.next) = some fr') :
    Inv ty sz w0 Φ ops rd nt R0 (i :: done) (i :: cand) ((i, h.next, ob) :: al) fr' ⟨h.heap, h.next + 1, h.tab⟩ R.bump listed a w := by
  have hul := I.unl hi
  have hi1 := (Array.getElem?_eq_some_iff.1 ho).1
  have hg := putd_get I.tm.2.1 hp
  have hnx := I.hr.nx
  have hb := R.bump_ext
  have hag := fun {p : Nat} (hpd : p ∈ done) => step_agree hst I.tm.2.1 hna ho hi I.topo I.rng hp hpd
  have hself : ∀ t ∈ looks ops i, fr.get t = fr'.get t := fun t ht => by
    rw [hg.2.2 t]
    by_cases e : o.dst = some t
    · exact absurd rfl (anti_no hna hi1 (by rw [dstAt_some ho]; exact e) ht).1
    · rw [if_neg e]
  have ald : ∀ p x ob, (p, x, ob) ∈ al → p ≠ i ∧ x ≠ h.next := fun p x ob hm => by
    obtain ⟨h1, h2, _, _⟩ := I.alp p x ob hm
    exact ⟨fun e => hi (e ▸ h1), by omega⟩
  refine ⟨I.size, fun j hj => List.mem_cons_of_mem _ (I.sub j hj), I.clo, fun p hp hl => ?_, I.hr.bump hlt, I.e0.trans hb, fun p hp => ?_, fun p hp => ?_, fun p hp hl => ?_, fun p x ob' hm => ?_, fun p x ob' hm hl => ?_, fun p x ob' hm hl => ?_, fun p x ob1 y ob2 hm hm2 => ?_, fun p x ob1 q ob2 hm hm2 => ?_, fun p x ob1 q y ob2 hm hm2 hl hl2 => ?_, ?_, ⟨by rw [depsAt_some ho]; exact hd, I.topo⟩, fun p hp => ?_, fun p hp d hpd => ?_, ?_, fun t u hu ht => ?_⟩
  · rcases List.mem_cons.1 hp with rfl | hp
    · exact List.mem_cons_self ..
    · exact List.mem_cons_of_mem _ (I.pend p hp hl)
  · rcases List.mem_cons.1 hp with rfl | hp
    · exact List.mem_cons_self ..
    · exact List.mem_cons_of_mem _ (I.cd p hp)
  · rcases List.mem_cons.1 hp with rfl | hp
    · exact .inl ⟨_, _, List.mem_cons_self ..⟩
    · rcases I.chk p hp with ⟨x, ob', hc⟩ | hc
      · exact .inl ⟨x, ob', List.mem_cons_of_mem _ hc⟩
      · have hc2 := hc.on (hag (I.cd p hp)).1 (hag (I.cd p hp)).2
        obtain ⟨o2, v2, q1, q2, q3⟩ := hc2
        refine .inr ⟨o2, v2, q1, ?_, q3⟩
        rw [show operQ ty fr' ⟨h.heap, h.next + 1, h.tab⟩ o2 = operQ ty fr' h o2 from rfl]
        exact q2
  · rcases List.mem_cons.1 hp with rfl | hp
    · exact hna
    · exact I.na p hp hl
  · rcases List.mem_cons.1 hm with hm | hm
    · cases hm
      refine ⟨List.mem_cons_self .., by show h.next < R.N + 1; omega, by have := I.e0.le; omega, fun _ => ⟨o, k, ho, ?_, ?_, fun d hd => by rw [hg.2.2 d, if_pos hd]⟩⟩
      · rw [looks_some ho] at hself
        rw [← wantd_congr hself]; exact hw
      · rw [looks_some ho] at hself
        rw [← operN_congr (opnd hself)]; exact hN
    · obtain ⟨h1, h2, h3, h4⟩ := I.alp p x ob' hm
      exact ⟨List.mem_cons_of_mem _ h1, Nat.lt_succ_of_lt h2, h3, fun hl => (h4 hl).on (hag h1).1 (hag h1).2⟩
  · rcases List.mem_cons.1 hm with hm | hm
    · cases hm
      intro hD
      have := I.hr.dom _ hD
      omega
    · exact I.alu p x ob' hm hl
  · rcases List.mem_cons.1 hm with hm | hm
    · cases hm
      rw [hul] at hl
      cases hl
    · obtain ⟨q1, q2, ⟨o3, q3, q4⟩, q5⟩ := I.all p x ob' hm hl
      exact ⟨q1, q2, ⟨o3, q3, q4.ext hb q1⟩, q5⟩
  · rcases List.mem_cons.1 hm with hm | hm <;> rcases List.mem_cons.1 hm2 with hm2 | hm2
    · cases hm; cases hm2; exact ⟨rfl, rfl⟩
    · cases hm; exact absurd rfl (ald _ _ _ hm2).1
    · cases hm2; exact absurd rfl (ald _ _ _ hm).1
    · exact I.alf p x ob1 y ob2 hm hm2
  · rcases List.mem_cons.1 hm with hm | hm <;> rcases List.mem_cons.1 hm2 with hm2 | hm2
    · cases hm; cases hm2; rfl
    · cases hm; exact absurd rfl (ald _ _ _ hm2).2
    · cases hm2; exact absurd rfl (ald _ _ _ hm).2
    · exact I.aln p x ob1 q ob2 hm hm2
  · rcases List.mem_cons.1 hm with hm | hm
    · cases hm
      rw [hul] at hl
      cases hl
    · rcases List.mem_cons.1 hm2 with hm2 | hm2
      · cases hm2
        rw [hul] at hl2
        cases hl2
      · exact I.alr p x ob1 q y ob2 hm hm2 hl hl2
  · rw [List.map_cons, List.nodup_cons]
    refine ⟨fun hm => ?_, I.nd⟩
    obtain ⟨⟨p, x, ob'⟩, h1, h2⟩ := List.mem_map.1 hm
    exact (ald p x ob' h1).2 h2
  · rcases List.mem_cons.1 hp with rfl | hp
    · exact hi1
    · exact I.rng p hp
  · rcases List.mem_cons.1 hp with rfl | hp
    · rw [dstAt_some ho] at hpd; exact hg.2.1 d hpd
    · exact I.db p hp d hpd
  · rw [hg.1]; exact ⟨I.tm.1, I.tm.2.1, I.tm.2.2.ext hb⟩
  · have hne : o.dst ≠ some t := by have := ht i (List.mem_cons_self ..) hul; rwa [dstAt_some ho] at this
    rw [hg.2.2 t, if_neg hne] at hu
    obtain ⟨v', h1, h2⟩ := I.st t u hu fun p hp hl => ht p (List.mem_cons_of_mem _ hp) hl
    exact ⟨v', h1, h2.ext hb⟩
/-- what an operation that is ready looks at -/
theorem Inv.look (I : Inv ty sz w0 Φ ops rd nt R0 done cand al fr h R listed a w) (hst : statB nt ops = true) {j : Nat} {o : Oper} (ho : ops[j]? = some o) (hr : j ∈ Region.ready .any ops listed) :
    FR R rd nt (restr fr (looks ops j)) a ∧ ∀ t ∈ o.looksAt ops, fr.get t = (restr fr (looks ops j)).get t := by
  obtain ⟨hl, o', ho', hdl⟩ := ready_iff.1 hr
  rw [ho] at ho'
  cases ho'
  have hj1 := (Array.getElem?_eq_some_iff.1 ho).1
  have hlt := stat_lt hst hj1
  have hn := I.tm.2.1
  have hget := get_restrT fr.t (looks ops j) (fun k hk => by have := hlt k hk; omega)
  refine ⟨⟨I.tm.1, hn, I.tm.2.2, fun t v hv => ?_⟩, fun t ht => ?_⟩
  · change (restrT fr.t (looks ops j)).get t = some v at hv
    rw [hget] at hv
    by_cases hm : t ∈ looks ops j
    · rw [if_pos hm] at hv
      refine I.st t v hv fun p hp hlp hdp => ?_
      have := (anti_no (I.na p hp hlp) hj1 hdp hm).2
      rw [depsAt_some ho] at this
      rw [hdl p this] at hlp
      cases hlp
    · rw [if_neg hm] at hv; cases hv
  · change fr.t.get t = (restrT fr.t (looks ops j)).get t
    rw [hget, if_pos (by rw [looks_some ho]; exact ht)]
theorem Inv.fin (I : Inv ty sz w0 Φ ops rd nt R0 done cand al fr h R listed a w) {j : Nat} {o : Oper} (ho : ops[j]? = some o) (hr : j ∈ Region.ready .any ops listed) (hj : j ∈ done) (hna : ∀ x ob, (j, x, ob) ∉ al) {v v' : Value} (hd : ∀ d, o.dst = some d → fr.get d = some v) (hv : VR R v v') :
    Inv ty sz w0 Φ ops rd nt R0 done cand al fr h R (listed.setIfInBounds j true) (a.put o.dst v') w := by
  obtain ⟨hl, o', ho', hdl⟩ := ready_iff.1 hr
  rw [ho] at ho'
  cases ho'
  obtain ⟨hjs, hlf⟩ := getD_bools hl
  have hset := set_getD hjs
  have mono : ∀ x, listed.getD x false = true → (listed.setIfInBounds j true).getD x false = true := fun x hx => by rw [hset]; split <;> first | rfl | exact hx
  have back : ∀ x, x ≠ j → (listed.setIfInBounds j true).getD x false = listed.getD x false := fun x hx => by rw [hset, if_neg hx]
  have nj : ∀ {p x : Nat} {ob : Ob}, (p, x, ob) ∈ al → p ≠ j := fun hm e => hna _ _ (e ▸ hm)
  refine ⟨by simp [I.size], fun x hx => ?_, fun x hx y hy => ?_, fun p hp hlp => ?_, I.hr, I.e0, I.cd, I.chk, fun p hp hlp => ?_, fun p x ob hm => ?_, fun p x ob hm hl => ?_, fun p x ob hm hl => ?_, I.alf, I.aln, fun p x ob q y ob' hm hm2 hl hl2 => ?_, I.nd, I.topo, I.rng, I.db, ⟨by rw [put_size]; exact I.tm.1, I.tm.2.1, by rw [put_defs]; exact I.tm.2.2⟩, fun t u hu ht => ?_⟩
  · by_cases e : x = j
    · subst e; exact hj
    · rw [back x e] at hx; exact I.sub x hx
  · by_cases e : x = j
    · subst e
      rw [depsAt_some ho] at hy
      exact mono y (hdl y hy)
    · rw [back x e] at hx
      exact mono y (I.clo x hx y hy)
  · rw [hset] at hlp
    by_cases e : p = j
    · rw [if_pos e] at hlp; cases hlp
    · rw [if_neg e] at hlp; exact I.pend p hp hlp
  · rw [hset] at hlp
    by_cases e : p = j
    · rw [if_pos e] at hlp; cases hlp
    · rw [if_neg e] at hlp; exact I.na p hp hlp
  · obtain ⟨h1, h2, h3, h4⟩ := I.alp p x ob hm
    exact ⟨h1, h2, h3, fun hl => h4 (by rw [← back p (nj hm)]; exact hl)⟩
  · rw [back p (nj hm)] at hl; exact I.alu p x ob hm hl
  · rw [back p (nj hm)] at hl; exact I.all p x ob hm hl
  · rw [back p (nj hm)] at hl; rw [back q (nj hm2)] at hl2; exact I.alr p x ob q y ob' hm hm2 hl hl2
  · by_cases e : o.dst = some t
    · have := hd t e
      rw [hu] at this
      cases this
      have hts : t < a.tmps.size := Nat.lt_of_lt_of_le (I.db j hj t (by rw [dstAt_some ho]; exact e)) I.tm.1
      exact ⟨v', by rw [e]; exact put_same hts, hv⟩
    · obtain ⟨u', h1, h2⟩ := I.st t u hu fun p hp hlp => by
        by_cases ep : p = j
        · subst ep; rw [dstAt_some ho]; exact e
        · exact ht p hp (by rw [back p ep]; exact hlp)
      exact ⟨u', by rw [put_get e]; exact h1, h2⟩
/-- a new place is laid -/
theorem Inv.finN (I : Inv ty sz w0 Φ ops rd nt R0 done cand al fr h R listed a w) {j : Nat} {o : Oper} (ho : ops[j]? = some o) (hr : j ∈ Region.ready .any ops listed) (hj : j ∈ done) {x : Nat} {ob : Ob} (hmem : (j, x, ob) ∈ al) {k : NV} (hk : ∀ n c, k = .sl n c → c < many)
    (hd : ∀ d, o.dst = some d → fr.get d = some (k.val x)) {o' : Obj} (hor : ∀ R' i, Ext0 R R' → OR sz R' i ob o') :
    Inv ty sz w0 Φ ops rd nt R0 done cand al fr h (R.addAt x w.heap.size 0) (listed.setIfInBounds j true) (a.put o.dst (k.val w.heap.size)) (w.alloc o') := by
  obtain ⟨hl, o2, ho2, hdl⟩ := ready_iff.1 hr
  rw [ho] at ho2
  cases ho2
  obtain ⟨hjs, hlf⟩ := getD_bools hl
  have hset := set_getD hjs
  have mono : ∀ x, listed.getD x false = true → (listed.setIfInBounds j true).getD x false = true := fun x hx => by rw [hset]; split <;> first | rfl | exact hx
  have back : ∀ x, x ≠ j → (listed.setIfInBounds j true).getD x false = listed.getD x false := fun x hx => by rw [hset, if_neg hx]
  have hul := I.alu j x ob hmem hlf
  obtain ⟨_, hxN, hx0, _⟩ := I.alp j x ob hmem
  have ex := R.addAt_ext hul w.heap.size 0
  generalize hR' : R.addAt x w.heap.size 0 = R' at ex
  have hDx : R'.D x := by rw [← hR']; exact .inr rfl
  have hρx : R'.ρ x = w.heap.size := by rw [← hR']; exact if_pos rfl
  have hDy : ∀ y, R'.D y → y ≠ x → R.D y := fun y hy hne => by
    rw [← hR'] at hy
    rcases hy with hy | hy
    · exact hy
    · exact absurd hy hne
  have hH : HR sz w0 Φ R' (w.alloc o') h := by
    rw [← hR']
    refine (I.hr.addD hxN hul w.heap.size 0).on (I.hr.stayAlloc _) fun i c hc => ?_
    rw [hR', ex.ρ i (I.hr.blk i c hc).1]
    exact Below.heap_alloc _ _ _ (I.hr.old hc)
  have hsz : w.heap.size < (w.alloc o').heap.size := by simp
  have hnew : Ex' sz Φ R' (w.alloc o') h x ob := by
    refine ⟨hDx, by rw [hρx]; exact I.hr.young, ⟨o', by rw [hρx]; show (w.heap.push _)[w.heap.size]? = _; simp, hor R' x ex⟩, fun i c hc => ?_⟩
    rw [hρx, ex.ρ i (I.hr.blk i c hc).1]
    exact Nat.ne_of_lt (I.hr.old hc)
  have hold : ∀ {y : Nat} {ob' : Ob}, Ex' sz Φ R w h y ob' → Ex' sz Φ R' (w.alloc o') h y ob' ∧ R.ρ y < w.heap.size := fun {y ob'} hy => by
    obtain ⟨q1, q2, ⟨o3, q3, q4⟩, q5⟩ := hy
    have hlt := (Array.getElem?_eq_some_iff.1 q3).1
    refine ⟨⟨ex.D y q1, by rw [ex.ρ y q1]; exact q2, ⟨o3, ?_, q4.ext ex q1⟩, fun i c hc => ?_⟩, hlt⟩
    · rw [ex.ρ y q1, Below.heap_alloc _ _ _ hlt]; exact q3
    · rw [ex.ρ y q1, ex.ρ i (I.hr.blk i c hc).1]; exact q5 i c hc
  refine ⟨by simp [I.size], fun x hx => ?_, fun x hx y hy => ?_, fun p hp hlp => ?_, hH, ?_, I.cd, I.chk, fun p hp hlp => ?_, fun p y ob' hm => ?_, fun p y ob' hm hl => ?_, fun p y ob' hm hl => ?_, I.alf, I.aln, fun p y ob1 q z ob2 hm hm2 hl hl2 hne => ?_, I.nd, I.topo, I.rng, I.db, ⟨by rw [put_size]; exact I.tm.1, I.tm.2.1, by rw [put_defs]; exact I.tm.2.2.ext ex⟩, fun t u hu ht => ?_⟩
  · by_cases e : x = j
    · subst e; exact hj
    · rw [back x e] at hx; exact I.sub x hx
  · by_cases e : x = j
    · subst e
      rw [depsAt_some ho] at hy
      exact mono y (hdl y hy)
    · rw [back x e] at hx
      exact mono y (I.clo x hx y hy)
  · rw [hset] at hlp
    by_cases e : p = j
    · rw [if_pos e] at hlp; cases hlp
    · rw [if_neg e] at hlp; exact I.pend p hp hlp
  · refine ⟨I.e0.toExt0.trans ex, fun i hi hlt => ?_⟩
    by_cases e : i = x
    · omega
    · exact I.e0.nw i (hDy i hi e) hlt
  · rw [hset] at hlp
    by_cases e : p = j
    · rw [if_pos e] at hlp; cases hlp
    · rw [if_neg e] at hlp; exact I.na p hp hlp
  · obtain ⟨h1, h2, h3, h4⟩ := I.alp p y ob' hm
    refine ⟨h1, by rw [← hR']; exact h2, h3, fun hl => h4 ?_⟩
    rw [hset] at hl
    by_cases e : p = j
    · rw [if_pos e] at hl; cases hl
    · rw [if_neg e] at hl; exact hl
  · by_cases e : p = j
    · subst e
      rw [hset, if_pos rfl] at hl
      cases hl
    · rw [back p e] at hl
      intro hD
      refine I.alu p y ob' hm hl (hDy y hD fun e2 => ?_)
      subst e2
      exact e (I.aln p y ob' j ob hm hmem)
  · by_cases e : p = j
    · subst e
      obtain ⟨rfl, rfl⟩ := I.alf p y ob' x ob hm hmem
      exact hnew
    · rw [back p e] at hl
      exact (hold (I.all p y ob' hm hl)).1
  · by_cases e : p = j
    · subst e
      obtain ⟨rfl, rfl⟩ := I.alf p y ob1 x ob hm hmem
      by_cases e2 : q = p
      · subst e2
        obtain ⟨rfl, _⟩ := I.alf q z ob2 y ob1 hm2 hmem
        exact absurd rfl hne
      · rw [back q e2] at hl2
        have hz := I.all q z ob2 hm2 hl2
        rw [hρx, ex.ρ z hz.1]
        have := (hold hz).2
        omega
    · rw [back p e] at hl
      have hy := I.all p y ob1 hm hl
      by_cases e2 : q = j
      · subst e2
        obtain ⟨rfl, rfl⟩ := I.alf q z ob2 x ob hm2 hmem
        rw [hρx, ex.ρ y hy.1]
        have := (hold hy).2
        omega
      · rw [back q e2] at hl2
        have hz := I.all q z ob2 hm2 hl2
        rw [ex.ρ y hy.1, ex.ρ z hz.1]
        exact I.alr p y ob1 q z ob2 hm hm2 hl hl2 hne
  · by_cases e : o.dst = some t
    · have := hd t e
      rw [hu] at this
      cases this
      have hts : t < a.tmps.size := Nat.lt_of_lt_of_le (I.db j hj t (by rw [dstAt_some ho]; exact e)) I.tm.1
      exact ⟨_, by rw [e]; exact put_same hts, NV.rel hH k hk hDx hρx⟩
    · obtain ⟨u', h1, h2⟩ := I.st t u hu fun p hp hlp => by
        by_cases ep : p = j
        · subst ep; rw [dstAt_some ho]; exact e
        · exact ht p hp (by rw [back p ep]; exact hlp)
      exact ⟨u', by rw [put_get e]; exact h1, h2.ext ex⟩
theorem commit_is : ∀ (l : List (Nat × Nat × Ob)) (h : Hp), (l.map fun e => e.2.1).Nodup → HR sz w0 Φ R w h → (∀ p x ob, (p, x, ob) ∈ l → Ex' sz Φ R w h x ob) → (∀ p x ob q y ob', (p, x, ob) ∈ l → (q, y, ob') ∈ l → x ≠ y → R.ρ x ≠ R.ρ y) →
    HR sz w0 Φ R w (commit l h) ∧ (commit l h).next = h.next ∧ (∀ i b, (commit l h).heap.get i = some b → h.heap.get i = some b ∨ ∃ p, (p, i, b) ∈ l)
  | [], h, _, hh, _, _ => ⟨hh, rfl, fun i b hb => .inl hb⟩
  | (p, x, ob) :: l, h, hnd, hh, hE, hne => by
    rw [List.map_cons, List.nodup_cons] at hnd
    obtain ⟨q1, q2, ⟨o, q3, q4⟩, q5⟩ := hE p x ob (List.mem_cons_self ..)
    have hsm := hh.small
    have hxN := hh.dom x q1
    have hget : ∀ j, (h.heap.put 40 x ob).get j = if j = x then some ob else h.heap.get j := fun j => Tr.get_put 40 _ _ _ j (by omega)
    have h1 := hh.putAt (i := x) (b := ob) q1 q2 (fun j c hc _ => q5 j c hc) q3 q4
    obtain ⟨r1, r2, r3⟩ := commit_is l ⟨h.heap.put 40 x ob, h.next, h.tab⟩ hnd.2 h1 (fun p' y ob' hm => by
      obtain ⟨s1, s2, s3, s4⟩ := hE p' y ob' (List.mem_cons_of_mem _ hm)
      refine ⟨s1, s2, s3, fun j c hc => ?_⟩
      dsimp only at hc
      rw [hget] at hc
      by_cases e : j = x
      · subst e
        by_cases e2 : j = y
        · subst e2
          exact absurd (List.mem_map.2 ⟨_, hm, rfl⟩) hnd.1
        · exact hne p j ob p' y ob' (List.mem_cons_self ..) (List.mem_cons_of_mem _ hm) e2
      · rw [if_neg e] at hc
        exact s4 j c hc) (fun p1 y ob1 q z ob2 hm hm2 => hne p1 y ob1 q z ob2 (List.mem_cons_of_mem _ hm) (List.mem_cons_of_mem _ hm2))
    refine ⟨r1, r2, fun i b hb => ?_⟩
    rcases r3 i b hb with hb | ⟨p', hm⟩
    · dsimp only at hb
      rw [hget] at hb
      by_cases e : i = x
      · rw [if_pos e] at hb
        cases hb
        subst e
        exact .inr ⟨p, List.mem_cons_self ..⟩
      · rw [if_neg e] at hb
        exact .inl hb
    · exact .inr ⟨p', List.mem_cons_of_mem _ hm⟩
/-- an operation that every order takes here -/
theorem Inv.eff (I : Inv ty sz w0 Φ ops rd nt R0 done cand al fr h R listed a w) (hst : statB nt ops = true) {i : Nat} {o : Oper} (ho : ops[i]? = some o) (hr : i ∈ Region.ready .any ops listed) (hi : i ∉ done) (hd : ∀ x ∈ depsOf o, x ∈ done) :
    HR sz w (Φ.or fun k => ∃ p x ob, (p, x, ob) ∈ (al.filter fun e => !memN e.1 (anc ops done (depsOf o))) ∧ listed.getD p false = true ∧ k = R.ρ x) R w (commit (al.filter fun e => memN e.1 (anc ops done (depsOf o))) h) ∧
    ∀ {v v' : Value} {fr' : Fr} {R' : Rn} {w' : World} {h' : Hp}, putd nt fr o.dst v = some fr' → Ext R R' →
      HR sz w (Φ.or fun k => ∃ p x ob, (p, x, ob) ∈ (al.filter fun e => !memN e.1 (anc ops done (depsOf o))) ∧ listed.getD p false = true ∧ k = R.ρ x) R' w' h' → VR R' v v' →
      ((cand.filter fun p => !memN p (anc ops done (depsOf o))).all (fun p => memA p (al.filter fun e => !memN e.1 (anc ops done (depsOf o))) || chk1 ty ops fr' h' p)) = true →
      Inv ty sz w0 Φ ops rd nt R0 (i :: done) (cand.filter fun p => !memN p (anc ops done (depsOf o))) (al.filter fun e => !memN e.1 (anc ops done (depsOf o))) fr' h' R' (listed.setIfInBounds i true) (a.put o.dst v') w' := by
  obtain ⟨hl, o2, ho2, hdl⟩ := ready_iff.1 hr
  rw [ho] at ho2
  cases ho2
  obtain ⟨hjs, hlf⟩ := getD_bools hl
  have hset := set_getD hjs
  have hi1 := (Array.getElem?_eq_some_iff.1 ho).1
  have mono : ∀ x, listed.getD x false = true → (listed.setIfInBounds i true).getD x false = true := fun x hx => by rw [hset]; split <;> first | rfl | exact hx
  have back : ∀ x, x ≠ i → (listed.setIfInBounds i true).getD x false = listed.getD x false := fun x hx => by rw [hset, if_neg hx]
  have hanc := anc_is (ops := ops) (L := fun x => listed.getD x false = true) I.clo done (depsOf o) hdl
  generalize hA : anc ops done (depsOf o) = A at hanc
  have m1 : ∀ {p x : Nat} {ob : Ob}, (p, x, ob) ∈ (al.filter fun e => memN e.1 A) ↔ (p, x, ob) ∈ al ∧ p ∈ A := fun {p x ob} => by rw [List.mem_filter, memN_iff]
  have m2 : ∀ {p x : Nat} {ob : Ob}, (p, x, ob) ∈ (al.filter fun e => !memN e.1 A) ↔ (p, x, ob) ∈ al ∧ p ∉ A := fun {p x ob} => by
    rw [List.mem_filter, Bool.not_eq_true', ← Bool.not_eq_true, memN_iff]
  have hE1 : ∀ p x ob, (p, x, ob) ∈ (al.filter fun e => memN e.1 A) → Ex' sz Φ R w h x ob := fun p x ob hm => I.all p x ob (m1.1 hm).1 (hanc p (m1.1 hm).2)
  obtain ⟨hc1, hc2, hc3⟩ := commit_is (al.filter fun e => memN e.1 A) h (I.nd.sublist ((List.filter_sublist ..).map _)) I.hr hE1 fun p x ob q y ob' hm hm2 hne => I.alr p x ob q y ob' (m1.1 hm).1 (m1.1 hm2).1 (hanc p (m1.1 hm).2) (hanc q (m1.1 hm2).2) hne
  generalize hh1 : commit (al.filter fun e => memN e.1 A) h = h1 at hc1 hc2 hc3
  have apart : ∀ p x ob, (p, x, ob) ∈ al → p ∉ A → listed.getD p false = true → ∀ j c, h1.heap.get j = some c → R.ρ j ≠ R.ρ x := fun p x ob hm hpA hpl j c hc => by
    rcases hc3 j c hc with hc | ⟨q, hq⟩
    · exact (I.all p x ob hm hpl).2.2.2 j c hc
    · have hq' := m1.1 hq
      refine I.alr q j c p x ob hq'.1 hm (hanc q hq'.2) hpl fun e => ?_
      subst e
      exact hpA (I.aln q j c p ob hq'.1 hm ▸ hq'.2)
  refine ⟨hc1.narrow (fun k hk => ?_) fun j c hc hx => ?_, fun {v v' fr' R' w' h'} hp he hh' hv hck => ?_⟩
  · obtain ⟨p, x, ob, hm, hpl, rfl⟩ := hk
    obtain ⟨_, _, ⟨o3, q3, _⟩, _⟩ := I.all p x ob (m2.1 hm).1 hpl
    exact (Array.getElem?_eq_some_iff.1 q3).1
  · obtain ⟨p, x, ob, hm, hpl, he⟩ := hx
    exact apart p x ob (m2.1 hm).1 (m2.1 hm).2 hpl j c hc he
  · have hH := hc1.widen hh'
    have hg := putd_get I.tm.2.1 hp
    have hanc2 := anc_is (ops := ops) (L := fun x => listed.getD x false = true) I.clo (List.range ops.size).reverse (depsOf o) hdl
    have hag : ∀ {p : Nat}, p ∈ done → listed.getD p false = false → (∀ t ∈ looks ops p, fr.get t = fr'.get t) ∧ (∀ d, dstAt ops p = some d → fr.get d = fr'.get d) := fun {p} hpd hpl => by
      have hp1 := I.rng p hpd
      have hne : i ≠ p := fun e => hi (e ▸ hpd)
      refine ⟨fun t ht => ?_, fun d hd => ?_⟩
      · rw [hg.2.2 t]
        by_cases e : o.dst = some t
        · rcases (stat_is hst hi1 hp1 (by rw [dstAt_some ho]; exact e)).1 ht with h5 | h5
          · exact absurd (topo_deps I.topo hpd h5.2) hi
          · rw [depsAt_some ho] at h5
            rw [hanc2 p h5] at hpl
            cases hpl
        · rw [if_neg e]
      · rw [hg.2.2 d]
        by_cases e : o.dst = some d
        · exact absurd hd ((stat_is hst hi1 hp1 (by rw [dstAt_some ho]; exact e)).2 hne)
        · rw [if_neg e]
    have ndone : ∀ {p x : Nat} {ob : Ob}, (p, x, ob) ∈ al → p ≠ i := fun hm e => hi (e ▸ (I.alp _ _ _ hm).1)
    refine ⟨by simp [I.size], fun x hx => ?_, fun x hx y hy => ?_, fun p hp hlp => ?_, hH, I.e0.trans he, fun p hp => List.mem_cons_of_mem _ (I.cd p (List.mem_filter.1 hp).1), fun p hp => ?_, fun p hp hlp => ?_, fun p x ob hm => ?_, fun p x ob hm hl hD => ?_, fun p x ob hm hl => ?_,
      fun p x ob y ob' hm hm2 => I.alf p x ob y ob' (m2.1 hm).1 (m2.1 hm2).1, fun p x ob q ob' hm hm2 => I.aln p x ob q ob' (m2.1 hm).1 (m2.1 hm2).1, fun p x ob q y ob' hm hm2 hl hl2 hne => ?_, I.nd.sublist ((List.filter_sublist ..).map _), ⟨by rw [depsAt_some ho]; exact hd, I.topo⟩, fun p hp => ?_, fun p hp d hpd => ?_, ?_, fun t u hu ht => ?_⟩
    · by_cases e : x = i
      · subst e; exact List.mem_cons_self ..
      · rw [back x e] at hx; exact List.mem_cons_of_mem _ (I.sub x hx)
    · by_cases e : x = i
      · subst e
        rw [depsAt_some ho] at hy
        exact mono y (hdl y hy)
      · rw [back x e] at hx
        exact mono y (I.clo x hx y hy)
    · rw [hset] at hlp
      by_cases e : p = i
      · rw [if_pos e] at hlp; cases hlp
      · rw [if_neg e] at hlp
        rcases List.mem_cons.1 hp with h4 | hp
        · exact absurd h4 e
        · refine List.mem_filter.2 ⟨I.pend p hp hlp, ?_⟩
          rw [Bool.not_eq_true', ← Bool.not_eq_true, memN_iff]
          intro hm
          rw [hanc p hm] at hlp
          cases hlp
    · have := List.all_eq_true.1 hck p hp
      rw [Bool.or_eq_true, memA_iff] at this
      rcases this with h1 | h1
      · exact .inl h1
      · exact .inr (chk1_is h1)
    · rw [hset] at hlp
      by_cases e : p = i
      · rw [if_pos e] at hlp; cases hlp
      · rw [if_neg e] at hlp
        rcases List.mem_cons.1 hp with h4 | hp
        · exact absurd h4 e
        · exact I.na p hp hlp
    · obtain ⟨q1, q2, q3, q4⟩ := I.alp p x ob (m2.1 hm).1
      refine ⟨List.mem_cons_of_mem _ q1, Nat.lt_of_lt_of_le q2 he.le, q3, fun hl => ?_⟩
      rw [back p (ndone (m2.1 hm).1)] at hl
      exact (q4 hl).on (hag q1 hl).1 (hag q1 hl).2
    · rw [back p (ndone (m2.1 hm).1)] at hl
      exact I.alu p x ob (m2.1 hm).1 hl (he.nw x hD (I.alp p x ob (m2.1 hm).1).2.1)
    · rw [back p (ndone (m2.1 hm).1)] at hl
      obtain ⟨q1, q2, ⟨o3, q3, q4⟩, q5⟩ := I.all p x ob (m2.1 hm).1 hl
      have hΨ : (Φ.or fun k => ∃ p x ob, (p, x, ob) ∈ (al.filter fun e => !memN e.1 A) ∧ listed.getD p false = true ∧ k = R.ρ x) (R.ρ x) := .inr ⟨p, x, ob, hm, hl, rfl⟩
      refine ⟨he.D x q1, by rw [he.ρ x q1]; exact q2, ⟨o3, by rw [he.ρ x q1, hh'.bel.block _ hΨ]; exact q3, q4.ext he q1⟩, fun j c hc e => ?_⟩
      rw [he.ρ x q1] at e
      exact (hh'.blk j c hc).2.1 (e ▸ hΨ)
    · rw [back p (ndone (m2.1 hm).1)] at hl
      rw [back q (ndone (m2.1 hm2).1)] at hl2
      rw [he.ρ x (I.all p x ob (m2.1 hm).1 hl).1, he.ρ y (I.all q y ob' (m2.1 hm2).1 hl2).1]
      exact I.alr p x ob q y ob' (m2.1 hm).1 (m2.1 hm2).1 hl hl2 hne
    · rcases List.mem_cons.1 hp with rfl | hp
      · exact hi1
      · exact I.rng p hp
    · rcases List.mem_cons.1 hp with rfl | hp
      · rw [dstAt_some ho] at hpd; exact hg.2.1 d hpd
      · exact I.db p hp d hpd
    · rw [hg.1, put_size, put_defs]; exact ⟨I.tm.1, I.tm.2.1, I.tm.2.2.ext he⟩
    · by_cases e : o.dst = some t
      · rw [hg.2.2 t, if_pos e] at hu
        cases hu
        exact ⟨v', by rw [e]; exact put_same (Nat.lt_of_lt_of_le (hg.2.1 t e) I.tm.1), hv⟩
      · rw [hg.2.2 t, if_neg e] at hu
        obtain ⟨u', h1, h2⟩ := I.st t u hu fun p hp hlp => ht p (List.mem_cons_of_mem _ hp) (by rw [back p (fun ep => hi (ep ▸ hp))]; exact hlp)
        exact ⟨u', by rw [put_get e]; exact h1, h2.ext he⟩
theorem all_listed {D : List Nat} (hT : Topo ops D) (hr : ∀ i ∈ D, i < ops.size) (hs : listed.size = ops.size) (h0 : Region.ready .any ops listed = []) : ∀ i ∈ D, listed.getD i false = true := by
  induction D with
  | nil => intro i hi; cases hi
  | cons k l ih =>
    have ihl := ih hT.2 fun i hi => hr i (List.mem_cons_of_mem _ hi)
    intro i hi
    rcases List.mem_cons.1 hi with rfl | hi
    · cases e : listed.getD i false with
      | true => rfl
      | false =>
        exfalso
        have hlt := hr i (List.mem_cons_self ..)
        have : i ∈ Region.ready .any ops listed := ready_iff.2 ⟨getD_bools' (by omega) e, ops[i], Array.getElem?_eq_getElem hlt, fun x hx => ihl x (hT.1 x (by rw [depsAt_some (Array.getElem?_eq_getElem hlt)]; exact hx))⟩
        rw [h0] at this
        cases this
    · exact ihl i hi
end
end Go.Ev
