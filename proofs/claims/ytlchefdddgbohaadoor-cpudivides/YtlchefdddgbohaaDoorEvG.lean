/- A region that draws its order, whole. -/
import Derived.Test.YtlchefdddgbohaaDoorEvF
noncomputable section
namespace Go.Ev
open Go.RowKit
set_option linter.unusedVariables false
set_option linter.unusedSimpArgs false
section
variable {P : Program} {ty : Ty} {sz : Nat → Nat} {w0 : World} {Φ : Fx} {ops : Array Oper} {rd : Option Nat} {nt : Nat} {opE : Fr → Hp → Oper → Option (Value × Hp)}
theorem allmem {l d : List Nat} : (l.all (memN · d)) = true ↔ ∀ x ∈ l, x ∈ d := by
  rw [List.all_eq_true]
  exact ⟨fun h x hx => (memN_iff _ _).1 (h x hx), fun h x hx => (memN_iff _ _).2 (h x hx)⟩
/-- one step of runD -/
theorem runD_cons {i : Nat} {rest done cand : List Nat} {al : List (Nat × Nat × Ob)} {fr : Fr} {h : Hp} {r : Fr × Hp} (he : runD ty opE nt ops (i :: rest) done cand al fr h = some r) :
    ∃ o, ops[i]? = some o ∧ i ∉ done ∧ (∀ x ∈ depsOf o, x ∈ done) ∧
      (anti ops i = false ∧ (∃ v fr', ((wantd ops fr o = some true ∧ operQ ty fr h o = some v) ∨ (wantd ops fr o = some false ∧ v = undef)) ∧ putd nt fr o.dst v = some fr' ∧ runD ty opE nt ops rest (i :: done) (i :: cand) al fr' h = some r) ∨
       anti ops i = false ∧ (∃ k ob fr', wantd ops fr o = some true ∧ operN ty fr o = some (k, ob) ∧ h.next < 500000000 ∧ putd nt fr o.dst (k.val h.next) = some fr' ∧ runD ty opE nt ops rest (i :: done) (i :: cand) ((i, h.next, ob) :: al) fr' ⟨h.heap, h.next + 1, h.tab⟩ = some r) ∨
       (∃ v h' fr', wantd ops fr o = some true ∧ opE fr (commit (al.filter fun e => memN e.1 (anc ops done (depsOf o))) h) o = some (v, h') ∧ putd nt fr o.dst v = some fr' ∧ (∀ j, j < ops.size → j ≠ i → j ∉ done → ¬ ∀ x ∈ depsAt ops j, x ∈ done) ∧
          ((cand.filter fun p => !memN p (anc ops done (depsOf o))).all (fun p => memA p (al.filter fun e => !memN e.1 (anc ops done (depsOf o))) || chk1 ty ops fr' h' p)) = true ∧
          runD ty opE nt ops rest (i :: done) (cand.filter fun p => !memN p (anc ops done (depsOf o))) (al.filter fun e => !memN e.1 (anc ops done (depsOf o))) fr' h' = some r)) := by
  rw [runD] at he
  split at he
  · cases he
  · rename_i o ho
    cases hc : memN i done || !(depsOf o).all (memN · done) with
    | true => rw [hc] at he; cases he
    | false =>
      rw [hc] at he
      dsimp only [cond_false] at he
      rw [Bool.or_eq_false_iff] at hc
      have h1 : i ∉ done := fun hi => by rw [(memN_iff _ _).2 hi] at hc; cases hc.1
      have h2 : ∀ x ∈ depsOf o, x ∈ done := by
        have := hc.2
        rw [Bool.not_eq_false'] at this
        exact allmem.1 this
      refine ⟨o, at_some ho, h1, h2, ?_⟩
      split at he
      · cases he
      · rename_i hw
        cases hna : anti ops i with
        | true => rw [hna] at he; cases he
        | false =>
          rw [hna] at he
          dsimp only [cond_false] at he
          split at he
          · cases he
          · rename_i fr' hp
            exact .inl ⟨rfl, undef, fr', .inr ⟨hw, rfl⟩, hp, he⟩
      · rename_i hw
        split at he
        · rename_i v hv
          cases hna : anti ops i with
          | true => rw [hna] at hv; cases hv
          | false =>
            rw [hna] at hv
            dsimp only [cond_false] at hv
            split at he
            · cases he
            · rename_i fr' hp
              exact .inl ⟨rfl, v, fr', .inl ⟨hw, hv⟩, hp, he⟩
        · split at he
          · rename_i k ob hN
            cases hna : anti ops i with
            | true => rw [hna] at hN; cases hN
            | false =>
            rw [hna] at hN
            dsimp only [cond_false] at hN
            cases hlt : Nat.blt h.next 500000000 with
            | false => rw [hlt] at he; cases he
            | true =>
              rw [hlt] at he
              dsimp only [cond_true] at he
              rw [Nat.blt_eq] at hlt
              split at he
              · cases he
              · rename_i fr' hp
                exact .inr (.inl ⟨rfl, k, ob, fr', hw, hN, hlt, hp, he⟩)
          · split at he
            · cases he
            · rename_i v h' hv
              split at he
              · cases he
              · rename_i fr' hp
                cases hk : (List.range ops.size).all (fun j => Nat.beq j i || memN j done || !(depsAt ops j).all (memN · done)) && ((cand.filter fun p => !memN p (anc ops done (depsOf o))).all (fun p => memA p (al.filter fun e => !memN e.1 (anc ops done (depsOf o))) || chk1 ty ops fr' h' p)) with
                | false => rw [hk] at he; cases he
                | true =>
                  rw [hk] at he
                  rw [Bool.and_eq_true] at hk
                  refine .inr (.inr ⟨v, h', fr', hw, hv, hp, fun j hj hne hnd hall => ?_, hk.2, he⟩)
                  have := List.all_eq_true.1 hk.1 j (List.mem_range.2 hj)
                  simp only [Bool.or_eq_true, Bool.not_eq_true', Tr.beq_iff, decide_eq_true_iff, memN_iff] at this
                  rcases this with (h5 | h5) | h5
                  · exact hne h5
                  · exact hnd h5
                  · rw [allmem.2 hall] at h5; cases h5
theorem runD_cover : ∀ (rest done cand : List Nat) (al : List (Nat × Nat × Ob)) (fr : Fr) (h : Hp) (r : Fr × Hp), runD ty opE nt ops rest done cand al fr h = some r → Topo ops done → (∀ i ∈ done, i < ops.size) →
    ∃ D, Topo ops D ∧ (∀ i ∈ D, i < ops.size) ∧ (∀ j, j < ops.size → j ∈ D)
  | [], done, cand, al, fr, h, r, he, hT, hR => by
    rw [runD] at he
    cases hc : (List.range ops.size).all (memN · done) with
    | false => rw [hc] at he; cases he
    | true => exact ⟨done, hT, hR, fun j hj => allmem.1 hc j (List.mem_range.2 hj)⟩
  | i :: rest, done, cand, al, fr, h, r, he, hT, hR => by
    obtain ⟨o, ho, h1, h2, h3⟩ := runD_cons he
    have hT' : Topo ops (i :: done) := ⟨by rw [depsAt_some ho]; exact h2, hT⟩
    have hR' : ∀ k ∈ i :: done, k < ops.size := fun k hk => by
      rcases List.mem_cons.1 hk with rfl | hk
      · exact (Array.getElem?_eq_some_iff.1 ho).1
      · exact hR k hk
    rcases h3 with ⟨_, v, fr', _, _, h4⟩ | ⟨_, k, ob, fr', _, _, _, _, h4⟩ | ⟨v, h', fr', _, _, _, _, _, h4⟩
    · exact runD_cover rest _ _ _ _ _ r h4 hT' hR'
    · exact runD_cover rest _ _ _ _ _ r h4 hT' hR'
    · exact runD_cover rest _ _ _ _ _ r h4 hT' hR'
variable {R0 : Rn} {done cand : List Nat} {al : List (Nat × Nat × Ob)} {fr : Fr} {h : Hp} {R : Rn} {listed : Array Bool} {a : Act} {w : World}
/-- where none is ready all are done -/
theorem simD_end {rest : List Nat} {frF : Fr} {hF : Hp} {Q : Exit → Act → World → Prop} (he : runD ty opE nt ops rest done cand al fr h = some (frF, hF)) (I : Inv ty sz w0 Φ ops rd nt R0 done cand al fr h R listed a w) (h0 : Region.ready .any ops listed = [])
    (hQ : ∀ R' w' a', Ext R0 R' → HR sz w0 Φ R' w' hF → FR R' rd nt frF a' → Q .normal a' w') : Q .normal a w := by
  obtain ⟨D, hT, hD, hall⟩ := runD_cover _ _ _ _ _ _ _ he I.topo I.rng
  have hl := all_listed hT hD I.size h0
  cases rest with
  | cons i rest =>
    obtain ⟨o, ho, h1, _⟩ := runD_cons he
    exact absurd (I.sub i (hl i (hall i (Array.getElem?_eq_some_iff.1 ho).1))) h1
  | nil =>
    rw [runD] at he
    cases hc : (List.range ops.size).all (memN · done) with
    | false => rw [hc] at he; cases he
    | true =>
      rw [hc] at he
      cases he
      have li : ∀ {p x : Nat} {ob : Ob}, (p, x, ob) ∈ al → listed.getD p false = true := fun hm => hl _ (hall _ (I.rng _ (I.alp _ _ _ hm).1))
      obtain ⟨hH, _, _⟩ := commit_is al h I.nd I.hr (fun p x ob hm => I.all p x ob hm (li hm)) fun p x ob q y ob' hm hm2 hne => I.alr p x ob q y ob' hm hm2 (li hm) (li hm2) hne
      refine hQ R w a I.e0 hH ⟨I.tm.1, I.tm.2.1, I.tm.2.2, fun t v hv => I.st t v hv fun p hp hlp => ?_⟩
      rw [hl p (hall p (I.rng p hp))] at hlp
      cases hlp
theorem notSel_Q {o : Oper} {v : Value} (h : operQ ty fr h o = some v) : ∀ cs c, o.op ≠ .select cs c := fun cs c e => by
  unfold operQ at h
  rw [e] at h
  cases h
theorem nd_N {o : Oper} {p : NV × Ob} (h : operN ty fr o = some p) : ∀ c, o.op ≠ .defer c := fun c e => by
  unfold operN at h
  rw [e] at h
  cases h
theorem pendStep (T : TyOK P ty) (I : Inv ty sz w0 Φ ops rd nt R0 done cand al fr h R listed a w) (hst : statB nt ops = true) {j : Nat} (hj : j ∈ Region.ready .any ops listed) (hd : j ∈ done) {Q : Exit → Act → World → Prop} {K : Act → World → Prop}
    (hK : ∀ R' a' w', Inv ty sz w0 Φ ops rd nt R0 done cand al fr h R' (listed.setIfInBounds j true) a' w' → K a' w') : wpOpIn (FW rd) 0 P ops Q j K a w := by
  have hpend := I.pend j hd (getD_bools (ready_iff.1 hj).1).2
  by_cases hal : ∃ x ob, (j, x, ob) ∈ al
  · obtain ⟨x, ob, hmem⟩ := hal
    obtain ⟨_, _, _, hPn⟩ := I.alp j x ob hmem
    obtain ⟨o, k, ho, hw, hN, hdst⟩ := hPn (getD_bools (ready_iff.1 hj).1).2
    obtain ⟨hF, hag⟩ := I.look hst ho hj
    unfold wpOpIn
    simp only [ho]
    rw [wantd_congr hag] at hw
    rw [operN_congr (opnd hag)] at hN
    rw [wantd_is hF hw, if_pos rfl]
    obtain ⟨hk, o', hrun, hor⟩ := operN_is (P := P) (w := w) T hN hF
    exact wp_val (nd_N hN) hrun (hK _ _ _ (I.finN ho hj hd hmem hk hdst hor))
  · have hna : ∀ x ob, (j, x, ob) ∉ al := fun x ob hm => hal ⟨x, ob, hm⟩
    rcases I.chk j hpend with hc | ⟨o, v, ho, hv, hdst⟩
    · exact absurd hc hal
    · obtain ⟨hF, hag⟩ := I.look hst ho hj
      unfold wpOpIn
      simp only [ho]
      rw [wantd_congr hag, operQ_congr (opnd hag)] at hv
      rcases hv with ⟨h1, h2⟩ | ⟨h1, rfl⟩
      · rw [wantd_is hF h1, if_pos rfl]
        obtain ⟨v', h3, h4⟩ := operQ_is T h2 I.hr hF
        exact wp_val (nd_Q h2) h4 (hK _ _ _ (I.fin ho hj hd hna hdst h3))
      · rw [wantd_is hF h1, if_neg Bool.false_ne_true]
        exact ⟨fun _ _ => trivial, hK _ _ _ (I.fin ho hj hd hna hdst VR.undef)⟩
theorem simD (T : TyOK P ty) (hS : SzOK ty sz) {call : CallF} (hcall : CallS P sz call) (hst : statB nt ops = true) {frF : Fr} {hF : Hp} {Q : Exit → Act → World → Prop} (hQ : ∀ R' w' a', Ext R0 R' → HR sz w0 Φ R' w' hF → FR R' rd nt frF a' → Q .normal a' w') :
    ∀ (fuel : Nat) (rest done cand : List Nat) (al : List (Nat × Nat × Ob)) (fr : Fr) (h : Hp) (R : Rn) (listed : Array Bool) (a : Act) (w : World), runD ty (oper ty call) nt ops rest done cand al fr h = some (frF, hF) → Inv ty sz w0 Φ ops rd nt R0 done cand al fr h R listed a w →
      cnt ops listed ≤ fuel → wpAnyIn (FW rd) 0 P .any ops Q fuel listed a w := by
  intro fuel
  induction fuel with
  | zero =>
    intro rest done cand al fr h R listed a w he I hc
    have h0 : Region.ready .any ops listed = [] := by
      rw [List.eq_nil_iff_forall_not_mem]
      intro j hj
      have h1 := (ready_iff.1 hj).1
      have := cnt_lt (ops := ops) (by have := (getD_bools h1).1; rw [I.size] at this; exact this) h1
      omega
    exact ⟨h0, simD_end he I h0 hQ⟩
  | succ fuel ih =>
    intro rest
    induction rest with
    | nil =>
      intro done cand al fr h R listed a w he I hc
      refine ⟨fun h0 => simD_end he I h0 hQ, fun j hj => ?_⟩
      have h1 := (ready_iff.1 hj).1
      have hjs : j < ops.size := by have := (getD_bools h1).1; rw [I.size] at this; exact this
      have hall : ∀ k, k < ops.size → k ∈ done := by
        have he' := he
        rw [runD] at he'
        cases hc2 : (List.range ops.size).all (memN · done) with
        | false => rw [hc2] at he'; cases he'
        | true => exact fun k hk => allmem.1 hc2 k (List.mem_range.2 hk)
      exact pendStep T I hst hj (hall j hjs) fun R' a' w' I' => ih [] done cand al fr h R' _ a' w' he I' (by have := cnt_lt hjs h1; omega)
    | cons i rest ihr =>
      intro done cand al fr h R listed a w he I hc
      obtain ⟨o, ho, hi, hdp, h3⟩ := runD_cons he
      rcases h3 with ⟨hna, v, fr', hv, hp, h4⟩ | ⟨hna, k, ob, fr', hw, hN, hlt, hp, h4⟩ | ⟨v, h', fr', hw, hE, hp, hon, hck, h4⟩
      · exact ihr _ _ _ fr' h R listed a w h4 (I.take hst hna ho hi hdp hv hp) hc
      · exact ihr _ _ _ fr' _ _ listed a w h4 (I.takeN hst hna ho hi hdp hw hN hlt hp) hc
      · refine ⟨fun h0 => simD_end he I h0 hQ, fun j hj => ?_⟩
        have h1 := (ready_iff.1 hj).1
        have hjs : j < ops.size := by have := (getD_bools h1).1; rw [I.size] at this; exact this
        by_cases hjd : j ∈ done
        · exact pendStep T I hst hj hjd fun R' a' w' I' => ih (i :: rest) done cand al fr h R' _ a' w' he I' (by have := cnt_lt hjs h1; omega)
        · have hji : j = i := Classical.byContradiction fun hne => by
            obtain ⟨_, o', ho', hdl⟩ := ready_iff.1 hj
            exact hon j hjs hne hjd fun x hx => I.sub x (hdl x (by rwa [depsAt_some ho'] at hx))
          subst hji
          obtain ⟨hF', hag⟩ := I.look hst ho hj
          unfold wpOpIn
          simp only [ho]
          have hw' := hw
          rw [wantd_congr hag] at hw'
          have hE' := hE
          unfold oper at hE'
          rw [operQ_congr (opnd hag), operE_congr (opnd hag)] at hE'
          rw [wantd_is hF' hw', if_pos rfl]
          obtain ⟨hHn, hgo⟩ := I.eff hst ho hj hi hdp
          exact oper_is T hS call hcall w _ _ _ o v h' hE' R w rd nt a _ _ hHn hF' fun R' w' v' he' hh' hv' => ih rest _ _ _ fr' h' R' _ _ w' h4 (hgo hp he' hh' hv' hck) (by have := cnt_lt hjs h1; omega)
/-- a region that draws -/
def drawn (ty : Ty) (opE : Fr → Hp → Oper → Option (Value × Hp)) (nt : Nat) (ops : Array Oper) (fr : Fr) (h : Hp) : Option (Fr × Hp) :=
  bif statB nt ops then runD ty opE nt ops (ordG ops ops.size []) [] [] [] fr h else none
theorem drawn_is (T : TyOK P ty) (hS : SzOK ty sz) {call : CallF} (hcall : CallS P sz call) (hm : P.follows .mixedOrders = true) : DrS P sz (fun nt ops fr h => drawn ty (oper ty call) nt ops fr h) := by
  intro w0 Φ nt ops fr h frF hF he id R rd w a Q hh hf hQ
  dsimp only at he
  unfold drawn at he
  cases hst : statB nt ops with
  | false => rw [hst] at he; cases he
  | true =>
    rw [hst] at he
    refine wpIn_region_any hm ?_
    have hh' : HR sz w0 Φ R { w with drawn := w.drawn + 1 } h := hh.on ⟨rfl, rfl, rfl, Nat.le_refl _, fun _ _ => rfl⟩ fun _ _ _ => rfl
    have hg : ∀ j, (Array.replicate ops.size false).getD j false = false := fun j => by simp [Array.getElem?_replicate]; split <;> rfl
    refine simD (R0 := R) T hS hcall hst hQ ops.size _ [] [] [] fr h R _ a _ he ?_ ?_
    · constructor
      case size => simp
      case sub => intro j hj; rw [hg] at hj; cases hj
      case clo => intro j hj; rw [hg] at hj; cases hj
      case pend => intro p hp; cases hp
      case hr => exact hh'
      case e0 => exact .refl R
      case cd => intro p hp; cases hp
      case chk => intro p hp; cases hp
      case na => intro p hp; cases hp
      case alp => intro p x ob hm; cases hm
      case alu => intro p x ob hm; cases hm
      case all => intro p x ob hm; cases hm
      case alf => intro p x ob y ob' hm; cases hm
      case aln => intro p x ob q ob' hm; cases hm
      case alr => intro p x ob q y ob' hm; cases hm
      case nd => exact List.nodup_nil
      case topo => trivial
      case rng => intro p hp; cases hp
      case db => intro p hp; cases hp
      case tm => exact ⟨hf.1, hf.2.1, hf.2.2.1⟩
      case st => exact fun t v hv _ => hf.2.2.2 t v hv
    · unfold cnt
      exact Nat.le_trans List.countP_le_length (by simp)
end
end Go.Ev
