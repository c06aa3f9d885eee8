/- The law's known runs. -/
import Derived.Test.YtebbbefknfldoaaPtM
import Derived.Test.YtebbbefknfldoaaMtM
import Derived.Test.YtebbbefknfldoaaPut1
import Derived.Deep.RegionHeld3
import Derived.Deep.DeepCutAuto
/- The document's Put, walked. -/
namespace Go.Proofs.Ytebbbefknfldoaa
open Go.ChangeShapes Go.WideShapes Go.ChangeAt Go.RowKit
set_option linter.unusedVariables false
set_option linter.unusedSimpArgs false
set_option maxRecDepth 100000
theorem eqF_at {l : List Eqv} (hnd : (l.map (·.1)).Nodup) {s : List UInt8} : (atF l s = none ∧ eqF l s = none) ∨ ∃ (j : Nat) (q : Eqv), atF l s = some (j : Int) ∧ j < l.length ∧ l[j]? = some q ∧ eqF l s = some q.2 := by
  cases h : atF l s with
  | none => exact .inl ⟨rfl, eqF_no fun i hi => backF_none l _ _ h i (List.mem_range.2 hi)⟩
  | some z =>
    obtain ⟨i, h1, rfl, h3⟩ := atF_some h
    have hq : l[i]? = some l[i] := List.getElem?_eq_getElem h1
    exact .inr ⟨i, l[i], rfl, h1, hq, by rw [← h3, eqF_nm hnd h1, exOf_get hq]⟩
structure LnB (w : World) (g : Nat) (o : Lin) (a : Option Addr) (n c : Nat) : Prop where
  blk : Two w g 29 (.slice a n c) (.int .u32 o.const)
  len : n = o.terms.length
  lies : TmLies w a o.terms
theorem LnB.below {w w' : World} {g : Nat} {o : Lin} {a : Option Addr} {n c : Nat} (h : LnB w g o a n c) (hb : Below w.heap.size w w') : LnB w' g o a n c :=
  ⟨h.blk.below hb (wblk_lt h.blk.heap), h.len, h.lies.below hb (Nat.le_refl _)⟩
theorem forT_can {F : List UInt8 → Option Lin} {t : Tm} (ht : 0 < t.coef ∧ t.coef < 4294967296) (hF : ∀ s e, F s = some e → CanL e) : CanL (forT F t) := by
  unfold forT
  cases h : F t.name with
  | some e => exact mulL_can (hF _ _ h) _
  | none => exact ⟨⟨by simp, fun u hu => by rw [List.mem_singleton.1 hu]; exact ht⟩, ⟨Int.le_refl _, by show (0 : Int) < _; omega⟩⟩
theorem names_put {F : List UInt8 → Option Lin} {S : List (List UInt8)} (hF : ∀ s e, F s = some e → ∀ t ∈ e.terms, t.name ∈ S) : ∀ (ts : List Tm) (o : Lin), (∀ t ∈ ts, t.name ∈ S) → (∀ t ∈ o.terms, t.name ∈ S) → ∀ t ∈ (putR F ts o).terms, t.name ∈ S
  | [], o, _, h => h
  | t :: r, o, h1, h2 => names_put hF r _ (fun u hu => h1 u (by simp [hu])) (fun u hu => by
    obtain ⟨y, hy, e⟩ := mem_norm (show u ∈ norm (o.terms ++ (forT F t).terms) from hu)
    rw [← e]
    rcases List.mem_append.1 hy with hy | hy
    · exact h2 y hy
    · unfold forT at hy
      cases h : F t.name with
      | some e' =>
        rw [h] at hy
        obtain ⟨_, _, z, hz, e2⟩ := mem_timesT (show y ∈ timesT e'.terms t.coef from hy)
        rw [← e2]
        exact hF _ _ h z hz
      | none =>
        rw [h] at hy
        rw [List.mem_singleton.1 hy]
        exact h1 t (by simp))
def oI (F : List UInt8 → Option Lin) (x : Lin) (i : Nat) : Lin := putR F (x.terms.take i) ⟨[], x.const⟩
structure PuS (W0 wr : World) (F : List UInt8 → Option Lin) (x : Lin) (i : Nat) (a : Option Addr) (n c : Nat) : Prop where
  bel : Below W0.heap.size W0 wr
  out : Two wr W0.heap.size 29 (.slice a n c) (.int .u32 (oI F x i).const)
  len : n = (oI F x i).terms.length
  row : wr.ownsRow W0.heap.size 49 2 (.slice a n c) n (rowT (oI F x i).terms)
theorem PuS.lies {W0 wr : World} {F : List UInt8 → Option Lin} {x : Lin} {i : Nat} {a : Option Addr} {n c : Nat} (h : PuS W0 wr F x i a n c) : TmLies wr a (oI F x i).terms := by
  have := h.row
  rw [h.len] at this
  exact own_tmLies this
theorem PuS.step {W0 wr w1 w2 : World} {F : List UInt8 → Option Lin} {x : Lin} {i : Nat} {a a' : Option Addr} {n c n' c' : Nat} {t : Tm} (h : PuS W0 wr F x i a n c) (ht : x.terms[i]? = some t) (hb : Below wr.heap.size wr w1) (hb2 : Below w1.heap.size w1 w2)
    (hl : n' = (addL (oI F x i) (forT F t)).terms.length) (ho : w2.ownsRow w1.heap.size 49 2 (.slice a' n' c') n' (rowT (addL (oI F x i) (forT F t)).terms)) :
    PuS W0 ((w2.setCell ⟨W0.heap.size, 0, none⟩ (.slice a' n' c')).setCell ⟨W0.heap.size, 1, none⟩ (.int .u32 (addL (oI F x i) (forT F t)).const)) F x (i + 1) a' n' c' := by
  have e : oI F x (i + 1) = addL (oI F x i) (forT F t) := putR_take F ht _
  have hlt := wblk_lt h.out.heap
  have h2 := ((h.out.below hb hlt).below hb2 (Nat.lt_of_lt_of_le hlt hb.size)).heap
  obtain ⟨r1, g1⟩ := row_set h2 0 (.slice a' n' c')
  obtain ⟨r2, g2⟩ := row_set r1 1 (.int .u32 (addL (oI F x i) (forT F t)).const)
  have hg := grown_trans g1 g2
  have hbb : Below W0.heap.size W0 w2 := (h.bel.trans (hb.mono h.bel.size)).trans (hb2.mono (Nat.le_trans h.bel.size hb.size))
  refine ⟨hbb.grown hg hbb.size (fun g e => by cases e; exact Nat.le_refl _), ?_, by rw [e]; exact hl, ?_⟩
  · rw [e]
    exact two_of r2
  · rw [e]
    exact own_weaken (own_low ho hg (Nat.lt_of_lt_of_le hlt hb.size)) (Nat.le_trans h.bel.size hb.size)
set_option maxHeartbeats 16000000 in
theorem refPut_any (l : List Eqv) (la : Option Addr) (lc : Nat) (x : Lin) (xa : Option Addr) (xc : Nat) (S : List (List UInt8)) (hS : S.length ≤ 1100000) (hl : l.length ≤ 1000) (hnd : (l.map (·.1)).Nodup) (hcan : ∀ q ∈ l, CanL q.2 ∧ ∀ t ∈ q.2.terms, t.name ∈ S) (hx : CanL x) (hxS : ∀ t ∈ x.terms, t.name ∈ S) (w : World) (hE : EqIn w la l) (hT : TmLies w xa x.terms) :
    Calls Try.prog 19 #[linV (.slice xa x.terms.length xc) x.const, .slice la l.length lc] w fun e w' => Below w.heap.size w w' ∧ ∃ a n c, e = .returned (linV (.slice a n c) (putN (eqF l) x).const) ∧ n = (putN (eqF l) x).terms.length ∧ w'.ownsRow w.heap.size 49 2 (.slice a n c) n (rowT (putN (eqF l) x).terms) := by
  have hF : ∀ s e, eqF l s = some e → CanL e ∧ ∀ t ∈ e.terms, t.name ∈ S := fun s e he => by
    obtain ⟨q, hq, _, rfl⟩ := eqF_some he
    exact hcan q hq
  obtain ⟨F, hFe⟩ : ∃ F, F = eqF l := ⟨_, rfl⟩
  have hcn : ∀ i, CanL (putR F (x.terms.take i) ⟨[], x.const⟩) := fun i => putR_can _ _ _ ⟨Canon.nil, hx.const⟩
  have hfew : ∀ i, (putR F (x.terms.take i) ⟨[], x.const⟩).terms.length ≤ 1100000 := fun i => Nat.le_trans (canon_len (hcn i).terms (S := S) (names_put (fun s e he => (hF s e (by rw [← hFe]; exact he)).2) _ _ (fun t ht => hxS t (List.mem_of_mem_take ht)) (fun t ht => by cases ht))) hS
  have hxfew : x.terms.length ≤ 1100000 := Nat.le_trans (canon_len hx.terms hxS) hS
  have hfind : Hid (∀ W nm, Below w.heap.size w W → Calls Try.prog 34 #[.slice la l.length lc, .string (str nm)] W fun e w' => e = .returned (.int .i64 ((atF l nm).getD (-1))) ∧ w' = W) := fun W nm hb => by
    have := find_any la lc l nm (by omega) W (hE.below hb)
    rw [findF_at hnd] at this
    exact this
  have htimes : Hid (∀ W (q : Eqv) va vc n, q ∈ l → TmLies W va q.2.terms → Calls Try.prog 35 #[linV (.slice va q.2.terms.length vc) q.2.const, .int .u32 n] W fun e w' => Below W.heap.size W w' ∧ ∃ a m c, e = .returned (linV (.slice a m c) (mulL q.2 n).const) ∧ m = (mulL q.2 n).terms.length ∧ w'.ownsRow W.heap.size 49 2 (.slice a m c) m (rowT (mulL q.2 n).terms)) := fun W q va vc n hq hL => by
    have hlen := canon_len (hcan q hq).1.terms (hcan q hq).2
    refine (refTimes_any va vc q.2.terms q.2.const n (by omega) W hL).mono ?_
    rintro e w' ⟨hb, v, rfl, ho⟩
    obtain ⟨a, c, rfl⟩ := own_slice ho
    exact ⟨hb, a, _, c, rfl, rfl, ho⟩
  have hadd : Hid (∀ W a1 c1 (o : Lin) a2 c2 (y : Lin), CanL o → CanL y → o.terms.length ≤ 1100000 → y.terms.length ≤ 1100000 → TmLies W a1 o.terms → TmLies W a2 y.terms → Calls Try.prog 36 #[linV (.slice a1 o.terms.length c1) o.const, linV (.slice a2 y.terms.length c2) y.const] W fun e w' => Below W.heap.size W w' ∧ ∃ a m c, e = .returned (linV (.slice a m c) (addL o y).const) ∧ m = (addL o y).terms.length ∧ w'.ownsRow W.heap.size 49 2 (.slice a m c) m (rowT (addL o y).terms)) := fun W a1 c1 o a2 c2 y ho hy h1 h2 h3 h4 => by
    refine (refAdd_any a1 a2 c1 c2 o.terms y.terms o.const y.const W h3 h4 h1 h2).mono ?_
    rintro e w' ⟨hb, v, rfl, hw⟩
    rw [mrg_add ho.terms hy.terms] at hw
    obtain ⟨a, c, rfl⟩ := own_slice hw
    exact ⟨hb, a, _, c, rfl, rfl, hw⟩
  have hone : ∀ t ∈ x.terms, 0 < t.coef ∧ t.coef < 4294967296 := hx.terms.some
  have hEH := Hid.intro hE
  have hcanH := Hid.intro hcan
  have hFH : Hid (∀ t ∈ x.terms, CanL (forT F t) ∧ (forT F t).terms.length ≤ 1100000) := fun t ht => by
    have h1 : CanL (forT F t) := forT_can (hone t ht) fun s e he => (hF s e (by rw [← hFe]; exact he)).1
    refine ⟨h1, Nat.le_trans (canon_len h1.terms (S := S) fun u hu => ?_) hS⟩
    unfold forT at hu
    cases h : F t.name with
    | some e' =>
      rw [h] at hu
      obtain ⟨_, _, z, hz, e2⟩ := mem_timesT (show u ∈ timesT e'.terms t.coef from hu)
      rw [← e2]
      exact (hF _ _ (by rw [← hFe]; exact h)).2 z hz
    | none =>
      rw [h] at hu
      rw [List.mem_singleton.1 hu]
      exact hxS t ht
  have hcnH : Hid (∀ i, CanL (oI F x i) ∧ (oI F x i).terms.length ≤ 1100000) := fun i => ⟨hcn i, hfew i⟩
  have hres : Hid (oI F x x.terms.length = putN (eqF l) x) := by
    show oI F x x.terms.length = _
    unfold oI
    rw [List.take_length, hFe]
    exact putR_is _ hx.const
  have hat : Hid (∀ s, (atF l s = none ∧ F s = none) ∨ ∃ (j : Nat) (q : Eqv), atF l s = some (j : Int) ∧ j < l.length ∧ l[j]? = some q ∧ F s = some q.2) := fun s => by rw [hFe]; exact eqF_at hnd
  have hTH := Hid.intro hT
  have hs0 : ((w.alloc (.cells #[.slice xa x.terms.length xc, .int .u32 x.const] 29)).alloc (.cells #[.slice none 0 0, .int .u32 0] 29)).heap.size = w.heap.size + 2 := by simp
  have hB0 : Below w.heap.size w ((w.alloc (.cells #[.slice xa x.terms.length xc, .int .u32 x.const] 29)).alloc (.cells #[.slice none 0 0, .int .u32 0] 29)) := (below_alloc w _).alloc (by simp) _
  have hbx : Two ((w.alloc (.cells #[.slice xa x.terms.length xc, .int .u32 x.const] 29)).alloc (.cells #[.slice none 0 0, .int .u32 0] 29)) w.heap.size 29 (.slice xa x.terms.length xc) (.int .u32 x.const) := (two_new w 29 _ _).alloc _
  have hrs : Two ((w.alloc (.cells #[.slice xa x.terms.length xc, .int .u32 x.const] 29)).alloc (.cells #[.slice none 0 0, .int .u32 0] 29)) (w.heap.size + 1) 29 (.slice none 0 0) (.int .u32 0) := by
    have := two_new (w.alloc (.cells #[.slice xa x.terms.length xc, .int .u32 x.const] 29)) 29 (.slice none 0 0) (.int .u32 0)
    simpa using this
  clear hE hcan hT hcn hfew hF hFe hnd hone hx hxS hS
  generalize hxn : x.terms.length = xn at *
  generalize hW0 : ((w.alloc (.cells #[.slice xa xn xc, .int .u32 x.const] 29)).alloc (.cells #[.slice none 0 0, .int .u32 0] 29)) = W0 at *
  have hst : Hid (PuS W0 (W0.alloc (.cells #[.slice none 0 0, .int .u32 x.const] 29)) F x 0 none 0 0) := ⟨below_alloc W0 _, two_new W0 29 _ _, rfl, World.ownsRow_nil _ _ _ _⟩
  obtain ⟨n, hn⟩ : ∃ n, n = l.length := ⟨_, rfl⟩
  have hnH := Hid.intro hn
  have hxnH := Hid.intro hxn
  have hB0H := Hid.intro hB0
  have hbxH := Hid.intro hbx
  have hrsH := Hid.intro hrs
  rw [← hn] at hfind hl ⊢
  obtain ⟨_, b0, b1, _, _⟩ := hbx
  clear hn hxn hB0 hrs
  go_enter Try.func19, Try.ntmps19
  go_wp2
  all_goals first | omega | skip
  clear b0 b1 hW0
  rw [← hs0]
  replace hs0 := Hid.intro hs0
  generalize (W0.alloc (.cells #[.slice none 0 0, .int .u32 x.const] 29)) = W1 at *
  go_loopw [6] (fun v6 wr => ∃ (i : Nat) (a : Option Addr) (m c : Nat), i ≤ xn ∧ v6 = .int .i64 (i : Int) ∧ Hid (PuS W0 wr F x i a m c)) (fun v6 _ => xn - (intOf v6).toNat)
  case atStart => exact ⟨0, none, 0, 0, by omega, by first | rfl | go_num, hst⟩
  case round =>
    clear hst
    obtain ⟨i, a, m, c, hi, rfl, hP⟩ := hrel
    have hbw : Hid (Below w.heap.size w wr) := hB0H.out.trans (hP.out.bel.mono hB0H.out.size)
    obtain ⟨_, b0, b1, _, _⟩ := hbxH.out.below hP.out.bel (wblk_lt hbxH.out.heap)
    obtain ⟨_, o0, o1, f0, f1⟩ := hP.out.out
    have hOlt : Hid (W0.heap.size < wr.heap.size) := wblk_lt hP.out.out.heap
    by_cases hit : i < xn
    · have hit2 : (i : Int) < (xn : Int) := by omega
      obtain ⟨t, ht⟩ : ∃ t, x.terms[i]? = some t := ⟨_, List.getElem?_eq_getElem (by rw [hxnH.out]; exact hit)⟩
      rcases hTH.out with h0 | ⟨gt, ot, rfl, hgt, h3⟩
      · rw [h0] at ht; cases ht
      have htm := h3 i t ht
      have t0 := (hbw.out.cell (p := ⟨gt, _, none⟩) hgt).trans htm.name
      have t1 := (hbw.out.cell (p := ⟨gt, _, none⟩) hgt).trans htm.coef
      have hgtH := Hid.intro hgt
      have hfc0 := hfind.out wr t.name hbw.out
      have hm := Hid.intro (hFH.out t (List.mem_of_getElem? ht))
      have hpost : Hid (∀ w1 ya yn yc yk, Below wr.heap.size wr w1 → TmLies w1 ya (forT F t).terms → yn = (forT F t).terms.length → yk = (forT F t).const → Calls Try.prog 36 #[linV (.slice a m c) (oI F x i).const, linV (.slice ya yn yc) yk] w1 fun e w2 => ∃ a' m' c', e = .returned (linV (.slice a' m' c') (addL (oI F x i) (forT F t)).const) ∧ (w2.cell? ⟨W0.heap.size, 0, none⟩ = some (.slice a m c) ∧ w2.cell? ⟨W0.heap.size, 1, none⟩ = some (.int .u32 (oI F x i).const) ∧ w2.frozen? ⟨W0.heap.size, 0, none⟩ = false ∧ w2.frozen? ⟨W0.heap.size, 1, none⟩ = false) ∧ Hid (PuS W0 ((w2.setCell ⟨W0.heap.size, 0, none⟩ (.slice a' m' c')).setCell ⟨W0.heap.size, 1, none⟩ (.int .u32 (addL (oI F x i) (forT F t)).const)) F x (i + 1) a' m' c')) := fun w1 ya yn yc yk hb hy e1 e2 => by
        subst e1 e2
        have h1 := hadd.out w1 a c (oI F x i) ya yc (forT F t) (hcnH.out i).1 hm.out.1 (hcnH.out i).2 hm.out.2 (hP.out.lies.below hb (Nat.le_refl _)) hy
        rw [← hP.out.len] at h1
        refine h1.mono ?_
        rintro e w2 ⟨hb2, a', m', c', rfl, hm', ho⟩
        obtain ⟨_, p0, p1, p2, p3⟩ := (hP.out.out.below hb hOlt.out).below hb2 (Nat.lt_of_lt_of_le hOlt.out hb.size)
        exact ⟨a', m', c', rfl, ⟨p0, p1, p2, p3⟩, hP.out.step ht hb hb2 hm' ho⟩
      have hb2 : Hid (Below wr.heap.size wr ((wr.alloc (.cells #[.string (str t.name), .int .u32 t.coef] 49)).alloc (.cells #[.slice (some ⟨wr.heap.size, 0, none⟩) 1 1, .int .u32 0] 29))) := (below_alloc wr _).alloc (by simp) _
      have hl2 : Hid (TmLies ((wr.alloc (.cells #[.string (str t.name), .int .u32 t.coef] 49)).alloc (.cells #[.slice (some ⟨wr.heap.size, 0, none⟩) 1 1, .int .u32 0] 29)) (some ⟨wr.heap.size, 0, none⟩) [t]) := by
        have h4 := (two_new wr 49 (.string (str t.name)) (.int .u32 t.coef)).alloc (.cells #[.slice (some ⟨wr.heap.size, 0, none⟩) 1 1, .int .u32 0] 29)
        refine .inr ⟨_, 0, rfl, wblk_lt h4.heap, fun k u hu => ?_⟩
        have : k = 0 := by
          have := (List.getElem?_eq_some_iff.1 hu).1
          simp at this
          exact this
        subst this
        have : t = u := by simpa using hu
        subst this
        exact ⟨h4.c0, h4.c1⟩
      have n1 : ¬ W0.heap.size = wr.heap.size + 1 ∧ ¬ W0.heap.size = wr.heap.size ∧ ¬ wr.heap.size = W0.heap.size ∧ ¬ wr.heap.size + 1 = W0.heap.size := by have := hOlt.out; omega
      obtain ⟨n1, n2, n3, n4⟩ := n1
      obtain ⟨_, q0, q1, _, _⟩ := hP.out.out.below hb2.out hOlt.out
      rcases hat.out t.name with ⟨ha, hFn⟩ | ⟨j, q, ha, hj, hq, hFs⟩
      · rw [ha] at hfc0
        have hfc := Hid.intro hfc0
        have hy : forT F t = ⟨[t], 0⟩ := by unfold forT; rw [hFn]
        have h36 := Hid.intro (hpost.out _ (some ⟨wr.heap.size, 0, none⟩) 1 1 0 hb2.out (by rw [hy]; exact hl2.out) (by rw [hy]; rfl) (by rw [hy]))
        clear hfc0 hy hl2 hb2 hpost ha hFn htm h3
        go_wp2_with (first
          | (go_at_call 34; (with_reducible refine (hfc.out).mono ?_); rintro e w1 ⟨rfl, hw1⟩; subst w1)
          | (go_at_call 36; (with_reducible refine (h36.out).mono ?_); rintro e w2 ⟨a', m', c', rfl, ⟨p0, p1, p2, p3⟩, hfin⟩))
        all_goals first | omega | skip
        go_roundw
        case rel => exact ⟨i + 1, a', m', c', by omega, by go_num, hfin⟩
        case measure => simp [intOf]; omega
      · obtain ⟨gl, ol, rfl, hgl, va, vc, _, s1, s2, hTl⟩ := eqIn_at hEH.out hq
        have hjn : j < n := by rw [hnH.out]; exact hj
        have hjn2 : (j : Int) < (n : Int) := by omega
        have hj0 : (0 : Int) ≤ (j : Int) := by omega
        have hbg : w.heap.size ≤ wr.heap.size := hbw.out.size
        obtain ⟨ql, hql⟩ : ∃ ql, ql = q.2.terms.length := ⟨_, rfl⟩
        rw [← hql] at s1
        have hBW : Hid (∀ W, Below wr.heap.size wr W → Below w.heap.size w W) := fun W hb => hbw.out.trans (hb.mono hbg)
        have hrd : Hid (∀ W, Below wr.heap.size wr W → W.cell? ⟨gl, ol + j * 3 + 1, none⟩ = some (.slice va ql vc) ∧ W.cell? ⟨gl, ol + j * 3 + 2, none⟩ = some (.int .u32 q.2.const) ∧ W.cell? ⟨w.heap.size, 0, none⟩ = some (.slice (some ⟨gt, ot, none⟩) xn xc) ∧ W.cell? ⟨gt, ot + i * 2 + 1, none⟩ = some (.int .u32 t.coef)) := fun W hb => by
          have hw := hBW.out W hb
          have hbb := (hbxH.out.below hP.out.bel (wblk_lt hbxH.out.heap)).below hb (Nat.lt_trans (wblk_lt hbxH.out.heap) hOlt.out)
          exact ⟨(hw.cell (p := ⟨gl, _, none⟩) hgl).trans s1, (hw.cell (p := ⟨gl, _, none⟩) hgl).trans s2, hbb.c0, (hw.cell (p := ⟨gt, _, none⟩) hgtH.out).trans htm.coef⟩
        have hy : forT F t = mulL q.2 t.coef := by unfold forT; rw [hFs]
        have h35 : Hid (∀ W, Below wr.heap.size wr W → Calls Try.prog 35 #[linV (.slice va ql vc) q.2.const, .int .u32 t.coef] W fun e w' => Below W.heap.size W w' ∧ ∃ a2 m2 c2, e = .returned (linV (.slice a2 m2 c2) (forT F t).const) ∧ m2 = (forT F t).terms.length ∧ w'.ownsRow W.heap.size 49 2 (.slice a2 m2 c2) m2 (rowT (forT F t).terms)) := fun W hb => by
          rw [hy, hql]
          exact htimes.out W q va vc t.coef (List.mem_of_getElem? hq) (hTl.below (hBW.out W hb) (Nat.le_refl _))
        have hY : Hid (Two ((wr.alloc (.cells #[.string (str t.name), .int .u32 t.coef] 49)).alloc (.cells #[.slice (some ⟨wr.heap.size, 0, none⟩) 1 1, .int .u32 0] 29)) (wr.heap.size + 1) 29 (.slice (some ⟨wr.heap.size, 0, none⟩) 1 1) (.int .u32 0)) := by
          refine Hid.intro ?_
          have := two_new (wr.alloc (.cells #[.string (str t.name), .int .u32 t.coef] 49)) 29 (.slice (some ⟨wr.heap.size, 0, none⟩) 1 1) (.int .u32 0)
          simpa using this
        have hsz2 : Hid (((wr.alloc (.cells #[.string (str t.name), .int .u32 t.coef] 49)).alloc (.cells #[.slice (some ⟨wr.heap.size, 0, none⟩) 1 1, .int .u32 0] 29)).heap.size = wr.heap.size + 2) := by show _ = _; simp
        rw [ha] at hfc0
        have hfc := Hid.intro hfc0
        clear hfc0 hl2 htm h3 s1 s2 hTl hy hql hFs ha q0 q1
        go_upto_region 8 with (go_at_call 34; (with_reducible refine (hfc.out).mono ?_); rintro e w1 ⟨rfl, hw1⟩; subst w1)
        all_goals first | omega | skip
        clear hfc t0 t1 b0 b1 o0 o1 f0 f1
        generalize ((wr.alloc (.cells #[.string (str t.name), .int .u32 t.coef] 49)).alloc (.cells #[.slice (some ⟨wr.heap.size, 0, none⟩) 1 1, .int .u32 0] 29)) = W2 at *
        obtain ⟨v0, v1, v2, v3⟩ := hrd.out W2 hb2.out
        have m1 : ¬ gl = wr.heap.size + 1 ∧ ¬ w.heap.size = wr.heap.size + 1 ∧ ¬ gt = wr.heap.size + 1 := by have := hgtH.out; omega
        obtain ⟨m1, m2, m3⟩ := m1
        have hYle : wr.heap.size ≤ wr.heap.size + 1 := by omega
        have hYlt : wr.heap.size + 1 < W2.heap.size := by have := hsz2.out; omega
        generalize hYn : wr.heap.size + 1 = Y at *
        have hfinR : Hid (∀ w3 a2 k2 c2, Below wr.heap.size wr w3 → Two w3 Y 29 (.slice (some ⟨wr.heap.size, 0, none⟩) 1 1) (.int .u32 0) → w3.ownsRow W2.heap.size 49 2 (.slice a2 k2 c2) k2 (rowT (forT F t).terms) → k2 = (forT F t).terms.length → Hid (Below wr.heap.size wr ((w3.setCell ⟨Y, 0, none⟩ (.slice a2 k2 c2)).setCell ⟨Y, 1, none⟩ (.int .u32 (forT F t).const))) ∧ Hid (TmLies ((w3.setCell ⟨Y, 0, none⟩ (.slice a2 k2 c2)).setCell ⟨Y, 1, none⟩ (.int .u32 (forT F t).const)) a2 (forT F t).terms) ∧ Hid (k2 = (forT F t).terms.length) ∧ ((w3.setCell ⟨Y, 0, none⟩ (.slice a2 k2 c2)).setCell ⟨Y, 1, none⟩ (.int .u32 (forT F t).const)).cell? ⟨Y, 0, none⟩ = some (.slice a2 k2 c2) ∧ ((w3.setCell ⟨Y, 0, none⟩ (.slice a2 k2 c2)).setCell ⟨Y, 1, none⟩ (.int .u32 (forT F t).const)).cell? ⟨Y, 1, none⟩ = some (.int .u32 (forT F t).const)) := fun w3 a2 k2 c2 hb hT ho hk => by
          obtain ⟨r1, g1⟩ := row_set hT.heap 0 (.slice a2 k2 c2)
          obtain ⟨r2, g2⟩ := row_set r1 1 (.int .u32 (forT F t).const)
          have hg := grown_trans g1 g2
          have h2 := two_of r2
          refine ⟨hb.grown hg hb.size (fun g e => by cases e; exact hYle), ?_, hk, h2.c0, h2.c1⟩
          have h3 := own_low ho hg hYlt
          subst hk
          exact own_tmLies h3
        go_cut [] (fun wx => ∃ ya yn yc, Hid (Below wr.heap.size wr wx) ∧ Hid (TmLies wx ya (forT F t).terms) ∧ Hid (yn = (forT F t).terms.length) ∧ wx.cell? ⟨Y, 0, none⟩ = some (.slice ya yn yc) ∧ wx.cell? ⟨Y, 1, none⟩ = some (.int .u32 (forT F t).const))
        case first =>
          go_region_held3 (fun W => W.cell? ⟨gl, ol + j * 3 + 1, none⟩ = some (.slice va ql vc) ∧ W.cell? ⟨gl, ol + j * 3 + 2, none⟩ = some (.int .u32 q.2.const) ∧ W.cell? ⟨w.heap.size, 0, none⟩ = some (.slice (some ⟨gt, ot, none⟩) xn xc) ∧ W.cell? ⟨gt, ot + i * 2 + 1, none⟩ = some (.int .u32 t.coef)) (first | go_keep | exact hrd.out _ ((hB3.out.setCell (p := ⟨Y, 0, none⟩) hYle _).setCell (p := ⟨Y, 1, none⟩) hYle _))
            ((go_at_call 35; (with_reducible refine (h35.out _ (by first | exact hb2.out | exact hb2.out.drew)).mono ?_); rintro e w3 ⟨hb3, a2, k2, c2, rfl, hk2, hL2⟩; replace hL2 : Hid (w3.ownsRow W2.heap.size 49 2 (.slice a2 k2 c2) k2 (rowT (forT F t).terms)) := hL2; have hB3 : Hid (Below wr.heap.size wr w3) := (by first | exact hb2.out.trans (hb3.mono hb2.out.size) | exact (hb2.out.drew).trans (hb3.mono hb2.out.size)); obtain ⟨x0, x1, x2, x3⟩ := hrd.out w3 hB3.out; have hY3 := Hid.intro (hY.out.below (w' := w3) (B := W2.heap.size) (by first | exact hb3 | exact ((Below.refl _ W2).drew).trans hb3) (wblk_lt hY.out.heap)); obtain ⟨_, y0, y1, y2, y3⟩ := hY3.out; replace hk2 := Hid.intro hk2; clear hb3))
          all_goals (go_wp2_with fail; go_meet)
          all_goals exact ⟨a2, k2, c2, hfinR.out w3 a2 k2 c2 hB3.out hY3.out hL2.out hk2.out⟩
        case rest =>
          obtain ⟨ya, yn, yc, hBx, hLx, hyn, z0, z1⟩ := hcut
          obtain ⟨_, o0, o1, f0, f1⟩ := hP.out.out.below hBx.out hOlt.out
          have h36 := Hid.intro (hpost.out wc ya yn yc _ hBx.out hLx.out hyn.out rfl)
          clear hpost hfinR h35 hrd hBx hLx hyn v0 v1 v2 v3
          go_wp2_with (go_at_call 36; (with_reducible refine (h36.out).mono ?_); rintro e w4 ⟨a', m', c', rfl, ⟨p0, p1, p2, p3⟩, hfin⟩)
          all_goals first | omega | skip
          go_roundw
          case rel => exact ⟨i + 1, a', m', c', by omega, by go_num, hfin⟩
          case measure => simp [intOf]; omega
    · obtain rfl : i = xn := by omega
      have hlt2 : ¬ (i : Int) < (i : Int) := by omega
      have hRlt : Hid (w.heap.size + 1 < W0.heap.size) := wblk_lt hrsH.out.heap
      have hr2 := (hrsH.out.below hP.out.bel hRlt.out).heap
      obtain ⟨_, r0, r1, rf0, rf1⟩ := two_of hr2
      obtain ⟨s1, g1⟩ := row_set hr2 0 (.slice a m c)
      obtain ⟨s2, g2⟩ := row_set s1 1 (.int .u32 (oI F x i).const)
      have hg := grown_trans g1 g2
      have hend := Hid.intro (two_of s2)
      have hbe : Hid (Below w.heap.size w ((wr.setCell ⟨w.heap.size + 1, 0, none⟩ (.slice a m c)).setCell ⟨w.heap.size + 1, 1, none⟩ (.int .u32 (oI F x i).const))) := hbw.out.grown hg hbw.out.size (fun g e => by cases e; omega)
      have hoe : Hid (((wr.setCell ⟨w.heap.size + 1, 0, none⟩ (.slice a m c)).setCell ⟨w.heap.size + 1, 1, none⟩ (.int .u32 (oI F x i).const)).ownsRow w.heap.size 49 2 (.slice a m c) m (rowT (oI F x i).terms)) := own_weaken (own_low hP.out.row hg hRlt.out) hB0H.out.size
      have hle := Hid.intro hP.out.len
      clear s1 s2 g1 g2 hg hr2 hit
      go_wp2
      all_goals first | omega | skip
      obtain ⟨_, z0, z1, _, _⟩ := hend.out
      refine bodyPost_ret (by simp [results, Try.results19, go_sem, z0, z1]; try rfl) rfl ?_
      rw [← hres.out]
      exact ⟨hbe.out, a, m, c, rfl, hle.out, hoe.out⟩
end Go.Proofs.Ytebbbefknfldoaa
namespace Go.Proofs.Ytebbbefknfldoaa
open Go.ChangeShapes Go.WideShapes Go.ChangeAt Go.RowKit
set_option linter.unusedVariables false
set_option linter.unusedSimpArgs false
set_option maxRecDepth 100000
theorem cyc_none {l : List Eqv} (hnd : (l.map (·.1)).Nodup) (hl : l.length < Ta.big) (h : (walkL l).back = []) : ∀ x, ¬ CycN l x := fun x hx => by
  have := (back_has hnd hl x).2 hx
  rw [h] at this
  cases this
theorem cyc_mem {l : List Eqv} (hnd : (l.map (·.1)).Nodup) (hl : l.length < Ta.big) {i : Nat} (hi : i < l.length) : Ta.Cyc (adjF l) i ↔ i ∈ (walkL l).back := by
  have := (walk_right hnd hl).2.1 i
  exact ⟨fun h => this.2 ⟨hi, h⟩, fun h => (this.1 h).2⟩
def k1L : List Eqv := [eqv [97] [98] 2 1, eqv [98] [99] 1 4294967293]
def k1A : List Eqv := [eqv [97] [99] 2 4294967291, eqv [98] [99] 1 4294967293]
def k2L : List Eqv := [eqv [120] [97] 1 0, eqv [97] [98] 1 0, eqv [98] [97] 1 0]
theorem k1_sol : solL k1L = k1A := by
  have h : (walkL k1L).order = [1, 0] := by decide +kernel
  unfold solL
  rw [h]
  have e0 : svF k1L [1, 0] [97] = some ⟨[⟨[99], 2⟩], 4294967291⟩ := by
    have t : ((svF k1L [1, 0] [97]).getD ⟨[], 0⟩).terms = [⟨[99], 2⟩] := by decide +kernel
    have c : ((svF k1L [1, 0] [97]).getD ⟨[], 0⟩).const = 4294967291 := by decide +kernel
    have s : (svF k1L [1, 0] [97]).isSome = true := by decide +kernel
    obtain ⟨e, he⟩ := Option.isSome_iff_exists.1 s
    rw [he] at t c ⊢
    obtain ⟨a, b⟩ := e
    dsimp only [Option.getD_some] at t c
    rw [t, c]
  have e1 : svF k1L [1, 0] [98] = some ⟨[⟨[99], 1⟩], 4294967293⟩ := by
    have t : ((svF k1L [1, 0] [98]).getD ⟨[], 0⟩).terms = [⟨[99], 1⟩] := by decide +kernel
    have c : ((svF k1L [1, 0] [98]).getD ⟨[], 0⟩).const = 4294967293 := by decide +kernel
    have s : (svF k1L [1, 0] [98]).isSome = true := by decide +kernel
    obtain ⟨e, he⟩ := Option.isSome_iff_exists.1 s
    rw [he] at t c ⊢
    obtain ⟨a, b⟩ := e
    dsimp only [Option.getD_some] at t c
    rw [t, c]
  show [(([97] : List UInt8), (svF k1L [1, 0] [97]).getD ⟨[], 0⟩), (([98] : List UInt8), (svF k1L [1, 0] [98]).getD ⟨[], 0⟩)] = _
  rw [e0, e1]
  rfl
theorem canL_one {ot : List UInt8} {n c : Int} (hn : 0 < n ∧ n < 4294967296) (hc : 0 ≤ c ∧ c < 4294967296) : CanL ⟨[⟨ot, n⟩], c⟩ :=
  ⟨⟨by simp, fun t ht => by rw [List.mem_singleton.1 ht]; exact hn⟩, hc⟩
theorem k1_held : ∀ q ∈ k1L, q.1.length ≤ 140737488355328 ∧ CanL q.2 := fun q hq => by
  have : q = eqv [97] [98] 2 1 ∨ q = eqv [98] [99] 1 4294967293 := by simpa [k1L] using hq
  rcases this with rfl | rfl
  · exact ⟨by decide, canL_one (by decide) (by decide)⟩
  · exact ⟨by decide, canL_one (by decide) (by decide)⟩
theorem held_of {l : List Eqv} (h : ∀ q ∈ l, q.1.length ≤ 100 ∧ q.2.terms.length ≤ 100 ∧ ∀ t ∈ q.2.terms, t.name.length ≤ 100) : ∀ q ∈ l, q.1.length ≤ 140737488355328 ∧ q.2.terms.length ≤ 4400000 ∧ ∀ t ∈ q.2.terms, t.name.length ≤ 140737488355328 := fun q hq => ⟨by have := (h q hq).1; omega, by have := (h q hq).2.1; omega, fun t ht => by have := (h q hq).2.2 t ht; omega⟩
theorem k1_run (b1 b2 : Nat) (W : World) (h1 : OfL W b1 ⟨#[98]⟩ 2) (h2 : OfL W b2 ⟨#[99]⟩ 1) :
    Calls Try.prog 8 #[.slice (some ⟨W.heap.size, 0, none⟩) 2 2] (W.alloc (.cells #[.string ⟨#[97]⟩, .slice (some ⟨b1, 0, none⟩) 1 1, .int .u32 1, .string ⟨#[98]⟩, .slice (some ⟨b2, 0, none⟩) 1 1, .int .u32 4294967293] 31)) fun e w' => ∃ g, e = .returned (.tuple #[.slice (some ⟨g, 0, none⟩) 2 2, .int .i64 0, .int .i64 0]) ∧ EqIn w' (some ⟨g, 0, none⟩) k1A ∧ Below W.heap.size W w' := by
  have hE := eqs_made W [([97], [98], 2, 1, b1), ([98], [99], 1, 4294967293, b2)] (fun q hq => by
    have : q = ([97], [98], 2, 1, b1) ∨ q = ([98], [99], 1, 4294967293, b2) := by simpa using hq
    rcases this with rfl | rfl
    · exact h1
    · exact h2)
  have hb := below_alloc W (.cells #[.string ⟨#[97]⟩, .slice (some ⟨b1, 0, none⟩) 1 1, .int .u32 1, .string ⟨#[98]⟩, .slice (some ⟨b2, 0, none⟩) 1 1, .int .u32 4294967293] 31)
  refine (solve_ok k1L _ 2 (by decide) (by decide) k1_held (by decide) (by decide) (cyc_none (by decide) (by decide) (by decide +kernel)) _ hE).mono ?_
  rintro e w' ⟨g, v, rfl, hS⟩
  have h3 := sol_eqIn hS
  rw [k1_sol] at h3
  exact ⟨g, rfl, h3, hb.trans (hS.bel.mono hb.size)⟩
theorem k2_first (m : Nat) (h : FirstC k2L m) : m = 1 := by
  obtain ⟨h1, h2, h3⟩ := h
  have hb : (walkL k2L).back = [1, 2] := by decide +kernel
  have hc : ∀ i, i < k2L.length → (Ta.Cyc (adjF k2L) i ↔ i ∈ [1, 2]) := fun i hi => by rw [cyc_mem (by decide) (by decide) hi, hb]
  have h4 := (hc m h1).1 h2
  have h5 := h3 1 (by decide) ((hc 1 (by decide)).2 (by simp))
  simp at h4
  omega
theorem k2_run (b1 b2 b3 : Nat) (W : World) (h1 : OfL W b1 ⟨#[97]⟩ 1) (h2 : OfL W b2 ⟨#[98]⟩ 1) (h3 : OfL W b3 ⟨#[97]⟩ 1) :
    Calls Try.prog 8 #[.slice (some ⟨W.heap.size, 0, none⟩) 3 3] (W.alloc (.cells #[.string ⟨#[120]⟩, .slice (some ⟨b1, 0, none⟩) 1 1, .int .u32 0, .string ⟨#[97]⟩, .slice (some ⟨b2, 0, none⟩) 1 1, .int .u32 0, .string ⟨#[98]⟩, .slice (some ⟨b3, 0, none⟩) 1 1, .int .u32 0] 31)) fun e w' => e = .returned (.tuple #[.slice none 0 0, .int .i64 1, .int .i64 24]) ∧ Below W.heap.size W w' := by
  have hE := eqs_made W [([120], [97], 1, 0, b1), ([97], [98], 1, 0, b2), ([98], [97], 1, 0, b3)] (fun q hq => by
    have : q = ([120], [97], 1, 0, b1) ∨ q = ([97], [98], 1, 0, b2) ∨ q = ([98], [97], 1, 0, b3) := by simpa using hq
    rcases this with rfl | rfl | rfl
    · exact h1
    · exact h2
    · exact h3)
  have hb := below_alloc W (.cells #[.string ⟨#[120]⟩, .slice (some ⟨b1, 0, none⟩) 1 1, .int .u32 0, .string ⟨#[97]⟩, .slice (some ⟨b2, 0, none⟩) 1 1, .int .u32 0, .string ⟨#[98]⟩, .slice (some ⟨b3, 0, none⟩) 1 1, .int .u32 0] 31)
  refine (solve_bad k2L _ 3 (by decide) (by decide) (held_of (by decide)) ?_ _ hE).mono ?_
  · exact ⟨[97], 1, by decide, (cyc_mem (by decide) (by decide) (by decide)).2 (by decide +kernel), rfl⟩
  · rintro e w' ⟨m, rfl, hm, hb2⟩
    rw [k2_first m hm]
    exact ⟨rfl, hb.trans (hb2.mono hb.size)⟩
theorem k3_run (g b1 b2 : Nat) (W : World) (hE : EqIn W (some ⟨g, 0, none⟩) k1A) (h1 : OfL W b1 ⟨#[99]⟩ 2) (h2 : OfL W b2 ⟨#[99]⟩ 1) :
    Calls Try.prog 18 #[.slice (some ⟨g, 0, none⟩) 2 2, .slice (some ⟨W.heap.size, 0, none⟩) 2 2] (W.alloc (.cells #[.string ⟨#[97]⟩, .slice (some ⟨b1, 0, none⟩) 1 1, .int .u32 4294967291, .string ⟨#[98]⟩, .slice (some ⟨b2, 0, none⟩) 1 1, .int .u32 4294967293] 31)) fun e w' => e = .returned (.bool true) ∧ Below W.heap.size W w' := by
  have hE2 := eqs_made W [([97], [99], 2, 4294967291, b1), ([98], [99], 1, 4294967293, b2)] (fun q hq => by
    have : q = ([97], [99], 2, 4294967291, b1) ∨ q = ([98], [99], 1, 4294967293, b2) := by simpa using hq
    rcases this with rfl | rfl
    · exact h1
    · exact h2)
  have hb := below_alloc W (.cells #[.string ⟨#[97]⟩, .slice (some ⟨b1, 0, none⟩) 1 1, .int .u32 4294967291, .string ⟨#[98]⟩, .slice (some ⟨b2, 0, none⟩) 1 1, .int .u32 4294967293] 31)
  have ht : ∀ x ∈ k1A, x.2.terms.length ≤ 9000000 := by decide
  refine (sameEqus_is k1A k1A (by decide) (by decide) ht ht (some ⟨g, 0, none⟩) (some ⟨W.heap.size, 0, none⟩) 2 2 _ (hE.below hb) hE2).mono ?_
  rintro e w' ⟨rfl, hb2⟩
  exact ⟨by rw [sqB_pos rfl], hb.trans (hb2.mono hb.size)⟩
end Go.Proofs.Ytebbbefknfldoaa
