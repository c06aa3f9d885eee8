/- EquKept: its walk. -/
import Derived.Test.YtebbbefknfldoaaBtB
import Derived.Test.YtebbbefknfldoaaCpl
import Derived.Test.YtebbbefknfldoaaCpu
/- EquKept: the book of rows. -/
namespace Go.Proofs.Ytebbbefknfldoaa
open Go.ChangeShapes Go.WideShapes Go.ChangeAt Go.RowKit
set_option linter.unusedVariables false
set_option linter.unusedSimpArgs false
set_option maxRecDepth 100000
def BooksP (w0 w : World) (B m : Nat) (P : Nat → Prop) : Prop :=
  B = w0.heap.size ∧ Below B w0 w ∧ B < w.heap.size ∧ ∃ es a1 a2 c1 c2 held, es.length ≤ m ∧ (0 < m → es ≠ []) ∧ Bk.BS w B es a1 a2 c1 c2 held ∧ Bk.Apart es ∧ ∀ e ∈ es, ∀ g, e.a = some ⟨g, 0, none⟩ → P g ∧ g < w.heap.size
theorem BooksP.start (w : World) : BooksP w (w.alloc (.cells #[.slice none 0 0, .slice none 0 0, .int .i64 0, .bool false] 61)) w.heap.size 0 (fun _ => False) := by
  obtain ⟨h1, h2, h3, h4, es, a1, a2, c1, c2, held, e1, e2, e3, e4, e5⟩ := Bk.Books.start w
  refine ⟨h1, h2, by omega, es, a1, a2, c1, c2, held, e1, e2, e3, e4, fun e he => ?_⟩
  have : es = [] := List.eq_nil_of_length_eq_zero (by omega)
  rw [this] at he
  cases he
theorem BooksP.more {w0 w w1 : World} {B m : Nat} {P : Nat → Prop} (h : BooksP w0 w B m P) (hb : Below w.heap.size w w1) : BooksP w0 w1 B m P := by
  obtain ⟨h1, h2, h3, es, a1, a2, c1, c2, held, e1, e2, ⟨e3, e4⟩, e5, e6⟩ := h
  have hk : Bk.K5 w w1 := fun k T cur hT hk => hb.block k (Array.getElem?_eq_some_iff.1 hk).1
  have hs := hb.size
  exact ⟨h1, h2.trans (hb.mono (by omega)), by omega, es, a1, a2, c1, c2, held, e1, e2, ⟨e3.kept fun k hk => hb.block k hk, fun e he => (e4 e he).kept hk⟩, e5, fun e he g hg => ⟨(e6 e he g hg).1, by have := (e6 e he g hg).2; omega⟩⟩
theorem BooksP.imp {w0 w : World} {B m : Nat} {P Q : Nat → Prop} (h : BooksP w0 w B m P) (hq : ∀ g, g < w.heap.size → P g → Q g) : BooksP w0 w B m Q := by
  obtain ⟨h1, h2, h3, es, a1, a2, c1, c2, held, e1, e2, e3, e5, e6⟩ := h
  exact ⟨h1, h2, h3, es, a1, a2, c1, c2, held, e1, e2, e3, e5, fun e he g hg => ⟨hq g (e6 e he g hg).2 (e6 e he g hg).1, (e6 e he g hg).2⟩⟩
theorem apart_snocP {es : List Bk.Ent} {x : Bk.Ent} {P : Nat → Prop} (h : Bk.Apart es) (hF : ∀ e ∈ es, ∀ g, e.a = some ⟨g, 0, none⟩ → P g) (hx : ∀ g, x.a = some ⟨g, 0, none⟩ → ¬ P g) : Bk.Apart (es ++ [x]) := by
  have key : ∀ (i : Nat) (e : Bk.Ent), (es ++ [x])[i]? = some e → (es[i]? = some e) ∨ (i = es.length ∧ e = x) := by
    intro i e hi
    rw [List.getElem?_append] at hi
    split at hi
    · exact .inl hi
    · have : i - es.length = 0 := by
        apply Decidable.byContradiction
        intro hn
        rw [List.getElem?_eq_none (by simp; omega)] at hi
        cases hi
      rw [this] at hi
      simp at hi
      exact .inr ⟨by omega, hi.symm⟩
  intro i j e1 e2 g h1 h2 g1 g2
  rcases key i e1 h1 with k1 | ⟨k1, rfl⟩
  · rcases key j e2 h2 with k2 | ⟨k2, rfl⟩
    · exact h i j e1 e2 g k1 k2 g1 g2
    · exact absurd (hF e1 (List.mem_of_getElem? k1) g g1) (hx g g2)
  · rcases key j e2 h2 with k2 | ⟨k2, rfl⟩
    · exact absurd (hF e2 (List.mem_of_getElem? k2) g g2) (hx g g1)
    · omega
theorem keepP {w0 w : World} {B m cap : Nat} {P : Nat → Prop} {a0 : Option Addr} {L : List Tm} (h : BooksP w0 w B m P) (hm : m ≤ 999) (hr : w.ownsRow (B + 1) 49 2 (.slice a0 L.length cap) L.length (rowT L)) (hn : ∀ g, a0 = some ⟨g, 0, none⟩ → ¬ P g) (hL : L.length ≤ 9000000) :
    Calls Try.prog 25 #[.pointer (some ⟨B, 0, none⟩), .slice a0 L.length cap] w fun e w' => e = .returned (.tuple #[]) ∧ BooksP w0 w' B (m + 1) (fun g => P g ∨ a0 = some ⟨g, 0, none⟩) ∧ Bk.K5 w w' := by
  obtain ⟨h1, h2, h3, es, a1, a2, c1, c2, held, e1, e2, e3, e5, e6⟩ := h
  have hcap : cap ≤ 9223372036854775807 := by
    rcases hr.2 with ⟨x, _⟩ | ⟨g, c, cur, x, _, _, _, hcm, _⟩
    · simp only [Value.slice.injEq] at x; omega
    · simp only [Value.slice.injEq, true_and] at x; unfold maxLen at hcm; omega
  have hgF : ∀ g, a0 = some ⟨g, 0, none⟩ → g < w.heap.size := fun g hg => by
    subst hg
    exact (World.ownsRow.lt hr g rfl).2
  refine (Bk.keep_any B cap a0 L es a1 a2 c1 c2 held w e3 (by omega) ⟨trivial, hr⟩ hL hcap).mono ?_
  rintro e w' ⟨rfl, wa, wc, j, b1, b2, d1, d2, hd, hj, hS, hk, hb⟩
  have hs := hb.size
  refine ⟨rfl, ⟨h1, h2.trans hb, ?_, _, b1, b2, d1, d2, hd, ?_, fun _ => ?_, hS, ?_, fun e he g hg => ?_⟩, hk⟩
  · have := hS.1.lt
    omega
  · simp
    omega
  · intro hnil
    have := congrArg List.length hnil
    simp at this
    omega
  · exact Bk.apart_drop (apart_snocP e5 (fun e he g hg => (e6 e he g hg).1) (fun g hg => hn g hg)) j
  · rcases List.mem_append.1 (List.mem_of_mem_drop he) with h | h
    · have := e6 e h g hg
      exact ⟨.inl this.1, by omega⟩
    · simp at h
      subst h
      have := hgF g hg
      exact ⟨.inr hg, by omega⟩
theorem apartP {w0 w : World} {B m : Nat} {P : Nat → Prop} (h : BooksP w0 w B m P) (hm : m ≤ 1000) (h0 : 0 < m) :
    Calls Try.prog 26 #[.pointer (some ⟨B, 0, none⟩), .func (.func 27) #[] #[]] w fun e w' => e = .returned (.bool true) ∧ Below B w0 w' := by
  obtain ⟨h1, h2, h3, es, a1, a2, c1, c2, held, e1, e2, e3, e5, e6⟩ := h
  have hne := e2 h0
  obtain ⟨G1, o1, rfl⟩ := e3.1.o1.some_of (by simpa using hne)
  obtain ⟨G2, o2, rfl⟩ := e3.1.o2.some_of (by simpa using hne)
  refine (Bk.apart_any B es G1 o1 G2 o2 c1 c2 held w e3 (by omega) e5).mono ?_
  rintro e w' ⟨rfl, hb⟩
  exact ⟨rfl, h2.trans hb⟩
theorem own_k5 {w w' : World} (hk : Bk.K5 w w') {lo : Nat} {v : Value} {n : Nat} {xs : List Value} (h : w.ownsRow lo 49 2 v n xs) : w'.ownsRow lo 49 2 v n xs := by
  refine ⟨h.1, ?_⟩
  rcases h.2 with h | ⟨g, cap, cu, h1, hB, hh, hr⟩
  · exact .inl h
  · exact .inr ⟨g, cap, cu, h1, hB, (hk g 49 cu (.inl rfl) hh).trans hh, hr⟩
structure KR (w4 : World) (B mc F0 n : Nat) (ma : Option Addr) (v : Nat → Value) (k : Nat) (wr : World) : Prop where
  bk : BooksP w4 wr B mc (fun g => g < F0 ∨ ∃ j, j < k ∧ (v j).ownBlock = some g)
  low : B < F0
  row : ∀ j, j < n → ∃ L : List Tm, L.length ≤ 9000000 ∧ wr.ownsRow F0 49 2 (v j) L.length (rowT L)
  ap : ∀ i, i < n → ∀ j, j < n → i ≠ j → ∀ b, (v i).ownBlock = some b → (v j).ownBlock ≠ some b
  out : n = 0 ∨ ∃ gm cur, ma = some ⟨gm, 0, none⟩ ∧ wr.heap[gm]? = some (.cells cur 31 (0, 0)) ∧ ∀ j, j < n → cur[j * 3 + 1]? = some (v j)
theorem solveK {l : List Eqv} (hS : SolvIn l) (la : Option Addr) (lc : Nat) {w4 w : World} {B mc : Nat} (hE : EqIn w la l) (hb : BooksP w4 w B mc (fun _ => True)) :
    Calls Try.prog 8 #[.slice la l.length lc] w fun e w' => ∃ n ma v i1 i2, e = .returned (.tuple #[.slice ma n n, .int .i64 i1, .int .i64 i2]) ∧ n ≤ 60 ∧ KR w4 B mc w.heap.size n ma v 0 w' := by
  have hb0 : BooksP w4 w B mc (fun g => g < w.heap.size ∨ ∃ j, j < 0 ∧ False) := hb.imp fun g hg _ => .inl hg
  have hlow : B < w.heap.size := hb.2.2.1
  by_cases hc : ∀ x, ¬ CycN l x
  · refine (solve_ok l la lc (by have := hS.len; omega) hS.nd (fun q hq => ⟨hS.nm q hq, hS.can q hq⟩) hS.nms hS.nml hc w hE).mono ?_
    rintro e w' ⟨g, v, rfl, hO⟩
    obtain ⟨cur, c1, c2, c3⟩ := hO.out
    refine ⟨l.length, _, v, _, _, rfl, hS.len, ⟨(hb0.more hO.bel).imp fun g _ hg => ?_, hlow, fun j hj => ?_, hO.ap, .inr ⟨g, cur, rfl, c1, fun j hj => ?_⟩⟩⟩
    · rcases hg with hg | ⟨j, hj, _⟩
      · exact .inl hg
      · omega
    · obtain ⟨e, k1, k2⟩ := hO.row j hj
      have hcan := svF_can l (walkL l).order (nmOf l j) e k1
      refine ⟨e.terms, ?_, k2⟩
      have := canon_len hcan.1.terms hcan.2
      have := hS.nms
      omega
    · obtain ⟨d1, d2, d3⟩ := c3 j hj trivial
      exact d2
  · refine (solve_not hS (Classical.byContradiction fun hn => hc fun x hx => hn ⟨x, hx⟩) la lc w hE).mono ?_
    rintro e w' ⟨m, rfl, _, hbel⟩
    refine ⟨0, none, fun _ => .slice none 0 0, _, _, rfl, by omega, ⟨(hb0.more hbel).imp fun g _ hg => ?_, hlow, fun j hj => by omega, fun j hj => by omega, .inl rfl⟩⟩
    rcases hg with hg | ⟨j, hj, _⟩
    · exact .inl hg
    · omega
theorem KR.keep {w4 wr : World} {B mc F0 n k : Nat} {ma : Option Addr} {v : Nat → Value} (h : KR w4 B mc F0 n ma v k wr) (hk : k < n) (hm : mc ≤ 999) :
    Calls Try.prog 25 #[.pointer (some ⟨B, 0, none⟩), v k] wr fun e w' => e = .returned (.tuple #[]) ∧ KR w4 B (mc + 1) F0 n ma v (k + 1) w' := by
  obtain ⟨L, hL, ho⟩ := h.row k hk
  obtain ⟨a, c, hv⟩ := own_slice ho
  have ho' := ho
  rw [hv] at ho' ⊢
  have hlow := h.low
  refine (keepP h.bk hm (own_weaken ho' (by omega)) (fun g hg => ?_) hL).mono ?_
  · subst hg
    have hob : (v k).ownBlock = some g := by rw [hv]; rfl
    have hlt := ho.lt g hob
    rintro (hg | ⟨j, hj, hb⟩)
    · omega
    · exact h.ap k hk j (by omega) (by omega) g hob hb
  · rintro e w' ⟨rfl, hb, h5⟩
    refine ⟨rfl, hb.imp fun g _ hg => ?_, hlow, fun j hj => ?_, h.ap, ?_⟩
    · rcases hg with (hg | ⟨j, hj, hb⟩) | hg
      · exact .inl hg
      · exact .inr ⟨j, by omega, hb⟩
      · exact .inr ⟨k, by omega, by rw [hv, hg]; rfl⟩
    · obtain ⟨L2, hL2, ho2⟩ := h.row j hj
      exact ⟨L2, hL2, own_k5 h5 ho2⟩
    · rcases h.out with h0 | ⟨gm, cur, e1, e2, e3⟩
      · exact .inl h0
      · exact .inr ⟨gm, cur, e1, (h5 gm 31 cur (.inr rfl) e2).trans e2, e3⟩
def PutO (w w' : World) (e : Ending) : Prop := Below w.heap.size w w' ∧ ∃ (a : Option Addr) (n c : Nat) (k : Int) (L : List Tm), e = .returned (linV (.slice a n c) k) ∧ n = L.length ∧ L.length ≤ 9000000 ∧ w'.ownsRow w.heap.size 49 2 (.slice a L.length c) L.length (rowT L)
theorem putK {l : List Eqv} (hS : SolvIn l) (x : Lin) (hx : CanL x) (h1 : (nmsOf l).length ≤ 1048576) (h2 : x.terms.length ≤ 1048576) (h3 : ∀ t ∈ x.terms, t.name.length ≤ 1048576) (xa la : Option Addr) (xc lc : Nat) (w : World) (hT : TmLies w xa x.terms) (hE : EqIn w la l) :
    Calls Try.prog 12 #[linV (.slice xa x.terms.length xc) x.const, .slice la l.length lc] w fun e w' => PutO w w' e := by
  have hlen : (nmsOf l ++ x.terms.map (·.name)).length ≤ 4400000 := by rw [List.length_append, List.length_map]; omega
  have hcan : ∀ q ∈ l, CanL q.2 ∧ ∀ t ∈ q.2.terms, t.name ∈ nmsOf l ++ x.terms.map (·.name) := fun q hq => ⟨hS.can q hq, fun t ht => List.mem_append_left _ (nms_mem hq ht)⟩
  have hxS : ∀ t ∈ x.terms, t.name ∈ nmsOf l ++ x.terms.map (·.name) := fun t ht => List.mem_append_right _ (List.mem_map.2 ⟨t, ht, rfl⟩)
  refine (putL_any l x (nmsOf l ++ x.terms.map (·.name)) hlen (fun s hs => ?_) hx hxS (by have := hS.len; omega) (fun q hq => ⟨hS.nm q hq, hcan q hq⟩) xa la xc lc w hT hE).mono ?_
  · rcases List.mem_append.1 hs with hs | hs
    · exact hS.nml s hs
    · obtain ⟨t, ht, rfl⟩ := List.mem_map.1 hs
      have := h3 t ht
      omega
  · rintro e w' ⟨hb, v, rfl, ho⟩
    obtain ⟨a, c, rfl⟩ := own_slice ho
    have hfew := canon_len (putN_can (eqF l) x).terms (S := nmsOf l ++ x.terms.map (·.name)) fun t ht => by
      rcases mem_putN ht with ⟨u, hu, e, _⟩ | ⟨s', e', he, u, hu, e⟩
      · rw [← e]
        exact hxS u hu
      · rw [← e]
        obtain ⟨q, hq, _, rfl⟩ := eqF_some he
        exact (hcan q hq).2 u hu
    exact ⟨hb, a, _, c, _, _, rfl, rfl, by omega, ho⟩
theorem PutO.keep {w4 w w' : World} {B mc : Nat} {a : Option Addr} {n c : Nat} {L : List Tm} (hb : BooksP w4 w B mc (fun _ => True)) (hm : mc ≤ 999) (h1 : Below w.heap.size w w') (hn : n = L.length) (hL : L.length ≤ 9000000) (ho : w'.ownsRow w.heap.size 49 2 (.slice a L.length c) L.length (rowT L)) :
    Calls Try.prog 25 #[.pointer (some ⟨B, 0, none⟩), .slice a n c] w' fun e w2 => e = .returned (.tuple #[]) ∧ BooksP w4 w2 B (mc + 1) (fun _ => True) := by
  subst hn
  have hlow : B < w.heap.size := hb.2.2.1
  have hb0 : BooksP w4 w B mc (fun g => g < w.heap.size) := hb.imp fun g hg _ => hg
  refine (keepP (hb0.more h1) hm (own_weaken ho (by omega)) (fun g hg => ?_) hL).mono ?_
  · subst hg
    have := ho.lt g rfl
    omega
  · rintro e w2 ⟨rfl, hb2, _⟩
    exact ⟨rfl, hb2.imp fun _ _ _ => trivial⟩
end Go.Proofs.Ytebbbefknfldoaa
namespace Go.Proofs.Ytebbbefknfldoaa
open Go.ChangeShapes Go.WideShapes Go.ChangeAt Go.RowKit Go.Sort
set_option linter.unusedVariables false
set_option linter.unusedSimpArgs false
set_option maxRecDepth 100000
theorem eqSr_below {w w' : World} {a : Option Addr} {l : List Eqv} (h : EqSr w a l) (hb : Below w.heap.size w w') : EqSr w' a l := by
  rcases h with h | ⟨g, o, ha, hg, h⟩
  · exact .inl h
  · refine .inr ⟨g, o, ha, Nat.lt_of_lt_of_le hg hb.size, fun i x hi => ?_⟩
    obtain ⟨va, vc, h1, h2, h3, h4⟩ := h i x hi
    exact ⟨va, vc, (hb.cell (p := ⟨g, _, none⟩) hg).trans h1, (hb.cell (p := ⟨g, _, none⟩) hg).trans h2, (hb.cell (p := ⟨g, _, none⟩) hg).trans h3, h4.belowK hb⟩
theorem Two.lt {w : World} {g : Nat} {T : TypeId} {x y : Value} (h : Two w g T x y) : g < w.heap.size := wblk_lt h.heap
theorem solvIn_nil : SolvIn [] := ⟨Nat.zero_le _, List.nodup_nil, fun q hq => (by cases hq), fun q hq => (by cases hq), Nat.zero_le _, fun s hs => (by cases hs)⟩
theorem fieldU (gt gd gg : Nat) (a : Option Addr) (n c : Nat) (W : World) : (Instr.field 57 (.agg #[.slice (some ⟨gt, 0, none⟩) 0 0, .slice (some ⟨gd, 0, none⟩) 0 0, .slice a n c, .slice (some ⟨gg, 0, none⟩) 0 0]) 2).run Try.prog W = .ok (.slice a n c) W := by kernel_rfl
theorem fieldL (a : Option Addr) (n c : Nat) (k : Int) (W : World) : (Instr.field 29 (.agg #[.slice a n c, .int .u32 k]) 0).run Try.prog W = .ok (.slice a n c) W := by kernel_rfl
set_option maxHeartbeats 16000000 in
theorem kept_any (l : List Eqv) (la : Option Addr) (lc : Nat) (hI : InL l) (hnm : (nmsOf l).length ≤ 1048576) (x : Lin) (xa : Option Addr) (xc : Nat) (hx2 : x.terms.length ≤ 1048576) (hx3 : ∀ t ∈ x.terms, t.name.length ≤ 1048576) (hx4 : ∀ t ∈ x.terms, 0 ≤ t.coef ∧ t.coef < 4294967296) (hx5 : 0 ≤ x.const ∧ x.const < 4294967296) (w : World) (hE : EqIn w la l) (hSr : EqSr w la l) (hT : TmLies w xa x.terms) :
    Calls Try.prog 7 #[.slice la l.length lc, linV (.slice xa x.terms.length xc) x.const] w fun e w' => e = .returned (.bool true) ∧ Below w.heap.size w w' := by
  have hB0 : Below w.heap.size w (w.alloc (.cells #[.slice xa x.terms.length xc, .int .u32 x.const] 29)) := below_alloc w _
  have hT0 : Two (w.alloc (.cells #[.slice xa x.terms.length xc, .int .u32 x.const] 29)) w.heap.size 29 (.slice xa x.terms.length xc) (.int .u32 x.const) := two_new w 29 _ _
  have h15 : Hid (∀ W, Below w.heap.size w W → Calls Try.prog 15 #[.slice la l.length lc] W fun e w' => e = .returned (.bool (rightB l)) ∧ Below W.heap.size W w') := fun W hb => hI.rightC la lc W (hE.below hb)
  have h16 : Hid (∀ W, Below w.heap.size w W → Calls Try.prog 16 #[linV (.slice xa x.terms.length xc) x.const] W fun e w' => e = .returned (.bool (rightF none x.terms)) ∧ Below W.heap.size W w') := fun W hb => refRight_any xa xc x.terms x.const W (hT.below hb (Nat.le_refl _)) (by omega) (fun t ht => by have := hx3 t ht; omega)
  have h14 := Hid.intro known_any
  have hput : Hid (∀ W la' lc' (l' : List Eqv), SolvIn l' → CanL x → (nmsOf l').length ≤ 1048576 → Below w.heap.size w W → EqIn W la' l' → Calls Try.prog 12 #[linV (.slice xa x.terms.length xc) x.const, .slice la' l'.length lc'] W fun e w' => PutO W w' e) := fun W la' lc' l' hs hc h1 hb hE' => putK hs x hc h1 hx2 hx3 xa la' xc lc' W (hT.below hb (Nat.le_refl _)) hE'
  have hcan : rightF none x.terms = true → CanL x := fun h => ⟨right_canon hx4 h, hx5⟩
  have hEH := Hid.intro hE
  have hSrH := Hid.intro hSr
  have hB0H := Hid.intro hB0
  have hT0H := Hid.intro hT0
  clear hE hSr hT hx2 hx3 hx4 hx5 hB0 hT0
  generalize hxn : x.terms.length = xn at h16 hput hB0H hT0H ⊢
  obtain ⟨bx, hbx⟩ : ∃ bx, bx = rightF none x.terms := ⟨_, rfl⟩
  rw [← hbx] at h16 hcan
  clear hbx
  have hfu := fieldU
  have hfl := fieldL
  by_cases hR : RightP l
  · have hS := hI.right hR
    rw [rightB_pos hR] at h15
    have h18 : Hid (∀ W wa wc, EqIn W la l → EqIn W wa l → Calls Try.prog 18 #[.slice la l.length lc, .slice wa l.length wc] W fun e w' => e = .returned (.bool true) ∧ Below W.heap.size W w') := fun W wa wc h1 h2 => by
      have hlen : l.length ≤ 1100000 := by have := hS.len; omega
      have hts : ∀ y ∈ l, y.2.terms.length ≤ 9000000 := fun y hy => by have := hI.ts y hy; omega
      have := sameEqus_is l l hlen hlen hts hts la wa lc wc W h1 h2
      rw [sqB_pos rfl] at this
      exact this
    have h24 : Hid (∀ W, EqSr W la l → Calls Try.prog 24 #[.agg #[.slice none 0 0, .slice none 0 0, .slice la l.length lc, .slice none 0 0]] W fun e w' => Below W.heap.size W w' ∧ ∃ gt gd gg a c, e = .returned (.agg #[.slice (some ⟨gt, 0, none⟩) 0 0, .slice (some ⟨gd, 0, none⟩) 0 0, .slice a l.length c, .slice (some ⟨gg, 0, none⟩) 0 0]) ∧ EqIn w' a l) := fun W h => copyUnit_any la lc l hS.len (fun y hy => by have := hI.ts y hy; omega) W h
    have h8 : Hid (∀ W w4 B mc, EqIn W la l → BooksP w4 W B mc (fun _ => True) → Calls Try.prog 8 #[.slice la l.length lc] W fun e w' => ∃ n ma v i1 i2, e = .returned (.tuple #[.slice ma n n, .int .i64 i1, .int .i64 i2]) ∧ n ≤ 60 ∧ KR w4 B mc W.heap.size n ma v 0 w') := fun W w4 B mc h1 h2 => solveK hS la lc h1 h2
    have hp1 : Hid (∀ W, CanL x → Below w.heap.size w W → EqIn W la l → Calls Try.prog 12 #[linV (.slice xa xn xc) x.const, .slice la l.length lc] W fun e w' => PutO W w' e) := fun W hc hb hE' => hput.out W la lc l hS hc hnm hb hE'
    have hp2 : Hid (∀ W, CanL x → Below w.heap.size w W → Calls Try.prog 12 #[linV (.slice xa xn xc) x.const, .slice none 0 0] W fun e w' => PutO W w' e) := fun W hc hb => hput.out W none 0 [] solvIn_nil hc (Nat.zero_le _) hb (.inl rfl)
    generalize hn : l.length = n at h15 h18 h24 h8 hp1 ⊢
    clear hput hS hI hR hnm hn hxn
    cases bx with
    | false =>
      clear hp1 hp2 h8 h24 h18 hcan
      obtain ⟨_, y0, y1, _, _⟩ := hT0H.out
      go_enter Try.func7, Try.ntmps7
      go_wp2_with (first
        | (go_at_call 15; (with_reducible refine (h15.out _ hB0H.out).mono ?_); rintro e w2 ⟨rfl, hb2⟩; obtain ⟨_, z0, z1, _, _⟩ := hT0H.out.below hb2 hT0H.out.lt; replace hb2 := Hid.intro hb2; have hB2 := Hid.intro (hB0H.out.trans (hb2.out.mono hB0H.out.size)))
        | (go_at_call 16; (with_reducible refine (h16.out _ hB2.out).mono ?_); rintro e w3 ⟨rfl, hb3⟩; replace hb3 := Hid.intro hb3; have hB3 := Hid.intro (hB2.out.trans (hb3.out.mono hB2.out.size)))
        | (go_at_call 14; (with_reducible refine (h14.out _).mono ?_); rintro e w4 ⟨rfl, hb4⟩))
      all_goals first | omega | skip
      go_ret
      exact ⟨rfl, hB3.out.trans (hb4.mono hB3.out.size)⟩
    | true =>
      have hxc := Hid.intro (hcan rfl)
      clear hcan
      obtain ⟨_, y0, y1, _, _⟩ := hT0H.out
      go_enter Try.func7, Try.ntmps7
      go_upto_region 3 with (first
        | (go_at_call 15; (with_reducible refine (h15.out _ hB0H.out).mono ?_); rintro e w2 ⟨rfl, hb2⟩; obtain ⟨_, z0, z1, _, _⟩ := hT0H.out.below hb2 hT0H.out.lt; replace hb2 := Hid.intro hb2; have hB2 := Hid.intro (hB0H.out.trans (hb2.out.mono hB0H.out.size)))
        | (go_at_call 16; (with_reducible refine (h16.out _ hB2.out).mono ?_); rintro e w3 ⟨rfl, hb3⟩; replace hb3 := Hid.intro hb3; have hB3 := Hid.intro (hB2.out.trans (hb3.out.mono hB2.out.size))))
      all_goals first | omega | skip
      have hT3 := Hid.intro ((hT0H.out.below hb2.out hT0H.out.lt).below hb3.out (Nat.lt_of_lt_of_le hT0H.out.lt hb2.out.size))
      clear hb2 hb3 hB2 z0 z1 y0 y1 hT0H hB0H h15 h16
      go_upto_region 4 with (go_at_call 24; (with_reducible refine (h24.out _ (eqSr_below hSrH.out hB3.out)).mono ?_); rintro e w4 ⟨hb4, gt, gd, gg, wa, wc, rfl, hWa⟩; replace hWa := Hid.intro hWa; replace hb4 := Hid.intro hb4)
      all_goals first | omega | skip
      have hB4 := Hid.intro (hB3.out.trans (hb4.out.mono hB3.out.size))
      have hT4 := Hid.intro (hT3.out.below hb4.out hT3.out.lt)
      clear hT3 hb4 hB3 h24 hSrH
      have hK0 := Hid.intro (BooksP.start w4)
      have hst : Hid (∀ W, Below w4.heap.size w4 W → W.cell? ⟨w.heap.size, 0, none⟩ = some (.slice xa xn xc) ∧ W.cell? ⟨w.heap.size, 1, none⟩ = some (.int .u32 x.const)) := fun W hb => by
        have h1 := hT4.out.below hb hT4.out.lt
        exact ⟨h1.c0, h1.c1⟩
      have hlB : Hid (∀ W, Below w4.heap.size w4 W → Below w.heap.size w W) := fun W hb => hB4.out.trans (hb.mono hB4.out.size)
      go_wp2
      all_goals first | omega | skip
      obtain ⟨B, hBe⟩ : ∃ B, B = w4.heap.size := ⟨_, rfl⟩
      rw [← hBe] at hK0 ⊢
      generalize (w4.alloc (.cells #[.slice none 0 0, .slice none 0 0, .int .i64 0, .bool false] 61)) = w5 at *
      replace hBe := Hid.intro hBe
      go_loopw [7] (fun i wr => ∃ j : Nat, j ≤ 2 ∧ i = .int .i64 j ∧ Hid (∃ m, m ≤ j * 62 ∧ (0 < j → 0 < m) ∧ BooksP w4 wr B m (fun _ => True))) (fun i _ => 2 - (intOf i).toNat)
      case atStart => exact ⟨0, by omega, rfl, Hid.intro ⟨0, by omega, fun h => h, hK0.out.imp fun _ _ _ => trivial⟩⟩
      case round =>
        obtain ⟨j, hj, rfl, hK⟩ := hrel
        clear hK0
        obtain ⟨m, hm, hm0, hK1⟩ := hK.out
        clear hK
        have hbel : Hid (Below w4.heap.size w4 wr) := by have := hK1.2.1; rw [hBe.out] at this; exact this
        replace hK1 := Hid.intro hK1
        by_cases hlt : j < 2
        · have c8 := Hid.intro (h8.out wr w4 B m (hEH.out.below (hlB.out _ hbel.out)) hK1.out)
          have hF0 : Hid (wr.heap.size = wr.heap.size) := rfl
          go_upto_region 9 with (go_at_call 8; (with_reducible refine (c8.out).mono ?_); rintro e w6 ⟨nm, ma, v, i1, i2, rfl, hnm60, hKR⟩; replace hKR := Hid.intro hKR)
          all_goals first | omega | skip
          clear c8 hK1 hbel hF0
          generalize wr.heap.size = F0 at hKR
          go_wp2
          all_goals first | omega | skip
          go_loopw [11] (fun v11 wq => ∃ k : Nat, k ≤ nm ∧ v11 = .int .i64 (k : Int) ∧ Hid (KR w4 B (m + k) F0 nm ma v k wq)) (fun v11 _ => nm - (intOf v11).toNat)
          case atStart => exact ⟨0, by omega, by first | rfl | go_num, hKR⟩
          case round =>
            obtain ⟨k, hk, rfl, hKR2⟩ := hrel
            clear hKR
            by_cases hkn : k < nm
            · obtain ⟨L, hL, ho⟩ := hKR2.out.row k hkn
              obtain ⟨ra, rc, hv⟩ := own_slice ho
              rcases hKR2.out.out with h0 | ⟨gm, cur, rfl, e2, e3⟩
              · omega
              have k1 : wr.cell? ⟨gm, k * 3 + 1, none⟩ = some (.slice ra L.length rc) := by
                rw [cell_of_row wr gm _ _ 31 (0, 0) e2, e3 k hkn, hv]
              have c25 := Hid.intro (hKR2.out.keep hkn (by omega))
              rw [hv] at c25
              generalize L.length = ln at *
              have hkn2 : (k : Int) < (nm : Int) := by omega
              clear e2 e3 ho hv hL
              go_wp2_with (go_at_call 25; (with_reducible refine (c25.out).mono ?_); rintro e wk ⟨rfl, hK2⟩; replace hK2 := Hid.intro hK2)
              all_goals first | omega | skip
              go_roundw
              case rel => exact ⟨k + 1, by omega, by go_num, by rw [← Nat.add_assoc]; exact hK2⟩
              case measure => simp [intOf]; omega
            · obtain rfl : k = nm := by omega
              have hq1 : BooksP w4 wr B (m + k) (fun _ => True) := hKR2.out.bk.imp fun _ _ _ => trivial
              have hbq : Hid (Below w4.heap.size w4 wr) := by have := hq1.2.1; rw [hBe.out] at this; exact this
              replace hq1 := Hid.intro hq1
              have hkn2 : ¬ (k : Int) < (k : Int) := by omega
              obtain ⟨y0, y1⟩ := hst.out _ hbq.out
              have c12 := Hid.intro (hp1.out wr hxc.out (hlB.out _ hbq.out) (hEH.out.below (hlB.out _ hbq.out)))
              clear hKR2 hkn
              go_upto_region 14 with (first
                | (go_at_call 12; (with_reducible refine (c12.out).mono ?_); rintro e w7 ⟨hb7, pa, pn, pc, pk, L, rfl, hpn, hL, ho⟩; have c25 := Hid.intro (PutO.keep hq1.out (by omega) hb7 hpn hL ho); clear hb7 hpn hL ho)
                | (go_at_call 25; (with_reducible refine (c25.out).mono ?_); rintro e w8 ⟨rfl, hq2⟩; replace hq2 := Hid.intro hq2))
              all_goals first | omega | skip
              have hb8 : Hid (Below w4.heap.size w4 w8) := by have := hq2.out.2.1; rw [hBe.out] at this; exact this
              clear y0 y1 c12 c25 hq1 hbq
              obtain ⟨y0, y1⟩ := hst.out _ hb8.out
              have c12 := Hid.intro (hp2.out w8 hxc.out (hlB.out _ hb8.out))
              go_wp2_with (first
                | (go_at_call 12; (with_reducible refine (c12.out).mono ?_); rintro e w9 ⟨hb9, pa2, pn2, pc2, pk2, L2, rfl, hpn2, hL2, ho2⟩; have c25 := Hid.intro (PutO.keep hq2.out (by omega) hb9 hpn2 hL2 ho2); clear hb9 hpn2 hL2 ho2)
                | (go_at_call 25; (with_reducible refine (c25.out).mono ?_); rintro e w10 ⟨rfl, hq3⟩; replace hq3 := Hid.intro hq3))
              all_goals first | omega | skip
              go_roundw
              case rel => exact ⟨j + 1, by omega, by go_num, Hid.intro ⟨m + k + 1 + 1, by omega, fun _ => by omega, hq3.out⟩⟩
              case measure => simp [intOf]; omega
        · obtain rfl : j = 2 := by omega
          have hap := Hid.intro (apartP hK1.out (by omega) (hm0 (by omega)))
          go_wp2_with (first
            | (go_at_call 26; (with_reducible refine (hap.out).mono ?_); rintro e u1 ⟨rfl, hb1⟩; have hu1 : Hid (Below w4.heap.size w4 u1) := (by rw [← hBe.out]; exact hb1); clear hb1)
            | (go_at_call 18; (with_reducible refine (h18.out _ wa wc (hEH.out.below (hlB.out _ hu1.out)) (hWa.out.below hu1.out)).mono ?_); rintro e u2 ⟨rfl, hb2⟩; replace hb2 := Hid.intro hb2)
            | (go_at_call 14; (with_reducible refine (h14.out _).mono ?_); rintro e u3 ⟨rfl, hb3⟩))
          all_goals first | omega | skip
          go_ret
          have h1 := hlB.out _ hu1.out
          have h2 := h1.trans (hb2.out.mono h1.size)
          exact ⟨rfl, h2.trans (hb3.mono h2.size)⟩
  · rw [rightB_neg hR] at h15
    generalize hn : l.length = n at h15 ⊢
    clear hput hcan hfu hfl
    obtain ⟨_, y0, y1, _, _⟩ := hT0H.out
    go_enter Try.func7, Try.ntmps7
    go_wp2_with (first
      | (go_at_call 15; (with_reducible refine (h15.out _ hB0H.out).mono ?_); rintro e w2 ⟨rfl, hb2⟩; replace hb2 := Hid.intro hb2; have hB2 := Hid.intro (hB0H.out.trans (hb2.out.mono hB0H.out.size)))
      | (go_at_call 14; (with_reducible refine (h14.out _).mono ?_); rintro e w4 ⟨rfl, hb4⟩))
    all_goals first | omega | skip
    go_ret
    exact ⟨rfl, hB2.out.trans (hb4.mono hB2.out.size)⟩
end Go.Proofs.Ytebbbefknfldoaa
