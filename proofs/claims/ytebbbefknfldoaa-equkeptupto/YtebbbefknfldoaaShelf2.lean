/- The library's slices.Grow at terms and strconv.AppendUint: the shelf's layings at this program's numbers. -/
import Derived.Test.YtebbbefknfldoaaSortT
import Derived.Shelf.SlGeneric
import Derived.Shelf.Spec.SlicesGrow
import Derived.Shelf.Strconv.AppendInt10
import Derived.Test.YtebbbefknfldoaaProg
/- expr.gather. -/
namespace Go.Proofs.Ytebbbefknfldoaa
open Go.ChangeShapes Go.WideShapes Go.ChangeAt Go.RowKit
set_option linter.unusedVariables false
set_option maxRecDepth 100000
structure GMem (B : Nat) (w : World) (p : Nat) (ts : List Tm) (v : Value) (n : Int) (out : List Tm) (vo : Value) (wr : World) : Prop where
  row : wr.ownsRow B 49 2 v ts.length (rowT ts)
  old : ∀ k, v.ownBlock = some k → k < w.heap.size
  res : Two wr w.heap.size 29 (.slice none 0 0) (.int .u32 0)
  lin : Two wr p 29 vo (.int .u32 n)
  own : wr.ownsRow (p + 1) 49 2 vo out.length (rowT out)
  bel : Below B w wr
  size : p + 1 ≤ wr.heap.size
  lt : w.heap.size < p
theorem GMem.grown {B : Nat} {w : World} {p : Nat} {ts : List Tm} {v : Value} {n : Int} {out : List Tm} {vo : Value} {wr w' : World} (h : GMem B w p ts v n out vo wr) (hB : B ≤ w.heap.size) {q : Nat} (hg : wr.grownBy w' (some q)) (hq : p < q) (hqo : vo.ownBlock ≠ some q) : GMem B w p ts v n out vo w' := by
  have hlt := h.lt
  have hsz := h.size
  refine ⟨h.row.kept hg ?_, h.old, h.res.grown hg (by simp; omega), h.lin.grown hg (by simp; omega), h.own.kept hg (.inr hqo), h.bel.grown hg (by omega) (fun k hk => by cases hk; omega), by have := hg.size; omega, hlt⟩
  cases hv : v.ownBlock with
  | none => exact .inl rfl
  | some k =>
    refine .inr fun e => ?_
    have := h.old k hv
    injection e with e
    omega
theorem GMem.alloc {B : Nat} {w : World} {p : Nat} {ts : List Tm} {v : Value} {n : Int} {out : List Tm} {vo : Value} {wr : World} (h : GMem B w p ts v n out vo wr) (hB : B ≤ w.heap.size) (o : Obj) : GMem B w p ts v n out vo (wr.alloc o) := by
  have hlt := h.lt
  have hsz := h.size
  exact ⟨h.row.alloc o, h.old, h.res.alloc o, h.lin.alloc o, h.own.alloc o, h.bel.alloc (by omega) o, by simp; omega, hlt⟩
theorem GMem.drewN {B : Nat} {w : World} {p : Nat} {ts : List Tm} {v : Value} {n : Int} {out : List Tm} {vo : Value} {wr : World} (h : GMem B w p ts v n out vo wr) (m : Nat) : GMem B w p ts v n out vo (wr.drewN m) :=
  ⟨h.row, h.old, two_of h.res.heap, two_of h.lin.heap, h.own, ⟨h.bel.os, h.bel.tape, h.bel.output, h.bel.size, h.bel.block⟩, h.size, h.lt⟩
structure GSt (B : Nat) (w : World) (p : Nat) (ts : List Tm) (v : Value) (n : Int) (i : Nat) (out : List Tm) (vo : Value) (wr : World) : Prop where
  le : i ≤ ts.length
  few : out.length ≤ i
  eq : gather ts = out ++ gather (ts.drop i)
  mem : GMem B w p ts v n out vo wr
structure ISt (B : Nat) (w : World) (p : Nat) (ts : List Tm) (v : Value) (n : Int) (q j : Nat) (nm : List UInt8) (c : Int) (out : List Tm) (vo : Value) (wr : World) : Prop where
  le : j ≤ ts.length
  eq : gather ts = out ++ gat nm c (ts.drop j)
  mem : GMem B w p ts v n out vo wr
  all : Two wr q 49 (.string (str nm)) (.int .u32 c)
  lt : p < q
  own : ∀ k, vo.ownBlock = some k → k < q
theorem drop_at {α : Type} (ts : List α) (i : Nat) (t : α) (h : ts[i]? = some t) : ts.drop i = t :: ts.drop (i + 1) := by
  obtain ⟨hi, he⟩ := List.getElem?_eq_some_iff.1 h
  rw [List.drop_eq_getElem_cons hi, he]
theorem ISt.drewN {B : Nat} {w : World} {p : Nat} {ts : List Tm} {v : Value} {n : Int} {q j : Nat} {nm : List UInt8} {c : Int} {out : List Tm} {vo : Value} {wr : World} (h : ISt B w p ts v n q j nm c out vo wr) (m : Nat) : ISt B w p ts v n q j nm c out vo (wr.drewN m) :=
  ⟨h.le, h.eq, h.mem.drewN m, two_of h.all.heap, h.lt, h.own⟩
theorem ISt.more {B : Nat} {w : World} {p : Nat} {ts : List Tm} {v : Value} {n : Int} {q j : Nat} {nm : List UInt8} {c : Int} {out : List Tm} {vo : Value} {wr : World} (h : ISt B w p ts v n q j nm c out vo wr) (hB : B ≤ w.heap.size) (t : Tm) (ht : ts[j]? = some t) (hn : t.name = nm) :
    ISt B w p ts v n q (j + 1) nm ((c + t.coef) % 4294967296) out vo (wr.setCell ⟨q, 1, none⟩ (.int .u32 ((c + t.coef) % 4294967296))) := by
  have hj := (List.getElem?_eq_some_iff.1 ht).1
  obtain ⟨s1, s2⟩ := two_put1 h.all (.int .u32 ((c + t.coef) % 4294967296))
  exact ⟨by omega, by rw [h.eq, drop_at ts j t ht, gat_same _ _ _ _ hn], h.mem.grown hB s2 h.lt (fun e => by have := h.own _ e; omega), s1, h.lt, h.own⟩
theorem ISt.ends {B : Nat} {w : World} {p : Nat} {ts : List Tm} {v : Value} {n : Int} {q j : Nat} {nm : List UInt8} {c : Int} {out : List Tm} {vo : Value} {wr : World} (h : ISt B w p ts v n q j nm c out vo wr) (hj : ∀ t, ts[j]? = some t → t.name ≠ nm) : gather ts = out ++ emit nm c (gather (ts.drop j)) := by
  rw [h.eq]
  congr 1
  cases ht : ts[j]? with
  | none =>
    rw [List.drop_eq_nil_of_le (by simpa using ht)]
    rfl
  | some t =>
    rw [drop_at ts j t ht, gat_other _ _ _ _ (hj t ht)]
theorem GSt.skip {B : Nat} {w : World} {p : Nat} {ts : List Tm} {v : Value} {n : Int} {q j : Nat} {nm : List UInt8} {c : Int} {out : List Tm} {vo : Value} {wr : World} (h : ISt B w p ts v n q j nm c out vo wr) (hf : out.length < j) (he : gather ts = out ++ emit nm c (gather (ts.drop j))) (hz : c = 0) : GSt B w p ts v n j out vo wr :=
  ⟨h.le, by omega, by rw [he, emit, if_pos hz], h.mem⟩
theorem GSt.push {B : Nat} {w : World} {p : Nat} {ts : List Tm} {v : Value} {n : Int} {q j L c1 : Nat} {nm : List UInt8} {c : Int} {out : List Tm} {a1 : Option Addr} {wr : World} (h : ISt B w p ts v n q j nm c out (.slice a1 L c1) wr) (hB : B ≤ w.heap.size) (hf : out.length < j) (he : gather ts = out ++ emit nm c (gather (ts.drop j))) (hz : c ≠ 0)
    (o : Obj) (v2 : Value) (w3 : World) (hL : L = out.length) (hown : w3.ownsRow (p + 1) 49 2 v2 (L + 1) (rowT out ++ [.string (str nm), .int .u32 c])) (hg : (wr.alloc o).grownBy w3 (Value.slice a1 L c1).ownBlock) :
    Two w3 p 29 (.slice a1 L c1) (.int .u32 n) ∧ GSt B w p ts v n j (out ++ [⟨nm, c⟩]) v2 (w3.setCell ⟨p, 0, none⟩ v2) := by
  have hM := h.mem.alloc hB o
  have hlt := hM.lt
  have hsz := hM.size
  have hs3 := hg.size
  have hnb : ∀ k, (Value.slice a1 L c1).ownBlock = some k → p + 1 ≤ k := fun k hk => (hM.own.lt k hk).1
  have hlin := hM.lin.grown hg (fun e => by have := hnb _ e; omega)
  obtain ⟨s1, s2⟩ := two_put hlin v2
  refine ⟨hlin, h.le, by simp; omega, by rw [he, emit, if_neg hz]; simp, ?_⟩
  have hrow : w3.ownsRow B 49 2 v ts.length (rowT ts) := hM.row.kept hg (by
    cases hv : v.ownBlock with
    | none => exact .inl rfl
    | some k =>
      refine .inr fun e => ?_
      have h1 := hM.old k hv
      have h2 := hnb k e.symm
      omega)
  refine ⟨hrow.kept s2 ?_, hM.old, (hM.res.grown hg (fun e => by have := hnb _ e; omega)).grown s2 (by simp; omega), s1, ?_, ?_, by have := s2.size; omega, hlt⟩
  · cases hv : v.ownBlock with
    | none => exact .inl rfl
    | some k =>
      refine .inr fun e => ?_
      have h1 := hM.old k hv
      injection e with e
      omega
  · refine own_low ?_ s2 (by omega)
    rw [rowT_push, List.length_append, ← hL]
    exact hown
  · exact (hM.bel.grown hg (by omega) (fun k hk => by have := hnb k hk; omega)).grown s2 (by omega) (fun k hk => by cases hk; omega)
theorem own_len {w : World} {lo : Nat} {T : TypeId} {sz : Nat} {a : Option Addr} {c m n : Nat} {xs : List Value} (h : w.ownsRow lo T sz (.slice a m c) n xs) : m = n := by
  obtain ⟨a', c', h2⟩ := own_slice h
  injection h2 with _ h2 _
set_option maxHeartbeats 4000000 in
theorem gather_any (v : Value) (ts0 : List Tm) (n : Int) (B : Nat) (w : World) (hl : ts0.length ≤ 9000000) (hB : B ≤ w.heap.size) (hown : w.ownsRow B 49 2 v ts0.length (rowT ts0)) :
    Calls Try.prog 69 #[v, .int .u32 n] w fun e w' => Below B w w' ∧ ∃ v', e = .returned (linV v' n) ∧ w'.ownsRow w.heap.size 49 2 v' (norm ts0).length (rowT (norm ts0)) := by
  obtain ⟨a0, c0, rfl⟩ := own_slice hown
  obtain ⟨n0, hn0⟩ : ∃ n0, n0 = ts0.length := ⟨_, rfl⟩
  have hs := fun (w : World) (h : w.ownsRow B 49 2 (.slice a0 ts0.length c0) ts0.length (rowT ts0)) => sort_any (.slice a0 ts0.length c0) ts0 B w hl h
  rw [← hn0] at hl hown hs ⊢
  have hsH := Hid.intro hs
  have hownH := Hid.intro hown
  have hnH := Hid.intro hn0
  clear hs hown hn0
  obtain ⟨i0, hi, hz0, hz1, hz2⟩ := info_parts Try.info56
  go_enter Try.func69, Try.ntmps69
  go_wp2_with (go_at_call 77; with_reducible refine (hsH.out _ (hownH.out.alloc _)).mono ?_; rintro e w1 ⟨rfl, ts, hp, hsd, hrow, hg1⟩)
  have hts : n0 = ts.length := by rw [hnH.out]; exact hp.length_eq
  have hnorm : gather ts = norm ts0 := gather_sorted hp hsd
  have hw1 : w.heap.size < w1.heap.size := by have := hg1.size; simp at this; omega
  have hold : ∀ k, (Value.slice a0 n0 c0).ownBlock = some k → B ≤ k ∧ k < w.heap.size := fun k hk => hownH.out.lt k hk
  have hstart : Hid (GSt B w w1.heap.size ts (.slice a0 n0 c0) n 0 [] (.slice none 0 0) (w1.alloc (.cells #[.slice none 0 0, .int .u32 n] 29))) := by
    refine ⟨Nat.zero_le _, by simp, by simp, ?_⟩
    refine ⟨by rw [← hts]; exact hrow.alloc _, fun k hk => (hold k hk).2, ?_, two_new w1 29 _ _, World.ownsRow_nil _ _ _ _, ?_, by simp, hw1⟩
    · exact ((two_new w 29 (.slice none 0 0) (.int .u32 0)).grown hg1 (fun e => by have := (hold _ e).2; omega)).alloc _
    · exact (((below_alloc w _).mono hB).grown hg1 (by simp; omega) (fun k hk => (hold k hk).1)).alloc (by omega) _
  have htsH := Hid.intro hts
  have hnoH := Hid.intro hnorm
  have holdH := Hid.intro hold
  clear hp hsd hrow hg1 hts hnorm hold
  obtain ⟨p, hp⟩ : ∃ p, p = w1.heap.size := ⟨_, rfl⟩
  rw [← hp] at hstart hw1 ⊢
  clear hp
  go_loopw [6] (fun vi wr => ∃ (i : Nat) (out : List Tm) (vo : Value), vi = .int .i64 (i : Int) ∧ Hid (GSt B w p ts (.slice a0 n0 c0) n i out vo wr)) (fun vi _ => n0 - (intOf vi).toNat)
  case atStart => exact ⟨0, [], _, rfl, hstart⟩
  case round =>
    clear hstart
    obtain ⟨i, out, vo, rfl, hS⟩ := hrel
    obtain ⟨a1, c1, rfl⟩ := own_slice hS.out.mem.own
    obtain ⟨L, hL⟩ : ∃ L, L = out.length := ⟨_, rfl⟩
    rw [← hL] at hS
    have hLH := Hid.intro hL
    have hLi : L ≤ i := by rw [hL]; exact hS.out.few
    clear hL
    have hle := hS.out.le
    rw [← htsH.out] at hle
    by_cases hlt : i < n0
    · obtain ⟨t, ht⟩ : ∃ t, ts[i]? = some t := ⟨ts[i]'(by rw [← htsH.out]; exact hlt), List.getElem?_eq_getElem _⟩
      have htH := Hid.intro ht
      clear ht
      have hrow := hS.out.mem.row
      rw [← htsH.out] at hrow
      have hlies := own_tmLies (a := a0) (c := c0) (ts := ts) (by rw [← htsH.out]; exact hrow)
      rcases hlies with hx | ⟨g, o, rfl, hg, hT⟩
      · rw [hx] at htsH; have := htsH.out; simp at this; omega
      obtain ⟨q0, q1⟩ := hT i t htH.out
      clear hT hrow
      go_wp2
      all_goals first | omega | skip
      have hbeg : Hid (ISt B w p ts (.slice (some ⟨g, o, none⟩) n0 c0) n wr.heap.size i t.name 0 out (.slice a1 L c1) (wr.alloc (.cells #[.string (str t.name), .int .u32 0] 49))) :=
        ⟨by rw [← htsH.out]; omega, by rw [hS.out.eq, drop_at ts i t htH.out, gather_gat], hS.out.mem.alloc hB _, two_new wr 49 _ _, by have := hS.out.mem.size; omega, fun k hk => (hS.out.mem.own.lt k hk).2⟩
      have hgold : g < w.heap.size := (holdH.out g rfl).2
      obtain ⟨q, hq⟩ : ∃ q, q = wr.heap.size := ⟨_, rfl⟩
      rw [← hq] at hbeg ⊢
      clear hq q0 q1 hg hS
      go_loopw [6] (fun vj wj => ∃ (j : Nat) (c : Int), i ≤ j ∧ vj = .int .i64 (j : Int) ∧ Hid (ISt B w p ts (.slice (some ⟨g, o, none⟩) n0 c0) n q j t.name c out (.slice a1 L c1) wj)) (fun vj _ => n0 - (intOf vj).toNat)
      case atStart => exact ⟨i, 0, Nat.le_refl _, rfl, hbeg⟩
      case round =>
        clear hbeg
        obtain ⟨j, c, hij, rfl, hI⟩ := hrel
        have hjle := hI.out.le
        rw [← htsH.out] at hjle
        obtain ⟨_, m0, m1, mf0, mf1⟩ := hI.out.all
        obtain ⟨_, l0, l1, lf0, lf1⟩ := hI.out.mem.lin
        have hpq := hI.out.lt
        have hgq : ¬ g = q := by omega
        have hqg : ¬ q = g := by omega
        by_cases hjl : j < n0
        · obtain ⟨t2, ht2⟩ : ∃ t2, ts[j]? = some t2 := ⟨ts[j]'(by rw [← htsH.out]; exact hjl), List.getElem?_eq_getElem _⟩
          have ht2H := Hid.intro ht2
          clear ht2
          have hlies := own_tmLies (a := some ⟨g, o, none⟩) (c := c0) (ts := ts) (by have := hI.out.mem.row; rwa [← htsH.out] at this ⊢)
          rcases hlies with hx | ⟨g', o', hgo, hg', hT⟩
          · rw [hx] at htsH; have := htsH.out; simp at this; omega
          injection hgo with hgo
          injection hgo with hgo1 hgo2 _
          subst hgo1 hgo2
          obtain ⟨x0, x1⟩ := hT j t2 ht2H.out
          clear hT
          by_cases hn : t2.name = t.name
          · have he : ((str t2.name).toList == (str t.name).toList) = true := by simp [hn]
            have hnext := Hid.intro (fun m => (hI.out.drewN m).more hB t2 ht2H.out hn)
            clear hn
            go_wp2
            all_goals first | omega | skip
            go_quiet (fail)
            go_wp2
            all_goals first | omega | skip
            have x0' : (wr.drewN nq).cell? ⟨g, o + j * 2, none⟩ = some (.string (str t2.name)) := x0
            have x1' : (wr.drewN nq).cell? ⟨g, o + j * 2 + 1, none⟩ = some (.int .u32 t2.coef) := x1
            have m0' : (wr.drewN nq).cell? ⟨q, 0, none⟩ = some (.string (str t.name)) := m0
            have m1' : (wr.drewN nq).cell? ⟨q, 1, none⟩ = some (.int .u32 c) := m1
            have mf1' : (wr.drewN nq).frozen? ⟨q, 1, none⟩ = false := mf1
            go_region
            go_wp2
            all_goals first | omega | skip
            go_roundw
            case rel => exact ⟨j + 1, _, by omega, by go_num, Hid.intro (hnext.out (nq + 1))⟩
            case measure => simp [intOf]; omega
          · have he : ((str t2.name).toList == (str t.name).toList) = false := by rw [str_toList, str_toList]; simp [hn]
            have hends := Hid.intro (hI.out.ends (fun t3 h3 => by rw [ht2H.out] at h3; cases h3; exact hn))
            have hij2 : i < j := by
              apply Decidable.byContradiction
              intro hnn
              have : i = j := by omega
              subst this
              have := ht2H.out
              rw [htH.out] at this
              cases this
              exact hn rfl
            clear hn
            have hLo : out.length < j := by rw [← hLH.out]; omega
            by_cases hz : c = 0
            · have hz' : (c != 0) = false := by simp [hz]
              have hfin := Hid.intro (fun nq => GSt.skip (hI.out.drewN nq) (by omega) hends.out hz)
              clear hz
              go_wp2
              all_goals first | omega | skip
              go_quiet (fail)
              go_wp2
              all_goals first | omega | skip
              go_roundw
              case rel => exact ⟨j, out, .slice a1 L c1, rfl, Hid.intro (hfin.out nq)⟩
              case measure => simp [intOf]; omega
            · have hz' : (c != 0) = true := by simp [hz]
              have hfin := Hid.intro (fun nq => GSt.push (hI.out.drewN nq) hB (by omega) hends.out hz)
              clear hz
              have hownH2 := Hid.intro (hI.out.mem.own)
              rw [← hLH.out] at hownH2
              have hszr := hI.out.mem.size
              go_wp2
              all_goals first | omega | skip
              go_quiet (fail)
              have l0' : ∀ o, ((wr.drewN nq).alloc o).cell? ⟨p, 0, none⟩ = some (.slice a1 L c1) := ((hI.out.drewN nq).mem.lin).a0
              have m0' : (wr.drewN nq).cell? ⟨q, 0, none⟩ = some (.string (str t.name)) := m0
              have m1' : (wr.drewN nq).cell? ⟨q, 1, none⟩ = some (.int .u32 c) := m1
              have l00 : (wr.drewN nq).cell? ⟨p, 0, none⟩ = some (.slice a1 L c1) := l0
              go_wp2_with (at_builtin; go_must (refine wpList_append_own_wide _ rfl (.tmp 51) (.tmp 53) 26 rfl (p + 1) 49 i0 (.agg #[.string ⟨#[]⟩, .int .u32 0]) 2 24 Try.underlying26 hi hz0 hz1 hz2 rfl (by decide) (.slice a1 L c1) L (rowT out) rfl (World.ownsRow.alloc (w := wr.drewN nq) hownH2.out _) ⟨wr.heap.size, 0, none⟩ 1 1 [.string (str t.name), .int .u32 c] rfl rfl (cells_new (wr.drewN nq) _ _) (by simp [Value.oneCell']) (by unfold maxLen; omega) (by omega) (by simp; omega) ?_; intro v2 w3 hown3 hgrow3 _; obtain ⟨a2, c2, rfl⟩ := own_slice hown3; have hf2 := Hid.intro (hfin.out nq _ _ w3 hLH.out hown3 hgrow3); obtain ⟨_, p0, p1, pf0, pf1⟩ := hf2.out.1))
              all_goals first | omega | skip
              go_roundw
              case rel => exact ⟨j, out ++ [⟨t.name, c⟩], .slice a2 (L + 1) c2, rfl, Hid.intro hf2.out.2⟩
              case measure => simp [intOf]; omega
        · have hends := Hid.intro (hI.out.ends (fun t3 h3 => by have := (List.getElem?_eq_some_iff.1 h3).1; rw [← htsH.out] at this; omega))
          have hLo : out.length < j := by rw [← hLH.out]; omega
          by_cases hz : c = 0
          · have hz' : (c != 0) = false := by simp [hz]
            have hfin := Hid.intro (fun nq => GSt.skip (hI.out.drewN nq) (by omega) hends.out hz)
            clear hz
            go_wp2
            all_goals first | omega | skip
            go_quiet (fail)
            go_wp2
            all_goals first | omega | skip
            go_roundw
            case rel => exact ⟨j, out, .slice a1 L c1, rfl, Hid.intro (hfin.out nq)⟩
            case measure => simp [intOf]; omega
          · have hz' : (c != 0) = true := by simp [hz]
            have hfin := Hid.intro (fun nq => GSt.push (hI.out.drewN nq) hB (by omega) hends.out hz)
            clear hz
            have hownH2 := Hid.intro (hI.out.mem.own)
            rw [← hLH.out] at hownH2
            have hszr := hI.out.mem.size
            go_wp2
            all_goals first | omega | skip
            go_quiet (fail)
            have l0' : ∀ o, ((wr.drewN nq).alloc o).cell? ⟨p, 0, none⟩ = some (.slice a1 L c1) := ((hI.out.drewN nq).mem.lin).a0
            have m0' : (wr.drewN nq).cell? ⟨q, 0, none⟩ = some (.string (str t.name)) := m0
            have m1' : (wr.drewN nq).cell? ⟨q, 1, none⟩ = some (.int .u32 c) := m1
            have l00 : (wr.drewN nq).cell? ⟨p, 0, none⟩ = some (.slice a1 L c1) := l0
            go_wp2_with (at_builtin; go_must (refine wpList_append_own_wide _ rfl (.tmp 51) (.tmp 53) 26 rfl (p + 1) 49 i0 (.agg #[.string ⟨#[]⟩, .int .u32 0]) 2 24 Try.underlying26 hi hz0 hz1 hz2 rfl (by decide) (.slice a1 L c1) L (rowT out) rfl (World.ownsRow.alloc (w := wr.drewN nq) hownH2.out _) ⟨wr.heap.size, 0, none⟩ 1 1 [.string (str t.name), .int .u32 c] rfl rfl (cells_new (wr.drewN nq) _ _) (by simp [Value.oneCell']) (by unfold maxLen; omega) (by omega) (by simp; omega) ?_; intro v2 w3 hown3 hgrow3 _; obtain ⟨a2, c2, rfl⟩ := own_slice hown3; have hf2 := Hid.intro (hfin.out nq _ _ w3 hLH.out hown3 hgrow3); obtain ⟨_, p0, p1, pf0, pf1⟩ := hf2.out.1))
            all_goals first | omega | skip
            go_roundw
            case rel => exact ⟨j, out ++ [⟨t.name, c⟩], .slice a2 (L + 1) c2, rfl, Hid.intro hf2.out.2⟩
            case measure => simp [intOf]; omega
    · obtain ⟨_, l0, l1, lf0, lf1⟩ := hS.out.mem.lin
      obtain ⟨rh, r0, r1, rf0, rf1⟩ := hS.out.mem.res
      have rhH := Hid.intro rh
      clear rh
      go_wp2
      all_goals first | omega | skip
      have hin : i = ts.length := by rw [← htsH.out]; omega
      have hltp := hS.out.mem.lt
      have hszr := hS.out.mem.size
      obtain ⟨s1, s2⟩ := two_set rhH.out rfl (.slice a1 L c1) (.int .u32 n)
      have hb2 : Below B w ((wr.setCell ⟨w.heap.size, 0, none⟩ (.slice a1 L c1)).setCell ⟨w.heap.size, 1, none⟩ (.int .u32 n)) := hS.out.mem.bel.grown s2 (by omega) (fun j hj => by cases hj; omega)
      generalize ((wr.setCell ⟨w.heap.size, 0, none⟩ (.slice a1 L c1)).setCell ⟨w.heap.size, 1, none⟩ (.int .u32 n)) = w3 at s1 s2 hb2 ⊢
      obtain ⟨_, z0, z1, _, _⟩ := s1
      refine bodyPost_ret (by simp [results, Try.results69, go_sem, z0, z1]; try rfl) rfl ?_
      refine ⟨hb2, _, rfl, ?_⟩
      have hout : out = norm ts0 := by
        have := hS.out.eq
        rw [hin, List.drop_length, hnoH.out] at this
        rw [this]
        exact (List.append_nil out).symm
      have hown := own_weaken (own_low hS.out.mem.own s2 (by omega)) (B := w.heap.size) (by omega)
      rw [hout] at hown
      exact hown
end Go.Proofs.Ytebbbefknfldoaa
namespace Go.Proofs
open Go.Shelf
def Try.laysGrow_ren : Go.Shelf.Ren := ⟨fun | 4 => 80 | n => n, fun | 22 => 26 | 25 => 49 | 3 => 3 | 4 => 4 | 9 => 9 | 20 => 20 | 0 => 0 | n => n, fun | n => n⟩
theorem Try.laysGrow : Go.Proofs.Lays8.n4 Try.prog Try.laysGrow_ren := {
  mixed := by kernel_rfl
  f4 := ⟨Try.f80.name, by decide, Try.func80.trans (congrArg some (by kernel_rfl))⟩
  t0 := Try.underlying0
  a0 := Try.isAgg0
  z0 := Try.sizeOf0
  v0 := Try.zeroValue0
  t3 := Try.underlying3
  a3 := Try.isAgg3
  z3 := Try.sizeOf3
  v3 := Try.zeroValue3
  t4 := Try.underlying4
  a4 := Try.isAgg4
  z4 := Try.sizeOf4
  v4 := Try.zeroValue4
  t9 := Try.underlying9
  a9 := Try.isAgg9
  z9 := Try.sizeOf9
  v9 := Try.zeroValue9
  t20 := Try.underlying20
  a20 := Try.isAgg20
  z20 := Try.sizeOf20
  v20 := Try.zeroValue20
  t22 := Try.underlying26
  a22 := Try.isAgg26
  z22 := Try.sizeOf26
  v22 := Try.zeroValue26 }
end Go.Proofs
