/- slices.Concat of two lists of terms; expr.Add. -/
import Derived.Test.YtebbbefknfldoaaWk1
import Derived.Shelf.SlGeneric
import Derived.Shelf.Spec.SlicesGrow
import Derived.Shelf.Strconv.AppendInt10
import Derived.Test.YtebbbefknfldoaaProg
import Derived.Laws.AppendOwnNone
import Derived.Deep.RegionHeld3
/- expr.gather. -/
namespace Go.Proofs.Ytebbbefknfldoaa
open Go.ChangeShapes Go.WideShapes Go.ChangeAt Go.RowKit
set_option linter.unusedVariables false
set_option maxRecDepth 100000
structure GMem (B : Nat) (w : World) (p : Nat) (ts : List Tm) (v : Value) (n : Int) (out : List Tm) (vo : Value) (wr : World) : Prop where
  row : wr.ownsRow B 49 2 v ts.length (rowT ts)
  old : ∀ k, v.ownBlock = some k → k < w.heap.size
  res : Two wr w.heap.size 29 (.slice none 0 0) (.int .u32 0)
  lin : Two wr p 29 vo (.int .u32 n)
  own : wr.ownsRow (p + 1) 49 2 vo out.length (rowT out)
  bel : Below B w wr
  size : p + 1 ≤ wr.heap.size
  lt : w.heap.size < p
theorem GMem.grown {B : Nat} {w : World} {p : Nat} {ts : List Tm} {v : Value} {n : Int} {out : List Tm} {vo : Value} {wr w' : World} (h : GMem B w p ts v n out vo wr) (hB : B ≤ w.heap.size) {q : Nat} (hg : wr.grownBy w' (some q)) (hq : p < q) (hqo : vo.ownBlock ≠ some q) : GMem B w p ts v n out vo w' := by
  have hlt := h.lt
  have hsz := h.size
  refine ⟨h.row.kept hg ?_, h.old, h.res.grown hg (by simp; omega), h.lin.grown hg (by simp; omega), h.own.kept hg (.inr hqo), h.bel.grown hg (by omega) (fun k hk => by cases hk; omega), by have := hg.size; omega, hlt⟩
  cases hv : v.ownBlock with
  | none => exact .inl rfl
  | some k =>
    refine .inr fun e => ?_
    have := h.old k hv
    injection e with e
    omega
theorem GMem.alloc {B : Nat} {w : World} {p : Nat} {ts : List Tm} {v : Value} {n : Int} {out : List Tm} {vo : Value} {wr : World} (h : GMem B w p ts v n out vo wr) (hB : B ≤ w.heap.size) (o : Obj) : GMem B w p ts v n out vo (wr.alloc o) := by
  have hlt := h.lt
  have hsz := h.size
  exact ⟨h.row.alloc o, h.old, h.res.alloc o, h.lin.alloc o, h.own.alloc o, h.bel.alloc (by omega) o, by simp; omega, hlt⟩
theorem GMem.drewN {B : Nat} {w : World} {p : Nat} {ts : List Tm} {v : Value} {n : Int} {out : List Tm} {vo : Value} {wr : World} (h : GMem B w p ts v n out vo wr) (m : Nat) : GMem B w p ts v n out vo (wr.drewN m) :=
  ⟨h.row, h.old, two_of h.res.heap, two_of h.lin.heap, h.own, ⟨h.bel.os, h.bel.tape, h.bel.output, h.bel.size, h.bel.block⟩, h.size, h.lt⟩
structure GSt (B : Nat) (w : World) (p : Nat) (ts : List Tm) (v : Value) (n : Int) (i : Nat) (out : List Tm) (vo : Value) (wr : World) : Prop where
  le : i ≤ ts.length
  few : out.length ≤ i
  eq : gather ts = out ++ gather (ts.drop i)
  mem : GMem B w p ts v n out vo wr
structure ISt (B : Nat) (w : World) (p : Nat) (ts : List Tm) (v : Value) (n : Int) (q j : Nat) (nm : List UInt8) (c : Int) (out : List Tm) (vo : Value) (wr : World) : Prop where
  le : j ≤ ts.length
  eq : gather ts = out ++ gat nm c (ts.drop j)
  mem : GMem B w p ts v n out vo wr
  all : Two wr q 49 (.string (str nm)) (.int .u32 c)
  lt : p < q
  own : ∀ k, vo.ownBlock = some k → k < q
theorem drop_at {α : Type} (ts : List α) (i : Nat) (t : α) (h : ts[i]? = some t) : ts.drop i = t :: ts.drop (i + 1) := by
  obtain ⟨hi, he⟩ := List.getElem?_eq_some_iff.1 h
  rw [List.drop_eq_getElem_cons hi, he]
theorem ISt.drewN {B : Nat} {w : World} {p : Nat} {ts : List Tm} {v : Value} {n : Int} {q j : Nat} {nm : List UInt8} {c : Int} {out : List Tm} {vo : Value} {wr : World} (h : ISt B w p ts v n q j nm c out vo wr) (m : Nat) : ISt B w p ts v n q j nm c out vo (wr.drewN m) :=
  ⟨h.le, h.eq, h.mem.drewN m, two_of h.all.heap, h.lt, h.own⟩
theorem ISt.more {B : Nat} {w : World} {p : Nat} {ts : List Tm} {v : Value} {n : Int} {q j : Nat} {nm : List UInt8} {c : Int} {out : List Tm} {vo : Value} {wr : World} (h : ISt B w p ts v n q j nm c out vo wr) (hB : B ≤ w.heap.size) (t : Tm) (ht : ts[j]? = some t) (hn : t.name = nm) :
    ISt B w p ts v n q (j + 1) nm ((c + t.coef) % 4294967296) out vo (wr.setCell ⟨q, 1, none⟩ (.int .u32 ((c + t.coef) % 4294967296))) := by
  have hj := (List.getElem?_eq_some_iff.1 ht).1
  obtain ⟨s1, s2⟩ := two_put1 h.all (.int .u32 ((c + t.coef) % 4294967296))
  exact ⟨by omega, by rw [h.eq, drop_at ts j t ht, gat_same _ _ _ _ hn], h.mem.grown hB s2 h.lt (fun e => by have := h.own _ e; omega), s1, h.lt, h.own⟩
theorem ISt.ends {B : Nat} {w : World} {p : Nat} {ts : List Tm} {v : Value} {n : Int} {q j : Nat} {nm : List UInt8} {c : Int} {out : List Tm} {vo : Value} {wr : World} (h : ISt B w p ts v n q j nm c out vo wr) (hj : ∀ t, ts[j]? = some t → t.name ≠ nm) : gather ts = out ++ emit nm c (gather (ts.drop j)) := by
  rw [h.eq]
  congr 1
  cases ht : ts[j]? with
  | none =>
    rw [List.drop_eq_nil_of_le (by simpa using ht)]
    rfl
  | some t =>
    rw [drop_at ts j t ht, gat_other _ _ _ _ (hj t ht)]
theorem GSt.skip {B : Nat} {w : World} {p : Nat} {ts : List Tm} {v : Value} {n : Int} {q j : Nat} {nm : List UInt8} {c : Int} {out : List Tm} {vo : Value} {wr : World} (h : ISt B w p ts v n q j nm c out vo wr) (hf : out.length < j) (he : gather ts = out ++ emit nm c (gather (ts.drop j))) (hz : c = 0) : GSt B w p ts v n j out vo wr :=
  ⟨h.le, by omega, by rw [he, emit, if_pos hz], h.mem⟩
theorem GSt.push {B : Nat} {w : World} {p : Nat} {ts : List Tm} {v : Value} {n : Int} {q j L c1 : Nat} {nm : List UInt8} {c : Int} {out : List Tm} {a1 : Option Addr} {wr : World} (h : ISt B w p ts v n q j nm c out (.slice a1 L c1) wr) (hB : B ≤ w.heap.size) (hf : out.length < j) (he : gather ts = out ++ emit nm c (gather (ts.drop j))) (hz : c ≠ 0)
    (o : Obj) (v2 : Value) (w3 : World) (hL : L = out.length) (hown : w3.ownsRow (p + 1) 49 2 v2 (L + 1) (rowT out ++ [.string (str nm), .int .u32 c])) (hg : (wr.alloc o).grownBy w3 (Value.slice a1 L c1).ownBlock) :
    Two w3 p 29 (.slice a1 L c1) (.int .u32 n) ∧ GSt B w p ts v n j (out ++ [⟨nm, c⟩]) v2 (w3.setCell ⟨p, 0, none⟩ v2) := by
  have hM := h.mem.alloc hB o
  have hlt := hM.lt
  have hsz := hM.size
  have hs3 := hg.size
  have hnb : ∀ k, (Value.slice a1 L c1).ownBlock = some k → p + 1 ≤ k := fun k hk => (hM.own.lt k hk).1
  have hlin := hM.lin.grown hg (fun e => by have := hnb _ e; omega)
  obtain ⟨s1, s2⟩ := two_put hlin v2
  refine ⟨hlin, h.le, by simp; omega, by rw [he, emit, if_neg hz]; simp, ?_⟩
  have hrow : w3.ownsRow B 49 2 v ts.length (rowT ts) := hM.row.kept hg (by
    cases hv : v.ownBlock with
    | none => exact .inl rfl
    | some k =>
      refine .inr fun e => ?_
      have h1 := hM.old k hv
      have h2 := hnb k e.symm
      omega)
  refine ⟨hrow.kept s2 ?_, hM.old, (hM.res.grown hg (fun e => by have := hnb _ e; omega)).grown s2 (by simp; omega), s1, ?_, ?_, by have := s2.size; omega, hlt⟩
  · cases hv : v.ownBlock with
    | none => exact .inl rfl
    | some k =>
      refine .inr fun e => ?_
      have h1 := hM.old k hv
      injection e with e
      omega
  · refine own_low ?_ s2 (by omega)
    rw [rowT_push, List.length_append, ← hL]
    exact hown
  · exact (hM.bel.grown hg (by omega) (fun k hk => by have := hnb k hk; omega)).grown s2 (by omega) (fun k hk => by cases hk; omega)
theorem own_len {w : World} {lo : Nat} {T : TypeId} {sz : Nat} {a : Option Addr} {c m n : Nat} {xs : List Value} (h : w.ownsRow lo T sz (.slice a m c) n xs) : m = n := by
  obtain ⟨a', c', h2⟩ := own_slice h
  injection h2 with _ h2 _
set_option maxHeartbeats 4000000 in
theorem gather_any (v : Value) (ts0 : List Tm) (n : Int) (B : Nat) (w : World) (hl : ts0.length ≤ 9000000) (hB : B ≤ w.heap.size) (hown : w.ownsRow B 49 2 v ts0.length (rowT ts0)) :
    Calls Try.prog 69 #[v, .int .u32 n] w fun e w' => Below B w w' ∧ ∃ v', e = .returned (linV v' n) ∧ w'.ownsRow w.heap.size 49 2 v' (norm ts0).length (rowT (norm ts0)) := by
  obtain ⟨a0, c0, rfl⟩ := own_slice hown
  obtain ⟨n0, hn0⟩ : ∃ n0, n0 = ts0.length := ⟨_, rfl⟩
  have hs := fun (w : World) (h : w.ownsRow B 49 2 (.slice a0 ts0.length c0) ts0.length (rowT ts0)) => sort_any (.slice a0 ts0.length c0) ts0 B w hl h
  rw [← hn0] at hl hown hs ⊢
  have hsH := Hid.intro hs
  have hownH := Hid.intro hown
  have hnH := Hid.intro hn0
  clear hs hown hn0
  obtain ⟨i0, hi, hz0, hz1, hz2⟩ := info_parts Try.info56
  go_enter Try.func69, Try.ntmps69
  go_wp2_with (go_at_call 77; with_reducible refine (hsH.out _ (hownH.out.alloc _)).mono ?_; rintro e w1 ⟨rfl, ts, hp, hsd, hrow, hg1⟩)
  have hts : n0 = ts.length := by rw [hnH.out]; exact hp.length_eq
  have hnorm : gather ts = norm ts0 := gather_sorted hp hsd
  have hw1 : w.heap.size < w1.heap.size := by have := hg1.size; simp at this; omega
  have hold : ∀ k, (Value.slice a0 n0 c0).ownBlock = some k → B ≤ k ∧ k < w.heap.size := fun k hk => hownH.out.lt k hk
  have hstart : Hid (GSt B w w1.heap.size ts (.slice a0 n0 c0) n 0 [] (.slice none 0 0) (w1.alloc (.cells #[.slice none 0 0, .int .u32 n] 29))) := by
    refine ⟨Nat.zero_le _, by simp, by simp, ?_⟩
    refine ⟨by rw [← hts]; exact hrow.alloc _, fun k hk => (hold k hk).2, ?_, two_new w1 29 _ _, World.ownsRow_nil _ _ _ _, ?_, by simp, hw1⟩
    · exact ((two_new w 29 (.slice none 0 0) (.int .u32 0)).grown hg1 (fun e => by have := (hold _ e).2; omega)).alloc _
    · exact (((below_alloc w _).mono hB).grown hg1 (by simp; omega) (fun k hk => (hold k hk).1)).alloc (by omega) _
  have htsH := Hid.intro hts
  have hnoH := Hid.intro hnorm
  have holdH := Hid.intro hold
  clear hp hsd hrow hg1 hts hnorm hold
  obtain ⟨p, hp⟩ : ∃ p, p = w1.heap.size := ⟨_, rfl⟩
  rw [← hp] at hstart hw1 ⊢
  clear hp
  go_loopw [6] (fun vi wr => ∃ (i : Nat) (out : List Tm) (vo : Value), vi = .int .i64 (i : Int) ∧ Hid (GSt B w p ts (.slice a0 n0 c0) n i out vo wr)) (fun vi _ => n0 - (intOf vi).toNat)
  case atStart => exact ⟨0, [], _, rfl, hstart⟩
  case round =>
    clear hstart
    obtain ⟨i, out, vo, rfl, hS⟩ := hrel
    obtain ⟨a1, c1, rfl⟩ := own_slice hS.out.mem.own
    obtain ⟨L, hL⟩ : ∃ L, L = out.length := ⟨_, rfl⟩
    rw [← hL] at hS
    have hLH := Hid.intro hL
    have hLi : L ≤ i := by rw [hL]; exact hS.out.few
    clear hL
    have hle := hS.out.le
    rw [← htsH.out] at hle
    by_cases hlt : i < n0
    · obtain ⟨t, ht⟩ : ∃ t, ts[i]? = some t := ⟨ts[i]'(by rw [← htsH.out]; exact hlt), List.getElem?_eq_getElem _⟩
      have htH := Hid.intro ht
      clear ht
      have hrow := hS.out.mem.row
      rw [← htsH.out] at hrow
      have hlies := own_tmLies (a := a0) (c := c0) (ts := ts) (by rw [← htsH.out]; exact hrow)
      rcases hlies with hx | ⟨g, o, rfl, hg, hT⟩
      · rw [hx] at htsH; have := htsH.out; simp at this; omega
      obtain ⟨q0, q1⟩ := hT i t htH.out
      clear hT hrow
      go_wp2
      all_goals first | omega | skip
      have hbeg : Hid (ISt B w p ts (.slice (some ⟨g, o, none⟩) n0 c0) n wr.heap.size i t.name 0 out (.slice a1 L c1) (wr.alloc (.cells #[.string (str t.name), .int .u32 0] 49))) :=
        ⟨by rw [← htsH.out]; omega, by rw [hS.out.eq, drop_at ts i t htH.out, gather_gat], hS.out.mem.alloc hB _, two_new wr 49 _ _, by have := hS.out.mem.size; omega, fun k hk => (hS.out.mem.own.lt k hk).2⟩
      have hgold : g < w.heap.size := (holdH.out g rfl).2
      obtain ⟨q, hq⟩ : ∃ q, q = wr.heap.size := ⟨_, rfl⟩
      rw [← hq] at hbeg ⊢
      clear hq q0 q1 hg hS
      go_loopw [6] (fun vj wj => ∃ (j : Nat) (c : Int), i ≤ j ∧ vj = .int .i64 (j : Int) ∧ Hid (ISt B w p ts (.slice (some ⟨g, o, none⟩) n0 c0) n q j t.name c out (.slice a1 L c1) wj)) (fun vj _ => n0 - (intOf vj).toNat)
      case atStart => exact ⟨i, 0, Nat.le_refl _, rfl, hbeg⟩
      case round =>
        clear hbeg
        obtain ⟨j, c, hij, rfl, hI⟩ := hrel
        have hjle := hI.out.le
        rw [← htsH.out] at hjle
        obtain ⟨_, m0, m1, mf0, mf1⟩ := hI.out.all
        obtain ⟨_, l0, l1, lf0, lf1⟩ := hI.out.mem.lin
        have hpq := hI.out.lt
        have hgq : ¬ g = q := by omega
        have hqg : ¬ q = g := by omega
        by_cases hjl : j < n0
        · obtain ⟨t2, ht2⟩ : ∃ t2, ts[j]? = some t2 := ⟨ts[j]'(by rw [← htsH.out]; exact hjl), List.getElem?_eq_getElem _⟩
          have ht2H := Hid.intro ht2
          clear ht2
          have hlies := own_tmLies (a := some ⟨g, o, none⟩) (c := c0) (ts := ts) (by have := hI.out.mem.row; rwa [← htsH.out] at this ⊢)
          rcases hlies with hx | ⟨g', o', hgo, hg', hT⟩
          · rw [hx] at htsH; have := htsH.out; simp at this; omega
          injection hgo with hgo
          injection hgo with hgo1 hgo2 _
          subst hgo1 hgo2
          obtain ⟨x0, x1⟩ := hT j t2 ht2H.out
          clear hT
          by_cases hn : t2.name = t.name
          · have he : ((str t2.name).toList == (str t.name).toList) = true := by simp [hn]
            have hnext := Hid.intro (fun m => (hI.out.drewN m).more hB t2 ht2H.out hn)
            clear hn
            go_wp2
            all_goals first | omega | skip
            go_quiet (fail)
            go_wp2
            all_goals first | omega | skip
            have x0' : (wr.drewN nq).cell? ⟨g, o + j * 2, none⟩ = some (.string (str t2.name)) := x0
            have x1' : (wr.drewN nq).cell? ⟨g, o + j * 2 + 1, none⟩ = some (.int .u32 t2.coef) := x1
            have m0' : (wr.drewN nq).cell? ⟨q, 0, none⟩ = some (.string (str t.name)) := m0
            have m1' : (wr.drewN nq).cell? ⟨q, 1, none⟩ = some (.int .u32 c) := m1
            have mf1' : (wr.drewN nq).frozen? ⟨q, 1, none⟩ = false := mf1
            go_region
            go_wp2
            all_goals first | omega | skip
            go_roundw
            case rel => exact ⟨j + 1, _, by omega, by go_num, Hid.intro (hnext.out (nq + 1))⟩
            case measure => simp [intOf]; omega
          · have he : ((str t2.name).toList == (str t.name).toList) = false := by rw [str_toList, str_toList]; simp [hn]
            have hends := Hid.intro (hI.out.ends (fun t3 h3 => by rw [ht2H.out] at h3; cases h3; exact hn))
            have hij2 : i < j := by
              apply Decidable.byContradiction
              intro hnn
              have : i = j := by omega
              subst this
              have := ht2H.out
              rw [htH.out] at this
              cases this
              exact hn rfl
            clear hn
            have hLo : out.length < j := by rw [← hLH.out]; omega
            by_cases hz : c = 0
            · have hz' : (c != 0) = false := by simp [hz]
              have hfin := Hid.intro (fun nq => GSt.skip (hI.out.drewN nq) (by omega) hends.out hz)
              clear hz
              go_wp2
              all_goals first | omega | skip
              go_quiet (fail)
              go_wp2
              all_goals first | omega | skip
              go_roundw
              case rel => exact ⟨j, out, .slice a1 L c1, rfl, Hid.intro (hfin.out nq)⟩
              case measure => simp [intOf]; omega
            · have hz' : (c != 0) = true := by simp [hz]
              have hfin := Hid.intro (fun nq => GSt.push (hI.out.drewN nq) hB (by omega) hends.out hz)
              clear hz
              have hownH2 := Hid.intro (hI.out.mem.own)
              rw [← hLH.out] at hownH2
              have hszr := hI.out.mem.size
              go_wp2
              all_goals first | omega | skip
              go_quiet (fail)
              have l0' : ∀ o, ((wr.drewN nq).alloc o).cell? ⟨p, 0, none⟩ = some (.slice a1 L c1) := ((hI.out.drewN nq).mem.lin).a0
              have m0' : (wr.drewN nq).cell? ⟨q, 0, none⟩ = some (.string (str t.name)) := m0
              have m1' : (wr.drewN nq).cell? ⟨q, 1, none⟩ = some (.int .u32 c) := m1
              have l00 : (wr.drewN nq).cell? ⟨p, 0, none⟩ = some (.slice a1 L c1) := l0
              go_wp2_with (at_builtin; go_must (refine wpList_append_own_wide _ rfl (.tmp 51) (.tmp 53) 26 rfl (p + 1) 49 i0 (.agg #[.string ⟨#[]⟩, .int .u32 0]) 2 24 Try.underlying26 hi hz0 hz1 hz2 rfl (by decide) (.slice a1 L c1) L (rowT out) rfl (World.ownsRow.alloc (w := wr.drewN nq) hownH2.out _) ⟨wr.heap.size, 0, none⟩ 1 1 [.string (str t.name), .int .u32 c] rfl rfl (cells_new (wr.drewN nq) _ _) (by simp [Value.oneCell']) (by unfold maxLen; omega) (by omega) (by simp; omega) ?_; intro v2 w3 hown3 hgrow3 _; obtain ⟨a2, c2, rfl⟩ := own_slice hown3; have hf2 := Hid.intro (hfin.out nq _ _ w3 hLH.out hown3 hgrow3); obtain ⟨_, p0, p1, pf0, pf1⟩ := hf2.out.1))
              all_goals first | omega | skip
              go_roundw
              case rel => exact ⟨j, out ++ [⟨t.name, c⟩], .slice a2 (L + 1) c2, rfl, Hid.intro hf2.out.2⟩
              case measure => simp [intOf]; omega
        · have hends := Hid.intro (hI.out.ends (fun t3 h3 => by have := (List.getElem?_eq_some_iff.1 h3).1; rw [← htsH.out] at this; omega))
          have hLo : out.length < j := by rw [← hLH.out]; omega
          by_cases hz : c = 0
          · have hz' : (c != 0) = false := by simp [hz]
            have hfin := Hid.intro (fun nq => GSt.skip (hI.out.drewN nq) (by omega) hends.out hz)
            clear hz
            go_wp2
            all_goals first | omega | skip
            go_quiet (fail)
            go_wp2
            all_goals first | omega | skip
            go_roundw
            case rel => exact ⟨j, out, .slice a1 L c1, rfl, Hid.intro (hfin.out nq)⟩
            case measure => simp [intOf]; omega
          · have hz' : (c != 0) = true := by simp [hz]
            have hfin := Hid.intro (fun nq => GSt.push (hI.out.drewN nq) hB (by omega) hends.out hz)
            clear hz
            have hownH2 := Hid.intro (hI.out.mem.own)
            rw [← hLH.out] at hownH2
            have hszr := hI.out.mem.size
            go_wp2
            all_goals first | omega | skip
            go_quiet (fail)
            have l0' : ∀ o, ((wr.drewN nq).alloc o).cell? ⟨p, 0, none⟩ = some (.slice a1 L c1) := ((hI.out.drewN nq).mem.lin).a0
            have m0' : (wr.drewN nq).cell? ⟨q, 0, none⟩ = some (.string (str t.name)) := m0
            have m1' : (wr.drewN nq).cell? ⟨q, 1, none⟩ = some (.int .u32 c) := m1
            have l00 : (wr.drewN nq).cell? ⟨p, 0, none⟩ = some (.slice a1 L c1) := l0
            go_wp2_with (at_builtin; go_must (refine wpList_append_own_wide _ rfl (.tmp 51) (.tmp 53) 26 rfl (p + 1) 49 i0 (.agg #[.string ⟨#[]⟩, .int .u32 0]) 2 24 Try.underlying26 hi hz0 hz1 hz2 rfl (by decide) (.slice a1 L c1) L (rowT out) rfl (World.ownsRow.alloc (w := wr.drewN nq) hownH2.out _) ⟨wr.heap.size, 0, none⟩ 1 1 [.string (str t.name), .int .u32 c] rfl rfl (cells_new (wr.drewN nq) _ _) (by simp [Value.oneCell']) (by unfold maxLen; omega) (by omega) (by simp; omega) ?_; intro v2 w3 hown3 hgrow3 _; obtain ⟨a2, c2, rfl⟩ := own_slice hown3; have hf2 := Hid.intro (hfin.out nq _ _ w3 hLH.out hown3 hgrow3); obtain ⟨_, p0, p1, pf0, pf1⟩ := hf2.out.1))
            all_goals first | omega | skip
            go_roundw
            case rel => exact ⟨j, out ++ [⟨t.name, c⟩], .slice a2 (L + 1) c2, rfl, Hid.intro hf2.out.2⟩
            case measure => simp [intOf]; omega
    · obtain ⟨_, l0, l1, lf0, lf1⟩ := hS.out.mem.lin
      obtain ⟨rh, r0, r1, rf0, rf1⟩ := hS.out.mem.res
      have rhH := Hid.intro rh
      clear rh
      go_wp2
      all_goals first | omega | skip
      have hin : i = ts.length := by rw [← htsH.out]; omega
      have hltp := hS.out.mem.lt
      have hszr := hS.out.mem.size
      obtain ⟨s1, s2⟩ := two_set rhH.out rfl (.slice a1 L c1) (.int .u32 n)
      have hb2 : Below B w ((wr.setCell ⟨w.heap.size, 0, none⟩ (.slice a1 L c1)).setCell ⟨w.heap.size, 1, none⟩ (.int .u32 n)) := hS.out.mem.bel.grown s2 (by omega) (fun j hj => by cases hj; omega)
      generalize ((wr.setCell ⟨w.heap.size, 0, none⟩ (.slice a1 L c1)).setCell ⟨w.heap.size, 1, none⟩ (.int .u32 n)) = w3 at s1 s2 hb2 ⊢
      obtain ⟨_, z0, z1, _, _⟩ := s1
      refine bodyPost_ret (by simp [results, Try.results69, go_sem, z0, z1]; try rfl) rfl ?_
      refine ⟨hb2, _, rfl, ?_⟩
      have hout : out = norm ts0 := by
        have := hS.out.eq
        rw [hin, List.drop_length, hnoH.out] at this
        rw [this]
        exact (List.append_nil out).symm
      have hown := own_weaken (own_low hS.out.mem.own s2 (by omega)) (B := w.heap.size) (by omega)
      rw [hout] at hown
      exact hown
end Go.Proofs.Ytebbbefknfldoaa
/- The library's slices.Grow at terms and strconv.AppendUint: the shelf's layings at this program's numbers. -/
namespace Go.Proofs
open Go.Shelf
def Try.laysGrow_ren : Go.Shelf.Ren := ⟨fun | 4 => 80 | n => n, fun | 22 => 26 | 25 => 49 | 3 => 3 | 4 => 4 | 9 => 9 | 20 => 20 | 0 => 0 | n => n, fun | n => n⟩
theorem Try.laysGrow : Go.Proofs.Lays8.n4 Try.prog Try.laysGrow_ren := {
  mixed := by kernel_rfl
  f4 := ⟨Try.f80.name, by decide, Try.func80.trans (congrArg some (by kernel_rfl))⟩
  t0 := Try.underlying0
  a0 := Try.isAgg0
  z0 := Try.sizeOf0
  v0 := Try.zeroValue0
  t3 := Try.underlying3
  a3 := Try.isAgg3
  z3 := Try.sizeOf3
  v3 := Try.zeroValue3
  t4 := Try.underlying4
  a4 := Try.isAgg4
  z4 := Try.sizeOf4
  v4 := Try.zeroValue4
  t9 := Try.underlying9
  a9 := Try.isAgg9
  z9 := Try.sizeOf9
  v9 := Try.zeroValue9
  t20 := Try.underlying20
  a20 := Try.isAgg20
  z20 := Try.sizeOf20
  v20 := Try.zeroValue20
  t22 := Try.underlying26
  a22 := Try.isAgg26
  z22 := Try.sizeOf26
  v22 := Try.zeroValue26 }
end Go.Proofs
namespace Go.Proofs.Ytebbbefknfldoaa
open Go.ChangeShapes Go.WideShapes Go.ChangeAt Go.RowKit
set_option linter.unusedVariables false
set_option maxRecDepth 100000
structure Held (w : World) (a : Option Addr) (c : Nat) (ts : List Tm) : Prop where
  lies : TmLies w a ts
  nil : a = none → ts.length = 0 ∧ c = 0
theorem Held.below {w w' : World} {a : Option Addr} {c : Nat} {ts : List Tm} {B : Nat} (h : Held w a c ts) (hb : Below B w w') (hB : w.heap.size ≤ B) : Held w' a c ts := ⟨h.lies.below hb hB, h.nil⟩
theorem own_held {w : World} {B n : Nat} {a : Option Addr} {c : Nat} {ts : List Tm} (h : w.ownsRow B 49 2 (.slice a n c) ts.length (rowT ts)) : Held w a c ts := by
  have hn := own_len h
  subst hn
  refine ⟨own_tmLies h, fun ha => ?_⟩
  subst ha
  rcases h.2 with ⟨hv, h0⟩ | ⟨g, cap, cur, hv, _⟩
  · injection hv with _ _ hv
    exact ⟨h0, hv⟩
  · cases hv
theorem rowT_one (ts : List Tm) : ∀ u ∈ rowT ts, u.oneCell' = true := by
  intro u hu
  simp only [rowT, List.mem_flatMap] at hu
  obtain ⟨t, _, hu⟩ := hu
  simp [Tm.cells] at hu
  rcases hu with rfl | rfl <;> rfl
theorem lies_cells {w : World} {ad : Addr} {ts : List Tm} (h : TmLies w (some ad) ts) : ∀ j u, (rowT ts)[j]? = some u → w.cell? (ad.add j) = some u := by
  intro j u hj
  rcases h with rfl | ⟨g, o, hgo, hg, h⟩
  · simp [rowT] at hj
  · injection hgo with hgo
    subst hgo
    have hlt : j < ts.length * 2 := by
      have := (List.getElem?_eq_some_iff.1 hj).1
      rwa [rowT_length] at this
    have h1 : ts[j / 2]? = some ts[j / 2] := List.getElem?_eq_getElem (by omega)
    have h2 := rowT_get ts (j / 2) (j % 2) _ h1 (by omega)
    rw [show j / 2 * 2 + j % 2 = j by omega, hj] at h2
    obtain ⟨e1, e2⟩ := h (j / 2) _ h1
    have hadd : (⟨g, o, none⟩ : Addr).add j = ⟨g, o + j, none⟩ := by simp [Addr.add]
    rw [hadd]
    rcases Nat.mod_two_eq_zero_or_one j with hm | hm
    · rw [hm] at h2
      rw [show o + j / 2 * 2 = o + j by omega] at e1
      rw [e1, h2]
      rfl
    · rw [hm] at h2
      rw [show o + j / 2 * 2 + 1 = o + j by omega] at e2
      rw [e2, h2]
      rfl
theorem app_terms {ops : Array Oper} {rest : List Oper} {o : Oper} {a : Act} {Q : Exit → Act → World → Prop} (w : World) (hgd : o.guard = none) (s x : Operand)
    (ho : o.op = .call { callee := .builtin .append, args := #[s, x], argTypes := #[26, 26] }) (base : Nat) (v : Value) (n : Nat) (zs ts : List Tm) (hn : n = zs.length) (hs : a.eval s = v) (hown : w.ownsRow base 49 2 v n (rowT zs))
    (a3 : Option Addr) (c3 m : Nat) (hm3 : m = ts.length) (hx : a.eval x = .slice a3 m c3) (hl : Held w a3 c3 ts) (hm : n + m ≤ 9000000) (hbase : base ≤ w.heap.size)
    (h : ∀ a' c' w', w'.ownsRow base 49 2 (.slice a' (n + m) c') (n + m) (rowT (zs ++ ts)) → w.grownBy w' v.ownBlock → wpList Try.prog ops Q rest (a.put o.dst (.slice a' (n + m) c')) w') : wpList Try.prog ops Q (o :: rest) a w := by
  subst hn hm3
  obtain ⟨i0, hi, hz0, hz1, hz2⟩ := info_parts Try.info56
  cases a3 with
  | none =>
    obtain ⟨ht, rfl⟩ := hl.nil rfl
    obtain rfl := List.length_eq_zero_iff.1 ht
    refine wpList_append_own_none hgd s x 26 ho base 49 i0 2 Try.underlying26 hi v zs.length (rowT zs) hs hown hx ?_
    obtain ⟨a', c', rfl⟩ := own_slice hown
    have := h a' c' w (by simpa using hown) (World.grownBy.refl _ _)
    simpa using this
  | some ad =>
    refine wpList_append_own_wide w hgd s x 26 ho base 49 i0 (.agg #[.string ⟨#[]⟩, .int .u32 0]) 2 24 Try.underlying26 hi hz0 hz1 hz2 rfl (by decide) v zs.length (rowT zs) hs hown ad ts.length c3 (rowT ts) hx (rowT_length ts) (lies_cells hl.lies) (rowT_one ts) (by unfold maxLen; omega) (by omega) hbase ?_
    intro v' w' hown' hgrow _
    obtain ⟨a', c', rfl⟩ := own_slice hown'
    exact h a' c' w' (by rw [rowT_append]; exact hown') hgrow
theorem grow_any (n : Nat) (w : World) (hn : n ≤ 9000000) :
    Calls Try.prog 80 #[.slice none 0 0, .int .i64 (n : Int)] w fun e w' => Below w.heap.size w w' ∧ ∃ a c, e = .returned (.slice a 0 c) ∧ w'.ownsRow w.heap.size 49 2 (.slice a 0 c) 0 [] := by
  by_cases h0 : n = 0
  · subst h0
    have := Any8.slices_Grow_room Try.laysGrow none 0 0 0 w (by omega) (by omega) (by omega) (by omega)
    refine (show Calls Try.prog 80 _ _ _ from this).mono ?_
    rintro e w' ⟨rfl, rfl⟩
    exact ⟨Below.refl _ _, _, _, rfl, World.ownsRow_nil _ _ _ _⟩
  · obtain ⟨i0, hi, hz0, hz1, hz2⟩ := info_parts Try.info56
    have := Any8.slices_Grow_grow Try.laysGrow i0 (.agg #[.string ⟨#[]⟩, .int .u32 0]) hi hz0 (by omega) none 0 0 n [] w (by omega) (by omega) (by rw [hz2]; omega) (by omega) (by simp) (fun _ => rfl) (fun a h => by cases h)
    refine (show Calls Try.prog 80 _ _ _ from this).mono ?_
    rintro e w' ⟨rfl, rfl⟩
    refine ⟨?_, _, _, rfl, ?_⟩
    · exact ((Below.refl w.heap.size w).drew).alloc (Nat.le_refl _) _
    · refine World.ownsRow_made (base := w.heap.size) w.drew _ _ (Nat.le_refl _) (grownCap_le_maxLen _ _ _ _ (by unfold maxLen; omega)) ?_
      have hge := grownCap_ge w (0 + n) 0 (Try.laysGrow_ren.t 25)
      generalize grownCap w (0 + n) 0 (Try.laysGrow_ren.t 25) = G at hge ⊢
      simp [size_zeroCells, Value.cells]
      omega
set_option maxHeartbeats 2000000 in
theorem concat_any (b : Nat) (a1 a2 : Option Addr) (c1 c2 : Nat) (xs ys : List Tm) (w : World) (hb : b < w.heap.size) (h1 : w.cell? ⟨b, 0, none⟩ = some (.slice a1 xs.length c1)) (h2 : w.cell? ⟨b, 1, none⟩ = some (.slice a2 ys.length c2)) (hx : Held w a1 c1 xs) (hy : Held w a2 c2 ys) (hl1 : xs.length ≤ 4400000) (hl2 : ys.length ≤ 4400000) :
    Calls Try.prog 70 #[.slice (some ⟨b, 0, none⟩) 2 2] w fun e w' => Below w.heap.size w w' ∧ ∃ a c, e = .returned (.slice a (xs.length + ys.length) c) ∧ w'.ownsRow w.heap.size 49 2 (.slice a (xs.length + ys.length) c) (xs ++ ys).length (rowT (xs ++ ys)) := by
  rw [List.length_append]
  obtain ⟨n1, hn1⟩ : ∃ n1, n1 = xs.length := ⟨_, rfl⟩
  obtain ⟨n2, hn2⟩ : ∃ n2, n2 = ys.length := ⟨_, rfl⟩
  rw [← hn1, ← hn2]
  rw [← hn1] at h1 hl1
  rw [← hn2] at h2 hl2
  have hn1H := Hid.intro hn1
  have hn2H := Hid.intro hn2
  have hxH := Hid.intro hx
  have hyH := Hid.intro hy
  clear hn1 hn2 hx hy
  have hG := fun w => grow_any (n1 + n2) w (by omega)
  rw [Int.natCast_add] at hG
  replace hG := Hid.intro hG
  go_enter Try.func70, Try.ntmps70
  go_wp2
  go_loop [3, 11] (fun vs vi => ∃ (i s : Nat), i ≤ 2 ∧ vi = .int .i64 (i : Int) ∧ vs = .int .i64 (s : Int) ∧ s = (if i = 0 then 0 else if i = 1 then n1 else n1 + n2)) (fun _ vi => 2 - (intOf vi).toNat)
  case atStart => exact ⟨0, 0, by omega, rfl, rfl, rfl⟩
  case round =>
    obtain ⟨i, s, hi2, rfl, rfl, hs⟩ := hrel
    have hcase : i = 0 ∨ i = 1 ∨ i = 2 := by omega
    rcases hcase with rfl | rfl | rfl
    · obtain rfl : s = 0 := hs
      go_wp2
      all_goals first | omega | skip
      go_round
      case rel => exact ⟨1, n1, by omega, rfl, rfl, rfl⟩
      case measure => simp [intOf]
    · obtain rfl : s = n1 := hs
      go_wp2
      all_goals first | omega | skip
      go_round
      case rel => exact ⟨2, s + n2, by omega, rfl, by go_num, rfl⟩
      case measure => simp [intOf]
    · obtain rfl : s = n1 + n2 := hs
      go_wp2_with (go_at_call 80; with_reducible refine (hG.out _).mono ?_; rintro e w1 ⟨hb1, av, cv, rfl, hown1⟩)
      all_goals first | omega | skip
      have hown1H := Hid.intro hown1
      clear hown1
      go_loopw [6, 27] (fun v6 vi wr => ∃ (i s : Nat) (zs : List Tm) (a c : _), i ≤ 2 ∧ vi = .int .i64 (i : Int) ∧ v6 = .slice a s c ∧ s = (if i = 0 then 0 else if i = 1 then n1 else n1 + n2) ∧ zs = (if i = 0 then [] else if i = 1 then xs else xs ++ ys) ∧ wr.ownsRow w.heap.size 49 2 (.slice a s c) s (rowT zs) ∧ Below w.heap.size w wr) (fun _ vi _ => 2 - (intOf vi).toNat)
      case atStart => exact ⟨0, 0, [], av, cv, by omega, rfl, rfl, rfl, rfl, hown1H.out, hb1⟩
      case round =>
        obtain ⟨i, s, zs, a6, c6, hi2, rfl, rfl, hs, hzs, hown, hbr⟩ := hrel
        have hcase : i = 0 ∨ i = 1 ∨ i = 2 := by omega
        have g1 := Hid.intro (hxH.out.below hbr (Nat.le_refl _))
        have g2 := Hid.intro (hyH.out.below hbr (Nat.le_refl _))
        have e1 : wr.cell? ⟨b, 0, none⟩ = some (.slice a1 n1 c1) := by rw [hbr.cell hb]; exact h1
        have e2 : wr.cell? ⟨b, 1, none⟩ = some (.slice a2 n2 c2) := by rw [hbr.cell hb]; exact h2
        have hszr := hbr.size
        replace hown := Hid.intro hown
        rcases hcase with rfl | rfl | rfl
        · obtain rfl : s = 0 := hs
          obtain rfl : zs = [] := hzs
          go_wp2_with (at_builtin; go_must (refine app_terms _ rfl (.tmp 31) (.tmp 32) rfl w.heap.size _ 0 [] xs rfl rfl hown.out a1 c1 n1 hn1H.out rfl g1.out (by omega) hszr ?_; intro a7 c7 w3 hown3 hgrow3))
          all_goals first | omega | skip
          go_roundw
          case rel => exact ⟨1, n1, xs, a7, c7, by omega, rfl, rfl, rfl, rfl, by simpa using hown3, hbr.grown hgrow3 hszr (fun k hk => (hown.out.lt k hk).1)⟩
          case measure => simp [intOf]
        · obtain rfl : s = n1 := hs
          obtain rfl : zs = xs := hzs
          go_wp2_with (at_builtin; go_must (refine app_terms _ rfl (.tmp 31) (.tmp 32) rfl w.heap.size _ s zs ys hn1H.out rfl hown.out a2 c2 n2 hn2H.out rfl g2.out (by omega) hszr ?_; intro a7 c7 w3 hown3 hgrow3))
          all_goals first | omega | skip
          go_roundw
          case rel => exact ⟨2, s + n2, zs ++ ys, _, _, by omega, rfl, rfl, rfl, rfl, hown3, hbr.grown hgrow3 hszr (fun k hk => (hown.out.lt k hk).1)⟩
          case measure => simp [intOf]
        · obtain rfl : s = n1 + n2 := hs
          obtain rfl : zs = xs ++ ys := hzs
          go_wp2
          all_goals first | omega | skip
          go_ret
          exact ⟨hbr, _, _, rfl, hown.out⟩
set_option maxHeartbeats 2000000 in
theorem add_any (a1 a2 : Option Addr) (c1 c2 : Nat) (xs ys : List Tm) (k1 k2 : Int) (w : World) (hx : Held w a1 c1 xs) (hy : Held w a2 c2 ys) (hl1 : xs.length ≤ 4400000) (hl2 : ys.length ≤ 4400000) :
    Calls Try.prog 56 #[linV (.slice a1 xs.length c1) k1, linV (.slice a2 ys.length c2) k2] w fun e w' => Below w.heap.size w w' ∧ ∃ v, e = .returned (linV v ((k1 + k2) % 4294967296)) ∧ w'.ownsRow w.heap.size 49 2 v (addT xs ys).length (rowT (addT xs ys)) := by
  obtain ⟨n1, hn1⟩ : ∃ n1, n1 = xs.length := ⟨_, rfl⟩
  obtain ⟨n2, hn2⟩ : ∃ n2, n2 = ys.length := ⟨_, rfl⟩
  have hC := fun b w (hb : b < w.heap.size) h1 h2 hx hy => concat_any b a1 a2 c1 c2 xs ys w hb h1 h2 hx hy hl1 hl2
  rw [← hn1, ← hn2] at hC
  rw [← hn1, ← hn2]
  have hCH := Hid.intro hC
  have hn1H := Hid.intro hn1
  have hn2H := Hid.intro hn2
  have hxH := Hid.intro hx
  have hyH := Hid.intro hy
  clear hC hn1 hn2 hx hy
  go_enter Try.func56, Try.ntmps56
  go_wp2
  have t1 := ((two_new w 29 (.slice a1 n1 c1) (.int .u32 k1)).alloc (.cells #[.slice a2 n2 c2, .int .u32 k2] 29)).alloc (.cells #[.slice none 0 0, .int .u32 0] 29)
  have t2 := ((two_new (w.alloc (.cells #[.slice a1 n1 c1, .int .u32 k1] 29)) 29 (.slice a2 n2 c2) (.int .u32 k2))).alloc (.cells #[.slice none 0 0, .int .u32 0] 29)
  have t3 := two_new ((w.alloc (.cells #[.slice a1 n1 c1, .int .u32 k1] 29)).alloc (.cells #[.slice a2 n2 c2, .int .u32 k2] 29)) 29 (.slice none 0 0) (.int .u32 0)
  have hbel : Below w.heap.size w (((w.alloc (.cells #[.slice a1 n1 c1, .int .u32 k1] 29)).alloc (.cells #[.slice a2 n2 c2, .int .u32 k2] 29)).alloc (.cells #[.slice none 0 0, .int .u32 0] 29)) := ((below_alloc w _).alloc (by simp) _).alloc (by simp; omega) _
  have hsz0 : (((w.alloc (.cells #[.slice a1 n1 c1, .int .u32 k1] 29)).alloc (.cells #[.slice a2 n2 c2, .int .u32 k2] 29)).alloc (.cells #[.slice none 0 0, .int .u32 0] 29)).heap.size = w.heap.size + 1 + 1 + 1 := by simp
  simp only [World.size_alloc] at t2 t3
  generalize (((w.alloc (.cells #[.slice a1 n1 c1, .int .u32 k1] 29)).alloc (.cells #[.slice a2 n2 c2, .int .u32 k2] 29)).alloc (.cells #[.slice none 0 0, .int .u32 0] 29)) = w0 at *
  have hC1 : Hid (Calls Try.prog 70 #[.slice (some ⟨w.heap.size + 1 + 1 + 1, 0, none⟩) 2 2] (w0.alloc (.cells #[.slice a1 n1 c1, .slice a2 n2 c2] 26)).drew fun e w1 =>
      ∃ a c, e = .returned (.slice a (n1 + n2) c) ∧ Hid (w1.ownsRow (w.heap.size + 1 + 1 + 1) 49 2 (.slice a (n1 + n2) c) (n1 + n2) (rowT (xs ++ ys))) ∧ Hid (Below (w.heap.size + 1 + 1 + 1) w0 w1) ∧
        w1.cell? ⟨w.heap.size, 0, none⟩ = some (.slice a1 n1 c1) ∧ w1.cell? ⟨w.heap.size, 1, none⟩ = some (.int .u32 k1) ∧ w1.cell? ⟨w.heap.size + 1, 0, none⟩ = some (.slice a2 n2 c2) ∧ w1.cell? ⟨w.heap.size + 1, 1, none⟩ = some (.int .u32 k2)) := by
    have hbz : Below w0.heap.size w0 (w0.alloc (.cells #[.slice a1 n1 c1, .slice a2 n2 c2] 26)).drew := (below_alloc w0 _).drew
    have htw := two_new w0 26 (.slice a1 n1 c1) (.slice a2 n2 c2)
    rw [hsz0] at htw
    refine (hCH.out (w.heap.size + 1 + 1 + 1) (w0.alloc (.cells #[.slice a1 n1 c1, .slice a2 n2 c2] 26)).drew (by show _ < (w0.alloc _).heap.size; simp [hsz0]) htw.c0 htw.c1 ((hxH.out.below hbel (Nat.le_refl _)).below hbz (Nat.le_refl _)) ((hyH.out.below hbel (Nat.le_refl _)).below hbz (Nat.le_refl _))).mono ?_
    rintro e w1 ⟨hb1, a, c, rfl, hown⟩
    have hsz1 : (w0.alloc (.cells #[.slice a1 n1 c1, .slice a2 n2 c2] 26)).drew.heap.size = w.heap.size + 1 + 1 + 1 + 1 := by show (w0.alloc _).heap.size = _; simp [hsz0]
    rw [hsz1] at hb1 hown
    have hb2 : Below (w.heap.size + 1 + 1 + 1) w0 w1 := (hbz.mono (by omega)).trans (hb1.mono (by omega))
    rw [List.length_append, ← hn1H.out, ← hn2H.out] at hown
    exact ⟨a, c, rfl, own_weaken hown (by omega), hb2, (t1.below hb2 (by omega)).c0, (t1.below hb2 (by omega)).c1, (t2.below hb2 (by omega)).c0, (t2.below hb2 (by omega)).c1⟩
  have hG1 : Hid (∀ a c w1, Hid (w1.ownsRow (w.heap.size + 1 + 1 + 1) 49 2 (.slice a (n1 + n2) c) (n1 + n2) (rowT (xs ++ ys))) → Hid (Below (w.heap.size + 1 + 1 + 1) w0 w1) → Calls Try.prog 69 #[.slice a (n1 + n2) c, .int .u32 ((k1 + k2) % 4294967296)] w1 fun e w2 =>
      ∃ a' m c', e = .returned (linV (.slice a' m c') ((k1 + k2) % 4294967296)) ∧ Hid (w2.ownsRow (w.heap.size + 1 + 1 + 1) 49 2 (.slice a' m c') (addT xs ys).length (rowT (addT xs ys))) ∧ Hid (Below (w.heap.size + 1 + 1 + 1) w0 w2) ∧ w2.cell? ⟨w.heap.size + 1 + 1, 0, none⟩ = some (.slice none 0 0) ∧ w2.cell? ⟨w.heap.size + 1 + 1, 1, none⟩ = some (.int .u32 0) ∧ w2.frozen? ⟨w.heap.size + 1 + 1, 0, none⟩ = false ∧ w2.frozen? ⟨w.heap.size + 1 + 1, 1, none⟩ = false ∧
        w2.cell? ⟨w.heap.size, 0, none⟩ = some (.slice a1 n1 c1) ∧ w2.cell? ⟨w.heap.size, 1, none⟩ = some (.int .u32 k1) ∧ w2.cell? ⟨w.heap.size + 1, 0, none⟩ = some (.slice a2 n2 c2) ∧ w2.cell? ⟨w.heap.size + 1, 1, none⟩ = some (.int .u32 k2)) := by
    intro a c w1 ho hb
    have hb1 := hb.out.size
    rw [hsz0] at hb1
    have hlen : n1 + n2 = (xs ++ ys).length := by rw [List.length_append, ← hn1H.out, ← hn2H.out]
    refine (gather_any _ (xs ++ ys) _ (w.heap.size + 1 + 1 + 1) w1 (by rw [List.length_append]; omega) hb1 (by rw [← hlen]; exact ho.out)).mono ?_
    rintro e w2 ⟨hb2, v', rfl, hown⟩
    obtain ⟨a', c', rfl⟩ := own_slice hown
    have hb3 := hb.out.trans hb2
    have t1' := t1.below hb3 (by omega)
    have t2' := t2.below hb3 (by omega)
    have t3' := t3.below hb3 (by omega)
    exact ⟨a', _, c', rfl, own_weaken hown hb1, hb3, t3'.c0, t3'.c1, t3'.f0, t3'.f1, t1'.c0, t1'.c1, t2'.c0, t2'.c1⟩
  have t3H := Hid.intro t3
  have hne1 : ¬ w.heap.size + 1 + 1 = w.heap.size := by omega
  have hne2 : ¬ w.heap.size = w.heap.size + 1 + 1 := by omega
  have hwr : IntKind.u32.wrap (k1 + k2) = (k1 + k2) % 4294967296 := by simp [IntKind.wrap, IntKind.bits, IntKind.signed]
  obtain ⟨_, x0, x1, _, _⟩ := t1
  obtain ⟨_, y0, y1, _, _⟩ := t2
  obtain ⟨rh, r0, r1, rf0, rf1⟩ := t3
  clear rh
  go_region_held3 (fun w' => w'.cell? ⟨w.heap.size, 0, none⟩ = some (.slice a1 n1 c1) ∧ w'.cell? ⟨w.heap.size, 1, none⟩ = some (.int .u32 k1) ∧ w'.cell? ⟨w.heap.size + 1, 0, none⟩ = some (.slice a2 n2 c2) ∧ w'.cell? ⟨w.heap.size + 1, 1, none⟩ = some (.int .u32 k2)) (go_keep)
    ((first
      | (go_at_call 70; with_reducible refine (hC1.out).mono ?_; rintro e w1 ⟨av, cv, rfl, ho1, hb1, g0, g1, g2, g3⟩)
      | (go_at_call 69; with_reducible refine (hG1.out _ _ _ ho1 hb1).mono ?_; rintro e w2 ⟨a', m', c', rfl, ho2, hb2, q0, q1, q2, q3, g4, g5, g6, g7⟩)))
  go_wp2
  obtain ⟨s1, s2⟩ := two_set (t3H.out.below hb2.out (by omega)).heap rfl (.slice a' m' c') (.int .u32 ((k1 + k2) % 4294967296))
  have hb3 : Below w.heap.size w ((w2.setCell ⟨w.heap.size + 1 + 1, 0, none⟩ (.slice a' m' c')).setCell ⟨w.heap.size + 1 + 1, 1, none⟩ (.int .u32 ((k1 + k2) % 4294967296))) := (hbel.trans (hb2.out.mono (by omega))).grown s2 (by have := hb2.out.size; omega) (fun j hj => by cases hj; omega)
  generalize ((w2.setCell ⟨w.heap.size + 1 + 1, 0, none⟩ (.slice a' m' c')).setCell ⟨w.heap.size + 1 + 1, 1, none⟩ (.int .u32 ((k1 + k2) % 4294967296))) = w3 at s1 s2 hb3 ⊢
  obtain ⟨_, z0, z1, _, _⟩ := s1
  refine bodyPost_ret (by simp [results, Try.results56, go_sem, z0, z1]; try rfl) rfl ?_
  exact ⟨hb3, _, rfl, own_weaken (own_low ho2.out s2 (by omega)) (by omega)⟩
end Go.Proofs.Ytebbbefknfldoaa
