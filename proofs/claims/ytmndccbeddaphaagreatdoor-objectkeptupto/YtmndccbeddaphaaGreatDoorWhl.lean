/- unit's whole: the unit, when all lines are taken. -/
import Derived.Test.YtmndccbeddaphaaGreatDoorT1
import Derived.Test.YtmndccbeddaphaaGreatDoorIt9
import Derived.Deep.Cut
import Derived.Test.YtmndccbeddaphaaGreatDoorEr1
import Derived.Test.YtmndccbeddaphaaGreatDoorIFind
import Derived.Shelf.Sort.Plain
import Derived.Shelf.Slices.In.SortNone
import Derived.Shelf.Slices.CompactS
import Derived.Sort.OwnSorted
import Derived.Lib.OwnBridge
import Derived.Deep.DeepAppendWide
import Derived.Laws.OwnMore
import Derived.Maps.OwnSet
import Derived.Maps.OwnOps
import Derived.Test.YtmndccbeddaphaaGreatDoorTok
import Derived.Lib.IndexLaws
import Derived.Test.YtmndccbeddaphaaGreatDoorNames2
import Derived.Test.YtmndccbeddaphaaGreatDoorRefRd
import Derived.Deep.QuietTactic
import Derived.BigQuiet
import Derived.WalkSmall
import Derived.WalkSpells
import Derived.RangeFuncOwn
import Derived.OwnWalk
namespace Go.Proofs.YtmndccbeddaphaaGreatDoor
open Go.ChangeShapes Go.WideShapes Go.ChangeAt Go.RowKit
set_option linter.unusedVariables false
set_option maxRecDepth 100000
def rightN (sec : Int) (ok : Bool) : Int := if sec ≠ 0 ∧ sec ≠ 1 then 1 else if ok then 0 else 31
def okB (k : Int) (s : ByteArray) (op a b m f : Int) (ts : List Tm) (c n sec : Int) : Bool := standsB k sec && (nameB k s && (instB k op a b m f && (exprB (hasEB k op) ts c && numOfB k n)))
structure RI (w : World) (A : Array Value) (wr : World) : Prop where
  bel : Below w.heap.size w wr
  row : wr.heap[w.heap.size]? = some (.cells A 86 (0, 0))
  tab : Tab wr
theorem RI.below {w : World} {A : Array Value} {wr w' : World} (h : RI w A wr) (hb : Below wr.heap.size wr w') : RI w A w' :=
  ⟨h.bel.trans (hb.mono h.bel.size), by rw [hb.block _ (blk_lt h.row)]; exact h.row, h.tab.below hb h.tab.size⟩
theorem rowIt {w : World} {g : Nat} {v0 v1 v2 v3 v4 v5 v6 v7 v8 v9 : Value} (h : w.heap[g]? = some (.cells #[v0, v1, v2, v3, v4, v5, v6, v7, v8, v9] 86 (0, 0))) : w.cell? ⟨g, 0, none⟩ = some v0 ∧ w.cell? ⟨g, 1, none⟩ = some v1 ∧ w.cell? ⟨g, 2, none⟩ = some v2 ∧ w.cell? ⟨g, 3, none⟩ = some v3 ∧ w.cell? ⟨g, 4, none⟩ = some v4 ∧ w.cell? ⟨g, 5, none⟩ = some v5 ∧ w.cell? ⟨g, 6, none⟩ = some v6 ∧ w.cell? ⟨g, 7, none⟩ = some v7 ∧ w.cell? ⟨g, 8, none⟩ = some v8 ∧ w.cell? ⟨g, 9, none⟩ = some v9 :=
  ⟨(cell_blockT h 0).trans rfl, (cell_blockT h 1).trans rfl, (cell_blockT h 2).trans rfl, (cell_blockT h 3).trans rfl, (cell_blockT h 4).trans rfl, (cell_blockT h 5).trans rfl, (cell_blockT h 6).trans rfl, (cell_blockT h 7).trans rfl, (cell_blockT h 8).trans rfl, (cell_blockT h 9).trans rfl⟩
set_option maxHeartbeats 1000000 in
theorem itemRight_any (k : Int) (s : ByteArray) (hs : s.size ≤ 1100000) (op a b m f : Int) (hm : -2147483648 ≤ m ∧ m ≤ 2147483647) (va : Option Addr) (vc : Nat) (ts : List Tm) (c n sec : Int) (hn : -9223372036854775808 ≤ n ∧ n ≤ 9223372036854775807) (w : World) (hT : Tab w) (hL : TmLies w va ts) (hlen : ts.length ≤ 9000000) (hN : ∀ t ∈ ts, t.name.length ≤ 1100000) :
    Calls Tryz.prog 101 #[itV k s op a b m f va ts.length vc c n, .int .i64 sec] w fun e w' => e = .returned (.int .i64 (rightN sec (okB k s op a b m f ts c n sec))) ∧ Below w.heap.size w w' := by
  have h0 : RI w (itA k s op a b m f va ts.length vc c n) (w.alloc (.cells (itA k s op a b m f va ts.length vc c n) 86)) := ⟨below_alloc w _, heap_alloc_new w _, hT.alloc _⟩
  have h23 := fun w1 => stands_any k sec w1
  have h24 := fun w1 => rightName_any k s hs op a b m f va ts.length vc c n w1
  have h25 := fun w1 (h1 : RI w (itA k s op a b m f va ts.length vc c n) w1) => rightInst_any k s op a b m f va ts.length vc c n w1 h1.tab hm
  have h26 := fun w1 (h1 : RI w (itA k s op a b m f va ts.length vc c n) w1) => rightExpression_any k s op a b m f va vc ts c n w1 h1.tab (hL.below h1.bel (Nat.le_refl _)) hlen hN
  have h27 := fun w1 => isNumberOf_any k n w1 hn
  have hF : okB k s op a b m f ts c n sec = (standsB k sec && (nameB k s && (instB k op a b m f && (exprB (hasEB k op) ts c && numOfB k n)))) := rfl
  rw [hF]
  clear hF hT hL hN hs hm hn
  generalize standsB k sec = b1 at h23 ⊢
  generalize nameB k s = b2 at h24 ⊢
  generalize instB k op a b m f = b3 at h25 ⊢
  generalize exprB (hasEB k op) ts c = b4 at h26 ⊢
  generalize numOfB k n = b5 at h27 ⊢
  generalize ts.length = ln at h0 h24 h25 h26 hlen ⊢
  replace h0 := Hid.intro h0
  replace h23 := Hid.intro h23
  replace h24 := Hid.intro h24
  replace h25 := Hid.intro h25
  replace h26 := Hid.intro h26
  replace h27 := Hid.intro h27
  clear hlen
  by_cases hsec : sec = 0 ∨ sec = 1
  · rw [show ∀ ok, rightN sec ok = if ok then 0 else 31 from fun ok => by unfold rightN; rw [if_neg (by omega)]]
    have key : ∀ (c1 : Bool), ((if (c1 : Bool) = true then (0 : Int) else 31) = if c1 then 0 else 31) := fun _ => rfl
    clear key
    rcases hsec with rfl | rfl
    all_goals
      cases b1
      · go_enter Tryz.func101, Tryz.ntmps101
        go_wp2_with (first
          | (go_at_call 122; (with_reducible refine (h23.out _).mono ?_); rintro e w1 ⟨rfl, rfl⟩)
          | (go_at_call 123; (with_reducible refine (h24.out _).mono ?_); rintro e w2 ⟨rfl, hb2⟩; have h2 := Hid.intro (h0.out.below hb2); obtain ⟨q0, q1, q2, q3, q4, q5, q6, q7, q8, q9⟩ := rowIt h2.out.row)
          | (go_at_call 124; (with_reducible refine (h25.out _ h2.out).mono ?_); rintro e w3 ⟨rfl, hb3⟩; have h3 := Hid.intro (h2.out.below hb3); obtain ⟨p0, p1, p2, p3, p4, p5, p6, p7, p8, p9⟩ := rowIt h3.out.row)
          | (go_at_call 125; (with_reducible refine (h26.out _ h3.out).mono ?_); rintro e w4 ⟨rfl, hb4⟩; have h4 := Hid.intro (h3.out.below hb4); obtain ⟨r0, r1, r2, r3, r4, r5, r6, r7, r8, r9⟩ := rowIt h4.out.row)
          | (go_at_call 126; (with_reducible refine (h27.out _).mono ?_); rintro e w5 ⟨rfl, rfl⟩))
        all_goals first | omega | skip
        go_ret
        exact ⟨rfl, h0.out.bel⟩
      · cases b2
        · go_enter Tryz.func101, Tryz.ntmps101
          go_wp2_with (first
            | (go_at_call 122; (with_reducible refine (h23.out _).mono ?_); rintro e w1 ⟨rfl, rfl⟩)
            | (go_at_call 123; (with_reducible refine (h24.out _).mono ?_); rintro e w2 ⟨rfl, hb2⟩; have h2 := Hid.intro (h0.out.below hb2); obtain ⟨q0, q1, q2, q3, q4, q5, q6, q7, q8, q9⟩ := rowIt h2.out.row)
            | (go_at_call 124; (with_reducible refine (h25.out _ h2.out).mono ?_); rintro e w3 ⟨rfl, hb3⟩; have h3 := Hid.intro (h2.out.below hb3); obtain ⟨p0, p1, p2, p3, p4, p5, p6, p7, p8, p9⟩ := rowIt h3.out.row)
            | (go_at_call 125; (with_reducible refine (h26.out _ h3.out).mono ?_); rintro e w4 ⟨rfl, hb4⟩; have h4 := Hid.intro (h3.out.below hb4); obtain ⟨r0, r1, r2, r3, r4, r5, r6, r7, r8, r9⟩ := rowIt h4.out.row)
            | (go_at_call 126; (with_reducible refine (h27.out _).mono ?_); rintro e w5 ⟨rfl, rfl⟩))
          all_goals first | omega | skip
          go_ret
          exact ⟨rfl, h2.out.bel⟩
        · cases b3
          · go_enter Tryz.func101, Tryz.ntmps101
            go_wp2_with (first
              | (go_at_call 122; (with_reducible refine (h23.out _).mono ?_); rintro e w1 ⟨rfl, rfl⟩)
              | (go_at_call 123; (with_reducible refine (h24.out _).mono ?_); rintro e w2 ⟨rfl, hb2⟩; have h2 := Hid.intro (h0.out.below hb2); obtain ⟨q0, q1, q2, q3, q4, q5, q6, q7, q8, q9⟩ := rowIt h2.out.row)
              | (go_at_call 124; (with_reducible refine (h25.out _ h2.out).mono ?_); rintro e w3 ⟨rfl, hb3⟩; have h3 := Hid.intro (h2.out.below hb3); obtain ⟨p0, p1, p2, p3, p4, p5, p6, p7, p8, p9⟩ := rowIt h3.out.row)
              | (go_at_call 125; (with_reducible refine (h26.out _ h3.out).mono ?_); rintro e w4 ⟨rfl, hb4⟩; have h4 := Hid.intro (h3.out.below hb4); obtain ⟨r0, r1, r2, r3, r4, r5, r6, r7, r8, r9⟩ := rowIt h4.out.row)
              | (go_at_call 126; (with_reducible refine (h27.out _).mono ?_); rintro e w5 ⟨rfl, rfl⟩))
            all_goals first | omega | skip
            go_ret
            exact ⟨rfl, h3.out.bel⟩
          · cases b4
            · go_enter Tryz.func101, Tryz.ntmps101
              go_wp2_with (first
                | (go_at_call 122; (with_reducible refine (h23.out _).mono ?_); rintro e w1 ⟨rfl, rfl⟩)
                | (go_at_call 123; (with_reducible refine (h24.out _).mono ?_); rintro e w2 ⟨rfl, hb2⟩; have h2 := Hid.intro (h0.out.below hb2); obtain ⟨q0, q1, q2, q3, q4, q5, q6, q7, q8, q9⟩ := rowIt h2.out.row)
                | (go_at_call 124; (with_reducible refine (h25.out _ h2.out).mono ?_); rintro e w3 ⟨rfl, hb3⟩; have h3 := Hid.intro (h2.out.below hb3); obtain ⟨p0, p1, p2, p3, p4, p5, p6, p7, p8, p9⟩ := rowIt h3.out.row)
                | (go_at_call 125; (with_reducible refine (h26.out _ h3.out).mono ?_); rintro e w4 ⟨rfl, hb4⟩; have h4 := Hid.intro (h3.out.below hb4); obtain ⟨r0, r1, r2, r3, r4, r5, r6, r7, r8, r9⟩ := rowIt h4.out.row)
                | (go_at_call 126; (with_reducible refine (h27.out _).mono ?_); rintro e w5 ⟨rfl, rfl⟩))
              all_goals first | omega | skip
              go_ret
              exact ⟨rfl, h4.out.bel⟩
            · cases b5
              · go_enter Tryz.func101, Tryz.ntmps101
                go_wp2_with (first
                  | (go_at_call 122; (with_reducible refine (h23.out _).mono ?_); rintro e w1 ⟨rfl, rfl⟩)
                  | (go_at_call 123; (with_reducible refine (h24.out _).mono ?_); rintro e w2 ⟨rfl, hb2⟩; have h2 := Hid.intro (h0.out.below hb2); obtain ⟨q0, q1, q2, q3, q4, q5, q6, q7, q8, q9⟩ := rowIt h2.out.row)
                  | (go_at_call 124; (with_reducible refine (h25.out _ h2.out).mono ?_); rintro e w3 ⟨rfl, hb3⟩; have h3 := Hid.intro (h2.out.below hb3); obtain ⟨p0, p1, p2, p3, p4, p5, p6, p7, p8, p9⟩ := rowIt h3.out.row)
                  | (go_at_call 125; (with_reducible refine (h26.out _ h3.out).mono ?_); rintro e w4 ⟨rfl, hb4⟩; have h4 := Hid.intro (h3.out.below hb4); obtain ⟨r0, r1, r2, r3, r4, r5, r6, r7, r8, r9⟩ := rowIt h4.out.row)
                  | (go_at_call 126; (with_reducible refine (h27.out _).mono ?_); rintro e w5 ⟨rfl, rfl⟩))
                all_goals first | omega | skip
                go_ret
                exact ⟨rfl, h4.out.bel⟩
              · go_enter Tryz.func101, Tryz.ntmps101
                go_wp2_with (first
                  | (go_at_call 122; (with_reducible refine (h23.out _).mono ?_); rintro e w1 ⟨rfl, rfl⟩)
                  | (go_at_call 123; (with_reducible refine (h24.out _).mono ?_); rintro e w2 ⟨rfl, hb2⟩; have h2 := Hid.intro (h0.out.below hb2); obtain ⟨q0, q1, q2, q3, q4, q5, q6, q7, q8, q9⟩ := rowIt h2.out.row)
                  | (go_at_call 124; (with_reducible refine (h25.out _ h2.out).mono ?_); rintro e w3 ⟨rfl, hb3⟩; have h3 := Hid.intro (h2.out.below hb3); obtain ⟨p0, p1, p2, p3, p4, p5, p6, p7, p8, p9⟩ := rowIt h3.out.row)
                  | (go_at_call 125; (with_reducible refine (h26.out _ h3.out).mono ?_); rintro e w4 ⟨rfl, hb4⟩; have h4 := Hid.intro (h3.out.below hb4); obtain ⟨r0, r1, r2, r3, r4, r5, r6, r7, r8, r9⟩ := rowIt h4.out.row)
                  | (go_at_call 126; (with_reducible refine (h27.out _).mono ?_); rintro e w5 ⟨rfl, rfl⟩))
                all_goals first | omega | skip
                go_ret
                exact ⟨rfl, h4.out.bel⟩
  · rw [show ∀ ok, rightN sec ok = 1 from fun ok => by unfold rightN; rw [if_pos (by omega)]]
    have n0 : ¬ sec = 0 := fun h => hsec (.inl h)
    have n1 : ¬ sec = 1 := fun h => hsec (.inr h)
    have s0 : (sec == 0) = false := by simp [n0]
    have s1 : (sec == 1) = false := by simp [n1]
    have b0 : (sec != 0) = true := by simp [n0]
    have b1 : (sec != 1) = true := by simp [n1]
    clear hsec
    go_enter Tryz.func101, Tryz.ntmps101
    go_wp2
    all_goals first | omega | skip
    go_ret
    exact ⟨rfl, h0.out.bel⟩
end Go.Proofs.YtmndccbeddaphaaGreatDoor
namespace Go.Proofs.YtmndccbeddaphaaGreatDoor
set_option linter.unusedVariables false
set_option maxRecDepth 100000
/-! ### its items are right -/
def okI (x : Itm) (sec : Int) : Bool := okB x.kind (str x.name) x.op x.a x.b x.m x.form x.e.terms x.e.const x.n sec
end Go.Proofs.YtmndccbeddaphaaGreatDoor
namespace Go.Proofs.YtmndccbeddaphaaGreatDoor
open Go.ChangeShapes Go.WideShapes Go.ChangeAt Go.RowKit
set_option linter.unusedVariables false
set_option maxRecDepth 100000
theorem ItAt.below {w w' : World} {g o : Nat} {x : Itm} {va : Option Addr} {n vc : Nat} (h : ItAt w g o x va n vc) {B : Nat} (hb : Below B w w') (hg : g < B) : ItAt w' g o x va n vc :=
  ⟨(hb.cell (p := ⟨g, _, none⟩) hg).trans h.kind, (hb.cell (p := ⟨g, _, none⟩) hg).trans h.name, (hb.cell (p := ⟨g, _, none⟩) hg).trans h.op, (hb.cell (p := ⟨g, _, none⟩) hg).trans h.a, (hb.cell (p := ⟨g, _, none⟩) hg).trans h.b, (hb.cell (p := ⟨g, _, none⟩) hg).trans h.m, (hb.cell (p := ⟨g, _, none⟩) hg).trans h.form, (hb.cell (p := ⟨g, _, none⟩) hg).trans h.terms, (hb.cell (p := ⟨g, _, none⟩) hg).trans h.const, (hb.cell (p := ⟨g, _, none⟩) hg).trans h.n⟩
end Go.Proofs.YtmndccbeddaphaaGreatDoor
namespace Go.Proofs.YtmndccbeddaphaaGreatDoor
open Go.ChangeShapes Go.WideShapes Go.ChangeAt Go.RowKit Go.Sort
set_option linter.unusedVariables false
set_option maxRecDepth 100000
def sortS (ss : List (List UInt8)) : List (List UInt8) := ss.mergeSort fun x y => decide (x ≤ y)
theorem sortS_len (ss : List (List UInt8)) : (sortS ss).length = ss.length := List.length_mergeSort ss
theorem sortS_any (v : Value) (ss : List (List UInt8)) (B : Nat) (w : World) (hl : ss.length ≤ 9000000) (hown : w.ownsRow B 9 1 v ss.length (ss.map encStr)) :
    Calls Tryz.prog 105 #[v] w fun e w' => e = .returned (.tuple #[]) ∧ w'.ownsRow B 9 1 v ss.length ((sortS ss).map encStr) ∧ w.grownBy w' v.ownBlock := by
  rcases hown.2 with ⟨rfl, h0⟩ | ⟨g, cap, cur, rfl, hbase, hb, h1, h2, h3, h4⟩
  · have he : ss = [] := List.eq_nil_of_length_eq_zero h0
    subst he
    refine (Any.slices_Sort_string_none Tryz.laysStrSort none 0 w).mono ?_
    rintro e w' ⟨rfl, rfl⟩
    exact ⟨rfl, by simpa [sortS] using World.ownsRow_nil _ B 9 1, World.grownBy.refl _ _⟩
  · have hv : (Value.slice (some ⟨g, 0, none⟩) ss.length cap) ≠ .slice none 0 0 := by simp
    obtain ⟨g', cap', e1, _, hlt, _, _, _, hH⟩ := Lib.holds_of_ownsRow hown hv
    injection e1 with e1 _ e3
    injection e1 with e1
    injection e1 with e1
    subst e1 e3
    refine (Any.slices_Sort_string Tryz.laysStrSort g 0 cap ss w hH hlt (by omega)).mono ?_
    rintro e w' ⟨rfl, n, os, rfl⟩
    exact ⟨rfl, ownsRow_sorted (sortS_len ss) hbase hb h1 h2 h3, grownBy_sorted _⟩
end Go.Proofs.YtmndccbeddaphaaGreatDoor
namespace Go.Proofs.YtmndccbeddaphaaGreatDoor
open Go.ChangeShapes Go.WideShapes Go.ChangeAt Go.RowKit
set_option linter.unusedVariables false
set_option maxRecDepth 100000
def Src (w : World) (vb : Value) (m : Nat) (news : List Value) : Prop := (vb = .slice none 0 0 ∧ m = 0 ∧ news = []) ∨ ∃ a c, vb = .slice (some a) m c ∧ ∀ j u, news[j]? = some u → w.cell? (a.add j) = some u
section
variable {P : Program}
theorem app_where (w : World) (base : Nat) (t ty e : TypeId) (i : TypeInfo) (z : Value) (ht : P.underlying t = some (.slice e)) (hi : P.info? e = some i) (hz : i.zero = some z)
    (v : Value) (n : Nat) (xs : List Value) (hown : w.ownsRow base e i.size v n xs)
    (a : Addr) (m c : Nat) (news : List Value) (hl : news.length = m * i.size) (hnews : ∀ j u, news[j]? = some u → w.cell? (a.add j) = some u) (h1 : ∀ u ∈ news, u.oneCell' = true)
    (h63 : n + m ≤ maxLen) (hbytes : ((n + m) + (n + m) / 4 + 192) * i.bytes ≤ 281474976710656) {v' : Value} {w' : World}
    (hr : (Builtin.append_ #[t, t] ty #[v, .slice (some a) m c]).run P w = .ok v' w') : v'.ownBlock = v.ownBlock ∨ v'.ownBlock = some w.heap.size := by
  have hsmall : n + m ≤ 9223372036854775807 := by simp only [maxLen] at h63; omega
  rcases hown.2 with ⟨rfl, rfl⟩ | ⟨g, cap, cur, rfl, hbg, hg, hnc, hcm, hcs, htake⟩
  · by_cases hm : m = 0
    · subst hm
      have h0 : (Builtin.append_ #[t, t] ty #[.slice none 0 0, .slice (some a) 0 c]).run P w = .ok (.slice none 0 0) w := by
        simp [Builtin.append_, run_underlying ht, sizeOf, typeInfo, hi, Builtin.lenOf, Builtin.firstCells, loadCells, loadCellsFrom]
      rw [h0] at hr
      cases hr
      exact .inl rfl
    · rw [run_append_nil (P := P) w t ty e i z ht hi hz a m c news hl hnews (by omega) (by omega) (Nat.le_trans (Nat.mul_le_mul_right _ (by omega)) hbytes)] at hr
      cases hr
      exact .inr rfl
  · by_cases hroom : n + m ≤ cap
    · rw [run_append_room (P := P) w t ty e i ht hi g n cap cur hg a m c news hl hnews h1 hroom (by rw [hl, hcs, ← Nat.add_mul]; exact Nat.mul_le_mul_right _ hroom)] at hr
      cases hr
      exact .inl rfl
    · rw [run_append_grow (P := P) w t ty e i z ht hi hz ⟨g, 0, none⟩ n cap xs hown.1 (hown.cells (g := g) rfl) a m c news hl hnews (by omega) (by omega) (growslice_fits_wide (by omega) hbytes)] at hr
      cases hr
      exact .inr rfl
theorem app_run (w : World) (base : Nat) (t ty e : TypeId) (i : TypeInfo) (z : Value) (size bytes : Nat) (ht : P.underlying t = some (.slice e)) (hi : P.info? e = some i) (hz : i.zero = some z)
    (hsize : i.size = size) (hby : i.bytes = bytes) (hzs : z.cells.size = size) (hsz : 0 < size)
    (v : Value) (n : Nat) (xs : List Value) (hown : w.ownsRow base e size v n xs)
    (vb : Value) (m : Nat) (news : List Value) (hsrc : Src w vb m news) (hl : news.length = m * size) (h1 : ∀ u ∈ news, u.oneCell' = true)
    (h63 : n + m ≤ maxLen) (hbytes : ((n + m) + (n + m) / 4 + 192) * bytes ≤ 281474976710656) (hbase : base ≤ w.heap.size) :
    ∃ v' w', (Builtin.append_ #[t, t] ty #[v, vb]).run P w = .ok v' w' ∧ w'.ownsRow base e size v' (n + m) (xs ++ news) ∧ w.grownBy w' v.ownBlock ∧ (v'.ownBlock = v.ownBlock ∨ v'.ownBlock = some w.heap.size) := by
  rcases hsrc with ⟨rfl, rfl, rfl⟩ | ⟨a, c, rfl, hnews⟩
  · refine ⟨v, w, run_append_owned_none (P := P) (w := w) base t ty e i size ht hi v n xs hown, by simpa using hown, ⟨rfl, rfl, rfl, Nat.le_refl _, fun _ _ _ => rfl⟩, .inl rfl⟩
  · obtain ⟨v', w', hr, h2, h3, _⟩ := run_append_own_wide (P := P) w base t ty e i z size bytes ht hi hz hsize hby hzs hsz v n xs hown a m c news hl hnews h1 h63 hbytes hbase
    subst hsize
    subst hby
    exact ⟨v', w', hr, h2, h3, app_where w base t ty e i z ht hi hz v n xs hown a m c news hl hnews h1 h63 hbytes hr⟩
theorem wpList_app {w : World} {ops : Array Oper} {rest : List Oper} {o : Oper} {a : Act} {Q : Exit → Act → World → Prop} (hgd : o.guard = none) (s x : Operand) (t : TypeId)
    (ho : o.op = .call { callee := .builtin .append, args := #[s, x], argTypes := #[t, t] })
    (base : Nat) (e : TypeId) (i : TypeInfo) (z : Value) (size bytes : Nat) (ht : P.underlying t = some (.slice e)) (hi : P.info? e = some i) (hz : i.zero = some z)
    (hsize : i.size = size) (hby : i.bytes = bytes) (hzs : z.cells.size = size) (hsz : 0 < size)
    (v : Value) (n : Nat) (xs : List Value) (hs : a.eval s = v) (hown : w.ownsRow base e size v n xs)
    (vb : Value) (m : Nat) (news : List Value) (hx : a.eval x = vb) (hsrc : Src w vb m news) (hl : news.length = m * size) (h1 : ∀ u ∈ news, u.oneCell' = true)
    (h63 : n + m ≤ maxLen) (hbytes : ((n + m) + (n + m) / 4 + 192) * bytes ≤ 281474976710656) (hbase : base ≤ w.heap.size)
    (h : ∀ v' w', w'.ownsRow base e size v' (n + m) (xs ++ news) → w.grownBy w' v.ownBlock → (v'.ownBlock = v.ownBlock ∨ v'.ownBlock = some w.heap.size) → wpList P ops Q rest (a.put o.dst v') w') : wpList P ops Q (o :: rest) a w := by
  refine wpList_plain hgd fun K hK => ?_
  obtain ⟨v', w', hrun, h2, h3, h4⟩ := app_run (P := P) w base t o.type e i z size bytes ht hi hz hsize hby hzs hsz v n xs hown vb m news hsrc hl h1 h63 hbytes hbase
  unfold Oper.wp
  simp [execOp, ho, resolve, invoke, builtin, hs, hx, hrun, Result.andThen]
  exact hK _ _ (h v' w' h2 h3 h4)
theorem step_app {ops : Array Oper} {o : Oper} {a : Act} {K : Act → World → Prop} {Q : Exit → Act → World → Prop} {E : Prop} (w : World) (hgd : o.guard = none) (s x : Operand) (t : TypeId)
    (ho : o.op = .call { callee := .builtin .append, args := #[s, x], argTypes := #[t, t] })
    (base : Nat) (e : TypeId) (i : TypeInfo) (z : Value) (size bytes : Nat) (ht : P.underlying t = some (.slice e)) (hi : P.info? e = some i) (hz : i.zero = some z)
    (hsize : i.size = size) (hby : i.bytes = bytes) (hzs : z.cells.size = size) (hsz : 0 < size)
    (v : Value) (n : Nat) (xs : List Value) (hs : a.eval s = v) (hown : w.ownsRow base e size v n xs)
    (vb : Value) (m : Nat) (news : List Value) (hx : a.eval x = vb) (hsrc : Src w vb m news) (hl : news.length = m * size) (h1 : ∀ u ∈ news, u.oneCell' = true)
    (h63 : n + m ≤ maxLen) (hbytes : ((n + m) + (n + m) / 4 + 192) * bytes ≤ 281474976710656) (hbase : base ≤ w.heap.size)
    (hK : ∀ v' w', w'.ownsRow base e size v' (n + m) (xs ++ news) → w.grownBy w' v.ownBlock → (v'.ownBlock = v.ownBlock ∨ v'.ownBlock = some w.heap.size) → K (a.put o.dst v') w') :
    if Region.wanted o (yielded ops a.tmps) = true then Oper.wp P o a w K Q else E := by
  have hw : Region.wanted o (yielded ops a.tmps) = true := by simp [Region.wanted, hgd]
  rw [if_pos hw]
  obtain ⟨v', w', hrun, h2, h3, h4⟩ := app_run (P := P) w base t o.type e i z size bytes ht hi hz hsize hby hzs hsz v n xs hown vb m news hsrc hl h1 h63 hbytes hbase
  unfold Oper.wp
  simp [execOp, ho, resolve, invoke, builtin, hs, hx, hrun, Result.andThen]
  exact hK v' w' h2 h3 h4
end
theorem own_src {w : World} {lo : Nat} {T : TypeId} {sz : Nat} {v : Value} {n : Nat} {xs : List Value} (h : w.ownsRow lo T sz v n xs) : Src w v n xs := by
  rcases h.2 with ⟨rfl, rfl⟩ | ⟨g, cap, cur, rfl, _⟩
  · exact .inl ⟨rfl, rfl, List.eq_nil_of_length_eq_zero (by simpa using h.1)⟩
  · exact .inr ⟨_, _, rfl, h.cells (g := g) rfl⟩
end Go.Proofs.YtmndccbeddaphaaGreatDoor
namespace Go.Proofs.YtmndccbeddaphaaGreatDoor
open Go.ChangeShapes Go.WideShapes Go.ChangeAt Go.RowKit
set_option linter.unusedVariables false
set_option maxRecDepth 100000
theorem info91 : (Tryz.prog.info? 86).map (fun i => (i.zero, i.size, i.bytes)) = some (some (.agg #[.int .i64 0, .string ⟨#[]⟩, .int .i64 0, .int .i64 0, .int .i64 0, .int .i32 0, .int .i64 0, .slice none 0 0, .int .u32 0, .int .i64 0]), 10, 104) := by kernel_rfl
end Go.Proofs.YtmndccbeddaphaaGreatDoor
namespace Go.Proofs.YtmndccbeddaphaaGreatDoor
open Go.ChangeShapes Go.WideShapes Go.ChangeAt Go.RowKit Go.Sort
set_option linter.unusedVariables false
set_option maxRecDepth 100000
theorem info9 : (Tryz.prog.info? 9).map (fun i => (i.zero, i.size, i.bytes)) = some (some (.string ⟨#[]⟩), 1, 16) := by kernel_rfl
abbrev unit4 (a b c d : Value) : Array Value := #[a, b, c, d]
theorem four_read {T : TypeId} {w : World} {g : Nat} {v0 v1 v2 v3 : Value} (h : w.heap[g]? = some (.cells #[v0, v1, v2, v3] T (0, 0))) : w.cell? ⟨g, 0, none⟩ = some v0 ∧ w.cell? ⟨g, 1, none⟩ = some v1 ∧ w.cell? ⟨g, 2, none⟩ = some v2 ∧ w.cell? ⟨g, 3, none⟩ = some v3 :=
  ⟨(cell_blockT h 0).trans rfl, (cell_blockT h 1).trans rfl, (cell_blockT h 2).trans rfl, (cell_blockT h 3).trans rfl⟩
end Go.Proofs.YtmndccbeddaphaaGreatDoor
