/- The library's slices.Sort, slices.Compact, slices.BinarySearch at texts, and strconv.Itoa: the shelf's layings at this program's numbers. -/
import Derived.Test.YtmndccbeddaphaaGreatDoorT1
import Derived.Test.YtmndccbeddaphaaGreatDoorOwn
import Derived.Deep.DeepAppendWide
import Derived.Laws.OwnMore
import Derived.Test.YtmndccbeddaphaaGreatDoorEr1
import Derived.Maps.OwnSet
import Derived.Maps.OwnOps
import Derived.Test.YtmndccbeddaphaaGreatDoorNames
import Derived.Lib.IndexLaws
import Derived.Test.YtmndccbeddaphaaGreatDoorNum2
import Derived.Test.YtmndccbeddaphaaGreatDoorQuietB
import Derived.Deep.QuietTactic
import Derived.BigQuiet
import Derived.WalkSmall
import Derived.WalkSpells
import Derived.RangeFuncOwn
import Derived.OwnWalk
import Derived.Deep.Cut
import Derived.Shelf.Lays
import Derived.Shelf.Lays2
import Derived.Shelf.LaysM
import Derived.Test.YtmndccbeddaphaaGreatDoorProg
/- item's Right. -/
namespace Go.Proofs.YtmndccbeddaphaaGreatDoor
open Go.ChangeShapes Go.WideShapes Go.ChangeAt Go.RowKit
set_option linter.unusedVariables false
set_option maxRecDepth 100000
def rightN (sec : Int) (ok : Bool) : Int := if sec ≠ 0 ∧ sec ≠ 1 then 1 else if ok then 0 else 31
def okB (k : Int) (s : ByteArray) (op a b m f : Int) (ts : List Tm) (c n sec : Int) : Bool := standsB k sec && (nameB k s && (instB k op a b m f && (exprB (hasEB k op) ts c && numOfB k n)))
structure RI (w : World) (A : Array Value) (wr : World) : Prop where
  bel : Below w.heap.size w wr
  row : wr.heap[w.heap.size]? = some (.cells A 86 (0, 0))
  tab : Tab wr
theorem RI.below {w : World} {A : Array Value} {wr w' : World} (h : RI w A wr) (hb : Below wr.heap.size wr w') : RI w A w' :=
  ⟨h.bel.trans (hb.mono h.bel.size), by rw [hb.block _ (blk_lt h.row)]; exact h.row, h.tab.below hb h.tab.size⟩
theorem rowIt {w : World} {g : Nat} {v0 v1 v2 v3 v4 v5 v6 v7 v8 v9 : Value} (h : w.heap[g]? = some (.cells #[v0, v1, v2, v3, v4, v5, v6, v7, v8, v9] 86 (0, 0))) : w.cell? ⟨g, 0, none⟩ = some v0 ∧ w.cell? ⟨g, 1, none⟩ = some v1 ∧ w.cell? ⟨g, 2, none⟩ = some v2 ∧ w.cell? ⟨g, 3, none⟩ = some v3 ∧ w.cell? ⟨g, 4, none⟩ = some v4 ∧ w.cell? ⟨g, 5, none⟩ = some v5 ∧ w.cell? ⟨g, 6, none⟩ = some v6 ∧ w.cell? ⟨g, 7, none⟩ = some v7 ∧ w.cell? ⟨g, 8, none⟩ = some v8 ∧ w.cell? ⟨g, 9, none⟩ = some v9 :=
  ⟨(cell_blockT h 0).trans rfl, (cell_blockT h 1).trans rfl, (cell_blockT h 2).trans rfl, (cell_blockT h 3).trans rfl, (cell_blockT h 4).trans rfl, (cell_blockT h 5).trans rfl, (cell_blockT h 6).trans rfl, (cell_blockT h 7).trans rfl, (cell_blockT h 8).trans rfl, (cell_blockT h 9).trans rfl⟩
set_option maxHeartbeats 1000000 in
theorem itemRight_any (k : Int) (s : ByteArray) (hs : s.size ≤ 1100000) (op a b m f : Int) (hm : -2147483648 ≤ m ∧ m ≤ 2147483647) (va : Option Addr) (vc : Nat) (ts : List Tm) (c n sec : Int) (hn : -9223372036854775808 ≤ n ∧ n ≤ 9223372036854775807) (w : World) (hT : Tab w) (hL : TmLies w va ts) (hlen : ts.length ≤ 9000000) (hN : ∀ t ∈ ts, t.name.length ≤ 1100000) :
    Calls Tryz.prog 101 #[itV k s op a b m f va ts.length vc c n, .int .i64 sec] w fun e w' => e = .returned (.int .i64 (rightN sec (okB k s op a b m f ts c n sec))) ∧ Below w.heap.size w w' := by
  have h0 : RI w (itA k s op a b m f va ts.length vc c n) (w.alloc (.cells (itA k s op a b m f va ts.length vc c n) 86)) := ⟨below_alloc w _, heap_alloc_new w _, hT.alloc _⟩
  have h23 := fun w1 => stands_any k sec w1
  have h24 := fun w1 => rightName_any k s hs op a b m f va ts.length vc c n w1
  have h25 := fun w1 (h1 : RI w (itA k s op a b m f va ts.length vc c n) w1) => rightInst_any k s op a b m f va ts.length vc c n w1 h1.tab hm
  have h26 := fun w1 (h1 : RI w (itA k s op a b m f va ts.length vc c n) w1) => rightExpression_any k s op a b m f va vc ts c n w1 h1.tab (hL.below h1.bel (Nat.le_refl _)) hlen hN
  have h27 := fun w1 => isNumberOf_any k n w1 hn
  have hF : okB k s op a b m f ts c n sec = (standsB k sec && (nameB k s && (instB k op a b m f && (exprB (hasEB k op) ts c && numOfB k n)))) := rfl
  rw [hF]
  clear hF hT hL hN hs hm hn
  generalize standsB k sec = b1 at h23 ⊢
  generalize nameB k s = b2 at h24 ⊢
  generalize instB k op a b m f = b3 at h25 ⊢
  generalize exprB (hasEB k op) ts c = b4 at h26 ⊢
  generalize numOfB k n = b5 at h27 ⊢
  generalize ts.length = ln at h0 h24 h25 h26 hlen ⊢
  replace h0 := Hid.intro h0
  replace h23 := Hid.intro h23
  replace h24 := Hid.intro h24
  replace h25 := Hid.intro h25
  replace h26 := Hid.intro h26
  replace h27 := Hid.intro h27
  clear hlen
  by_cases hsec : sec = 0 ∨ sec = 1
  · rw [show ∀ ok, rightN sec ok = if ok then 0 else 31 from fun ok => by unfold rightN; rw [if_neg (by omega)]]
    have key : ∀ (c1 : Bool), ((if (c1 : Bool) = true then (0 : Int) else 31) = if c1 then 0 else 31) := fun _ => rfl
    clear key
    rcases hsec with rfl | rfl
    all_goals
      cases b1
      · go_enter Tryz.func101, Tryz.ntmps101
        go_wp2_with (first
          | (go_at_call 122; (with_reducible refine (h23.out _).mono ?_); rintro e w1 ⟨rfl, rfl⟩)
          | (go_at_call 123; (with_reducible refine (h24.out _).mono ?_); rintro e w2 ⟨rfl, hb2⟩; have h2 := Hid.intro (h0.out.below hb2); obtain ⟨q0, q1, q2, q3, q4, q5, q6, q7, q8, q9⟩ := rowIt h2.out.row)
          | (go_at_call 124; (with_reducible refine (h25.out _ h2.out).mono ?_); rintro e w3 ⟨rfl, hb3⟩; have h3 := Hid.intro (h2.out.below hb3); obtain ⟨p0, p1, p2, p3, p4, p5, p6, p7, p8, p9⟩ := rowIt h3.out.row)
          | (go_at_call 125; (with_reducible refine (h26.out _ h3.out).mono ?_); rintro e w4 ⟨rfl, hb4⟩; have h4 := Hid.intro (h3.out.below hb4); obtain ⟨r0, r1, r2, r3, r4, r5, r6, r7, r8, r9⟩ := rowIt h4.out.row)
          | (go_at_call 126; (with_reducible refine (h27.out _).mono ?_); rintro e w5 ⟨rfl, rfl⟩))
        all_goals first | omega | skip
        go_ret
        exact ⟨rfl, h0.out.bel⟩
      · cases b2
        · go_enter Tryz.func101, Tryz.ntmps101
          go_wp2_with (first
            | (go_at_call 122; (with_reducible refine (h23.out _).mono ?_); rintro e w1 ⟨rfl, rfl⟩)
            | (go_at_call 123; (with_reducible refine (h24.out _).mono ?_); rintro e w2 ⟨rfl, hb2⟩; have h2 := Hid.intro (h0.out.below hb2); obtain ⟨q0, q1, q2, q3, q4, q5, q6, q7, q8, q9⟩ := rowIt h2.out.row)
            | (go_at_call 124; (with_reducible refine (h25.out _ h2.out).mono ?_); rintro e w3 ⟨rfl, hb3⟩; have h3 := Hid.intro (h2.out.below hb3); obtain ⟨p0, p1, p2, p3, p4, p5, p6, p7, p8, p9⟩ := rowIt h3.out.row)
            | (go_at_call 125; (with_reducible refine (h26.out _ h3.out).mono ?_); rintro e w4 ⟨rfl, hb4⟩; have h4 := Hid.intro (h3.out.below hb4); obtain ⟨r0, r1, r2, r3, r4, r5, r6, r7, r8, r9⟩ := rowIt h4.out.row)
            | (go_at_call 126; (with_reducible refine (h27.out _).mono ?_); rintro e w5 ⟨rfl, rfl⟩))
          all_goals first | omega | skip
          go_ret
          exact ⟨rfl, h2.out.bel⟩
        · cases b3
          · go_enter Tryz.func101, Tryz.ntmps101
            go_wp2_with (first
              | (go_at_call 122; (with_reducible refine (h23.out _).mono ?_); rintro e w1 ⟨rfl, rfl⟩)
              | (go_at_call 123; (with_reducible refine (h24.out _).mono ?_); rintro e w2 ⟨rfl, hb2⟩; have h2 := Hid.intro (h0.out.below hb2); obtain ⟨q0, q1, q2, q3, q4, q5, q6, q7, q8, q9⟩ := rowIt h2.out.row)
              | (go_at_call 124; (with_reducible refine (h25.out _ h2.out).mono ?_); rintro e w3 ⟨rfl, hb3⟩; have h3 := Hid.intro (h2.out.below hb3); obtain ⟨p0, p1, p2, p3, p4, p5, p6, p7, p8, p9⟩ := rowIt h3.out.row)
              | (go_at_call 125; (with_reducible refine (h26.out _ h3.out).mono ?_); rintro e w4 ⟨rfl, hb4⟩; have h4 := Hid.intro (h3.out.below hb4); obtain ⟨r0, r1, r2, r3, r4, r5, r6, r7, r8, r9⟩ := rowIt h4.out.row)
              | (go_at_call 126; (with_reducible refine (h27.out _).mono ?_); rintro e w5 ⟨rfl, rfl⟩))
            all_goals first | omega | skip
            go_ret
            exact ⟨rfl, h3.out.bel⟩
          · cases b4
            · go_enter Tryz.func101, Tryz.ntmps101
              go_wp2_with (first
                | (go_at_call 122; (with_reducible refine (h23.out _).mono ?_); rintro e w1 ⟨rfl, rfl⟩)
                | (go_at_call 123; (with_reducible refine (h24.out _).mono ?_); rintro e w2 ⟨rfl, hb2⟩; have h2 := Hid.intro (h0.out.below hb2); obtain ⟨q0, q1, q2, q3, q4, q5, q6, q7, q8, q9⟩ := rowIt h2.out.row)
                | (go_at_call 124; (with_reducible refine (h25.out _ h2.out).mono ?_); rintro e w3 ⟨rfl, hb3⟩; have h3 := Hid.intro (h2.out.below hb3); obtain ⟨p0, p1, p2, p3, p4, p5, p6, p7, p8, p9⟩ := rowIt h3.out.row)
                | (go_at_call 125; (with_reducible refine (h26.out _ h3.out).mono ?_); rintro e w4 ⟨rfl, hb4⟩; have h4 := Hid.intro (h3.out.below hb4); obtain ⟨r0, r1, r2, r3, r4, r5, r6, r7, r8, r9⟩ := rowIt h4.out.row)
                | (go_at_call 126; (with_reducible refine (h27.out _).mono ?_); rintro e w5 ⟨rfl, rfl⟩))
              all_goals first | omega | skip
              go_ret
              exact ⟨rfl, h4.out.bel⟩
            · cases b5
              · go_enter Tryz.func101, Tryz.ntmps101
                go_wp2_with (first
                  | (go_at_call 122; (with_reducible refine (h23.out _).mono ?_); rintro e w1 ⟨rfl, rfl⟩)
                  | (go_at_call 123; (with_reducible refine (h24.out _).mono ?_); rintro e w2 ⟨rfl, hb2⟩; have h2 := Hid.intro (h0.out.below hb2); obtain ⟨q0, q1, q2, q3, q4, q5, q6, q7, q8, q9⟩ := rowIt h2.out.row)
                  | (go_at_call 124; (with_reducible refine (h25.out _ h2.out).mono ?_); rintro e w3 ⟨rfl, hb3⟩; have h3 := Hid.intro (h2.out.below hb3); obtain ⟨p0, p1, p2, p3, p4, p5, p6, p7, p8, p9⟩ := rowIt h3.out.row)
                  | (go_at_call 125; (with_reducible refine (h26.out _ h3.out).mono ?_); rintro e w4 ⟨rfl, hb4⟩; have h4 := Hid.intro (h3.out.below hb4); obtain ⟨r0, r1, r2, r3, r4, r5, r6, r7, r8, r9⟩ := rowIt h4.out.row)
                  | (go_at_call 126; (with_reducible refine (h27.out _).mono ?_); rintro e w5 ⟨rfl, rfl⟩))
                all_goals first | omega | skip
                go_ret
                exact ⟨rfl, h4.out.bel⟩
              · go_enter Tryz.func101, Tryz.ntmps101
                go_wp2_with (first
                  | (go_at_call 122; (with_reducible refine (h23.out _).mono ?_); rintro e w1 ⟨rfl, rfl⟩)
                  | (go_at_call 123; (with_reducible refine (h24.out _).mono ?_); rintro e w2 ⟨rfl, hb2⟩; have h2 := Hid.intro (h0.out.below hb2); obtain ⟨q0, q1, q2, q3, q4, q5, q6, q7, q8, q9⟩ := rowIt h2.out.row)
                  | (go_at_call 124; (with_reducible refine (h25.out _ h2.out).mono ?_); rintro e w3 ⟨rfl, hb3⟩; have h3 := Hid.intro (h2.out.below hb3); obtain ⟨p0, p1, p2, p3, p4, p5, p6, p7, p8, p9⟩ := rowIt h3.out.row)
                  | (go_at_call 125; (with_reducible refine (h26.out _ h3.out).mono ?_); rintro e w4 ⟨rfl, hb4⟩; have h4 := Hid.intro (h3.out.below hb4); obtain ⟨r0, r1, r2, r3, r4, r5, r6, r7, r8, r9⟩ := rowIt h4.out.row)
                  | (go_at_call 126; (with_reducible refine (h27.out _).mono ?_); rintro e w5 ⟨rfl, rfl⟩))
                all_goals first | omega | skip
                go_ret
                exact ⟨rfl, h4.out.bel⟩
  · rw [show ∀ ok, rightN sec ok = 1 from fun ok => by unfold rightN; rw [if_pos (by omega)]]
    have n0 : ¬ sec = 0 := fun h => hsec (.inl h)
    have n1 : ¬ sec = 1 := fun h => hsec (.inr h)
    have s0 : (sec == 0) = false := by simp [n0]
    have s1 : (sec == 1) = false := by simp [n1]
    have b0 : (sec != 0) = true := by simp [n0]
    have b1 : (sec != 1) = true := by simp [n1]
    clear hsec
    go_enter Tryz.func101, Tryz.ntmps101
    go_wp2
    all_goals first | omega | skip
    go_ret
    exact ⟨rfl, h0.out.bel⟩
end Go.Proofs.YtmndccbeddaphaaGreatDoor
/- Lists that grow: a list laid behind one that is owned, and the block that it lies in then. -/
namespace Go.Proofs.YtmndccbeddaphaaGreatDoor
open Go.ChangeShapes Go.WideShapes Go.ChangeAt Go.RowKit
set_option linter.unusedVariables false
set_option maxRecDepth 100000
def Src (w : World) (vb : Value) (m : Nat) (news : List Value) : Prop := (vb = .slice none 0 0 ∧ m = 0 ∧ news = []) ∨ ∃ a c, vb = .slice (some a) m c ∧ ∀ j u, news[j]? = some u → w.cell? (a.add j) = some u
section
variable {P : Program}
theorem app_where (w : World) (base : Nat) (t ty e : TypeId) (i : TypeInfo) (z : Value) (ht : P.underlying t = some (.slice e)) (hi : P.info? e = some i) (hz : i.zero = some z)
    (v : Value) (n : Nat) (xs : List Value) (hown : w.ownsRow base e i.size v n xs)
    (a : Addr) (m c : Nat) (news : List Value) (hl : news.length = m * i.size) (hnews : ∀ j u, news[j]? = some u → w.cell? (a.add j) = some u) (h1 : ∀ u ∈ news, u.oneCell' = true)
    (h63 : n + m ≤ maxLen) (hbytes : ((n + m) + (n + m) / 4 + 192) * i.bytes ≤ 281474976710656) {v' : Value} {w' : World}
    (hr : (Builtin.append_ #[t, t] ty #[v, .slice (some a) m c]).run P w = .ok v' w') : v'.ownBlock = v.ownBlock ∨ v'.ownBlock = some w.heap.size := by
  have hsmall : n + m ≤ 9223372036854775807 := by simp only [maxLen] at h63; omega
  rcases hown.2 with ⟨rfl, rfl⟩ | ⟨g, cap, cur, rfl, hbg, hg, hnc, hcm, hcs, htake⟩
  · by_cases hm : m = 0
    · subst hm
      have h0 : (Builtin.append_ #[t, t] ty #[.slice none 0 0, .slice (some a) 0 c]).run P w = .ok (.slice none 0 0) w := by
        simp [Builtin.append_, run_underlying ht, sizeOf, typeInfo, hi, Builtin.lenOf, Builtin.firstCells, loadCells, loadCellsFrom]
      rw [h0] at hr
      cases hr
      exact .inl rfl
    · rw [run_append_nil (P := P) w t ty e i z ht hi hz a m c news hl hnews (by omega) (by omega) (Nat.le_trans (Nat.mul_le_mul_right _ (by omega)) hbytes)] at hr
      cases hr
      exact .inr rfl
  · by_cases hroom : n + m ≤ cap
    · rw [run_append_room (P := P) w t ty e i ht hi g n cap cur hg a m c news hl hnews h1 hroom (by rw [hl, hcs, ← Nat.add_mul]; exact Nat.mul_le_mul_right _ hroom)] at hr
      cases hr
      exact .inl rfl
    · rw [run_append_grow (P := P) w t ty e i z ht hi hz ⟨g, 0, none⟩ n cap xs hown.1 (hown.cells (g := g) rfl) a m c news hl hnews (by omega) (by omega) (growslice_fits_wide (by omega) hbytes)] at hr
      cases hr
      exact .inr rfl
theorem app_run (w : World) (base : Nat) (t ty e : TypeId) (i : TypeInfo) (z : Value) (size bytes : Nat) (ht : P.underlying t = some (.slice e)) (hi : P.info? e = some i) (hz : i.zero = some z)
    (hsize : i.size = size) (hby : i.bytes = bytes) (hzs : z.cells.size = size) (hsz : 0 < size)
    (v : Value) (n : Nat) (xs : List Value) (hown : w.ownsRow base e size v n xs)
    (vb : Value) (m : Nat) (news : List Value) (hsrc : Src w vb m news) (hl : news.length = m * size) (h1 : ∀ u ∈ news, u.oneCell' = true)
    (h63 : n + m ≤ maxLen) (hbytes : ((n + m) + (n + m) / 4 + 192) * bytes ≤ 281474976710656) (hbase : base ≤ w.heap.size) :
    ∃ v' w', (Builtin.append_ #[t, t] ty #[v, vb]).run P w = .ok v' w' ∧ w'.ownsRow base e size v' (n + m) (xs ++ news) ∧ w.grownBy w' v.ownBlock ∧ (v'.ownBlock = v.ownBlock ∨ v'.ownBlock = some w.heap.size) := by
  rcases hsrc with ⟨rfl, rfl, rfl⟩ | ⟨a, c, rfl, hnews⟩
  · refine ⟨v, w, run_append_owned_none (P := P) (w := w) base t ty e i size ht hi v n xs hown, by simpa using hown, ⟨rfl, rfl, rfl, Nat.le_refl _, fun _ _ _ => rfl⟩, .inl rfl⟩
  · obtain ⟨v', w', hr, h2, h3, _⟩ := run_append_own_wide (P := P) w base t ty e i z size bytes ht hi hz hsize hby hzs hsz v n xs hown a m c news hl hnews h1 h63 hbytes hbase
    subst hsize
    subst hby
    exact ⟨v', w', hr, h2, h3, app_where w base t ty e i z ht hi hz v n xs hown a m c news hl hnews h1 h63 hbytes hr⟩
theorem wpList_app {w : World} {ops : Array Oper} {rest : List Oper} {o : Oper} {a : Act} {Q : Exit → Act → World → Prop} (hgd : o.guard = none) (s x : Operand) (t : TypeId)
    (ho : o.op = .call { callee := .builtin .append, args := #[s, x], argTypes := #[t, t] })
    (base : Nat) (e : TypeId) (i : TypeInfo) (z : Value) (size bytes : Nat) (ht : P.underlying t = some (.slice e)) (hi : P.info? e = some i) (hz : i.zero = some z)
    (hsize : i.size = size) (hby : i.bytes = bytes) (hzs : z.cells.size = size) (hsz : 0 < size)
    (v : Value) (n : Nat) (xs : List Value) (hs : a.eval s = v) (hown : w.ownsRow base e size v n xs)
    (vb : Value) (m : Nat) (news : List Value) (hx : a.eval x = vb) (hsrc : Src w vb m news) (hl : news.length = m * size) (h1 : ∀ u ∈ news, u.oneCell' = true)
    (h63 : n + m ≤ maxLen) (hbytes : ((n + m) + (n + m) / 4 + 192) * bytes ≤ 281474976710656) (hbase : base ≤ w.heap.size)
    (h : ∀ v' w', w'.ownsRow base e size v' (n + m) (xs ++ news) → w.grownBy w' v.ownBlock → (v'.ownBlock = v.ownBlock ∨ v'.ownBlock = some w.heap.size) → wpList P ops Q rest (a.put o.dst v') w') : wpList P ops Q (o :: rest) a w := by
  refine wpList_plain hgd fun K hK => ?_
  obtain ⟨v', w', hrun, h2, h3, h4⟩ := app_run (P := P) w base t o.type e i z size bytes ht hi hz hsize hby hzs hsz v n xs hown vb m news hsrc hl h1 h63 hbytes hbase
  unfold Oper.wp
  simp [execOp, ho, resolve, invoke, builtin, hs, hx, hrun, Result.andThen]
  exact hK _ _ (h v' w' h2 h3 h4)
theorem step_app {ops : Array Oper} {o : Oper} {a : Act} {K : Act → World → Prop} {Q : Exit → Act → World → Prop} {E : Prop} (w : World) (hgd : o.guard = none) (s x : Operand) (t : TypeId)
    (ho : o.op = .call { callee := .builtin .append, args := #[s, x], argTypes := #[t, t] })
    (base : Nat) (e : TypeId) (i : TypeInfo) (z : Value) (size bytes : Nat) (ht : P.underlying t = some (.slice e)) (hi : P.info? e = some i) (hz : i.zero = some z)
    (hsize : i.size = size) (hby : i.bytes = bytes) (hzs : z.cells.size = size) (hsz : 0 < size)
    (v : Value) (n : Nat) (xs : List Value) (hs : a.eval s = v) (hown : w.ownsRow base e size v n xs)
    (vb : Value) (m : Nat) (news : List Value) (hx : a.eval x = vb) (hsrc : Src w vb m news) (hl : news.length = m * size) (h1 : ∀ u ∈ news, u.oneCell' = true)
    (h63 : n + m ≤ maxLen) (hbytes : ((n + m) + (n + m) / 4 + 192) * bytes ≤ 281474976710656) (hbase : base ≤ w.heap.size)
    (hK : ∀ v' w', w'.ownsRow base e size v' (n + m) (xs ++ news) → w.grownBy w' v.ownBlock → (v'.ownBlock = v.ownBlock ∨ v'.ownBlock = some w.heap.size) → K (a.put o.dst v') w') :
    if Region.wanted o (yielded ops a.tmps) = true then Oper.wp P o a w K Q else E := by
  have hw : Region.wanted o (yielded ops a.tmps) = true := by simp [Region.wanted, hgd]
  rw [if_pos hw]
  obtain ⟨v', w', hrun, h2, h3, h4⟩ := app_run (P := P) w base t o.type e i z size bytes ht hi hz hsize hby hzs hsz v n xs hown vb m news hsrc hl h1 h63 hbytes hbase
  unfold Oper.wp
  simp [execOp, ho, resolve, invoke, builtin, hs, hx, hrun, Result.andThen]
  exact hK v' w' h2 h3 h4
end
theorem own_src {w : World} {lo : Nat} {T : TypeId} {sz : Nat} {v : Value} {n : Nat} {xs : List Value} (h : w.ownsRow lo T sz v n xs) : Src w v n xs := by
  rcases h.2 with ⟨rfl, rfl⟩ | ⟨g, cap, cur, rfl, _⟩
  · exact .inl ⟨rfl, rfl, List.eq_nil_of_length_eq_zero (by simpa using h.1)⟩
  · exact .inr ⟨_, _, rfl, h.cells (g := g) rfl⟩
end Go.Proofs.YtmndccbeddaphaaGreatDoor
/- What a line says, as a function; whatever it says, its items are right. -/
namespace Go.Proofs.YtmndccbeddaphaaGreatDoor
set_option linter.unusedVariables false
set_option maxRecDepth 100000
def okI (x : Itm) (sec : Int) : Bool := okB x.kind (str x.name) x.op x.a x.b x.m x.form x.e.terms x.e.const x.n sec
end Go.Proofs.YtmndccbeddaphaaGreatDoor
/- unit's labelled: the label ahead of a line's items. -/
namespace Go.Proofs.YtmndccbeddaphaaGreatDoor
open Go.ChangeShapes Go.WideShapes Go.ChangeAt Go.RowKit
set_option linter.unusedVariables false
set_option maxRecDepth 100000
theorem info91 : (Tryz.prog.info? 86).map (fun i => (i.zero, i.size, i.bytes)) = some (some (.agg #[.int .i64 0, .string ⟨#[]⟩, .int .i64 0, .int .i64 0, .int .i64 0, .int .i32 0, .int .i64 0, .slice none 0 0, .int .u32 0, .int .i64 0]), 10, 104) := by kernel_rfl
end Go.Proofs.YtmndccbeddaphaaGreatDoor
/- item's Read, whatever the reader: its walk behind the three calls. -/
namespace Go.Proofs.YtmndccbeddaphaaGreatDoor
open Go.ChangeShapes Go.WideShapes Go.ChangeAt Go.RowKit
set_option linter.unusedVariables false
set_option maxRecDepth 100000
theorem ItAt.below {w w' : World} {g o : Nat} {x : Itm} {va : Option Addr} {n vc : Nat} (h : ItAt w g o x va n vc) {B : Nat} (hb : Below B w w') (hg : g < B) : ItAt w' g o x va n vc :=
  ⟨(hb.cell (p := ⟨g, _, none⟩) hg).trans h.kind, (hb.cell (p := ⟨g, _, none⟩) hg).trans h.name, (hb.cell (p := ⟨g, _, none⟩) hg).trans h.op, (hb.cell (p := ⟨g, _, none⟩) hg).trans h.a, (hb.cell (p := ⟨g, _, none⟩) hg).trans h.b, (hb.cell (p := ⟨g, _, none⟩) hg).trans h.m, (hb.cell (p := ⟨g, _, none⟩) hg).trans h.form, (hb.cell (p := ⟨g, _, none⟩) hg).trans h.terms, (hb.cell (p := ⟨g, _, none⟩) hg).trans h.const, (hb.cell (p := ⟨g, _, none⟩) hg).trans h.n⟩
end Go.Proofs.YtmndccbeddaphaaGreatDoor
namespace Go.Proofs
open Go.Shelf
def Tryz.laysStrSort_ren : Go.Shelf.Ren := ⟨fun | 190 => 105 | 125 => 130 | 258 => 129 | 128 => 165 | 129 => 166 | 302 => 157 | 303 => 158 | 304 => 159 | 305 => 160 | 306 => 161 | 307 => 162 | 308 => 131 | 309 => 163 | 310 => 164 | 333 => 182 | 329 => 183 | 330 => 184 | 334 => 185 | 335 => 186 | 336 => 167 | 344 => 194 | n => n, fun | 31 => 28 | 9 => 9 | 3 => 3 | 46 => 114 | 0 => 0 | 51 => 78 | 53 => 209 | 4 => 4 | 183 => 213 | 182 => 212 | 131 => 157 | 5 => 5 | 218 => 231 | 222 => 235 | 228 => 246 | 229 => 247 | n => n, fun | n => n⟩
theorem Tryz.laysStrSort : Go.Proofs.Lays.n190 Tryz.prog Tryz.laysStrSort_ren := {
  mixed := by kernel_rfl
  f125 := Tryz.func130.trans (congrArg some (by kernel_rfl))
  f128 := Tryz.func165.trans (congrArg some (by kernel_rfl))
  f129 := Tryz.func166.trans (congrArg some (by kernel_rfl))
  f190 := Tryz.func105.trans (congrArg some (by kernel_rfl))
  f258 := Tryz.func129.trans (congrArg some (by kernel_rfl))
  f302 := Tryz.func157.trans (congrArg some (by kernel_rfl))
  f303 := Tryz.func158.trans (congrArg some (by kernel_rfl))
  f304 := Tryz.func159.trans (congrArg some (by kernel_rfl))
  f305 := Tryz.func160.trans (congrArg some (by kernel_rfl))
  f306 := Tryz.func161.trans (congrArg some (by kernel_rfl))
  f307 := Tryz.func162.trans (congrArg some (by kernel_rfl))
  f308 := Tryz.func131.trans (congrArg some (by kernel_rfl))
  f309 := Tryz.func163.trans (congrArg some (by kernel_rfl))
  f310 := Tryz.func164.trans (congrArg some (by kernel_rfl))
  f329 := Tryz.func183.trans (congrArg some (by kernel_rfl))
  f330 := Tryz.func184.trans (congrArg some (by kernel_rfl))
  f333 := Tryz.func182.trans (congrArg some (by kernel_rfl))
  f334 := Tryz.func185.trans (congrArg some (by kernel_rfl))
  f335 := Tryz.func186.trans (congrArg some (by kernel_rfl))
  f336 := Tryz.func167.trans (congrArg some (by kernel_rfl))
  f344 := Tryz.func194.trans (congrArg some (by kernel_rfl))
  t0 := Tryz.underlying0
  a0 := Tryz.isAgg0
  z0 := Tryz.sizeOf0
  v0 := Tryz.zeroValue0
  t3 := Tryz.underlying3
  a3 := Tryz.isAgg3
  z3 := Tryz.sizeOf3
  v3 := Tryz.zeroValue3
  t4 := Tryz.underlying4
  a4 := Tryz.isAgg4
  z4 := Tryz.sizeOf4
  v4 := Tryz.zeroValue4
  t5 := Tryz.underlying5
  a5 := Tryz.isAgg5
  z5 := Tryz.sizeOf5
  v5 := Tryz.zeroValue5
  t9 := Tryz.underlying9
  a9 := Tryz.isAgg9
  z9 := Tryz.sizeOf9
  v9 := Tryz.zeroValue9
  t31 := Tryz.underlying28
  a31 := Tryz.isAgg28
  z31 := Tryz.sizeOf28
  v31 := Tryz.zeroValue28
  t46 := Tryz.underlying114
  a46 := Tryz.isAgg114
  z46 := Tryz.sizeOf114
  v46 := Tryz.zeroValue114
  t51 := Tryz.underlying78
  a51 := Tryz.isAgg78
  z51 := Tryz.sizeOf78
  v51 := Tryz.zeroValue78
  t53 := Tryz.underlying209
  a53 := Tryz.isAgg209
  z53 := Tryz.sizeOf209
  v53 := Tryz.zeroValue209
  t131 := Tryz.underlying157
  a131 := Tryz.isAgg157
  z131 := Tryz.sizeOf157
  v131 := Tryz.zeroValue157
  t182 := Tryz.underlying212
  a182 := Tryz.isAgg212
  z182 := Tryz.sizeOf212
  v182 := Tryz.zeroValue212
  t183 := Tryz.underlying213
  a183 := Tryz.isAgg213
  z183 := Tryz.sizeOf213
  v183 := Tryz.zeroValue213
  t218 := Tryz.underlying231
  a218 := Tryz.isAgg231
  z218 := Tryz.sizeOf231
  v218 := Tryz.zeroValue231
  t222 := Tryz.underlying235
  a222 := Tryz.isAgg235
  z222 := Tryz.sizeOf235
  v222 := Tryz.zeroValue235
  t228 := Tryz.underlying246
  a228 := Tryz.isAgg246
  z228 := Tryz.sizeOf246
  v228 := Tryz.zeroValue246
  t229 := Tryz.underlying247
  a229 := Tryz.isAgg247
  z229 := Tryz.sizeOf247
  v229 := Tryz.zeroValue247 }
def Tryz.laysSearch_ren : Go.Shelf.Ren := ⟨fun | 26 => 106 | 33 => 131 | 34 => 132 | 38 => 167 | n => n, fun | 24 => 28 | 9 => 9 | 3 => 3 | 4 => 4 | 40 => 114 | 0 => 0 | n => n, fun | n => n⟩
theorem Tryz.laysSearch : Go.Proofs.Lays2.n26 Tryz.prog Tryz.laysSearch_ren := {
  mixed := by kernel_rfl
  f26 := Tryz.func106.trans (congrArg some (by kernel_rfl))
  f33 := Tryz.func131.trans (congrArg some (by kernel_rfl))
  f34 := Tryz.func132.trans (congrArg some (by kernel_rfl))
  f38 := Tryz.func167.trans (congrArg some (by kernel_rfl))
  t0 := Tryz.underlying0
  a0 := Tryz.isAgg0
  z0 := Tryz.sizeOf0
  v0 := Tryz.zeroValue0
  t3 := Tryz.underlying3
  a3 := Tryz.isAgg3
  z3 := Tryz.sizeOf3
  v3 := Tryz.zeroValue3
  t4 := Tryz.underlying4
  a4 := Tryz.isAgg4
  z4 := Tryz.sizeOf4
  v4 := Tryz.zeroValue4
  t9 := Tryz.underlying9
  a9 := Tryz.isAgg9
  z9 := Tryz.sizeOf9
  v9 := Tryz.zeroValue9
  t24 := Tryz.underlying28
  a24 := Tryz.isAgg28
  z24 := Tryz.sizeOf28
  v24 := Tryz.zeroValue28
  t40 := Tryz.underlying114
  a40 := Tryz.isAgg114
  z40 := Tryz.sizeOf114
  v40 := Tryz.zeroValue114 }
def Tryz.laysItoa_ren : Go.Shelf.Ren := ⟨fun | 171 => 83 | 243 => 118 | 246 => 143 | 283 => 171 | 284 => 172 | 285 => 173 | 286 => 174 | 129 => 166 | 317 => 187 | 318 => 188 | 319 => 189 | 320 => 190 | 337 => 195 | 338 => 196 | n => n, fun | 3 => 3 | 9 => 9 | 2 => 2 | 4 => 4 | 171 => 225 | 0 => 0 | 53 => 209 | 37 => 22 | 5 => 5 | 173 => 227 | 212 => 239 | 51 => 78 | 20 => 20 | 213 => 240 | 46 => 114 | 232 => 249 | 233 => 250 | n => n, fun | 17 => 1 | 18 => 3 | 19 => 4 | n => n⟩
theorem Tryz.laysItoa : Go.Proofs.LaysM.n171 Tryz.prog Tryz.laysItoa_ren := {
  mixed := by kernel_rfl
  f129 := Tryz.func166.trans (congrArg some (by kernel_rfl))
  f171 := Tryz.func83.trans (congrArg some (by kernel_rfl))
  f243 := Tryz.func118.trans (congrArg some (by kernel_rfl))
  f246 := Tryz.func143.trans (congrArg some (by kernel_rfl))
  f283 := Tryz.func171.trans (congrArg some (by kernel_rfl))
  f284 := Tryz.func172.trans (congrArg some (by kernel_rfl))
  f285 := Tryz.func173.trans (congrArg some (by kernel_rfl))
  f286 := Tryz.func174.trans (congrArg some (by kernel_rfl))
  f317 := Tryz.func187.trans (congrArg some (by kernel_rfl))
  f318 := Tryz.func188.trans (congrArg some (by kernel_rfl))
  f319 := Tryz.func189.trans (congrArg some (by kernel_rfl))
  f320 := Tryz.func190.trans (congrArg some (by kernel_rfl))
  f337 := Tryz.func195.trans (congrArg some (by kernel_rfl))
  f338 := Tryz.func196.trans (congrArg some (by kernel_rfl))
  t0 := Tryz.underlying0
  a0 := Tryz.isAgg0
  z0 := Tryz.sizeOf0
  v0 := Tryz.zeroValue0
  t2 := Tryz.underlying2
  a2 := Tryz.isAgg2
  z2 := Tryz.sizeOf2
  v2 := Tryz.zeroValue2
  t3 := Tryz.underlying3
  a3 := Tryz.isAgg3
  z3 := Tryz.sizeOf3
  v3 := Tryz.zeroValue3
  t4 := Tryz.underlying4
  a4 := Tryz.isAgg4
  z4 := Tryz.sizeOf4
  v4 := Tryz.zeroValue4
  t5 := Tryz.underlying5
  a5 := Tryz.isAgg5
  z5 := Tryz.sizeOf5
  v5 := Tryz.zeroValue5
  t9 := Tryz.underlying9
  a9 := Tryz.isAgg9
  z9 := Tryz.sizeOf9
  v9 := Tryz.zeroValue9
  t20 := Tryz.underlying20
  a20 := Tryz.isAgg20
  z20 := Tryz.sizeOf20
  v20 := Tryz.zeroValue20
  t37 := Tryz.underlying22
  a37 := Tryz.isAgg22
  z37 := Tryz.sizeOf22
  v37 := Tryz.zeroValue22
  t46 := Tryz.underlying114
  a46 := Tryz.isAgg114
  z46 := Tryz.sizeOf114
  v46 := Tryz.zeroValue114
  t51 := Tryz.underlying78
  a51 := Tryz.isAgg78
  z51 := Tryz.sizeOf78
  v51 := Tryz.zeroValue78
  t53 := Tryz.underlying209
  a53 := Tryz.isAgg209
  z53 := Tryz.sizeOf209
  v53 := Tryz.zeroValue209
  t171 := Tryz.underlying225
  a171 := Tryz.isAgg225
  z171 := Tryz.sizeOf225
  v171 := Tryz.zeroValue225
  t173 := Tryz.underlying227
  a173 := Tryz.isAgg227
  z173 := Tryz.sizeOf227
  v173 := Tryz.zeroValue227
  t212 := Tryz.underlying239
  a212 := Tryz.isAgg239
  z212 := Tryz.sizeOf239
  v212 := Tryz.zeroValue239
  t213 := Tryz.underlying240
  a213 := Tryz.isAgg240
  z213 := Tryz.sizeOf240
  t232 := Tryz.underlying249
  a232 := Tryz.isAgg249
  z232 := Tryz.sizeOf249
  v232 := Tryz.zeroValue249
  t233 := Tryz.underlying250
  a233 := Tryz.isAgg250
  z233 := Tryz.sizeOf250
  v233 := Tryz.zeroValue250
  g17 := by kernel_rfl
  g18 := by kernel_rfl
  g19 := by kernel_rfl
  i0 := by kernel_rfl
  i2 := by kernel_rfl
  i3 := by kernel_rfl
  i4 := by kernel_rfl
  i5 := by kernel_rfl
  i9 := by kernel_rfl
  i20 := by kernel_rfl
  i37 := by kernel_rfl
  i46 := by kernel_rfl
  i51 := by kernel_rfl
  i53 := by kernel_rfl
  i171 := by kernel_rfl
  i173 := by kernel_rfl
  i212 := by kernel_rfl
  i232 := by kernel_rfl
  i233 := by kernel_rfl
  m17 := by kernel_rfl
  m18 := by kernel_rfl
  m19 := by kernel_rfl }
end Go.Proofs
