/- unit's hasMoreLines. -/
import Derived.Test.YtogkchgjpflmjaaGreatDoorArgsW
import Derived.Handy
import Derived.Test.YtogkchgjpflmjaaGreatDoorAllIt
import Derived.Test.YtogkchgjpflmjaaGreatDoorShelf
import Derived.RangeFuncFrom
/- line.Parse. -/
namespace Go.Proofs.YtogkchgjpflmjaaGreatDoor
open Go.ChangeShapes Go.WideShapes Go.ChangeAt Go.RowKit
set_option linter.unusedVariables false
set_option maxRecDepth 100000
abbrev lineZ : Value := .agg #[.string ⟨#[]⟩, .string ⟨#[]⟩, .slice none 0 0]
def POut (B : Nat) (w0 : World) (R : Except Nat Ln) (e : Ending) (w' : World) : Prop := Below B w0 w' ∧
  match R with
  | .ok L => ∃ va vs m, e = .returned (.tuple #[.agg #[.string (str L.label), .string (str L.op), va], .int .i64 0, .int .i64 0]) ∧ ArgsOwn 182 188 B w' va L.args vs m
  | .error p => e = .returned (.tuple #[lineZ, .int .i64 (p : Int), .int .i64 20])
structure LineCells (w : World) (g : Nat) (T : TypeId) : Prop where
  heap : w.heap[g]? = some (.cells #[.string ⟨#[]⟩, .string ⟨#[]⟩, .slice none 0 0] T (0, 0))
  c0 : w.cell? ⟨g, 0, none⟩ = some (.string ⟨#[]⟩)
  c1 : w.cell? ⟨g, 1, none⟩ = some (.string ⟨#[]⟩)
  c2 : w.cell? ⟨g, 2, none⟩ = some (.slice none 0 0)
  f0 : w.frozen? ⟨g, 0, none⟩ = false
  f1 : w.frozen? ⟨g, 1, none⟩ = false
  f2 : w.frozen? ⟨g, 2, none⟩ = false
theorem lineCells_of {w : World} {g : Nat} {T : TypeId} (h : w.heap[g]? = some (.cells #[.string ⟨#[]⟩, .string ⟨#[]⟩, .slice none 0 0] T (0, 0))) : LineCells w g T :=
  ⟨h, by rw [cell_of_row w g 0 _ T (0, 0) h]; rfl, by rw [cell_of_row w g 1 _ T (0, 0) h]; rfl, by rw [cell_of_row w g 2 _ T (0, 0) h]; rfl, frozen_of_row w g 0 _ T h, frozen_of_row w g 1 _ T h, frozen_of_row w g 2 _ T h⟩
theorem lineCells_below {w w1 : World} {T : TypeId} (hb : Below (w.alloc (.cells #[.string ⟨#[]⟩, .string ⟨#[]⟩, .slice none 0 0] T)).heap.size (w.alloc (.cells #[.string ⟨#[]⟩, .string ⟨#[]⟩, .slice none 0 0] T)) w1) : LineCells w1 w.heap.size T :=
  lineCells_of (by rw [hb.block w.heap.size (by simp)]; exact heap_alloc_new w _)
theorem LineCells.below {w w1 : World} {g B : Nat} {T : TypeId} (h : LineCells w g T) (hb : Below B w w1) (hg : g < B) : LineCells w1 g T := lineCells_of (by rw [hb.block g hg]; exact h.heap)
theorem line_set {w : World} {g : Nat} {T : TypeId} {cur : Array Value} (h : w.heap[g]? = some (.cells cur T (0, 0))) (hc : cur.size = 3) (x y z : Value) :
    (((w.setCell ⟨g, 0, none⟩ x).setCell ⟨g, 1, none⟩ y).setCell ⟨g, 2, none⟩ z).heap[g]? = some (.cells #[x, y, z] T (0, 0)) ∧ Below g w (((w.setCell ⟨g, 0, none⟩ x).setCell ⟨g, 1, none⟩ y).setCell ⟨g, 2, none⟩ z) ∧
    w.grownBy (((w.setCell ⟨g, 0, none⟩ x).setCell ⟨g, 1, none⟩ y).setCell ⟨g, 2, none⟩ z) (some g) := by
  have h1 := heap_setCell_same w g 0 cur T x h
  have h2 := heap_setCell_same _ g 1 _ T y h1
  have h3 := heap_setCell_same _ g 2 _ T z h2
  refine ⟨?_, ?_, ?_⟩
  · rw [h3]
    obtain ⟨l⟩ := cur
    match l, hc with
    | [a, b, c], _ => rfl
  · exact (((Below.refl g w).setCell (p := ⟨g, 0, none⟩) (Nat.le_refl _) x).setCell (p := ⟨g, 1, none⟩) (Nat.le_refl _) y).setCell (p := ⟨g, 2, none⟩) (Nat.le_refl _) z
  · refine ⟨rfl, rfl, rfl, by simp, fun k hk hne => ?_⟩
    have hk' : k ≠ g := fun e => hne (by rw [e])
    rw [heap_setCell_other _ _ _ _ hk', heap_setCell_other _ _ _ _ hk', heap_setCell_other _ _ _ _ hk']
theorem line_read {w : World} {g : Nat} {T : TypeId} {x y z : Value} (h : w.heap[g]? = some (.cells #[x, y, z] T (0, 0))) : w.cell? ⟨g, 0, none⟩ = some x ∧ w.cell? ⟨g, 1, none⟩ = some y ∧ w.cell? ⟨g, 2, none⟩ = some z :=
  ⟨by rw [cell_of_row w g 0 _ T (0, 0) h]; rfl, by rw [cell_of_row w g 1 _ T (0, 0) h]; rfl, by rw [cell_of_row w g 2 _ T (0, 0) h]; rfl⟩
theorem parse_bad (s : ByteArray) (hs : s.size ≤ 1100000) (p : Nat) (h : scan (bs s) 0 = .error p) (w : World) :
    Calls Tryz.prog 67 #[.string s] w fun e w' => Below w.heap.size w w' ∧ e = .returned (.tuple #[lineZ, .int .i64 (p : Int), .int .i64 20]) := by
  have hT := Hid.intro (fun w => tokens_bad s hs p h w)
  clear h
  go_enter Tryz.func67, Tryz.ntmps67
  go_wp2_with (go_at_call 101; with_reducible refine (hT.out _).mono ?_; rintro e w1 ⟨hb1, rfl⟩; obtain ⟨hh, r0, r1, r2, f0, f1, f2⟩ := lineCells_below hb1; replace hh := Hid.intro hh)
  obtain ⟨s1, s2, s3⟩ := line_set hh.out rfl (.string ⟨#[]⟩) (.string ⟨#[]⟩) (.slice none 0 0)
  generalize (((w1.setCell ⟨w.heap.size, 0, none⟩ (.string ⟨#[]⟩)).setCell ⟨w.heap.size, 1, none⟩ (.string ⟨#[]⟩)).setCell ⟨w.heap.size, 2, none⟩ (.slice none 0 0)) = w2 at s1 s2 s3 ⊢
  obtain ⟨z0, z1, z2⟩ := line_read s1
  refine bodyPost_ret (by simp [results, Tryz.results67, go_sem, z0, z1, z2]; try rfl) rfl ?_
  exact ⟨(lone_below hb1).trans s2, rfl⟩
theorem lown_weaken {w : World} {lo B : Nat} {T : TypeId} {sz : Nat} {v : Value} {n : Nat} {xs : List Value} (h : w.ownsRow lo T sz v n xs) (hB : B ≤ lo) : w.ownsRow B T sz v n xs := by
  refine ⟨h.1, ?_⟩
  rcases h.2 with hx | ⟨g, cap, cur, k1, k2, k3⟩
  · exact .inl hx
  · exact .inr ⟨g, cap, cur, k1, by omega, k3⟩
theorem ArgsOwn.weaken {T E : TypeId} {lo B : Nat} {w : World} {va : Value} {acc : List (List Tok)} {vs : List Value} {m : Nat} (h : ArgsOwn T E lo w va acc vs m) (hB : B ≤ lo) : ArgsOwn T E B w va acc vs m :=
  ⟨h.len, lown_weaken h.row hB, fun i v xs hv hx => ⟨(h.each i v xs hv hx).1, lown_weaken (h.each i v xs hv hx).2 hB⟩, h.low, h.rise, h.le⟩
theorem lown_low {w w' : World} {lo k : Nat} {T : TypeId} {sz : Nat} {v : Value} {n : Nat} {xs : List Value} (h : w.ownsRow lo T sz v n xs) (hg : w.grownBy w' (some k)) (hk : k < lo) : w'.ownsRow lo T sz v n xs :=
  h.kept hg (by
    cases hb : v.ownBlock with
    | none => exact .inl rfl
    | some g =>
      refine .inr fun e => ?_
      have := (h.lt g hb).1
      injection e with e
      omega)
theorem ArgsOwn.lower {T E : TypeId} {lo k : Nat} {w w' : World} {va : Value} {acc : List (List Tok)} {vs : List Value} {m : Nat} (h : ArgsOwn T E lo w va acc vs m) (hg : w.grownBy w' (some k)) (hk : k < lo) : ArgsOwn T E lo w' va acc vs m :=
  ⟨h.len, lown_low h.row hg hk, fun i v xs hv hx => ⟨(h.each i v xs hv hx).1, lown_low (h.each i v xs hv hx).2 hg hk⟩, h.low, h.rise, Nat.le_trans h.le hg.size⟩
theorem tokFrom_nil {w : World} {a : Option Addr} {r : List Tok} (h : r.length = 0) : TokFrom w a r := .inl (List.eq_nil_of_length_eq_zero h)
set_option maxHeartbeats 2000000 in
theorem parse_ok (s : ByteArray) (hs : s.size ≤ 1100000) (ts : List Tok) (h : scan (bs s) 0 = .ok ts) (w : World) :
    Calls Tryz.prog 67 #[.string s] w fun e w' => POut w.heap.size w (parseT s.size ts) e w' := by
  have hT := Hid.intro (fun w => tokens_ok s hs ts h w)
  have hlen : ts.length ≤ 1100000 := by
    have := scan_len _ _ _ h
    rw [bs_length] at this
    omega
  have hC := Hid.intro (fun (v : Value) (B : Nat) (w : World) => cutLabel_any v ts B w hlen)
  clear h
  unfold parseT
  have hlen2 : (cutT ts).2.length ≤ ts.length := by
    match ts with
    | [] => simp [cutT]
    | [t] => simp [cutT]
    | t :: u :: r =>
      simp only [cutT]
      split
      · simp; omega
      · simp
  generalize (cutT ts).1 = lab at hC ⊢
  generalize (cutT ts).2 = rest at hC hlen2 ⊢
  cases rest with
  | nil =>
    simp only [lineT]
    simp only [List.length_nil] at hC
    go_enter Tryz.func67, Tryz.ntmps67
    go_wp2_with (first
      | (go_at_call 101; with_reducible refine (hT.out _).mono ?_; rintro e w1 ⟨hb1, v1, rfl, hown1⟩; have hown1 := Hid.intro hown1)
      | (go_at_call 102; with_reducible refine (hC.out _ _ _ hown1.out).mono ?_; rintro e w2 ⟨hb2, a2, c2, rfl, hle2, hcc2, hT2, hlo2⟩; obtain ⟨hh, r0, r1, r2, f0, f1, f2⟩ := (lineCells_below hb1).below hb2 (lalloc_lt hb1); replace hh := Hid.intro hh))
    obtain ⟨s1, s2, s3⟩ := line_set hh.out rfl (.string (str lab)) (.string ⟨#[]⟩) (.slice none 0 0)
    generalize (((w2.setCell ⟨w.heap.size, 0, none⟩ (.string (str lab))).setCell ⟨w.heap.size, 1, none⟩ (.string ⟨#[]⟩)).setCell ⟨w.heap.size, 2, none⟩ (.slice none 0 0)) = w3 at s1 s2 s3 ⊢
    obtain ⟨z0, z1, z2⟩ := line_read s1
    refine bodyPost_ret (by simp [results, Tryz.results67, go_sem, z0, z1, z2]; try rfl) rfl ?_
    exact ⟨(ltwo_below hb1 hb2).trans s2, _, [], w3.heap.size, rfl, ArgsOwn.start _ _ _ _ _ (Nat.le_refl _)⟩
  | cons t r =>
    have hrl : (t :: r).length = r.length + 1 := rfl
    rw [hrl] at hC hlen2
    by_cases hk : t.kind = 1
    · simp only [lineT]
      rw [if_pos hk]
      have hA := Hid.intro (fun (a : Option Addr) (c : Nat) (w : World) => arguments_any a c r s.size w (by omega) hs)
      have hk' : (t.kind != 1) = false := by simp [hk]
      clear hk
      generalize argsT s.size r = RA at hA ⊢
      have hz : ((r.length : Int) + 1 == 0) = false := by simp; omega
      cases RA with
      | error p =>
        simp only
        go_enter Tryz.func67, Tryz.ntmps67
        go_wp2_with (first
          | (go_at_call 101; with_reducible refine (hT.out _).mono ?_; rintro e w1 ⟨hb1, v1, rfl, hown1⟩; have hown1 := Hid.intro hown1)
          | (go_at_call 102; with_reducible refine (hC.out _ _ _ hown1.out).mono ?_; rintro e w2 ⟨hb2, a2, c2, rfl, hle2, hcc2, hT2, hlo2⟩; have hl1 := Hid.intro ((lineCells_below hb1).below hb2 (lalloc_lt hb1)); obtain ⟨g, o, rfl, hg, ⟨q0, q1, q2, q3⟩, hT3⟩ := hT2.head; clear hT2; have hTF := Hid.intro (tokFrom_tail hg hT3); have hTF0 := Hid.intro (fun h1 : c2 = 1 => tokFrom_nil (w := w2) (a := some ⟨g, o, none⟩) (r := r) (by omega)); clear hT3 hlo2)
          | (go_at_call 103; (with_reducible refine (hA.out _ _ _ (by first | exact hTF.out | exact hTF0.out (by assumption))).mono ?_); rintro e w3 ⟨hb3, rfl⟩; obtain ⟨hh, r0, r1, r2, f0, f1, f2⟩ := hl1.out.below hb3 (Nat.lt_of_lt_of_le (lalloc_lt hb1) hb2.size); replace hh := Hid.intro hh))
        all_goals first | omega | skip
        all_goals (
          obtain ⟨s1, s2, s3⟩ := line_set hh.out rfl (.string ⟨#[]⟩) (.string ⟨#[]⟩) (.slice none 0 0)
          generalize (((w3.setCell ⟨w.heap.size, 0, none⟩ (.string ⟨#[]⟩)).setCell ⟨w.heap.size, 1, none⟩ (.string ⟨#[]⟩)).setCell ⟨w.heap.size, 2, none⟩ (.slice none 0 0)) = w4 at s1 s2 s3 ⊢
          obtain ⟨z0, z1, z2⟩ := line_read s1
          refine bodyPost_ret (by simp [results, Tryz.results67, go_sem, z0, z1, z2]; try rfl) rfl ?_
          exact ⟨((ltwo_below hb1 hb2).trans (hb3.mono (ltwo_below hb1 hb2).size)).trans s2, rfl⟩)
      | ok acc =>
        simp only
        go_enter Tryz.func67, Tryz.ntmps67
        go_wp2_with (first
          | (go_at_call 101; with_reducible refine (hT.out _).mono ?_; rintro e w1 ⟨hb1, v1, rfl, hown1⟩; have hown1 := Hid.intro hown1)
          | (go_at_call 102; with_reducible refine (hC.out _ _ _ hown1.out).mono ?_; rintro e w2 ⟨hb2, a2, c2, rfl, hle2, hcc2, hT2, hlo2⟩; have hl1 := Hid.intro ((lineCells_below hb1).below hb2 (lalloc_lt hb1)); obtain ⟨g, o, rfl, hg, ⟨q0, q1, q2, q3⟩, hT3⟩ := hT2.head; clear hT2; have hTF := Hid.intro (tokFrom_tail hg hT3); have hTF0 := Hid.intro (fun h1 : c2 = 1 => tokFrom_nil (w := w2) (a := some ⟨g, o, none⟩) (r := r) (by omega)); clear hT3 hlo2)
          | (go_at_call 103; (with_reducible refine (hA.out _ _ _ (by first | exact hTF.out | exact hTF0.out (by assumption))).mono ?_); rintro e w3 ⟨hb3, va, vs, m, rfl, hAO⟩; obtain ⟨av, cv, rfl⟩ := lown_slice hAO.row; replace hAO := Hid.intro hAO; obtain ⟨q0, q1, q2, q3⟩ := (TokOff.mk q0 q1 q2 q3).below hb3 hg; obtain ⟨hh, r0, r1, r2, f0, f1, f2⟩ := hl1.out.below hb3 (Nat.lt_of_lt_of_le (lalloc_lt hb1) hb2.size); replace hh := Hid.intro hh))
        all_goals first | omega | skip
        all_goals (
          obtain ⟨s1, s2, s3⟩ := line_set hh.out rfl (.string (str lab)) (.string (str t.text)) (.slice av vs.length cv)
          generalize (((w3.setCell ⟨w.heap.size, 0, none⟩ (.string (str lab))).setCell ⟨w.heap.size, 1, none⟩ (.string (str t.text))).setCell ⟨w.heap.size, 2, none⟩ (.slice av vs.length cv)) = w4 at s1 s2 s3 ⊢
          obtain ⟨z0, z1, z2⟩ := line_read s1
          refine bodyPost_ret (by simp [results, Tryz.results67, go_sem, z0, z1, z2]; try rfl) rfl ?_
          exact ⟨((ltwo_below hb1 hb2).trans (hb3.mono (ltwo_below hb1 hb2).size)).trans s2, _, vs, m, rfl, (hAO.out.lower s3 (Nat.lt_of_lt_of_le (lalloc_lt hb1) hb2.size)).weaken (ltwo_below hb1 hb2).size⟩)
    · simp only [lineT]
      rw [if_neg hk]
      have hk' : (t.kind != 1) = true := by simp [hk]
      clear hk
      have hz : ((r.length : Int) + 1 == 0) = false := by simp; omega
      go_enter Tryz.func67, Tryz.ntmps67
      go_wp2_with (first
        | (go_at_call 101; with_reducible refine (hT.out _).mono ?_; rintro e w1 ⟨hb1, v1, rfl, hown1⟩; have hown1 := Hid.intro hown1)
        | (go_at_call 102; with_reducible refine (hC.out _ _ _ hown1.out).mono ?_; rintro e w2 ⟨hb2, a2, c2, rfl, hle2, hcc2, hT2, hlo2⟩; obtain ⟨hh, r0, r1, r2, f0, f1, f2⟩ := (lineCells_below hb1).below hb2 (lalloc_lt hb1); replace hh := Hid.intro hh; obtain ⟨g, o, rfl, hg, ⟨q0, q1, q2, q3⟩, hT3⟩ := hT2.head; replace hT3 := Hid.intro hT3; clear hT2; have hgne : w.heap.size < g := (by have := hlo2 _ rfl; simp at this; omega); clear hlo2))
      all_goals first | omega | skip
      have hne : ¬ g = w.heap.size := by omega
      have hne2 : ¬ w.heap.size = g := by omega
      go_region
      go_wp2
      obtain ⟨s1, s2, s3⟩ := line_set hh.out rfl (.string ⟨#[]⟩) (.string ⟨#[]⟩) (.slice none 0 0)
      generalize (((w2.setCell ⟨w.heap.size, 0, none⟩ (.string ⟨#[]⟩)).setCell ⟨w.heap.size, 1, none⟩ (.string ⟨#[]⟩)).setCell ⟨w.heap.size, 2, none⟩ (.slice none 0 0)) = w3 at s1 s2 s3 ⊢
      have s1' : w3.drew.heap[w.heap.size]? = some (.cells #[.string ⟨#[]⟩, .string ⟨#[]⟩, .slice none 0 0] 133 (0, 0)) := s1
      obtain ⟨z0, z1, z2⟩ := line_read s1'
      refine bodyPost_ret (by simp [results, Tryz.results67, go_sem, z0, z1, z2]; try rfl) rfl ?_
      exact ⟨((ltwo_below hb1 hb2).trans s2).drew, rfl⟩
theorem lineParse_any (s : ByteArray) (hs : s.size ≤ 1100000) (w : World) :
    Calls Tryz.prog 67 #[.string s] w fun e w' => POut w.heap.size w (parseL (bs s)) e w' := by
  unfold parseL
  cases h : scan (bs s) 0 with
  | error p => exact parse_bad s hs p h w
  | ok ts =>
    simp only
    rw [bs_length]
    exact parse_ok s hs ts h w
end Go.Proofs.YtogkchgjpflmjaaGreatDoor
/- Chapter 3's known runs. -/
namespace Go.Proofs.YtogkchgjpflmjaaGreatDoor
open Go.ChangeShapes Go.WideShapes Go.ChangeAt Go.RowKit
set_option linter.unusedVariables false
set_option maxRecDepth 100000
theorem parse_err (s : ByteArray) (hs : s.size ≤ 1100000) (p : Nat) (h : parseL (bs s) = .error p) (w : World) :
    Calls Tryz.prog 67 #[.string s] w fun e w' => Below w.heap.size w w' ∧ e = .returned (.tuple #[lineZ, .int .i64 (p : Int), .int .i64 20]) := by
  have := lineParse_any s hs w
  rw [h] at this
  exact this
theorem parse_line (s : ByteArray) (hs : s.size ≤ 1100000) (L : Ln) (h : parseL (bs s) = .ok L) (w : World) :
    Calls Tryz.prog 67 #[.string s] w fun e w' => Below w.heap.size w w' ∧ ∃ a c vs m, e = .returned (.tuple #[.agg #[.string (str L.label), .string (str L.op), .slice a L.args.length c], .int .i64 0, .int .i64 0]) ∧ ArgsOwn 182 188 w.heap.size w' (.slice a L.args.length c) L.args vs m := by
  have := lineParse_any s hs w
  rw [h] at this
  refine this.mono ?_
  rintro e w' ⟨hb, va, vs, m, rfl, hA⟩
  obtain ⟨a, c, rfl⟩ := lown_slice hA.row
  rw [hA.len] at hA ⊢
  exact ⟨hb, a, c, vs, m, rfl, hA⟩
end Go.Proofs.YtogkchgjpflmjaaGreatDoor
namespace Go.Proofs.YtogkchgjpflmjaaGreatDoor
open Go.ChangeShapes Go.WideShapes Go.ChangeAt Go.RowKit Go.Shelf
set_option linter.unusedVariables false
set_option maxRecDepth 100000
attribute [local go_sem] Oper.semAt_some
structure CI (W : World) (b k : Nat) (v : Value) : Prop where
  cell : W.cell? ⟨b, k, none⟩ = some v
  froz : W.frozen? ⟨b, k, none⟩ = false
theorem ci_of {W : World} {b k : Nat} {T : TypeId} {cur : Array Value} {v : Value} (h : W.heap[b]? = some (.cells cur T (0, 0))) (hv : cur[k]? = some v) : CI W b k v := ⟨by rw [cell_of_row _ _ _ _ _ _ h]; exact hv, frozen_of_row _ _ _ _ _ h⟩
theorem CI.set {W : World} {b k : Nat} {v0 : Value} (h : CI W b k v0) (v : Value) : CI (W.setCell ⟨b, k, none⟩ v) b k v := ⟨World.cell?_setCell_same' _ _ _ (by rw [h.cell]; rfl), by rw [World.frozen?_setCell]; exact h.froz⟩
theorem CI.kept {A B : World} {row : Option Nat} {b k : Nat} {v : Value} (h : CI A b k v) (hg : A.grownBy B row) (hr : ∀ r, row = some r → ∃ o : Obj, A.heap[r]? = some o ∧ o.isCells = false) : CI B b k v := ⟨Go.cell_kept h.cell hg hr, (Go.frozen_kept h.cell hg hr).trans h.froz⟩
theorem CI.lt {W : World} {b k : Nat} {v : Value} (h : CI W b k v) : b < W.heap.size := World.block_lt_of_cell? W ⟨b, k, none⟩ h.cell
theorem CI.below {W W' : World} {b k B : Nat} {v : Value} (h : CI W b k v) (hb : Below B W W') (hB : b < B) : CI W' b k v := ⟨(hb.cell (p := ⟨b, k, none⟩) hB).trans h.cell, (World.frozen?_of_block (a := ⟨b, k, none⟩) (hb.block b hB)).trans h.froz⟩
theorem CI.alloc {W : World} {b k : Nat} {v : Value} (h : CI W b k v) (o : Obj) : CI (W.alloc o) b k v := h.below (below_alloc W o) h.lt
theorem numbered_at (i : Nat) (ls : List (List UInt8)) (pre : List LnA) (x : LnA) (h : (pre ++ [x]) <+: numbered i ls) : x.1.1 = i + pre.length ∧ ∃ l, ls[pre.length]? = some l ∧ x = mkA (i + pre.length) l := by
  induction pre generalizing i ls with
  | nil =>
    cases ls with
    | nil => obtain ⟨r, hr⟩ := h; simp [numbered] at hr
    | cons l ls =>
      obtain ⟨r, hr⟩ := h
      simp only [numbered, List.nil_append, List.singleton_append, List.cons.injEq] at hr
      rw [hr.1]
      exact ⟨rfl, l, rfl, rfl⟩
  | cons y pre ih =>
    cases ls with
    | nil => obtain ⟨r, hr⟩ := h; simp [numbered] at hr
    | cons l ls =>
      obtain ⟨r, hr⟩ := h
      simp only [numbered, List.cons_append, List.cons.injEq] at hr
      have := ih (i + 1) ls ⟨r, hr.2⟩
      rw [show i + 1 + pre.length = i + (y :: pre).length by simp; omega] at this
      simpa using this
set_option maxHeartbeats 2000000 in
theorem hasMore_any (l : List UInt8) (hl : l.length ≤ 65536) (w : World) : Calls Tryz.prog 32 #[.string (str l), .int .i64 4096] w fun e w' => e = .returned (.bool (decide (4096 < (linesOf l).length))) ∧ Below w.heap.size w w' := by
  refine (callsIn_wide (n := 8)).1 ?_
  refine callsIn_of_wp_marks Tryz.func32 rfl trivial ?_ rfl
  simp only [Tryz.ntmps32, List.size_toArray, List.length_cons, List.length_nil, Nat.reduceAdd, Nat.reduceSub, Array.replicate_succ, Array.replicate_zero, List.push_toArray, List.append_toArray, List.nil_append, List.cons_append]
  gi_wp2_with (refine ⟨trivial, ?_⟩; gi_at_call 33; refine (callsIn_wide.2 (all_any (str l) _)).mono ?_; rintro e w1 ⟨rfl, rfl⟩)
  have hsz : (((w.alloc (.cells #[.int .i64 4096] 3)).alloc (.cells #[.bool false] 4)).alloc (.cells #[.string (str l)] 9)).heap.size = w.heap.size + 3 := by simp
  have hB0 : Below w.heap.size w (((w.alloc (.cells #[.int .i64 4096] 3)).alloc (.cells #[.bool false] 4)).alloc (.cells #[.string (str l)] 9)) := (((Below.refl _ w).alloc (Nat.le_refl _) _).alloc (by simp) _).alloc (by simp; omega) _
  have h1 := (ci_of (heap_alloc_new w (.cells #[.int .i64 4096] 3)) (k := 0) rfl)
  have h2 := (ci_of (heap_alloc_new (w.alloc (.cells #[.int .i64 4096] 3)) (.cells #[.bool false] 4)) (k := 0) rfl)
  have h3 := (ci_of (heap_alloc_new ((w.alloc (.cells #[.int .i64 4096] 3)).alloc (.cells #[.bool false] 4)) (.cells #[.string (str l)] 9)) (k := 0) rfl)
  rw [World.size_alloc] at h2
  rw [World.size_alloc, World.size_alloc] at h3
  have h1' := ((h1.alloc (.cells #[.bool false] 4)).alloc (.cells #[.string (str l)] 9))
  have h2' := h2.alloc (.cells #[.string (str l)] 9)
  clear h1 h2
  generalize (((w.alloc (.cells #[.int .i64 4096] 3)).alloc (.cells #[.bool false] 4)).alloc (.cells #[.string (str l)] 9)) = W0 at *
  refine wpIn_rangeFunc_ownF (F := Fence.wide) rfl (by decide) (gf := 65) (lb := #[.pointer (some ⟨w.heap.size + 1 + 1, 0, none⟩)]) rfl trivial (enters_of Tryz.func65 (by kernel_rfl) rfl)
    (all_stops 7 (by decide) (w.heap.size + 1 + 1) l hl W0 (by omega) h3.cell) (fun _ _ => trivial) (fun _ _ _ _ _ _ _ _ => trivial) (Below.refl _ _) (fun _ => rfl)
    (fun pre W => (CI W w.heap.size 0 (.int .i64 4096) ∧ CI W (w.heap.size + 1) 0 (.bool false) ∧ (pre <+: numbered 1 (linesOf l) → pre.length ≤ 4096)) ∧ Below w.heap.size w W)
    (fun c pre W => (c = .ret ∧ CI W (w.heap.size + 1) 0 (.bool true) ∧ (pre <+: numbered 1 (linesOf l) → 4096 < (linesOf l).length)) ∧ Below w.heap.size w W)
    (OwnFrom.and (Own.from (fun s A B row hs hg hr => ⟨hs.1.kept hg hr, hs.2.1.kept hg hr, hs.2.2⟩) _) (ownFrom_below (Nat.le_refl _) (by omega)))
    (fun c => OwnFrom.and (Own.from (fun s A B row hs hg hr => ⟨hs.1, hs.2.1.kept hg hr, hs.2.2⟩) _) (ownFrom_below (Nat.le_refl _) (by omega)))
    ⟨⟨h1', h2', fun _ => by simp⟩, hB0⟩
    (fun x => { tmps := #[.string (str l), .int .i64 4096, undef, .pointer (some ⟨w.heap.size, 0, none⟩), .pointer (some ⟨w.heap.size + 1, 0, none⟩), .int .i64 (x.1.1 : Int), .string (str l), .func (.func 65) #[] #[.pointer (some ⟨w.heap.size + 1 + 1, 0, none⟩)], .int .i64 (x.1.1 : Int), .string x.1.2, undef, undef, undef], defers := [] }) ?assign ?body ?done ?stop
  case assign =>
    intro l x W K hK
    gi_wp2
    exact hK
  case body =>
    rintro lp pre x W ⟨⟨hm, hr, hp⟩, hB⟩ hlt
    obtain ⟨m1, m2⟩ := hm
    obtain ⟨r1, r2⟩ := hr
    have hmH : Hid (CI W w.heap.size 0 (.int .i64 4096)) := ⟨m1, m2⟩
    have hrH : Hid (CI W (w.heap.size + 1) 0 (.bool false)) := ⟨r1, r2⟩
    replace hp := Hid.intro hp
    by_cases hx : (4096 : Int) < (x.1.1 : Int)
    · have ht : decide ((4096 : Int) < (x.1.1 : Int)) = true := by simpa using hx
      have hxH := Hid.intro hx
      clear hx
      gi_wp2
      refine ⟨KeepsOthers.setCell _ _ _, ⟨rfl, hrH.out.set _, fun h => ?_⟩, hB.setCell (p := ⟨w.heap.size + 1, 0, none⟩) (by show w.heap.size ≤ w.heap.size + 1; omega) _⟩
      have h4 := (numbered_at 1 _ pre x h).1
      have h5 := hxH.out
      have h6 : (pre ++ [x]).length ≤ (numbered 1 (linesOf l)).length := h.length_le
      rw [numbered_len] at h6
      simp at h6
      rw [h4] at h5
      omega
    · have ht : decide ((4096 : Int) < (x.1.1 : Int)) = false := by simpa using hx
      have hxH := Hid.intro hx
      clear hx
      gi_wp2
      refine ⟨KeepsOthers.refl _, trivial, ⟨hmH.out, hrH.out, fun h => ?_⟩, hB⟩
      have h4 := (numbered_at 1 _ pre x h).1
      have h5 := hxH.out
      rw [h4] at h5
      simp
      omega
  case done =>
    rintro D ys W hD rfl ⟨⟨hm, hr, hp⟩, hB⟩ hK
    have hno := hp (List.prefix_refl _)
    rw [numbered_len] at hno
    obtain ⟨r1, r2⟩ := hr
    gi_wp2
    have hK' := (KeepsOthers.setCell W ⟨w.heap.size + 1, 0, none⟩ (.bool false)).same D _ hK rfl
    have hBf : Below w.heap.size w (W.setCell ⟨w.heap.size + 1, 0, none⟩ (.bool false)) := hB.setCell (p := ⟨w.heap.size + 1, 0, none⟩) (by show w.heap.size ≤ w.heap.size + 1; omega) _
    refine ⟨by simp, .inl ⟨_, _, rfl, run_takeDeferred hK', ?_⟩⟩
    have hc5 := Go.cell_kept (World.cell?_setCell_same' W ⟨w.heap.size + 1, 0, none⟩ (.bool false) (by rw [r1]; rfl)) (grownBy_putObj' _ D (.deferred none)) (fun r e => by cases e; exact ⟨_, hK', rfl⟩)
    refine ⟨.bool false, ?_, by rw [show decide (4096 < (linesOf l).length) = false by simp; omega], hBf.trans (belowK_b (w := w) (Nat.le_refl _) _ D _ _ (by omega) hK' rfl rfl)⟩
    simp [results, Tryz.results32, go_sem, hc5]
  case stop =>
    rintro D c pre W hD hpre ⟨⟨rfl, hr, hp⟩, hB⟩ hK
    have hyes := hp hpre
    gi_wp2
    refine ⟨by simp, .inl ⟨_, _, rfl, run_takeDeferred hK, ?_⟩⟩
    have hc5 := Go.cell_kept hr.cell (grownBy_putObj' _ D (.deferred none)) (fun r e => by cases e; exact ⟨_, hK, rfl⟩)
    refine ⟨.bool true, ?_, by rw [show decide (4096 < (linesOf l).length) = true by simp; omega], hB.trans (belowK_b (w := w) (Nat.le_refl _) _ D _ _ (by omega) hK rfl rfl)⟩
    simp [results, Tryz.results32, go_sem, hc5]
end Go.Proofs.YtogkchgjpflmjaaGreatDoor
