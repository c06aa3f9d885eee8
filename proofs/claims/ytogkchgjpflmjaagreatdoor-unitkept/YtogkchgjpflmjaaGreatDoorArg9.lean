/- A line's arguments in memory, as item.Read wants them. -/
import Derived.Test.YtogkchgjpflmjaaGreatDoorArgsW
import Derived.Handy
import Derived.Test.YtogkchgjpflmjaaGreatDoorIt7
import Derived.Test.YtogkchgjpflmjaaGreatDoorArgsO
/- line.Parse. -/
namespace Go.Proofs.YtogkchgjpflmjaaGreatDoor
open Go.ChangeShapes Go.WideShapes Go.ChangeAt Go.RowKit
set_option linter.unusedVariables false
set_option maxRecDepth 100000
abbrev lineZ : Value := .agg #[.string ⟨#[]⟩, .string ⟨#[]⟩, .slice none 0 0]
def POut (B : Nat) (w0 : World) (R : Except Nat Ln) (e : Ending) (w' : World) : Prop := Below B w0 w' ∧
  match R with
  | .ok L => ∃ va vs m, e = .returned (.tuple #[.agg #[.string (str L.label), .string (str L.op), va], .int .i64 0, .int .i64 0]) ∧ ArgsOwn 182 188 B w' va L.args vs m
  | .error p => e = .returned (.tuple #[lineZ, .int .i64 (p : Int), .int .i64 20])
structure LineCells (w : World) (g : Nat) (T : TypeId) : Prop where
  heap : w.heap[g]? = some (.cells #[.string ⟨#[]⟩, .string ⟨#[]⟩, .slice none 0 0] T (0, 0))
  c0 : w.cell? ⟨g, 0, none⟩ = some (.string ⟨#[]⟩)
  c1 : w.cell? ⟨g, 1, none⟩ = some (.string ⟨#[]⟩)
  c2 : w.cell? ⟨g, 2, none⟩ = some (.slice none 0 0)
  f0 : w.frozen? ⟨g, 0, none⟩ = false
  f1 : w.frozen? ⟨g, 1, none⟩ = false
  f2 : w.frozen? ⟨g, 2, none⟩ = false
theorem lineCells_of {w : World} {g : Nat} {T : TypeId} (h : w.heap[g]? = some (.cells #[.string ⟨#[]⟩, .string ⟨#[]⟩, .slice none 0 0] T (0, 0))) : LineCells w g T :=
  ⟨h, by rw [cell_of_row w g 0 _ T (0, 0) h]; rfl, by rw [cell_of_row w g 1 _ T (0, 0) h]; rfl, by rw [cell_of_row w g 2 _ T (0, 0) h]; rfl, frozen_of_row w g 0 _ T h, frozen_of_row w g 1 _ T h, frozen_of_row w g 2 _ T h⟩
theorem lineCells_below {w w1 : World} {T : TypeId} (hb : Below (w.alloc (.cells #[.string ⟨#[]⟩, .string ⟨#[]⟩, .slice none 0 0] T)).heap.size (w.alloc (.cells #[.string ⟨#[]⟩, .string ⟨#[]⟩, .slice none 0 0] T)) w1) : LineCells w1 w.heap.size T :=
  lineCells_of (by rw [hb.block w.heap.size (by simp)]; exact heap_alloc_new w _)
theorem LineCells.below {w w1 : World} {g B : Nat} {T : TypeId} (h : LineCells w g T) (hb : Below B w w1) (hg : g < B) : LineCells w1 g T := lineCells_of (by rw [hb.block g hg]; exact h.heap)
theorem line_set {w : World} {g : Nat} {T : TypeId} {cur : Array Value} (h : w.heap[g]? = some (.cells cur T (0, 0))) (hc : cur.size = 3) (x y z : Value) :
    (((w.setCell ⟨g, 0, none⟩ x).setCell ⟨g, 1, none⟩ y).setCell ⟨g, 2, none⟩ z).heap[g]? = some (.cells #[x, y, z] T (0, 0)) ∧ Below g w (((w.setCell ⟨g, 0, none⟩ x).setCell ⟨g, 1, none⟩ y).setCell ⟨g, 2, none⟩ z) ∧
    w.grownBy (((w.setCell ⟨g, 0, none⟩ x).setCell ⟨g, 1, none⟩ y).setCell ⟨g, 2, none⟩ z) (some g) := by
  have h1 := heap_setCell_same w g 0 cur T x h
  have h2 := heap_setCell_same _ g 1 _ T y h1
  have h3 := heap_setCell_same _ g 2 _ T z h2
  refine ⟨?_, ?_, ?_⟩
  · rw [h3]
    obtain ⟨l⟩ := cur
    match l, hc with
    | [a, b, c], _ => rfl
  · exact (((Below.refl g w).setCell (p := ⟨g, 0, none⟩) (Nat.le_refl _) x).setCell (p := ⟨g, 1, none⟩) (Nat.le_refl _) y).setCell (p := ⟨g, 2, none⟩) (Nat.le_refl _) z
  · refine ⟨rfl, rfl, rfl, by simp, fun k hk hne => ?_⟩
    have hk' : k ≠ g := fun e => hne (by rw [e])
    rw [heap_setCell_other _ _ _ _ hk', heap_setCell_other _ _ _ _ hk', heap_setCell_other _ _ _ _ hk']
theorem line_read {w : World} {g : Nat} {T : TypeId} {x y z : Value} (h : w.heap[g]? = some (.cells #[x, y, z] T (0, 0))) : w.cell? ⟨g, 0, none⟩ = some x ∧ w.cell? ⟨g, 1, none⟩ = some y ∧ w.cell? ⟨g, 2, none⟩ = some z :=
  ⟨by rw [cell_of_row w g 0 _ T (0, 0) h]; rfl, by rw [cell_of_row w g 1 _ T (0, 0) h]; rfl, by rw [cell_of_row w g 2 _ T (0, 0) h]; rfl⟩
theorem parse_bad (s : ByteArray) (hs : s.size ≤ 1100000) (p : Nat) (h : scan (bs s) 0 = .error p) (w : World) :
    Calls Tryz.prog 67 #[.string s] w fun e w' => Below w.heap.size w w' ∧ e = .returned (.tuple #[lineZ, .int .i64 (p : Int), .int .i64 20]) := by
  have hT := Hid.intro (fun w => tokens_bad s hs p h w)
  clear h
  go_enter Tryz.func67, Tryz.ntmps67
  go_wp2_with (go_at_call 101; with_reducible refine (hT.out _).mono ?_; rintro e w1 ⟨hb1, rfl⟩; obtain ⟨hh, r0, r1, r2, f0, f1, f2⟩ := lineCells_below hb1; replace hh := Hid.intro hh)
  obtain ⟨s1, s2, s3⟩ := line_set hh.out rfl (.string ⟨#[]⟩) (.string ⟨#[]⟩) (.slice none 0 0)
  generalize (((w1.setCell ⟨w.heap.size, 0, none⟩ (.string ⟨#[]⟩)).setCell ⟨w.heap.size, 1, none⟩ (.string ⟨#[]⟩)).setCell ⟨w.heap.size, 2, none⟩ (.slice none 0 0)) = w2 at s1 s2 s3 ⊢
  obtain ⟨z0, z1, z2⟩ := line_read s1
  refine bodyPost_ret (by simp [results, Tryz.results67, go_sem, z0, z1, z2]; try rfl) rfl ?_
  exact ⟨(lone_below hb1).trans s2, rfl⟩
theorem lown_weaken {w : World} {lo B : Nat} {T : TypeId} {sz : Nat} {v : Value} {n : Nat} {xs : List Value} (h : w.ownsRow lo T sz v n xs) (hB : B ≤ lo) : w.ownsRow B T sz v n xs := by
  refine ⟨h.1, ?_⟩
  rcases h.2 with hx | ⟨g, cap, cur, k1, k2, k3⟩
  · exact .inl hx
  · exact .inr ⟨g, cap, cur, k1, by omega, k3⟩
theorem ArgsOwn.weaken {T E : TypeId} {lo B : Nat} {w : World} {va : Value} {acc : List (List Tok)} {vs : List Value} {m : Nat} (h : ArgsOwn T E lo w va acc vs m) (hB : B ≤ lo) : ArgsOwn T E B w va acc vs m :=
  ⟨h.len, lown_weaken h.row hB, fun i v xs hv hx => ⟨(h.each i v xs hv hx).1, lown_weaken (h.each i v xs hv hx).2 hB⟩, h.low, h.rise, h.le⟩
theorem lown_low {w w' : World} {lo k : Nat} {T : TypeId} {sz : Nat} {v : Value} {n : Nat} {xs : List Value} (h : w.ownsRow lo T sz v n xs) (hg : w.grownBy w' (some k)) (hk : k < lo) : w'.ownsRow lo T sz v n xs :=
  h.kept hg (by
    cases hb : v.ownBlock with
    | none => exact .inl rfl
    | some g =>
      refine .inr fun e => ?_
      have := (h.lt g hb).1
      injection e with e
      omega)
theorem ArgsOwn.lower {T E : TypeId} {lo k : Nat} {w w' : World} {va : Value} {acc : List (List Tok)} {vs : List Value} {m : Nat} (h : ArgsOwn T E lo w va acc vs m) (hg : w.grownBy w' (some k)) (hk : k < lo) : ArgsOwn T E lo w' va acc vs m :=
  ⟨h.len, lown_low h.row hg hk, fun i v xs hv hx => ⟨(h.each i v xs hv hx).1, lown_low (h.each i v xs hv hx).2 hg hk⟩, h.low, h.rise, Nat.le_trans h.le hg.size⟩
theorem tokFrom_nil {w : World} {a : Option Addr} {r : List Tok} (h : r.length = 0) : TokFrom w a r := .inl (List.eq_nil_of_length_eq_zero h)
set_option maxHeartbeats 2000000 in
theorem parse_ok (s : ByteArray) (hs : s.size ≤ 1100000) (ts : List Tok) (h : scan (bs s) 0 = .ok ts) (w : World) :
    Calls Tryz.prog 67 #[.string s] w fun e w' => POut w.heap.size w (parseT s.size ts) e w' := by
  have hT := Hid.intro (fun w => tokens_ok s hs ts h w)
  have hlen : ts.length ≤ 1100000 := by
    have := scan_len _ _ _ h
    rw [bs_length] at this
    omega
  have hC := Hid.intro (fun (v : Value) (B : Nat) (w : World) => cutLabel_any v ts B w hlen)
  clear h
  unfold parseT
  have hlen2 : (cutT ts).2.length ≤ ts.length := by
    match ts with
    | [] => simp [cutT]
    | [t] => simp [cutT]
    | t :: u :: r =>
      simp only [cutT]
      split
      · simp; omega
      · simp
  generalize (cutT ts).1 = lab at hC ⊢
  generalize (cutT ts).2 = rest at hC hlen2 ⊢
  cases rest with
  | nil =>
    simp only [lineT]
    simp only [List.length_nil] at hC
    go_enter Tryz.func67, Tryz.ntmps67
    go_wp2_with (first
      | (go_at_call 101; with_reducible refine (hT.out _).mono ?_; rintro e w1 ⟨hb1, v1, rfl, hown1⟩; have hown1 := Hid.intro hown1)
      | (go_at_call 102; with_reducible refine (hC.out _ _ _ hown1.out).mono ?_; rintro e w2 ⟨hb2, a2, c2, rfl, hle2, hcc2, hT2, hlo2⟩; obtain ⟨hh, r0, r1, r2, f0, f1, f2⟩ := (lineCells_below hb1).below hb2 (lalloc_lt hb1); replace hh := Hid.intro hh))
    obtain ⟨s1, s2, s3⟩ := line_set hh.out rfl (.string (str lab)) (.string ⟨#[]⟩) (.slice none 0 0)
    generalize (((w2.setCell ⟨w.heap.size, 0, none⟩ (.string (str lab))).setCell ⟨w.heap.size, 1, none⟩ (.string ⟨#[]⟩)).setCell ⟨w.heap.size, 2, none⟩ (.slice none 0 0)) = w3 at s1 s2 s3 ⊢
    obtain ⟨z0, z1, z2⟩ := line_read s1
    refine bodyPost_ret (by simp [results, Tryz.results67, go_sem, z0, z1, z2]; try rfl) rfl ?_
    exact ⟨(ltwo_below hb1 hb2).trans s2, _, [], w3.heap.size, rfl, ArgsOwn.start _ _ _ _ _ (Nat.le_refl _)⟩
  | cons t r =>
    have hrl : (t :: r).length = r.length + 1 := rfl
    rw [hrl] at hC hlen2
    by_cases hk : t.kind = 1
    · simp only [lineT]
      rw [if_pos hk]
      have hA := Hid.intro (fun (a : Option Addr) (c : Nat) (w : World) => arguments_any a c r s.size w (by omega) hs)
      have hk' : (t.kind != 1) = false := by simp [hk]
      clear hk
      generalize argsT s.size r = RA at hA ⊢
      have hz : ((r.length : Int) + 1 == 0) = false := by simp; omega
      cases RA with
      | error p =>
        simp only
        go_enter Tryz.func67, Tryz.ntmps67
        go_wp2_with (first
          | (go_at_call 101; with_reducible refine (hT.out _).mono ?_; rintro e w1 ⟨hb1, v1, rfl, hown1⟩; have hown1 := Hid.intro hown1)
          | (go_at_call 102; with_reducible refine (hC.out _ _ _ hown1.out).mono ?_; rintro e w2 ⟨hb2, a2, c2, rfl, hle2, hcc2, hT2, hlo2⟩; have hl1 := Hid.intro ((lineCells_below hb1).below hb2 (lalloc_lt hb1)); obtain ⟨g, o, rfl, hg, ⟨q0, q1, q2, q3⟩, hT3⟩ := hT2.head; clear hT2; have hTF := Hid.intro (tokFrom_tail hg hT3); have hTF0 := Hid.intro (fun h1 : c2 = 1 => tokFrom_nil (w := w2) (a := some ⟨g, o, none⟩) (r := r) (by omega)); clear hT3 hlo2)
          | (go_at_call 103; (with_reducible refine (hA.out _ _ _ (by first | exact hTF.out | exact hTF0.out (by assumption))).mono ?_); rintro e w3 ⟨hb3, rfl⟩; obtain ⟨hh, r0, r1, r2, f0, f1, f2⟩ := hl1.out.below hb3 (Nat.lt_of_lt_of_le (lalloc_lt hb1) hb2.size); replace hh := Hid.intro hh))
        all_goals first | omega | skip
        all_goals (
          obtain ⟨s1, s2, s3⟩ := line_set hh.out rfl (.string ⟨#[]⟩) (.string ⟨#[]⟩) (.slice none 0 0)
          generalize (((w3.setCell ⟨w.heap.size, 0, none⟩ (.string ⟨#[]⟩)).setCell ⟨w.heap.size, 1, none⟩ (.string ⟨#[]⟩)).setCell ⟨w.heap.size, 2, none⟩ (.slice none 0 0)) = w4 at s1 s2 s3 ⊢
          obtain ⟨z0, z1, z2⟩ := line_read s1
          refine bodyPost_ret (by simp [results, Tryz.results67, go_sem, z0, z1, z2]; try rfl) rfl ?_
          exact ⟨((ltwo_below hb1 hb2).trans (hb3.mono (ltwo_below hb1 hb2).size)).trans s2, rfl⟩)
      | ok acc =>
        simp only
        go_enter Tryz.func67, Tryz.ntmps67
        go_wp2_with (first
          | (go_at_call 101; with_reducible refine (hT.out _).mono ?_; rintro e w1 ⟨hb1, v1, rfl, hown1⟩; have hown1 := Hid.intro hown1)
          | (go_at_call 102; with_reducible refine (hC.out _ _ _ hown1.out).mono ?_; rintro e w2 ⟨hb2, a2, c2, rfl, hle2, hcc2, hT2, hlo2⟩; have hl1 := Hid.intro ((lineCells_below hb1).below hb2 (lalloc_lt hb1)); obtain ⟨g, o, rfl, hg, ⟨q0, q1, q2, q3⟩, hT3⟩ := hT2.head; clear hT2; have hTF := Hid.intro (tokFrom_tail hg hT3); have hTF0 := Hid.intro (fun h1 : c2 = 1 => tokFrom_nil (w := w2) (a := some ⟨g, o, none⟩) (r := r) (by omega)); clear hT3 hlo2)
          | (go_at_call 103; (with_reducible refine (hA.out _ _ _ (by first | exact hTF.out | exact hTF0.out (by assumption))).mono ?_); rintro e w3 ⟨hb3, va, vs, m, rfl, hAO⟩; obtain ⟨av, cv, rfl⟩ := lown_slice hAO.row; replace hAO := Hid.intro hAO; obtain ⟨q0, q1, q2, q3⟩ := (TokOff.mk q0 q1 q2 q3).below hb3 hg; obtain ⟨hh, r0, r1, r2, f0, f1, f2⟩ := hl1.out.below hb3 (Nat.lt_of_lt_of_le (lalloc_lt hb1) hb2.size); replace hh := Hid.intro hh))
        all_goals first | omega | skip
        all_goals (
          obtain ⟨s1, s2, s3⟩ := line_set hh.out rfl (.string (str lab)) (.string (str t.text)) (.slice av vs.length cv)
          generalize (((w3.setCell ⟨w.heap.size, 0, none⟩ (.string (str lab))).setCell ⟨w.heap.size, 1, none⟩ (.string (str t.text))).setCell ⟨w.heap.size, 2, none⟩ (.slice av vs.length cv)) = w4 at s1 s2 s3 ⊢
          obtain ⟨z0, z1, z2⟩ := line_read s1
          refine bodyPost_ret (by simp [results, Tryz.results67, go_sem, z0, z1, z2]; try rfl) rfl ?_
          exact ⟨((ltwo_below hb1 hb2).trans (hb3.mono (ltwo_below hb1 hb2).size)).trans s2, _, vs, m, rfl, (hAO.out.lower s3 (Nat.lt_of_lt_of_le (lalloc_lt hb1) hb2.size)).weaken (ltwo_below hb1 hb2).size⟩)
    · simp only [lineT]
      rw [if_neg hk]
      have hk' : (t.kind != 1) = true := by simp [hk]
      clear hk
      have hz : ((r.length : Int) + 1 == 0) = false := by simp; omega
      go_enter Tryz.func67, Tryz.ntmps67
      go_wp2_with (first
        | (go_at_call 101; with_reducible refine (hT.out _).mono ?_; rintro e w1 ⟨hb1, v1, rfl, hown1⟩; have hown1 := Hid.intro hown1)
        | (go_at_call 102; with_reducible refine (hC.out _ _ _ hown1.out).mono ?_; rintro e w2 ⟨hb2, a2, c2, rfl, hle2, hcc2, hT2, hlo2⟩; obtain ⟨hh, r0, r1, r2, f0, f1, f2⟩ := (lineCells_below hb1).below hb2 (lalloc_lt hb1); replace hh := Hid.intro hh; obtain ⟨g, o, rfl, hg, ⟨q0, q1, q2, q3⟩, hT3⟩ := hT2.head; replace hT3 := Hid.intro hT3; clear hT2; have hgne : w.heap.size < g := (by have := hlo2 _ rfl; simp at this; omega); clear hlo2))
      all_goals first | omega | skip
      have hne : ¬ g = w.heap.size := by omega
      have hne2 : ¬ w.heap.size = g := by omega
      go_region
      go_wp2
      obtain ⟨s1, s2, s3⟩ := line_set hh.out rfl (.string ⟨#[]⟩) (.string ⟨#[]⟩) (.slice none 0 0)
      generalize (((w2.setCell ⟨w.heap.size, 0, none⟩ (.string ⟨#[]⟩)).setCell ⟨w.heap.size, 1, none⟩ (.string ⟨#[]⟩)).setCell ⟨w.heap.size, 2, none⟩ (.slice none 0 0)) = w3 at s1 s2 s3 ⊢
      have s1' : w3.drew.heap[w.heap.size]? = some (.cells #[.string ⟨#[]⟩, .string ⟨#[]⟩, .slice none 0 0] 133 (0, 0)) := s1
      obtain ⟨z0, z1, z2⟩ := line_read s1'
      refine bodyPost_ret (by simp [results, Tryz.results67, go_sem, z0, z1, z2]; try rfl) rfl ?_
      exact ⟨((ltwo_below hb1 hb2).trans s2).drew, rfl⟩
theorem lineParse_any (s : ByteArray) (hs : s.size ≤ 1100000) (w : World) :
    Calls Tryz.prog 67 #[.string s] w fun e w' => POut w.heap.size w (parseL (bs s)) e w' := by
  unfold parseL
  cases h : scan (bs s) 0 with
  | error p => exact parse_bad s hs p h w
  | ok ts =>
    simp only
    rw [bs_length]
    exact parse_ok s hs ts h w
end Go.Proofs.YtogkchgjpflmjaaGreatDoor
/- Chapter 3's known runs. -/
namespace Go.Proofs.YtogkchgjpflmjaaGreatDoor
open Go.ChangeShapes Go.WideShapes Go.ChangeAt Go.RowKit
set_option linter.unusedVariables false
set_option maxRecDepth 100000
theorem parse_err (s : ByteArray) (hs : s.size ≤ 1100000) (p : Nat) (h : parseL (bs s) = .error p) (w : World) :
    Calls Tryz.prog 67 #[.string s] w fun e w' => Below w.heap.size w w' ∧ e = .returned (.tuple #[lineZ, .int .i64 (p : Int), .int .i64 20]) := by
  have := lineParse_any s hs w
  rw [h] at this
  exact this
theorem parse_line (s : ByteArray) (hs : s.size ≤ 1100000) (L : Ln) (h : parseL (bs s) = .ok L) (w : World) :
    Calls Tryz.prog 67 #[.string s] w fun e w' => Below w.heap.size w w' ∧ ∃ a c vs m, e = .returned (.tuple #[.agg #[.string (str L.label), .string (str L.op), .slice a L.args.length c], .int .i64 0, .int .i64 0]) ∧ ArgsOwn 182 188 w.heap.size w' (.slice a L.args.length c) L.args vs m := by
  have := lineParse_any s hs w
  rw [h] at this
  refine this.mono ?_
  rintro e w' ⟨hb, va, vs, m, rfl, hA⟩
  obtain ⟨a, c, rfl⟩ := lown_slice hA.row
  rw [hA.len] at hA ⊢
  exact ⟨hb, a, c, vs, m, rfl, hA⟩
end Go.Proofs.YtogkchgjpflmjaaGreatDoor
namespace Go.Proofs.YtogkchgjpflmjaaGreatDoor
open Go.ChangeShapes Go.WideShapes Go.ChangeAt Go.RowKit
set_option linter.unusedVariables false
set_option maxRecDepth 100000
structure SmallP (xs : List Tok) : Prop where
  few : xs.length ≤ 1000000
  short : ∀ t ∈ xs, t.text.length ≤ 1000000
  any : xs ≠ []
theorem tokLies_fr {w : World} {a : Option Addr} {ts : List Tok} (h : TokLies w a ts) : TokFrom w a ts := by
  rcases h with h | ⟨g, ha, hg, hl⟩
  · exact .inl h
  · refine .inr ⟨g, 0, ha, hg, fun i t hi => ?_⟩
    obtain ⟨h0, h1, h2, h3⟩ := hl i t hi
    rw [Nat.zero_add]
    exact ⟨h0, h1, h2, h3⟩
theorem args_in9 {lo : Nat} {w : World} {a : Option Addr} {n c : Nat} {acc : List (List Tok)} {vs : List Value} {m : Nat} (h : ArgsOwn 182 188 lo w (.slice a n c) acc vs m) (hS : ∀ xs ∈ acc, SmallP xs) : ArgsIn w.heap.size w a acc := by
  refine ⟨?_, Nat.le_refl _⟩
  cases acc with
  | nil => exact .inl rfl
  | cons x0 acc =>
    have hl := h.len
    have hrow := h.row
    obtain ⟨hl', ⟨hv, h0⟩ | ⟨g, cap, cur, hv, hbg, hg, hle, hcap, hsz, htk⟩⟩ := h.row
    · rw [hl] at h0; simp at h0
    · injection hv with hv1 hv2 hv3
      subst hv1
      refine .inr ⟨g, rfl, (Array.getElem?_eq_some_iff.1 hg).1, fun i xs hi => ?_⟩
      have hi' : i < vs.length := by rw [hl]; exact (List.getElem?_eq_some_iff.1 hi).1
      obtain ⟨v, hv⟩ : ∃ v, vs[i]? = some v := ⟨vs[i], List.getElem?_eq_getElem hi'⟩
      obtain ⟨hx0, ho⟩ := h.each i v xs hv hi
      rw [hv2] at hrow
      have hcell := hrow.cellAt i (by omega)
      rw [hv] at hcell
      have hsm := hS xs (List.mem_of_getElem? hi)
      have hfw := hsm.few
      obtain ⟨a', c', rfl, hl2⟩ := own_lies ho
      rcases ho.2 with ⟨hvv, hh0⟩ | ⟨g', cap', cur', hvv, hB, hgh, hle', hcap', _⟩
      · exact absurd hh0 hx0
      · injection hvv with e1 e2 e3
        subst e1 e3
        have hgl := (Array.getElem?_eq_some_iff.1 hgh).1
        exact ⟨_, _, hcell, ⟨tokLies_fr hl2, fun y hy => by cases hy; exact hgl, hle', by unfold maxLen at hcap'; omega, by omega, hsm.short⟩, fun y hy => by cases hy; exact hgl⟩
theorem argsF_ne (n : Nat) (ts arg : List Tok) (acc out : List (List Tok)) (h : argsF n ts arg acc = .ok out) (h3 : ∀ xs ∈ acc, xs ≠ []) : ∀ xs ∈ out, xs ≠ [] := by
  induction ts generalizing arg acc with
  | nil =>
    unfold argsF at h
    split at h
    · cases h
    · rename_i h0
      cases h
      intro xs hx
      rcases List.mem_append.1 hx with hx | hx
      · exact h3 xs hx
      · simp at hx; subst hx; intro e; subst e; exact h0 rfl
  | cons t ts ih =>
    unfold argsF at h
    split at h
    · cases h
    · split at h
      · split at h
        · cases h
        · rename_i h0
          refine ih _ _ h (fun xs hx => ?_)
          rcases List.mem_append.1 hx with hx | hx
          · exact h3 xs hx
          · simp at hx; subst hx; intro e; subst e; exact h0 rfl
      · exact ih _ _ h h3
theorem parseL_every (P : Tok → Prop) (s : List UInt8) (L : Ln) (h : parseL s = .ok L) (hP : ∀ ts, scan s 0 = .ok ts → ∀ t ∈ ts, P t) : ∀ xs ∈ L.args, xs ≠ [] ∧ ∀ t ∈ xs, P t := by
  unfold parseL at h
  cases hs : scan s 0 with
  | error q => rw [hs] at h; cases h
  | ok ts =>
    rw [hs] at h
    have hp := hP ts hs
    have hm := cutT_mem ts
    unfold parseT lineT at h
    simp only at h
    split at h
    · cases h
      intro xs hx
      cases hx
    · rename_i t r heq
      rw [heq] at hm
      split at h
      · split at h
        · rename_i out hq
          cases h
          unfold argsT at hq
          split at hq
          · cases hq
            intro xs hx
            cases hx
          · have h1 := argsF_mem _ P _ _ _ _ hq (fun x hx => hp x (hm x (by simp [hx]))) (fun x hx => by cases hx) (fun x hx => by cases hx)
            have h2 := argsF_ne _ _ _ _ _ hq (fun x hx => by cases hx)
            exact fun xs hx => ⟨h2 xs hx, h1 xs hx⟩
        · cases h
      · cases h
theorem parseL_smallP {s : List UInt8} (hs : s.length ≤ 65536) {L : Ln} (h : parseL s = .ok L) : L.args.length ≤ 65537 ∧ (∀ xs ∈ L.args, SmallP xs) ∧ (∀ xs ∈ L.args, xs.length ≤ 1100000) := by
  obtain ⟨h1, h2⟩ := parseL_few s L h
  refine ⟨by omega, fun xs hx => ?_, fun xs hx => by have := h2 xs hx; omega⟩
  obtain ⟨h3, h4⟩ := parseL_every (fun t => t.text.length ≤ s.length) s L h (fun ts hts t ht => scan_text s 0 ts hts t ht) xs hx
  exact ⟨by have := h2 xs hx; omega, fun t ht => by have := h4 t ht; omega, h3⟩
end Go.Proofs.YtogkchgjpflmjaaGreatDoor
