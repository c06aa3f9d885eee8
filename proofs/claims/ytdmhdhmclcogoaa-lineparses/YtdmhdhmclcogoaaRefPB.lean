/- The document's Parse: a label, without arguments. -/
import Derived.Test.YtdmhdhmclcogoaaRefPW
namespace Go.Proofs.Ytdmhdhmclcogoaa
open Go.ChangeShapes Go.WideShapes Go.ChangeAt Go.RowKit
set_option linter.unusedVariables false
set_option maxRecDepth 100000

theorem refParse_lab (s : ByteArray) (hs : s.size ≤ 1100000) (t u : Tok) (h : scan (bs s) 0 = .ok [t, u]) (hk : t.kind = 1) (hu : isS u 58 = true) (w : World) :
    Calls Try.prog 13 #[.string s] w fun e w' => RPOut w.heap.size w (.ok ⟨t.text, [], []⟩) e w' := by
  have hT := Hid.intro (fun w => refTokens_ok s hs [t, u] h w)
  have hlen := scan_len _ _ _ h
  rw [bs_length] at hlen
  have hll : ([t, u]).length = 2 := rfl
  rw [hll] at hT hlen
  clear h hll
  have hk' : (t.kind == 1) = true := by simp [hk]
  have hk2 : (t.kind != 1) = false := by simp [hk]
  clear hk
  have hS := Hid.intro (refSign_b u 58 true hu)
  clear hu
  go_enter Try.func13, Try.ntmps13
  go_wp2_with (first
    | (go_at_call 26; with_reducible refine (hT.out _).mono ?_; rintro e w1 ⟨hb1, a1, c1, rfl, hl1, hlo1⟩; obtain ⟨g, rfl, hg, hl1⟩ := toks_of hl1; have hgl : w.heap.size < g := (by have := hlo1 _ rfl; simp at this; omega); have hl1 := Hid.intro hl1; clear hlo1; obtain ⟨y0, y1, y2, y3⟩ := hl1.out 0 t rfl; simp only [Nat.zero_mul, Nat.zero_add] at y0 y1 y2 y3; obtain ⟨x0, x1, x2, x3⟩ := hl1.out 1 u rfl; simp only [Nat.one_mul, Nat.reduceAdd] at x0 x1 x2 x3; replace y0 := cellA y0; replace y1 := cellA y1; replace x0 := cellA x0; replace x1 := cellA x1; replace x2 := cellA x2; replace x3 := cellA x3)
    | (go_at_call 27; with_reducible refine (hS.out _).mono ?_; rintro e w2 ⟨rfl, hb2⟩; have hgs := alloc_lt hb2; obtain ⟨oh, o0, o1, o2, p0, p1, p2⟩ := lineCells_below hb2; replace oh := Hid.intro oh; have rres := Hid.intro ((lineCells_below hb1).below (one_below hb2) (alloc_lt hb1)); obtain ⟨rh, r0, r1, r2, f0, f1, f2⟩ := rres.out; replace rh := Hid.intro rh; have hne3 : ¬ w.heap.size = w1.heap.size := (by have := alloc_lt hb1; omega); have hne4 : ¬ w1.heap.size = w.heap.size := (by have := alloc_lt hb1; omega); have hne5 : ¬ g = w.heap.size := (by omega); have hne6 : ¬ w.heap.size = g := (by omega); obtain ⟨v0, v1, v2, v3⟩ := (hl1.out 0 t rfl).below (one_below hb2) hg; simp only [Nat.zero_mul, Nat.zero_add] at v0 v1 v2 v3; have hne : ¬ g = w1.heap.size := (by omega); have hne2 : ¬ w1.heap.size = g := (by omega)))
  all_goals first | omega | skip
  obtain ⟨s1, s2, s3⟩ := line_set (T := 33) (cur := #[.string ⟨#[]⟩, .string ⟨#[]⟩, .slice none 0 0]) (w := (w2.setCell ⟨w1.heap.size, 0, none⟩ (.string (str t.text)))) (g := w.heap.size) (by rw [heap_setCell_other _ _ _ _ hne3]; exact rh.out) rfl (.string (str t.text)) (.string ⟨#[]⟩) (.slice none 0 0)
  have hbS : Below w.heap.size w (w2.setCell ⟨w1.heap.size, 0, none⟩ (.string (str t.text))) := (two_below hb1 (one_below hb2)).trans ((Below.refl w.heap.size w2).setCell (p := ⟨w1.heap.size, 0, none⟩) (by show w.heap.size ≤ w1.heap.size; have := alloc_lt hb1; omega) _)
  generalize (w2.setCell ⟨w1.heap.size, 0, none⟩ (.string (str t.text))) = w5 at s1 s2 s3 hbS ⊢
  generalize (((w5.setCell ⟨w.heap.size, 0, none⟩ (.string (str t.text))).setCell ⟨w.heap.size, 1, none⟩ (.string ⟨#[]⟩)).setCell ⟨w.heap.size, 2, none⟩ (.slice none 0 0)) = w4 at s1 s2 s3 ⊢
  obtain ⟨z0, z1, z2⟩ := line_read s1
  refine bodyPost_ret (by simp [results, Try.results13, go_sem, z0, z1, z2]; try rfl) rfl ?_
  exact ⟨hbS.trans s2, none, 0, rfl, .inl rfl⟩

theorem refParse_labWrong (s : ByteArray) (hs : s.size ≤ 1100000) (t u x : Tok) (r : List Tok) (h : scan (bs s) 0 = .ok (t :: u :: x :: r)) (hk : t.kind = 1) (hu : isS u 58 = true) (hkx : x.kind ≠ 1) (w : World) :
    Calls Try.prog 13 #[.string s] w fun e w' => RPOut w.heap.size w (.error x.place) e w' := by
  have hT := Hid.intro (fun w => refTokens_ok s hs (t :: u :: x :: r) h w)
  have hlen := scan_len _ _ _ h
  rw [bs_length] at hlen
  have hll : ((t :: u :: x :: r)).length = r.length + 1 + 1 + 1 := rfl
  rw [hll] at hT hlen
  clear h hll
  have hk' : (t.kind == 1) = true := by simp [hk]
  have hk2 : (t.kind != 1) = false := by simp [hk]
  clear hk
  have hS := Hid.intro (refSign_b u 58 true hu)
  clear hu
  have hz2 : ((2 : Int) == (r.length : Int) + 1 + 1 + 1) = false := by simp; omega
  have hd : decide (2 ≤ (r.length : Int) + 1 + 1 + 1) = true := by simp; omega
  have hkx' : (x.kind != 1) = true := by simp [hkx]
  clear hkx
  go_enter Try.func13, Try.ntmps13
  go_wp2_with (first
    | (go_at_call 26; with_reducible refine (hT.out _).mono ?_; rintro e w1 ⟨hb1, a1, c1, rfl, hl1, hlo1⟩; obtain ⟨g, rfl, hg, hl1⟩ := toks_of hl1; have hgl : w.heap.size < g := (by have := hlo1 _ rfl; simp at this; omega); have hl1 := Hid.intro hl1; clear hlo1; obtain ⟨y0, y1, y2, y3⟩ := hl1.out 0 t rfl; simp only [Nat.zero_mul, Nat.zero_add] at y0 y1 y2 y3; obtain ⟨x0, x1, x2, x3⟩ := hl1.out 1 u rfl; simp only [Nat.one_mul, Nat.reduceAdd] at x0 x1 x2 x3; replace y0 := cellA y0; replace y1 := cellA y1; replace x0 := cellA x0; replace x1 := cellA x1; replace x2 := cellA x2; replace x3 := cellA x3)
    | (go_at_call 27; with_reducible refine (hS.out _).mono ?_; rintro e w2 ⟨rfl, hb2⟩; have hgs := alloc_lt hb2; obtain ⟨oh, o0, o1, o2, p0, p1, p2⟩ := lineCells_below hb2; replace oh := Hid.intro oh; have rres := Hid.intro ((lineCells_below hb1).below (one_below hb2) (alloc_lt hb1)); obtain ⟨rh, r0, r1, r2, f0, f1, f2⟩ := rres.out; replace rh := Hid.intro rh; have hne3 : ¬ w.heap.size = w1.heap.size := (by have := alloc_lt hb1; omega); have hne4 : ¬ w1.heap.size = w.heap.size := (by have := alloc_lt hb1; omega); have hne5 : ¬ g = w.heap.size := (by omega); have hne6 : ¬ w.heap.size = g := (by omega); obtain ⟨v0, v1, v2, v3⟩ := (hl1.out 0 t rfl).below (one_below hb2) hg; simp only [Nat.zero_mul, Nat.zero_add] at v0 v1 v2 v3; obtain ⟨q0, q1, q2, q3⟩ := (hl1.out 2 x rfl).below (one_below hb2) hg; simp only [Nat.reduceMul, Nat.reduceAdd] at q0 q1 q2 q3; have hne : ¬ g = w1.heap.size := (by omega); have hne2 : ¬ w1.heap.size = g := (by omega)))
  all_goals first | omega | skip
  go_region
  go_wp2
  obtain ⟨s1, s2, s3⟩ := line_set (T := 33) (cur := #[.string ⟨#[]⟩, .string ⟨#[]⟩, .slice none 0 0]) (w := (w2.setCell ⟨w1.heap.size, 0, none⟩ (.string (str t.text)))) (g := w.heap.size) (by rw [heap_setCell_other _ _ _ _ hne3]; exact rh.out) rfl (.string ⟨#[]⟩) (.string ⟨#[]⟩) (.slice none 0 0)
  have hbS : Below w.heap.size w (w2.setCell ⟨w1.heap.size, 0, none⟩ (.string (str t.text))) := (two_below hb1 (one_below hb2)).trans ((Below.refl w.heap.size w2).setCell (p := ⟨w1.heap.size, 0, none⟩) (by show w.heap.size ≤ w1.heap.size; have := alloc_lt hb1; omega) _)
  generalize (w2.setCell ⟨w1.heap.size, 0, none⟩ (.string (str t.text))) = w5 at s1 s2 s3 hbS ⊢
  generalize (((w5.setCell ⟨w.heap.size, 0, none⟩ (.string ⟨#[]⟩)).setCell ⟨w.heap.size, 1, none⟩ (.string ⟨#[]⟩)).setCell ⟨w.heap.size, 2, none⟩ (.slice none 0 0)) = w4 at s1 s2 s3 ⊢
  have s1' : w4.drew.heap[w.heap.size]? = _ := s1
  obtain ⟨z0, z1, z2⟩ := line_read s1'
  refine bodyPost_ret (by simp [results, Try.results13, go_sem, z0, z1, z2]; try rfl) rfl ?_
  exact ⟨(hbS.trans s2).drew, rfl⟩

theorem refParse_labOp (s : ByteArray) (hs : s.size ≤ 1100000) (t u x : Tok) (h : scan (bs s) 0 = .ok [t, u, x]) (hk : t.kind = 1) (hu : isS u 58 = true) (hkx : x.kind = 1) (w : World) :
    Calls Try.prog 13 #[.string s] w fun e w' => RPOut w.heap.size w (.ok ⟨t.text, x.text, []⟩) e w' := by
  have hT := Hid.intro (fun w => refTokens_ok s hs [t, u, x] h w)
  have hlen := scan_len _ _ _ h
  rw [bs_length] at hlen
  have hll : ([t, u, x]).length = 3 := rfl
  rw [hll] at hT hlen
  clear h hll
  have hk' : (t.kind == 1) = true := by simp [hk]
  have hk2 : (t.kind != 1) = false := by simp [hk]
  clear hk
  have hS := Hid.intro (refSign_b u 58 true hu)
  clear hu
  have hkx' : (x.kind != 1) = false := by simp [hkx]
  clear hkx
  go_enter Try.func13, Try.ntmps13
  go_wp2_with (first
    | (go_at_call 26; with_reducible refine (hT.out _).mono ?_; rintro e w1 ⟨hb1, a1, c1, rfl, hl1, hlo1⟩; obtain ⟨g, rfl, hg, hl1⟩ := toks_of hl1; have hgl : w.heap.size < g := (by have := hlo1 _ rfl; simp at this; omega); have hl1 := Hid.intro hl1; clear hlo1; obtain ⟨y0, y1, y2, y3⟩ := hl1.out 0 t rfl; simp only [Nat.zero_mul, Nat.zero_add] at y0 y1 y2 y3; obtain ⟨x0, x1, x2, x3⟩ := hl1.out 1 u rfl; simp only [Nat.one_mul, Nat.reduceAdd] at x0 x1 x2 x3; replace y0 := cellA y0; replace y1 := cellA y1; replace x0 := cellA x0; replace x1 := cellA x1; replace x2 := cellA x2; replace x3 := cellA x3)
    | (go_at_call 27; with_reducible refine (hS.out _).mono ?_; rintro e w2 ⟨rfl, hb2⟩; have hgs := alloc_lt hb2; obtain ⟨oh, o0, o1, o2, p0, p1, p2⟩ := lineCells_below hb2; replace oh := Hid.intro oh; have rres := Hid.intro ((lineCells_below hb1).below (one_below hb2) (alloc_lt hb1)); obtain ⟨rh, r0, r1, r2, f0, f1, f2⟩ := rres.out; replace rh := Hid.intro rh; have hne3 : ¬ w.heap.size = w1.heap.size := (by have := alloc_lt hb1; omega); have hne4 : ¬ w1.heap.size = w.heap.size := (by have := alloc_lt hb1; omega); have hne5 : ¬ g = w.heap.size := (by omega); have hne6 : ¬ w.heap.size = g := (by omega); obtain ⟨v0, v1, v2, v3⟩ := (hl1.out 0 t rfl).below (one_below hb2) hg; simp only [Nat.zero_mul, Nat.zero_add] at v0 v1 v2 v3; obtain ⟨q0, q1, q2, q3⟩ := (hl1.out 2 x rfl).below (one_below hb2) hg; simp only [Nat.reduceMul, Nat.reduceAdd] at q0 q1 q2 q3; have hne : ¬ g = w1.heap.size := (by omega); have hne2 : ¬ w1.heap.size = g := (by omega)))
  all_goals first | omega | skip
  obtain ⟨s1, s2, s3⟩ := line_set (T := 33) (cur := #[.string ⟨#[]⟩, .string ⟨#[]⟩, .slice none 0 0]) (w := ((w2.setCell ⟨w1.heap.size, 0, none⟩ (.string (str t.text))).setCell ⟨w1.heap.size, 1, none⟩ (.string (str x.text)))) (g := w.heap.size) (by rw [heap_setCell_other _ _ _ _ hne3, heap_setCell_other _ _ _ _ hne3]; exact rh.out) rfl (.string (str t.text)) (.string (str x.text)) (.slice none 0 0)
  have hbS : Below w.heap.size w ((w2.setCell ⟨w1.heap.size, 0, none⟩ (.string (str t.text))).setCell ⟨w1.heap.size, 1, none⟩ (.string (str x.text))) := (two_below hb1 (one_below hb2)).trans (((Below.refl w.heap.size w2).setCell (p := ⟨w1.heap.size, 0, none⟩) (by show w.heap.size ≤ w1.heap.size; have := alloc_lt hb1; omega) _).setCell (p := ⟨w1.heap.size, 1, none⟩) (by show w.heap.size ≤ w1.heap.size; have := alloc_lt hb1; omega) _)
  generalize ((w2.setCell ⟨w1.heap.size, 0, none⟩ (.string (str t.text))).setCell ⟨w1.heap.size, 1, none⟩ (.string (str x.text))) = w5 at s1 s2 s3 hbS ⊢
  generalize (((w5.setCell ⟨w.heap.size, 0, none⟩ (.string (str t.text))).setCell ⟨w.heap.size, 1, none⟩ (.string (str x.text))).setCell ⟨w.heap.size, 2, none⟩ (.slice none 0 0)) = w4 at s1 s2 s3 ⊢
  obtain ⟨z0, z1, z2⟩ := line_read s1
  refine bodyPost_ret (by simp [results, Try.results13, go_sem, z0, z1, z2]; try rfl) rfl ?_
  exact ⟨hbS.trans s2, none, 0, rfl, .inl rfl⟩
end Go.Proofs.Ytdmhdhmclcogoaa
