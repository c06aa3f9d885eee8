/- The document's Parse: the walk. -/
import Derived.Test.YtdmhdhmclcogoaaRefP
namespace Go.Proofs.Ytdmhdhmclcogoaa
open Go.ChangeShapes Go.WideShapes Go.ChangeAt Go.RowKit
set_option linter.unusedVariables false
set_option maxRecDepth 100000

theorem refParse_bad (s : ByteArray) (hs : s.size ≤ 1100000) (p : Nat) (h : scan (bs s) 0 = .error p) (w : World) :
    Calls Try.prog 13 #[.string s] w fun e w' => RPOut w.heap.size w (.error p) e w' := by
  have hT := Hid.intro (fun w => refTokens_no s hs p h w)
  clear h
  go_enter Try.func13, Try.ntmps13
  go_wp2_with (go_at_call 26; with_reducible refine (hT.out _).mono ?_; rintro e w1 ⟨hb1, rfl⟩; obtain ⟨hh, r0, r1, r2, f0, f1, f2⟩ := lineCells_below hb1; replace hh := Hid.intro hh)
  obtain ⟨s1, s2, s3⟩ := line_set hh.out rfl (.string ⟨#[]⟩) (.string ⟨#[]⟩) (.slice none 0 0)
  generalize (((w1.setCell ⟨w.heap.size, 0, none⟩ (.string ⟨#[]⟩)).setCell ⟨w.heap.size, 1, none⟩ (.string ⟨#[]⟩)).setCell ⟨w.heap.size, 2, none⟩ (.slice none 0 0)) = w2 at s1 s2 s3 ⊢
  obtain ⟨z0, z1, z2⟩ := line_read s1
  refine bodyPost_ret (by simp [results, Try.results13, go_sem, z0, z1, z2]; try rfl) rfl ?_
  exact ⟨(one_below hb1).trans s2, rfl⟩

theorem refParse_none (s : ByteArray) (hs : s.size ≤ 1100000) (h : scan (bs s) 0 = .ok []) (w : World) :
    Calls Try.prog 13 #[.string s] w fun e w' => RPOut w.heap.size w (.ok ⟨[], [], []⟩) e w' := by
  have hT := Hid.intro (fun w => refTokens_ok s hs [] h w)
  clear h
  simp only [List.length_nil] at hT
  go_enter Try.func13, Try.ntmps13
  go_wp2_with (go_at_call 26; with_reducible refine (hT.out _).mono ?_; rintro e w1 ⟨hb1, a1, c1, rfl, hl1, hlo1⟩; obtain ⟨⟨r0, r1, r2⟩, f0, f1, f2⟩ := resFacts hb1)
  obtain ⟨s1, s2, s3⟩ := line_set (alloc_heap (lineCells_below hb1).heap resO) rfl (.string ⟨#[]⟩) (.string ⟨#[]⟩) (.slice none 0 0)
  generalize ((((w1.alloc resO).setCell ⟨w.heap.size, 0, none⟩ (.string ⟨#[]⟩)).setCell ⟨w.heap.size, 1, none⟩ (.string ⟨#[]⟩)).setCell ⟨w.heap.size, 2, none⟩ (.slice none 0 0)) = w2 at s1 s2 s3 ⊢
  obtain ⟨z0, z1, z2⟩ := line_read s1
  refine bodyPost_ret (by simp [results, Try.results13, go_sem, z0, z1, z2]; try rfl) rfl ?_
  exact ⟨((one_below hb1).alloc (one_below hb1).size _).trans s2, none, 0, rfl, .inl rfl⟩

theorem refParse_one (s : ByteArray) (hs : s.size ≤ 1100000) (t : Tok) (h : scan (bs s) 0 = .ok [t]) (hk : t.kind = 1) (w : World) :
    Calls Try.prog 13 #[.string s] w fun e w' => RPOut w.heap.size w (.ok ⟨[], t.text, []⟩) e w' := by
  have hT := Hid.intro (fun w => refTokens_ok s hs [t] h w)
  clear h
  simp only [List.length_cons, List.length_nil, Nat.zero_add] at hT
  have hk' : (t.kind != 1) = false := by simp [hk]
  clear hk
  go_enter Try.func13, Try.ntmps13
  go_wp2_with (go_at_call 26; with_reducible refine (hT.out _).mono ?_; rintro e w1 ⟨hb1, a1, c1, rfl, hl1, hlo1⟩; obtain ⟨⟨r0, r1, r2⟩, f0, f1, f2⟩ := resFacts hb1; obtain ⟨g, rfl, hg, y0, y1, y2, y3⟩ := one_tok hl1; replace y0 := cellA y0; replace y1 := cellA y1; replace y3 := cellA y3)
  obtain ⟨s1, s2, s3⟩ := line_set (alloc_heap (lineCells_below hb1).heap (.cells #[.string ⟨#[]⟩, .string (str t.text), .slice none 0 0] 33)) rfl (.string ⟨#[]⟩) (.string (str t.text)) (.slice none 0 0)
  generalize ((((w1.alloc (.cells #[.string ⟨#[]⟩, .string (str t.text), .slice none 0 0] 33)).setCell ⟨w.heap.size, 0, none⟩ (.string ⟨#[]⟩)).setCell ⟨w.heap.size, 1, none⟩ (.string (str t.text))).setCell ⟨w.heap.size, 2, none⟩ (.slice none 0 0)) = w2 at s1 s2 s3 ⊢
  obtain ⟨z0, z1, z2⟩ := line_read s1
  refine bodyPost_ret (by simp [results, Try.results13, go_sem, z0, z1, z2]; try rfl) rfl ?_
  exact ⟨((one_below hb1).alloc (one_below hb1).size _).trans s2, none, 0, rfl, .inl rfl⟩

theorem refParse_wrong (s : ByteArray) (hs : s.size ≤ 1100000) (t : Tok) (r : List Tok) (h : scan (bs s) 0 = .ok (t :: r)) (hk : t.kind ≠ 1) (w : World) :
    Calls Try.prog 13 #[.string s] w fun e w' => RPOut w.heap.size w (.error t.place) e w' := by
  have hT := Hid.intro (fun w => refTokens_ok s hs (t :: r) h w)
  have hlen := scan_len _ _ _ h
  rw [bs_length, List.length_cons] at hlen
  clear h
  rw [List.length_cons] at hT
  have hk' : (t.kind != 1) = true := by simp [hk]
  have hk2 : (t.kind == 1) = false := by simp [hk]
  have hz : ((r.length : Int) + 1 == 0) = false := by simp; omega
  clear hk
  have hcases : decide (2 ≤ (r.length : Int) + 1) = true ∨ decide (2 ≤ (r.length : Int) + 1) = false := by cases decide (2 ≤ (r.length : Int) + 1) <;> simp
  rcases hcases with hd | hd
  all_goals (
    go_enter Try.func13, Try.ntmps13
    go_wp2_with (go_at_call 26; with_reducible refine (hT.out _).mono ?_; rintro e w1 ⟨hb1, a1, c1, rfl, hl1, hlo1⟩; obtain ⟨⟨r0, r1, r2⟩, f0, f1, f2⟩ := resFacts hb1; obtain ⟨g, rfl, hg, y0, y1, y2, y3⟩ := one_tok hl1; have hgl : w.heap.size < g := (by have := hlo1 _ rfl; simp at this; omega); replace y0 := cellA y0; replace y1 := cellA y1; replace y3 := cellA y3)
    all_goals first | omega | skip
    have hne : ¬ g = w.heap.size := by omega
    have hne2 : ¬ w.heap.size = g := by omega
    go_region
    go_wp2
    obtain ⟨s1, s2, s3⟩ := line_set (alloc_heap (lineCells_below hb1).heap resO) rfl (.string ⟨#[]⟩) (.string ⟨#[]⟩) (.slice none 0 0)
    generalize ((((w1.alloc resO).setCell ⟨w.heap.size, 0, none⟩ (.string ⟨#[]⟩)).setCell ⟨w.heap.size, 1, none⟩ (.string ⟨#[]⟩)).setCell ⟨w.heap.size, 2, none⟩ (.slice none 0 0)) = w2 at s1 s2 s3 ⊢
    have s1' : w2.drew.heap[w.heap.size]? = some (.cells #[.string ⟨#[]⟩, .string ⟨#[]⟩, .slice none 0 0] 33 (0, 0)) := s1
    obtain ⟨z0, z1, z2⟩ := line_read s1'
    refine bodyPost_ret (by simp [results, Try.results13, go_sem, z0, z1, z2]; try rfl) rfl ?_
    exact ⟨(((one_below hb1).alloc (one_below hb1).size _).trans s2).drew, rfl⟩)
end Go.Proofs.Ytdmhdhmclcogoaa
