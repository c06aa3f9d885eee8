/- unit's take: a line that is taken, or one item too many. -/
import Derived.Test.YtogkchgjpflmjaaGreatDoorTk2
namespace Go.Proofs.YtogkchgjpflmjaaGreatDoor
open Go.ChangeShapes Go.WideShapes Go.ChangeAt Go.RowKit
set_option linter.unusedVariables false
set_option maxRecDepth 100000
variable {lo b m N : Nat} {w : World} {A : Asm} {pt pd : List (Itm × Value)} {pe : List ((List UInt8 × Lin) × Value)} {tv dv ev av : Value} {L : Ln} {a : Option Addr} {c g : Nat} {W W' : World}
theorem lab_len (lb : List UInt8) (l : List Itm) : (labF lb ++ l).length ≤ l.length + 1 := by
  unfold labF
  split <;> simp
theorem lay_no (h : AsmAt lo w b m N A pt pd pe tv dv ev av) (a : Option Addr) (c : Nat) (p : List (Itm × Value)) (hp : ItOwn lo w (.slice a p.length c) p) (hpn : p.length ≤ 1200000) (hok : A.text.length + A.data.length ≤ 8192) (hm : 8192 < A.text.length + A.data.length + p.length) :
    Calls Tryz.prog 71 #[.pointer (some ⟨b, 0, none⟩), .slice a p.length c] w fun e w' => e = .returned (.bool false) ∧ BelN lo m w w' := by
  refine (lay_any h a c p hp hpn hok).mono ?_
  rintro e w' ⟨hb, ho⟩
  unfold LayOut at ho
  rw [if_pos hm] at ho
  exact ⟨ho, hb⟩
theorem lay_yes (h : AsmAt lo w b m N A pt pd pe tv dv ev av) (a : Option Addr) (c : Nat) (p : List (Itm × Value)) (hp : ItOwn lo w (.slice a p.length c) p) (hpn : p.length ≤ 1200000) (hok : A.text.length + A.data.length ≤ 8192) (hm : ¬ 8192 < A.text.length + A.data.length + p.length) :
    Calls Tryz.prog 71 #[.pointer (some ⟨b, 0, none⟩), .slice a p.length c] w fun e w' => e = .returned (.bool true) ∧ BelN lo m w w' ∧ Keep2 w w' ∧ ∃ pt' pd' tv' dv', AsmAt lo w' b m N (layI A (p.map (·.1))) pt' pd' pe tv' dv' ev av := by
  refine (lay_any h a c p hp hpn hok).mono ?_
  rintro e w' ⟨hb, ho⟩
  unfold LayOut at ho
  rw [if_neg hm] at ho
  exact ⟨ho.1, hb, ho.2⟩
section
variable {x : Thg} {vi : Value} {va : Option Addr} {nt vc gt : Nat}
theorem TkR.thing_kept (h : TkR lo w b m N A pt pd pe tv dv ev av L g x vi va nt vc gt W) (hk : Keep2 W W') : W'.heap[gt]? = some (.cells (six x.kind vi x.name (.slice va nt vc) x.e.const x.sec) 137 (0, 0)) := hk _ _ _ _ h.thing (by decide) (by decide)
theorem TkR.terms_kept (h : TkR lo w b m N A pt pd pe tv dv ev av L g x vi va nt vc gt W) (hk : Keep2 W W') : W'.ownsRow lo 123 2 (.slice va nt vc) x.e.terms.length (rowT x.e.terms) := by
  obtain ⟨p, _, _, h3⟩ := h.own
  exact hk.own h3 (by decide) (by decide)
end
set_option maxHeartbeats 8000000 in
theorem take_manyN (h : AsmAt lo w b m N A pt pd pe tv dv ev av) (hT : Tab w) (hlo : lo ≤ w.heap.size) (n : Nat) (s : List UInt8) (hs : s.length ≤ 65536) (hL : parseL s = .ok L) (hl : L.label = [] ∨ legB (str L.label) = true) (hN : N ≤ 2000000) (hok : Hid (A.text.length + A.data.length ≤ 8192)) (hfe : A.equs.length ≤ 1100000) (hfa : A.asked.length ≤ 1100000) (x : Thg) (hR : readF L.op L.args A.sec = .ok x) (g1 : List (List UInt8)) (hn1 : Hid (nameU A.given L.label = some g1)) (hk3 : x.kind ≠ 3) (hcnt : Hid (8192 < A.text.length + A.data.length + (labF L.label ++ x.items).length)) :
    Calls Tryz.prog 35 #[.pointer (some ⟨b, 0, none⟩), .int .i64 n, .string (str s)] w fun e w' => e = .returned (.iface 36 (.int .i64 4)) ∧ BelN lo m w w' := by
  have e3 : (x.kind == 3) = false := by simpa using hk3
  clear hk3
  have hp := Hid.intro (parse_line (str s) (by rw [show (str s).size = s.length from rfl]; omega) L (by rw [bs_str]; exact hL) w)
  have hll := parseL_label hL
  have hleg := Hid.intro (fun w1 => legal_any (str L.label) (by rw [show (str L.label).size = L.label.length from rfl]; omega) w1)
  obtain ⟨hal, hsm, hfew⟩ := parseL_smallP hs hL
  have hnew := Hid.intro (fun w1 hb a c vs j hA => tks_new (a := a) (c := c) (L := L) (vs := vs) (k := j) h hT (w1 := w1) hb hA hsm)
  have hrd := Hid.intro (fun W a c g (hS : TkS lo w b m N A pt pd pe tv dv ev av L a c g W) => hS.read (by omega) hfew hlo)
  rw [hR] at hrd
  have hfine := readF_fine hfew (by omega) hR
  have hmany := hfine.many
  have hnm : x.name.length ≤ 1100000 := by have := hfine.name; omega
  clear hfine
  clear h hL hT hR hsm hfew
  by_cases h0 : L.label = []
  · have hne : ((str L.label).toList == []) = true := by rw [str_toList, h0]; rfl
    clear hleg hl h0
    go_enter Tryz.func35, Tryz.ntmps35
    go_upto_region 6 with (first | (go_at_call 67; (with_reducible refine (hp.out).mono ?_); rintro e w1 ⟨hb1, a, c, vs, j, rfl, hA⟩))
    all_goals first | omega | skip
    have hS := hnew.out w1 hb1 a c vs j hA
    clear hA hnew hp hb1
    generalize (w1.alloc (.cells #[.string (str L.label), .string (str L.op), .slice a L.args.length c] 133)) = W at *
    generalize w1.heap.size = g at *
    obtain ⟨c0, c1, c2, c4⟩ := hS.cells
    have hrd1 := Hid.intro (hrd.out _ _ _ _ hS)
    replace hS := Hid.intro hS
    clear hrd
    have n1 : ¬ W.heap.size = g := Nat.ne_of_gt (blk_lt hS.out.line)
    have n2 : ¬ W.heap.size = b := Nat.ne_of_gt hS.out.asm.lt
    go_region_held3 (fun w' => w'.cell? ⟨g, 0, none⟩ = some (.string (str L.label)) ∧ w'.cell? ⟨g, 1, none⟩ = some (.string (str L.op)) ∧ w'.cell? ⟨g, 2, none⟩ = some (.slice a L.args.length c) ∧ w'.cell? ⟨b, 4, none⟩ = some (.int .i64 A.sec)) (go_keep)
      ((first | (go_at_call 69; (with_reducible refine (hrd1.out _ (Below.refl _ _).drew).mono ?_); rintro e w2 ⟨hb2, hb3, he⟩; obtain ⟨vi, va, nt, vc, rfl, hO⟩ := thown_ok he; obtain ⟨ai, ci, rfl⟩ := thO_slice hO; replace hO := Hid.intro hO; obtain ⟨d0, d1, d2, d4⟩ := (hS.out.below hb2).cells; have n3 : ¬ w2.heap.size = g := Nat.ne_of_gt (blk_lt (hS.out.below hb2).line); have n4 : ¬ w2.heap.size = b := Nat.ne_of_gt (hS.out.below hb2).asm.lt) | (go_at_call 69; (with_reducible refine (hrd1.out _ (below_alloc _ _).drew).mono ?_); rintro e w2 ⟨hb2, hb3, he⟩; obtain ⟨vi, va, nt, vc, rfl, hO⟩ := thown_ok he; obtain ⟨ai, ci, rfl⟩ := thO_slice hO; replace hO := Hid.intro hO; obtain ⟨d0, d1, d2, d4⟩ := (hS.out.below hb2).cells; have hbx : w2.heap[W.heap.size]? = some (.cells zero6 137 (0, 0)) := (by rw [hb3.block _ (by simp)]; exact heap_alloc_new W _); obtain ⟨x0, x1, x2, x3, x4, x5⟩ := six_read hbx; have xf := fun j => frozen_of_row w2 W.heap.size j _ 137 hbx; replace hbx := Hid.intro hbx)))
    all_goals first
      | (obtain ⟨s1, s2⟩ := six_set hbx.out (.int .i64 x.kind) (.slice ai x.items.length ci) (.string (str x.name)) (.slice va nt vc) (.int .u32 x.e.const) (.int .i64 x.sec)
         have hR6 := Hid.intro (tkr_ahead (x := x) hS.out hlo hb2 hbx.out hO.out s2 s1)
         clear s1 s2 hbx x0 x1 x2 x3 x4 x5 xf
         generalize (((((w2.setCell ⟨W.heap.size, 0, none⟩ (.int .i64 x.kind)).setCell ⟨W.heap.size, 1, none⟩ (.slice ai x.items.length ci)).setCell ⟨W.heap.size, 2, none⟩ (.string (str x.name))).setCell ⟨W.heap.size, 3, none⟩ (.slice va nt vc)).setCell ⟨W.heap.size, 4, none⟩ (.int .u32 x.e.const)).setCell ⟨W.heap.size, 5, none⟩ (.int .i64 x.sec) = W6 at *
         generalize W.heap.size = gt at *)
      | (have hR6 := Hid.intro (tkr_behind (x := x) hS.out hlo hb2 hO.out)
         clear n3 n4
         generalize (w2.alloc (.cells (six x.kind (.slice ai x.items.length ci) x.name (.slice va nt vc) x.e.const x.sec) 137)) = W6 at *
         generalize w2.heap.size = gt at *)
    all_goals clear c0 c1 c2 c4 d0 d1 d2 d4 hb2 hb3 hO hS hrd1 n1 n2
    all_goals obtain ⟨l0, b5, t0, t1, t2, t3, t4, t5⟩ := hR6.out.cells
    all_goals go_wp2_with (first | (go_at_call 70; (with_reducible refine (hR6.out.name_some (s := L.label) (by omega) (by omega) hn1.out).mono ?_); rintro e w7 ⟨rfl, h7⟩; replace h7 := Hid.intro h7; obtain ⟨m0, e5, r0, r1, r2, r3, r4, r5⟩ := h7.out.cells) | (go_at_call 72; (with_reducible refine (h7.out.labelled hmany).mono ?_); rintro e w9 ⟨h9, a9, c9, p9, hp9, rfl, hI9⟩; replace h9 := Hid.intro h9; replace hI9 := Hid.intro hI9; replace hp9 := Hid.intro hp9; have hl9 : Hid (p9.length = (labF L.label ++ x.items).length) := (by show _ = _; rw [← hp9.out, List.length_map]); have hle9 := Hid.intro (lab_len L.label x.items)) | (go_at_call 71; (with_reducible refine (lay_no h9.out.asm a9 c9 p9 hI9.out (by rw [hl9.out]; have := hle9.out; omega) hok.out (by rw [hl9.out]; exact hcnt.out)).mono ?_); rintro e wa ⟨rfl, hba⟩))
    all_goals first | omega | skip
    all_goals go_ret
    all_goals exact ⟨rfl, h9.out.bel.trans hba⟩
  · have hne : ((str L.label).toList == []) = false := by rw [str_toList]; exact beq_false_of_ne h0
    rw [hl.resolve_left h0] at hleg
    clear hl h0
    go_enter Tryz.func35, Tryz.ntmps35
    go_upto_region 6 with (first | (go_at_call 67; (with_reducible refine (hp.out).mono ?_); rintro e w1 ⟨hb1, a, c, vs, j, rfl, hA⟩) | (go_at_call 68; (with_reducible refine (hleg.out _).mono ?_); rintro e w2 ⟨rfl, hb2⟩))
    all_goals first | omega | skip
    have hS := (hnew.out w1 hb1 a c vs j hA).below hb2
    clear hA hnew hp hb1 hb2 hleg
    generalize w2 = W at *
    generalize w1.heap.size = g at *
    obtain ⟨c0, c1, c2, c4⟩ := hS.cells
    have hrd1 := Hid.intro (hrd.out _ _ _ _ hS)
    replace hS := Hid.intro hS
    clear hrd
    have n1 : ¬ W.heap.size = g := Nat.ne_of_gt (blk_lt hS.out.line)
    have n2 : ¬ W.heap.size = b := Nat.ne_of_gt hS.out.asm.lt
    go_region_held3 (fun w' => w'.cell? ⟨g, 0, none⟩ = some (.string (str L.label)) ∧ w'.cell? ⟨g, 1, none⟩ = some (.string (str L.op)) ∧ w'.cell? ⟨g, 2, none⟩ = some (.slice a L.args.length c) ∧ w'.cell? ⟨b, 4, none⟩ = some (.int .i64 A.sec)) (go_keep)
      ((first | (go_at_call 69; (with_reducible refine (hrd1.out _ (Below.refl _ _).drew).mono ?_); rintro e w2 ⟨hb2, hb3, he⟩; obtain ⟨vi, va, nt, vc, rfl, hO⟩ := thown_ok he; obtain ⟨ai, ci, rfl⟩ := thO_slice hO; replace hO := Hid.intro hO; obtain ⟨d0, d1, d2, d4⟩ := (hS.out.below hb2).cells; have n3 : ¬ w2.heap.size = g := Nat.ne_of_gt (blk_lt (hS.out.below hb2).line); have n4 : ¬ w2.heap.size = b := Nat.ne_of_gt (hS.out.below hb2).asm.lt) | (go_at_call 69; (with_reducible refine (hrd1.out _ (below_alloc _ _).drew).mono ?_); rintro e w2 ⟨hb2, hb3, he⟩; obtain ⟨vi, va, nt, vc, rfl, hO⟩ := thown_ok he; obtain ⟨ai, ci, rfl⟩ := thO_slice hO; replace hO := Hid.intro hO; obtain ⟨d0, d1, d2, d4⟩ := (hS.out.below hb2).cells; have hbx : w2.heap[W.heap.size]? = some (.cells zero6 137 (0, 0)) := (by rw [hb3.block _ (by simp)]; exact heap_alloc_new W _); obtain ⟨x0, x1, x2, x3, x4, x5⟩ := six_read hbx; have xf := fun j => frozen_of_row w2 W.heap.size j _ 137 hbx; replace hbx := Hid.intro hbx)))
    all_goals first
      | (obtain ⟨s1, s2⟩ := six_set hbx.out (.int .i64 x.kind) (.slice ai x.items.length ci) (.string (str x.name)) (.slice va nt vc) (.int .u32 x.e.const) (.int .i64 x.sec)
         have hR6 := Hid.intro (tkr_ahead (x := x) hS.out hlo hb2 hbx.out hO.out s2 s1)
         clear s1 s2 hbx x0 x1 x2 x3 x4 x5 xf
         generalize (((((w2.setCell ⟨W.heap.size, 0, none⟩ (.int .i64 x.kind)).setCell ⟨W.heap.size, 1, none⟩ (.slice ai x.items.length ci)).setCell ⟨W.heap.size, 2, none⟩ (.string (str x.name))).setCell ⟨W.heap.size, 3, none⟩ (.slice va nt vc)).setCell ⟨W.heap.size, 4, none⟩ (.int .u32 x.e.const)).setCell ⟨W.heap.size, 5, none⟩ (.int .i64 x.sec) = W6 at *
         generalize W.heap.size = gt at *)
      | (have hR6 := Hid.intro (tkr_behind (x := x) hS.out hlo hb2 hO.out)
         clear n3 n4
         generalize (w2.alloc (.cells (six x.kind (.slice ai x.items.length ci) x.name (.slice va nt vc) x.e.const x.sec) 137)) = W6 at *
         generalize w2.heap.size = gt at *)
    all_goals clear c0 c1 c2 c4 d0 d1 d2 d4 hb2 hb3 hO hS hrd1 n1 n2
    all_goals obtain ⟨l0, b5, t0, t1, t2, t3, t4, t5⟩ := hR6.out.cells
    all_goals go_wp2_with (first | (go_at_call 70; (with_reducible refine (hR6.out.name_some (s := L.label) (by omega) (by omega) hn1.out).mono ?_); rintro e w7 ⟨rfl, h7⟩; replace h7 := Hid.intro h7; obtain ⟨m0, e5, r0, r1, r2, r3, r4, r5⟩ := h7.out.cells) | (go_at_call 72; (with_reducible refine (h7.out.labelled hmany).mono ?_); rintro e w9 ⟨h9, a9, c9, p9, hp9, rfl, hI9⟩; replace h9 := Hid.intro h9; replace hI9 := Hid.intro hI9; replace hp9 := Hid.intro hp9; have hl9 : Hid (p9.length = (labF L.label ++ x.items).length) := (by show _ = _; rw [← hp9.out, List.length_map]); have hle9 := Hid.intro (lab_len L.label x.items)) | (go_at_call 71; (with_reducible refine (lay_no h9.out.asm a9 c9 p9 hI9.out (by rw [hl9.out]; have := hle9.out; omega) hok.out (by rw [hl9.out]; exact hcnt.out)).mono ?_); rintro e wa ⟨rfl, hba⟩))
    all_goals first | omega | skip
    all_goals go_ret
    all_goals exact ⟨rfl, h9.out.bel.trans hba⟩
set_option maxHeartbeats 8000000 in
theorem take_doneN (h : AsmAt lo w b m N A pt pd pe tv dv ev av) (hT : Tab w) (hlo : lo ≤ w.heap.size) (n : Nat) (s : List UInt8) (hs : s.length ≤ 65536) (hL : parseL s = .ok L) (hl : L.label = [] ∨ legB (str L.label) = true) (hN : N ≤ 2000000) (hok : Hid (A.text.length + A.data.length ≤ 8192)) (hfe : A.equs.length ≤ 1100000) (hfa : A.asked.length ≤ 1100000) (x : Thg) (hR : readF L.op L.args A.sec = .ok x) (g1 : List (List UInt8)) (hn1 : Hid (nameU A.given L.label = some g1)) (hk3 : x.kind ≠ 3) (hcnt : Hid (¬ 8192 < A.text.length + A.data.length + (labF L.label ++ x.items).length)) :
    Calls Tryz.prog 35 #[.pointer (some ⟨b, 0, none⟩), .int .i64 n, .string (str s)] w fun e w' => e = .returned .nilIface ∧ BelN lo m w w' ∧ ∃ pt' pd' pe' tv' dv' ev' av', AsmAt lo w' b m (N + 2) (layU A n g1 (labF L.label ++ x.items) x) pt' pd' pe' tv' dv' ev' av' := by
  have e3 : (x.kind == 3) = false := by simpa using hk3
  clear hk3
  have hp := Hid.intro (parse_line (str s) (by rw [show (str s).size = s.length from rfl]; omega) L (by rw [bs_str]; exact hL) w)
  have hll := parseL_label hL
  have hleg := Hid.intro (fun w1 => legal_any (str L.label) (by rw [show (str L.label).size = L.label.length from rfl]; omega) w1)
  obtain ⟨hal, hsm, hfew⟩ := parseL_smallP hs hL
  have hnew := Hid.intro (fun w1 hb a c vs j hA => tks_new (a := a) (c := c) (L := L) (vs := vs) (k := j) h hT (w1 := w1) hb hA hsm)
  have hrd := Hid.intro (fun W a c g (hS : TkS lo w b m N A pt pd pe tv dv ev av L a c g W) => hS.read (by omega) hfew hlo)
  rw [hR] at hrd
  have hfine := readF_fine hfew (by omega) hR
  have hmany := hfine.many
  have hnm : x.name.length ≤ 1100000 := by have := hfine.name; omega
  clear hfine
  clear h hL hT hR hsm hfew
  by_cases h0 : L.label = []
  · have hne : ((str L.label).toList == []) = true := by rw [str_toList, h0]; rfl
    clear hleg hl h0
    go_enter Tryz.func35, Tryz.ntmps35
    go_upto_region 6 with (first | (go_at_call 67; (with_reducible refine (hp.out).mono ?_); rintro e w1 ⟨hb1, a, c, vs, j, rfl, hA⟩))
    all_goals first | omega | skip
    have hS := hnew.out w1 hb1 a c vs j hA
    clear hA hnew hp hb1
    generalize (w1.alloc (.cells #[.string (str L.label), .string (str L.op), .slice a L.args.length c] 133)) = W at *
    generalize w1.heap.size = g at *
    obtain ⟨c0, c1, c2, c4⟩ := hS.cells
    have hrd1 := Hid.intro (hrd.out _ _ _ _ hS)
    replace hS := Hid.intro hS
    clear hrd
    have n1 : ¬ W.heap.size = g := Nat.ne_of_gt (blk_lt hS.out.line)
    have n2 : ¬ W.heap.size = b := Nat.ne_of_gt hS.out.asm.lt
    go_region_held3 (fun w' => w'.cell? ⟨g, 0, none⟩ = some (.string (str L.label)) ∧ w'.cell? ⟨g, 1, none⟩ = some (.string (str L.op)) ∧ w'.cell? ⟨g, 2, none⟩ = some (.slice a L.args.length c) ∧ w'.cell? ⟨b, 4, none⟩ = some (.int .i64 A.sec)) (go_keep)
      ((first | (go_at_call 69; (with_reducible refine (hrd1.out _ (Below.refl _ _).drew).mono ?_); rintro e w2 ⟨hb2, hb3, he⟩; obtain ⟨vi, va, nt, vc, rfl, hO⟩ := thown_ok he; obtain ⟨ai, ci, rfl⟩ := thO_slice hO; replace hO := Hid.intro hO; obtain ⟨d0, d1, d2, d4⟩ := (hS.out.below hb2).cells; have n3 : ¬ w2.heap.size = g := Nat.ne_of_gt (blk_lt (hS.out.below hb2).line); have n4 : ¬ w2.heap.size = b := Nat.ne_of_gt (hS.out.below hb2).asm.lt) | (go_at_call 69; (with_reducible refine (hrd1.out _ (below_alloc _ _).drew).mono ?_); rintro e w2 ⟨hb2, hb3, he⟩; obtain ⟨vi, va, nt, vc, rfl, hO⟩ := thown_ok he; obtain ⟨ai, ci, rfl⟩ := thO_slice hO; replace hO := Hid.intro hO; obtain ⟨d0, d1, d2, d4⟩ := (hS.out.below hb2).cells; have hbx : w2.heap[W.heap.size]? = some (.cells zero6 137 (0, 0)) := (by rw [hb3.block _ (by simp)]; exact heap_alloc_new W _); obtain ⟨x0, x1, x2, x3, x4, x5⟩ := six_read hbx; have xf := fun j => frozen_of_row w2 W.heap.size j _ 137 hbx; replace hbx := Hid.intro hbx)))
    all_goals first
      | (obtain ⟨s1, s2⟩ := six_set hbx.out (.int .i64 x.kind) (.slice ai x.items.length ci) (.string (str x.name)) (.slice va nt vc) (.int .u32 x.e.const) (.int .i64 x.sec)
         have hR6 := Hid.intro (tkr_ahead (x := x) hS.out hlo hb2 hbx.out hO.out s2 s1)
         clear s1 s2 hbx x0 x1 x2 x3 x4 x5 xf
         generalize (((((w2.setCell ⟨W.heap.size, 0, none⟩ (.int .i64 x.kind)).setCell ⟨W.heap.size, 1, none⟩ (.slice ai x.items.length ci)).setCell ⟨W.heap.size, 2, none⟩ (.string (str x.name))).setCell ⟨W.heap.size, 3, none⟩ (.slice va nt vc)).setCell ⟨W.heap.size, 4, none⟩ (.int .u32 x.e.const)).setCell ⟨W.heap.size, 5, none⟩ (.int .i64 x.sec) = W6 at *
         generalize W.heap.size = gt at *)
      | (have hR6 := Hid.intro (tkr_behind (x := x) hS.out hlo hb2 hO.out)
         clear n3 n4
         generalize (w2.alloc (.cells (six x.kind (.slice ai x.items.length ci) x.name (.slice va nt vc) x.e.const x.sec) 137)) = W6 at *
         generalize w2.heap.size = gt at *)
    all_goals clear c0 c1 c2 c4 d0 d1 d2 d4 hb2 hb3 hO hS hrd1 n1 n2
    all_goals obtain ⟨l0, b5, t0, t1, t2, t3, t4, t5⟩ := hR6.out.cells
    all_goals go_wp2_with (first | (go_at_call 70; (with_reducible refine (hR6.out.name_some (s := L.label) (by omega) (by omega) hn1.out).mono ?_); rintro e w7 ⟨rfl, h7⟩; replace h7 := Hid.intro h7; obtain ⟨m0, e5, r0, r1, r2, r3, r4, r5⟩ := h7.out.cells) | (go_at_call 72; (with_reducible refine (h7.out.labelled hmany).mono ?_); rintro e w9 ⟨h9, a9, c9, p9, hp9, rfl, hI9⟩; replace h9 := Hid.intro h9; replace hI9 := Hid.intro hI9; replace hp9 := Hid.intro hp9; have hl9 : Hid (p9.length = (labF L.label ++ x.items).length) := (by show _ = _; rw [← hp9.out, List.length_map]); have hle9 := Hid.intro (lab_len L.label x.items)) | (go_at_call 71; (with_reducible refine (lay_yes h9.out.asm a9 c9 p9 hI9.out (by rw [hl9.out]; have := hle9.out; omega) hok.out (by rw [hl9.out]; exact hcnt.out)).mono ?_); rintro e wa ⟨rfl, hba, hka, pta, pda, tva, dva, hAa⟩; rw [hp9.out] at hAa; obtain ⟨y0, y1, y2, y3, y4, y5⟩ := six_read (h9.out.thing_kept hka); have hya := Hid.intro (h9.out.terms_kept hka); replace hba := Hid.intro hba; have hfe' : (layI { A with given := g1 } (labF L.label ++ x.items)).equs.length ≤ 1100000 := hfe; have hfa' : (layI { A with given := g1 } (labF L.label ++ x.items)).asked.length ≤ 1100000 := hfa; replace hfe' := Hid.intro hfe'; replace hfa' := Hid.intro hfa'; replace hAa := Hid.intro hAa; clear hka) | (go_at_call 73; (with_reducible refine (note_any hAa.out n x ai x.items.length ci va nt vc hya.out hfe'.out hfa'.out).mono ?_); rintro e wb ⟨rfl, hbb, peb, evb, avb, hAb⟩))
    all_goals first | omega | skip
    all_goals go_ret
    all_goals exact ⟨rfl, (h9.out.bel.trans hba.out).trans hbb, _, _, _, _, _, _, _, hAb.more (by omega)⟩
  · have hne : ((str L.label).toList == []) = false := by rw [str_toList]; exact beq_false_of_ne h0
    rw [hl.resolve_left h0] at hleg
    clear hl h0
    go_enter Tryz.func35, Tryz.ntmps35
    go_upto_region 6 with (first | (go_at_call 67; (with_reducible refine (hp.out).mono ?_); rintro e w1 ⟨hb1, a, c, vs, j, rfl, hA⟩) | (go_at_call 68; (with_reducible refine (hleg.out _).mono ?_); rintro e w2 ⟨rfl, hb2⟩))
    all_goals first | omega | skip
    have hS := (hnew.out w1 hb1 a c vs j hA).below hb2
    clear hA hnew hp hb1 hb2 hleg
    generalize w2 = W at *
    generalize w1.heap.size = g at *
    obtain ⟨c0, c1, c2, c4⟩ := hS.cells
    have hrd1 := Hid.intro (hrd.out _ _ _ _ hS)
    replace hS := Hid.intro hS
    clear hrd
    have n1 : ¬ W.heap.size = g := Nat.ne_of_gt (blk_lt hS.out.line)
    have n2 : ¬ W.heap.size = b := Nat.ne_of_gt hS.out.asm.lt
    go_region_held3 (fun w' => w'.cell? ⟨g, 0, none⟩ = some (.string (str L.label)) ∧ w'.cell? ⟨g, 1, none⟩ = some (.string (str L.op)) ∧ w'.cell? ⟨g, 2, none⟩ = some (.slice a L.args.length c) ∧ w'.cell? ⟨b, 4, none⟩ = some (.int .i64 A.sec)) (go_keep)
      ((first | (go_at_call 69; (with_reducible refine (hrd1.out _ (Below.refl _ _).drew).mono ?_); rintro e w2 ⟨hb2, hb3, he⟩; obtain ⟨vi, va, nt, vc, rfl, hO⟩ := thown_ok he; obtain ⟨ai, ci, rfl⟩ := thO_slice hO; replace hO := Hid.intro hO; obtain ⟨d0, d1, d2, d4⟩ := (hS.out.below hb2).cells; have n3 : ¬ w2.heap.size = g := Nat.ne_of_gt (blk_lt (hS.out.below hb2).line); have n4 : ¬ w2.heap.size = b := Nat.ne_of_gt (hS.out.below hb2).asm.lt) | (go_at_call 69; (with_reducible refine (hrd1.out _ (below_alloc _ _).drew).mono ?_); rintro e w2 ⟨hb2, hb3, he⟩; obtain ⟨vi, va, nt, vc, rfl, hO⟩ := thown_ok he; obtain ⟨ai, ci, rfl⟩ := thO_slice hO; replace hO := Hid.intro hO; obtain ⟨d0, d1, d2, d4⟩ := (hS.out.below hb2).cells; have hbx : w2.heap[W.heap.size]? = some (.cells zero6 137 (0, 0)) := (by rw [hb3.block _ (by simp)]; exact heap_alloc_new W _); obtain ⟨x0, x1, x2, x3, x4, x5⟩ := six_read hbx; have xf := fun j => frozen_of_row w2 W.heap.size j _ 137 hbx; replace hbx := Hid.intro hbx)))
    all_goals first
      | (obtain ⟨s1, s2⟩ := six_set hbx.out (.int .i64 x.kind) (.slice ai x.items.length ci) (.string (str x.name)) (.slice va nt vc) (.int .u32 x.e.const) (.int .i64 x.sec)
         have hR6 := Hid.intro (tkr_ahead (x := x) hS.out hlo hb2 hbx.out hO.out s2 s1)
         clear s1 s2 hbx x0 x1 x2 x3 x4 x5 xf
         generalize (((((w2.setCell ⟨W.heap.size, 0, none⟩ (.int .i64 x.kind)).setCell ⟨W.heap.size, 1, none⟩ (.slice ai x.items.length ci)).setCell ⟨W.heap.size, 2, none⟩ (.string (str x.name))).setCell ⟨W.heap.size, 3, none⟩ (.slice va nt vc)).setCell ⟨W.heap.size, 4, none⟩ (.int .u32 x.e.const)).setCell ⟨W.heap.size, 5, none⟩ (.int .i64 x.sec) = W6 at *
         generalize W.heap.size = gt at *)
      | (have hR6 := Hid.intro (tkr_behind (x := x) hS.out hlo hb2 hO.out)
         clear n3 n4
         generalize (w2.alloc (.cells (six x.kind (.slice ai x.items.length ci) x.name (.slice va nt vc) x.e.const x.sec) 137)) = W6 at *
         generalize w2.heap.size = gt at *)
    all_goals clear c0 c1 c2 c4 d0 d1 d2 d4 hb2 hb3 hO hS hrd1 n1 n2
    all_goals obtain ⟨l0, b5, t0, t1, t2, t3, t4, t5⟩ := hR6.out.cells
    all_goals go_wp2_with (first | (go_at_call 70; (with_reducible refine (hR6.out.name_some (s := L.label) (by omega) (by omega) hn1.out).mono ?_); rintro e w7 ⟨rfl, h7⟩; replace h7 := Hid.intro h7; obtain ⟨m0, e5, r0, r1, r2, r3, r4, r5⟩ := h7.out.cells) | (go_at_call 72; (with_reducible refine (h7.out.labelled hmany).mono ?_); rintro e w9 ⟨h9, a9, c9, p9, hp9, rfl, hI9⟩; replace h9 := Hid.intro h9; replace hI9 := Hid.intro hI9; replace hp9 := Hid.intro hp9; have hl9 : Hid (p9.length = (labF L.label ++ x.items).length) := (by show _ = _; rw [← hp9.out, List.length_map]); have hle9 := Hid.intro (lab_len L.label x.items)) | (go_at_call 71; (with_reducible refine (lay_yes h9.out.asm a9 c9 p9 hI9.out (by rw [hl9.out]; have := hle9.out; omega) hok.out (by rw [hl9.out]; exact hcnt.out)).mono ?_); rintro e wa ⟨rfl, hba, hka, pta, pda, tva, dva, hAa⟩; rw [hp9.out] at hAa; obtain ⟨y0, y1, y2, y3, y4, y5⟩ := six_read (h9.out.thing_kept hka); have hya := Hid.intro (h9.out.terms_kept hka); replace hba := Hid.intro hba; have hfe' : (layI { A with given := g1 } (labF L.label ++ x.items)).equs.length ≤ 1100000 := hfe; have hfa' : (layI { A with given := g1 } (labF L.label ++ x.items)).asked.length ≤ 1100000 := hfa; replace hfe' := Hid.intro hfe'; replace hfa' := Hid.intro hfa'; replace hAa := Hid.intro hAa; clear hka) | (go_at_call 73; (with_reducible refine (note_any hAa.out n x ai x.items.length ci va nt vc hya.out hfe'.out hfa'.out).mono ?_); rintro e wb ⟨rfl, hbb, peb, evb, avb, hAb⟩))
    all_goals first | omega | skip
    all_goals go_ret
    all_goals exact ⟨rfl, (h9.out.bel.trans hba.out).trans hbb, _, _, _, _, _, _, _, hAb.more (by omega)⟩
set_option maxHeartbeats 8000000 in
theorem take_manyE (h : AsmAt lo w b m N A pt pd pe tv dv ev av) (hT : Tab w) (hlo : lo ≤ w.heap.size) (n : Nat) (s : List UInt8) (hs : s.length ≤ 65536) (hL : parseL s = .ok L) (hl : L.label = [] ∨ legB (str L.label) = true) (hN : N ≤ 2000000) (hok : Hid (A.text.length + A.data.length ≤ 8192)) (hfe : A.equs.length ≤ 1100000) (hfa : A.asked.length ≤ 1100000) (x : Thg) (hR : readF L.op L.args A.sec = .ok x) (g1 : List (List UInt8)) (hn1 : Hid (nameU A.given L.label = some g1)) (hk3 : x.kind = 3) (g2 : List (List UInt8)) (hn2 : Hid (nameU g1 x.name = some g2)) (hcnt : Hid (8192 < A.text.length + A.data.length + (labF L.label ++ x.items).length)) :
    Calls Tryz.prog 35 #[.pointer (some ⟨b, 0, none⟩), .int .i64 n, .string (str s)] w fun e w' => e = .returned (.iface 36 (.int .i64 4)) ∧ BelN lo m w w' := by
  have e3 : (x.kind == 3) = true := by simpa using hk3
  clear hk3
  have hp := Hid.intro (parse_line (str s) (by rw [show (str s).size = s.length from rfl]; omega) L (by rw [bs_str]; exact hL) w)
  have hll := parseL_label hL
  have hleg := Hid.intro (fun w1 => legal_any (str L.label) (by rw [show (str L.label).size = L.label.length from rfl]; omega) w1)
  obtain ⟨hal, hsm, hfew⟩ := parseL_smallP hs hL
  have hnew := Hid.intro (fun w1 hb a c vs j hA => tks_new (a := a) (c := c) (L := L) (vs := vs) (k := j) h hT (w1 := w1) hb hA hsm)
  have hrd := Hid.intro (fun W a c g (hS : TkS lo w b m N A pt pd pe tv dv ev av L a c g W) => hS.read (by omega) hfew hlo)
  rw [hR] at hrd
  have hfine := readF_fine hfew (by omega) hR
  have hmany := hfine.many
  have hnm : x.name.length ≤ 1100000 := by have := hfine.name; omega
  clear hfine
  clear h hL hT hR hsm hfew
  by_cases h0 : L.label = []
  · have hne : ((str L.label).toList == []) = true := by rw [str_toList, h0]; rfl
    clear hleg hl h0
    go_enter Tryz.func35, Tryz.ntmps35
    go_upto_region 6 with (first | (go_at_call 67; (with_reducible refine (hp.out).mono ?_); rintro e w1 ⟨hb1, a, c, vs, j, rfl, hA⟩))
    all_goals first | omega | skip
    have hS := hnew.out w1 hb1 a c vs j hA
    clear hA hnew hp hb1
    generalize (w1.alloc (.cells #[.string (str L.label), .string (str L.op), .slice a L.args.length c] 133)) = W at *
    generalize w1.heap.size = g at *
    obtain ⟨c0, c1, c2, c4⟩ := hS.cells
    have hrd1 := Hid.intro (hrd.out _ _ _ _ hS)
    replace hS := Hid.intro hS
    clear hrd
    have n1 : ¬ W.heap.size = g := Nat.ne_of_gt (blk_lt hS.out.line)
    have n2 : ¬ W.heap.size = b := Nat.ne_of_gt hS.out.asm.lt
    go_region_held3 (fun w' => w'.cell? ⟨g, 0, none⟩ = some (.string (str L.label)) ∧ w'.cell? ⟨g, 1, none⟩ = some (.string (str L.op)) ∧ w'.cell? ⟨g, 2, none⟩ = some (.slice a L.args.length c) ∧ w'.cell? ⟨b, 4, none⟩ = some (.int .i64 A.sec)) (go_keep)
      ((first | (go_at_call 69; (with_reducible refine (hrd1.out _ (Below.refl _ _).drew).mono ?_); rintro e w2 ⟨hb2, hb3, he⟩; obtain ⟨vi, va, nt, vc, rfl, hO⟩ := thown_ok he; obtain ⟨ai, ci, rfl⟩ := thO_slice hO; replace hO := Hid.intro hO; obtain ⟨d0, d1, d2, d4⟩ := (hS.out.below hb2).cells; have n3 : ¬ w2.heap.size = g := Nat.ne_of_gt (blk_lt (hS.out.below hb2).line); have n4 : ¬ w2.heap.size = b := Nat.ne_of_gt (hS.out.below hb2).asm.lt) | (go_at_call 69; (with_reducible refine (hrd1.out _ (below_alloc _ _).drew).mono ?_); rintro e w2 ⟨hb2, hb3, he⟩; obtain ⟨vi, va, nt, vc, rfl, hO⟩ := thown_ok he; obtain ⟨ai, ci, rfl⟩ := thO_slice hO; replace hO := Hid.intro hO; obtain ⟨d0, d1, d2, d4⟩ := (hS.out.below hb2).cells; have hbx : w2.heap[W.heap.size]? = some (.cells zero6 137 (0, 0)) := (by rw [hb3.block _ (by simp)]; exact heap_alloc_new W _); obtain ⟨x0, x1, x2, x3, x4, x5⟩ := six_read hbx; have xf := fun j => frozen_of_row w2 W.heap.size j _ 137 hbx; replace hbx := Hid.intro hbx)))
    all_goals first
      | (obtain ⟨s1, s2⟩ := six_set hbx.out (.int .i64 x.kind) (.slice ai x.items.length ci) (.string (str x.name)) (.slice va nt vc) (.int .u32 x.e.const) (.int .i64 x.sec)
         have hR6 := Hid.intro (tkr_ahead (x := x) hS.out hlo hb2 hbx.out hO.out s2 s1)
         clear s1 s2 hbx x0 x1 x2 x3 x4 x5 xf
         generalize (((((w2.setCell ⟨W.heap.size, 0, none⟩ (.int .i64 x.kind)).setCell ⟨W.heap.size, 1, none⟩ (.slice ai x.items.length ci)).setCell ⟨W.heap.size, 2, none⟩ (.string (str x.name))).setCell ⟨W.heap.size, 3, none⟩ (.slice va nt vc)).setCell ⟨W.heap.size, 4, none⟩ (.int .u32 x.e.const)).setCell ⟨W.heap.size, 5, none⟩ (.int .i64 x.sec) = W6 at *
         generalize W.heap.size = gt at *)
      | (have hR6 := Hid.intro (tkr_behind (x := x) hS.out hlo hb2 hO.out)
         clear n3 n4
         generalize (w2.alloc (.cells (six x.kind (.slice ai x.items.length ci) x.name (.slice va nt vc) x.e.const x.sec) 137)) = W6 at *
         generalize w2.heap.size = gt at *)
    all_goals clear c0 c1 c2 c4 d0 d1 d2 d4 hb2 hb3 hO hS hrd1 n1 n2
    all_goals obtain ⟨l0, b5, t0, t1, t2, t3, t4, t5⟩ := hR6.out.cells
    all_goals go_wp2_with (first | (go_at_call 70; (with_reducible refine (hR6.out.name_some (s := L.label) (by omega) (by omega) hn1.out).mono ?_); rintro e w7 ⟨rfl, h7⟩; replace h7 := Hid.intro h7; obtain ⟨m0, e5, r0, r1, r2, r3, r4, r5⟩ := h7.out.cells) | (go_at_call 70; (with_reducible refine (h7.out.name_some (s := x.name) hnm (by omega) hn2.out).mono ?_); rintro e w8 ⟨rfl, h8⟩; replace h8 := Hid.intro h8; obtain ⟨q0, f5, u0, u1, u2, u3, u4, u5⟩ := h8.out.cells) | (go_at_call 72; (with_reducible refine (h8.out.labelled hmany).mono ?_); rintro e w9 ⟨h9, a9, c9, p9, hp9, rfl, hI9⟩; replace h9 := Hid.intro h9; replace hI9 := Hid.intro hI9; replace hp9 := Hid.intro hp9; have hl9 : Hid (p9.length = (labF L.label ++ x.items).length) := (by show _ = _; rw [← hp9.out, List.length_map]); have hle9 := Hid.intro (lab_len L.label x.items)) | (go_at_call 71; (with_reducible refine (lay_no h9.out.asm a9 c9 p9 hI9.out (by rw [hl9.out]; have := hle9.out; omega) hok.out (by rw [hl9.out]; exact hcnt.out)).mono ?_); rintro e wa ⟨rfl, hba⟩))
    all_goals first | omega | skip
    all_goals go_ret
    all_goals exact ⟨rfl, h9.out.bel.trans hba⟩
  · have hne : ((str L.label).toList == []) = false := by rw [str_toList]; exact beq_false_of_ne h0
    rw [hl.resolve_left h0] at hleg
    clear hl h0
    go_enter Tryz.func35, Tryz.ntmps35
    go_upto_region 6 with (first | (go_at_call 67; (with_reducible refine (hp.out).mono ?_); rintro e w1 ⟨hb1, a, c, vs, j, rfl, hA⟩) | (go_at_call 68; (with_reducible refine (hleg.out _).mono ?_); rintro e w2 ⟨rfl, hb2⟩))
    all_goals first | omega | skip
    have hS := (hnew.out w1 hb1 a c vs j hA).below hb2
    clear hA hnew hp hb1 hb2 hleg
    generalize w2 = W at *
    generalize w1.heap.size = g at *
    obtain ⟨c0, c1, c2, c4⟩ := hS.cells
    have hrd1 := Hid.intro (hrd.out _ _ _ _ hS)
    replace hS := Hid.intro hS
    clear hrd
    have n1 : ¬ W.heap.size = g := Nat.ne_of_gt (blk_lt hS.out.line)
    have n2 : ¬ W.heap.size = b := Nat.ne_of_gt hS.out.asm.lt
    go_region_held3 (fun w' => w'.cell? ⟨g, 0, none⟩ = some (.string (str L.label)) ∧ w'.cell? ⟨g, 1, none⟩ = some (.string (str L.op)) ∧ w'.cell? ⟨g, 2, none⟩ = some (.slice a L.args.length c) ∧ w'.cell? ⟨b, 4, none⟩ = some (.int .i64 A.sec)) (go_keep)
      ((first | (go_at_call 69; (with_reducible refine (hrd1.out _ (Below.refl _ _).drew).mono ?_); rintro e w2 ⟨hb2, hb3, he⟩; obtain ⟨vi, va, nt, vc, rfl, hO⟩ := thown_ok he; obtain ⟨ai, ci, rfl⟩ := thO_slice hO; replace hO := Hid.intro hO; obtain ⟨d0, d1, d2, d4⟩ := (hS.out.below hb2).cells; have n3 : ¬ w2.heap.size = g := Nat.ne_of_gt (blk_lt (hS.out.below hb2).line); have n4 : ¬ w2.heap.size = b := Nat.ne_of_gt (hS.out.below hb2).asm.lt) | (go_at_call 69; (with_reducible refine (hrd1.out _ (below_alloc _ _).drew).mono ?_); rintro e w2 ⟨hb2, hb3, he⟩; obtain ⟨vi, va, nt, vc, rfl, hO⟩ := thown_ok he; obtain ⟨ai, ci, rfl⟩ := thO_slice hO; replace hO := Hid.intro hO; obtain ⟨d0, d1, d2, d4⟩ := (hS.out.below hb2).cells; have hbx : w2.heap[W.heap.size]? = some (.cells zero6 137 (0, 0)) := (by rw [hb3.block _ (by simp)]; exact heap_alloc_new W _); obtain ⟨x0, x1, x2, x3, x4, x5⟩ := six_read hbx; have xf := fun j => frozen_of_row w2 W.heap.size j _ 137 hbx; replace hbx := Hid.intro hbx)))
    all_goals first
      | (obtain ⟨s1, s2⟩ := six_set hbx.out (.int .i64 x.kind) (.slice ai x.items.length ci) (.string (str x.name)) (.slice va nt vc) (.int .u32 x.e.const) (.int .i64 x.sec)
         have hR6 := Hid.intro (tkr_ahead (x := x) hS.out hlo hb2 hbx.out hO.out s2 s1)
         clear s1 s2 hbx x0 x1 x2 x3 x4 x5 xf
         generalize (((((w2.setCell ⟨W.heap.size, 0, none⟩ (.int .i64 x.kind)).setCell ⟨W.heap.size, 1, none⟩ (.slice ai x.items.length ci)).setCell ⟨W.heap.size, 2, none⟩ (.string (str x.name))).setCell ⟨W.heap.size, 3, none⟩ (.slice va nt vc)).setCell ⟨W.heap.size, 4, none⟩ (.int .u32 x.e.const)).setCell ⟨W.heap.size, 5, none⟩ (.int .i64 x.sec) = W6 at *
         generalize W.heap.size = gt at *)
      | (have hR6 := Hid.intro (tkr_behind (x := x) hS.out hlo hb2 hO.out)
         clear n3 n4
         generalize (w2.alloc (.cells (six x.kind (.slice ai x.items.length ci) x.name (.slice va nt vc) x.e.const x.sec) 137)) = W6 at *
         generalize w2.heap.size = gt at *)
    all_goals clear c0 c1 c2 c4 d0 d1 d2 d4 hb2 hb3 hO hS hrd1 n1 n2
    all_goals obtain ⟨l0, b5, t0, t1, t2, t3, t4, t5⟩ := hR6.out.cells
    all_goals go_wp2_with (first | (go_at_call 70; (with_reducible refine (hR6.out.name_some (s := L.label) (by omega) (by omega) hn1.out).mono ?_); rintro e w7 ⟨rfl, h7⟩; replace h7 := Hid.intro h7; obtain ⟨m0, e5, r0, r1, r2, r3, r4, r5⟩ := h7.out.cells) | (go_at_call 70; (with_reducible refine (h7.out.name_some (s := x.name) hnm (by omega) hn2.out).mono ?_); rintro e w8 ⟨rfl, h8⟩; replace h8 := Hid.intro h8; obtain ⟨q0, f5, u0, u1, u2, u3, u4, u5⟩ := h8.out.cells) | (go_at_call 72; (with_reducible refine (h8.out.labelled hmany).mono ?_); rintro e w9 ⟨h9, a9, c9, p9, hp9, rfl, hI9⟩; replace h9 := Hid.intro h9; replace hI9 := Hid.intro hI9; replace hp9 := Hid.intro hp9; have hl9 : Hid (p9.length = (labF L.label ++ x.items).length) := (by show _ = _; rw [← hp9.out, List.length_map]); have hle9 := Hid.intro (lab_len L.label x.items)) | (go_at_call 71; (with_reducible refine (lay_no h9.out.asm a9 c9 p9 hI9.out (by rw [hl9.out]; have := hle9.out; omega) hok.out (by rw [hl9.out]; exact hcnt.out)).mono ?_); rintro e wa ⟨rfl, hba⟩))
    all_goals first | omega | skip
    all_goals go_ret
    all_goals exact ⟨rfl, h9.out.bel.trans hba⟩
set_option maxHeartbeats 8000000 in
theorem take_doneE (h : AsmAt lo w b m N A pt pd pe tv dv ev av) (hT : Tab w) (hlo : lo ≤ w.heap.size) (n : Nat) (s : List UInt8) (hs : s.length ≤ 65536) (hL : parseL s = .ok L) (hl : L.label = [] ∨ legB (str L.label) = true) (hN : N ≤ 2000000) (hok : Hid (A.text.length + A.data.length ≤ 8192)) (hfe : A.equs.length ≤ 1100000) (hfa : A.asked.length ≤ 1100000) (x : Thg) (hR : readF L.op L.args A.sec = .ok x) (g1 : List (List UInt8)) (hn1 : Hid (nameU A.given L.label = some g1)) (hk3 : x.kind = 3) (g2 : List (List UInt8)) (hn2 : Hid (nameU g1 x.name = some g2)) (hcnt : Hid (¬ 8192 < A.text.length + A.data.length + (labF L.label ++ x.items).length)) :
    Calls Tryz.prog 35 #[.pointer (some ⟨b, 0, none⟩), .int .i64 n, .string (str s)] w fun e w' => e = .returned .nilIface ∧ BelN lo m w w' ∧ ∃ pt' pd' pe' tv' dv' ev' av', AsmAt lo w' b m (N + 2) (layU A n g2 (labF L.label ++ x.items) x) pt' pd' pe' tv' dv' ev' av' := by
  have e3 : (x.kind == 3) = true := by simpa using hk3
  clear hk3
  have hp := Hid.intro (parse_line (str s) (by rw [show (str s).size = s.length from rfl]; omega) L (by rw [bs_str]; exact hL) w)
  have hll := parseL_label hL
  have hleg := Hid.intro (fun w1 => legal_any (str L.label) (by rw [show (str L.label).size = L.label.length from rfl]; omega) w1)
  obtain ⟨hal, hsm, hfew⟩ := parseL_smallP hs hL
  have hnew := Hid.intro (fun w1 hb a c vs j hA => tks_new (a := a) (c := c) (L := L) (vs := vs) (k := j) h hT (w1 := w1) hb hA hsm)
  have hrd := Hid.intro (fun W a c g (hS : TkS lo w b m N A pt pd pe tv dv ev av L a c g W) => hS.read (by omega) hfew hlo)
  rw [hR] at hrd
  have hfine := readF_fine hfew (by omega) hR
  have hmany := hfine.many
  have hnm : x.name.length ≤ 1100000 := by have := hfine.name; omega
  clear hfine
  clear h hL hT hR hsm hfew
  by_cases h0 : L.label = []
  · have hne : ((str L.label).toList == []) = true := by rw [str_toList, h0]; rfl
    clear hleg hl h0
    go_enter Tryz.func35, Tryz.ntmps35
    go_upto_region 6 with (first | (go_at_call 67; (with_reducible refine (hp.out).mono ?_); rintro e w1 ⟨hb1, a, c, vs, j, rfl, hA⟩))
    all_goals first | omega | skip
    have hS := hnew.out w1 hb1 a c vs j hA
    clear hA hnew hp hb1
    generalize (w1.alloc (.cells #[.string (str L.label), .string (str L.op), .slice a L.args.length c] 133)) = W at *
    generalize w1.heap.size = g at *
    obtain ⟨c0, c1, c2, c4⟩ := hS.cells
    have hrd1 := Hid.intro (hrd.out _ _ _ _ hS)
    replace hS := Hid.intro hS
    clear hrd
    have n1 : ¬ W.heap.size = g := Nat.ne_of_gt (blk_lt hS.out.line)
    have n2 : ¬ W.heap.size = b := Nat.ne_of_gt hS.out.asm.lt
    go_region_held3 (fun w' => w'.cell? ⟨g, 0, none⟩ = some (.string (str L.label)) ∧ w'.cell? ⟨g, 1, none⟩ = some (.string (str L.op)) ∧ w'.cell? ⟨g, 2, none⟩ = some (.slice a L.args.length c) ∧ w'.cell? ⟨b, 4, none⟩ = some (.int .i64 A.sec)) (go_keep)
      ((first | (go_at_call 69; (with_reducible refine (hrd1.out _ (Below.refl _ _).drew).mono ?_); rintro e w2 ⟨hb2, hb3, he⟩; obtain ⟨vi, va, nt, vc, rfl, hO⟩ := thown_ok he; obtain ⟨ai, ci, rfl⟩ := thO_slice hO; replace hO := Hid.intro hO; obtain ⟨d0, d1, d2, d4⟩ := (hS.out.below hb2).cells; have n3 : ¬ w2.heap.size = g := Nat.ne_of_gt (blk_lt (hS.out.below hb2).line); have n4 : ¬ w2.heap.size = b := Nat.ne_of_gt (hS.out.below hb2).asm.lt) | (go_at_call 69; (with_reducible refine (hrd1.out _ (below_alloc _ _).drew).mono ?_); rintro e w2 ⟨hb2, hb3, he⟩; obtain ⟨vi, va, nt, vc, rfl, hO⟩ := thown_ok he; obtain ⟨ai, ci, rfl⟩ := thO_slice hO; replace hO := Hid.intro hO; obtain ⟨d0, d1, d2, d4⟩ := (hS.out.below hb2).cells; have hbx : w2.heap[W.heap.size]? = some (.cells zero6 137 (0, 0)) := (by rw [hb3.block _ (by simp)]; exact heap_alloc_new W _); obtain ⟨x0, x1, x2, x3, x4, x5⟩ := six_read hbx; have xf := fun j => frozen_of_row w2 W.heap.size j _ 137 hbx; replace hbx := Hid.intro hbx)))
    all_goals first
      | (obtain ⟨s1, s2⟩ := six_set hbx.out (.int .i64 x.kind) (.slice ai x.items.length ci) (.string (str x.name)) (.slice va nt vc) (.int .u32 x.e.const) (.int .i64 x.sec)
         have hR6 := Hid.intro (tkr_ahead (x := x) hS.out hlo hb2 hbx.out hO.out s2 s1)
         clear s1 s2 hbx x0 x1 x2 x3 x4 x5 xf
         generalize (((((w2.setCell ⟨W.heap.size, 0, none⟩ (.int .i64 x.kind)).setCell ⟨W.heap.size, 1, none⟩ (.slice ai x.items.length ci)).setCell ⟨W.heap.size, 2, none⟩ (.string (str x.name))).setCell ⟨W.heap.size, 3, none⟩ (.slice va nt vc)).setCell ⟨W.heap.size, 4, none⟩ (.int .u32 x.e.const)).setCell ⟨W.heap.size, 5, none⟩ (.int .i64 x.sec) = W6 at *
         generalize W.heap.size = gt at *)
      | (have hR6 := Hid.intro (tkr_behind (x := x) hS.out hlo hb2 hO.out)
         clear n3 n4
         generalize (w2.alloc (.cells (six x.kind (.slice ai x.items.length ci) x.name (.slice va nt vc) x.e.const x.sec) 137)) = W6 at *
         generalize w2.heap.size = gt at *)
    all_goals clear c0 c1 c2 c4 d0 d1 d2 d4 hb2 hb3 hO hS hrd1 n1 n2
    all_goals obtain ⟨l0, b5, t0, t1, t2, t3, t4, t5⟩ := hR6.out.cells
    all_goals go_wp2_with (first | (go_at_call 70; (with_reducible refine (hR6.out.name_some (s := L.label) (by omega) (by omega) hn1.out).mono ?_); rintro e w7 ⟨rfl, h7⟩; replace h7 := Hid.intro h7; obtain ⟨m0, e5, r0, r1, r2, r3, r4, r5⟩ := h7.out.cells) | (go_at_call 70; (with_reducible refine (h7.out.name_some (s := x.name) hnm (by omega) hn2.out).mono ?_); rintro e w8 ⟨rfl, h8⟩; replace h8 := Hid.intro h8; obtain ⟨q0, f5, u0, u1, u2, u3, u4, u5⟩ := h8.out.cells) | (go_at_call 72; (with_reducible refine (h8.out.labelled hmany).mono ?_); rintro e w9 ⟨h9, a9, c9, p9, hp9, rfl, hI9⟩; replace h9 := Hid.intro h9; replace hI9 := Hid.intro hI9; replace hp9 := Hid.intro hp9; have hl9 : Hid (p9.length = (labF L.label ++ x.items).length) := (by show _ = _; rw [← hp9.out, List.length_map]); have hle9 := Hid.intro (lab_len L.label x.items)) | (go_at_call 71; (with_reducible refine (lay_yes h9.out.asm a9 c9 p9 hI9.out (by rw [hl9.out]; have := hle9.out; omega) hok.out (by rw [hl9.out]; exact hcnt.out)).mono ?_); rintro e wa ⟨rfl, hba, hka, pta, pda, tva, dva, hAa⟩; rw [hp9.out] at hAa; obtain ⟨y0, y1, y2, y3, y4, y5⟩ := six_read (h9.out.thing_kept hka); have hya := Hid.intro (h9.out.terms_kept hka); replace hba := Hid.intro hba; have hfe' : (layI { A with given := g2 } (labF L.label ++ x.items)).equs.length ≤ 1100000 := hfe; have hfa' : (layI { A with given := g2 } (labF L.label ++ x.items)).asked.length ≤ 1100000 := hfa; replace hfe' := Hid.intro hfe'; replace hfa' := Hid.intro hfa'; replace hAa := Hid.intro hAa; clear hka) | (go_at_call 73; (with_reducible refine (note_any hAa.out n x ai x.items.length ci va nt vc hya.out hfe'.out hfa'.out).mono ?_); rintro e wb ⟨rfl, hbb, peb, evb, avb, hAb⟩))
    all_goals first | omega | skip
    all_goals go_ret
    all_goals exact ⟨rfl, (h9.out.bel.trans hba.out).trans hbb, _, _, _, _, _, _, _, hAb.more (by omega)⟩
  · have hne : ((str L.label).toList == []) = false := by rw [str_toList]; exact beq_false_of_ne h0
    rw [hl.resolve_left h0] at hleg
    clear hl h0
    go_enter Tryz.func35, Tryz.ntmps35
    go_upto_region 6 with (first | (go_at_call 67; (with_reducible refine (hp.out).mono ?_); rintro e w1 ⟨hb1, a, c, vs, j, rfl, hA⟩) | (go_at_call 68; (with_reducible refine (hleg.out _).mono ?_); rintro e w2 ⟨rfl, hb2⟩))
    all_goals first | omega | skip
    have hS := (hnew.out w1 hb1 a c vs j hA).below hb2
    clear hA hnew hp hb1 hb2 hleg
    generalize w2 = W at *
    generalize w1.heap.size = g at *
    obtain ⟨c0, c1, c2, c4⟩ := hS.cells
    have hrd1 := Hid.intro (hrd.out _ _ _ _ hS)
    replace hS := Hid.intro hS
    clear hrd
    have n1 : ¬ W.heap.size = g := Nat.ne_of_gt (blk_lt hS.out.line)
    have n2 : ¬ W.heap.size = b := Nat.ne_of_gt hS.out.asm.lt
    go_region_held3 (fun w' => w'.cell? ⟨g, 0, none⟩ = some (.string (str L.label)) ∧ w'.cell? ⟨g, 1, none⟩ = some (.string (str L.op)) ∧ w'.cell? ⟨g, 2, none⟩ = some (.slice a L.args.length c) ∧ w'.cell? ⟨b, 4, none⟩ = some (.int .i64 A.sec)) (go_keep)
      ((first | (go_at_call 69; (with_reducible refine (hrd1.out _ (Below.refl _ _).drew).mono ?_); rintro e w2 ⟨hb2, hb3, he⟩; obtain ⟨vi, va, nt, vc, rfl, hO⟩ := thown_ok he; obtain ⟨ai, ci, rfl⟩ := thO_slice hO; replace hO := Hid.intro hO; obtain ⟨d0, d1, d2, d4⟩ := (hS.out.below hb2).cells; have n3 : ¬ w2.heap.size = g := Nat.ne_of_gt (blk_lt (hS.out.below hb2).line); have n4 : ¬ w2.heap.size = b := Nat.ne_of_gt (hS.out.below hb2).asm.lt) | (go_at_call 69; (with_reducible refine (hrd1.out _ (below_alloc _ _).drew).mono ?_); rintro e w2 ⟨hb2, hb3, he⟩; obtain ⟨vi, va, nt, vc, rfl, hO⟩ := thown_ok he; obtain ⟨ai, ci, rfl⟩ := thO_slice hO; replace hO := Hid.intro hO; obtain ⟨d0, d1, d2, d4⟩ := (hS.out.below hb2).cells; have hbx : w2.heap[W.heap.size]? = some (.cells zero6 137 (0, 0)) := (by rw [hb3.block _ (by simp)]; exact heap_alloc_new W _); obtain ⟨x0, x1, x2, x3, x4, x5⟩ := six_read hbx; have xf := fun j => frozen_of_row w2 W.heap.size j _ 137 hbx; replace hbx := Hid.intro hbx)))
    all_goals first
      | (obtain ⟨s1, s2⟩ := six_set hbx.out (.int .i64 x.kind) (.slice ai x.items.length ci) (.string (str x.name)) (.slice va nt vc) (.int .u32 x.e.const) (.int .i64 x.sec)
         have hR6 := Hid.intro (tkr_ahead (x := x) hS.out hlo hb2 hbx.out hO.out s2 s1)
         clear s1 s2 hbx x0 x1 x2 x3 x4 x5 xf
         generalize (((((w2.setCell ⟨W.heap.size, 0, none⟩ (.int .i64 x.kind)).setCell ⟨W.heap.size, 1, none⟩ (.slice ai x.items.length ci)).setCell ⟨W.heap.size, 2, none⟩ (.string (str x.name))).setCell ⟨W.heap.size, 3, none⟩ (.slice va nt vc)).setCell ⟨W.heap.size, 4, none⟩ (.int .u32 x.e.const)).setCell ⟨W.heap.size, 5, none⟩ (.int .i64 x.sec) = W6 at *
         generalize W.heap.size = gt at *)
      | (have hR6 := Hid.intro (tkr_behind (x := x) hS.out hlo hb2 hO.out)
         clear n3 n4
         generalize (w2.alloc (.cells (six x.kind (.slice ai x.items.length ci) x.name (.slice va nt vc) x.e.const x.sec) 137)) = W6 at *
         generalize w2.heap.size = gt at *)
    all_goals clear c0 c1 c2 c4 d0 d1 d2 d4 hb2 hb3 hO hS hrd1 n1 n2
    all_goals obtain ⟨l0, b5, t0, t1, t2, t3, t4, t5⟩ := hR6.out.cells
    all_goals go_wp2_with (first | (go_at_call 70; (with_reducible refine (hR6.out.name_some (s := L.label) (by omega) (by omega) hn1.out).mono ?_); rintro e w7 ⟨rfl, h7⟩; replace h7 := Hid.intro h7; obtain ⟨m0, e5, r0, r1, r2, r3, r4, r5⟩ := h7.out.cells) | (go_at_call 70; (with_reducible refine (h7.out.name_some (s := x.name) hnm (by omega) hn2.out).mono ?_); rintro e w8 ⟨rfl, h8⟩; replace h8 := Hid.intro h8; obtain ⟨q0, f5, u0, u1, u2, u3, u4, u5⟩ := h8.out.cells) | (go_at_call 72; (with_reducible refine (h8.out.labelled hmany).mono ?_); rintro e w9 ⟨h9, a9, c9, p9, hp9, rfl, hI9⟩; replace h9 := Hid.intro h9; replace hI9 := Hid.intro hI9; replace hp9 := Hid.intro hp9; have hl9 : Hid (p9.length = (labF L.label ++ x.items).length) := (by show _ = _; rw [← hp9.out, List.length_map]); have hle9 := Hid.intro (lab_len L.label x.items)) | (go_at_call 71; (with_reducible refine (lay_yes h9.out.asm a9 c9 p9 hI9.out (by rw [hl9.out]; have := hle9.out; omega) hok.out (by rw [hl9.out]; exact hcnt.out)).mono ?_); rintro e wa ⟨rfl, hba, hka, pta, pda, tva, dva, hAa⟩; rw [hp9.out] at hAa; obtain ⟨y0, y1, y2, y3, y4, y5⟩ := six_read (h9.out.thing_kept hka); have hya := Hid.intro (h9.out.terms_kept hka); replace hba := Hid.intro hba; have hfe' : (layI { A with given := g2 } (labF L.label ++ x.items)).equs.length ≤ 1100000 := hfe; have hfa' : (layI { A with given := g2 } (labF L.label ++ x.items)).asked.length ≤ 1100000 := hfa; replace hfe' := Hid.intro hfe'; replace hfa' := Hid.intro hfa'; replace hAa := Hid.intro hAa; clear hka) | (go_at_call 73; (with_reducible refine (note_any hAa.out n x ai x.items.length ci va nt vc hya.out hfe'.out hfa'.out).mono ?_); rintro e wb ⟨rfl, hbb, peb, evb, avb, hAb⟩))
    all_goals first | omega | skip
    all_goals go_ret
    all_goals exact ⟨rfl, (h9.out.bel.trans hba.out).trans hbb, _, _, _, _, _, _, _, hAb.more (by omega)⟩
end Go.Proofs.YtogkchgjpflmjaaGreatDoor
