/- object's reader: head. -/
import Derived.Test.YtmndccbeddaphaaGreatDoorOrd15
import Derived.Test.YtmndccbeddaphaaGreatDoorErn
import Derived.Test.YtmndccbeddaphaaGreatDoorOrd6
import Derived.Deep.LoopGhost
/- object's reader: a list of globals. -/
namespace Go.Proofs.YtmndccbeddaphaaGreatDoor
open Go.ChangeShapes Go.WideShapes Go.ChangeAt Go.RowKit Go.Sort
set_option linter.unusedVariables false
set_option linter.unusedSimpArgs false
set_option maxRecDepth 100000

def rowSt (l : INm) : List Value := l.map fun s => .string (str s)
/-- k names more: they, the last one, the place, the refusal -/
def rdGlLoop (zs : List Int) (g : INm) : Nat → INm → List UInt8 → Nat → Rfu → INm × List UInt8 × Nat × Rfu
  | 0, acc, la, p, b => (acc, la, p, b)
  | k + 1, acc, la, p, b => if b.isSome then ([], la, p, b) else rdGlLoop zs g k (acc ++ [txL zs p]) (txL zs p) (txP zs p) (glB (txL zs p) la g p (txB zs p b))
def rdGlobs (zs : List Int) (g : INm) (la : List UInt8) (p : Nat) (b : Rfu) : INm × List UInt8 × Nat × Rfu := rdGlLoop zs g (rdV zs p 2).toNat [] la (rdP zs p 2) (rdB zs p 2 b)

section
variable {w w' w1 : World} {r : Nat} {a : Option Addr} {c : Nat} {zs : List Int} {p : Nat} {bad : Option (Int × Int)} {rp : Option Nat} {mv : Value} {last : List UInt8} {b n : Nat} {g : List (List UInt8)} {w2 : World}

/-- while names are read -/
structure GL (w : World) (r : Nat) (a : Option Addr) (c : Nat) (zs : List Int) (b n : Nat) (g : INm) (R : INm × List UInt8 × Nat × Rfu) (k : Nat) (L : INm) (la : List UInt8) (p : Nat) (bad : Rfu) (v : Value) (wr : World) : Prop where
  rs : ∃ rp, RS wr r a c zs p bad rp (.map (some b)) la
  own : wr.ownsRow w.heap.size 9 1 v L.length (rowSt L)
  gr : w.grownBy wr (some r)
  set : SetIs w b n g
  res : rdGlLoop zs g k L la p bad = R
  lo : r < w.heap.size ∧ b ≠ r

theorem GL.sets {R : INm × List UInt8 × Nat × Rfu} {k : Nat} {L : INm} {v : Value} {wr : World} (h : GL w r a c zs b n g R k L last p bad v wr) : SetIs wr b n g := h.set.kept h.gr (fun e => h.lo.2 (Option.some.inj e))
theorem GL.mid {R : INm × List UInt8 × Nat × Rfu} {k : Nat} {L : INm} {v : Value} {wr : World} (h : GL w r a c zs b n g R k L last p bad v wr) (hg : wr.grownBy w2 (some r)) (o : Obj) : (w2.alloc o).ownsRow w.heap.size 9 1 v L.length (rowSt L) := own_keptB (own_low h.own hg h.lo.1) (below_alloc w2 o)
theorem GL.next {R : INm × List UInt8 × Nat × Rfu} {k : Nat} {L : INm} {v v' : Value} {wr w4 : World} (h : GL w r a c zs b n g R (k + 1) L last p none v wr) (hg : wr.grownBy w2 (some r)) (hR : ∃ rp, RS w2 r a c zs (txP zs p) (glB (txL zs p) last g p (txB zs p none)) rp (.map (some b)) (txL zs p)) (o : Obj)
    (ho : w4.ownsRow w.heap.size 9 1 v' (L.length + 1) (rowSt L ++ [.string (str (txL zs p))])) (hg4 : (w2.alloc o).grownBy w4 v.ownBlock) : GL w r a c zs b n g R k (L ++ [txL zs p]) (txL zs p) (txP zs p) (glB (txL zs p) last g p (txB zs p none)) v' w4 := by
  have hm := h.mid hg o
  obtain ⟨rp, hR⟩ := hR
  refine ⟨⟨rp, (hR.below (below_alloc w2 o)).off hm h.lo.1 (by decide) hg4⟩, ?_, ?_, h.set, ?_, h.lo⟩
  · have e : rowSt (L ++ [txL zs p]) = rowSt L ++ [.string (str (txL zs p))] := by simp [rowSt]
    rw [e, List.length_append]
    exact ho
  · exact grown_new (grown_trans h.gr (grown_trans hg (World.grownBy_alloc w2 o (some r)))) hg4 (fun g hgg => (hm.lt g hgg).1)
  · have := h.res
    rw [rdGlLoop] at this
    simpa using this

/-- what a list of names answers -/
def GlsOut (w : World) (r : Nat) (a : Option Addr) (c : Nat) (zs : List Int) (b : Nat) (R : INm × List UInt8 × Nat × Rfu) (e : Ending) (w' : World) : Prop :=
  ∃ v, e = .returned v ∧ w.grownBy w' (some r) ∧ w'.ownsRow w.heap.size 9 1 v R.1.length (rowSt R.1) ∧ ∃ rp, RS w' r a c zs R.2.2.1 R.2.2.2 rp (.map (some b)) R.2.1

set_option maxHeartbeats 16000000 in
theorem globs_is (h : RS w r a c zs p bad rp (.map (some b)) last) (hS : SetIs w b n g) (hbr : b ≠ r) : Calls Tryz.prog 80 #[.pointer (some ⟨r, 0, none⟩), .int .i64 65535, .func (.func 81) #[.pointer (some ⟨r, 0, none⟩)] #[]] w fun e w' => GlsOut w r a c zs b (rdGlobs zs g last p bad) e w' := by
  obtain ⟨i1, hi1, hy0, hy1, hy2⟩ := info_parts info9
  have hbd := rdV_bd h.lies.1 p
  have hlt := blk_lt h.blk
  obtain ⟨_, c1, _, _, _⟩ := five_read h.blk
  have h113 := Hid.intro (num2_is h)
  have hR : Hid (rdGlLoop zs g (rdV zs p 2).toNat [] last (rdP zs p 2) (rdB zs p 2 bad) = rdGlobs zs g last p bad) := rfl
  generalize rdGlobs zs g last p bad = R at *
  obtain ⟨n0, hn0⟩ : ∃ n0 : Nat, rdV zs p 2 = (n0 : Int) := ⟨(rdV zs p 2).toNat, by omega⟩
  rw [hn0] at h113 hR hbd
  have hn1 : n0 ≤ 65535 := by omega
  rw [Int.toNat_natCast] at hR
  clear hn0 hbd
  have hst : Hid (∀ w1 (rp1 : Option Nat), w.grownBy w1 (some r) → RS w1 r a c zs (rdP zs p 2) (rdB zs p 2 bad) rp1 (.map (some b)) last → GL w r a c zs b n g R n0 [] last (rdP zs p 2) (rdB zs p 2 bad) (.slice none 0 0) w1) := fun w1 rp1 g1 hR1 => ⟨⟨rp1, hR1⟩, World.ownsRow_nil _ _ _ _, g1, hS, hR.out, hlt, hbr⟩
  clear h hlt hS hR
  go_enter Tryz.func80, Tryz.ntmps80
  go_wp2_with (go_at_call 113; (with_reducible refine (h113.out).mono ?_); rintro e w1 ⟨rfl, g1, rp1, hR1⟩; have hL0 := Hid.intro (hst.out w1 rp1 g1 hR1); clear g1 hR1)
  all_goals first | omega | skip
  clear h113 hst c1
  go_loopw [9, 24] (fun v9 v24 wr => ∃ (j : Nat) (L : INm) (la : List UInt8) (p' : Nat) (b' : Rfu) (a9 : Option Addr) (l9 c9 : Nat), j ≤ n0 ∧ v24 = .int .i64 (j : Int) ∧ v9 = .slice a9 l9 c9 ∧ l9 ≤ j ∧ Hid (l9 = L.length) ∧ Hid (GL w r a c zs b n g R (n0 - j) L la p' b' (.slice a9 L.length c9) wr)) (fun v9 v24 _ => n0 - (intOf v24).toNat)
  case atStart => exact ⟨0, [], _, _, _, none, 0, 0, by omega, rfl, rfl, by omega, rfl, hL0⟩
  case round =>
    obtain ⟨j, L, la, p', b', a9, l9, c9, hj, rfl, rfl, hl9, hl, hL⟩ := hrel
    clear hL0
    by_cases hjn : j < n0
    · have hk : Hid (n0 - j = (n0 - (j + 1)) + 1) := by show _ = _; omega
      obtain ⟨rp', hrs'⟩ := hL.out.rs
      have h32 := Hid.intro (refused_is hrs')
      cases b' with
      | some f =>
        replace hrs' := Hid.intro hrs'
        go_wp2_with (go_at_call 32; (with_reducible refine (h32.out).mono ?_); rintro e w2 ⟨rfl, hw2⟩; subst w2)
        all_goals first | omega | skip
        go_ret
        have hres : R = ([], la, p', some f) := by
          rw [← hL.out.res, hk.out, rdGlLoop]
          rfl
        rw [hres]
        exact ⟨_, rfl, hL.out.gr, World.ownsRow_nil _ _ _ _, rp', hrs'.out⟩
      | none =>
        have h81 := Hid.intro (global_is hrs' hL.out.sets hL.out.lo.2)
        unfold GlbOut at h81
        have hnx : Hid (∀ w2 v' w4, wr.grownBy w2 (some r) → (∃ rp, RS w2 r a c zs (txP zs p') (glB (txL zs p') la g p' (txB zs p' none)) rp (.map (some b)) (txL zs p')) → w4.ownsRow w.heap.size 9 1 v' (l9 + 1) (rowSt L ++ [.string (str (txL zs p'))]) → (w2.alloc (.cells #[.string (str (txL zs p'))] 9)).grownBy w4 (Value.slice a9 l9 c9).ownBlock → GL w r a c zs b n g R (n0 - (j + 1)) (L ++ [txL zs p']) (txL zs p') (txP zs p') (glB (txL zs p') la g p' (txB zs p' none)) v' w4) := fun w2 v' w4 h1 h2 h3 h4 => by
          have hh := hL.out
          rw [hk.out] at hh
          rw [hl.out] at h3 h4
          exact hh.next h1 h2 _ h3 h4
        have hmid : Hid (∀ w2, wr.grownBy w2 (some r) → (w2.alloc (.cells #[.string (str (txL zs p'))] 9)).ownsRow w.heap.size 9 1 (.slice a9 l9 c9) l9 (rowSt L) ∧ w.heap.size ≤ (w2.alloc (.cells #[.string (str (txL zs p'))] 9)).heap.size) := fun w2 h1 => by
          have := hL.out.mid h1 (.cells #[.string (str (txL zs p'))] 9)
          rw [← hl.out] at this
          exact ⟨this, by have := hL.out.gr.size; have := h1.size; simp; omega⟩
        have hll : Hid (l9 + 1 = (L ++ [txL zs p']).length) := by show _ = _; rw [List.length_append, hl.out]; rfl
        generalize glB (txL zs p') la g p' (txB zs p' none) = B3 at *
        generalize txL zs p' = S at *
        generalize txP zs p' = P3 at *
        clear hL hl hk hrs'
        go_wp2_with (first
          | (go_at_call 32; (with_reducible refine (h32.out).mono ?_); rintro e w2 ⟨rfl, hw2⟩; subst w2)
          | (go_at_call 81; (with_reducible refine (h81.out).mono ?_); rintro e w3 ⟨rfl, g3, hR3⟩; obtain ⟨hm1, hm2⟩ := hmid.out w3 g3; replace g3 := Hid.intro g3; replace hR3 := Hid.intro hR3; replace hm1 := Hid.intro hm1)
          | (at_builtin; go_must (refine wpList_app rfl (.tmp 28) (.tmp 31) 28 rfl w.heap.size 9 i1 _ 1 16 Tryz.underlying28 hi1 hy0 hy1 hy2 rfl (by decide) (.slice a9 l9 c9) l9 (rowSt L) rfl hm1.out (.slice (some ⟨w3.heap.size, 0, none⟩) 1 1) 1 [.string (str S)] rfl (.inr ⟨_, _, rfl, cells_new w3 #[.string (str S)] 9⟩) rfl (by simp [Value.oneCell']) (by unfold maxLen; omega) (by omega) hm2 ?_; intro v' w4 ho4 hg4 hw4; have hn4 := Hid.intro (hnx.out w3 v' w4 g3.out hR3.out ho4 hg4); obtain ⟨a4, c4, rfl⟩ := own_slice ho4; clear ho4 hg4 hw4)))
        all_goals first | omega | skip
        go_roundw
        case rel => exact ⟨j + 1, _, _, _, _, a4, l9 + 1, c4, by omega, by go_num, rfl, by omega, hll, by rw [← hll.out]; exact hn4⟩
        case measure => simp [intOf]; omega
    · obtain rfl : j = n0 := by omega
      go_wp2_with fail
      all_goals first | omega | skip
      go_ret
      have hres : R = (L, la, p', b') := by
        rw [← hL.out.res, Nat.sub_self, rdGlLoop]
      rw [hres, hl.out]
      obtain ⟨rp', hrs'⟩ := hL.out.rs
      exact ⟨_, rfl, hL.out.gr, hL.out.own, rp', hrs'⟩
end
end Go.Proofs.YtmndccbeddaphaaGreatDoor
namespace Go.Proofs.YtmndccbeddaphaaGreatDoor
open Go.ChangeShapes Go.WideShapes Go.ChangeAt Go.RowKit Go.Sort
set_option linter.unusedVariables false
set_option linter.unusedSimpArgs false
set_option maxRecDepth 100000

def hdL : List Int := [83, 80, 65, 78, 1]
/-- behind i bytes of the head, or behind the first that is another one -/
def HdI (zs : List Int) (i : Nat) (bad : Option (Int × Int)) : Prop :=
  (bad = none ∧ i ≤ 5 ∧ i ≤ zs.length ∧ zs.take i = hdL.take i) ∨ ∃ m : Nat, m < 5 ∧ m ≤ zs.length ∧ bad = some ((m : Int), 15) ∧ i = m + 1 ∧ zs.take m = hdL.take m ∧ zs[m]? ≠ hdL[m]?

section
variable {w w' : World} {r : Nat} {a : Option Addr} {c : Nat} {zs : List Int} {p : Nat} {bad : Option (Int × Int)} {rp : Option Nat} {mv : Value} {last : List UInt8}

theorem grown_drew {n : Nat} {k : Option Nat} (hg : (w.drewN n).grownBy w' k) : w.grownBy w' k := ⟨hg.os, hg.tape, hg.output, hg.size, hg.block⟩
theorem hdI_next {i : Nat} {z : Int} (h : HdI zs i none) (hi : i < 5) (hz : zs[i]? = some z) (he : hdL[i]? = some z) : HdI zs (i + 1) none := by
  rcases h with ⟨_, h1, h2, h3⟩ | ⟨m, _, _, h, _⟩
  · have hlt := (List.getElem?_eq_some_iff.1 hz).1
    refine .inl ⟨rfl, by omega, by omega, ?_⟩
    rw [List.take_add_one, List.take_add_one, h3, hz, he]
  · cases h
theorem hdI_bad {i : Nat} (h : HdI zs i none) (hi : i < 5) (hz : zs[i]? ≠ hdL[i]?) : HdI zs (i + 1) (some ((i : Int), 15)) := by
  rcases h with ⟨_, h1, h2, h3⟩ | ⟨m, _, _, h, _⟩
  · exact .inr ⟨i, hi, h2, rfl, rfl, h3, hz⟩
  · cases h

theorem hd_index (i : Nat) (hi : i < 5) : ∃ y : Int, hdL[i]? = some y ∧ ∀ W : World, (Instr.index 9 (.string ⟨#[83, 80, 65, 78, 1]⟩) (.int .i64 (i : Int))).run Tryz.prog W = .ok (.int .u8 y) W := by
  have : i = 0 ∨ i = 1 ∨ i = 2 ∨ i = 3 ∨ i = 4 := by omega
  rcases this with rfl | rfl | rfl | rfl | rfl
  · exact ⟨83, rfl, fun W => by kernel_rfl⟩
  · exact ⟨80, rfl, fun W => by kernel_rfl⟩
  · exact ⟨65, rfl, fun W => by kernel_rfl⟩
  · exact ⟨78, rfl, fun W => by kernel_rfl⟩
  · exact ⟨1, rfl, fun W => by kernel_rfl⟩
theorem RS.next (h : RS w r a c zs p bad rp mv last) (hp : p + 1 ≤ zs.length ∨ (bad.isSome = true ∧ p + 1 ≤ zs.length + 1)) : w.cell? ⟨r, 1, none⟩ = some (.int .i64 (p : Int)) ∧ w.frozen? ⟨r, 1, none⟩ = false ∧ w.grownBy (w.setCell ⟨r, 1, none⟩ (.int .i64 ((p : Int) + 1))) (some r) ∧ RS (w.setCell ⟨r, 1, none⟩ (.int .i64 ((p : Int) + 1))) r a c zs (p + 1) bad rp mv last := by
  obtain ⟨s1, s2⟩ := row_set h.blk 1 (.int .i64 ((p : Int) + 1))
  exact ⟨(five_read h.blk).2.1, frozen_of_row _ r 1 _ 71 h.blk, s2, h.put s2 hp s1 (h.rf.grown h.rne s2)⟩

set_option maxHeartbeats 8000000 in
theorem head_is (h : RS w r a c zs 0 none none mv last) : Calls Tryz.prog 74 #[.pointer (some ⟨r, 0, none⟩)] w fun e w' => e = .returned (.tuple #[]) ∧ w.grownBy w' (some r) ∧ ∃ p' bad' rp', RS w' r a c zs p' bad' rp' mv last ∧ HdI zs p' bad' ∧ (bad' = none → p' = 5) := by
  have hfw := h.few
  obtain ⟨n0, hn0⟩ : ∃ n0, n0 = zs.length := ⟨_, rfl⟩
  rw [← hn0] at hfw
  have hN := Hid.intro hn0
  have h0 := Hid.intro h
  clear h hn0
  go_enter Tryz.func74, Tryz.ntmps74
  go_wp2
  go_loopg [] 6 (fun k wr => ∃ i bad' rp', i + k = 6 ∧ Hid (RS wr r a c zs i bad' rp' mv last) ∧ Hid (w.grownBy wr (some r)) ∧ Hid (HdI zs i bad'))
  case atStart => exact ⟨0, none, none, by omega, h0, World.grownBy.refl _ _, .inl ⟨rfl, by omega, by omega, rfl⟩⟩
  case round =>
    obtain ⟨i, bad', rp', hik, hR, hG, hI⟩ := hrel
    have h32 := Hid.intro (refused_is hR.out)
    have hblk := hR.out.blk
    rw [← hN.out] at hblk
    obtain ⟨c0, c1, _, _, _⟩ := five_read hblk
    cases bad' with
    | some f =>
      clear hblk
      by_cases hi : i < 5
      · have hi' : decide ((i : Int) < 5) = true := by simp; omega
        go_wp2_with (go_at_call 32; (with_reducible refine (h32.out).mono ?_); rintro e w1 ⟨rfl, hw1⟩; subst w1)
        all_goals first | omega | skip
        go_end0
        exact ⟨rfl, hG.out, i, _, rp', hR.out, hI.out, fun e => by cases e⟩
      · have hi' : decide ((i : Int) < 5) = false := by simp; omega
        go_wp2_with fail
        all_goals first | omega | skip
        go_end0
        exact ⟨rfl, hG.out, i, _, rp', hR.out, hI.out, fun e => by cases e⟩
    | none =>
      by_cases hi : i < 5
      · have hi' : decide ((i : Int) < 5) = true := by simp; omega
        have hle : i ≤ n0 := by
          rcases hI.out with ⟨_, _, h1, _⟩ | ⟨_, _, _, h1, _⟩
          · have := hN.out; omega
          · cases h1
        obtain ⟨y, hy, hix⟩ := hd_index i hi
        have hrf : Hid (∀ n, Calls Tryz.prog 82 #[.pointer (some ⟨r, 0, none⟩), .int .i64 (i : Int), .int .i64 15] (wr.drewN n) fun e w' => e = .returned (.tuple #[]) ∧ w'.cell? ⟨r, 1, none⟩ = some (.int .i64 (i : Int)) ∧ w'.frozen? ⟨r, 1, none⟩ = false ∧ w.grownBy (w'.setCell ⟨r, 1, none⟩ (.int .i64 ((i : Int) + 1))) (some r) ∧ ∃ rp', RS (w'.setCell ⟨r, 1, none⟩ (.int .i64 ((i : Int) + 1))) r a c zs (i + 1) (some ((i : Int), 15)) rp' mv last) := fun n => by
          refine (refuse_is (hR.out.below (below_drewN (Below.refl wr.heap.size wr) n)) (i : Int) 15).mono ?_
          rintro e w' ⟨rfl, hg, rp2, hR2⟩
          obtain ⟨k1, k2, k3, k4⟩ := RS.next hR2 (.inr ⟨rfl, by have := hN.out; omega⟩)
          exact ⟨rfl, k1, k2, grown_trans hG.out (grown_trans (grown_drew hg) k3), rp2, k4⟩
        by_cases hend : i = n0
        · have hz : zs[i]? ≠ hdL[i]? := by rw [hy, List.getElem?_eq_none (by have := hN.out; omega)]; simp
          have hnx := Hid.intro (hdI_bad hI.out hi hz)
          have he : ((i : Int) == (n0 : Int)) = true := by simp; omega
          clear hblk hz hI
          subst hend
          go_upto_region 1 with (go_at_call 32; (with_reducible refine (h32.out).mono ?_); rintro e w1 ⟨rfl, hw1⟩; subst w1)
          all_goals first | omega | skip
          go_quiet (fail)
          go_wp2_with (go_at_call 82; (with_reducible refine (hrf.out _).mono ?_); rintro e w2 ⟨rfl, k1, k2, k3, k4⟩; replace k3 := Hid.intro k3; replace k4 := Hid.intro k4)
          all_goals first | omega | skip
          go_roundg (gk - 1)
          case measure => omega
          case rel =>
            obtain ⟨rp2, hR2⟩ := k4.out
            exact ⟨i + 1, _, rp2, by omega, hR2, k3, hnx⟩
        · have hlt : i < n0 := by omega
          obtain ⟨g, o, ha, hcells⟩ : ∃ g o, a = some ⟨g, o, none⟩ ∧ ∀ j, j < zs.length → wr.cell? ⟨g, o + j, none⟩ = some (.int .u8 (zs.getD j 0)) := by
            rcases hR.out.lies.2 with h1 | h1
            · have h2 := hN.out; rw [h1] at h2; simp at h2; omega
            · exact h1
          obtain ⟨z, hz⟩ : ∃ z, zs[i]? = some z := ⟨zs[i]'(by have := hN.out; omega), List.getElem?_eq_getElem _⟩
          have hc := hcells i (by have := hN.out; omega)
          rw [List.getD_eq_getElem?_getD, hz, Option.getD_some] at hc
          rw [ha] at c0
          have he : ((i : Int) == (n0 : Int)) = false := by simp; omega
          have i1 : (0 : Int) ≤ (i : Int) := by omega
          have i2 : (i : Int) < (n0 : Int) := by omega
          by_cases hzy : z = y
          · have hnx := Hid.intro (hdI_next hI.out hi hz (by rw [hzy]; exact hy))
            have hst : Hid (∀ n, (wr.drewN n).frozen? ⟨r, 1, none⟩ = false ∧ w.grownBy ((wr.drewN n).setCell ⟨r, 1, none⟩ (.int .i64 ((i : Int) + 1))) (some r) ∧ RS ((wr.drewN n).setCell ⟨r, 1, none⟩ (.int .i64 ((i : Int) + 1))) r a c zs (i + 1) none rp' mv last) := fun n => by
              obtain ⟨k1, k2, k3, k4⟩ := RS.next (hR.out.below (below_drewN (Below.refl wr.heap.size wr) n)) (.inl (by have := hN.out; omega))
              exact ⟨k2, grown_trans hG.out (grown_drew k3), k4⟩
            have f1 : wr.frozen? ⟨r, 1, none⟩ = false := (hst.out 0).1
            subst hzy
            clear hblk hz hI hcells ha hrf hy
            go_upto_region 1 with (go_at_call 32; (with_reducible refine (h32.out).mono ?_); rintro e w1 ⟨rfl, hw1⟩; subst w1)
            all_goals first | omega | skip
            go_quiet (fail)
            go_wp2_with fail
            all_goals first | omega | skip
            go_roundg (gk - 1)
            case measure => omega
            case rel => exact ⟨i + 1, _, rp', by omega, (hst.out _).2.2, (hst.out _).2.1, hnx⟩
          · have hnx := Hid.intro (hdI_bad hI.out hi (by rw [hy, hz]; simpa using hzy))
            have hzb : (z == y) = false := by simpa using hzy
            clear hblk hz hI hcells ha hy
            go_upto_region 1 with (go_at_call 32; (with_reducible refine (h32.out).mono ?_); rintro e w1 ⟨rfl, hw1⟩; subst w1)
            all_goals first | omega | skip
            go_quiet (fail)
            go_wp2_with (go_at_call 82; (with_reducible refine (hrf.out _).mono ?_); rintro e w2 ⟨rfl, k1, k2, k3, k4⟩; replace k3 := Hid.intro k3; replace k4 := Hid.intro k4)
            all_goals first | omega | skip
            go_roundg (gk - 1)
            case measure => omega
            case rel =>
              obtain ⟨rp2, hR2⟩ := k4.out
              exact ⟨i + 1, _, rp2, by omega, hR2, k3, hnx⟩
      · have hi' : decide ((i : Int) < 5) = false := by simp; omega
        clear hblk
        go_wp2_with fail
        all_goals first | omega | skip
        go_end0
        refine ⟨rfl, hG.out, i, _, rp', hR.out, hI.out, fun _ => ?_⟩
        rcases hI.out with ⟨_, h1, _⟩ | ⟨_, _, _, h1, _⟩
        · omega
        · cases h1
end
end Go.Proofs.YtmndccbeddaphaaGreatDoor
