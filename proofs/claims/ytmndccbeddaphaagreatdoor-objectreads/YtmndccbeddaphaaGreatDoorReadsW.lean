/- ObjectReads: its walk. -/
import Derived.Test.YtmndccbeddaphaaGreatDoorDd5
import Derived.Lib.SmallJoins
import Derived.Test.YtmndccbeddaphaaGreatDoorDd8
import Derived.Test.YtmndccbeddaphaaGreatDoorOwr1
/- object: the law's known. -/
namespace Go.Proofs.YtmndccbeddaphaaGreatDoor
open Go.ChangeShapes Go.WideShapes Go.ChangeAt Go.RowKit
set_option linter.unusedVariables false
set_option linter.unusedSimpArgs false
set_option maxRecDepth 100000
theorem conv_lies {w : World} {a : Option Addr} {zs : List Int} {m c : Nat} (hm : m = zs.length) (h : O.Lies w a zs) : (convert 22 9 (.slice a m c)).run Tryz.prog w = .ok (.string (strOfNums zs)) w := by
  subst hm
  rcases h.2 with rfl | ⟨b, off, rfl, hc⟩
  · exact (O.convert_none a c w).trans rfl
  · exact run_convert_bytes_arg (P := Tryz.prog) w 22 5 Tryz.underlying22 Tryz.underlying5 b off zs.length c zs rfl hc 9 Tryz.underlying9
theorem read_lit (w : World) (zs : List Int) (fr : Nat × Nat) (f1 f2 : Nat) (hE : Env w) (hz : O.AreBytes zs) (hn : zs.length ≤ 1000) (hb : rdBad zs = some ((f1 : Int), (f2 : Int))) : Calls Tryz.prog 10 #[.slice (some ⟨w.heap.size, 0, none⟩) zs.length zs.length] (w.alloc (.cells (O.cellsOf zs).toArray 5 fr)) fun e w' => Below w.heap.size w w' ∧ ∃ q, e = .returned (.tuple #[.agg uZ, .iface 66 (.pointer (some ⟨q, 0, none⟩))]) ∧ w'.heap[q]? = some (.cells #[.int .i64 (f1 : Int), .int .i64 (f2 : Int)] 68 (0, 0)) := by
  have hB := below_alloc w (.cells (O.cellsOf zs).toArray 5 fr)
  have hr := heap_alloc_new w (.cells (O.cellsOf zs).toArray 5 fr)
  have hl : O.Lies (w.alloc (.cells (O.cellsOf zs).toArray 5 fr)) (some ⟨w.heap.size, 0, none⟩) zs := by
    refine ⟨hz, .inr ⟨w.heap.size, 0, rfl, fun i hi => ?_⟩⟩
    rw [Joins.cell_of_block hr, Nat.zero_add, List.getElem?_toArray, O.cellsOf_get zs i hi]
  refine (read_bad f1 f2 (hE.below hB) hl (fun x hx => ?_) (by omega) (Nat.le_refl _) hb).mono ?_
  · cases hx
    simp
  · rintro e w' ⟨h1, h2⟩
    exact ⟨hB.trans (h1.mono hB.size), h2⟩
theorem same_E (w : World) (ta : Option Addr) (tc : Nat) (da : Option Addr) (dc : Nat) (ea : Option Addr) (ec : Nat) (ga : Option Addr) (gc : Nat) : Calls Tryz.prog 18 #[.agg #[.slice ta 0 tc, .slice da 0 dc, .slice ea 0 ec, .slice ga 0 gc], .agg uZ] w fun e w' => e = .returned (.bool true) ∧ Below w.heap.size w w' :=
  sameUnit_any ta da ea ga none none none none tc dc ec gc 0 0 0 0 uE heldU_E w ⟨.inl rfl, .inl rfl, .inl rfl, .inl rfl⟩ (unitIn_E w)
set_option maxHeartbeats 8000000 in
theorem known_is (w : World) (hE : Env w) : Calls Tryz.prog 12 #[] w fun e w' => e = .returned (.bool true) ∧ Below w.heap.size w w' := by
  have h9 := Hid.intro (write_E w hE)
  have hEH := Hid.intro hE
  have hlit : Hid (∀ w1, Env w1 → Calls Tryz.prog 10 #[.slice (some ⟨w1.heap.size, 0, none⟩) 4 4] (w1.alloc (.cells #[.int .u8 83, .int .u8 80, .int .u8 65, .int .u8 77] 5 (4, 5))) fun e w' => Below w1.heap.size w1 w' ∧ ∃ q, e = .returned (.tuple #[.agg uZ, .iface 66 (.pointer (some ⟨q, 0, none⟩))]) ∧ w'.heap[q]? = some (.cells #[.int .i64 3, .int .i64 15] 68 (0, 0))) := fun w1 h1 => read_lit w1 [83, 80, 65, 77] (4, 5) 3 15 h1 (by intro z hz; simp at hz; omega) (by decide) (by decide +kernel)
  have hrf : Hid (∀ w1 q, Env w1 → w1.heap[q]? = some (.cells #[.int .i64 3, .int .i64 15] 68 (0, 0)) → Calls Tryz.prog 11 #[.iface 66 (.pointer (some ⟨q, 0, none⟩)), .agg #[.int .i64 3, .int .i64 15]] w1 fun e w' => e = .returned (.bool true) ∧ Below w1.heap.size w1 w') := fun w1 q h1 h2 => refused_any q 3 15 (by decide) (by decide) (by decide) w1 h1.pow h2
  have hn28 := nil_eq28
  clear hE
  go_enter Tryz.func12, Tryz.ntmps12
  go_upto_region 4 with (first
    | (go_at_call 9; (with_reducible refine (h9.out).mono ?_); rintro e w1 ⟨b1, a1, c1, rfl, g1⟩; have hE1 := Hid.intro (hEH.out.below b1); obtain ⟨l1, l2, l3⟩ := got_lies g1 z13_bytes; have h10 := Hid.intro (read_E w1 a1 c1 hE1.out l1 l2 l3); have hcv := Hid.intro (fun W (hW : Below w1.heap.size w1 W) => (conv_lies (m := 13) (c := c1) rfl (O.Lies.below l1 hW))); replace b1 := Hid.intro b1; clear h9 l1 l2 g1)
    | (go_at_call 10; (with_reducible refine (h10.out).mono ?_); rintro e w2 ⟨b2, ta, tc, da, dc, ea, ec, ga, gc, rfl⟩; have bA := b2.trans ((below_alloc w2 (.cells #[.slice ta 0 tc, .slice da 0 dc, .slice ea 0 ec, .slice ga 0 gc] 30)).mono b2.size); have hu2 := heap_alloc_new w2 (.cells #[.slice ta 0 tc, .slice da 0 dc, .slice ea 0 ec, .slice ga 0 gc] 30); have hsA : (w2.alloc (.cells #[.slice ta 0 tc, .slice da 0 dc, .slice ea 0 ec, .slice ga 0 gc] 30)).heap.size = w2.heap.size + 1 := (by simp); have h10b := hlit.out _ (hE1.out.below bA); rw [hsA] at h10b; replace hsA := Hid.intro hsA; replace h10b := Hid.intro h10b; have k22 := Joins.run_convert_bytes_const_at (P := Tryz.prog) (w2.alloc (.cells #[.slice ta 0 tc, .slice da 0 dc, .slice ea 0 ec, .slice ga 0 gc] 30)) 22 5 #[.int .u8 83, .int .u8 80, .int .u8 65, .int .u8 77] 4 4 (w2.heap.size + 1) (by simp) Tryz.underlying22 Tryz.underlying5; replace bA := Hid.intro bA; replace hu2 := Hid.intro hu2; clear h10 b2)
    | (go_at_call 10; (with_reducible refine (h10b.out).mono ?_); rintro e w3 ⟨b3, q, rfl, hq⟩; rw [← hsA.out] at b3; have bB := b3.trans ((below_alloc w3 (.cells uZ 30)).mono b3.size); have hu3 := (bB.block w2.heap.size (by simp)).trans hu2.out; have hq3 := ((below_alloc w3 (.cells uZ 30)).block q (blk_lt hq)).trans hq; have bC := bA.out.trans (bB.mono bA.out.size); have kc := hcv.out _ bC; rw [show strOfNums z13 = ⟨#[83, 80, 65, 78, 1, 0, 0, 0, 0, 0, 0, 0, 0]⟩ from rfl] at kc; have hE3 := Hid.intro (hE1.out.below bC); have bD := Hid.intro (b1.out.trans (bC.mono b1.out.size)); obtain ⟨y0, y1, y2, y3⟩ := four_read hu3; replace hq3 := Hid.intro hq3; clear h10b b3 hq bA bB bC hu2 hu3 hcv k22))
  all_goals first | omega | skip
  generalize w3.alloc (.cells uZ 30) = w4 at *
  have h18 := Hid.intro (same_E w4 ta tc da dc ea ec ga gc)
  have h11 : Hid (∀ w5, Below w4.heap.size w4 w5 → _) := fun w5 (b5 : Below w4.heap.size w4 w5) => hrf.out w5 q (hE3.out.below b5) ((b5.block q (blk_lt hq3.out)).trans hq3.out)
  go_wp2_with (first
    | (go_at_call 18; (with_reducible refine (h18.out).mono ?_); rintro e w5 ⟨rfl, b5⟩; replace b5 := Hid.intro b5)
    | (go_at_call 11; (with_reducible refine (h11.out _ b5.out).mono ?_); rintro e w6 ⟨rfl, b6⟩; replace b6 := Hid.intro b6))
  all_goals first | omega | skip
  go_ret
  exact ⟨rfl, bD.out.trans ((b5.out.trans (b6.out.mono b5.out.size)).mono bD.out.size)⟩
end Go.Proofs.YtmndccbeddaphaaGreatDoor
/- Where and why Read refuses: bounds. -/
namespace Go.Proofs.YtmndccbeddaphaaGreatDoor
set_option linter.unusedVariables false
set_option linter.unusedSimpArgs false
set_option maxRecDepth 100000
def Bd (zs : List Int) (b : Rfu) : Prop := ∀ f, b = some f → ∃ m k : Nat, f = ((m : Int), (k : Int)) ∧ m ≤ zs.length + 5 ∧ k ≠ 0 ∧ k ≤ 99
section
variable {zs : List Int} {p : Nat} {b : Rfu}
theorem Bd.no : Bd zs none := fun f h => by cases h
theorem Bd.first (h : Bd zs b) (m k : Nat) (hm : m ≤ zs.length + 5) (hk : k ≠ 0 ∧ k ≤ 99) : Bd zs (firstR b ((m : Int), (k : Int))) := by
  intro f hf
  cases b with
  | none => cases hf; exact ⟨m, k, rfl, hm, hk⟩
  | some g => exact h f hf
theorem Bd.rd (h : Bd zs b) (wd : Nat) : Bd zs (rdB zs p wd b) := by
  unfold rdB
  split
  · exact h
  · exact h.first zs.length 10 (by omega) (by decide)
theorem getTE_is (p : Int) : ∃ k : Nat, O.getTE zs p 65535 = (k : Int) ∧ k ≤ 99 := by
  have he : ∃ k : Nat, O.getE zs p 2 = (k : Int) ∧ k ≤ 99 := by
    unfold O.getE
    split
    · exact ⟨1, rfl, by decide⟩
    · split
      · exact ⟨10, rfl, by decide⟩
      · exact ⟨0, rfl, by decide⟩
  unfold O.getTE
  split
  · split
    · exact ⟨3, rfl, by decide⟩
    · split
      · exact ⟨10, rfl, by decide⟩
      · exact ⟨0, rfl, by decide⟩
  · exact he
theorem Bd.tx (h : Bd zs b) : Bd zs (txB zs p b) := by
  unfold txB
  split
  · exact h
  · next hq =>
    obtain ⟨k, hk, hk2⟩ := getTE_is (zs := zs) (p : Int)
    rw [hk]
    exact h.first zs.length k (by omega) ⟨fun e => hq (by rw [hk, e]; rfl), hk2⟩
theorem Bd.loop : ∀ (k : Nat) (acc : List Tm) (p : Nat) (b : Rfu), Bd zs b → Bd zs (rdLoop zs k acc p b).2.2
  | 0, acc, p, b, h => h
  | k + 1, acc, p, b, h => by
    rw [rdLoop]
    split
    · exact h
    · exact Bd.loop k _ _ _ (h.tx.rd 4)
theorem Bd.li (h : Bd zs b) : Bd zs (liB zs p b) := (Bd.loop _ _ _ _ (h.rd 2)).rd 4
theorem Bd.cdF (h : Bd zs b) : Bd zs (cdF zs p b) := (((h.rd 1).rd 1).rd 1).rd 4
theorem Bd.cdE (h : Bd zs b) : Bd zs (cdE zs p b) := by
  unfold Go.Proofs.YtmndccbeddaphaaGreatDoor.cdE
  split
  · exact h.cdF.li
  · exact h.cdF
theorem Bd.it (h : Bd zs b) : Bd zs (itR zs p b).2.2 := by
  unfold itR
  repeat' split
  · exact (h.rd 1).tx
  · exact (h.rd 1).cdE
  · exact (h.rd 1).rd 2
  · exact (h.rd 1).rd 2
  · exact (h.rd 1).li
  · exact (h.rd 1).rd 4
  · exact h.rd 1
theorem Bd.itLoop (hz : O.AreBytes zs) (sec : Int) : ∀ (k : Nat) (acc : List Itm) (g : INm) (p : Nat) (b : Rfu), Bd zs b → (b = none → p ≤ zs.length) → Bd zs (rdItLoop zs sec k acc g p b).2.2.2 ∧ ((rdItLoop zs sec k acc g p b).2.2.2 = none → (rdItLoop zs sec k acc g p b).2.2.1 ≤ zs.length)
  | 0, acc, g, p, b, h, hp => ⟨h, hp⟩
  | k + 1, acc, g, p, b, h, hp => by
    rw [rdItLoop]
    split
    · next hs => exact ⟨h, fun e => by rw [show b = none from e] at hs; cases hs⟩
    · next hs =>
      have hb : b = none := by cases b with | none => rfl | some f => exact absurd rfl hs
      refine Bd.itLoop hz sec k _ _ _ _ ?_ (fun e => ?_)
      · unfold itB
        split
        · exact h.it
        · exact h.it.first p 31 (by have := hp hb; omega) (by decide)
      · have h1 := (itB_none e).1
        obtain ⟨_, h2, h3, _⟩ := item_bwd hz h1
        rw [h3]
        exact h2.2
theorem Bd.many (h : Bd zs b) (n most : Int) (hp : b = none → p ≤ zs.length) : Bd zs (manyB n most p b) := by
  unfold manyB
  split
  · cases hb : b with
    | none => exact (Bd.no).first p 4 (by have := hp hb; omega) (by decide)
    | some f => intro g hg; rw [hb] at h; exact h g hg
  · exact h
theorem Bd.items (hz : O.AreBytes zs) (sec most : Int) (g : INm) (h : Bd zs b) (hp : b = none → p ≤ zs.length) : Bd zs (rdItems zs sec most g p b).2.2.2 ∧ ((rdItems zs sec most g p b).2.2.2 = none → (rdItems zs sec most g p b).2.2.1 ≤ zs.length) := by
  unfold rdItems
  refine Bd.itLoop hz sec _ _ _ _ _ ((h.rd 2).many _ _ (fun e => hp (rdB_back 2 e))) (fun e => ?_)
  exact num_le hz (manyB_none e).1
theorem Bd.eqLoop (hz : O.AreBytes zs) : ∀ (k : Nat) (acc : List Eqv) (g : INm) (p : Nat) (b : Rfu), Bd zs b → (b = none → p ≤ zs.length) → Bd zs (rdEqLoop zs k acc g p b).2.2.2 ∧ ((rdEqLoop zs k acc g p b).2.2.2 = none → (rdEqLoop zs k acc g p b).2.2.1 ≤ zs.length)
  | 0, acc, g, p, b, h, hp => ⟨h, hp⟩
  | k + 1, acc, g, p, b, h, hp => by
    rw [rdEqLoop]
    split
    · next hs => exact ⟨h, fun e => by rw [show b = none from e] at hs; cases hs⟩
    · next hs =>
      have hb : b = none := by cases b with | none => rfl | some f => exact absurd rfl hs
      refine Bd.eqLoop hz k _ _ _ _ ?_ (fun e => ?_)
      · unfold eqB
        split
        · exact h.tx.li
        · exact Bd.first (b := (eqR zs p b).2.2) h.tx.li p 31 (by have := hp hb; omega) (by decide)
      · have h1 : (eqR zs p b).2.2 = none := by
          unfold eqB at e
          split at e
          · exact e
          · exact absurd e firstR_some
        obtain ⟨_, h2, h3, _⟩ := equ_bwd hz h1
        rw [h3]
        exact h2.2
theorem Bd.equs (hz : O.AreBytes zs) (most : Int) (g : INm) (h : Bd zs b) (hp : b = none → p ≤ zs.length) : Bd zs (rdEqus zs most g p b).2.2.2 ∧ ((rdEqus zs most g p b).2.2.2 = none → (rdEqus zs most g p b).2.2.1 ≤ zs.length) := by
  unfold rdEqus
  refine Bd.eqLoop hz _ _ _ _ _ ((h.rd 2).many _ _ (fun e => hp (rdB_back 2 e))) (fun e => ?_)
  exact num_le hz (manyB_none e).1
theorem Bd.glLoop (hz : O.AreBytes zs) (g : INm) : ∀ (k : Nat) (acc : INm) (la : List UInt8) (p : Nat) (b : Rfu), Bd zs b → (b = none → p ≤ zs.length) → Bd zs (rdGlLoop zs g k acc la p b).2.2.2 ∧ ((rdGlLoop zs g k acc la p b).2.2.2 = none → (rdGlLoop zs g k acc la p b).2.2.1 ≤ zs.length)
  | 0, acc, la, p, b, h, hp => ⟨h, hp⟩
  | k + 1, acc, la, p, b, h, hp => by
    rw [rdGlLoop]
    split
    · next hs => exact ⟨h, fun e => by rw [show b = none from e] at hs; cases hs⟩
    · next hs =>
      have hb : b = none := by cases b with | none => rfl | some f => exact absurd rfl hs
      refine Bd.glLoop hz g k _ _ _ _ ?_ (fun e => ?_)
      · unfold glB
        split
        · exact h.tx
        · exact h.tx.first p 31 (by have := hp hb; omega) (by decide)
      · have h1 : txB zs p b = none := by
          unfold glB at e
          split at e
          · exact e
          · exact absurd e firstR_some
        obtain ⟨_, h2, h3, _⟩ := text_bwd hz h1
        rw [h3]
        exact h2.2
theorem Bd.globs (hz : O.AreBytes zs) (g : INm) (la : List UInt8) (h : Bd zs b) (hp : b = none → p ≤ zs.length) : Bd zs (rdGlobs zs g la p b).2.2.2 ∧ ((rdGlobs zs g la p b).2.2.2 = none → (rdGlobs zs g la p b).2.2.1 ≤ zs.length) := by
  unfold rdGlobs
  refine Bd.glLoop hz g _ _ _ _ _ (h.rd 2) (fun e => ?_)
  exact num_le hz e
theorem hdLoop_bd : ∀ (k i : Nat), k + i ≤ 5 → Bd zs (hdLoop zs k i).2
  | 0, i, _ => Bd.no
  | k + 1, i, h => by
    rw [hdLoop]
    split
    · exact hdLoop_bd k (i + 1) (by omega)
    · exact (Bd.no).first i 15 (by omega) (by decide)
theorem bd_bad (hz : O.AreBytes zs) : Bd zs (rdBad zs) := by
  have hH : Bd zs (headF zs).2 := hdLoop_bd 5 0 (by omega)
  have hH2 : (headF zs).2 = none → (headF zs).1 ≤ zs.length := fun e => by
    obtain ⟨h1, h2⟩ := head_bwd e
    rw [h1]
    have := h2.2
    simpa [hdL] using this
  obtain ⟨t1, t2⟩ := Bd.items (p := (headF zs).1) hz 0 8192 [] hH hH2
  obtain ⟨d1, d2⟩ := Bd.items (p := (rdT zs).2.2.1) hz 1 (8192 - ((rdT zs).1.length : Int)) (rdT zs).2.1 t1 t2
  obtain ⟨e1, e2⟩ := Bd.equs (p := (rdD zs).2.2.1) hz 8192 (rdD zs).2.1 d1 d2
  obtain ⟨g1, g2⟩ := Bd.globs (p := (rdE zs).2.2.1) hz (rdE zs).2.1 [] e1 e2
  unfold rdBad tailB
  split
  · next hq => exact Bd.first (b := (rdG zs).2.2.2) g1 _ 14 (by omega) (by decide)
  · exact g1
end
end Go.Proofs.YtmndccbeddaphaaGreatDoor
namespace Go.Proofs.YtmndccbeddaphaaGreatDoor
open Go.ChangeShapes Go.WideShapes Go.ChangeAt Go.RowKit Go.Sort
set_option linter.unusedVariables false
set_option linter.unusedSimpArgs false
set_option maxRecDepth 100000
theorem rfd (n k : Nat) (hn : n ≤ 1000000) (hk : k ≤ 99) (hk0 : k ≠ 0) (w : World) (q : Nat) (hE : Env w) (hq : w.heap[q]? = some (.cells #[.int .i64 (n : Int), .int .i64 (k : Int)] 68 (0, 0))) : Calls Tryz.prog 11 #[.iface 66 (.pointer (some ⟨q, 0, none⟩)), .agg #[.int .i64 (n : Int), .int .i64 (k : Int)]] w fun e w' => e = .returned (.bool true) ∧ Below w.heap.size w w' := refused_any q n k hn hk hk0 w hE.pow hq
theorem keepB2 {w w' : World} {g : Nat} {x : Obj} (h : w.heap[g]? = some x) (hb : Below w.heap.size w w') : w'.heap[g]? = some x := (hb.block g (Array.getElem?_eq_some_iff.1 h).1).trans h
theorem bchn {w w1 w2 : World} (h1 : Below w.heap.size w w1) (h2 : Below w1.heap.size w1 w2) : Below w.heap.size w w2 := h1.trans (h2.mono h1.size)
def RdOut (Q : World → Value → Value → Prop) (w1 : World) (e : Ending) (w2 : World) : Prop := ∃ ta lt tc da ld dc ea le ec ga lg gc err, e = .returned (.tuple #[.agg #[.slice ta lt tc, .slice da ld dc, .slice ea le ec, .slice ga lg gc], err]) ∧ Below w1.heap.size w1 w2 ∧ Q w2 (.agg #[.slice ta lt tc, .slice da ld dc, .slice ea le ec, .slice ga lg gc]) err
def RdOutD (P : World → Value → Value → Prop) (w1 : World) (e : Ending) (w2 : World) : Prop := ∃ ta lt tc da ld dc ea le ec ga lg gc rm rk, e = .returned (.tuple #[.agg #[.slice ta lt tc, .slice da ld dc, .slice ea le ec, .slice ga lg gc], .agg #[.int .i64 rm, .int .i64 rk]]) ∧ Below w1.heap.size w1 w2 ∧ P w2 (.agg #[.slice ta lt tc, .slice da ld dc, .slice ea le ec, .slice ga lg gc]) (.agg #[.int .i64 rm, .int .i64 rk])
set_option maxHeartbeats 16000000 in
theorem readsG (a : Option Addr) (c n ny : Nat) (ys : List Int) (w : World) (hE : Env w) (hny : ny = ys.length) (hl : O.Lies w a ys) (hn : ny ≤ n) (hc : n ≤ c) (hm : c ≤ 140737488351232) (Q P : World → Value → Value → Prop)
    (hcut : (ny = n ∧ n ≤ 3000) ∨ (ny = n ∧ 1048576 < n) ∨ (ny = 3000 ∧ 3000 < n ∧ n ≤ 1048576))
    (hQ : ∀ w w' u e, Q w u e → Below w.heap.size w w' → Q w' u e) (hP : ∀ w w' u e, P w u e → Below w.heap.size w w' → P w' u e)
    (h10 : ∀ w1, O.RowIs w1 w.heap.size (ys ++ List.replicate 80 165) → Below w.heap.size w w1 → Calls Tryz.prog 10 #[.slice (some ⟨w.heap.size, 0, none⟩) ny (ny + 80)] w1 fun e w2 => RdOut Q w1 e w2)
    (h17 : ∀ w1, Below w.heap.size w w1 → Calls Tryz.prog 17 #[.slice a ny c] w1 fun e w2 => RdOutD P w1 e w2)
    (h11 : ∀ w1 u e v r, Env w1 → Q w1 u e → P w1 v r → Calls Tryz.prog 11 #[e, r] w1 fun e w' => e = .returned (.bool true) ∧ Below w1.heap.size w1 w')
    (h18 : ∀ w1 u e v r, Q w1 u e → P w1 v r → Calls Tryz.prog 18 #[u, v] w1 fun e w' => e = .returned (.bool true) ∧ Below w1.heap.size w1 w') :
    Calls Tryz.prog 5 #[.slice a n c] w fun e w' => e = .returned (.bool true) ∧ Below w.heap.size w w' := by
  have h16 : Hid (Calls Tryz.prog 16 #[.slice a ny c, .int .u8 165] w fun e w' => e = .returned (.slice (some ⟨w.heap.size, 0, none⟩) (ny + 80) (ny + 80)) ∧ O.RowIs w' w.heap.size (ys ++ List.replicate 80 165) ∧ Below w.heap.size w w') := by
    subst hny
    exact O.roomy_any a c ys 165 w hl (by omega)
  have h19 : Hid (∀ W, Below w.heap.size w W → O.RowIs W w.heap.size (ys ++ List.replicate 80 165) → Calls Tryz.prog 19 #[.slice (some ⟨w.heap.size, 0, none⟩) (ny + 80) (ny + 80), .slice a ny c, .int .u8 165] W fun e w' => e = .returned (.bool true) ∧ Below W.heap.size W w') := fun W hb hr => by
    subst hny
    exact O.intact_bel a w.heap.size c ys 165 W (hl.below hb) hr (by omega)
  unfold RdOut at h10
  unfold RdOutD at h17
  replace h10 := Hid.intro h10
  replace h17 := Hid.intro h17
  replace h11 := Hid.intro h11
  replace h18 := Hid.intro h18
  replace hE := Hid.intro hE
  clear hny hl
  rcases hcut with ⟨rfl, hcut⟩ | ⟨rfl, hcut⟩ | ⟨rfl, hc1, hc2⟩
  · go_enter Tryz.func5, Tryz.ntmps5
    go_upto_region 6 with (first
      | (go_at_call 16; (with_reducible refine (h16.out).mono ?_); rintro e w1 ⟨rfl, hr1, b1⟩; replace hr1 := Hid.intro hr1; replace b1 := Hid.intro b1; clear h16)
      | (go_at_call 10; (with_reducible refine (h10.out w1 hr1.out b1.out).mono ?_); rintro e w2 ⟨ta, lt, tc, da, ld, dc, ea, le, ec, ga, lg, gc, err, rfl, b2, q2⟩; have b2' := Hid.intro (bchn b1.out (bchn b2 (below_alloc w2 (.cells #[.slice ta lt tc, .slice da ld dc, .slice ea le ec, .slice ga lg gc] 30)))); replace b2 := Hid.intro b2; replace q2 := Hid.intro q2; clear h10)
      | (go_at_call 17; (with_reducible refine (h17.out _ b2'.out).mono ?_); rintro e w3 ⟨tb, mt, tk, db, md, dk, eb, me, ek, gb, mg, gk, rm, rk, rfl, b3, p3⟩; replace b3 := Hid.intro b3; replace p3 := Hid.intro p3; clear h17))
    all_goals first | omega | skip
    have xu := Hid.intro (keepB2 (heap_alloc_new w2 (.cells #[.slice ta lt tc, .slice da ld dc, .slice ea le ec, .slice ga lg gc] 30)) (bchn b3.out (bchn (below_alloc w3 (.cells #[.slice tb mt tk, .slice db md dk, .slice eb me ek, .slice gb mg gk] 30)) (below_alloc _ (.cells #[.int .i64 rm, .int .i64 rk] 37)))))
    have xv := Hid.intro (keepB (heap_alloc_new w3 (.cells #[.slice tb mt tk, .slice db md dk, .slice eb me ek, .slice gb mg gk] 30)) (.cells #[.int .i64 rm, .int .i64 rk] 37))
    have xr := heap_alloc_new (w3.alloc (.cells #[.slice tb mt tk, .slice db md dk, .slice eb me ek, .slice gb mg gk] 30)) (.cells #[.int .i64 rm, .int .i64 rk] 37)
    rw [show (w3.alloc (.cells #[.slice tb mt tk, .slice db md dk, .slice eb me ek, .slice gb mg gk] 30)).heap.size = w3.heap.size + 1 by simp] at xr
    replace xr := Hid.intro xr
    have hb4 := Hid.intro (bchn b3.out (bchn (below_alloc w3 (.cells #[.slice tb mt tk, .slice db md dk, .slice eb me ek, .slice gb mg gk] 30)) (below_alloc _ (.cells #[.int .i64 rm, .int .i64 rk] 37))))
    have hq4 := Hid.intro (hQ _ _ _ _ (hQ _ _ _ _ q2.out (below_alloc w2 (.cells #[.slice ta lt tc, .slice da ld dc, .slice ea le ec, .slice ga lg gc] 30))) hb4.out)
    have hp4 := Hid.intro (hP _ _ _ _ p3.out (bchn (below_alloc w3 (.cells #[.slice tb mt tk, .slice db md dk, .slice eb me ek, .slice gb mg gk] 30)) (below_alloc _ (.cells #[.int .i64 rm, .int .i64 rk] 37))))
    have hB4 := Hid.intro (bchn b2'.out hb4.out)
    have hr4 := Hid.intro (hr1.out.on (bchn (bchn b2.out (below_alloc w2 (.cells #[.slice ta lt tc, .slice da ld dc, .slice ea le ec, .slice ga lg gc] 30))) hb4.out))
    generalize (w3.alloc (.cells #[.slice tb mt tk, .slice db md dk, .slice eb me ek, .slice gb mg gk] 30)).alloc (.cells #[.int .i64 rm, .int .i64 rk] 37) = W4 at *
    have hc : Hid (∀ W, Below W4.heap.size W4 W → (W.cell? ⟨w2.heap.size, 0, none⟩ = some (.slice ta lt tc) ∧ W.cell? ⟨w2.heap.size, 1, none⟩ = some (.slice da ld dc) ∧ W.cell? ⟨w2.heap.size, 2, none⟩ = some (.slice ea le ec) ∧ W.cell? ⟨w2.heap.size, 3, none⟩ = some (.slice ga lg gc)) ∧ (W.cell? ⟨w3.heap.size, 0, none⟩ = some (.slice tb mt tk) ∧ W.cell? ⟨w3.heap.size, 1, none⟩ = some (.slice db md dk) ∧ W.cell? ⟨w3.heap.size, 2, none⟩ = some (.slice eb me ek) ∧ W.cell? ⟨w3.heap.size, 3, none⟩ = some (.slice gb mg gk)) ∧ W.cell? ⟨w3.heap.size + 1, 0, none⟩ = some (.int .i64 rm) ∧ W.cell? ⟨w3.heap.size + 1, 1, none⟩ = some (.int .i64 rk)) := fun W hb => ⟨four_read (keepB2 xu.out hb), four_read (keepB2 xv.out hb), two_readR (keepB2 xr.out hb)⟩
    have k11 : Hid (∀ W, Below W4.heap.size W4 W → Calls Tryz.prog 11 #[err, .agg #[.int .i64 rm, .int .i64 rk]] W fun e w' => e = .returned (.bool true) ∧ Below W4.heap.size W4 w') := fun W hb => (h11.out W _ _ _ _ (hE.out.below (bchn hB4.out hb)) (hQ _ _ _ _ hq4.out hb) (hP _ _ _ _ hp4.out hb)).mono (fun e w' h => ⟨h.1, bchn hb h.2⟩)
    have k18 : Hid (∀ W, Below W4.heap.size W4 W → Calls Tryz.prog 18 #[.agg #[.slice ta lt tc, .slice da ld dc, .slice ea le ec, .slice ga lg gc], .agg #[.slice tb mt tk, .slice db md dk, .slice eb me ek, .slice gb mg gk]] W fun e w' => e = .returned (.bool true) ∧ Below W4.heap.size W4 w') := fun W hb => (h18.out W _ _ _ _ (hQ _ _ _ _ hq4.out hb) (hP _ _ _ _ hp4.out hb)).mono (fun e w' h => ⟨h.1, bchn hb h.2⟩)
    have k19 : Hid (∀ W, Below W4.heap.size W4 W → Calls Tryz.prog 19 #[.slice (some ⟨w.heap.size, 0, none⟩) (ny + 80) (ny + 80), .slice a ny c, .int .u8 165] W fun e w' => e = .returned (.bool true) ∧ Below W4.heap.size W4 w') := fun W hb => (h19.out W (bchn hB4.out hb) (hr4.out.on hb)).mono (fun e w' h => ⟨h.1, bchn hb h.2⟩)
    have k12 : Hid (∀ W, Below W4.heap.size W4 W → Calls Tryz.prog 12 #[] W fun e w' => e = .returned (.bool true) ∧ Below W4.heap.size W4 w') := fun W hb => (known_is W (hE.out.below (bchn hB4.out hb))).mono (fun e w' h => ⟨h.1, bchn hb h.2⟩)
    obtain ⟨⟨x0, x1, x2, x3⟩, ⟨y0, y1, y2, y3⟩, z0, z1⟩ := hc.out W4 (Below.refl _ _)
    clear xu xv xr hb4 hq4 hp4 hr4 b1 b2 b3 q2 p3 hr1 h11 h18 h19
    go_wp2_with (first
      | (go_at_call 11; (with_reducible refine (k11.out _ (Below.refl _ _)).mono ?_); rintro e w5 ⟨rfl, b5⟩; clear x0 x1 x2 x3 y0 y1 y2 y3 z0 z1; obtain ⟨⟨x0, x1, x2, x3⟩, ⟨y0, y1, y2, y3⟩, z0, z1⟩ := hc.out w5 b5; replace b5 := Hid.intro b5; clear k11)
      | (go_at_call 18; (with_reducible refine (k18.out _ b5.out).mono ?_); rintro e w6 ⟨rfl, b6⟩; replace b6 := Hid.intro b6; clear k18)
      | (go_at_call 19; (with_reducible refine (k19.out _ b6.out).mono ?_); rintro e w7 ⟨rfl, b7⟩; replace b7 := Hid.intro b7; clear k19)
      | (go_at_call 12; (with_reducible refine (k12.out _ b7.out).mono ?_); rintro e w8 ⟨rfl, b8⟩; replace b8 := Hid.intro b8; clear k12))
    all_goals first | omega | skip
    go_ret
    exact ⟨rfl, bchn hB4.out b8.out⟩
  · go_enter Tryz.func5, Tryz.ntmps5
    go_upto_region 6 with (first
      | (go_at_call 16; (with_reducible refine (h16.out).mono ?_); rintro e w1 ⟨rfl, hr1, b1⟩; replace hr1 := Hid.intro hr1; replace b1 := Hid.intro b1; clear h16)
      | (go_at_call 10; (with_reducible refine (h10.out w1 hr1.out b1.out).mono ?_); rintro e w2 ⟨ta, lt, tc, da, ld, dc, ea, le, ec, ga, lg, gc, err, rfl, b2, q2⟩; have b2' := Hid.intro (bchn b1.out (bchn b2 (below_alloc w2 (.cells #[.slice ta lt tc, .slice da ld dc, .slice ea le ec, .slice ga lg gc] 30)))); replace b2 := Hid.intro b2; replace q2 := Hid.intro q2; clear h10)
      | (go_at_call 17; (with_reducible refine (h17.out _ b2'.out).mono ?_); rintro e w3 ⟨tb, mt, tk, db, md, dk, eb, me, ek, gb, mg, gk, rm, rk, rfl, b3, p3⟩; replace b3 := Hid.intro b3; replace p3 := Hid.intro p3; clear h17))
    all_goals first | omega | skip
    have xu := Hid.intro (keepB2 (heap_alloc_new w2 (.cells #[.slice ta lt tc, .slice da ld dc, .slice ea le ec, .slice ga lg gc] 30)) (bchn b3.out (bchn (below_alloc w3 (.cells #[.slice tb mt tk, .slice db md dk, .slice eb me ek, .slice gb mg gk] 30)) (below_alloc _ (.cells #[.int .i64 rm, .int .i64 rk] 37)))))
    have xv := Hid.intro (keepB (heap_alloc_new w3 (.cells #[.slice tb mt tk, .slice db md dk, .slice eb me ek, .slice gb mg gk] 30)) (.cells #[.int .i64 rm, .int .i64 rk] 37))
    have xr := heap_alloc_new (w3.alloc (.cells #[.slice tb mt tk, .slice db md dk, .slice eb me ek, .slice gb mg gk] 30)) (.cells #[.int .i64 rm, .int .i64 rk] 37)
    rw [show (w3.alloc (.cells #[.slice tb mt tk, .slice db md dk, .slice eb me ek, .slice gb mg gk] 30)).heap.size = w3.heap.size + 1 by simp] at xr
    replace xr := Hid.intro xr
    have hb4 := Hid.intro (bchn b3.out (bchn (below_alloc w3 (.cells #[.slice tb mt tk, .slice db md dk, .slice eb me ek, .slice gb mg gk] 30)) (below_alloc _ (.cells #[.int .i64 rm, .int .i64 rk] 37))))
    have hq4 := Hid.intro (hQ _ _ _ _ (hQ _ _ _ _ q2.out (below_alloc w2 (.cells #[.slice ta lt tc, .slice da ld dc, .slice ea le ec, .slice ga lg gc] 30))) hb4.out)
    have hp4 := Hid.intro (hP _ _ _ _ p3.out (bchn (below_alloc w3 (.cells #[.slice tb mt tk, .slice db md dk, .slice eb me ek, .slice gb mg gk] 30)) (below_alloc _ (.cells #[.int .i64 rm, .int .i64 rk] 37))))
    have hB4 := Hid.intro (bchn b2'.out hb4.out)
    have hr4 := Hid.intro (hr1.out.on (bchn (bchn b2.out (below_alloc w2 (.cells #[.slice ta lt tc, .slice da ld dc, .slice ea le ec, .slice ga lg gc] 30))) hb4.out))
    generalize (w3.alloc (.cells #[.slice tb mt tk, .slice db md dk, .slice eb me ek, .slice gb mg gk] 30)).alloc (.cells #[.int .i64 rm, .int .i64 rk] 37) = W4 at *
    have hc : Hid (∀ W, Below W4.heap.size W4 W → (W.cell? ⟨w2.heap.size, 0, none⟩ = some (.slice ta lt tc) ∧ W.cell? ⟨w2.heap.size, 1, none⟩ = some (.slice da ld dc) ∧ W.cell? ⟨w2.heap.size, 2, none⟩ = some (.slice ea le ec) ∧ W.cell? ⟨w2.heap.size, 3, none⟩ = some (.slice ga lg gc)) ∧ (W.cell? ⟨w3.heap.size, 0, none⟩ = some (.slice tb mt tk) ∧ W.cell? ⟨w3.heap.size, 1, none⟩ = some (.slice db md dk) ∧ W.cell? ⟨w3.heap.size, 2, none⟩ = some (.slice eb me ek) ∧ W.cell? ⟨w3.heap.size, 3, none⟩ = some (.slice gb mg gk)) ∧ W.cell? ⟨w3.heap.size + 1, 0, none⟩ = some (.int .i64 rm) ∧ W.cell? ⟨w3.heap.size + 1, 1, none⟩ = some (.int .i64 rk)) := fun W hb => ⟨four_read (keepB2 xu.out hb), four_read (keepB2 xv.out hb), two_readR (keepB2 xr.out hb)⟩
    have k11 : Hid (∀ W, Below W4.heap.size W4 W → Calls Tryz.prog 11 #[err, .agg #[.int .i64 rm, .int .i64 rk]] W fun e w' => e = .returned (.bool true) ∧ Below W4.heap.size W4 w') := fun W hb => (h11.out W _ _ _ _ (hE.out.below (bchn hB4.out hb)) (hQ _ _ _ _ hq4.out hb) (hP _ _ _ _ hp4.out hb)).mono (fun e w' h => ⟨h.1, bchn hb h.2⟩)
    have k18 : Hid (∀ W, Below W4.heap.size W4 W → Calls Tryz.prog 18 #[.agg #[.slice ta lt tc, .slice da ld dc, .slice ea le ec, .slice ga lg gc], .agg #[.slice tb mt tk, .slice db md dk, .slice eb me ek, .slice gb mg gk]] W fun e w' => e = .returned (.bool true) ∧ Below W4.heap.size W4 w') := fun W hb => (h18.out W _ _ _ _ (hQ _ _ _ _ hq4.out hb) (hP _ _ _ _ hp4.out hb)).mono (fun e w' h => ⟨h.1, bchn hb h.2⟩)
    have k19 : Hid (∀ W, Below W4.heap.size W4 W → Calls Tryz.prog 19 #[.slice (some ⟨w.heap.size, 0, none⟩) (ny + 80) (ny + 80), .slice a ny c, .int .u8 165] W fun e w' => e = .returned (.bool true) ∧ Below W4.heap.size W4 w') := fun W hb => (h19.out W (bchn hB4.out hb) (hr4.out.on hb)).mono (fun e w' h => ⟨h.1, bchn hb h.2⟩)
    have k12 : Hid (∀ W, Below W4.heap.size W4 W → Calls Tryz.prog 12 #[] W fun e w' => e = .returned (.bool true) ∧ Below W4.heap.size W4 w') := fun W hb => (known_is W (hE.out.below (bchn hB4.out hb))).mono (fun e w' h => ⟨h.1, bchn hb h.2⟩)
    obtain ⟨⟨x0, x1, x2, x3⟩, ⟨y0, y1, y2, y3⟩, z0, z1⟩ := hc.out W4 (Below.refl _ _)
    clear xu xv xr hb4 hq4 hp4 hr4 b1 b2 b3 q2 p3 hr1 h11 h18 h19
    go_wp2_with (first
      | (go_at_call 11; (with_reducible refine (k11.out _ (Below.refl _ _)).mono ?_); rintro e w5 ⟨rfl, b5⟩; clear x0 x1 x2 x3 y0 y1 y2 y3 z0 z1; obtain ⟨⟨x0, x1, x2, x3⟩, ⟨y0, y1, y2, y3⟩, z0, z1⟩ := hc.out w5 b5; replace b5 := Hid.intro b5; clear k11)
      | (go_at_call 18; (with_reducible refine (k18.out _ b5.out).mono ?_); rintro e w6 ⟨rfl, b6⟩; replace b6 := Hid.intro b6; clear k18)
      | (go_at_call 19; (with_reducible refine (k19.out _ b6.out).mono ?_); rintro e w7 ⟨rfl, b7⟩; replace b7 := Hid.intro b7; clear k19)
      | (go_at_call 12; (with_reducible refine (k12.out _ b7.out).mono ?_); rintro e w8 ⟨rfl, b8⟩; replace b8 := Hid.intro b8; clear k12))
    all_goals first | omega | skip
    go_ret
    exact ⟨rfl, bchn hB4.out b8.out⟩
  · go_enter Tryz.func5, Tryz.ntmps5
    go_upto_region 6 with (first
      | (go_at_call 16; (with_reducible refine (h16.out).mono ?_); rintro e w1 ⟨rfl, hr1, b1⟩; replace hr1 := Hid.intro hr1; replace b1 := Hid.intro b1; clear h16)
      | (go_at_call 10; (with_reducible refine (h10.out w1 hr1.out b1.out).mono ?_); rintro e w2 ⟨ta, lt, tc, da, ld, dc, ea, le, ec, ga, lg, gc, err, rfl, b2, q2⟩; have b2' := Hid.intro (bchn b1.out (bchn b2 (below_alloc w2 (.cells #[.slice ta lt tc, .slice da ld dc, .slice ea le ec, .slice ga lg gc] 30)))); replace b2 := Hid.intro b2; replace q2 := Hid.intro q2; clear h10)
      | (go_at_call 17; (with_reducible refine (h17.out _ b2'.out).mono ?_); rintro e w3 ⟨tb, mt, tk, db, md, dk, eb, me, ek, gb, mg, gk, rm, rk, rfl, b3, p3⟩; replace b3 := Hid.intro b3; replace p3 := Hid.intro p3; clear h17))
    all_goals first | omega | skip
    have xu := Hid.intro (keepB2 (heap_alloc_new w2 (.cells #[.slice ta lt tc, .slice da ld dc, .slice ea le ec, .slice ga lg gc] 30)) (bchn b3.out (bchn (below_alloc w3 (.cells #[.slice tb mt tk, .slice db md dk, .slice eb me ek, .slice gb mg gk] 30)) (below_alloc _ (.cells #[.int .i64 rm, .int .i64 rk] 37)))))
    have xv := Hid.intro (keepB (heap_alloc_new w3 (.cells #[.slice tb mt tk, .slice db md dk, .slice eb me ek, .slice gb mg gk] 30)) (.cells #[.int .i64 rm, .int .i64 rk] 37))
    have xr := heap_alloc_new (w3.alloc (.cells #[.slice tb mt tk, .slice db md dk, .slice eb me ek, .slice gb mg gk] 30)) (.cells #[.int .i64 rm, .int .i64 rk] 37)
    rw [show (w3.alloc (.cells #[.slice tb mt tk, .slice db md dk, .slice eb me ek, .slice gb mg gk] 30)).heap.size = w3.heap.size + 1 by simp] at xr
    replace xr := Hid.intro xr
    have hb4 := Hid.intro (bchn b3.out (bchn (below_alloc w3 (.cells #[.slice tb mt tk, .slice db md dk, .slice eb me ek, .slice gb mg gk] 30)) (below_alloc _ (.cells #[.int .i64 rm, .int .i64 rk] 37))))
    have hq4 := Hid.intro (hQ _ _ _ _ (hQ _ _ _ _ q2.out (below_alloc w2 (.cells #[.slice ta lt tc, .slice da ld dc, .slice ea le ec, .slice ga lg gc] 30))) hb4.out)
    have hp4 := Hid.intro (hP _ _ _ _ p3.out (bchn (below_alloc w3 (.cells #[.slice tb mt tk, .slice db md dk, .slice eb me ek, .slice gb mg gk] 30)) (below_alloc _ (.cells #[.int .i64 rm, .int .i64 rk] 37))))
    have hB4 := Hid.intro (bchn b2'.out hb4.out)
    have hr4 := Hid.intro (hr1.out.on (bchn (bchn b2.out (below_alloc w2 (.cells #[.slice ta lt tc, .slice da ld dc, .slice ea le ec, .slice ga lg gc] 30))) hb4.out))
    generalize (w3.alloc (.cells #[.slice tb mt tk, .slice db md dk, .slice eb me ek, .slice gb mg gk] 30)).alloc (.cells #[.int .i64 rm, .int .i64 rk] 37) = W4 at *
    have hc : Hid (∀ W, Below W4.heap.size W4 W → (W.cell? ⟨w2.heap.size, 0, none⟩ = some (.slice ta lt tc) ∧ W.cell? ⟨w2.heap.size, 1, none⟩ = some (.slice da ld dc) ∧ W.cell? ⟨w2.heap.size, 2, none⟩ = some (.slice ea le ec) ∧ W.cell? ⟨w2.heap.size, 3, none⟩ = some (.slice ga lg gc)) ∧ (W.cell? ⟨w3.heap.size, 0, none⟩ = some (.slice tb mt tk) ∧ W.cell? ⟨w3.heap.size, 1, none⟩ = some (.slice db md dk) ∧ W.cell? ⟨w3.heap.size, 2, none⟩ = some (.slice eb me ek) ∧ W.cell? ⟨w3.heap.size, 3, none⟩ = some (.slice gb mg gk)) ∧ W.cell? ⟨w3.heap.size + 1, 0, none⟩ = some (.int .i64 rm) ∧ W.cell? ⟨w3.heap.size + 1, 1, none⟩ = some (.int .i64 rk)) := fun W hb => ⟨four_read (keepB2 xu.out hb), four_read (keepB2 xv.out hb), two_readR (keepB2 xr.out hb)⟩
    have k11 : Hid (∀ W, Below W4.heap.size W4 W → Calls Tryz.prog 11 #[err, .agg #[.int .i64 rm, .int .i64 rk]] W fun e w' => e = .returned (.bool true) ∧ Below W4.heap.size W4 w') := fun W hb => (h11.out W _ _ _ _ (hE.out.below (bchn hB4.out hb)) (hQ _ _ _ _ hq4.out hb) (hP _ _ _ _ hp4.out hb)).mono (fun e w' h => ⟨h.1, bchn hb h.2⟩)
    have k18 : Hid (∀ W, Below W4.heap.size W4 W → Calls Tryz.prog 18 #[.agg #[.slice ta lt tc, .slice da ld dc, .slice ea le ec, .slice ga lg gc], .agg #[.slice tb mt tk, .slice db md dk, .slice eb me ek, .slice gb mg gk]] W fun e w' => e = .returned (.bool true) ∧ Below W4.heap.size W4 w') := fun W hb => (h18.out W _ _ _ _ (hQ _ _ _ _ hq4.out hb) (hP _ _ _ _ hp4.out hb)).mono (fun e w' h => ⟨h.1, bchn hb h.2⟩)
    have k19 : Hid (∀ W, Below W4.heap.size W4 W → Calls Tryz.prog 19 #[.slice (some ⟨w.heap.size, 0, none⟩) 3080 3080, .slice a 3000 c, .int .u8 165] W fun e w' => e = .returned (.bool true) ∧ Below W4.heap.size W4 w') := fun W hb => (h19.out W (bchn hB4.out hb) (hr4.out.on hb)).mono (fun e w' h => ⟨h.1, bchn hb h.2⟩)
    have k12 : Hid (∀ W, Below W4.heap.size W4 W → Calls Tryz.prog 12 #[] W fun e w' => e = .returned (.bool true) ∧ Below W4.heap.size W4 w') := fun W hb => (known_is W (hE.out.below (bchn hB4.out hb))).mono (fun e w' h => ⟨h.1, bchn hb h.2⟩)
    obtain ⟨⟨x0, x1, x2, x3⟩, ⟨y0, y1, y2, y3⟩, z0, z1⟩ := hc.out W4 (Below.refl _ _)
    clear xu xv xr hb4 hq4 hp4 hr4 b1 b2 b3 q2 p3 hr1 h11 h18 h19
    go_wp2_with (first
      | (go_at_call 11; (with_reducible refine (k11.out _ (Below.refl _ _)).mono ?_); rintro e w5 ⟨rfl, b5⟩; clear x0 x1 x2 x3 y0 y1 y2 y3 z0 z1; obtain ⟨⟨x0, x1, x2, x3⟩, ⟨y0, y1, y2, y3⟩, z0, z1⟩ := hc.out w5 b5; replace b5 := Hid.intro b5; clear k11)
      | (go_at_call 18; (with_reducible refine (k18.out _ b5.out).mono ?_); rintro e w6 ⟨rfl, b6⟩; replace b6 := Hid.intro b6; clear k18)
      | (go_at_call 19; (with_reducible refine (k19.out _ b6.out).mono ?_); rintro e w7 ⟨rfl, b7⟩; replace b7 := Hid.intro b7; clear k19)
      | (go_at_call 12; (with_reducible refine (k12.out _ b7.out).mono ?_); rintro e w8 ⟨rfl, b8⟩; replace b8 := Hid.intro b8; clear k12))
    all_goals first | omega | skip
    go_ret
    exact ⟨rfl, bchn hB4.out b8.out⟩
set_option maxHeartbeats 4000000 in
theorem drRead_long (w : World) (a : Option Addr) (n c : Nat) (hn : 1048576 < n) (hm : n ≤ 140737488351232) : Calls Tryz.prog 17 #[.slice a n c] w fun e w' => e = .returned (.tuple #[.agg uZ, .agg #[.int .i64 0, .int .i64 3]]) ∧ Below w.heap.size w w' := by
  have hD := HD.start w
  have hn2 : (1048576 : Int) < (n : Int) := by omega
  go_enter Tryz.func17, Tryz.ntmps17
  go_upto_region 1 with fail
  generalize (w.alloc (.cells uZ 30)).alloc (.cells refZ 37) = W0 at *
  obtain ⟨h0, h1, hB, _⟩ := hD
  obtain ⟨s0, k0⟩ := row_set h0 0 (.slice none 0 0)
  obtain ⟨s1, k1⟩ := row_set s0 1 (.slice none 0 0)
  obtain ⟨s2, k2⟩ := row_set s1 2 (.slice none 0 0)
  obtain ⟨s3, k3⟩ := row_set s2 3 (.slice none 0 0)
  have hk := grown_trans (grown_trans (grown_trans k0 k1) k2) k3
  have t1 := (hk.block _ (blk_lt h1) (fun e => by have := Option.some.inj e; omega)).trans h1
  obtain ⟨s4, k4⟩ := row_set t1 0 (.int .i64 0)
  obtain ⟨s5, k5⟩ := row_set s4 1 (.int .i64 3)
  have hk2 := grown_trans k4 k5
  have e3 : Hid (Below w.heap.size w ((((((W0.setCell ⟨w.heap.size, 0, none⟩ (.slice none 0 0)).setCell ⟨w.heap.size, 1, none⟩ (.slice none 0 0)).setCell ⟨w.heap.size, 2, none⟩ (.slice none 0 0)).setCell ⟨w.heap.size, 3, none⟩ (.slice none 0 0)).setCell ⟨w.heap.size + 1, 0, none⟩ (.int .i64 0)).setCell ⟨w.heap.size + 1, 1, none⟩ (.int .i64 3))) := (hB.grown hk hB.size (fun g e => by have := Option.some.inj e; omega)).grown hk2 (Nat.le_trans hB.size hk.size) (fun g e => by have := Option.some.inj e; omega)
  have e1 : Hid (((((((W0.setCell ⟨w.heap.size, 0, none⟩ (.slice none 0 0)).setCell ⟨w.heap.size, 1, none⟩ (.slice none 0 0)).setCell ⟨w.heap.size, 2, none⟩ (.slice none 0 0)).setCell ⟨w.heap.size, 3, none⟩ (.slice none 0 0)).setCell ⟨w.heap.size + 1, 0, none⟩ (.int .i64 0)).setCell ⟨w.heap.size + 1, 1, none⟩ (.int .i64 3)).heap[w.heap.size]? = some (.cells uZ 30 (0, 0))) := (hk2.block _ (blk_lt s3) (fun e => by have := Option.some.inj e; omega)).trans s3
  have e2 : Hid (((((((W0.setCell ⟨w.heap.size, 0, none⟩ (.slice none 0 0)).setCell ⟨w.heap.size, 1, none⟩ (.slice none 0 0)).setCell ⟨w.heap.size, 2, none⟩ (.slice none 0 0)).setCell ⟨w.heap.size, 3, none⟩ (.slice none 0 0)).setCell ⟨w.heap.size + 1, 0, none⟩ (.int .i64 0)).setCell ⟨w.heap.size + 1, 1, none⟩ (.int .i64 3)).heap[w.heap.size + 1]? = some (.cells #[.int .i64 0, .int .i64 3] 37 (0, 0))) := s5
  obtain ⟨z0, z1, z2, z3⟩ := four_read h0
  obtain ⟨y0, y1⟩ := two_readR h1
  have zf := fun j => frozen_of_row W0 w.heap.size j _ 30 h0
  have yf := fun j => frozen_of_row W0 (w.heap.size + 1) j _ 37 h1
  clear s0 s1 s2 s3 s4 s5 k0 k1 k2 k3 k4 k5 hk hk2 t1 h0 h1 hB
  go_wp2
  all_goals first | omega | skip
  generalize (((((W0.setCell ⟨w.heap.size, 0, none⟩ (.slice none 0 0)).setCell ⟨w.heap.size, 1, none⟩ (.slice none 0 0)).setCell ⟨w.heap.size, 2, none⟩ (.slice none 0 0)).setCell ⟨w.heap.size, 3, none⟩ (.slice none 0 0)).setCell ⟨w.heap.size + 1, 0, none⟩ (.int .i64 0)).setCell ⟨w.heap.size + 1, 1, none⟩ (.int .i64 3) = w9 at *
  obtain ⟨m0, m1, m2, m3⟩ := four_read e1.out
  obtain ⟨m4, m5⟩ := two_readR e2.out
  refine bodyPost_ret (by simp [results, Tryz.results17, go_sem, m0, m1, m2, m3, m4, m5]; try rfl) rfl ?_
  exact ⟨rfl, e3.out⟩
theorem lies_take {w : World} {a : Option Addr} {zs : List Int} (h : O.Lies w a zs) (n : Nat) : O.Lies w a (zs.take n) := by
  refine ⟨O.areBytes_take _ h.1 n, ?_⟩
  rcases h.2 with h0 | ⟨b, off, ha, hc⟩
  · exact .inl (by rw [h0]; simp)
  · refine .inr ⟨b, off, ha, fun i hi => ?_⟩
    simp at hi
    rw [hc i (by omega)]
    simp [List.getElem?_take_of_lt (show i < n by omega)]
theorem readsB (a : Option Addr) (c n ny : Nat) (ys : List Int) (w : World) (hE : Env w) (hny : ny = ys.length) (hl : O.Lies w a ys) (hn : ny ≤ n) (hc : n ≤ c) (hm : c ≤ 140737488351232) (m k : Nat) (hm1 : m ≤ 1000000) (hk1 : k ≤ 99) (hk0 : k ≠ 0)
    (hcut : (ny = n ∧ n ≤ 3000) ∨ (ny = n ∧ 1048576 < n) ∨ (ny = 3000 ∧ 3000 < n ∧ n ≤ 1048576))
    (h10 : ∀ w1, O.RowIs w1 w.heap.size (ys ++ List.replicate 80 165) → Below w.heap.size w w1 → Calls Tryz.prog 10 #[.slice (some ⟨w.heap.size, 0, none⟩) ny (ny + 80)] w1 fun e w2 => Below w1.heap.size w1 w2 ∧ ∃ q, e = .returned (.tuple #[.agg uZ, .iface 66 (.pointer (some ⟨q, 0, none⟩))]) ∧ w2.heap[q]? = some (.cells #[.int .i64 (m : Int), .int .i64 (k : Int)] 68 (0, 0)))
    (h17 : ∀ w1, Below w.heap.size w w1 → Calls Tryz.prog 17 #[.slice a ny c] w1 fun e w2 => e = .returned (.tuple #[.agg uZ, .agg #[.int .i64 (m : Int), .int .i64 (k : Int)]]) ∧ Below w1.heap.size w1 w2) :
    Calls Tryz.prog 5 #[.slice a n c] w fun e w' => e = .returned (.bool true) ∧ Below w.heap.size w w' := by
  refine readsG a c n ny ys w hE hny hl hn hc hm (fun w u e => u = .agg uZ ∧ ∃ q, e = .iface 66 (.pointer (some ⟨q, 0, none⟩)) ∧ w.heap[q]? = some (.cells #[.int .i64 (m : Int), .int .i64 (k : Int)] 68 (0, 0))) (fun w v r => v = .agg uZ ∧ r = .agg #[.int .i64 (m : Int), .int .i64 (k : Int)]) hcut ?_ ?_ ?_ ?_ ?_ ?_
  · rintro w w' u e ⟨h1, q, h2, h3⟩ hb
    exact ⟨h1, q, h2, keepB2 h3 hb⟩
  · rintro w w' u e h hb
    exact h
  · intro w1 hr hb
    refine (h10 w1 hr hb).mono ?_
    rintro e w2 ⟨hb2, q, rfl, hq⟩
    exact ⟨none, 0, 0, none, 0, 0, none, 0, 0, none, 0, 0, _, rfl, hb2, rfl, q, rfl, hq⟩
  · intro w1 hb
    refine (h17 w1 hb).mono ?_
    rintro e w2 ⟨rfl, hb2⟩
    exact ⟨none, 0, 0, none, 0, 0, none, 0, 0, none, 0, 0, _, _, rfl, hb2, rfl, rfl⟩
  · rintro w1 u e v r hE1 ⟨_, q, rfl, hq⟩ ⟨_, rfl⟩
    exact rfd m k hm1 hk1 hk0 w1 q hE1 hq
  · rintro w1 u e v r ⟨rfl, _⟩ ⟨rfl, _⟩
    exact same_E w1 none 0 none 0 none 0 none 0
theorem readsN (a : Option Addr) (c n ny : Nat) (ys : List Int) (w : World) (hE : Env w) (hny : ny = ys.length) (hl : O.Lies w a ys) (hn : ny ≤ n) (hc : n ≤ c) (hm : c ≤ 140737488351232) (u : UVal) (hu : HeldU u)
    (hcut : (ny = n ∧ n ≤ 3000) ∨ (ny = n ∧ 1048576 < n) ∨ (ny = 3000 ∧ 3000 < n ∧ n ≤ 1048576))
    (h10 : ∀ w1, O.RowIs w1 w.heap.size (ys ++ List.replicate 80 165) → Below w.heap.size w w1 → Calls Tryz.prog 10 #[.slice (some ⟨w.heap.size, 0, none⟩) ny (ny + 80)] w1 fun e w2 => Below w1.heap.size w1 w2 ∧ ∃ ta tc da dc ea ec ga gc, e = .returned (.tuple #[.agg (unitV ta tc da dc ea ec ga gc u), .nilIface]) ∧ UnitIn w2 ta da ea ga u)
    (h17 : ∀ w1, Below w.heap.size w w1 → Calls Tryz.prog 17 #[.slice a ny c] w1 fun e w2 => Below w1.heap.size w1 w2 ∧ ∃ ta tc da dc ea ec ga gc, e = .returned (.tuple #[.agg (unitV ta tc da dc ea ec ga gc u), .agg refZ]) ∧ UnitIn w2 ta da ea ga u) :
    Calls Tryz.prog 5 #[.slice a n c] w fun e w' => e = .returned (.bool true) ∧ Below w.heap.size w w' := by
  refine readsG a c n ny ys w hE hny hl hn hc hm (fun w v e => e = .nilIface ∧ ∃ ta tc da dc ea ec ga gc, v = .agg (unitV ta tc da dc ea ec ga gc u) ∧ UnitIn w ta da ea ga u) (fun w v r => r = .agg refZ ∧ ∃ ta tc da dc ea ec ga gc, v = .agg (unitV ta tc da dc ea ec ga gc u) ∧ UnitIn w ta da ea ga u) hcut ?_ ?_ ?_ ?_ ?_ ?_
  · rintro w w' v e ⟨h1, ta, tc, da, dc, ea, ec, ga, gc, h2, h3⟩ hb
    exact ⟨h1, ta, tc, da, dc, ea, ec, ga, gc, h2, h3.below hb⟩
  · rintro w w' v e ⟨h1, ta, tc, da, dc, ea, ec, ga, gc, h2, h3⟩ hb
    exact ⟨h1, ta, tc, da, dc, ea, ec, ga, gc, h2, h3.below hb⟩
  · intro w1 hr hb
    refine (h10 w1 hr hb).mono ?_
    rintro e w2 ⟨hb2, ta, tc, da, dc, ea, ec, ga, gc, rfl, hI⟩
    exact ⟨ta, u.text.length, tc, da, u.data.length, dc, ea, u.equs.length, ec, ga, u.globs.length, gc, _, rfl, hb2, rfl, ta, tc, da, dc, ea, ec, ga, gc, rfl, hI⟩
  · intro w1 hb
    refine (h17 w1 hb).mono ?_
    rintro e w2 ⟨hb2, ta, tc, da, dc, ea, ec, ga, gc, rfl, hI⟩
    exact ⟨ta, u.text.length, tc, da, u.data.length, dc, ea, u.equs.length, ec, ga, u.globs.length, gc, 0, 0, rfl, hb2, rfl, ta, tc, da, dc, ea, ec, ga, gc, rfl, hI⟩
  · rintro w1 v e v2 r hE1 ⟨rfl, _⟩ ⟨rfl, _⟩
    exact refused_none 0 w1
  · rintro w1 v e v2 r ⟨_, ta, tc, da, dc, ea, ec, ga, gc, rfl, hI⟩ ⟨_, tb, tk, db, dk, eb, ek, gb, gk, rfl, hJ⟩
    exact sameUnit_any ta da ea ga tb db eb gb tc dc ec gc tk dk ek gk u hu w1 hI hJ
theorem readsS (a : Option Addr) (c n ny : Nat) (ys : List Int) (w : World) (hE : Env w) (hny : ny = ys.length) (hl : O.Lies w a ys) (ha : ∀ x, a = some x → x.block < w.heap.size) (hn : ny ≤ n) (hc : n ≤ c) (hm : c ≤ 140737488351232) (hcut : (ny = n ∧ n ≤ 3000) ∨ (ny = 3000 ∧ 3000 < n ∧ n ≤ 1048576)) : Calls Tryz.prog 5 #[.slice a n c] w fun e w' => e = .returned (.bool true) ∧ Below w.heap.size w w' := by
  have hcut' : (ny = n ∧ n ≤ 3000) ∨ (ny = n ∧ 1048576 < n) ∨ (ny = 3000 ∧ 3000 < n ∧ n ≤ 1048576) := by rcases hcut with h | h; exact .inl h; exact .inr (.inr h)
  have hsm : ys.length ≤ 3000 := by omega
  cases hb : rdBad ys with
  | some f =>
    obtain ⟨m, k, rfl, hm1, hk0, hk1⟩ := bd_bad hl.1 f hb
    refine readsB a c n ny ys w hE hny hl hn hc hm m k (by omega) hk1 hk0 hcut' (fun w1 hr hB => ?_) (fun w1 hB => ?_)
    · subst hny
      exact read_bad m k (hE.below hB) (hr.lies hl.1) (fun x hx => by cases hx; exact hr.lt) (by omega) (by omega) hb
    · subst hny
      refine (drRead_is (w := w1) (hl.below hB) (fun x hx => Nat.lt_of_lt_of_le (ha x hx) hB.size) (by omega) (by omega)).mono ?_
      rintro e w2 ⟨hB2, ⟨f, h1, h2⟩ | ⟨h1, _⟩⟩
      · rw [hb] at h1
        cases h1
        exact ⟨h2, hB2⟩
      · rw [hb] at h1
        cases h1
  | none =>
    refine readsN a c n ny ys w hE hny hl hn hc hm (rdU ys) (unit_bwd hl.1 hb).1.held hcut' (fun w1 hr hB => ?_) (fun w1 hB => ?_)
    · subst hny
      exact read_ok (hE.below hB) (hr.lies hl.1) (fun x hx => by cases hx; exact hr.lt) (by omega) (by omega) hb
    · subst hny
      refine (drRead_is (w := w1) (hl.below hB) (fun x hx => Nat.lt_of_lt_of_le (ha x hx) hB.size) (by omega) (by omega)).mono ?_
      rintro e w2 ⟨hB2, ⟨f, h1, h2⟩ | ⟨h1, vt, vd, ve, vg, LT, LD, LE, LG, h2, h3, h4⟩⟩
      · rw [hb] at h1
        cases h1
      · obtain ⟨ta, tc, da, dc, ea, ec, ga, gc, hv, hI⟩ := h3.unitIn (u := rdU ys) (by rw [← h4]) (by rw [← h4]) (by rw [← h4]) (by rw [← h4])
        exact ⟨hB2, ta, tc, da, dc, ea, ec, ga, gc, by rw [h2, hv], hI⟩
theorem readsW (a : Option Addr) (c : Nat) (zs : List Int) (w : World) (hE : Env w) (hl : O.Lies w a zs) (ha : ∀ x, a = some x → x.block < w.heap.size) (hc : zs.length ≤ c) (hm : c ≤ 140737488351232) : Calls Tryz.prog 5 #[.slice a zs.length c] w fun e w' => e = .returned (.bool true) ∧ Below w.heap.size w w' := by
  by_cases h1 : 1048576 < zs.length
  · refine readsB a c zs.length zs.length zs w hE rfl hl (Nat.le_refl _) hc hm 0 3 (by decide) (by decide) (by decide) (.inr (.inl ⟨rfl, h1⟩)) (fun w1 hr hB => ?_) (fun w1 hB => ?_)
    · refine (read_long w1 _ zs.length _ h1 (by unfold maxLen; omega)).mono ?_
      rintro e w2 ⟨q, h2, h3, h4⟩
      exact ⟨h4, q, h2, h3⟩
    · exact drRead_long w1 a zs.length c h1 (by omega)
  · by_cases h2 : 3000 < zs.length
    · have e1 : (zs.take 3000).length = 3000 := by simp; omega
      exact readsS a c zs.length 3000 (zs.take 3000) w hE e1.symm (lies_take hl 3000) ha (by omega) hc hm (.inr ⟨rfl, h2, by omega⟩)
    · exact readsS a c zs.length zs.length zs w hE rfl hl ha (Nat.le_refl _) hc hm (.inl ⟨rfl, by omega⟩)
end Go.Proofs.YtmndccbeddaphaaGreatDoor
