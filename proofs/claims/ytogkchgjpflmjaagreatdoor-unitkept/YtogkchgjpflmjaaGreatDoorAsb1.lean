/- unit's Assemble: a source that is too long, or has too many lines. -/
import Derived.Test.YtogkchgjpflmjaaGreatDoorTk3
import Derived.Test.YtogkchgjpflmjaaGreatDoorSetM
import Derived.Test.YtogkchgjpflmjaaGreatDoorKnown
import Derived.BigQuiet
import Derived.WalkSmall
import Derived.RangeFuncNested
import Derived.RangeFuncBound
import Derived.RangeFuncCalls
import Derived.RangeFuncLeaves
import Derived.Shelf.Abstract
import Derived.Shelf.RegionOpen
import Derived.WalkKit
import Derived.OwnWalkIn
import Derived.TacticsInMore
import Derived.LoopNIn
import Derived.LoopIn
import Derived.Test.YtogkchgjpflmjaaGreatDoorArgsO
import Derived.Test.YtogkchgjpflmjaaGreatDoorArg9
import Derived.Test.YtogkchgjpflmjaaGreatDoorShelf
import Derived.RangeFuncFrom
import Derived.Test.YtogkchgjpflmjaaGreatDoorUnk
import Derived.Test.YtogkchgjpflmjaaGreatDoorArgsW
import Derived.RangeFuncWrites
/- unit's take, whatever the line. -/
namespace Go.Proofs.YtogkchgjpflmjaaGreatDoor
open Go.ChangeShapes Go.WideShapes Go.ChangeAt Go.RowKit
set_option linter.unusedVariables false
set_option maxRecDepth 100000
variable {lo b m N : Nat} {w : World} {A : Asm} {pt pd : List (Itm × Value)} {pe : List ((List UInt8 × Lin) × Value)} {tv dv ev av : Value}
def AsmIn (lo : Nat) (w : World) (b m N : Nat) (A : Asm) : Prop := ∃ pt pd pe tv dv ev av, AsmAt lo w b m N A pt pd pe tv dv ev av
def TkOut (lo : Nat) (w' : World) (b m N : Nat) (R : Except Int Asm) (e : Ending) : Prop :=
  match R with
  | .error k => k ≠ 0 ∧ e = .returned (.iface 36 (.int .i64 k))
  | .ok A' => e = .returned .nilIface ∧ AsmIn lo w' b m (N + 2) A'
theorem readF_err {s : List UInt8} {args : List (List Tok)} {sec : Int} {k : Int} (h : readF s args sec = .error k) : k ≠ 0 := by
  have hst : ∀ {t : Thg}, standsT t sec = .error k → k ≠ 0 := fun {t} h => by
    unfold standsT at h
    split at h
    · cases h
    · cases h; decide
  have hsing : ∀ {j m}, singThg j m args sec = .error k → k ≠ 0 := fun {j m} h => by
    unfold singThg at h
    split at h
    · cases h; decide
    · split at h
      · rename_i hx; cases h; rcases singF_err hx with rfl | rfl <;> decide
      · exact hst h
  have hsev : ∀ {j}, sevThg j args sec = .error k → k ≠ 0 := fun {j} h => by
    unfold sevThg at h
    split at h
    · cases h; decide
    · split at h
      · rename_i hx; cases h; rcases itsF_err hx with rfl | rfl <;> decide
      · exact hst h
  have hequ : equThg args = .error k → k ≠ 0 := fun h => by
    unfold equThg at h
    split at h
    · unfold equF at h
      split at h
      · rename_i hx; cases h; rw [nameF_err hx]; decide
      · split at h
        · rename_i hx; cases h; rcases parseF_err hx with rfl | rfl <;> decide
        · cases h
    · cases h; decide
  have hglo : gloThg args = .error k → k ≠ 0 := fun h => by
    unfold gloThg at h
    split at h
    · unfold gloF at h
      split at h
      · rename_i hx; cases h; rw [nameF_err hx]; decide
      · cases h
    · cases h; decide
  have hsec : secThg args = .error k → k ≠ 0 := fun h => by
    unfold secThg at h
    split at h
    · unfold secF at h
      split at h
      · cases h
      · split at h
        · cases h
        · cases h; decide
    · cases h; decide
  have hop : opThg s args sec = .error k → k ≠ 0 := fun h => by
    unfold opThg at h
    split at h
    · cases h; decide
    · split at h
      · rename_i hx; cases h; rcases opF_err hx with rfl | rfl <;> decide
      · split at h
        · cases h
        · cases h; decide
  unfold readF at h
  repeat' split at h
  all_goals first
    | exact hsing h | exact hsev h | exact hequ h | exact hglo h | exact hsec h | exact hop h | (cases h; decide) | cases h
theorem take_line (h : AsmAt lo w b m N A pt pd pe tv dv ev av) (hT : Tab w) (hlo : lo ≤ w.heap.size) (n : Nat) (s : List UInt8) (hs : s.length ≤ 65536) (hN : N ≤ 2000000) (hok : A.text.length + A.data.length ≤ 8192) (hfe : A.equs.length ≤ 1100000) (hfa : A.asked.length ≤ 1100000) :
    Calls Tryz.prog 35 #[.pointer (some ⟨b, 0, none⟩), .int .i64 n, .string (str s)] w fun e w' => BelN lo m w w' ∧ TkOut lo w' b m N (takeF A n s) e := by
  unfold takeF lineU
  cases hL : parseL s with
  | error p =>
    refine (take_bad b n s hs p hL w).mono ?_
    rintro e w' ⟨rfl, hb⟩
    exact ⟨BelN.of hb hlo, by decide, rfl⟩
  | ok L =>
    simp only
    by_cases hi : L.label ≠ [] ∧ legB (str L.label) = false
    · rw [if_pos hi]
      refine (take_illegal h n s hs hL hi.1 hi.2).mono ?_
      rintro e w' ⟨rfl, hb⟩
      exact ⟨BelN.of hb hlo, by decide, rfl⟩
    · rw [if_neg hi]
      have hl : L.label = [] ∨ legB (str L.label) = true := by
        by_cases h0 : L.label = []
        · exact .inl h0
        · exact .inr (by
            cases hq : legB (str L.label) with
            | true => rfl
            | false => exact absurd ⟨h0, hq⟩ hi)
      cases hR : readF L.op L.args A.sec with
      | error k =>
        refine (take_read_err h hT hlo n s hs hL hl k (readF_err hR) hR).mono ?_
        rintro e w' ⟨rfl, hb⟩
        exact ⟨BelN.of hb hlo, readF_err hR, rfl⟩
      | ok x =>
        simp only
        cases hn1 : nameU A.given L.label with
        | none =>
          refine (take_dup1 h hT hlo n s hs hL hl hN x hR hn1).mono ?_
          rintro e w' ⟨rfl, hb⟩
          exact ⟨hb, by decide, rfl⟩
        | some g1 =>
          simp only
          by_cases hk : x.kind = 3
          · rw [if_pos hk]
            cases hn2 : nameU g1 x.name with
            | none =>
              refine (take_dup2 h hT hlo n s hs hL hl hN x hR g1 hn1 hk hn2).mono ?_
              rintro e w' ⟨rfl, hb⟩
              exact ⟨hb, by decide, rfl⟩
            | some g2 =>
              simp only
              by_cases hc : A.text.length + A.data.length + (labF L.label ++ x.items).length > 8192
              · rw [if_pos hc]
                refine (take_manyE h hT hlo n s hs hL hl hN hok hfe hfa x hR g1 hn1 hk g2 hn2 hc).mono ?_
                rintro e w' ⟨rfl, hb⟩
                exact ⟨hb, by decide, rfl⟩
              · rw [if_neg hc]
                refine (take_doneE h hT hlo n s hs hL hl hN hok hfe hfa x hR g1 hn1 hk g2 hn2 hc).mono ?_
                rintro e w' ⟨rfl, hb, hA⟩
                exact ⟨hb, rfl, hA⟩
          · rw [if_neg hk]
            simp only
            by_cases hc : A.text.length + A.data.length + (labF L.label ++ x.items).length > 8192
            · rw [if_pos hc]
              refine (take_manyN h hT hlo n s hs hL hl hN hok hfe hfa x hR g1 hn1 hk hc).mono ?_
              rintro e w' ⟨rfl, hb⟩
              exact ⟨hb, by decide, rfl⟩
            · rw [if_neg hc]
              refine (take_doneN h hT hlo n s hs hL hl hN hok hfe hfa x hR g1 hn1 hk hc).mono ?_
              rintro e w' ⟨rfl, hb, hA⟩
              exact ⟨hb, rfl, hA⟩
end Go.Proofs.YtogkchgjpflmjaaGreatDoor
/- strings.Cut at a byte 10. -/
namespace Go.Proofs.YtogkchgjpflmjaaGreatDoor
open Go.ChangeShapes Go.WideShapes Go.ChangeAt Go.RowKit
set_option linter.unusedVariables false
set_option maxRecDepth 100000
theorem index_any (l : List UInt8) (w : World) :
    Calls Tryz.prog 122 #[.string (str l), .string ⟨#[10]⟩] w fun e w' => e = .returned (.int .i64 (Lib.indexByte l 10)) ∧ w' = w := by
  have e1 := str_toList l
  have hx : (10 : Int).toNat.toUInt8 = 10 := rfl
  have hI : ∀ w, Calls Tryz.prog 153 #[.string (str l), .int .u8 10] w fun e w' => e = .returned (.int .i64 (Lib.indexByte l 10)) ∧ w' = w := fun w => by
    have := liteIndexByte_any (str l) 10 w
    rw [hx] at this
    exact this
  have hIH := Hid.intro hI
  clear hI hx
  by_cases h : l = [10]
  · subst h
    have hz : Lib.indexByte [10] 10 = 0 := rfl
    rw [hz]
    go_enter Tryz.func122, Tryz.ntmps122
    go_wp2
    go_ret
    exact ⟨rfl, rfl⟩
  · have hb : ([10] == l) = false := by
      rw [beq_eq_false_iff_ne]
      exact fun e => h e.symm
    clear h
    go_enter Tryz.func122, Tryz.ntmps122
    go_wp2_with (go_at_call 153; refine (hIH.out _).mono ?_; rintro e w' ⟨rfl, rfl⟩)
    go_ret
    exact ⟨rfl, rfl⟩
theorem liteCut_any (l : List UInt8) (w : World) (hl : l.length ≤ 1100000) :
    Calls Tryz.prog 100 #[.string (str l), .string ⟨#[10]⟩] w fun e w' => (∃ b, e = .returned (.tuple #[.string (str (l.take (nlLen l))), .string (str (l.drop (nlLen l + 1))), .bool b])) ∧ Below w.heap.size w w' := by
  have hI := Hid.intro (index_any l)
  have hsz : (str l).size = l.length := by simp [str, ByteArray.size]
  have hle := nlLen_le l
  by_cases h : nlLen l < l.length
  · rw [idx_nl l, if_pos h] at hI
    obtain ⟨k, hk⟩ : ∃ k, k = nlLen l := ⟨_, rfl⟩
    rw [← hk] at hI h hle ⊢
    have h1 : ∀ W : World, (Instr.slice 9 (.string (str l)) none (some (.int .i64 (k : Int))) none).run Tryz.prog W = .ok (.string (str (l.take k))) W := fun W => by
      rw [run_slice_string_h W 9 (str l) Tryz.underlying9 .i64 (k : Int) (by omega) (by omega), Lib.extract_eq]
      simp [str]
    have h2 : ∀ W : World, (Instr.slice 9 (.string (str l)) (some (.int .i64 ((k : Int) + 1))) none none).run Tryz.prog W = .ok (.string (str (l.drop (k + 1)))) W := fun W => by
      rw [run_slice_string_l W 9 (str l) Tryz.underlying9 .i64 ((k : Int) + 1) (by omega) (by omega), hsz, Lib.extract_eq]
      rw [List.take_of_length_le (by simp [str])]
      simp [str]
    have h3 : IntKind.i64.wrap ((k : Int) + 1) = (k : Int) + 1 := by rw [IntKind.wrap_i64]; omega
    clear hk
    go_enter Tryz.func100, Tryz.ntmps100
    go_wp2_with (go_at_call 122; refine (hI.out _).mono ?_; rintro e w' ⟨rfl, rfl⟩)
    all_goals first | omega | skip
    go_quiet (fail)
    go_wp2
    all_goals first | omega | skip
    go_ret3
    exact ⟨⟨_, rfl⟩, below_drewN (Below.refl _ _) nq⟩
  · have e : nlLen l = l.length := by omega
    rw [idx_nl l, if_neg h] at hI
    rw [e, List.take_length, List.drop_eq_nil_of_le (by omega)]
    clear e h hle
    go_enter Tryz.func100, Tryz.ntmps100
    go_wp2_with (go_at_call 122; refine (hI.out _).mono ?_; rintro e w' ⟨rfl, rfl⟩)
    go_ret3
    exact ⟨⟨_, rfl⟩, Below.refl _ _⟩
theorem cut_any (l : List UInt8) (w : World) (hl : l.length ≤ 1100000) :
    Calls Tryz.prog 66 #[.string (str l), .string ⟨#[10]⟩] w fun e w' => (∃ b, e = .returned (.tuple #[.string (str (l.take (nlLen l))), .string (str (l.drop (nlLen l + 1))), .bool b])) ∧ Below w.heap.size w w' := by
  have hI := Hid.intro (liteCut_any l w hl)
  go_enter Tryz.func66, Tryz.ntmps66
  go_wp2_with (go_at_call 100; refine (hI.out).mono ?_; rintro e w' ⟨⟨b, rfl⟩, hb⟩)
  go_ret3
  exact ⟨⟨_, rfl⟩, hb⟩
end Go.Proofs.YtogkchgjpflmjaaGreatDoor
/- line.All: the iterator and its contract. -/
namespace Go.Proofs.YtogkchgjpflmjaaGreatDoor
open Go.ChangeShapes Go.WideShapes Go.ChangeAt Go.RowKit Go.Shelf
set_option linter.unusedVariables false
set_option maxRecDepth 100000
attribute [local go_sem] Oper.semAt_some
theorem all_any (s : ByteArray) (w : World) :
    Calls Tryz.prog 33 #[.string s] w fun e w' => e = .returned (.func (.func 65) #[] #[.pointer (some ⟨w.heap.size, 0, none⟩)]) ∧ w' = w.alloc (.cells #[.string s] 9) := by
  have hmf : ∀ (fn : Fn) (first cap : Array Value) (w : World), (Instr.makeFunc fn first cap).run Tryz.prog w = .ok (.func fn first cap) w := fun _ _ _ _ => rfl
  go_enter Tryz.func33, Tryz.ntmps33
  go_wp2
  go_ret
  exact ⟨rfl, rfl⟩
abbrev LnA : Type := { x : Nat × ByteArray // x.2.size ≤ 65536 }
abbrev encL (x : LnA) : Array Value := #[.int .i64 (x.1.1 : Int), .string x.1.2]
theorem astr_size (l : List UInt8) : (str l).size = l.length := by simp [str, ByteArray.size]
def mkA (i : Nat) (l : List UInt8) : LnA := ⟨(i, str (l.take 65536)), by rw [astr_size, List.length_take]; omega⟩
theorem mkA_enc (i : Nat) (l : List UInt8) (h : l.length ≤ 65536) : encL (mkA i l) = #[.int .i64 (i : Int), .string (str l)] := by
  show #[Value.int .i64 (i : Int), Value.string (str (l.take 65536))] = _
  rw [List.take_of_length_le h]
def numbered (i : Nat) : List (List UInt8) → List LnA
  | [] => []
  | l :: ls => mkA i l :: numbered (i + 1) ls
theorem numbered_len (i : Nat) (ls : List (List UInt8)) : (numbered i ls).length = ls.length := by
  induction ls generalizing i with
  | nil => rfl
  | cons l ls ih => simp [numbered, ih]
def strLen : Value → Nat
  | .string s => s.size
  | _ => 0
set_option maxHeartbeats 2000000 in
theorem all_stops (n : Nat) (hn : 1 ≤ n) (b : Nat) (l : List UInt8) (hl : l.length ≤ 65536) (w : World) (hbw : b < w.heap.size) (hb : w.cell? ⟨b, 0, none⟩ = some (.string (str l))) :
    SeqStopsK Fence.wide n Tryz.prog 65 #[.pointer (some ⟨b, 0, none⟩)] encL (fun _ _ => True) (fun xs => xs = numbered 1 (linesOf l)) (fun pre => pre <+: numbered 1 (linesOf l)) (linesOf l).length w := fun lp J Jx W hW hJ hJx hY h0 => by
  have hbW : W.cell? ⟨b, 0, none⟩ = some (.string (str l)) := (hW.cell (p := ⟨b, 0, none⟩) hbw).trans hb
  refine callsIn_of_wp Tryz.func65 rfl trivial ?_ rfl
  simp only [Tryz.ntmps65, List.size_toArray, List.length_cons, List.length_nil, Nat.reduceAdd, Nat.reduceSub, Array.replicate_succ, Array.replicate_zero, List.push_toArray, List.append_toArray, List.nil_append, List.cons_append]
  gi_wp2
  have hsz0 : W.heap.size ≤ W.heap.size := Nat.le_refl _
  gi_loopw [3, 4] (fun v3 v4 wr => ∃ (pre : List LnA) (rest : List UInt8) (k : Nat), v3 = .string (str rest) ∧ v4 = .int .i64 (k : Int) ∧ numbered 1 (linesOf l) = pre ++ numbered k (linesOf rest) ∧ rest.length ≤ 65536 ∧ k ≤ 65537 ∧ pre.length + 1 = k ∧ Hid (J pre wr)) (fun v3 _ _ => strLen v3)
  case atStart => exact ⟨[], l, 1, rfl, rfl, rfl, hl, by omega, rfl, h0⟩
  case round =>
    obtain ⟨pre, rest, k, rfl, rfl, hx, hr, hk, hpk, hJr⟩ := hrel
    by_cases hrest : rest = []
    · subst hrest
      have e1 := str_toList []
      gi_wp2
      go_end0
      exact ⟨⟨_, rfl⟩, .inl ⟨pre, by rw [hx, linesOf_nil]; simp [numbered], hJr.out⟩⟩
    · have e1 := str_toList rest
      have hb1 : rest.isEmpty = false := by simp [hrest]
      have hlm := linesOf_more rest hrest
      have hle := nlLen_le rest
      obtain ⟨ln, hln⟩ : ∃ ln, ln = rest.take (nlLen rest) := ⟨_, rfl⟩
      obtain ⟨rs, hrs⟩ : ∃ rs, rs = rest.drop (nlLen rest + 1) := ⟨_, rfl⟩
      have hlnl : ln.length ≤ 65536 := by rw [hln, List.length_take]; omega
      have hrsl : rs.length < rest.length := by
        have : 0 < rest.length := List.length_pos_iff.2 hrest
        rw [hrs, List.length_drop]
        omega
      have hC := Hid.intro (fun w => cut_any rest w (by omega))
      rw [← hln, ← hrs] at hC hlm
      have hx2 : Hid (numbered 1 (linesOf l) = (pre ++ [mkA k ln]) ++ numbered (k + 1) (linesOf rs)) := by
        show _ = _
        rw [hx, hlm]
        simp [numbered]
      have hlen : pre.length < (linesOf l).length := by
        have h2 := congrArg List.length hx2.out
        rw [numbered_len] at h2
        simp at h2
        omega
      clear hx hlm hln hrs hrest
      gi_wp2_with (first
        | (refine ⟨trivial, ?_⟩; gi_at_call 66; refine (callsIn_wide.2 (hC.out _)).mono ?_; rintro e w1 ⟨⟨bb, rfl⟩, hbe1⟩)
        | (refine ⟨trivial, ?_⟩; gi_at_call 39; refine (callsIn_wide.2 (clone_any (str ln) _ (by rw [astr_size]; omega))).mono ?_; rintro e w2 ⟨rfl, hbe2⟩; have hJ2 := hJ pre _ _ none (hJ pre _ _ none hJr.out (grown_of_below hbe1) (fun r e => by cases e)) (grown_of_below hbe2) (fun r e => by cases e); obtain ⟨fn, tmps, assign, body, hy, hR⟩ := hY pre (mkA k ln) w2 hJ2 hlen; rw [mkA_enc k ln hlnl] at hy))
      refine hR.mono ?_
      rintro e W3 (⟨rfl, hJ3, _⟩ | ⟨rfl, hJx3⟩)
      · gi_wp2
        go_roundw
        case rel => exact ⟨pre ++ [mkA k ln], rs, k + 1, rfl, by go_num, hx2.out, by omega, by have := linesOf_len l; omega, by simp; omega, hJ3⟩
        case measure =>
          show (str rs).size < (str rest).size
          rw [astr_size, astr_size]
          exact hrsl
      · gi_wp2
        refine bodyPost_ret (results_none rfl _ _ _) rfl ?_
        exact ⟨⟨_, rfl⟩, .inr ⟨pre ++ [mkA k ln], ⟨_, hx2.out.symm⟩, hJx3⟩⟩
end Go.Proofs.YtogkchgjpflmjaaGreatDoor
/- unit's hasMoreLines. -/
namespace Go.Proofs.YtogkchgjpflmjaaGreatDoor
open Go.ChangeShapes Go.WideShapes Go.ChangeAt Go.RowKit Go.Shelf
set_option linter.unusedVariables false
set_option maxRecDepth 100000
attribute [local go_sem] Oper.semAt_some
structure CI (W : World) (b k : Nat) (v : Value) : Prop where
  cell : W.cell? ⟨b, k, none⟩ = some v
  froz : W.frozen? ⟨b, k, none⟩ = false
theorem ci_of {W : World} {b k : Nat} {T : TypeId} {cur : Array Value} {v : Value} (h : W.heap[b]? = some (.cells cur T (0, 0))) (hv : cur[k]? = some v) : CI W b k v := ⟨by rw [cell_of_row _ _ _ _ _ _ h]; exact hv, frozen_of_row _ _ _ _ _ h⟩
theorem CI.set {W : World} {b k : Nat} {v0 : Value} (h : CI W b k v0) (v : Value) : CI (W.setCell ⟨b, k, none⟩ v) b k v := ⟨World.cell?_setCell_same' _ _ _ (by rw [h.cell]; rfl), by rw [World.frozen?_setCell]; exact h.froz⟩
theorem CI.kept {A B : World} {row : Option Nat} {b k : Nat} {v : Value} (h : CI A b k v) (hg : A.grownBy B row) (hr : ∀ r, row = some r → ∃ o : Obj, A.heap[r]? = some o ∧ o.isCells = false) : CI B b k v := ⟨Go.cell_kept h.cell hg hr, (Go.frozen_kept h.cell hg hr).trans h.froz⟩
theorem CI.lt {W : World} {b k : Nat} {v : Value} (h : CI W b k v) : b < W.heap.size := World.block_lt_of_cell? W ⟨b, k, none⟩ h.cell
theorem CI.below {W W' : World} {b k B : Nat} {v : Value} (h : CI W b k v) (hb : Below B W W') (hB : b < B) : CI W' b k v := ⟨(hb.cell (p := ⟨b, k, none⟩) hB).trans h.cell, (World.frozen?_of_block (a := ⟨b, k, none⟩) (hb.block b hB)).trans h.froz⟩
theorem CI.alloc {W : World} {b k : Nat} {v : Value} (h : CI W b k v) (o : Obj) : CI (W.alloc o) b k v := h.below (below_alloc W o) h.lt
theorem numbered_at (i : Nat) (ls : List (List UInt8)) (pre : List LnA) (x : LnA) (h : (pre ++ [x]) <+: numbered i ls) : x.1.1 = i + pre.length ∧ ∃ l, ls[pre.length]? = some l ∧ x = mkA (i + pre.length) l := by
  induction pre generalizing i ls with
  | nil =>
    cases ls with
    | nil => obtain ⟨r, hr⟩ := h; simp [numbered] at hr
    | cons l ls =>
      obtain ⟨r, hr⟩ := h
      simp only [numbered, List.nil_append, List.singleton_append, List.cons.injEq] at hr
      rw [hr.1]
      exact ⟨rfl, l, rfl, rfl⟩
  | cons y pre ih =>
    cases ls with
    | nil => obtain ⟨r, hr⟩ := h; simp [numbered] at hr
    | cons l ls =>
      obtain ⟨r, hr⟩ := h
      simp only [numbered, List.cons_append, List.cons.injEq] at hr
      have := ih (i + 1) ls ⟨r, hr.2⟩
      rw [show i + 1 + pre.length = i + (y :: pre).length by simp; omega] at this
      simpa using this
set_option maxHeartbeats 2000000 in
theorem hasMore_any (l : List UInt8) (hl : l.length ≤ 65536) (w : World) : Calls Tryz.prog 32 #[.string (str l), .int .i64 4096] w fun e w' => e = .returned (.bool (decide (4096 < (linesOf l).length))) ∧ Below w.heap.size w w' := by
  refine (callsIn_wide (n := 8)).1 ?_
  refine callsIn_of_wp_marks Tryz.func32 rfl trivial ?_ rfl
  simp only [Tryz.ntmps32, List.size_toArray, List.length_cons, List.length_nil, Nat.reduceAdd, Nat.reduceSub, Array.replicate_succ, Array.replicate_zero, List.push_toArray, List.append_toArray, List.nil_append, List.cons_append]
  gi_wp2_with (refine ⟨trivial, ?_⟩; gi_at_call 33; refine (callsIn_wide.2 (all_any (str l) _)).mono ?_; rintro e w1 ⟨rfl, rfl⟩)
  have hsz : (((w.alloc (.cells #[.int .i64 4096] 3)).alloc (.cells #[.bool false] 4)).alloc (.cells #[.string (str l)] 9)).heap.size = w.heap.size + 3 := by simp
  have hB0 : Below w.heap.size w (((w.alloc (.cells #[.int .i64 4096] 3)).alloc (.cells #[.bool false] 4)).alloc (.cells #[.string (str l)] 9)) := (((Below.refl _ w).alloc (Nat.le_refl _) _).alloc (by simp) _).alloc (by simp; omega) _
  have h1 := (ci_of (heap_alloc_new w (.cells #[.int .i64 4096] 3)) (k := 0) rfl)
  have h2 := (ci_of (heap_alloc_new (w.alloc (.cells #[.int .i64 4096] 3)) (.cells #[.bool false] 4)) (k := 0) rfl)
  have h3 := (ci_of (heap_alloc_new ((w.alloc (.cells #[.int .i64 4096] 3)).alloc (.cells #[.bool false] 4)) (.cells #[.string (str l)] 9)) (k := 0) rfl)
  rw [World.size_alloc] at h2
  rw [World.size_alloc, World.size_alloc] at h3
  have h1' := ((h1.alloc (.cells #[.bool false] 4)).alloc (.cells #[.string (str l)] 9))
  have h2' := h2.alloc (.cells #[.string (str l)] 9)
  clear h1 h2
  generalize (((w.alloc (.cells #[.int .i64 4096] 3)).alloc (.cells #[.bool false] 4)).alloc (.cells #[.string (str l)] 9)) = W0 at *
  refine wpIn_rangeFunc_ownF (F := Fence.wide) rfl (by decide) (gf := 65) (lb := #[.pointer (some ⟨w.heap.size + 1 + 1, 0, none⟩)]) rfl trivial (enters_of Tryz.func65 (by kernel_rfl) rfl)
    (all_stops 7 (by decide) (w.heap.size + 1 + 1) l hl W0 (by omega) h3.cell) (fun _ _ => trivial) (fun _ _ _ _ _ _ _ _ => trivial) (Below.refl _ _) (fun _ => rfl)
    (fun pre W => (CI W w.heap.size 0 (.int .i64 4096) ∧ CI W (w.heap.size + 1) 0 (.bool false) ∧ (pre <+: numbered 1 (linesOf l) → pre.length ≤ 4096)) ∧ Below w.heap.size w W)
    (fun c pre W => (c = .ret ∧ CI W (w.heap.size + 1) 0 (.bool true) ∧ (pre <+: numbered 1 (linesOf l) → 4096 < (linesOf l).length)) ∧ Below w.heap.size w W)
    (OwnFrom.and (Own.from (fun s A B row hs hg hr => ⟨hs.1.kept hg hr, hs.2.1.kept hg hr, hs.2.2⟩) _) (ownFrom_below (Nat.le_refl _) (by omega)))
    (fun c => OwnFrom.and (Own.from (fun s A B row hs hg hr => ⟨hs.1, hs.2.1.kept hg hr, hs.2.2⟩) _) (ownFrom_below (Nat.le_refl _) (by omega)))
    ⟨⟨h1', h2', fun _ => by simp⟩, hB0⟩
    (fun x => { tmps := #[.string (str l), .int .i64 4096, undef, .pointer (some ⟨w.heap.size, 0, none⟩), .pointer (some ⟨w.heap.size + 1, 0, none⟩), .int .i64 (x.1.1 : Int), .string (str l), .func (.func 65) #[] #[.pointer (some ⟨w.heap.size + 1 + 1, 0, none⟩)], .int .i64 (x.1.1 : Int), .string x.1.2, undef, undef, undef], defers := [] }) ?assign ?body ?done ?stop
  case assign =>
    intro l x W K hK
    gi_wp2
    exact hK
  case body =>
    rintro lp pre x W ⟨⟨hm, hr, hp⟩, hB⟩ hlt
    obtain ⟨m1, m2⟩ := hm
    obtain ⟨r1, r2⟩ := hr
    have hmH : Hid (CI W w.heap.size 0 (.int .i64 4096)) := ⟨m1, m2⟩
    have hrH : Hid (CI W (w.heap.size + 1) 0 (.bool false)) := ⟨r1, r2⟩
    replace hp := Hid.intro hp
    by_cases hx : (4096 : Int) < (x.1.1 : Int)
    · have ht : decide ((4096 : Int) < (x.1.1 : Int)) = true := by simpa using hx
      have hxH := Hid.intro hx
      clear hx
      gi_wp2
      refine ⟨KeepsOthers.setCell _ _ _, ⟨rfl, hrH.out.set _, fun h => ?_⟩, hB.setCell (p := ⟨w.heap.size + 1, 0, none⟩) (by show w.heap.size ≤ w.heap.size + 1; omega) _⟩
      have h4 := (numbered_at 1 _ pre x h).1
      have h5 := hxH.out
      have h6 : (pre ++ [x]).length ≤ (numbered 1 (linesOf l)).length := h.length_le
      rw [numbered_len] at h6
      simp at h6
      rw [h4] at h5
      omega
    · have ht : decide ((4096 : Int) < (x.1.1 : Int)) = false := by simpa using hx
      have hxH := Hid.intro hx
      clear hx
      gi_wp2
      refine ⟨KeepsOthers.refl _, trivial, ⟨hmH.out, hrH.out, fun h => ?_⟩, hB⟩
      have h4 := (numbered_at 1 _ pre x h).1
      have h5 := hxH.out
      rw [h4] at h5
      simp
      omega
  case done =>
    rintro D ys W hD rfl ⟨⟨hm, hr, hp⟩, hB⟩ hK
    have hno := hp (List.prefix_refl _)
    rw [numbered_len] at hno
    obtain ⟨r1, r2⟩ := hr
    gi_wp2
    have hK' := (KeepsOthers.setCell W ⟨w.heap.size + 1, 0, none⟩ (.bool false)).same D _ hK rfl
    have hBf : Below w.heap.size w (W.setCell ⟨w.heap.size + 1, 0, none⟩ (.bool false)) := hB.setCell (p := ⟨w.heap.size + 1, 0, none⟩) (by show w.heap.size ≤ w.heap.size + 1; omega) _
    refine ⟨by simp, .inl ⟨_, _, rfl, run_takeDeferred hK', ?_⟩⟩
    have hc5 := Go.cell_kept (World.cell?_setCell_same' W ⟨w.heap.size + 1, 0, none⟩ (.bool false) (by rw [r1]; rfl)) (grownBy_putObj' _ D (.deferred none)) (fun r e => by cases e; exact ⟨_, hK', rfl⟩)
    refine ⟨.bool false, ?_, by rw [show decide (4096 < (linesOf l).length) = false by simp; omega], hBf.trans (belowK_b (w := w) (Nat.le_refl _) _ D _ _ (by omega) hK' rfl rfl)⟩
    simp [results, Tryz.results32, go_sem, hc5]
  case stop =>
    rintro D c pre W hD hpre ⟨⟨rfl, hr, hp⟩, hB⟩ hK
    have hyes := hp hpre
    gi_wp2
    refine ⟨by simp, .inl ⟨_, _, rfl, run_takeDeferred hK, ?_⟩⟩
    have hc5 := Go.cell_kept hr.cell (grownBy_putObj' _ D (.deferred none)) (fun r e => by cases e; exact ⟨_, hK, rfl⟩)
    refine ⟨.bool true, ?_, by rw [show decide (4096 < (linesOf l).length) = true by simp; omega], hB.trans (belowK_b (w := w) (Nat.le_refl _) _ D _ _ (by omega) hK rfl rfl)⟩
    simp [results, Tryz.results32, go_sem, hc5]
end Go.Proofs.YtogkchgjpflmjaaGreatDoor
/- The lines of a source, taken one by one: as a function of what a range hands out; what stays small. -/
namespace Go.Proofs.YtogkchgjpflmjaaGreatDoor
open Go.ChangeShapes Go.WideShapes Go.ChangeAt Go.RowKit
set_option linter.unusedVariables false
set_option maxRecDepth 100000
def runP (A : Asm) : List LnA → Except (Nat × Int) Asm
  | [] => .ok A
  | x :: r => match takeF A x.1.1 (bs x.1.2) with
    | .error k => .error (x.1.1, k)
    | .ok B => runP B r
theorem runP_snoc (pre : List LnA) (x : LnA) : ∀ A, runP A (pre ++ [x]) = match runP A pre with | .error f => .error f | .ok B => (match takeF B x.1.1 (bs x.1.2) with | .error k => .error (x.1.1, k) | .ok C => .ok C) := by
  induction pre with
  | nil =>
    intro A
    simp only [List.nil_append, runP]
  | cons y r ih =>
    intro A
    simp only [List.cons_append, runP]
    cases takeF A y.1.1 (bs y.1.2) with
    | error k => rfl
    | ok B => exact ih B
theorem runP_more (pre rest : List LnA) : ∀ A f, runP A pre = .error f → runP A (pre ++ rest) = .error f := by
  induction pre with
  | nil => intro A f h; cases h
  | cons y r ih =>
    intro A f h
    simp only [List.cons_append, runP] at h ⊢
    cases ht : takeF A y.1.1 (bs y.1.2) with
    | error k => rw [ht] at h; exact h
    | ok B => rw [ht] at h; exact ih B f h
theorem runP_numbered (ls : List (List UInt8)) (hl : ∀ s ∈ ls, s.length ≤ 65536) : ∀ A n, runP A (numbered n ls) = runF A n ls := by
  induction ls with
  | nil => intro A n; rfl
  | cons s r ih =>
    intro A n
    have e1 : bs (mkA n s).1.2 = s := by
      show bs (str (s.take 65536)) = s
      rw [List.take_of_length_le (hl s (by simp)), bs_str]
    have e2 : (mkA n s).1.1 = n := rfl
    simp only [numbered, runP, runF]
    rw [e1, e2]
    cases takeF A n s with
    | error k => rfl
    | ok B => exact ih (fun s hs => hl s (by simp [hs])) B (n + 1)
structure AsmB (A : Asm) (k : Nat) : Prop where
  few : A.text.length + A.data.length ≤ 8192
  equs : A.equs.length ≤ k
  asked : A.asked.length ≤ k
  names : ∀ q ∈ A.asked, q.1.length ≤ 32
theorem asmE_B : AsmB asmE 0 := ⟨by decide, by decide, by decide, fun q hq => by cases hq⟩
theorem layU_text (A : Asm) (n : Nat) (g : List (List UInt8)) (its : List Itm) (x : Thg) : (layU A n g its x).text.length + (layU A n g its x).data.length = A.text.length + A.data.length + its.length := by
  unfold layU
  by_cases h : A.sec = 1
  · simp [h]; omega
  · simp [h]; omega
theorem lineU_fine {s : List UInt8} {sec : Int} {lb : List UInt8} {x : Thg} (hs : s.length ≤ 65536) (h : lineU s sec = .ok (lb, x)) : FineT x sec ∧ (lb = [] ∨ legB (str lb) = true) := by
  unfold lineU at h
  cases hp : parseL s with
  | error q => rw [hp] at h; cases h
  | ok L =>
    rw [hp] at h
    simp only at h
    split at h
    · cases h
    · rename_i hi
      cases hr : readF L.op L.args sec with
      | error q => rw [hr] at h; cases h
      | ok y =>
        rw [hr] at h
        cases h
        obtain ⟨h1, _, h3⟩ := parseL_smallP hs hp
        refine ⟨readF_fine h3 (by omega) hr, ?_⟩
        by_cases h0 : L.label = []
        · exact .inl h0
        · refine .inr ?_
          cases hq : legB (str L.label) with
          | true => rfl
          | false => exact absurd ⟨h0, hq⟩ hi
theorem takeF_ok {A B : Asm} {n : Nat} {s : List UInt8} (h : takeF A n s = .ok B) : ∃ lb x g1 g2, lineU s A.sec = .ok (lb, x) ∧ nameU A.given lb = some g1 ∧ (if x.kind = 3 then nameU g1 x.name else some g1) = some g2 ∧ A.text.length + A.data.length + (labF lb ++ x.items).length ≤ 8192 ∧ B = layU A n g2 (labF lb ++ x.items) x := by
  unfold takeF at h
  cases hl : lineU s A.sec with
  | error k => rw [hl] at h; cases h
  | ok p =>
    obtain ⟨lb, x⟩ := p
    rw [hl] at h
    simp only at h
    cases h1 : nameU A.given lb with
    | none => rw [h1] at h; cases h
    | some g1 =>
      rw [h1] at h
      simp only at h
      cases h2 : (if x.kind = 3 then nameU g1 x.name else some g1) with
      | none => rw [h2] at h; cases h
      | some g2 =>
        rw [h2] at h
        simp only at h
        split at h
        · cases h
        · rename_i hc
          cases h
          exact ⟨lb, x, g1, g2, rfl, h1, h2, by omega, rfl⟩
theorem takeF_B {A B : Asm} {n k : Nat} {s : List UInt8} (hs : s.length ≤ 65536) (hA : AsmB A k) (h : takeF A n s = .ok B) : AsmB B (k + 1) := by
  obtain ⟨lb, x, g1, g2, hl, h1, h2, hc, rfl⟩ := takeF_ok h
  have hf := (lineU_fine hs hl).1
  have h3 := hA.equs
  have h4 := hA.asked
  refine ⟨by rw [layU_text]; exact hc, ?_, ?_, fun q hq => ?_⟩
  · unfold layU
    by_cases hk : x.kind = 3
    · simp [hk]; omega
    · simp [hk]; omega
  · unfold layU
    by_cases hk : x.kind = 4
    · simp [hk]; omega
    · simp [hk]; omega
  · unfold layU at hq
    by_cases hk : x.kind = 4
    · simp [hk] at hq
      rcases hq with hq | hq
      · exact hA.names q hq
      · subst hq
        exact hf.name
    · simp [hk] at hq
      exact hA.names q hq
theorem runP_B (pre : List LnA) : ∀ A B k, AsmB A k → runP A pre = .ok B → AsmB B (k + pre.length) := by
  induction pre with
  | nil => intro A B k hA h; cases h; exact hA
  | cons x r ih =>
    intro A B k hA h
    simp only [runP] at h
    cases ht : takeF A x.1.1 (bs x.1.2) with
    | error e => rw [ht] at h; cases h
    | ok C =>
      rw [ht] at h
      have hx : (bs x.1.2).length ≤ 65536 := by rw [bs_length]; exact x.2
      have := ih C B (k + 1) (takeF_B hx hA ht) h
      rw [show k + (x :: r).length = k + 1 + r.length by simp; omega]
      exact this
theorem linesOf_short (l : List UInt8) (hl : l.length ≤ 65536) : ∀ s ∈ linesOf l, s.length ≤ 65536 := by
  intro s hs
  have := linesOf_size l s hs
  omega
end Go.Proofs.YtogkchgjpflmjaaGreatDoor
namespace Go.Proofs.YtogkchgjpflmjaaGreatDoor
open Go.ChangeShapes Go.WideShapes Go.ChangeAt Go.RowKit Go.Shelf
set_option linter.unusedVariables false
set_option maxRecDepth 100000
attribute [local go_sem] Oper.semAt_some
abbrev unitZ : Value := .agg (unit4 (.slice none 0 0) (.slice none 0 0) (.slice none 0 0) (.slice none 0 0))
theorem keepN {w : World} {g : Nat} {x : Obj} (h : w.heap[g]? = some x) (o : Obj) : (w.alloc o).heap[g]? = some x := ((below_alloc w o).block g (Array.getElem?_eq_some_iff.1 h).1).trans h
def RefAt (w' : World) (lo q : Nat) (n k : Int) : Prop := lo ≤ q ∧ w'.heap[q]? = some (.cells #[.int .i64 n, .int .i64 k] 55 (0, 0))
set_option maxHeartbeats 2000000 in
theorem asb_long (s : ByteArray) (hs : 65536 < s.size) (w : World) : Calls Tryz.prog 9 #[.string s] w fun e w' => Below w.heap.size w w' ∧ ∃ q, e = .returned (.tuple #[unitZ, .iface 51 (.pointer (some ⟨q, 0, none⟩))]) ∧ RefAt w' w.heap.size q 0 3 := by
  refine (callsIn_wide (n := 8)).1 ?_
  refine callsIn_of_wp_marks Tryz.func9 rfl trivial ?_ rfl
  simp only [Tryz.ntmps9, List.size_toArray, List.length_cons, List.length_nil, Nat.reduceAdd, Nat.reduceSub, Array.replicate_succ, Array.replicate_zero, List.push_toArray, List.append_toArray, List.nil_append, List.cons_append]
  have ht : decide ((65536 : Int) < (s.size : Int)) = true := by simp; omega
  gi_wp2
  have hB : Below w.heap.size w (((w.alloc (.cells (unit4 (.slice none 0 0) (.slice none 0 0) (.slice none 0 0) (.slice none 0 0)) 26)).alloc (.cells #[.iface 51 (.pointer (some ⟨w.heap.size + 1 + 1, 0, none⟩))] 28)).alloc (.cells #[.int .i64 0, .int .i64 3] 55)) := (((Below.refl _ w).alloc (Nat.le_refl _) _).alloc (by simp) _).alloc (by simp; omega) _
  have h0 := heap_alloc_new w (.cells (unit4 (.slice none 0 0) (.slice none 0 0) (.slice none 0 0) (.slice none 0 0)) 26)
  have h1 := heap_alloc_new (w.alloc (.cells (unit4 (.slice none 0 0) (.slice none 0 0) (.slice none 0 0) (.slice none 0 0)) 26)) (.cells #[.iface 51 (.pointer (some ⟨w.heap.size + 1 + 1, 0, none⟩))] 28)
  have h2 := heap_alloc_new ((w.alloc (.cells (unit4 (.slice none 0 0) (.slice none 0 0) (.slice none 0 0) (.slice none 0 0)) 26)).alloc (.cells #[.iface 51 (.pointer (some ⟨w.heap.size + 1 + 1, 0, none⟩))] 28)) (.cells #[.int .i64 0, .int .i64 3] 55)
  rw [World.size_alloc] at h1
  rw [World.size_alloc, World.size_alloc] at h2
  have h0' := keepN (keepN h0 (.cells #[.iface 51 (.pointer (some ⟨w.heap.size + 1 + 1, 0, none⟩))] 28)) (.cells #[.int .i64 0, .int .i64 3] 55)
  have h1' := keepN h1 (.cells #[.int .i64 0, .int .i64 3] 55)
  clear h0 h1
  generalize (((w.alloc (.cells (unit4 (.slice none 0 0) (.slice none 0 0) (.slice none 0 0) (.slice none 0 0)) 26)).alloc (.cells #[.iface 51 (.pointer (some ⟨w.heap.size + 1 + 1, 0, none⟩))] 28)).alloc (.cells #[.int .i64 0, .int .i64 3] 55)) = w9 at *
  obtain ⟨k0, k1, k2, k3⟩ := four_read h0'
  have k4 := (cell_blockT h1' 0).trans rfl
  refine ⟨_, ?_, hB, w.heap.size + 1 + 1, rfl, by omega, h2⟩
  simp [results, Tryz.results9, go_sem, k0, k1, k2, k3, k4]
  try rfl
set_option maxHeartbeats 2000000 in
theorem asb_many (l : List UInt8) (hl : l.length ≤ 65536) (hm : 4096 < (linesOf l).length) (w : World) : Calls Tryz.prog 9 #[.string (str l)] w fun e w' => Below w.heap.size w w' ∧ ∃ q, e = .returned (.tuple #[unitZ, .iface 51 (.pointer (some ⟨q, 0, none⟩))]) ∧ RefAt w' w.heap.size q 4097 4 := by
  have hmore := Hid.intro (fun w => hasMore_any l hl w)
  rw [show decide (4096 < (linesOf l).length) = true by simpa using hm] at hmore
  refine (callsIn_wide (n := 8)).1 ?_
  refine callsIn_of_wp_marks Tryz.func9 rfl trivial ?_ rfl
  simp only [Tryz.ntmps9, List.size_toArray, List.length_cons, List.length_nil, Nat.reduceAdd, Nat.reduceSub, Array.replicate_succ, Array.replicate_zero, List.push_toArray, List.append_toArray, List.nil_append, List.cons_append]
  have hsz : (str l).size = l.length := rfl
  have ht : decide ((65536 : Int) < (l.length : Int)) = false := by simp; omega
  have hsz0 : ((w.alloc (.cells (unit4 (.slice none 0 0) (.slice none 0 0) (.slice none 0 0) (.slice none 0 0)) 26)).alloc (.cells #[.nilIface] 28)).heap.size = w.heap.size + 2 := by simp
  have hB0 : Below w.heap.size w ((w.alloc (.cells (unit4 (.slice none 0 0) (.slice none 0 0) (.slice none 0 0) (.slice none 0 0)) 26)).alloc (.cells #[.nilIface] 28)) := ((Below.refl _ w).alloc (Nat.le_refl _) _).alloc (by simp) _
  have h0 := heap_alloc_new w (.cells (unit4 (.slice none 0 0) (.slice none 0 0) (.slice none 0 0) (.slice none 0 0)) 26)
  have h1 := heap_alloc_new (w.alloc (.cells (unit4 (.slice none 0 0) (.slice none 0 0) (.slice none 0 0) (.slice none 0 0)) 26)) (.cells #[.nilIface] 28)
  rw [World.size_alloc] at h1
  replace h0 := Hid.intro (keepN h0 (.cells #[.nilIface] 28))
  replace h1 := Hid.intro h1
  gi_wp2_with (refine ⟨trivial, ?_⟩; gi_at_call 32; refine (callsIn_wide.2 (hmore.out _)).mono ?_; rintro e w1 ⟨rfl, hb1⟩; have hs1 := hb1.size; have e0 := keepN ((hb1.block w.heap.size (by rw [hsz0]; omega)).trans h0.out) (.cells #[.int .i64 4097, .int .i64 4] 55); have e1 := keepN ((hb1.block (w.heap.size + 1) (by rw [hsz0]; omega)).trans h1.out) (.cells #[.int .i64 4097, .int .i64 4] 55); obtain ⟨k0, k1, k2, k3⟩ := four_read e0; have k4 := (cell_blockT e1 0).trans rfl; have f0 := fun j => frozen_of_row (w1.alloc (.cells #[.int .i64 4097, .int .i64 4] 55)) w.heap.size j _ 26 e0; have f1 := fun j => frozen_of_row (w1.alloc (.cells #[.int .i64 4097, .int .i64 4] 55)) (w.heap.size + 1) j _ 28 e1; replace e0 := Hid.intro e0; replace e1 := Hid.intro e1; replace hb1 := Hid.intro hb1)
  have hs1 := hb1.out.size
  rw [hsz0] at hs1
  have hB1 : Below w.heap.size w (w1.alloc (.cells #[.int .i64 4097, .int .i64 4] 55)) := (hB0.trans (hb1.out.mono hB0.size)).alloc (by omega) _
  have hq := heap_alloc_new w1 (.cells #[.int .i64 4097, .int .i64 4] 55)
  obtain ⟨s1, s2⟩ := four_set e0.out (.slice none 0 0) (.slice none 0 0) (.slice none 0 0) (.slice none 0 0)
  have e1' := (s2.block (w.heap.size + 1) (blk_lt e1.out) (by simp)).trans e1.out
  have hq' := (s2.block w1.heap.size (blk_lt hq) (by simp; omega)).trans hq
  have hsz2 := s2.size
  have hB2 := hB1.grown s2 (by have := hB1.size; omega) (fun j hj => by cases hj; exact Nat.le_refl _)
  obtain ⟨t1, t2⟩ := row_set e1' 0 (.iface 51 (.pointer (some ⟨w1.heap.size, 0, none⟩)))
  have hq2 := (t2.block w1.heap.size (blk_lt hq') (by simp; omega)).trans hq'
  have s1' := (t2.block w.heap.size (blk_lt s1) (by simp)).trans s1
  have hB3 := hB2.grown t2 (by have := hB2.size; omega) (fun j hj => by cases hj; omega)
  generalize ((((((w1.alloc (.cells #[.int .i64 4097, .int .i64 4] 55)).setCell ⟨w.heap.size, 0, none⟩ (.slice none 0 0)).setCell ⟨w.heap.size, 1, none⟩ (.slice none 0 0)).setCell ⟨w.heap.size, 2, none⟩ (.slice none 0 0)).setCell ⟨w.heap.size, 3, none⟩ (.slice none 0 0)).setCell ⟨w.heap.size + 1, 0, none⟩ (.iface 51 (.pointer (some ⟨w1.heap.size, 0, none⟩)))) = w9 at *
  obtain ⟨m0, m1, m2, m3⟩ := four_read s1'
  have m4 := (cell_blockT t1 0).trans rfl
  refine ⟨_, ?_, hB3, w1.heap.size, rfl, by omega, hq2⟩
  simp [results, Tryz.results9, go_sem, m0, m1, m2, m3, m4]
  try rfl
end Go.Proofs.YtogkchgjpflmjaaGreatDoor
