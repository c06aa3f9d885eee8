/- line.All: the iterator and its contract. -/
import Derived.Test.YtogkchgjpflmjaaGreatDoorTk3
import Derived.Test.YtogkchgjpflmjaaGreatDoorLab
import Derived.Test.YtogkchgjpflmjaaGreatDoorNames
import Derived.BigQuiet
import Derived.WalkSmall
import Derived.RangeFuncNested
import Derived.RangeFuncBound
import Derived.RangeFuncCalls
import Derived.RangeFuncLeaves
import Derived.Shelf.Abstract
import Derived.Shelf.RegionOpen
import Derived.WalkKit
import Derived.OwnWalkIn
import Derived.TacticsInMore
import Derived.LoopNIn
import Derived.LoopIn
import Derived.Test.YtogkchgjpflmjaaGreatDoorTRoom
/- unit's take, whatever the line. -/
namespace Go.Proofs.YtogkchgjpflmjaaGreatDoor
open Go.ChangeShapes Go.WideShapes Go.ChangeAt Go.RowKit
set_option linter.unusedVariables false
set_option maxRecDepth 100000
variable {lo b m N : Nat} {w : World} {A : Asm} {pt pd : List (Itm × Value)} {pe : List ((List UInt8 × Lin) × Value)} {tv dv ev av : Value}
def AsmIn (lo : Nat) (w : World) (b m N : Nat) (A : Asm) : Prop := ∃ pt pd pe tv dv ev av, AsmAt lo w b m N A pt pd pe tv dv ev av
def TkOut (lo : Nat) (w' : World) (b m N : Nat) (R : Except Int Asm) (e : Ending) : Prop :=
  match R with
  | .error k => k ≠ 0 ∧ e = .returned (.iface 36 (.int .i64 k))
  | .ok A' => e = .returned .nilIface ∧ AsmIn lo w' b m (N + 2) A'
theorem readF_err {s : List UInt8} {args : List (List Tok)} {sec : Int} {k : Int} (h : readF s args sec = .error k) : k ≠ 0 := by
  have hst : ∀ {t : Thg}, standsT t sec = .error k → k ≠ 0 := fun {t} h => by
    unfold standsT at h
    split at h
    · cases h
    · cases h; decide
  have hsing : ∀ {j m}, singThg j m args sec = .error k → k ≠ 0 := fun {j m} h => by
    unfold singThg at h
    split at h
    · cases h; decide
    · split at h
      · rename_i hx; cases h; rcases singF_err hx with rfl | rfl <;> decide
      · exact hst h
  have hsev : ∀ {j}, sevThg j args sec = .error k → k ≠ 0 := fun {j} h => by
    unfold sevThg at h
    split at h
    · cases h; decide
    · split at h
      · rename_i hx; cases h; rcases itsF_err hx with rfl | rfl <;> decide
      · exact hst h
  have hequ : equThg args = .error k → k ≠ 0 := fun h => by
    unfold equThg at h
    split at h
    · unfold equF at h
      split at h
      · rename_i hx; cases h; rw [nameF_err hx]; decide
      · split at h
        · rename_i hx; cases h; rcases parseF_err hx with rfl | rfl <;> decide
        · cases h
    · cases h; decide
  have hglo : gloThg args = .error k → k ≠ 0 := fun h => by
    unfold gloThg at h
    split at h
    · unfold gloF at h
      split at h
      · rename_i hx; cases h; rw [nameF_err hx]; decide
      · cases h
    · cases h; decide
  have hsec : secThg args = .error k → k ≠ 0 := fun h => by
    unfold secThg at h
    split at h
    · unfold secF at h
      split at h
      · cases h
      · split at h
        · cases h
        · cases h; decide
    · cases h; decide
  have hop : opThg s args sec = .error k → k ≠ 0 := fun h => by
    unfold opThg at h
    split at h
    · cases h; decide
    · split at h
      · rename_i hx; cases h; rcases opF_err hx with rfl | rfl <;> decide
      · split at h
        · cases h
        · cases h; decide
  unfold readF at h
  repeat' split at h
  all_goals first
    | exact hsing h | exact hsev h | exact hequ h | exact hglo h | exact hsec h | exact hop h | (cases h; decide) | cases h
theorem take_line (h : AsmAt lo w b m N A pt pd pe tv dv ev av) (hT : Tab w) (hlo : lo ≤ w.heap.size) (n : Nat) (s : List UInt8) (hs : s.length ≤ 65536) (hN : N ≤ 2000000) (hok : A.text.length + A.data.length ≤ 8192) (hfe : A.equs.length ≤ 1100000) (hfa : A.asked.length ≤ 1100000) :
    Calls Tryz.prog 35 #[.pointer (some ⟨b, 0, none⟩), .int .i64 n, .string (str s)] w fun e w' => BelN lo m w w' ∧ TkOut lo w' b m N (takeF A n s) e := by
  unfold takeF lineU
  cases hL : parseL s with
  | error p =>
    refine (take_bad b n s hs p hL w).mono ?_
    rintro e w' ⟨rfl, hb⟩
    exact ⟨BelN.of hb hlo, by decide, rfl⟩
  | ok L =>
    simp only
    by_cases hi : L.label ≠ [] ∧ legB (str L.label) = false
    · rw [if_pos hi]
      refine (take_illegal h n s hs hL hi.1 hi.2).mono ?_
      rintro e w' ⟨rfl, hb⟩
      exact ⟨BelN.of hb hlo, by decide, rfl⟩
    · rw [if_neg hi]
      have hl : L.label = [] ∨ legB (str L.label) = true := by
        by_cases h0 : L.label = []
        · exact .inl h0
        · exact .inr (by
            cases hq : legB (str L.label) with
            | true => rfl
            | false => exact absurd ⟨h0, hq⟩ hi)
      cases hR : readF L.op L.args A.sec with
      | error k =>
        refine (take_read_err h hT hlo n s hs hL hl k (readF_err hR) hR).mono ?_
        rintro e w' ⟨rfl, hb⟩
        exact ⟨BelN.of hb hlo, readF_err hR, rfl⟩
      | ok x =>
        simp only
        cases hn1 : nameU A.given L.label with
        | none =>
          refine (take_dup1 h hT hlo n s hs hL hl hN x hR hn1).mono ?_
          rintro e w' ⟨rfl, hb⟩
          exact ⟨hb, by decide, rfl⟩
        | some g1 =>
          simp only
          by_cases hk : x.kind = 3
          · rw [if_pos hk]
            cases hn2 : nameU g1 x.name with
            | none =>
              refine (take_dup2 h hT hlo n s hs hL hl hN x hR g1 hn1 hk hn2).mono ?_
              rintro e w' ⟨rfl, hb⟩
              exact ⟨hb, by decide, rfl⟩
            | some g2 =>
              simp only
              by_cases hc : A.text.length + A.data.length + (labF L.label ++ x.items).length > 8192
              · rw [if_pos hc]
                refine (take_manyE h hT hlo n s hs hL hl hN hok hfe hfa x hR g1 hn1 hk g2 hn2 hc).mono ?_
                rintro e w' ⟨rfl, hb⟩
                exact ⟨hb, by decide, rfl⟩
              · rw [if_neg hc]
                refine (take_doneE h hT hlo n s hs hL hl hN hok hfe hfa x hR g1 hn1 hk g2 hn2 hc).mono ?_
                rintro e w' ⟨rfl, hb, hA⟩
                exact ⟨hb, rfl, hA⟩
          · rw [if_neg hk]
            simp only
            by_cases hc : A.text.length + A.data.length + (labF L.label ++ x.items).length > 8192
            · rw [if_pos hc]
              refine (take_manyN h hT hlo n s hs hL hl hN hok hfe hfa x hR g1 hn1 hk hc).mono ?_
              rintro e w' ⟨rfl, hb⟩
              exact ⟨hb, by decide, rfl⟩
            · rw [if_neg hc]
              refine (take_doneN h hT hlo n s hs hL hl hN hok hfe hfa x hR g1 hn1 hk hc).mono ?_
              rintro e w' ⟨rfl, hb, hA⟩
              exact ⟨hb, rfl, hA⟩
end Go.Proofs.YtogkchgjpflmjaaGreatDoor
/- strings.Cut at a byte 10. -/
namespace Go.Proofs.YtogkchgjpflmjaaGreatDoor
open Go.ChangeShapes Go.WideShapes Go.ChangeAt Go.RowKit
set_option linter.unusedVariables false
set_option maxRecDepth 100000
theorem index_any (l : List UInt8) (w : World) :
    Calls Tryz.prog 122 #[.string (str l), .string ⟨#[10]⟩] w fun e w' => e = .returned (.int .i64 (Lib.indexByte l 10)) ∧ w' = w := by
  have e1 := str_toList l
  have hx : (10 : Int).toNat.toUInt8 = 10 := rfl
  have hI : ∀ w, Calls Tryz.prog 153 #[.string (str l), .int .u8 10] w fun e w' => e = .returned (.int .i64 (Lib.indexByte l 10)) ∧ w' = w := fun w => by
    have := liteIndexByte_any (str l) 10 w
    rw [hx] at this
    exact this
  have hIH := Hid.intro hI
  clear hI hx
  by_cases h : l = [10]
  · subst h
    have hz : Lib.indexByte [10] 10 = 0 := rfl
    rw [hz]
    go_enter Tryz.func122, Tryz.ntmps122
    go_wp2
    go_ret
    exact ⟨rfl, rfl⟩
  · have hb : ([10] == l) = false := by
      rw [beq_eq_false_iff_ne]
      exact fun e => h e.symm
    clear h
    go_enter Tryz.func122, Tryz.ntmps122
    go_wp2_with (go_at_call 153; refine (hIH.out _).mono ?_; rintro e w' ⟨rfl, rfl⟩)
    go_ret
    exact ⟨rfl, rfl⟩
theorem liteCut_any (l : List UInt8) (w : World) (hl : l.length ≤ 1100000) :
    Calls Tryz.prog 100 #[.string (str l), .string ⟨#[10]⟩] w fun e w' => (∃ b, e = .returned (.tuple #[.string (str (l.take (nlLen l))), .string (str (l.drop (nlLen l + 1))), .bool b])) ∧ Below w.heap.size w w' := by
  have hI := Hid.intro (index_any l)
  have hsz : (str l).size = l.length := by simp [str, ByteArray.size]
  have hle := nlLen_le l
  by_cases h : nlLen l < l.length
  · rw [idx_nl l, if_pos h] at hI
    obtain ⟨k, hk⟩ : ∃ k, k = nlLen l := ⟨_, rfl⟩
    rw [← hk] at hI h hle ⊢
    have h1 : ∀ W : World, (Instr.slice 9 (.string (str l)) none (some (.int .i64 (k : Int))) none).run Tryz.prog W = .ok (.string (str (l.take k))) W := fun W => by
      rw [run_slice_string_h W 9 (str l) Tryz.underlying9 .i64 (k : Int) (by omega) (by omega), Lib.extract_eq]
      simp [str]
    have h2 : ∀ W : World, (Instr.slice 9 (.string (str l)) (some (.int .i64 ((k : Int) + 1))) none none).run Tryz.prog W = .ok (.string (str (l.drop (k + 1)))) W := fun W => by
      rw [run_slice_string_l W 9 (str l) Tryz.underlying9 .i64 ((k : Int) + 1) (by omega) (by omega), hsz, Lib.extract_eq]
      rw [List.take_of_length_le (by simp [str])]
      simp [str]
    have h3 : IntKind.i64.wrap ((k : Int) + 1) = (k : Int) + 1 := by rw [IntKind.wrap_i64]; omega
    clear hk
    go_enter Tryz.func100, Tryz.ntmps100
    go_wp2_with (go_at_call 122; refine (hI.out _).mono ?_; rintro e w' ⟨rfl, rfl⟩)
    all_goals first | omega | skip
    go_quiet (fail)
    go_wp2
    all_goals first | omega | skip
    go_ret3
    exact ⟨⟨_, rfl⟩, below_drewN (Below.refl _ _) nq⟩
  · have e : nlLen l = l.length := by omega
    rw [idx_nl l, if_neg h] at hI
    rw [e, List.take_length, List.drop_eq_nil_of_le (by omega)]
    clear e h hle
    go_enter Tryz.func100, Tryz.ntmps100
    go_wp2_with (go_at_call 122; refine (hI.out _).mono ?_; rintro e w' ⟨rfl, rfl⟩)
    go_ret3
    exact ⟨⟨_, rfl⟩, Below.refl _ _⟩
theorem cut_any (l : List UInt8) (w : World) (hl : l.length ≤ 1100000) :
    Calls Tryz.prog 66 #[.string (str l), .string ⟨#[10]⟩] w fun e w' => (∃ b, e = .returned (.tuple #[.string (str (l.take (nlLen l))), .string (str (l.drop (nlLen l + 1))), .bool b])) ∧ Below w.heap.size w w' := by
  have hI := Hid.intro (liteCut_any l w hl)
  go_enter Tryz.func66, Tryz.ntmps66
  go_wp2_with (go_at_call 100; refine (hI.out).mono ?_; rintro e w' ⟨⟨b, rfl⟩, hb⟩)
  go_ret3
  exact ⟨⟨_, rfl⟩, hb⟩
end Go.Proofs.YtogkchgjpflmjaaGreatDoor
namespace Go.Proofs.YtogkchgjpflmjaaGreatDoor
open Go.ChangeShapes Go.WideShapes Go.ChangeAt Go.RowKit Go.Shelf
set_option linter.unusedVariables false
set_option maxRecDepth 100000
attribute [local go_sem] Oper.semAt_some
theorem all_any (s : ByteArray) (w : World) :
    Calls Tryz.prog 33 #[.string s] w fun e w' => e = .returned (.func (.func 65) #[] #[.pointer (some ⟨w.heap.size, 0, none⟩)]) ∧ w' = w.alloc (.cells #[.string s] 9) := by
  have hmf : ∀ (fn : Fn) (first cap : Array Value) (w : World), (Instr.makeFunc fn first cap).run Tryz.prog w = .ok (.func fn first cap) w := fun _ _ _ _ => rfl
  go_enter Tryz.func33, Tryz.ntmps33
  go_wp2
  go_ret
  exact ⟨rfl, rfl⟩
abbrev LnA : Type := { x : Nat × ByteArray // x.2.size ≤ 65536 }
abbrev encL (x : LnA) : Array Value := #[.int .i64 (x.1.1 : Int), .string x.1.2]
theorem astr_size (l : List UInt8) : (str l).size = l.length := by simp [str, ByteArray.size]
def mkA (i : Nat) (l : List UInt8) : LnA := ⟨(i, str (l.take 65536)), by rw [astr_size, List.length_take]; omega⟩
theorem mkA_enc (i : Nat) (l : List UInt8) (h : l.length ≤ 65536) : encL (mkA i l) = #[.int .i64 (i : Int), .string (str l)] := by
  show #[Value.int .i64 (i : Int), Value.string (str (l.take 65536))] = _
  rw [List.take_of_length_le h]
def numbered (i : Nat) : List (List UInt8) → List LnA
  | [] => []
  | l :: ls => mkA i l :: numbered (i + 1) ls
theorem numbered_len (i : Nat) (ls : List (List UInt8)) : (numbered i ls).length = ls.length := by
  induction ls generalizing i with
  | nil => rfl
  | cons l ls ih => simp [numbered, ih]
def strLen : Value → Nat
  | .string s => s.size
  | _ => 0
set_option maxHeartbeats 2000000 in
theorem all_stops (n : Nat) (hn : 1 ≤ n) (b : Nat) (l : List UInt8) (hl : l.length ≤ 65536) (w : World) (hbw : b < w.heap.size) (hb : w.cell? ⟨b, 0, none⟩ = some (.string (str l))) :
    SeqStopsK Fence.wide n Tryz.prog 65 #[.pointer (some ⟨b, 0, none⟩)] encL (fun _ _ => True) (fun xs => xs = numbered 1 (linesOf l)) (fun pre => pre <+: numbered 1 (linesOf l)) (linesOf l).length w := fun lp J Jx W hW hJ hJx hY h0 => by
  have hbW : W.cell? ⟨b, 0, none⟩ = some (.string (str l)) := (hW.cell (p := ⟨b, 0, none⟩) hbw).trans hb
  refine callsIn_of_wp Tryz.func65 rfl trivial ?_ rfl
  simp only [Tryz.ntmps65, List.size_toArray, List.length_cons, List.length_nil, Nat.reduceAdd, Nat.reduceSub, Array.replicate_succ, Array.replicate_zero, List.push_toArray, List.append_toArray, List.nil_append, List.cons_append]
  gi_wp2
  have hsz0 : W.heap.size ≤ W.heap.size := Nat.le_refl _
  gi_loopw [3, 4] (fun v3 v4 wr => ∃ (pre : List LnA) (rest : List UInt8) (k : Nat), v3 = .string (str rest) ∧ v4 = .int .i64 (k : Int) ∧ numbered 1 (linesOf l) = pre ++ numbered k (linesOf rest) ∧ rest.length ≤ 65536 ∧ k ≤ 65537 ∧ pre.length + 1 = k ∧ Hid (J pre wr)) (fun v3 _ _ => strLen v3)
  case atStart => exact ⟨[], l, 1, rfl, rfl, rfl, hl, by omega, rfl, h0⟩
  case round =>
    obtain ⟨pre, rest, k, rfl, rfl, hx, hr, hk, hpk, hJr⟩ := hrel
    by_cases hrest : rest = []
    · subst hrest
      have e1 := str_toList []
      gi_wp2
      go_end0
      exact ⟨⟨_, rfl⟩, .inl ⟨pre, by rw [hx, linesOf_nil]; simp [numbered], hJr.out⟩⟩
    · have e1 := str_toList rest
      have hb1 : rest.isEmpty = false := by simp [hrest]
      have hlm := linesOf_more rest hrest
      have hle := nlLen_le rest
      obtain ⟨ln, hln⟩ : ∃ ln, ln = rest.take (nlLen rest) := ⟨_, rfl⟩
      obtain ⟨rs, hrs⟩ : ∃ rs, rs = rest.drop (nlLen rest + 1) := ⟨_, rfl⟩
      have hlnl : ln.length ≤ 65536 := by rw [hln, List.length_take]; omega
      have hrsl : rs.length < rest.length := by
        have : 0 < rest.length := List.length_pos_iff.2 hrest
        rw [hrs, List.length_drop]
        omega
      have hC := Hid.intro (fun w => cut_any rest w (by omega))
      rw [← hln, ← hrs] at hC hlm
      have hx2 : Hid (numbered 1 (linesOf l) = (pre ++ [mkA k ln]) ++ numbered (k + 1) (linesOf rs)) := by
        show _ = _
        rw [hx, hlm]
        simp [numbered]
      have hlen : pre.length < (linesOf l).length := by
        have h2 := congrArg List.length hx2.out
        rw [numbered_len] at h2
        simp at h2
        omega
      clear hx hlm hln hrs hrest
      gi_wp2_with (first
        | (refine ⟨trivial, ?_⟩; gi_at_call 66; refine (callsIn_wide.2 (hC.out _)).mono ?_; rintro e w1 ⟨⟨bb, rfl⟩, hbe1⟩)
        | (refine ⟨trivial, ?_⟩; gi_at_call 39; refine (callsIn_wide.2 (clone_any (str ln) _ (by rw [astr_size]; omega))).mono ?_; rintro e w2 ⟨rfl, hbe2⟩; have hJ2 := hJ pre _ _ none (hJ pre _ _ none hJr.out (grown_of_below hbe1) (fun r e => by cases e)) (grown_of_below hbe2) (fun r e => by cases e); obtain ⟨fn, tmps, assign, body, hy, hR⟩ := hY pre (mkA k ln) w2 hJ2 hlen; rw [mkA_enc k ln hlnl] at hy))
      refine hR.mono ?_
      rintro e W3 (⟨rfl, hJ3, _⟩ | ⟨rfl, hJx3⟩)
      · gi_wp2
        go_roundw
        case rel => exact ⟨pre ++ [mkA k ln], rs, k + 1, rfl, by go_num, hx2.out, by omega, by have := linesOf_len l; omega, by simp; omega, hJ3⟩
        case measure =>
          show (str rs).size < (str rest).size
          rw [astr_size, astr_size]
          exact hrsl
      · gi_wp2
        refine bodyPost_ret (results_none rfl _ _ _) rfl ?_
        exact ⟨⟨_, rfl⟩, .inr ⟨pre ++ [mkA k ln], ⟨_, hx2.out.symm⟩, hJx3⟩⟩
end Go.Proofs.YtogkchgjpflmjaaGreatDoor
