/- unit's whole: the unit, when all lines are taken. -/
import Derived.Test.YtogkchgjpflmjaaGreatDoorTk3
import Derived.Test.YtogkchgjpflmjaaGreatDoorLay
import Derived.Test.YtogkchgjpflmjaaGreatDoorHml
import Derived.Shelf.Lays
import Derived.Shelf.Lays2
import Derived.Shelf.LaysM
import Derived.Test.YtogkchgjpflmjaaGreatDoorProg
import Derived.Test.YtogkchgjpflmjaaGreatDoorShelf
import Derived.Shelf.Sort.Plain
import Derived.Shelf.Slices.In.SortNone
import Derived.Shelf.Slices.CompactS
import Derived.Sort.OwnSorted
import Derived.Lib.OwnBridge
/- unit's take, whatever the line. -/
namespace Go.Proofs.YtogkchgjpflmjaaGreatDoor
open Go.ChangeShapes Go.WideShapes Go.ChangeAt Go.RowKit
set_option linter.unusedVariables false
set_option maxRecDepth 100000
variable {lo b m N : Nat} {w : World} {A : Asm} {pt pd : List (Itm × Value)} {pe : List ((List UInt8 × Lin) × Value)} {tv dv ev av : Value}
def AsmIn (lo : Nat) (w : World) (b m N : Nat) (A : Asm) : Prop := ∃ pt pd pe tv dv ev av, AsmAt lo w b m N A pt pd pe tv dv ev av
def TkOut (lo : Nat) (w' : World) (b m N : Nat) (R : Except Int Asm) (e : Ending) : Prop :=
  match R with
  | .error k => k ≠ 0 ∧ e = .returned (.iface 36 (.int .i64 k))
  | .ok A' => e = .returned .nilIface ∧ AsmIn lo w' b m (N + 2) A'
theorem readF_err {s : List UInt8} {args : List (List Tok)} {sec : Int} {k : Int} (h : readF s args sec = .error k) : k ≠ 0 := by
  have hst : ∀ {t : Thg}, standsT t sec = .error k → k ≠ 0 := fun {t} h => by
    unfold standsT at h
    split at h
    · cases h
    · cases h; decide
  have hsing : ∀ {j m}, singThg j m args sec = .error k → k ≠ 0 := fun {j m} h => by
    unfold singThg at h
    split at h
    · cases h; decide
    · split at h
      · rename_i hx; cases h; rcases singF_err hx with rfl | rfl <;> decide
      · exact hst h
  have hsev : ∀ {j}, sevThg j args sec = .error k → k ≠ 0 := fun {j} h => by
    unfold sevThg at h
    split at h
    · cases h; decide
    · split at h
      · rename_i hx; cases h; rcases itsF_err hx with rfl | rfl <;> decide
      · exact hst h
  have hequ : equThg args = .error k → k ≠ 0 := fun h => by
    unfold equThg at h
    split at h
    · unfold equF at h
      split at h
      · rename_i hx; cases h; rw [nameF_err hx]; decide
      · split at h
        · rename_i hx; cases h; rcases parseF_err hx with rfl | rfl <;> decide
        · cases h
    · cases h; decide
  have hglo : gloThg args = .error k → k ≠ 0 := fun h => by
    unfold gloThg at h
    split at h
    · unfold gloF at h
      split at h
      · rename_i hx; cases h; rw [nameF_err hx]; decide
      · cases h
    · cases h; decide
  have hsec : secThg args = .error k → k ≠ 0 := fun h => by
    unfold secThg at h
    split at h
    · unfold secF at h
      split at h
      · cases h
      · split at h
        · cases h
        · cases h; decide
    · cases h; decide
  have hop : opThg s args sec = .error k → k ≠ 0 := fun h => by
    unfold opThg at h
    split at h
    · cases h; decide
    · split at h
      · rename_i hx; cases h; rcases opF_err hx with rfl | rfl <;> decide
      · split at h
        · cases h
        · cases h; decide
  unfold readF at h
  repeat' split at h
  all_goals first
    | exact hsing h | exact hsev h | exact hequ h | exact hglo h | exact hsec h | exact hop h | (cases h; decide) | cases h
theorem take_line (h : AsmAt lo w b m N A pt pd pe tv dv ev av) (hT : Tab w) (hlo : lo ≤ w.heap.size) (n : Nat) (s : List UInt8) (hs : s.length ≤ 65536) (hN : N ≤ 2000000) (hok : A.text.length + A.data.length ≤ 8192) (hfe : A.equs.length ≤ 1100000) (hfa : A.asked.length ≤ 1100000) :
    Calls Tryz.prog 35 #[.pointer (some ⟨b, 0, none⟩), .int .i64 n, .string (str s)] w fun e w' => BelN lo m w w' ∧ TkOut lo w' b m N (takeF A n s) e := by
  unfold takeF lineU
  cases hL : parseL s with
  | error p =>
    refine (take_bad b n s hs p hL w).mono ?_
    rintro e w' ⟨rfl, hb⟩
    exact ⟨BelN.of hb hlo, by decide, rfl⟩
  | ok L =>
    simp only
    by_cases hi : L.label ≠ [] ∧ legB (str L.label) = false
    · rw [if_pos hi]
      refine (take_illegal h n s hs hL hi.1 hi.2).mono ?_
      rintro e w' ⟨rfl, hb⟩
      exact ⟨BelN.of hb hlo, by decide, rfl⟩
    · rw [if_neg hi]
      have hl : L.label = [] ∨ legB (str L.label) = true := by
        by_cases h0 : L.label = []
        · exact .inl h0
        · exact .inr (by
            cases hq : legB (str L.label) with
            | true => rfl
            | false => exact absurd ⟨h0, hq⟩ hi)
      cases hR : readF L.op L.args A.sec with
      | error k =>
        refine (take_read_err h hT hlo n s hs hL hl k (readF_err hR) hR).mono ?_
        rintro e w' ⟨rfl, hb⟩
        exact ⟨BelN.of hb hlo, readF_err hR, rfl⟩
      | ok x =>
        simp only
        cases hn1 : nameU A.given L.label with
        | none =>
          refine (take_dup1 h hT hlo n s hs hL hl hN x hR hn1).mono ?_
          rintro e w' ⟨rfl, hb⟩
          exact ⟨hb, by decide, rfl⟩
        | some g1 =>
          simp only
          by_cases hk : x.kind = 3
          · rw [if_pos hk]
            cases hn2 : nameU g1 x.name with
            | none =>
              refine (take_dup2 h hT hlo n s hs hL hl hN x hR g1 hn1 hk hn2).mono ?_
              rintro e w' ⟨rfl, hb⟩
              exact ⟨hb, by decide, rfl⟩
            | some g2 =>
              simp only
              by_cases hc : A.text.length + A.data.length + (labF L.label ++ x.items).length > 8192
              · rw [if_pos hc]
                refine (take_manyE h hT hlo n s hs hL hl hN hok hfe hfa x hR g1 hn1 hk g2 hn2 hc).mono ?_
                rintro e w' ⟨rfl, hb⟩
                exact ⟨hb, by decide, rfl⟩
              · rw [if_neg hc]
                refine (take_doneE h hT hlo n s hs hL hl hN hok hfe hfa x hR g1 hn1 hk g2 hn2 hc).mono ?_
                rintro e w' ⟨rfl, hb, hA⟩
                exact ⟨hb, rfl, hA⟩
          · rw [if_neg hk]
            simp only
            by_cases hc : A.text.length + A.data.length + (labF L.label ++ x.items).length > 8192
            · rw [if_pos hc]
              refine (take_manyN h hT hlo n s hs hL hl hN hok hfe hfa x hR g1 hn1 hk hc).mono ?_
              rintro e w' ⟨rfl, hb⟩
              exact ⟨hb, by decide, rfl⟩
            · rw [if_neg hc]
              refine (take_doneN h hT hlo n s hs hL hl hN hok hfe hfa x hR g1 hn1 hk hc).mono ?_
              rintro e w' ⟨rfl, hb, hA⟩
              exact ⟨hb, rfl, hA⟩
end Go.Proofs.YtogkchgjpflmjaaGreatDoor
/- The lines of a source, taken one by one: as a function of what a range hands out; what stays small. -/
namespace Go.Proofs.YtogkchgjpflmjaaGreatDoor
open Go.ChangeShapes Go.WideShapes Go.ChangeAt Go.RowKit
set_option linter.unusedVariables false
set_option maxRecDepth 100000
def runP (A : Asm) : List LnA → Except (Nat × Int) Asm
  | [] => .ok A
  | x :: r => match takeF A x.1.1 (bs x.1.2) with
    | .error k => .error (x.1.1, k)
    | .ok B => runP B r
theorem runP_snoc (pre : List LnA) (x : LnA) : ∀ A, runP A (pre ++ [x]) = match runP A pre with | .error f => .error f | .ok B => (match takeF B x.1.1 (bs x.1.2) with | .error k => .error (x.1.1, k) | .ok C => .ok C) := by
  induction pre with
  | nil =>
    intro A
    simp only [List.nil_append, runP]
  | cons y r ih =>
    intro A
    simp only [List.cons_append, runP]
    cases takeF A y.1.1 (bs y.1.2) with
    | error k => rfl
    | ok B => exact ih B
theorem runP_more (pre rest : List LnA) : ∀ A f, runP A pre = .error f → runP A (pre ++ rest) = .error f := by
  induction pre with
  | nil => intro A f h; cases h
  | cons y r ih =>
    intro A f h
    simp only [List.cons_append, runP] at h ⊢
    cases ht : takeF A y.1.1 (bs y.1.2) with
    | error k => rw [ht] at h; exact h
    | ok B => rw [ht] at h; exact ih B f h
theorem runP_numbered (ls : List (List UInt8)) (hl : ∀ s ∈ ls, s.length ≤ 65536) : ∀ A n, runP A (numbered n ls) = runF A n ls := by
  induction ls with
  | nil => intro A n; rfl
  | cons s r ih =>
    intro A n
    have e1 : bs (mkA n s).1.2 = s := by
      show bs (str (s.take 65536)) = s
      rw [List.take_of_length_le (hl s (by simp)), bs_str]
    have e2 : (mkA n s).1.1 = n := rfl
    simp only [numbered, runP, runF]
    rw [e1, e2]
    cases takeF A n s with
    | error k => rfl
    | ok B => exact ih (fun s hs => hl s (by simp [hs])) B (n + 1)
structure AsmB (A : Asm) (k : Nat) : Prop where
  few : A.text.length + A.data.length ≤ 8192
  equs : A.equs.length ≤ k
  asked : A.asked.length ≤ k
  names : ∀ q ∈ A.asked, q.1.length ≤ 32
theorem asmE_B : AsmB asmE 0 := ⟨by decide, by decide, by decide, fun q hq => by cases hq⟩
theorem layU_text (A : Asm) (n : Nat) (g : List (List UInt8)) (its : List Itm) (x : Thg) : (layU A n g its x).text.length + (layU A n g its x).data.length = A.text.length + A.data.length + its.length := by
  unfold layU
  by_cases h : A.sec = 1
  · simp [h]; omega
  · simp [h]; omega
theorem lineU_fine {s : List UInt8} {sec : Int} {lb : List UInt8} {x : Thg} (hs : s.length ≤ 65536) (h : lineU s sec = .ok (lb, x)) : FineT x sec ∧ (lb = [] ∨ legB (str lb) = true) := by
  unfold lineU at h
  cases hp : parseL s with
  | error q => rw [hp] at h; cases h
  | ok L =>
    rw [hp] at h
    simp only at h
    split at h
    · cases h
    · rename_i hi
      cases hr : readF L.op L.args sec with
      | error q => rw [hr] at h; cases h
      | ok y =>
        rw [hr] at h
        cases h
        obtain ⟨h1, _, h3⟩ := parseL_smallP hs hp
        refine ⟨readF_fine h3 (by omega) hr, ?_⟩
        by_cases h0 : L.label = []
        · exact .inl h0
        · refine .inr ?_
          cases hq : legB (str L.label) with
          | true => rfl
          | false => exact absurd ⟨h0, hq⟩ hi
theorem takeF_ok {A B : Asm} {n : Nat} {s : List UInt8} (h : takeF A n s = .ok B) : ∃ lb x g1 g2, lineU s A.sec = .ok (lb, x) ∧ nameU A.given lb = some g1 ∧ (if x.kind = 3 then nameU g1 x.name else some g1) = some g2 ∧ A.text.length + A.data.length + (labF lb ++ x.items).length ≤ 8192 ∧ B = layU A n g2 (labF lb ++ x.items) x := by
  unfold takeF at h
  cases hl : lineU s A.sec with
  | error k => rw [hl] at h; cases h
  | ok p =>
    obtain ⟨lb, x⟩ := p
    rw [hl] at h
    simp only at h
    cases h1 : nameU A.given lb with
    | none => rw [h1] at h; cases h
    | some g1 =>
      rw [h1] at h
      simp only at h
      cases h2 : (if x.kind = 3 then nameU g1 x.name else some g1) with
      | none => rw [h2] at h; cases h
      | some g2 =>
        rw [h2] at h
        simp only at h
        split at h
        · cases h
        · rename_i hc
          cases h
          exact ⟨lb, x, g1, g2, rfl, h1, h2, by omega, rfl⟩
theorem takeF_B {A B : Asm} {n k : Nat} {s : List UInt8} (hs : s.length ≤ 65536) (hA : AsmB A k) (h : takeF A n s = .ok B) : AsmB B (k + 1) := by
  obtain ⟨lb, x, g1, g2, hl, h1, h2, hc, rfl⟩ := takeF_ok h
  have hf := (lineU_fine hs hl).1
  have h3 := hA.equs
  have h4 := hA.asked
  refine ⟨by rw [layU_text]; exact hc, ?_, ?_, fun q hq => ?_⟩
  · unfold layU
    by_cases hk : x.kind = 3
    · simp [hk]; omega
    · simp [hk]; omega
  · unfold layU
    by_cases hk : x.kind = 4
    · simp [hk]; omega
    · simp [hk]; omega
  · unfold layU at hq
    by_cases hk : x.kind = 4
    · simp [hk] at hq
      rcases hq with hq | hq
      · exact hA.names q hq
      · subst hq
        exact hf.name
    · simp [hk] at hq
      exact hA.names q hq
theorem runP_B (pre : List LnA) : ∀ A B k, AsmB A k → runP A pre = .ok B → AsmB B (k + pre.length) := by
  induction pre with
  | nil => intro A B k hA h; cases h; exact hA
  | cons x r ih =>
    intro A B k hA h
    simp only [runP] at h
    cases ht : takeF A x.1.1 (bs x.1.2) with
    | error e => rw [ht] at h; cases h
    | ok C =>
      rw [ht] at h
      have hx : (bs x.1.2).length ≤ 65536 := by rw [bs_length]; exact x.2
      have := ih C B (k + 1) (takeF_B hx hA ht) h
      rw [show k + (x :: r).length = k + 1 + r.length by simp; omega]
      exact this
theorem linesOf_short (l : List UInt8) (hl : l.length ≤ 65536) : ∀ s ∈ linesOf l, s.length ≤ 65536 := by
  intro s hs
  have := linesOf_size l s hs
  omega
end Go.Proofs.YtogkchgjpflmjaaGreatDoor
/- The library's slices.Sort, slices.Compact, slices.BinarySearch at texts, and strconv.Itoa: the shelf's layings at this program's numbers. -/
namespace Go.Proofs
open Go.Shelf
def Tryz.laysStrSort_ren : Go.Shelf.Ren := ⟨fun | 190 => 74 | 125 => 109 | 258 => 108 | 128 => 142 | 129 => 143 | 302 => 134 | 303 => 135 | 304 => 136 | 305 => 137 | 306 => 138 | 307 => 139 | 308 => 114 | 309 => 140 | 310 => 141 | 333 => 160 | 329 => 161 | 330 => 162 | 334 => 163 | 335 => 164 | 336 => 146 | 344 => 180 | n => n, fun | 31 => 24 | 9 => 9 | 3 => 3 | 46 => 125 | 0 => 0 | 51 => 87 | 53 => 224 | 4 => 4 | 183 => 247 | 182 => 246 | 131 => 76 | 5 => 5 | 218 => 266 | 222 => 270 | 228 => 286 | 229 => 273 | n => n, fun | n => n⟩
theorem Tryz.laysStrSort : Go.Proofs.Lays.n190 Tryz.prog Tryz.laysStrSort_ren := {
  mixed := by kernel_rfl
  f125 := Tryz.func109.trans (congrArg some (by kernel_rfl))
  f128 := Tryz.func142.trans (congrArg some (by kernel_rfl))
  f129 := Tryz.func143.trans (congrArg some (by kernel_rfl))
  f190 := Tryz.func74.trans (congrArg some (by kernel_rfl))
  f258 := Tryz.func108.trans (congrArg some (by kernel_rfl))
  f302 := Tryz.func134.trans (congrArg some (by kernel_rfl))
  f303 := Tryz.func135.trans (congrArg some (by kernel_rfl))
  f304 := Tryz.func136.trans (congrArg some (by kernel_rfl))
  f305 := Tryz.func137.trans (congrArg some (by kernel_rfl))
  f306 := Tryz.func138.trans (congrArg some (by kernel_rfl))
  f307 := Tryz.func139.trans (congrArg some (by kernel_rfl))
  f308 := Tryz.func114.trans (congrArg some (by kernel_rfl))
  f309 := Tryz.func140.trans (congrArg some (by kernel_rfl))
  f310 := Tryz.func141.trans (congrArg some (by kernel_rfl))
  f329 := Tryz.func161.trans (congrArg some (by kernel_rfl))
  f330 := Tryz.func162.trans (congrArg some (by kernel_rfl))
  f333 := Tryz.func160.trans (congrArg some (by kernel_rfl))
  f334 := Tryz.func163.trans (congrArg some (by kernel_rfl))
  f335 := Tryz.func164.trans (congrArg some (by kernel_rfl))
  f336 := Tryz.func146.trans (congrArg some (by kernel_rfl))
  f344 := Tryz.func180.trans (congrArg some (by kernel_rfl))
  t0 := Tryz.underlying0
  a0 := Tryz.isAgg0
  z0 := Tryz.sizeOf0
  v0 := Tryz.zeroValue0
  t3 := Tryz.underlying3
  a3 := Tryz.isAgg3
  z3 := Tryz.sizeOf3
  v3 := Tryz.zeroValue3
  t4 := Tryz.underlying4
  a4 := Tryz.isAgg4
  z4 := Tryz.sizeOf4
  v4 := Tryz.zeroValue4
  t5 := Tryz.underlying5
  a5 := Tryz.isAgg5
  z5 := Tryz.sizeOf5
  v5 := Tryz.zeroValue5
  t9 := Tryz.underlying9
  a9 := Tryz.isAgg9
  z9 := Tryz.sizeOf9
  v9 := Tryz.zeroValue9
  t31 := Tryz.underlying24
  a31 := Tryz.isAgg24
  z31 := Tryz.sizeOf24
  v31 := Tryz.zeroValue24
  t46 := Tryz.underlying125
  a46 := Tryz.isAgg125
  z46 := Tryz.sizeOf125
  v46 := Tryz.zeroValue125
  t51 := Tryz.underlying87
  a51 := Tryz.isAgg87
  z51 := Tryz.sizeOf87
  v51 := Tryz.zeroValue87
  t53 := Tryz.underlying224
  a53 := Tryz.isAgg224
  z53 := Tryz.sizeOf224
  v53 := Tryz.zeroValue224
  t131 := Tryz.underlying76
  a131 := Tryz.isAgg76
  z131 := Tryz.sizeOf76
  v131 := Tryz.zeroValue76
  t182 := Tryz.underlying246
  a182 := Tryz.isAgg246
  z182 := Tryz.sizeOf246
  v182 := Tryz.zeroValue246
  t183 := Tryz.underlying247
  a183 := Tryz.isAgg247
  z183 := Tryz.sizeOf247
  v183 := Tryz.zeroValue247
  t218 := Tryz.underlying266
  a218 := Tryz.isAgg266
  z218 := Tryz.sizeOf266
  v218 := Tryz.zeroValue266
  t222 := Tryz.underlying270
  a222 := Tryz.isAgg270
  z222 := Tryz.sizeOf270
  v222 := Tryz.zeroValue270
  t228 := Tryz.underlying286
  a228 := Tryz.isAgg286
  z228 := Tryz.sizeOf286
  v228 := Tryz.zeroValue286
  t229 := Tryz.underlying273
  a229 := Tryz.isAgg273
  z229 := Tryz.sizeOf273
  v229 := Tryz.zeroValue273 }
def Tryz.laysCompact_ren : Go.Shelf.Ren := ⟨fun | 194 => 75 | n => n, fun | 31 => 24 | 9 => 9 | 3 => 3 | 4 => 4 | 0 => 0 | n => n, fun | n => n⟩
theorem Tryz.laysCompact : Go.Proofs.Lays.n194 Tryz.prog Tryz.laysCompact_ren := {
  mixed := by kernel_rfl
  f194 := Tryz.func75.trans (congrArg some (by kernel_rfl))
  t0 := Tryz.underlying0
  a0 := Tryz.isAgg0
  z0 := Tryz.sizeOf0
  v0 := Tryz.zeroValue0
  t3 := Tryz.underlying3
  a3 := Tryz.isAgg3
  z3 := Tryz.sizeOf3
  v3 := Tryz.zeroValue3
  t4 := Tryz.underlying4
  a4 := Tryz.isAgg4
  z4 := Tryz.sizeOf4
  v4 := Tryz.zeroValue4
  t9 := Tryz.underlying9
  a9 := Tryz.isAgg9
  z9 := Tryz.sizeOf9
  v9 := Tryz.zeroValue9
  t31 := Tryz.underlying24
  a31 := Tryz.isAgg24
  z31 := Tryz.sizeOf24
  v31 := Tryz.zeroValue24 }
def Tryz.laysSearch_ren : Go.Shelf.Ren := ⟨fun | 26 => 81 | 33 => 114 | 34 => 115 | 38 => 146 | n => n, fun | 24 => 24 | 9 => 9 | 3 => 3 | 4 => 4 | 40 => 125 | 0 => 0 | n => n, fun | n => n⟩
theorem Tryz.laysSearch : Go.Proofs.Lays2.n26 Tryz.prog Tryz.laysSearch_ren := {
  mixed := by kernel_rfl
  f26 := Tryz.func81.trans (congrArg some (by kernel_rfl))
  f33 := Tryz.func114.trans (congrArg some (by kernel_rfl))
  f34 := Tryz.func115.trans (congrArg some (by kernel_rfl))
  f38 := Tryz.func146.trans (congrArg some (by kernel_rfl))
  t0 := Tryz.underlying0
  a0 := Tryz.isAgg0
  z0 := Tryz.sizeOf0
  v0 := Tryz.zeroValue0
  t3 := Tryz.underlying3
  a3 := Tryz.isAgg3
  z3 := Tryz.sizeOf3
  v3 := Tryz.zeroValue3
  t4 := Tryz.underlying4
  a4 := Tryz.isAgg4
  z4 := Tryz.sizeOf4
  v4 := Tryz.zeroValue4
  t9 := Tryz.underlying9
  a9 := Tryz.isAgg9
  z9 := Tryz.sizeOf9
  v9 := Tryz.zeroValue9
  t24 := Tryz.underlying24
  a24 := Tryz.isAgg24
  z24 := Tryz.sizeOf24
  v24 := Tryz.zeroValue24
  t40 := Tryz.underlying125
  a40 := Tryz.isAgg125
  z40 := Tryz.sizeOf125
  v40 := Tryz.zeroValue125 }
def Tryz.laysItoa_ren : Go.Shelf.Ren := ⟨fun | 171 => 84 | 243 => 118 | 246 => 152 | 283 => 174 | 284 => 175 | 285 => 176 | 286 => 177 | 129 => 143 | 317 => 186 | 318 => 187 | 319 => 188 | 320 => 189 | 337 => 194 | 338 => 195 | n => n, fun | 3 => 3 | 9 => 9 | 2 => 2 | 4 => 4 | 171 => 280 | 0 => 0 | 53 => 224 | 37 => 33 | 5 => 5 | 173 => 282 | 212 => 299 | 51 => 87 | 20 => 20 | 213 => 300 | 46 => 125 | 232 => 305 | 233 => 306 | n => n, fun | 17 => 4 | 18 => 5 | 19 => 6 | n => n⟩
theorem Tryz.laysItoa : Go.Proofs.LaysM.n171 Tryz.prog Tryz.laysItoa_ren := {
  mixed := by kernel_rfl
  f129 := Tryz.func143.trans (congrArg some (by kernel_rfl))
  f171 := Tryz.func84.trans (congrArg some (by kernel_rfl))
  f243 := Tryz.func118.trans (congrArg some (by kernel_rfl))
  f246 := Tryz.func152.trans (congrArg some (by kernel_rfl))
  f283 := Tryz.func174.trans (congrArg some (by kernel_rfl))
  f284 := Tryz.func175.trans (congrArg some (by kernel_rfl))
  f285 := Tryz.func176.trans (congrArg some (by kernel_rfl))
  f286 := Tryz.func177.trans (congrArg some (by kernel_rfl))
  f317 := Tryz.func186.trans (congrArg some (by kernel_rfl))
  f318 := Tryz.func187.trans (congrArg some (by kernel_rfl))
  f319 := Tryz.func188.trans (congrArg some (by kernel_rfl))
  f320 := Tryz.func189.trans (congrArg some (by kernel_rfl))
  f337 := Tryz.func194.trans (congrArg some (by kernel_rfl))
  f338 := Tryz.func195.trans (congrArg some (by kernel_rfl))
  t0 := Tryz.underlying0
  a0 := Tryz.isAgg0
  z0 := Tryz.sizeOf0
  v0 := Tryz.zeroValue0
  t2 := Tryz.underlying2
  a2 := Tryz.isAgg2
  z2 := Tryz.sizeOf2
  v2 := Tryz.zeroValue2
  t3 := Tryz.underlying3
  a3 := Tryz.isAgg3
  z3 := Tryz.sizeOf3
  v3 := Tryz.zeroValue3
  t4 := Tryz.underlying4
  a4 := Tryz.isAgg4
  z4 := Tryz.sizeOf4
  v4 := Tryz.zeroValue4
  t5 := Tryz.underlying5
  a5 := Tryz.isAgg5
  z5 := Tryz.sizeOf5
  v5 := Tryz.zeroValue5
  t9 := Tryz.underlying9
  a9 := Tryz.isAgg9
  z9 := Tryz.sizeOf9
  v9 := Tryz.zeroValue9
  t20 := Tryz.underlying20
  a20 := Tryz.isAgg20
  z20 := Tryz.sizeOf20
  v20 := Tryz.zeroValue20
  t37 := Tryz.underlying33
  a37 := Tryz.isAgg33
  z37 := Tryz.sizeOf33
  v37 := Tryz.zeroValue33
  t46 := Tryz.underlying125
  a46 := Tryz.isAgg125
  z46 := Tryz.sizeOf125
  v46 := Tryz.zeroValue125
  t51 := Tryz.underlying87
  a51 := Tryz.isAgg87
  z51 := Tryz.sizeOf87
  v51 := Tryz.zeroValue87
  t53 := Tryz.underlying224
  a53 := Tryz.isAgg224
  z53 := Tryz.sizeOf224
  v53 := Tryz.zeroValue224
  t171 := Tryz.underlying280
  a171 := Tryz.isAgg280
  z171 := Tryz.sizeOf280
  v171 := Tryz.zeroValue280
  t173 := Tryz.underlying282
  a173 := Tryz.isAgg282
  z173 := Tryz.sizeOf282
  v173 := Tryz.zeroValue282
  t212 := Tryz.underlying299
  a212 := Tryz.isAgg299
  z212 := Tryz.sizeOf299
  v212 := Tryz.zeroValue299
  t213 := Tryz.underlying300
  a213 := Tryz.isAgg300
  z213 := Tryz.sizeOf300
  t232 := Tryz.underlying305
  a232 := Tryz.isAgg305
  z232 := Tryz.sizeOf305
  v232 := Tryz.zeroValue305
  t233 := Tryz.underlying306
  a233 := Tryz.isAgg306
  z233 := Tryz.sizeOf306
  v233 := Tryz.zeroValue306
  g17 := by kernel_rfl
  g18 := by kernel_rfl
  g19 := by kernel_rfl
  i0 := by kernel_rfl
  i2 := by kernel_rfl
  i3 := by kernel_rfl
  i4 := by kernel_rfl
  i5 := by kernel_rfl
  i9 := by kernel_rfl
  i20 := by kernel_rfl
  i37 := by kernel_rfl
  i46 := by kernel_rfl
  i51 := by kernel_rfl
  i53 := by kernel_rfl
  i171 := by kernel_rfl
  i173 := by kernel_rfl
  i212 := by kernel_rfl
  i232 := by kernel_rfl
  i233 := by kernel_rfl
  m17 := by kernel_rfl
  m18 := by kernel_rfl
  m19 := by kernel_rfl }
end Go.Proofs
/- Texts sorted, and each of them once: the library's, at lists that are owned. -/
namespace Go.Proofs.YtogkchgjpflmjaaGreatDoor
open Go.ChangeShapes Go.WideShapes Go.ChangeAt Go.RowKit Go.Sort
set_option linter.unusedVariables false
set_option maxRecDepth 100000
def sortS (ss : List (List UInt8)) : List (List UInt8) := ss.mergeSort fun x y => decide (x ≤ y)
theorem sortS_len (ss : List (List UInt8)) : (sortS ss).length = ss.length := List.length_mergeSort ss
theorem sortS_any (v : Value) (ss : List (List UInt8)) (B : Nat) (w : World) (hl : ss.length ≤ 9000000) (hown : w.ownsRow B 9 1 v ss.length (ss.map encStr)) :
    Calls Tryz.prog 74 #[v] w fun e w' => e = .returned (.tuple #[]) ∧ w'.ownsRow B 9 1 v ss.length ((sortS ss).map encStr) ∧ w.grownBy w' v.ownBlock := by
  rcases hown.2 with ⟨rfl, h0⟩ | ⟨g, cap, cur, rfl, hbase, hb, h1, h2, h3, h4⟩
  · have he : ss = [] := List.eq_nil_of_length_eq_zero h0
    subst he
    refine (Any.slices_Sort_string_none Tryz.laysStrSort none 0 w).mono ?_
    rintro e w' ⟨rfl, rfl⟩
    exact ⟨rfl, by simpa [sortS] using World.ownsRow_nil _ B 9 1, World.grownBy.refl _ _⟩
  · have hv : (Value.slice (some ⟨g, 0, none⟩) ss.length cap) ≠ .slice none 0 0 := by simp
    obtain ⟨g', cap', e1, _, hlt, _, _, _, hH⟩ := Lib.holds_of_ownsRow hown hv
    injection e1 with e1 _ e3
    injection e1 with e1
    injection e1 with e1
    subst e1 e3
    refine (Any.slices_Sort_string Tryz.laysStrSort g 0 cap ss w hH hlt (by omega)).mono ?_
    rintro e w' ⟨rfl, n, os, rfl⟩
    exact ⟨rfl, ownsRow_sorted (sortS_len ss) hbase hb h1 h2 h3, grownBy_sorted _⟩
theorem grownBy_putRow {w : World} {g q : Nat} {d : Array (List UInt8)} : w.grownBy (putRow encStr (Sort.ahead w q) g 0 d) (some g) := by
  refine ⟨rfl, rfl, rfl, by simp [putRow, mapBlock, Sort.ahead], fun k hk hne => ?_⟩
  have : g ≠ k := fun e => hne (by rw [e])
  simp [putRow, mapBlock, Sort.ahead, Array.getElem?_modify, this]
theorem compactS_any (v : Value) (ss : List (List UInt8)) (B : Nat) (w : World) (hl : ss.length ≤ 9000000) (hown : w.ownsRow B 9 1 v ss.length (ss.map encStr)) :
    Calls Tryz.prog 75 #[v] w fun e w' => ∃ v', e = .returned v' ∧ w'.ownsRow B 9 1 v' (Lib.compact ss).length ((Lib.compact ss).map encStr) ∧ v'.ownBlock = v.ownBlock ∧ w.grownBy w' v.ownBlock := by
  rcases hown.2 with ⟨rfl, h0⟩ | ⟨g, cap, cur, rfl, hbase, hb, h1, h2, h3, h4⟩
  · have he : ss = [] := List.eq_nil_of_length_eq_zero h0
    subst he
    refine (Any.slices_Compact_string_empty Tryz.laysCompact none 0 w).mono ?_
    rintro e w' ⟨rfl, rfl⟩
    exact ⟨_, rfl, World.ownsRow_nil _ B 9 1, rfl, World.grownBy.refl _ _⟩
  · have hv : (Value.slice (some ⟨g, 0, none⟩) ss.length cap) ≠ .slice none 0 0 := by simp
    obtain ⟨g', cap', e1, _, hlt, _, _, _, hH⟩ := Lib.holds_of_ownsRow hown hv
    injection e1 with e1 _ e3
    injection e1 with e1
    injection e1 with e1
    subst e1 e3
    have hle := Lib.compact_length_le ss
    refine (Any.slices_Compact_string Tryz.laysCompact g 0 cap ss w hH (by omega) h1).mono ?_
    rintro e w' ⟨rfl, q, rfl⟩
    have hc := Lib.ownsRow_putRow (q := q) (k := (Lib.compact ss).length) (ys := Lib.compact ss ++ List.replicate (ss.length - (Lib.compact ss).length) []) hown (by simp; omega) hle
    rw [List.take_left] at hc
    exact ⟨_, rfl, hc, rfl, grownBy_putRow⟩
end Go.Proofs.YtogkchgjpflmjaaGreatDoor
/- unit's unknown: the first `global` whose name nobody gives. -/
namespace Go.Proofs.YtogkchgjpflmjaaGreatDoor
open Go.ChangeShapes Go.WideShapes Go.ChangeAt Go.RowKit
set_option linter.unusedVariables false
set_option maxRecDepth 100000
variable {lo b m N : Nat} {w : World} {A : Asm} {pt pd : List (Itm × Value)} {pe : List ((List UInt8 × Lin) × Value)} {tv dv ev av : Value}
theorem rowA_get (l : List (List UInt8 × Nat)) (i f : Nat) (q : List UInt8 × Nat) (hi : l[i]? = some q) (hf : f < 2) : (rowA l)[i * 2 + f]? = (askCells q)[f]? := flat_at (fun q => askCells q) 2 (fun _ => rfl) l i f q hi hf
theorem AsmAt.ask (h : AsmAt lo w b m N A pt pd pe tv dv ev av) {i : Nat} {q : List UInt8 × Nat} (hi : A.asked[i]? = some q) : ∃ G c, av = .slice (some ⟨G, 0, none⟩) A.asked.length c ∧ G < w.heap.size ∧ w.cell? ⟨G, i * 2, none⟩ = some (.string (str q.1)) ∧ w.cell? ⟨G, i * 2 + 1, none⟩ = some (.int .i64 (q.2 : Int)) := by
  have hlt := (List.getElem?_eq_some_iff.1 hi).1
  rcases h.asked.2 with ⟨_, h0⟩ | ⟨G, cap, cur, hv, _, hg, _⟩
  · omega
  · have hr := h.asked
    rw [hv] at hr
    have key : ∀ f, f < 2 → w.cell? ⟨G, i * 2 + f, none⟩ = (askCells q)[f]? := fun f hf => by
      rw [hr.cellAt _ (by omega)]
      exact rowA_get A.asked i f q hi hf
    exact ⟨G, cap, hv, (Array.getElem?_eq_some_iff.1 hg).1, key 0 (by omega), key 1 (by omega)⟩
theorem unknownF_at {A : Asm} {i : Nat} {q : List UInt8 × Nat} (hi : A.asked[i]? = some q) (ha : ∀ j, j < i → ∀ p, A.asked[j]? = some p → p.1 ∈ A.given) (hq : q.1 ∉ A.given) : unknownF A = some q.2 := by
  unfold unknownF
  have : A.asked.find? (fun g => decide (g.1 ∉ A.given)) = some q := by
    rw [List.find?_eq_some_iff_getElem]
    have hlt := (List.getElem?_eq_some_iff.1 hi).1
    refine ⟨by simpa using hq, i, hlt, (List.getElem?_eq_some_iff.1 hi).2, fun j hj => ?_⟩
    have := ha j hj A.asked[j] (List.getElem?_eq_getElem (by omega))
    simpa using this
  rw [this]
  rfl
theorem unknownF_all {A : Asm} (ha : ∀ j, j < A.asked.length → ∀ p, A.asked[j]? = some p → p.1 ∈ A.given) : unknownF A = none := by
  unfold unknownF
  have : A.asked.find? (fun g => decide (g.1 ∉ A.given)) = none := by
    rw [List.find?_eq_none]
    intro x hx
    obtain ⟨j, hj⟩ := List.mem_iff_getElem?.1 hx
    have := ha j (List.getElem?_eq_some_iff.1 hj).1 x hj
    simpa using this
  rw [this]
  rfl
def unkV (A : Asm) : Array Value := match unknownF A with | none => #[.int .i64 0, .bool false] | some n => #[.int .i64 (n : Int), .bool true]
set_option maxHeartbeats 4000000 in
theorem unknown_any (h : AsmAt lo w b m N A pt pd pe tv dv ev av) (hfa : A.asked.length ≤ 1100000) (hnm : ∀ q ∈ A.asked, q.1.length ≤ 1100000) :
    Calls Tryz.prog 36 #[.pointer (some ⟨b, 0, none⟩)] w fun e w' => Below w.heap.size w w' ∧ e = .returned (.tuple (unkV A)) := by
  obtain ⟨ta, tc, da, dc, ea, ec, aa, ac, rfl, rfl, rfl, rfl⟩ := h.vals
  have c6 := (h.cell 6).trans rfl
  have hH := Hid.intro h
  have hnH := Hid.intro hnm
  clear h hnm
  obtain ⟨n0, hn0⟩ : ∃ n0, n0 = A.asked.length := ⟨_, rfl⟩
  rw [← hn0] at hfa c6
  replace hn0 := Hid.intro hn0
  go_enter Tryz.func36, Tryz.ntmps36
  go_wp2
  all_goals first | omega | skip
  clear c6
  go_loopw [13] (fun v13 wr => ∃ i : Nat, i ≤ n0 ∧ v13 = .int .i64 (i : Int) ∧ Hid (∀ j, j < i → ∀ p, A.asked[j]? = some p → p.1 ∈ A.given) ∧ Hid (Below w.heap.size w wr)) (fun v13 wr => n0 - (intOf v13).toNat)
  case atStart => exact ⟨0, by omega, rfl, fun j hj => by omega, Below.refl _ _⟩
  case round =>
    obtain ⟨i, hi, rfl, hall, hB⟩ := hrel
    by_cases hlt : i < n0
    · obtain ⟨q, hq⟩ : ∃ q, A.asked[i]? = some q := ⟨A.asked[i]'(by rw [← hn0.out]; exact hlt), List.getElem?_eq_getElem _⟩
      have hA := hH.out.below hB.out
      obtain ⟨G, c, hv, hG, k0, k1⟩ := hA.ask hq
      injection hv with hv _ hv3
      subst hv hv3
      have hlt2 : (i : Int) < (n0 : Int) := by omega
      have hmem := List.mem_of_getElem? hq
      have hA1 := hA.below (below_alloc wr (.cells #[.string (str q.1), .int .i64 (q.2 : Int)] 144))
      have hB1 : Below w.heap.size w (wr.alloc (.cells #[.string (str q.1), .int .i64 (q.2 : Int)] 144)) := hB.out.alloc hB.out.size _
      have hbx := fun j => cell_blockT (heap_alloc_new wr (.cells #[.string (str q.1), .int .i64 (q.2 : Int)] 144)) j
      have x0 := (hbx 0).trans rfl
      have x1 := (hbx 1).trans rfl
      clear hbx
      have hs1 : (wr.alloc (.cells #[.string (str q.1), .int .i64 (q.2 : Int)] 144)).heap.size = wr.heap.size + 1 := by simp
      have hqH := Hid.intro hq
      go_wp2
      all_goals first | omega | skip
      generalize (wr.alloc (.cells #[.string (str q.1), .int .i64 (q.2 : Int)] 144)) = w1 at *
      have hl1 : (Instr.lookup 67 (.map (some m)) (.string (str q.1)) true).run Tryz.prog w1.drew = .ok (.tuple #[.agg #[], .bool (decide (q.1 ∈ A.given))]) w1.drew := setlook_run (hA1.set.below (Below.refl _ _).drew) q.1 (hnH.out q hmem)
      have hl2 : ∀ o, (Instr.lookup 67 (.map (some m)) (.string (str q.1)) true).run Tryz.prog (w1.alloc o).drew = .ok (.tuple #[.agg #[], .bool (decide (q.1 ∈ A.given))]) (w1.alloc o).drew := fun o => setlook_run (hA1.set.below (below_alloc w1 o).drew) q.1 (hnH.out q hmem)
      have b5 := (hA1.cell 5).trans rfl
      have b6 : ∀ o, (w1.alloc o).cell? ⟨b, 5, none⟩ = some (.map (some m)) := fun o => ((hA1.below (below_alloc w1 o)).cell 5).trans rfl
      have x0' : ∀ o, (w1.alloc o).cell? ⟨wr.heap.size, 0, none⟩ = some (.string (str q.1)) := fun o => by rw [World.cell?_alloc_lt _ _ ⟨wr.heap.size, 0, none⟩ (by show wr.heap.size < _; omega)]; exact x0
      have x1' : ∀ o, (w1.alloc o).drew.cell? ⟨wr.heap.size, 1, none⟩ = some (.int .i64 (q.2 : Int)) := fun o => by show (w1.alloc o).cell? _ = _; rw [World.cell?_alloc_lt _ _ ⟨wr.heap.size, 1, none⟩ (by show wr.heap.size < _; omega)]; exact x1
      replace hA := Hid.intro hA
      replace hA1 := Hid.intro hA1
      replace hB1 := Hid.intro hB1
      clear hq hmem
      by_cases hg : q.1 ∈ A.given
      · rw [show decide (q.1 ∈ A.given) = true by simp [hg]] at hl1 hl2
        have hgH := Hid.intro hg
        clear hg
        go_region
        all_goals go_wp2_with fail
        all_goals go_roundw
        all_goals first
          | exact ⟨i + 1, by omega, by go_num, fun j hj p hp => by
              rcases Nat.lt_or_ge j i with h1 | h1
              · exact hall.out j h1 p hp
              · obtain rfl : j = i := by omega
                rw [hqH.out] at hp
                cases hp
                exact hgH.out, (hB1.out.alloc hB1.out.size _).drew⟩
          | (simp [intOf]; omega)
      · rw [show decide (q.1 ∈ A.given) = false by simp [hg]] at hl1 hl2
        have hres : Hid (unkV A = #[.int .i64 (q.2 : Int), .bool true]) := by
          show _ = _
          unfold unkV
          rw [unknownF_at hqH.out hall.out hg]
        clear hg
        go_region
        all_goals go_wp2_with fail
        all_goals go_ret2
        all_goals (rw [hres.out]; exact ⟨(hB1.out.alloc hB1.out.size _).drew, rfl⟩)
    · have hin : i = n0 := by omega
      have hres : Hid (unkV A = #[.int .i64 0, .bool false]) := by
        show _ = _
        unfold unkV
        rw [unknownF_all (fun j hj p hp => hall.out j (by rw [hin, hn0.out]; exact hj) p hp)]
      subst hin
      have hlt3 : ¬ ((i : Int) < (i : Int)) := by omega
      go_wp2
      all_goals first | omega | skip
      go_ret2
      rw [hres.out]
      exact ⟨hB.out, rfl⟩
end Go.Proofs.YtogkchgjpflmjaaGreatDoor
namespace Go.Proofs.YtogkchgjpflmjaaGreatDoor
open Go.ChangeShapes Go.WideShapes Go.ChangeAt Go.RowKit Go.Sort
set_option linter.unusedVariables false
set_option maxRecDepth 100000
theorem info9 : (Tryz.prog.info? 9).map (fun i => (i.zero, i.size, i.bytes)) = some (some (.string ⟨#[]⟩), 1, 16) := by kernel_rfl
variable {lo b m N : Nat} {w : World} {A : Asm} {pt pd : List (Itm × Value)} {pe : List ((List UInt8 × Lin) × Value)} {tv dv ev av : Value}
def globF (A : Asm) : List (List UInt8) := Lib.compact (sortS (A.asked.map (·.1)))
abbrev unit4 (a b c d : Value) : Array Value := #[a, b, c, d]
structure WhS (w : World) (tv dv ev gv : Value) (ns : List (List UInt8)) (wr : World) : Prop where
  bel : Below w.heap.size w wr
  res : wr.heap[w.heap.size]? = some (.cells (unit4 (.slice none 0 0) (.slice none 0 0) (.slice none 0 0) (.slice none 0 0)) 26 (0, 0))
  var : wr.heap[w.heap.size + 1]? = some (.cells (unit4 tv dv ev gv) 26 (0, 0))
  own : wr.ownsRow (w.heap.size + 2) 9 1 gv ns.length (ns.map encStr)
theorem WhS.below {gv : Value} {ns : List (List UInt8)} {wr w' : World} (h : WhS w tv dv ev gv ns wr) (hb : Below wr.heap.size wr w') : WhS w tv dv ev gv ns w' := by
  have h1 := blk_lt h.res
  have h2 := blk_lt h.var
  exact ⟨h.bel.trans (hb.mono h.bel.size), by rw [hb.block _ h1]; exact h.res, by rw [hb.block _ h2]; exact h.var, own_keptB h.own hb⟩
theorem WhS.put {gv gv' : Value} {ns ns' : List (List UInt8)} {wr w1 : World} (h : WhS w tv dv ev gv ns wr) (hg : wr.grownBy w1 gv.ownBlock) (ho : w1.ownsRow (w.heap.size + 2) 9 1 gv' ns'.length (ns'.map encStr)) :
    w1.heap[w.heap.size + 1]? = some (.cells (unit4 tv dv ev gv) 26 (0, 0)) ∧ WhS w tv dv ev gv' ns' (w1.setCell ⟨w.heap.size + 1, 3, none⟩ gv') := by
  have h1 := blk_lt h.res
  have h2 := blk_lt h.var
  have e1 : w1.heap[w.heap.size]? = some (.cells (unit4 (.slice none 0 0) (.slice none 0 0) (.slice none 0 0) (.slice none 0 0)) 26 (0, 0)) := by
    rw [hg.block _ h1 (fun e => blk_other h.own h.res (by decide) e.symm)]; exact h.res
  have e2 : w1.heap[w.heap.size + 1]? = some (.cells (unit4 tv dv ev gv) 26 (0, 0)) := by
    rw [hg.block _ h2 (fun e => blk_other h.own h.var (by decide) e.symm)]; exact h.var
  obtain ⟨s1, s2⟩ := row_set e2 3 gv'
  have hsz := hg.size
  have hbs := h.bel.size
  refine ⟨e2, ⟨?_, ?_, s1, ho.kept s2 (.inr (blk_other ho e2 (by decide)))⟩⟩
  · have hB1 : Below w.heap.size w w1 := h.bel.grown hg (by omega) (fun j hj => by have := (h.own.lt _ hj).1; omega)
    exact hB1.grown s2 (by omega) (fun j hj => by cases hj; omega)
  · rw [s2.block _ (blk_lt e1) (by simp)]; exact e1
theorem WhS.turned {gv : Value} {ns ns' : List (List UInt8)} {wr w1 : World} (h : WhS w tv dv ev gv ns wr) (hg : wr.grownBy w1 gv.ownBlock) (ho : w1.ownsRow (w.heap.size + 2) 9 1 gv ns'.length (ns'.map encStr)) : WhS w tv dv ev gv ns' w1 := by
  have h1 := blk_lt h.res
  have h2 := blk_lt h.var
  have hbs := h.bel.size
  exact ⟨h.bel.grown hg (by omega) (fun j hj => by have := (h.own.lt _ hj).1; omega), by rw [hg.block _ h1 (fun e => blk_other h.own h.res (by decide) e.symm)]; exact h.res, by rw [hg.block _ h2 (fun e => blk_other h.own h.var (by decide) e.symm)]; exact h.var, ho⟩
theorem four_set {w : World} {g : Nat} {c0 c1 c2 c3 : Value} {T : TypeId} (h : w.heap[g]? = some (.cells #[c0, c1, c2, c3] T (0, 0))) (v0 v1 v2 v3 : Value) :
    ((((w.setCell ⟨g, 0, none⟩ v0).setCell ⟨g, 1, none⟩ v1).setCell ⟨g, 2, none⟩ v2).setCell ⟨g, 3, none⟩ v3).heap[g]? = some (.cells #[v0, v1, v2, v3] T (0, 0)) ∧ w.grownBy ((((w.setCell ⟨g, 0, none⟩ v0).setCell ⟨g, 1, none⟩ v1).setCell ⟨g, 2, none⟩ v2).setCell ⟨g, 3, none⟩ v3) (some g) := by
  obtain ⟨a0, b0⟩ := row_set h 0 v0
  obtain ⟨a1, b1⟩ := row_set a0 1 v1
  obtain ⟨a2, b2⟩ := row_set a1 2 v2
  obtain ⟨a3, b3⟩ := row_set a2 3 v3
  refine ⟨?_, grown_trans (grown_trans (grown_trans b0 b1) b2) b3⟩
  rw [a3]
  rfl
theorem four_read {T : TypeId} {w : World} {g : Nat} {v0 v1 v2 v3 : Value} (h : w.heap[g]? = some (.cells #[v0, v1, v2, v3] T (0, 0))) : w.cell? ⟨g, 0, none⟩ = some v0 ∧ w.cell? ⟨g, 1, none⟩ = some v1 ∧ w.cell? ⟨g, 2, none⟩ = some v2 ∧ w.cell? ⟨g, 3, none⟩ = some v3 :=
  ⟨(cell_blockT h 0).trans rfl, (cell_blockT h 1).trans rfl, (cell_blockT h 2).trans rfl, (cell_blockT h 3).trans rfl⟩
set_option maxHeartbeats 4000000 in
theorem whole_any (h : AsmAt lo w b m N A pt pd pe tv dv ev av) (hfa : A.asked.length ≤ 1100000) :
    Calls Tryz.prog 37 #[.pointer (some ⟨b, 0, none⟩)] w fun e w' => Below w.heap.size w w' ∧ ∃ gv, e = .returned (.agg (unit4 tv dv ev gv)) ∧ w'.ownsRow w.heap.size 9 1 gv (globF A).length ((globF A).map encStr) := by
  obtain ⟨ta, tc, da, dc, ea, ec, aa, ac, rfl, rfl, rfl, rfl⟩ := h.vals
  have hA := h.below (below_alloc w (.cells (unit4 (.slice none 0 0) (.slice none 0 0) (.slice none 0 0) (.slice none 0 0)) 26))
  have hc := hA.cell
  have c0 := (hc 0).trans rfl
  have c1 := (hc 1).trans rfl
  have c2 := (hc 2).trans rfl
  have c3 := (hc 3).trans rfl
  clear hc
  have hs1 : (w.alloc (.cells (unit4 (.slice none 0 0) (.slice none 0 0) (.slice none 0 0) (.slice none 0 0)) 26)).heap.size = w.heap.size + 1 := by simp
  generalize hW1 : w.alloc (.cells (unit4 (.slice none 0 0) (.slice none 0 0) (.slice none 0 0) (.slice none 0 0)) 26) = w1 at *
  have hA2 := hA.below (below_alloc w1 (.cells (unit4 (.slice ta pt.length tc) (.slice da pd.length dc) (.slice ea pe.length ec) (.slice none 0 0)) 26))
  have c6 := (hA2.cell 6).trans rfl
  have hS0 : Hid (WhS w (.slice ta pt.length tc) (.slice da pd.length dc) (.slice ea pe.length ec) (.slice none 0 0) [] (w1.alloc (.cells (unit4 (.slice ta pt.length tc) (.slice da pd.length dc) (.slice ea pe.length ec) (.slice none 0 0)) 26))) := by
    have hb1 : Below w.heap.size w w1 := by rw [← hW1]; exact below_alloc w _
    refine ⟨hb1.alloc (by omega) _, ?_, ?_, World.ownsRow_nil _ _ _ _⟩
    · rw [Below.heap_alloc _ _ _ (by omega), ← hW1]; exact heap_alloc_new w _
    · rw [← hs1]; exact heap_alloc_new w1 _
  have hH := Hid.intro h
  clear h hA hA2
  obtain ⟨n0, hn0⟩ : ∃ n0, n0 = A.asked.length := ⟨_, rfl⟩
  rw [← hn0] at hfa c6
  replace hn0 := Hid.intro hn0
  obtain ⟨i0, hi9, hz0, hz1, hz2⟩ := info_parts info9
  go_enter Tryz.func37, Tryz.ntmps37
  go_wp2
  all_goals first | omega | skip
  clear c0 c1 c2 c3 c6
  go_loopw [15] (fun v15 wr => ∃ (i : Nat) (ga : Option Addr) (gc : Nat), i ≤ n0 ∧ v15 = .int .i64 (i : Int) ∧ Hid (WhS w (.slice ta pt.length tc) (.slice da pd.length dc) (.slice ea pe.length ec) (.slice ga i gc) ((A.asked.take i).map (·.1)) wr)) (fun v15 wr => n0 - (intOf v15).toNat)
  case atStart => exact ⟨0, none, 0, by omega, rfl, hS0⟩
  case round =>
    clear hS0
    obtain ⟨i, ga, gc, hi, rfl, hS⟩ := hrel
    by_cases hlt : i < n0
    · obtain ⟨q, hq⟩ : ∃ q, A.asked[i]? = some q := ⟨A.asked[i]'(by rw [← hn0.out]; exact hlt), List.getElem?_eq_getElem _⟩
      have hA := hH.out.below hS.out.bel
      obtain ⟨G, c, hv, hG, k0, k1⟩ := hA.ask hq
      injection hv with hv _ hv3
      subst hv hv3
      have hlt2 : (i : Int) < (n0 : Int) := by omega
      have hlen : ((A.asked.take i).map (·.1)).length = i := by rw [List.length_map, List.length_take, ← hn0.out]; omega
      have hnext : (A.asked.take (i + 1)).map (·.1) = (A.asked.take i).map (·.1) ++ [q.1] := by rw [List.take_add_one, hq]; simp
      have hS1 := hS.out.below (below_alloc wr (.cells #[.string (str q.1), .int .i64 (q.2 : Int)] 144))
      have hbx := (cell_blockT (heap_alloc_new wr (.cells #[.string (str q.1), .int .i64 (q.2 : Int)] 144)) 0).trans rfl
      generalize hwa : wr.alloc (.cells #[.string (str q.1), .int .i64 (q.2 : Int)] 144) = wa at *
      have v3 := (cell_blockT hS1.var 3).trans rfl
      have hS2 := hS1.below (below_alloc wa (.cells #[.string (str q.1)] 9))
      have hown : Hid ((wa.alloc (.cells #[.string (str q.1)] 9)).ownsRow (w.heap.size + 2) 9 1 (.slice ga i gc) i (((A.asked.take i).map (·.1)).map encStr)) := by
        have := hS2.own
        rw [hlen] at this
        exact this
      have hws : wa.heap.size = wr.heap.size + 1 := by rw [← hwa]; simp
      have hsrc : Hid (Src (wa.alloc (.cells #[.string (str q.1)] 9)) (.slice (some ⟨wr.heap.size + 1, 0, none⟩) 1 1) 1 [encStr q.1]) := by
        rw [← hws]
        exact .inr ⟨_, _, rfl, cells_new wa #[.string (str q.1)] 9⟩
      have hfin : Hid (∀ v' w3, w3.ownsRow (w.heap.size + 2) 9 1 v' (i + 1) (((A.asked.take i).map (·.1)).map encStr ++ [encStr q.1]) → (wa.alloc (.cells #[.string (str q.1)] 9)).grownBy w3 (Value.slice ga i gc).ownBlock → w3.cell? ⟨w.heap.size + 1, 3, none⟩ = some (.slice ga i gc) ∧ w3.frozen? ⟨w.heap.size + 1, 3, none⟩ = false ∧ WhS w (.slice ta pt.length tc) (.slice da pd.length dc) (.slice ea pe.length ec) v' ((A.asked.take (i + 1)).map (·.1)) (w3.setCell ⟨w.heap.size + 1, 3, none⟩ v')) := fun v' w3 g1 g2 => by
        obtain ⟨e1, e2⟩ := hS2.put (ns' := (A.asked.take (i + 1)).map (·.1)) g2 (by rw [hnext, List.length_append, hlen, List.map_append]; exact g1)
        exact ⟨(cell_blockT e1 3).trans rfl, frozen_of_row w3 _ 3 _ 26 e1, e2⟩
      have hbase : w.heap.size + 2 ≤ (wa.alloc (.cells #[.string (str q.1)] 9)).heap.size := by
        have := blk_lt hS2.var
        have := (below_alloc wa (.cells #[.string (str q.1)] 9)).size
        have h3 : (wa.alloc (.cells #[.string (str q.1)] 9)).heap.size = wa.heap.size + 1 := by simp
        have := blk_lt hS1.var
        omega
      have hil : i ≤ 1100000 := by omega
      clear hS1 hS2 hnext hlen hws
      replace hA := Hid.intro hA
      subst hwa
      go_wp2_with (at_builtin; go_must (refine wpList_app rfl (.tmp 20) (.tmp 23) 24 rfl (w.heap.size + 2) 9 i0 _ 1 16 Tryz.underlying24 hi9 hz0 hz1 hz2 rfl (by decide) (.slice ga i gc) i _ rfl hown.out (.slice (some ⟨_, 0, none⟩) 1 1) 1 [encStr q.1] rfl hsrc.out rfl (by simp [Value.oneCell', encStr]) (by unfold maxLen; omega) (by omega) hbase ?_; intro v' w3 ho hg hw; obtain ⟨z0, z1, z2⟩ := hfin.out v' w3 ho hg; replace z2 := Hid.intro z2; obtain ⟨a', c', rfl⟩ := own_slice ho; clear ho hg hw))
      all_goals first | omega | skip
      go_roundw
      case rel => exact ⟨i + 1, a', c', by omega, by go_num, z2⟩
      case measure => simp [intOf]; omega
    · obtain rfl : i = n0 := by omega
      have hlt3 : ¬ ((i : Int) < (i : Int)) := by omega
      have hns : (A.asked.take i).map (·.1) = A.asked.map (·.1) := by rw [hn0.out, List.take_length]
      have hlen : (A.asked.map (·.1)).length = i := by rw [List.length_map, hn0.out]
      rw [hns] at hS
      obtain ⟨_, _, _, v3⟩ := four_read hS.out.var
      have hsort := Hid.intro (sortS_any (.slice ga i gc) (A.asked.map (·.1)) (w.heap.size + 2) wr (by omega) hS.out.own)
      have hsl := sortS_len (A.asked.map (·.1))
      have hcomp := Hid.intro (fun w3 ho => compactS_any (.slice ga i gc) (sortS (A.asked.map (·.1))) (w.heap.size + 2) w3 (by omega) ho)
      have hslH := Hid.intro hsl
      clear hns hlen hsl
      go_wp2_with (first
        | (go_at_call 74; (with_reducible refine (hsort.out).mono ?_); rintro e w3 ⟨rfl, ho3, hg3⟩; rw [← hslH.out] at ho3; have hS3 := Hid.intro (hS.out.turned hg3 ho3); obtain ⟨_, _, _, u3⟩ := four_read hS3.out.var; replace ho3 := Hid.intro ho3; clear hg3)
        | (go_at_call 75; (with_reducible refine (hcomp.out w3 ho3.out).mono ?_); rintro e w4 ⟨gv, rfl, ho4, hb4, hg4⟩; obtain ⟨e4, hS4⟩ := hS3.out.put (gv' := gv) (ns' := Lib.compact (sortS (A.asked.map (·.1)))) hg4 ho4; obtain ⟨_, _, _, t3⟩ := four_read e4; have tf := frozen_of_row w4 (w.heap.size + 1) 3 _ 26 e4; obtain ⟨ga4, gc4, rfl⟩ := own_slice ho4; obtain ⟨x0, x1, x2, x3⟩ := four_read hS4.var; obtain ⟨y0, y1, y2, y3⟩ := four_read hS4.res; have yf := fun j => frozen_of_row _ w.heap.size j _ 26 hS4.res; replace hS4 := Hid.intro hS4; clear ho4 hg4 e4 hb4))
      all_goals first | omega | skip
      obtain ⟨s1, s2⟩ := four_set hS4.out.res (.slice ta pt.length tc) (.slice da pd.length dc) (.slice ea pe.length ec) (.slice ga4 (Lib.compact (sortS (A.asked.map (·.1)))).length gc4)
      have hbs := hS4.out.bel.size
      have hB9 := hS4.out.bel.grown s2 (by omega) (fun j hj => by cases hj; exact Nat.le_refl _)
      have ho9 := own_weaken (own_low hS4.out.own s2 (by omega)) (B := w.heap.size) (by omega)
      generalize (((((w4.setCell ⟨w.heap.size + 1, 3, none⟩ (.slice ga4 (Lib.compact (sortS (A.asked.map (·.1)))).length gc4)).setCell ⟨w.heap.size, 0, none⟩ (.slice ta pt.length tc)).setCell ⟨w.heap.size, 1, none⟩ (.slice da pd.length dc)).setCell ⟨w.heap.size, 2, none⟩ (.slice ea pe.length ec)).setCell ⟨w.heap.size, 3, none⟩ (.slice ga4 (Lib.compact (sortS (A.asked.map (·.1)))).length gc4)) = w9 at s1 s2 hB9 ho9 ⊢
      obtain ⟨k0, k1, k2, k3⟩ := four_read s1
      refine bodyPost_ret (by simp [results, Tryz.results37, go_sem, k0, k1, k2, k3]; try rfl) rfl ?_
      exact ⟨hB9, _, rfl, ho9⟩
end Go.Proofs.YtogkchgjpflmjaaGreatDoor
