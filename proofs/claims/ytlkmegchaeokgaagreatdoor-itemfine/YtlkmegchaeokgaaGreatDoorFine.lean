/- PROVED: whatever a line says, its items are right in the section in which it stands: chapter 8's P8.1 and P8.2 (spandrellaw8.ItemFine returns true). No condition but the listed tables as the program's text lays them. -/
import Derived.Test.YtlkmegchaeokgaaGreatDoorSpec2
import Derived.Test.YtlkmegchaeokgaaGreatDoorDi6
import Derived.Test.YtlkmegchaeokgaaGreatDoorK5
import Derived.Test.YtlkmegchaeokgaaGreatDoorRefPL
import Derived.Test.YtlkmegchaeokgaaGreatDoorIFrame
import Derived.ShutString
import Derived.ChangeOld
import Derived.JoinedCond
/- A token's number is one of 32 bits. -/
namespace Go.Proofs.YtlkmegchaeokgaaGreatDoor
set_option linter.unusedVariables false
set_option maxRecDepth 100000

theorem val_hex (ds : List UInt8) : ∀ (n : Int) (i : Nat), (∀ b ∈ ds, isHex (b.toNat : Int) = true) → 0 ≤ n → n < 16 ^ i → 0 ≤ val 16 n ds ∧ val 16 n ds < 16 ^ (i + ds.length) := by
  induction ds with
  | nil => intro n i _ h0 h1; rw [val_nil]; simpa using ⟨h0, h1⟩
  | cons b ds ih =>
    intro n i h h0 h1
    have hd := digI_lo _ (h b (by simp))
    rw [val_cons]
    have hp : (16 : Int) ^ (i + 1) = 16 ^ i * 16 := Int.pow_succ 16 i
    have := ih (16 * n + digI (b.toNat : Int)) (i + 1) (fun x hx => h x (by simp [hx])) (by omega) (by rw [hp]; omega)
    rw [List.length_cons, show i + (ds.length + 1) = i + 1 + ds.length by omega]
    exact this

theorem hexLen_le8 (k : Nat) (r : List UInt8) : hexLen k r ≤ k := Nat.min_le_left _ _
theorem hex_take (k : Nat) (r : List UInt8) : ∀ b ∈ r.take (hexLen k r), isHex (b.toNat : Int) = true := fun b hb => by
  have hle : hexLen k r ≤ lenW isHex r := Nat.min_le_right _ _
  have : b ∈ r.take (lenW isHex r) := by
    rw [← Nat.min_eq_left hle, ← List.take_take] at hb
    exact List.mem_of_mem_take hb
  exact take_all isHex r b this

theorem numAt_range {r : List UInt8} {n : Int} {k : Nat} (h : numAt r = some (n, k)) : 0 ≤ n ∧ n < 4294967296 := by
  unfold numAt at h
  split at h
  · split at h
    · cases h
      have : ∀ (l : List UInt8) (j : Nat), 0 ≤ atI l j ∧ atI l j ≤ 255 := fun l j => by
        unfold atI
        have := (l.getD j 0).toNat_lt
        omega
      have := this r 1
      omega
    · cases h
  · split at h
    · split at h
      · cases h
      · cases h
        have := val_hex ((r.drop 2).take (hexLen 8 (r.drop 2))) 0 0 (hex_take 8 (r.drop 2)) (by omega) (by simp)
        have hl : ((r.drop 2).take (hexLen 8 (r.drop 2))).length ≤ 8 := by rw [List.length_take]; have := hexLen_le8 8 (r.drop 2); omega
        have := hex_small _ _ (by omega) this.2
        omega
    · split at h
      · split at h
        · cases h
        · cases h; omega
      · split at h
        · cases h
        · rename_i hh
          cases h
          have := val_ge 0 (r.take (lenW isDig r)) (by omega) (take_all isDig r)
          omega

theorem tokAt_num {r : List UInt8} {kind n : Int} {k : Nat} (h : tokAt r = some (kind, n, k)) : 0 ≤ n ∧ n < 4294967296 := by
  unfold tokAt at h
  split at h
  · split at h
    · cases h; omega
    · cases h
  · split at h
    · split at h
      · cases h
      · cases h
        unfold numN
        cases hn : numAt r with
        | none => simp
        | some p => obtain ⟨m, j⟩ := p; exact numAt_range hn
    · split at h
      · cases h; omega
      · cases h

theorem scan_nums (r : List UInt8) (a : Nat) (ts : List Tok) (h : scan r a = .ok ts) : ∀ t ∈ ts, 0 ≤ t.num ∧ t.num < 4294967296 := by
  induction hn : r.length using Nat.strongRecOn generalizing r a ts with
  | _ n ih =>
    subst hn
    cases r with
    | nil => unfold scan at h; cases h; simp
    | cons b r =>
      unfold scan at h
      split at h
      · cases h; simp
      · split at h
        · exact ih r.length (by simp) r (a + 1) ts h rfl
        · split at h
          · cases h
          · rename_i kind m k ht
            have hk := (tokAt_some _ _ _ _ ht).1
            have hm := tokAt_num ht
            split at h
            · rename_i ts' hts
              cases h
              intro t htm
              rcases List.mem_cons.1 htm with rfl | htm
              · exact hm
              · exact ih _ (by rw [List.length_drop]; simp; omega) _ _ ts' hts rfl t htm
            · cases h

end Go.Proofs.YtlkmegchaeokgaaGreatDoor
/- The law's walk: whatever a line says, its items are right. -/
namespace Go.Proofs.YtlkmegchaeokgaaGreatDoor
open Go.ChangeShapes Go.WideShapes Go.ChangeAt Go.RowKit
set_option linter.unusedVariables false
set_option maxRecDepth 100000

theorem few500 (s : ByteArray) (hs : s.size ≤ 9223372036854775807) (w : World) :
    Calls Tryz.prog 12 #[.string s, .int .i64 500] w fun e w' => e = .returned (.string (fewS s 500)) ∧ w' = w := by
  unfold fewS
  by_cases h : 500 < s.size
  · rw [if_pos h]
    go_enter Tryz.func12, Tryz.ntmps12
    go_wp2
    all_goals first
      | omega
      | (go_ret; exact ⟨rfl, rfl⟩)
  · rw [if_neg h]
    go_enter Tryz.func12, Tryz.ntmps12
    go_wp2
    all_goals first
      | omega
      | (go_ret; exact ⟨rfl, rfl⟩)

theorem standsT_err {t : Thg} {sec k : Int} (h : standsT t sec = .error k) : k ≠ 0 := by
  unfold standsT at h
  split at h
  · cases h
  · cases h; decide

theorem readF_err {s : List UInt8} {args : List (List Tok)} {sec : Int} : ∀ k, readF s args sec = .error k → k ≠ 0 := by
  intro k h
  have hsing : ∀ kind m, singThg kind m args sec = .error k → k ≠ 0 := fun kind m h => by
    unfold singThg at h
    split at h
    · cases h; decide
    · split at h
      · rename_i h1; cases h; rcases singF_err h1 with h | h <;> omega
      · exact standsT_err h
  have hsev : ∀ kind, sevThg kind args sec = .error k → k ≠ 0 := fun kind h => by
    unfold sevThg at h
    split at h
    · cases h; decide
    · split at h
      · rename_i h1; cases h; rcases itsF_err h1 with h | h <;> omega
      · exact standsT_err h
  unfold readF at h
  by_cases h0 : s = []
  · rw [if_pos h0] at h; cases h
  rw [if_neg h0] at h
  by_cases h1 : s = sAlign
  · rw [if_pos h1] at h; exact hsing _ _ h
  rw [if_neg h1] at h
  by_cases h2 : s = sPool
  · rw [if_pos h2] at h; exact hsing _ _ h
  rw [if_neg h2] at h
  by_cases h3 : s = sByte
  · rw [if_pos h3] at h; exact hsev _ h
  rw [if_neg h3] at h
  by_cases h4 : s = sWord
  · rw [if_pos h4] at h; exact hsev _ h
  rw [if_neg h4] at h
  by_cases h5 : s = sSpace
  · rw [if_pos h5] at h; exact hsing _ _ h
  rw [if_neg h5] at h
  by_cases h6 : s = sEqu
  · rw [if_pos h6] at h
    unfold equThg at h
    split at h
    · unfold equF at h
      split at h
      · rename_i hp; cases h; rw [nameF_err hp]; decide
      · split at h
        · rename_i hp; cases h; rcases parseF_err hp with h | h <;> omega
        · cases h
    · cases h; decide
  rw [if_neg h6] at h
  by_cases h7 : s = sGlobal
  · rw [if_pos h7] at h
    unfold gloThg at h
    split at h
    · unfold gloF at h
      split at h
      · rename_i hp; cases h; rw [nameF_err hp]; decide
      · cases h
    · cases h; decide
  rw [if_neg h7] at h
  by_cases h8 : s = sSection
  · rw [if_pos h8] at h
    unfold secThg at h
    split at h
    · unfold secF at h
      split at h
      · cases h
      · split at h
        · cases h
        · cases h; decide
    · cases h; decide
  rw [if_neg h8] at h
  by_cases h9 : findN s = 0
  · rw [if_pos h9] at h; cases h; decide
  rw [if_neg h9] at h
  unfold opThg at h
  split at h
  · cases h; decide
  · split at h
    · rename_i hp; cases h; rcases opF_err hp with h | h <;> omega
    · split at h
      · cases h
      · cases h; decide

theorem argsF_any (n : Nat) (ts arg : List Tok) (acc out : List (List Tok)) (h : argsF n ts arg acc = .ok out) (h3 : ∀ xs ∈ acc, xs ≠ []) : ∀ xs ∈ out, xs ≠ [] := by
  induction ts generalizing arg acc with
  | nil =>
    unfold argsF at h
    split at h
    · cases h
    · rename_i h0
      cases h
      intro xs hx
      rcases List.mem_append.1 hx with hx | hx
      · exact h3 xs hx
      · simp at hx; subst hx; intro e; subst e; exact h0 rfl
  | cons t ts ih =>
    unfold argsF at h
    split at h
    · cases h
    · split at h
      · split at h
        · cases h
        · rename_i h0
          refine ih _ _ h (fun xs hx => ?_)
          rcases List.mem_append.1 hx with hx | hx
          · exact h3 xs hx
          · simp at hx; subst hx; intro e; subst e; exact h0 rfl
      · exact ih _ _ h h3

theorem parseL_all (P : Tok → Prop) (s : List UInt8) (L : Ln) (h : parseL s = .ok L) (hP : ∀ ts, scan s 0 = .ok ts → ∀ t ∈ ts, P t) : ∀ xs ∈ L.args, xs ≠ [] ∧ ∀ t ∈ xs, P t := by
  unfold parseL at h
  cases hs : scan s 0 with
  | error q => rw [hs] at h; cases h
  | ok ts =>
    rw [hs] at h
    have hp := hP ts hs
    have hm := cutT_mem ts
    unfold parseT lineT at h
    simp only at h
    split at h
    · cases h
      intro xs hx
      cases hx
    · rename_i t r heq
      rw [heq] at hm
      split at h
      · split at h
        · rename_i out hq
          cases h
          unfold argsT at hq
          split at hq
          · cases hq
            intro xs hx
            cases hx
          · have h1 := argsF_mem _ P _ _ _ _ hq (fun x hx => hp x (hm x (by simp [hx]))) (fun x hx => by cases hx) (fun x hx => by cases hx)
            have h2 := argsF_any _ _ _ _ _ hq (fun x hx => by cases hx)
            exact fun xs hx => ⟨h2 xs hx, h1 xs hx⟩
        · cases h
      · cases h

/-- the arguments of a short line are few and short -/
theorem parseL_small {s : List UInt8} (hs : s.length ≤ 1000) {L : Ln} (h : parseL s = .ok L) : L.args.length ≤ 1001 ∧ ∀ xs ∈ L.args, Small xs := by
  obtain ⟨h1, h2⟩ := parseL_few s L h
  refine ⟨by omega, fun xs hx => ?_⟩
  obtain ⟨h3, h4⟩ := parseL_all (fun t => t.text.length ≤ s.length ∧ 0 ≤ t.num ∧ t.num < 4294967296) s L h (fun ts hts t ht => ⟨scan_text s 0 ts hts t ht, scan_nums s 0 ts hts t ht⟩) xs hx
  exact ⟨by have := h2 xs hx; omega, fun t ht => by have := (h4 t ht).1; omega, fun t ht => (h4 t ht).2, h3⟩

theorem within2_any (a : Int) (ha : -9223372036854775808 ≤ a) (hb : a ≤ 9223372036854775807) : ∃ q : Int, (q = 0 ∨ q = 1) ∧ ∀ w, Calls Tryz.prog 15 #[.int .i64 a, .int .i64 0, .int .i64 1] w fun e w' => e = .returned (.int .i64 q) ∧ w' = w := by
  have h1 : a.tmod 2 < 2 := Int.tmod_lt_of_pos a (by decide)
  have h2 : -2 < a.tmod 2 := Int.lt_tmod_of_pos a (by decide)
  by_cases h : a.tmod 2 < 0
  · refine ⟨a.tmod 2 + 2, by omega, fun w => ?_⟩
    go_enter Tryz.func15, Tryz.ntmps15
    go_wp2
    go_ret
    refine ⟨?_, rfl⟩
    show Ending.returned (Value.int .i64 (a.tmod 2 + 1 + 1)) = _
    rw [show a.tmod 2 + 1 + 1 = a.tmod 2 + 2 by omega]
  · refine ⟨a.tmod 2, by omega, fun w => ?_⟩
    go_enter Tryz.func15, Tryz.ntmps15
    go_wp2
    all_goals first | omega | skip
    go_ret
    exact ⟨rfl, rfl⟩

theorem lie_full {w : World} {ai : Option Addr} {ni ci : Nat} {l : List Itm} (h : ItemsLie w (.slice ai ni ci) l) {i : Nat} {x : Itm} (hi : l[i]? = some x) : ∃ q, ai = some ⟨q, 0, none⟩ ∧ q < w.heap.size ∧ ∃ va vc, ItAt w q (i * 10) x va x.e.terms.length vc ∧ TmLies w va x.e.terms := by
  rcases h with ⟨rfl, h⟩ | ⟨q, c, hv, hq, hl⟩
  · simp at hi
  · injection hv with hv
    obtain ⟨va, n, vc, h1, h2, h3⟩ := hl i x hi
    subst h2
    exact ⟨q, hv, hq, va, vc, h1, h3⟩

/-- while the items are looked at -/
structure FnSt (w : World) (t : Thg) (ai : Option Addr) (ni ci : Nat) (va : Option Addr) (n vc p : Nat) (wr : World) : Prop where
  bel : Below w.heap.size w wr
  tab : Tab wr
  thing : wr.heap[p]? = some (.cells #[.int .i64 t.kind, .slice ai ni ci, .string (str t.name), .slice va n vc, .int .u32 t.e.const, .int .i64 t.sec] 37 (0, 0))
  items : ItemsLie wr (.slice ai ni ci) t.items

theorem FnSt.below {w : World} {t : Thg} {ai : Option Addr} {ni ci : Nat} {va : Option Addr} {n vc p : Nat} {wr w' : World} (h : FnSt w t ai ni ci va n vc p wr) (hb : Below wr.heap.size wr w') : FnSt w t ai ni ci va n vc p w' :=
  ⟨h.bel.trans (hb.mono h.bel.size), h.tab.below hb h.tab.size, by rw [hb.block _ (blk_lt h.thing)]; exact h.thing, h.items.below hb⟩

theorem right_item {x : Itm} {sec : Int} (hs : sec = 0 ∨ sec = 1) (hok : okI x sec = true) (hf : FineI x) {va : Option Addr} {vc : Nat} {w : World} (hT : Tab w) (hL : TmLies w va x.e.terms) :
    Calls Tryz.prog 9 #[itV x.kind (str x.name) x.op x.a x.b x.m x.form va x.e.terms.length vc x.e.const x.n, .int .i64 sec] w fun e w' => e = .returned (.int .i64 0) ∧ Below w.heap.size w w' := by
  have h := itemRight_any x.kind (str x.name) (by rw [str_sizeI]; have := hf.name; omega) x.op x.a x.b x.m x.form hf.m va vc x.e.terms x.e.const x.n sec (by have := hf.n; omega) w hT hL (by have := hf.few; omega) (fun t ht => by have := hf.names t ht; omega)
  rw [show rightN sec (okB x.kind (str x.name) x.op x.a x.b x.m x.form x.e.terms x.e.const x.n sec) = 0 from by
    unfold rightN
    rw [if_neg (by omega), show okB x.kind (str x.name) x.op x.a x.b x.m x.form x.e.terms x.e.const x.n sec = true from hok]
    rfl] at h
  exact h

set_option maxHeartbeats 2000000 in
theorem fine_bad (s : ByteArray) (hs : s.size ≤ 9223372036854775807) (sec : Int) (hb : -9223372036854775808 ≤ sec) (hb2 : sec ≤ 9223372036854775807) (w : World) (hT : Tab w) (p : Nat) (hp : parseL (bs (fewS s 500)) = .error p) :
    Calls Tryz.prog 6 #[.string s, .int .i64 sec] w fun e w' => e = .returned (.bool true) ∧ Below w.heap.size w w' := by
  obtain ⟨q, hq, hW⟩ := within2_any sec hb hb2
  have hF : Hid (∀ w1 : World, Calls Tryz.prog 12 #[.string s, .int .i64 500] w1 fun e w' => e = .returned (.string (fewS s 500)) ∧ w' = w1) := fun w1 => few500 s hs w1
  have hsz := fewS_size s 500
  have hP := Hid.intro (fun w1 => parse_err (fewS s 500) (by omega) p hp w1)
  have hK := Hid.intro (fun w1 (h1 : Tab w1) => itemKnown_any w1 h1)
  replace hW := Hid.intro hW
  have hTH := Hid.intro hT
  clear hp hT hsz hq hs hb hb2
  generalize fewS s 500 = S at hF hP
  go_enter Tryz.func6, Tryz.ntmps6
  go_wp2_with (first | (go_at_call 15; (with_reducible refine (hW.out _).mono ?_); rintro e w1 ⟨rfl, hw1⟩; obtain rfl : w = w1 := hw1.symm) | (go_at_call 12; (with_reducible refine (hF.out _).mono ?_); rintro e w2 ⟨rfl, hw2⟩; obtain rfl : w = w2 := hw2.symm) | (go_at_call 16; (with_reducible refine (hP.out _).mono ?_); rintro e w3 ⟨hb3, rfl⟩; have hT3 := Hid.intro (fun o => (hTH.out.below hb3 hTH.out.size).alloc o)) | (go_at_call 10; (with_reducible refine (hK.out _ (hT3.out _)).mono ?_); rintro e w4 ⟨rfl, hb4⟩))
  all_goals first | omega | skip
  go_ret
  have h3 := hb3.size
  exact ⟨rfl, (hb3.alloc (by omega) _).trans (hb4.mono (by simp; omega))⟩

set_option maxHeartbeats 4000000 in
theorem fine_ok (s : ByteArray) (hs : s.size ≤ 9223372036854775807) (sec : Int) (hb : -9223372036854775808 ≤ sec) (hb2 : sec ≤ 9223372036854775807) (w : World) (hT : Tab w) (L : Ln) (hp : parseL (bs (fewS s 500)) = .ok L) :
    Calls Tryz.prog 6 #[.string s, .int .i64 sec] w fun e w' => e = .returned (.bool true) ∧ Below w.heap.size w w' := by
  obtain ⟨q, hq, hW⟩ := within2_any sec hb hb2
  have hF : Hid (∀ w1 : World, Calls Tryz.prog 12 #[.string s, .int .i64 500] w1 fun e w' => e = .returned (.string (fewS s 500)) ∧ w' = w1) := fun w1 => few500 s hs w1
  have hsz := fewS_size s 500
  obtain ⟨hmany, hsm⟩ := parseL_small (by rw [bs_length]; omega) hp
  have hfew : FewA L.args := fun xs hx => by have := (hsm xs hx).few; omega
  have hP : Hid (∀ w1 : World, Calls Tryz.prog 16 #[.string (fewS s 500)] w1 fun e w' => Below w1.heap.size w1 w' ∧ ∃ a c, e = .returned (.tuple #[.agg #[.string (str L.label), .string (str L.op), .slice a L.args.length c], .int .i64 0, .int .i64 0]) ∧ ArgsIn w'.heap.size w' a L.args) := fun w1 => (parse_line (fewS s 500) (by omega) L hp w1).mono fun e w' ⟨h1, a, c, vs, m, h2, h3⟩ => ⟨h1, a, c, h2, args_in h3 hsm⟩
  have hR : Hid (∀ (w1 : World) (a : Option Addr) (c : Nat), Tab w1 → ArgsIn w1.heap.size w1 a L.args → Calls Tryz.prog 17 #[.agg #[.string (str L.label), .string (str L.op), .slice a L.args.length c], .int .i64 q] w1 fun e w' => Below w1.heap.size w1 w' ∧ ThOut w' (readF L.op L.args q) e) := fun w1 a c h1 h2 => read_any L.label L.op a c L.args (by omega) hfew q w1 h2 h1
  have hK := Hid.intro (fun w1 (h1 : Tab w1) => itemKnown_any w1 h1)
  have hkk := @readF_err L.op L.args q
  have hfine := @readF_fine L.op L.args q hfew (by omega)
  replace hW := Hid.intro hW
  have hTH := Hid.intro hT
  clear hp hT hsz hs hb hb2 hsm hfew
  generalize fewS s 500 = S at hF hP
  generalize L.args.length = n0 at hP hR hmany
  generalize hRR : readF L.op L.args q = RR at hR hfine hkk
  clear hRR
  cases RR with
  | error k =>
    clear hfine
    have hk0 : k ≠ 0 := hkk k rfl
    have hk1 : (k == 0) = false := by simpa using hk0
    have hse : (str []).toList.isEmpty = true := by rw [str_toList]; rfl
    go_enter Tryz.func6, Tryz.ntmps6
    go_wp2_with (first | (go_at_call 15; (with_reducible refine (hW.out _).mono ?_); rintro e w1 ⟨rfl, hw1⟩; obtain rfl : w = w1 := hw1.symm) | (go_at_call 12; (with_reducible refine (hF.out _).mono ?_); rintro e w2 ⟨rfl, hw2⟩; obtain rfl : w = w2 := hw2.symm) | (go_at_call 16; (with_reducible refine (hP.out _).mono ?_); rintro e w3 ⟨hb3, a, c, rfl, hA⟩; have hA3 := Hid.intro (fun o => (hA.below (below_alloc w3 o)).mono (w := w3.alloc o) (by simp) (Nat.le_refl _)); have hT3 := Hid.intro (fun o => (hTH.out.below hb3 hTH.out.size).alloc o); replace hA := Hid.intro hA) | (go_at_call 17; (with_reducible refine (hR.out _ _ _ (hT3.out _) (hA3.out _)).mono ?_); rintro e w4 ⟨hb4, rfl⟩; have hT4 := Hid.intro (fun o => ((hT3.out _).below hb4 (hT3.out _).size).alloc o)) | (go_at_call 10; (with_reducible refine (hK.out _ (hT4.out _)).mono ?_); rintro e w5 ⟨rfl, hb5⟩))
    all_goals first | omega | skip
    go_ret
    have h3 := hb3.size
    have h4 := hb4.size
    have hs3 : (w3.alloc (.cells #[.string (str L.label), .string (str L.op), .slice a n0 c] 49)).heap.size = w3.heap.size + 1 := by simp
    exact ⟨rfl, (((hb3.alloc (by omega) _).trans (hb4.mono (by omega))).alloc (by omega) _).trans (hb5.mono (by simp; omega))⟩
  | ok t =>
    have hft := hfine rfl
    clear hfine hkk
    go_enter Tryz.func6, Tryz.ntmps6
    go_upto_region 8 with (first | (go_at_call 15; (with_reducible refine (hW.out _).mono ?_); rintro e w1 ⟨rfl, hw1⟩; obtain rfl : w = w1 := hw1.symm) | (go_at_call 12; (with_reducible refine (hF.out _).mono ?_); rintro e w2 ⟨rfl, hw2⟩; obtain rfl : w = w2 := hw2.symm) | (go_at_call 16; (with_reducible refine (hP.out _).mono ?_); rintro e w3 ⟨hb3, a, c, rfl, hA⟩; have hA3 := Hid.intro (fun o => (hA.below (below_alloc w3 o)).mono (w := w3.alloc o) (by simp) (Nat.le_refl _)); have hT3 := Hid.intro (fun o => (hTH.out.below hb3 hTH.out.size).alloc o); replace hA := Hid.intro hA) | (go_at_call 17; (with_reducible refine (hR.out _ _ _ (hT3.out _) (hA3.out _)).mono ?_); rintro e w4 ⟨hb4, vi, va, n, vc, rfl, hit, -, -⟩; obtain ⟨ai, ni, ci, rfl⟩ := lie_slice hit; replace hit := Hid.intro hit))
    all_goals first | omega | skip
    have h3 := hb3.size
    have h4 := hb4.size
    have hs3 : (w3.alloc (.cells #[.string (str L.label), .string (str L.op), .slice a n0 c] 49)).heap.size = w3.heap.size + 1 := by simp
    have hB4 : Below w.heap.size w w4 := (hb3.alloc (by omega) _).trans (hb4.mono (by omega))
    have hni := lie_len hit.out
    have hS : Hid (FnSt w t ai ni ci va n vc w4.heap.size (w4.alloc (.cells #[.int .i64 t.kind, .slice ai ni ci, .string (str t.name), .slice va n vc, .int .u32 t.e.const, .int .i64 t.sec] 37))) :=
      ⟨hB4.alloc (by omega) _, (hTH.out.below hB4 hTH.out.size).alloc _, heap_alloc_new w4 _, hit.out.below (below_alloc w4 _)⟩
    have hnim : ni ≤ 1100000 := by rw [hni]; exact hft.many
    generalize hp : w4.heap.size = p at hS ⊢
    generalize (w4.alloc (.cells #[.int .i64 t.kind, .slice ai ni ci, .string (str t.name), .slice va n vc, .int .u32 t.e.const, .int .i64 t.sec] 37)) = w5 at hS ⊢
    clear hp hit hb3 hb4 h3 h4 hs3 hB4 hA hA3 hT3 hR hP hF hW hTH
    replace hni := Hid.intro hni
    replace hft := Hid.intro hft
    go_wp2
    all_goals first | omega | skip
    go_loopw [10] (fun v10 wr => ∃ i : Nat, i ≤ ni ∧ v10 = .int .i64 (i : Int) ∧ Hid (FnSt w t ai ni ci va n vc p wr)) (fun v10 wr => ni - (intOf v10).toNat)
    case atStart => exact ⟨0, by omega, rfl, hS⟩
    case round =>
      clear hS
      obtain ⟨i, hi, rfl, hS⟩ := hrel
      have t1 := (cell_blockT hS.out.thing 1).trans rfl
      by_cases hlt : i < ni
      · obtain ⟨x, hx⟩ : ∃ x, t.items[i]? = some x := ⟨t.items[i]'(by rw [← hni.out]; exact hlt), List.getElem?_eq_getElem _⟩
        obtain ⟨g, rfl, hg, xa, xc, hI, hTm⟩ := lie_full hS.out.items hx
        obtain ⟨k1, k2⟩ := hft.out.items x (List.mem_of_getElem? hx)
        have h9 := right_item (vc := xc) hq k1 k2 hS.out.tab hTm
        obtain ⟨c0, c1, c2, c3, c4, c5, c6, c7, c8, c9⟩ := hI
        have hlt2 : (i : Int) < (ni : Int) := by omega
        clear hx hTm k1 k2
        generalize x.e.terms.length = xn at h9 c7
        replace h9 := Hid.intro h9
        go_wp2_with (go_at_call 9; (with_reducible refine (h9.out).mono ?_); rintro e w6 ⟨rfl, hb6⟩)
        all_goals first | omega | skip
        go_roundw
        case rel => exact ⟨i + 1, by omega, by go_num, Hid.intro (hS.out.below hb6)⟩
        case measure => simp [intOf]; omega
      · have hin : i = ni := by omega
        subst hin
        have hlt3 : ¬ ((i : Int) < (i : Int)) := by omega
        have t0 := (cell_blockT hS.out.thing 0).trans rfl
        have t2 := (cell_blockT hS.out.thing 2).trans rfl
        have hT5 := Hid.intro hS.out.tab
        have hend := Hid.intro hS.out.bel
        have hLeg := fun (w1 : World) => legal_any (str t.name) (by rw [str_sizeI]; have := hft.out.name; omega) w1
        have hkinds := hft.out.kinds
        rw [← hni.out] at hkinds
        have hnil : t.items = [] → i = 0 := fun e => by rw [hni.out, e]; rfl
        generalize str t.name = nmS at t2 hLeg hkinds
        generalize t.kind = kd at t0 hkinds
        clear hS
        rcases hkinds with ⟨rfl, rfl⟩ | rfl | ⟨rfl | rfl, he⟩ | ⟨rfl | rfl, he, hl⟩
        · clear hLeg hnil
          go_wp2_with (go_at_call 10; (with_reducible refine (hK.out _ hT5.out).mono ?_); rintro e w6 ⟨rfl, hb6⟩)
          all_goals first | omega | skip
          go_ret
          exact ⟨rfl, hend.out.trans (hb6.mono hend.out.size)⟩
        · clear hLeg hnil
          by_cases hi1 : i = 1
          · subst hi1
            go_wp2_with (go_at_call 10; (with_reducible refine (hK.out _ hT5.out).mono ?_); rintro e w6 ⟨rfl, hb6⟩)
            all_goals first | omega | skip
            go_ret
            exact ⟨rfl, hend.out.trans (hb6.mono hend.out.size)⟩
          · have hi1' : ((i : Int) == 1) = false := by simp; omega
            go_wp2_with (go_at_call 10; (with_reducible refine (hK.out _ hT5.out).mono ?_); rintro e w6 ⟨rfl, hb6⟩)
            all_goals first | omega | skip
            go_ret
            exact ⟨rfl, hend.out.trans (hb6.mono hend.out.size)⟩
        · obtain rfl := hnil he
          clear hLeg hnil he
          go_wp2_with (go_at_call 10; (with_reducible refine (hK.out _ hT5.out).mono ?_); rintro e w6 ⟨rfl, hb6⟩)
          all_goals first | omega | skip
          go_ret
          exact ⟨rfl, hend.out.trans (hb6.mono hend.out.size)⟩
        · obtain rfl := hnil he
          clear hLeg hnil he
          go_wp2_with (go_at_call 10; (with_reducible refine (hK.out _ hT5.out).mono ?_); rintro e w6 ⟨rfl, hb6⟩)
          all_goals first | omega | skip
          go_ret
          exact ⟨rfl, hend.out.trans (hb6.mono hend.out.size)⟩
        · obtain rfl := hnil he
          rw [hl] at hLeg
          replace hLeg := Hid.intro hLeg
          clear hnil he hl
          go_wp2_with (first | (go_at_call 18; (with_reducible refine (hLeg.out _).mono ?_); rintro e w7 ⟨rfl, hb7⟩; have hT7 := Hid.intro (hT5.out.below hb7 hT5.out.size)) | (go_at_call 10; (with_reducible refine (hK.out _ hT7.out).mono ?_); rintro e w6 ⟨rfl, hb6⟩))
          all_goals first | omega | skip
          go_ret
          have := hb7.size
          exact ⟨rfl, (hend.out.trans (hb7.mono hend.out.size)).trans (hb6.mono (by have := hend.out.size; omega))⟩
        · obtain rfl := hnil he
          rw [hl] at hLeg
          replace hLeg := Hid.intro hLeg
          clear hnil he hl
          go_wp2_with (first | (go_at_call 18; (with_reducible refine (hLeg.out _).mono ?_); rintro e w7 ⟨rfl, hb7⟩; have hT7 := Hid.intro (hT5.out.below hb7 hT5.out.size)) | (go_at_call 10; (with_reducible refine (hK.out _ hT7.out).mono ?_); rintro e w6 ⟨rfl, hb6⟩))
          all_goals first | omega | skip
          go_ret
          have := hb7.size
          exact ⟨rfl, (hend.out.trans (hb7.mono hend.out.size)).trans (hb6.mono (by have := hend.out.size; omega))⟩

end Go.Proofs.YtlkmegchaeokgaaGreatDoor
namespace Go.Proofs.YtlkmegchaeokgaaGreatDoor.itemFine
open Go.ChangeShapes Go.WideShapes Go.ChangeAt Go.RowKit
open Go.ChangeMaps (open_string shut_string)
set_option linter.unusedVariables false
set_option maxRecDepth 100000

theorem fineW (s : ByteArray) (sec : Int) (w : World) (hT : Tab w) (hs : s.size ≤ 9223372036854775807) (hb : -9223372036854775808 ≤ sec ∧ sec ≤ 9223372036854775807) :
    Calls Tryz.prog 6 #[.string s, .int .i64 sec] w fun e w' => e = .returned (.bool true) ∧ Below w.heap.size w w' := by
  cases hp : parseL (bs (fewS s 500)) with
  | error p => exact fine_bad s hs sec hb.1 hb.2 w hT p hp
  | ok L => exact fine_ok s hs sec hb.1 hb.2 w hT L hp

theorem contract (H : Type) (enc : TypeId × Value → H) (W : World) (base : Nat) (args : Array Value) (ds gs : List (DataW H)) (before : List MemPlace)
    (hval : ∀ (j : Nat) t v, Tryz.f6.params[j]? = some t → args[j]? = some v → Value.okWide Tryz.prog W .any base t v)
    (hW : DataW.Whole enc Tryz.prog Tryz.f6.params.toList Rows.itemFineSpec.vars false W args.toList ds gs before) (hsz : (DataW.weightsEach Tryz.prog (Tryz.f6.params.toList ++ Rows.itemFineSpec.plain.varTypes Tryz.prog) (ds ++ gs)).all (· ≤ reachBytes) = true) (hL : laidMetH Tryz.prog Rows.itemFineRow.laid W) :
    Calls Tryz.prog 6 args W fun e W' => ∃ v, e = .returned v ∧ Rows.itemFineSpec.post enc Tryz.prog Tryz.f6 false true false false W args v W' := by
  have hW' := hW
  obtain ⟨p, q, hA0, hV, rfl, hfz, hnd⟩ := hW
  have hA : DataW.TrodAll enc Tryz.prog W 0 (fun _ => true) true Tryz.f6.params.toList args.toList ds p := hA0
  rw [Tryz.params6] at hA hval hsz
  obtain ⟨v0, vs0, d0, ds0, p0, q0, hargs, rfl, rfl, h0, r0⟩ := trodAll_cons hA
  obtain ⟨v1, vs1, d1, ds1, p1, q1, rfl, rfl, rfl, h1, r1⟩ := trodAll_cons r0
  obtain ⟨rfl, rfl, rfl⟩ := trodAll_nil r1
  obtain rfl : args = #[v0, v1] := by cases args; simp_all
  obtain ⟨rfl, rfl⟩ := trodVars_none hV
  obtain ⟨x0, rfl, rfl, rfl, w0⟩ := open_string Tryz.underlying9 (hval 0 9 v0 rfl rfl) h0
  obtain ⟨x1, rfl, rfl, rfl, w1⟩ := open_int Tryz.underlying3 (hval 1 3 v1 rfl rfl) h1
  clear hA0
  simp only [List.append_nil] at hW'
  refine (fineW x0 x1 W (tab_of_laid hL) (Nat.le_trans w0 (by decide)) (bounds_i64 w1)).mono fun e W' ⟨he, bel⟩ => ?_
  subst he
  exact ⟨_, rfl, _, _, _, [], _, [], hW', trodAll_mk1 (shut_bool Tryz.underlying4 _), (trodAll_cons_mk (shut_string Tryz.underlying9 w0) (trodAll_cons_mk (shut_int Tryz.underlying3 w1) trodAll_mk0)), rfl, bel.frame _, fun h => by cases h⟩

theorem reads (os : Os) {H : Type} (enc : TypeId × Value → H) : ∃ places, DataW.whole enc Tryz.prog ((laidWorld os).forCall (fun _ _ => 0) ⟨#[], #[.string ⟨#[]⟩, .int .i64 0], []⟩).memory Tryz.f6.params.toList Rows.itemFineSpec.vars false #[.string ⟨#[]⟩, .int .i64 0].toList 8 = some ([.lit (.string []), .lit (.int .i64 0)], [], places) :=
  ⟨[], by kernel_rfl⟩

theorem lifted (os : Os) (started : os.Started) (H : Type) (enc : TypeId × Value → H) (F : Stop.Interp) :
    ReturnsInHanded {} Tryz.checked os 6 .any ((OpenSpec.ofChange Rows.itemFineSpec).preRow enc Tryz.prog Tryz.f6 Rows.itemFineRow.domain false Rows.itemFineRow.laid) (((OpenSpec.ofChange Rows.itemFineSpec).at F).post enc Tryz.prog Tryz.f6 false true false false) := by
  obtain ⟨places, hx⟩ := reads os enc
  refine returnsInHanded_of_row (C := Tryz.checked) (s := OpenSpec.ofChange Rows.itemFineSpec) ownKnob_none started (by kernel_rfl) Tryz.func6
    (witness_row_at (enc := enc) (C := Tryz.checked) false (laidWorld os) #[.string ⟨#[]⟩, .int .i64 0] rfl (by kernel_rfl) (by kernel_rfl) (by kernel_rfl)
      (OpenSpec.preRow_of_cond 8 hx (by kernel_rfl) (fun k hk => by cases hk) (by kernel_rfl) (laid_met os _))) ?_
  intro W base args ds gs before hval hW x1 x2 x3 hL _ _
  exact contract H enc W base args ds gs before hval hW x3 hL

theorem said : Rows.ItemFineSaid :=
  OpenClaim.holds_of_cond 6 Tryz.f6 rfl rfl rfl rfl rfl rfl rfl ⟨rfl, rfl, rfl, rfl, rfl⟩ rfl rfl rfl rfl rfl (by kernel_rfl) Tryz.func6 (by kernel_rfl)
    (of_decide_eq_true (by kernel_rfl)) (by unfold Func.isWrapper; first | (rw [if_pos (by decide +kernel)]; kernel_rfl) | (rw [if_neg (by decide +kernel)]; exact ⟨rfl, rfl⟩))
    (fun os started H enc _ F => by rw [OpenClaim.pre_eq_preRow]; exact lifted os started H enc F)

theorem plain (f : FuncId) (fn : Func) (hf : Tryz.pinned.checked.prog.funcNamed "spandrel/spandrellaw8.ItemFine" = some f) (hfn : Tryz.pinned.checked.prog.funcs[f]? = some fn) :
    true = Tryz.pinned.checked.prog.looks [] ∧ ∀ (j : Nat) t, fn.params[j]? = some t → Tryz.pinned.checked.prog.wantsStandIn t = false := by
  obtain rfl : f = 6 := Option.some.inj ((show Tryz.prog.funcNamed "spandrel/spandrellaw8.ItemFine" = some 6 by kernel_rfl).symm.trans hf) |>.symm
  obtain rfl : fn = Tryz.f6 := (Option.some.inj (Tryz.func6.symm.trans hfn)).symm
  refine ⟨by kernel_rfl, fun j t ht => ?_⟩
  rw [Tryz.params6] at ht
  have hm := Array.mem_of_getElem? ht
  have h9 : Tryz.prog.wantsStandIn 9 = false := by kernel_rfl
  have h3 : Tryz.prog.wantsStandIn 3 = false := by kernel_rfl
  simp at hm
  rcases hm with rfl | rfl
  all_goals first | exact h9 | exact h3

theorem card : Rows.ItemFineCardSaid :=
  Claim7.holds_tied_plain_at .later [] _ _ _ _ said (fun _ h => by cases h) (by kernel_rfl) (fun _ h => by cases h) itemFine_row_tie rfl ⟨rfl, rfl⟩ (by kernel_rfl) rfl plain (by kernel_rfl)
end Go.Proofs.YtlkmegchaeokgaaGreatDoor.itemFine
namespace Go.Proofs.YtlkmegchaeokgaaGreatDoor
theorem itemFine_holds : Rows.ItemFineCardSaid := itemFine.card
#print axioms itemFine_holds
end Go.Proofs.YtlkmegchaeokgaaGreatDoor
