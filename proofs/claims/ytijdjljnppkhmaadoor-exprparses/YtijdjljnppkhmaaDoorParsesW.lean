/- Tokens read by the program and by the document: the law's walk. -/
import Derived.Test.YtijdjljnppkhmaaDoorSpec2
import Derived.Test.YtijdjljnppkhmaaDoorRefParse
import Derived.Test.YtijdjljnppkhmaaDoorKnownE
import Derived.Test.YtijdjljnppkhmaaDoorSameT
/- A token's number is one of 32 bits. -/
namespace Go.Proofs.YtijdjljnppkhmaaDoor
set_option linter.unusedVariables false
set_option maxRecDepth 100000

theorem val_hex (ds : List UInt8) : ∀ (n : Int) (i : Nat), (∀ b ∈ ds, isHex (b.toNat : Int) = true) → 0 ≤ n → n < 16 ^ i → 0 ≤ val 16 n ds ∧ val 16 n ds < 16 ^ (i + ds.length) := by
  induction ds with
  | nil => intro n i _ h0 h1; rw [val_nil]; simpa using ⟨h0, h1⟩
  | cons b ds ih =>
    intro n i h h0 h1
    have hd := digI_lo _ (h b (by simp))
    rw [val_cons]
    have hp : (16 : Int) ^ (i + 1) = 16 ^ i * 16 := Int.pow_succ 16 i
    have := ih (16 * n + digI (b.toNat : Int)) (i + 1) (fun x hx => h x (by simp [hx])) (by omega) (by rw [hp]; omega)
    rw [List.length_cons, show i + (ds.length + 1) = i + 1 + ds.length by omega]
    exact this

theorem hexLen_le8 (k : Nat) (r : List UInt8) : hexLen k r ≤ k := Nat.min_le_left _ _
theorem hex_take (k : Nat) (r : List UInt8) : ∀ b ∈ r.take (hexLen k r), isHex (b.toNat : Int) = true := fun b hb => by
  have hle : hexLen k r ≤ lenW isHex r := Nat.min_le_right _ _
  have : b ∈ r.take (lenW isHex r) := by
    rw [← Nat.min_eq_left hle, ← List.take_take] at hb
    exact List.mem_of_mem_take hb
  exact take_all isHex r b this

theorem numAt_range {r : List UInt8} {n : Int} {k : Nat} (h : numAt r = some (n, k)) : 0 ≤ n ∧ n < 4294967296 := by
  unfold numAt at h
  split at h
  · split at h
    · cases h
      have : ∀ (l : List UInt8) (j : Nat), 0 ≤ atI l j ∧ atI l j ≤ 255 := fun l j => by
        unfold atI
        have := (l.getD j 0).toNat_lt
        omega
      have := this r 1
      omega
    · cases h
  · split at h
    · split at h
      · cases h
      · cases h
        have := val_hex ((r.drop 2).take (hexLen 8 (r.drop 2))) 0 0 (hex_take 8 (r.drop 2)) (by omega) (by simp)
        have hl : ((r.drop 2).take (hexLen 8 (r.drop 2))).length ≤ 8 := by rw [List.length_take]; have := hexLen_le8 8 (r.drop 2); omega
        have := hex_small _ _ (by omega) this.2
        omega
    · split at h
      · split at h
        · cases h
        · cases h; omega
      · split at h
        · cases h
        · rename_i hh
          cases h
          have := val_ge 0 (r.take (lenW isDig r)) (by omega) (take_all isDig r)
          omega

theorem tokAt_num {r : List UInt8} {kind n : Int} {k : Nat} (h : tokAt r = some (kind, n, k)) : 0 ≤ n ∧ n < 4294967296 := by
  unfold tokAt at h
  split at h
  · split at h
    · cases h; omega
    · cases h
  · split at h
    · split at h
      · cases h
      · cases h
        unfold numN
        cases hn : numAt r with
        | none => simp
        | some p => obtain ⟨m, j⟩ := p; exact numAt_range hn
    · split at h
      · cases h; omega
      · cases h

theorem scan_nums (r : List UInt8) (a : Nat) (ts : List Tok) (h : scan r a = .ok ts) : ∀ t ∈ ts, 0 ≤ t.num ∧ t.num < 4294967296 := by
  induction hn : r.length using Nat.strongRecOn generalizing r a ts with
  | _ n ih =>
    subst hn
    cases r with
    | nil => unfold scan at h; cases h; simp
    | cons b r =>
      unfold scan at h
      split at h
      · cases h; simp
      · split at h
        · exact ih r.length (by simp) r (a + 1) ts h rfl
        · split at h
          · cases h
          · rename_i kind m k ht
            have hk := (tokAt_some _ _ _ _ ht).1
            have hm := tokAt_num ht
            split at h
            · rename_i ts' hts
              cases h
              intro t htm
              rcases List.mem_cons.1 htm with rfl | htm
              · exact hm
              · exact ih _ (by rw [List.length_drop]; simp; omega) _ _ ts' hts rfl t htm
            · cases h

end Go.Proofs.YtijdjljnppkhmaaDoor
namespace Go.Proofs.YtijdjljnppkhmaaDoor
open Go.ChangeShapes Go.WideShapes Go.ChangeAt Go.RowKit
set_option linter.unusedVariables false
set_option maxRecDepth 100000

theorem own_tlies {w : World} {B : Nat} {T : TypeId} {a : Option Addr} {c : Nat} {ts : List Tok} (h : w.ownsRow B T 4 (.slice a ts.length c) ts.length (rowOf ts)) : TLies w a ts ∧ ∀ x, a = some x → x.block < w.heap.size := by
  have h' := h
  obtain ⟨hl, ⟨hv, h0⟩ | ⟨g, cap, cur, hv, hbg, hg, r⟩⟩ := h
  · injection hv with hv1
    exact ⟨.inl (List.eq_nil_of_length_eq_zero h0), fun x hx => by rw [hv1] at hx; cases hx⟩
  · injection hv with hv1 hv2 hv3
    subst hv1 hv3
    have hgl := (Array.getElem?_eq_some_iff.1 hg).1
    refine ⟨.inr ⟨g, 0, rfl, fun i t hi => ?_⟩, fun x hx => by cases hx; exact hgl⟩
    rw [Nat.zero_add]
    obtain ⟨h0, h1, h2, h3⟩ := tok_own h' i t hi
    exact ⟨h0, h1, h2, h3⟩

theorem tlies_from {w : World} {g : Nat} {ts : List Tok} (h : TLies w (some ⟨g, 0, none⟩) ts) (hg : g < w.heap.size) : TokFrom w (some ⟨g, 0, none⟩) ts := by
  rcases h with h | ⟨g', o, ha, hl⟩
  · exact .inl h
  · cases ha
    refine .inr ⟨g, 0, rfl, hg, fun i t hi => ?_⟩
    obtain ⟨h0, h1, h2, h3⟩ := hl i t hi
    exact ⟨h0, h1, h2, h3⟩

theorem refParse_all (a : Option Addr) (c : Nat) (ts : List Tok) (w : World) (hT : RToks w a ts) :
    Calls Tryd.prog 19 #[.slice a ts.length c] w fun e w' => Below w.heap.size w w' ∧ ROutL w.heap.size w' (parseF ts) e :=
  (refParse_any a c ts w hT).mono fun e w' h => by
    obtain ⟨h1, h2⟩ := h
    refine ⟨h1, ?_⟩
    cases hp : parseF ts with
    | error k =>
      rw [hp] at h2
      exact ⟨none, 0, 0, h2, World.ownsRow_nil _ _ _ _⟩
    | ok x =>
      rw [hp] at h2
      exact h2

theorem sameL_refl (x : List Tm) (k : Int) : sameL x x k k = true := by simp [sameL]

theorem same_own {w : World} {B1 B2 : Nat} {a1 a2 : Option Addr} {n1 c1 n2 c2 : Nat} (x : Lin) (h1 : w.ownsRow B1 56 2 (.slice a1 n1 c1) x.terms.length (rowT x.terms)) (h2 : w.ownsRow B2 56 2 (.slice a2 n2 c2) x.terms.length (rowT x.terms)) (hl : x.terms.length ≤ 9000000) :
    Calls Tryd.prog 20 #[linV (.slice a1 n1 c1) x.const, linV (.slice a2 n2 c2) x.const] w fun e w' => e = .returned (.bool true) ∧ Below w.heap.size w w' := by
  have e1 := own_len h1
  have e2 := own_len h2
  subst e1 e2
  have := refSame_any a1 a2 c1 c2 x.terms x.terms x.const x.const w (own_tmLies h1) (own_tmLies h2) hl hl
  rwa [sameL_refl] at this

theorem outLin_len {ts : List Tok} (h : ts.length ≤ 1000) : (outLin (parseF ts)).terms.length ≤ 1000 := by
  cases hp : parseF ts with
  | error k => simp [outLin]
  | ok x =>
    unfold parseF at hp
    cases hS : sumD 33 ts with
    | error e => rw [hS] at hp; cases hp
    | ok p =>
      obtain ⟨y, r⟩ := p
      rw [hS] at hp
      cases r with
      | nil => cases hp; have := (sumD_fine 33).len _ _ _ hS; simp [outLin]; omega
      | cons t r => cases hp

theorem own_bel {w w' : World} {lo : Nat} {T : TypeId} {sz : Nat} {v : Value} {n : Nat} {xs : List Value} (h : w.ownsRow lo T sz v n xs) (hb : Below w.heap.size w w') : w'.ownsRow lo T sz v n xs :=
  h.kept (grown_of_below hb) (by
    cases hv : v.ownBlock with
    | none => exact .inl rfl
    | some g => exact .inr (by simp))

theorem rowk_bel {w w' : World} {g : Nat} {xs : List Tok} (h : RowK2 w g xs) (hb : Below w.heap.size w w') : RowK2 w' g xs := h.below hb h.lt

theorem few_big (s : ByteArray) (n : Nat) (hs : s.size ≤ 9223372036854775807) (hn : n ≤ 1000000) (w : World) :
    Calls Tryd.prog 16 #[.string s, .int .i64 (n : Int)] w fun e w' => e = .returned (.string (fewS s n)) ∧ w' = w := by
  unfold fewS
  by_cases h : n < s.size
  · rw [if_pos h]
    go_enter Tryd.func16, Tryd.ntmps16
    go_wp2
    all_goals first
      | omega
      | (go_ret; exact ⟨rfl, rfl⟩)
  · rw [if_neg h]
    go_enter Tryd.func16, Tryd.ntmps16
    go_wp2
    all_goals first
      | omega
      | (go_ret; exact ⟨rfl, rfl⟩)

set_option maxHeartbeats 4000000 in
theorem parses_law (s : ByteArray) (hs : s.size ≤ 9223372036854775807) (w : World) (hP : Pow w) :
    Calls Tryd.prog 4 #[.string s] w fun e w' => e = .returned (.bool true) ∧ Below w.heap.size w w' := by
  have hfew : Hid (Calls Tryd.prog 16 #[.string s, .int .i64 500] w fun e w' => e = .returned (.string (fewS s 500)) ∧ w' = w) := few_big s 500 hs (by omega) w
  have hsz := fewS_size s 500
  have htok := tokens_all (fewS s 500) (by omega) w
  generalize fewS s 500 = s5 at hfew hsz htok
  have hkn : Hid (∀ w1, Below w.heap.size w w1 → Calls Tryd.prog 14 #[] w1 fun e w' => Below w1.heap.size w1 w' ∧ e = .returned (.bool true)) := fun w1 h1 => known_any w1 (hP.below h1)
  cases hS : scan (bs s5) 0 with
  | error p =>
    rw [hS] at htok
    simp only [scanL, scanB, List.length_nil] at htok
    replace htok := Hid.intro htok
    clear hS hsz
    go_enter Tryd.func4, Tryd.ntmps4
    go_wp2_with (first | (go_at_call 16; (with_reducible refine (hfew.out).mono ?_); rintro e w0 ⟨rfl, hw0⟩; obtain rfl : w = w0 := hw0.symm) | (go_at_call 15; (with_reducible refine (htok.out).mono ?_); rintro e w1 ⟨hb1, a, c, a2, c2, rfl, _⟩) | (go_at_call 14; (with_reducible refine (hkn.out _ hb1).mono ?_); rintro e w2 ⟨hb2, rfl⟩))
    all_goals first | omega | skip
    go_ret
    exact ⟨rfl, hb1.trans (hb2.mono hb1.size)⟩
  | ok ts =>
    rw [hS] at htok
    simp only [scanL, scanB] at htok
    have hlen := scan_len _ _ _ hS
    rw [bs_length] at hlen
    have hnum := Hid.intro (scan_nums _ _ _ hS)
    have htx := scan_text _ _ _ hS
    rw [bs_length] at htx
    replace htx := Hid.intro htx
    replace htok := Hid.intro htok
    obtain ⟨n0, hn0⟩ : ∃ n0, n0 = ts.length := ⟨_, rfl⟩
    have hn5 : n0 ≤ 500 := by omega
    clear hS hlen
    have hll := outLin_len (ts := ts) (by omega)
    have hroom : Hid (∀ (a : Option Addr) (c : Nat) (w1 : World), TLies w1 a ts → Calls Tryd.prog 17 #[.slice a n0 c, .agg #[.int .i64 (-7), .string ⟨#[]⟩, .int .u32 0, .int .i64 0]] w1 fun e w' => ∃ g, e = .returned (.slice (some ⟨g, 0, none⟩) (n0 + 80) (n0 + 80)) ∧ Hid (w1.heap.size < g) ∧ RowK2 w' g (ts ++ List.replicate 80 ⟨-7, [], 0, 0⟩) ∧ Below w1.heap.size w1 w') := fun a c w1 h1 => roomyT a c ts n0 hn0 ⟨-7, [], 0, 0⟩ w1 h1 (by omega)
    have hint : Hid (∀ (a : Option Addr) (c g : Nat) (w1 : World), TLies w1 a ts → RowK2 w1 g (ts ++ List.replicate 80 ⟨-7, [], 0, 0⟩) → Calls Tryd.prog 21 #[.slice (some ⟨g, 0, none⟩) (n0 + 80) (n0 + 80), .slice a n0 c, .agg #[.int .i64 (-7), .string ⟨#[]⟩, .int .u32 0, .int .i64 0]] w1 fun e w' => e = .returned (.bool true) ∧ Below w1.heap.size w1 w') := fun a c g w1 h1 h2 => intactT a g c ts n0 hn0 ⟨-7, [], 0, 0⟩ w1 h1 h2 (by omega)
    have hpar : Hid (∀ (g : Nat) (w1 : World), RowK2 w1 g (ts ++ List.replicate 80 ⟨-7, [], 0, 0⟩) → Calls Tryd.prog 18 #[.slice (some ⟨g, 0, none⟩) n0 (n0 + 80)] w1 fun e w' => Below w1.heap.size w1 w' ∧ ROutL w1.heap.size w' (parseF ts) e) := fun g w1 h1 => by
      have := parse_all (some ⟨g, 0, none⟩) (n0 + 80) ts w1 ⟨tlies_from h1.lies h1.lt, fun x hx => by cases hx; exact h1.lt, by omega, by omega, by omega, fun t ht => by have := htx.out t ht; omega⟩
      rwa [← hn0] at this
    have href : Hid (∀ (a : Option Addr) (c : Nat) (w1 : World), TLies w1 a ts → (∀ x, a = some x → x.block < w1.heap.size) → Calls Tryd.prog 19 #[.slice a n0 c] w1 fun e w' => Below w1.heap.size w1 w' ∧ ROutL w1.heap.size w' (parseF ts) e) := fun a c w1 h1 h2 => by
      have := refParse_all a c ts w1 ⟨h1, h2, by omega, fun t ht => by have := htx.out t ht; omega, hnum.out⟩
      rwa [← hn0] at this
    rw [← hn0] at htok
    replace hn0 := Hid.intro hn0
    generalize parseF ts = R at hpar href hll
    go_enter Tryd.func4, Tryd.ntmps4
    go_wp2_with (first
      | (go_at_call 16; (with_reducible refine (hfew.out).mono ?_); rintro e w0 ⟨rfl, hw0⟩; obtain rfl : w = w0 := hw0.symm)
      | (go_at_call 15; (with_reducible refine (htok.out).mono ?_); rintro e w1 ⟨hb1, a, c, a2, c2, rfl, _, hO, hO2⟩; have hL1 := Hid.intro (own_tlies (hn0.out ▸ hO)); have hL2 := Hid.intro (own_tlies (hn0.out ▸ hO2)); clear hO hO2)
      | (go_at_call 17; (with_reducible refine (hroom.out _ _ _ hL1.out.1).mono ?_); rintro e w2 ⟨g, rfl, hg, hrow, hb2⟩; replace hrow := Hid.intro hrow)
      | (go_at_call 18; (with_reducible refine (hpar.out _ _ hrow.out).mono ?_); rintro e w3 ⟨hb3, a3, n3, c3, rfl, hown3⟩; have hO3 := Hid.intro (hown3.alloc (.cells #[.slice a3 n3 c3, .int .u32 (outLin R).const] 25)); have hb4 := Hid.intro (below_alloc w3 (.cells #[.slice a3 n3 c3, .int .u32 (outLin R).const] 25)); have hT3 := Hid.intro (two_new w3 25 (.slice a3 n3 c3) (.int .u32 (outLin R).const)); clear hown3)
      | (go_at_call 19; (with_reducible refine (href.out _ _ _ (((hL2.out.1.below hb2).below hb3).below hb4.out) (fun x hx => by have := hL2.out.2 x hx; have := hb2.size; have := hb3.size; have := hb4.out.size; omega)).mono ?_); rintro e w5 ⟨hb5, a5, n5, c5, rfl, hown5⟩; have hb6 := Hid.intro (below_alloc w5 (.cells #[.slice a5 n5 c5, .int .u32 (outLin R).const] 25)); have hO5 := Hid.intro (hown5.alloc (.cells #[.slice a5 n5 c5, .int .u32 (outLin R).const] 25)); have hO6 := Hid.intro ((own_bel hO3.out hb5).alloc (.cells #[.slice a5 n5 c5, .int .u32 (outLin R).const] 25)); have h34 : w3.heap.size < w5.heap.size := (by have := hb5.size; simp at this; omega); obtain ⟨_, x0, x1, _, _⟩ := (hT3.out.below hb5 (by simp)).alloc (.cells #[.slice a5 n5 c5, .int .u32 (outLin R).const] 25); obtain ⟨_, y0, y1, _, _⟩ := two_new w5 25 (.slice a5 n5 c5) (.int .u32 (outLin R).const); have hbw : Hid (Below w.heap.size w (w5.alloc (.cells #[.slice a5 n5 c5, .int .u32 (outLin R).const] 25))) := (show Below _ _ _ from ((((hb1.trans (hb2.mono hb1.size)).trans (hb3.mono (by have := hb1.size; have := hb2.size; omega))).trans (hb4.out.mono (by have := hb1.size; have := hb2.size; have := hb3.size; omega))).trans (hb5.mono (by have := hb1.size; have := hb2.size; have := hb3.size; have := hb4.out.size; omega))).trans (hb6.out.mono (by have := hb1.size; have := hb2.size; have := hb3.size; have := hb4.out.size; have := hb5.size; omega))); clear hown5 h34)
      | (go_at_call 20; (with_reducible refine (same_own (outLin R) hO6.out hO5.out (by omega)).mono ?_); rintro e w7 ⟨rfl, hb7⟩; have hbw7 := Hid.intro (hbw.out.trans (hb7.mono hbw.out.size)))
      | (go_at_call 21; (with_reducible refine (hint.out _ _ _ _ ((((((hL1.out.1.below hb2).below hb3).below hb4.out).below hb5).below hb6.out).below hb7) (rowk_bel (rowk_bel (rowk_bel (rowk_bel (rowk_bel hrow.out hb3) hb4.out) hb5) hb6.out) hb7)).mono ?_); rintro e w8 ⟨rfl, hb8⟩; have hbw8 := Hid.intro (hbw7.out.trans (hb8.mono hbw7.out.size)))
      | (go_at_call 14; (with_reducible refine (hkn.out _ hbw8.out).mono ?_); rintro e w9 ⟨hb9, rfl⟩))
    all_goals first | omega | skip
    go_ret
    exact ⟨rfl, hbw8.out.trans (hb9.mono hbw8.out.size)⟩

end Go.Proofs.YtijdjljnppkhmaaDoor
