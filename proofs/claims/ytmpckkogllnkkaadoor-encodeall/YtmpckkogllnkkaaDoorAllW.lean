/- The law EncodeAll, walked. -/
import Derived.Test.YtmpckkogllnkkaaDoorIRoom
import Derived.Test.YtmpckkogllnkkaaDoorApartM
import Derived.Deep.DeepMust
namespace Go.Proofs.YtmpckkogllnkkaaDoor
open Go.ChangeShapes Go.WideShapes Go.ChangeAt Go.RowKit
set_option linter.unusedVariables false
set_option maxRecDepth 100000

theorem same_heldB (a1 a2 : Option Addr) (m1 m2 c1 c2 lo1 lo2 : Nat) (xs : List Int) (w : World) (h1 : SlB w lo1 a1 m1 c1 xs) (h2 : SlB w lo2 a2 m2 c2 xs) (hm : xs.length ≤ 100000) :
    Calls Tryd.prog 12 #[.slice a1 m1 c1, .slice a2 m2 c2] w fun e w' => e = .returned (.bool true) ∧ Below w.heap.size w w' := by
  have e1 := h1.len
  have e2 := h2.len
  subst e1 e2
  exact same_bel a1 a2 c1 c2 xs w h1.lies h2.lies (by unfold maxLen; omega)

theorem ILies.take {w : World} {a : Option Addr} {xs : List Ins} (h : ILies w a xs) (k : Nat) : ILies w a (xs.take k) := by
  refine ⟨fun x hx => h.1 x (List.mem_of_mem_take hx), ?_⟩
  rcases h.2 with rfl | ⟨g, off, ha, hc⟩
  · exact .inl (by simp)
  · refine .inr ⟨g, off, ha, fun i x hx => hc i x ?_⟩
    have hl := (List.getElem?_eq_some_iff.1 hx).1
    rw [List.length_take] at hl
    rwa [List.getElem?_take_of_lt (by omega)] at hx

def markI : Ins := ⟨-7, 0, 0, 0, 0⟩

set_option maxHeartbeats 4000000 in
theorem all_short (a : Option Addr) (n c : Nat) (xs : List Ins) (hKn : n = xs.length) (w : World) (hT : Tab w) (hl : ILies w a xs) (hc : n ≤ c) (hcm : c ≤ 9223372036854775807) (hs : n ≤ 200) :
    Calls Tryd.prog 5 #[.slice a n c] w fun e w' => e = .returned (.bool true) ∧ Below w.heap.size w w' := by
  have hTH := Hid.intro hT
  have hlH := Hid.intro hl
  have hKH := Hid.intro hKn
  have hRo := Hid.intro (fun W hW => roomyI a c xs n hKn markI W hW (by omega))
  have hIn := Hid.intro (fun g W (h1 : ILies W a xs) h2 => intactI a g c xs n hKn markI W h1 h2 (by omega))
  have hAl := Hid.intro (fun g cc W hW h1 => all_any (some ⟨g, 0, none⟩) cc xs n hKn W hW h1 (by omega))
  have hSm := Hid.intro (fun a1 a2 m1 m2 c1 c2 lo1 lo2 W (h1 : SlB W lo1 a1 m1 c1 (encAll xs)) h2 => same_heldB a1 a2 m1 m2 c1 c2 lo1 lo2 (encAll xs) W h1 h2 (by have := encAll_len xs; omega))
  obtain ⟨N0, hN0⟩ : ∃ N0, N0 = allN xs := ⟨_, rfl⟩
  obtain ⟨E0, hE0⟩ : ∃ E0, E0 = allE xs := ⟨_, rfl⟩
  rw [← hN0, ← hE0] at hAl
  have hNH := Hid.intro hN0
  have hEH := Hid.intro hE0
  have hmk : ∀ (v : Value) (W : World) (Q : Ending → World → Prop), True := fun _ _ _ => trivial
  clear hT hl hKn hN0 hE0 hmk
  simp only [markI] at hRo hIn
  go_enter Tryd.func5, Tryd.ntmps5
  go_wp2_with (first
    | (go_at_call 13; (with_reducible refine (hRo.out _ hlH.out).mono ?_); rintro e w1 ⟨g, rfl, hgw, hrow, hb1⟩; have hT1 := Hid.intro (hTH.out.below hb1 hTH.out.size); have hl1 := Hid.intro (hlH.out.below hb1); have hli := Hid.intro (hrow.lies hlH.out.1); replace hrow := Hid.intro hrow; replace hb1 := Hid.intro hb1)
    | (go_at_call 9; (with_reducible refine (hAl.out g _ _ hT1.out hli.out).mono ?_); rintro e w2 ⟨a2, k2, c2, rfl, hs2, hb2⟩; have hT2 := Hid.intro (hT1.out.below hb2 hT1.out.size); have hl2 := Hid.intro (hl1.out.below hb2); have hrow2 := Hid.intro (hrow.out.below hb2 hrow.out.lt); have hw2 := Hid.intro (chain2 hb1.out hb2); replace hs2 := Hid.intro hs2; clear hb2)
    | (go_at_call 14; (with_reducible refine (hIn.out g _ hl2.out hrow2.out).mono ?_); rintro e w3 ⟨rfl, hb3⟩; have hT3 := Hid.intro (hT2.out.below hb3 hT2.out.size); have hl3 := Hid.intro (hl2.out.below hb3); have hw3 := Hid.intro (chain2 hw2.out hb3); have hs3 := Hid.intro ((hs2.out.below hb3).mono hb1.out.size); clear hb3 hs2 hrow2 hT2 hl2 hw2))
  all_goals first | omega | skip
  clear hRo hIn hAl hT1 hl1 hrow hTH hlH hb1 hli
  go_loopw [7, 8] (fun vo vi wr => ∃ (i : Nat) (a1 : Option Addr) (k1 c1 : Nat), i ≤ n ∧ vi = .int .i64 (i : Int) ∧ vo = .slice a1 k1 c1 ∧ Hid (∀ (j : Nat) (y : Ins), j < i → xs[j]? = some y → y.chk = 0) ∧ Hid (SlB wr w3.heap.size a1 k1 c1 (encAll (xs.take i))) ∧ Hid (Below w3.heap.size w3 wr)) (fun _ vi _ => n - (intOf vi).toNat)
  case atStart => exact ⟨0, none, 0, 0, by omega, rfl, rfl, fun j y hj => by omega, ⟨rfl, World.ownsRow_nil _ _ _ _, fun z hz => by cases hz⟩, Below.refl _ _⟩
  case round =>
    obtain ⟨i, a1, k1, c1, hi, rfl, rfl, hI, hS, hB⟩ := hrel
    by_cases hlt : i < n
    · obtain ⟨x, hx⟩ : ∃ x, xs[i]? = some x := ⟨_, List.getElem?_eq_getElem (by have := hKH.out; omega)⟩
      obtain ⟨gl, ol, hal, hcl⟩ : ∃ gl ol, a = some ⟨gl, ol, none⟩ ∧ InsAt w3 gl (ol + i * 5) x := by
        rcases hl3.out.2 with h | ⟨gl, ol, ha, hcl⟩
        · rw [h] at hx; simp at hx
        · exact ⟨gl, ol, ha, hcl i x hx⟩
      subst hal
      have hok := Hid.intro (hl3.out.1 x (List.mem_of_getElem? hx))
      have hclH := Hid.intro hcl
      have hxH := Hid.intro hx
      have hTr := Hid.intro (hT3.out.below hB.out hT3.out.size)
      obtain ⟨q0, q1, q2, q3, q4⟩ := hcl.below hB.out hcl.lt
      obtain ⟨C, hC⟩ : ∃ C, x.chk = C := ⟨_, rfl⟩
      obtain ⟨L, hL⟩ : ∃ L, x.enc = L := ⟨_, rfl⟩
      have hEn := Hid.intro (fun W hW => encode_at hC hL W hW hok.out)
      have hC' : checkN x.o x.a x.b x.n x.f = C := hC
      have hCk := Hid.intro (fun W hW => hC' ▸ check_any x.o x.a x.b x.n x.f W hW hok.out)
      have hCH := Hid.intro hC
      have hLH := Hid.intro hL
      clear hx hC hC' hL hcl
      by_cases hc0 : C = 0
      · subst hc0
        obtain ⟨LN, hLN⟩ : ∃ LN, LN = lenN x.o x.a x.b x.n x.f := ⟨_, rfl⟩
        have hLe := Hid.intro (fun W hW => hLN ▸ len_any x.o x.a x.b x.n x.f W hW hok.out)
        have hLL : Hid ((L.length : Int) = LN) := by
          show _ = _
          have h1 : x.enc = encL x.o x.a x.b x.n x.f := if_pos (show checkN x.o x.a x.b x.n x.f = 0 from hCH.out)
          rw [← hLH.out, hLN, h1]; exact enc_length (show checkN x.o x.a x.b x.n x.f = 0 from hCH.out)
        have hl7 : Hid (L.length ≤ 7) := by show L.length ≤ 7; rw [← hLH.out]; exact encR_len _ _ _ _ _
        have hl8 : Hid ((encAll (xs.take i)).length ≤ 7000) := by
          show _ ≤ _
          have h1 := encAll_len (xs.take i)
          have h2 := List.length_take_le i xs
          omega
        clear hLN
        go_wp2_with (first
          | (go_at_call 8; (with_reducible refine (hEn.out _ hTr.out).mono ?_); rintro e w4 ⟨a4, m4, c4, rfl, hs4, hb4⟩; have hT4 := Hid.intro (hTr.out.below hb4 hTr.out.size); have hB4 := Hid.intro (chain2 hB.out hb4); obtain ⟨r0, r1, r2, r3, r4⟩ := hclH.out.below hB4.out hclH.out.lt; have hm4 : (m4 : Int) = LN := hs4.len ▸ hLL.out; replace hm4 := Hid.intro hm4; have hS4 := Hid.intro (hS.out.below hb4); have hmb : (m4 : Int) ≤ 7 := (by have := hl7.out; have := hs4.len; omega); replace hs4 := Hid.intro hs4; clear hb4)
          | (go_at_call 16; (with_reducible refine (hLe.out _ hT4.out).mono ?_); rintro e w5 ⟨rfl, hb5⟩; rw [← hm4.out]; have hB5 := Hid.intro (chain2 hB4.out hb5); have hS5 := Hid.intro (hS4.out.below hb5); have hs5 := Hid.intro (hs4.out.below hb5); clear hb5)
          | (at_builtin; go_must (refine app_held _ rfl (.tmp 82) (.tmp 83) rfl w3.heap.size a1 k1 c1 (encAll (xs.take i)) _ a4 m4 c4 L rfl rfl hS5.out hs5.out (by have := hl7.out; have := hl8.out; omega) hB5.out.size ?_); intro a6 k6 c6 w6 hs6 hb6; replace hs6 := Hid.intro hs6; replace hb6 := Hid.intro hb6))
        all_goals first | omega | skip
        have hI2 : Hid (∀ (j : Nat) (y : Ins), j < i + 1 → xs[j]? = some y → y.chk = 0) := fun j y hj hy => by
          by_cases hji : j = i
          · subst hji
            rw [hxH.out] at hy
            cases hy
            exact hCH.out
          · exact hI.out j y (by omega) hy
        have hS6 : Hid (SlB w6 w3.heap.size a6 k6 c6 (encAll (xs.take (i + 1)))) := by
          show SlB _ _ _ _ _ _
          rw [take_snoc hxH.out, encAll_snoc, hLH.out]
          exact hs6.out
        have hB6 : Hid (Below w3.heap.size w3 w6) := hB5.out.trans hb6.out
        clear hI hS hS4 hS5 hs4 hs5 hs6 hb6 hB4 hB5 hB
        go_roundw
        case rel => exact ⟨i + 1, a6, k6, c6, by omega, by go_num, rfl, hI2, hS6, hB6⟩
        case measure => simp [intOf]; omega
      · obtain ⟨z1, z2⟩ := badAt_hit hxH.out (by rw [hCH.out]; exact hc0) hI.out
        rw [hCH.out] at z2
        obtain rfl : C = E0 := z2.symm.trans hEH.out.symm
        obtain rfl : (i : Int) = N0 := by rw [hNH.out, allN, z2, if_neg hc0, z1]
        have z4 : k2 = 0 := by
          have := hs3.out.len
          rwa [allL, z2, if_neg hc0] at this
        subst z4
        have e0 : (C == 0) = false := by simpa using hc0
        have e1 : (C != 0) = true := by simpa using hc0
        clear hc0 z1 z2
        go_wp2_with (first
          | (go_at_call 8; (with_reducible refine (hEn.out _ hTr.out).mono ?_); rintro e w4 ⟨a4, m4, c4, rfl, hs4, hb4⟩; have hT4 := Hid.intro (hTr.out.below hb4 hTr.out.size); have hB4 := Hid.intro (chain2 hB.out hb4); obtain ⟨r0, r1, r2, r3, r4⟩ := hclH.out.below hB4.out hclH.out.lt; clear hb4 hs4)
          | (go_at_call 15; (with_reducible refine (hCk.out _ hT4.out).mono ?_); rintro e w5 ⟨rfl, hb5⟩; have hT5 := Hid.intro (hT4.out.below hb5 hT4.out.size); have hB5 := Hid.intro (chain2 hB4.out hb5); clear hb5)
          | (go_at_call 10; (with_reducible refine (known_any _ hT5.out).mono ?_); rintro e w6 ⟨rfl, hb6⟩; replace hb6 := Hid.intro hb6))
        all_goals first | omega | skip
        all_goals go_ret
        all_goals exact ⟨rfl, chain2 (chain2 hw3.out hB5.out) hb6.out⟩
    · obtain rfl : n = i := by omega
      have z2 : allE xs = 0 := badAt_none fun j y hy => hI.out j y (by have := (List.getElem?_eq_some_iff.1 hy).1; have := hKH.out; omega) hy
      obtain rfl : E0 = 0 := hEH.out.trans z2
      obtain rfl : N0 = 0 := hNH.out.trans (by rw [allN, if_pos z2])
      have z4 : allL xs = encAll xs := by rw [allL, if_pos z2]
      have z5 : encAll (xs.take n) = encAll xs := by rw [hKH.out, List.take_length]
      have hs3' : Hid (SlB wr w.heap.size a2 k2 c2 (encAll xs)) := z4 ▸ hs3.out.below hB.out
      have hS' : Hid (SlB wr w3.heap.size a1 k1 c1 (encAll xs)) := z5 ▸ hS.out
      have hTr := Hid.intro (hT3.out.below hB.out hT3.out.size)
      clear z2 z4 z5
      go_wp2_with (first
        | (go_at_call 12; (with_reducible refine (hSm.out _ _ _ _ _ _ _ _ _ hs3'.out hS'.out).mono ?_); rintro e w4 ⟨rfl, hb4⟩; have hT4 := Hid.intro (hTr.out.below hb4 hTr.out.size); have hB4 := Hid.intro (chain2 hB.out hb4); clear hb4)
        | (go_at_call 10; (with_reducible refine (known_any _ hT4.out).mono ?_); rintro e w5 ⟨rfl, hb5⟩; replace hb5 := Hid.intro hb5))
      all_goals first | omega | skip
      all_goals go_ret
      all_goals exact ⟨rfl, chain2 (chain2 hw3.out hB4.out) hb5.out⟩

set_option maxHeartbeats 4000000 in
theorem all_long (a : Option Addr) (n c : Nat) (xs : List Ins) (hKn : 200 = xs.length) (w : World) (hT : Tab w) (hl : ILies w a xs) (hc : n ≤ c) (hcm : c ≤ 9223372036854775807) (hs : 200 < n) :
    Calls Tryd.prog 5 #[.slice a n c] w fun e w' => e = .returned (.bool true) ∧ Below w.heap.size w w' := by
  have hTH := Hid.intro hT
  have hlH := Hid.intro hl
  have hKH := Hid.intro hKn
  have hRo := Hid.intro (fun W hW => roomyI a c xs 200 hKn markI W hW (by omega))
  have hIn := Hid.intro (fun g W (h1 : ILies W a xs) h2 => intactI a g c xs 200 hKn markI W h1 h2 (by omega))
  have hAl := Hid.intro (fun g cc W hW h1 => all_any (some ⟨g, 0, none⟩) cc xs 200 hKn W hW h1 (by omega))
  have hSm := Hid.intro (fun a1 a2 m1 m2 c1 c2 lo1 lo2 W (h1 : SlB W lo1 a1 m1 c1 (encAll xs)) h2 => same_heldB a1 a2 m1 m2 c1 c2 lo1 lo2 (encAll xs) W h1 h2 (by have := encAll_len xs; omega))
  obtain ⟨N0, hN0⟩ : ∃ N0, N0 = allN xs := ⟨_, rfl⟩
  obtain ⟨E0, hE0⟩ : ∃ E0, E0 = allE xs := ⟨_, rfl⟩
  rw [← hN0, ← hE0] at hAl
  have hNH := Hid.intro hN0
  have hEH := Hid.intro hE0
  have hmk : ∀ (v : Value) (W : World) (Q : Ending → World → Prop), True := fun _ _ _ => trivial
  clear hT hl hKn hN0 hE0 hmk
  simp only [markI] at hRo hIn
  go_enter Tryd.func5, Tryd.ntmps5
  go_wp2_with (first
    | (go_at_call 13; (with_reducible refine (hRo.out _ hlH.out).mono ?_); rintro e w1 ⟨g, rfl, hgw, hrow, hb1⟩; have hT1 := Hid.intro (hTH.out.below hb1 hTH.out.size); have hl1 := Hid.intro (hlH.out.below hb1); have hli := Hid.intro (hrow.lies hlH.out.1); replace hrow := Hid.intro hrow; replace hb1 := Hid.intro hb1)
    | (go_at_call 9; (with_reducible refine (hAl.out g _ _ hT1.out hli.out).mono ?_); rintro e w2 ⟨a2, k2, c2, rfl, hs2, hb2⟩; have hT2 := Hid.intro (hT1.out.below hb2 hT1.out.size); have hl2 := Hid.intro (hl1.out.below hb2); have hrow2 := Hid.intro (hrow.out.below hb2 hrow.out.lt); have hw2 := Hid.intro (chain2 hb1.out hb2); replace hs2 := Hid.intro hs2; clear hb2)
    | (go_at_call 14; (with_reducible refine (hIn.out g _ hl2.out hrow2.out).mono ?_); rintro e w3 ⟨rfl, hb3⟩; have hT3 := Hid.intro (hT2.out.below hb3 hT2.out.size); have hl3 := Hid.intro (hl2.out.below hb3); have hw3 := Hid.intro (chain2 hw2.out hb3); have hs3 := Hid.intro ((hs2.out.below hb3).mono hb1.out.size); clear hb3 hs2 hrow2 hT2 hl2 hw2))
  all_goals first | omega | skip
  clear hRo hIn hAl hT1 hl1 hrow hTH hlH hb1 hli
  go_loopw [7, 8] (fun vo vi wr => ∃ (i : Nat) (a1 : Option Addr) (k1 c1 : Nat), i ≤ 200 ∧ vi = .int .i64 (i : Int) ∧ vo = .slice a1 k1 c1 ∧ Hid (∀ (j : Nat) (y : Ins), j < i → xs[j]? = some y → y.chk = 0) ∧ Hid (SlB wr w3.heap.size a1 k1 c1 (encAll (xs.take i))) ∧ Hid (Below w3.heap.size w3 wr)) (fun _ vi _ => 200 - (intOf vi).toNat)
  case atStart => exact ⟨0, none, 0, 0, by omega, rfl, rfl, fun j y hj => by omega, ⟨rfl, World.ownsRow_nil _ _ _ _, fun z hz => by cases hz⟩, Below.refl _ _⟩
  case round =>
    obtain ⟨i, a1, k1, c1, hi, rfl, rfl, hI, hS, hB⟩ := hrel
    by_cases hlt : i < 200
    · obtain ⟨x, hx⟩ : ∃ x, xs[i]? = some x := ⟨_, List.getElem?_eq_getElem (by have := hKH.out; omega)⟩
      obtain ⟨gl, ol, hal, hcl⟩ : ∃ gl ol, a = some ⟨gl, ol, none⟩ ∧ InsAt w3 gl (ol + i * 5) x := by
        rcases hl3.out.2 with h | ⟨gl, ol, ha, hcl⟩
        · rw [h] at hx; simp at hx
        · exact ⟨gl, ol, ha, hcl i x hx⟩
      subst hal
      have hok := Hid.intro (hl3.out.1 x (List.mem_of_getElem? hx))
      have hclH := Hid.intro hcl
      have hxH := Hid.intro hx
      have hTr := Hid.intro (hT3.out.below hB.out hT3.out.size)
      obtain ⟨q0, q1, q2, q3, q4⟩ := hcl.below hB.out hcl.lt
      obtain ⟨C, hC⟩ : ∃ C, x.chk = C := ⟨_, rfl⟩
      obtain ⟨L, hL⟩ : ∃ L, x.enc = L := ⟨_, rfl⟩
      have hEn := Hid.intro (fun W hW => encode_at hC hL W hW hok.out)
      have hC' : checkN x.o x.a x.b x.n x.f = C := hC
      have hCk := Hid.intro (fun W hW => hC' ▸ check_any x.o x.a x.b x.n x.f W hW hok.out)
      have hCH := Hid.intro hC
      have hLH := Hid.intro hL
      clear hx hC hC' hL hcl
      by_cases hc0 : C = 0
      · subst hc0
        obtain ⟨LN, hLN⟩ : ∃ LN, LN = lenN x.o x.a x.b x.n x.f := ⟨_, rfl⟩
        have hLe := Hid.intro (fun W hW => hLN ▸ len_any x.o x.a x.b x.n x.f W hW hok.out)
        have hLL : Hid ((L.length : Int) = LN) := by
          show _ = _
          have h1 : x.enc = encL x.o x.a x.b x.n x.f := if_pos (show checkN x.o x.a x.b x.n x.f = 0 from hCH.out)
          rw [← hLH.out, hLN, h1]; exact enc_length (show checkN x.o x.a x.b x.n x.f = 0 from hCH.out)
        have hl7 : Hid (L.length ≤ 7) := by show L.length ≤ 7; rw [← hLH.out]; exact encR_len _ _ _ _ _
        have hl8 : Hid ((encAll (xs.take i)).length ≤ 7000) := by
          show _ ≤ _
          have h1 := encAll_len (xs.take i)
          have h2 := List.length_take_le i xs
          omega
        clear hLN
        go_wp2_with (first
          | (go_at_call 8; (with_reducible refine (hEn.out _ hTr.out).mono ?_); rintro e w4 ⟨a4, m4, c4, rfl, hs4, hb4⟩; have hT4 := Hid.intro (hTr.out.below hb4 hTr.out.size); have hB4 := Hid.intro (chain2 hB.out hb4); obtain ⟨r0, r1, r2, r3, r4⟩ := hclH.out.below hB4.out hclH.out.lt; have hm4 : (m4 : Int) = LN := hs4.len ▸ hLL.out; replace hm4 := Hid.intro hm4; have hS4 := Hid.intro (hS.out.below hb4); have hmb : (m4 : Int) ≤ 7 := (by have := hl7.out; have := hs4.len; omega); replace hs4 := Hid.intro hs4; clear hb4)
          | (go_at_call 16; (with_reducible refine (hLe.out _ hT4.out).mono ?_); rintro e w5 ⟨rfl, hb5⟩; rw [← hm4.out]; have hB5 := Hid.intro (chain2 hB4.out hb5); have hS5 := Hid.intro (hS4.out.below hb5); have hs5 := Hid.intro (hs4.out.below hb5); clear hb5)
          | (at_builtin; go_must (refine app_held _ rfl (.tmp 82) (.tmp 83) rfl w3.heap.size a1 k1 c1 (encAll (xs.take i)) _ a4 m4 c4 L rfl rfl hS5.out hs5.out (by have := hl7.out; have := hl8.out; omega) hB5.out.size ?_); intro a6 k6 c6 w6 hs6 hb6; replace hs6 := Hid.intro hs6; replace hb6 := Hid.intro hb6))
        all_goals first | omega | skip
        have hI2 : Hid (∀ (j : Nat) (y : Ins), j < i + 1 → xs[j]? = some y → y.chk = 0) := fun j y hj hy => by
          by_cases hji : j = i
          · subst hji
            rw [hxH.out] at hy
            cases hy
            exact hCH.out
          · exact hI.out j y (by omega) hy
        have hS6 : Hid (SlB w6 w3.heap.size a6 k6 c6 (encAll (xs.take (i + 1)))) := by
          show SlB _ _ _ _ _ _
          rw [take_snoc hxH.out, encAll_snoc, hLH.out]
          exact hs6.out
        have hB6 : Hid (Below w3.heap.size w3 w6) := hB5.out.trans hb6.out
        clear hI hS hS4 hS5 hs4 hs5 hs6 hb6 hB4 hB5 hB
        go_roundw
        case rel => exact ⟨i + 1, a6, k6, c6, by omega, by go_num, rfl, hI2, hS6, hB6⟩
        case measure => simp [intOf]; omega
      · obtain ⟨z1, z2⟩ := badAt_hit hxH.out (by rw [hCH.out]; exact hc0) hI.out
        rw [hCH.out] at z2
        obtain rfl : C = E0 := z2.symm.trans hEH.out.symm
        obtain rfl : (i : Int) = N0 := by rw [hNH.out, allN, z2, if_neg hc0, z1]
        have z4 : k2 = 0 := by
          have := hs3.out.len
          rwa [allL, z2, if_neg hc0] at this
        subst z4
        have e0 : (C == 0) = false := by simpa using hc0
        have e1 : (C != 0) = true := by simpa using hc0
        clear hc0 z1 z2
        go_wp2_with (first
          | (go_at_call 8; (with_reducible refine (hEn.out _ hTr.out).mono ?_); rintro e w4 ⟨a4, m4, c4, rfl, hs4, hb4⟩; have hT4 := Hid.intro (hTr.out.below hb4 hTr.out.size); have hB4 := Hid.intro (chain2 hB.out hb4); obtain ⟨r0, r1, r2, r3, r4⟩ := hclH.out.below hB4.out hclH.out.lt; clear hb4 hs4)
          | (go_at_call 15; (with_reducible refine (hCk.out _ hT4.out).mono ?_); rintro e w5 ⟨rfl, hb5⟩; have hT5 := Hid.intro (hT4.out.below hb5 hT4.out.size); have hB5 := Hid.intro (chain2 hB4.out hb5); clear hb5)
          | (go_at_call 10; (with_reducible refine (known_any _ hT5.out).mono ?_); rintro e w6 ⟨rfl, hb6⟩; replace hb6 := Hid.intro hb6))
        all_goals first | omega | skip
        all_goals go_ret
        all_goals exact ⟨rfl, chain2 (chain2 hw3.out hB5.out) hb6.out⟩
    · obtain rfl : 200 = i := by omega
      have z2 : allE xs = 0 := badAt_none fun j y hy => hI.out j y (by have := (List.getElem?_eq_some_iff.1 hy).1; have := hKH.out; omega) hy
      obtain rfl : E0 = 0 := hEH.out.trans z2
      obtain rfl : N0 = 0 := hNH.out.trans (by rw [allN, if_pos z2])
      have z4 : allL xs = encAll xs := by rw [allL, if_pos z2]
      have z5 : encAll (xs.take 200) = encAll xs := by rw [hKH.out, List.take_length]
      have hs3' : Hid (SlB wr w.heap.size a2 k2 c2 (encAll xs)) := z4 ▸ hs3.out.below hB.out
      have hS' : Hid (SlB wr w3.heap.size a1 k1 c1 (encAll xs)) := z5 ▸ hS.out
      have hTr := Hid.intro (hT3.out.below hB.out hT3.out.size)
      clear z2 z4 z5
      go_wp2_with (first
        | (go_at_call 12; (with_reducible refine (hSm.out _ _ _ _ _ _ _ _ _ hs3'.out hS'.out).mono ?_); rintro e w4 ⟨rfl, hb4⟩; have hT4 := Hid.intro (hTr.out.below hb4 hTr.out.size); have hB4 := Hid.intro (chain2 hB.out hb4); clear hb4)
        | (go_at_call 10; (with_reducible refine (known_any _ hT4.out).mono ?_); rintro e w5 ⟨rfl, hb5⟩; replace hb5 := Hid.intro hb5))
      all_goals first | omega | skip
      all_goals go_ret
      all_goals exact ⟨rfl, chain2 (chain2 hw3.out hB4.out) hb5.out⟩

theorem all_law (a : Option Addr) (n c : Nat) (xs : List Ins) (hn : n = xs.length) (w : World) (hT : Tab w) (hl : ILies w a xs) (hc : n ≤ c) (hcm : c ≤ maxLen) :
    Calls Tryd.prog 5 #[.slice a n c] w fun e w' => e = .returned (.bool true) ∧ Below w.heap.size w w' := by
  unfold maxLen at hcm
  by_cases hb : 200 < n
  · exact all_long a n c (xs.take 200) (by rw [List.length_take]; omega) w hT (hl.take 200) hc (by omega) hb
  · exact all_short a n c xs hn w hT hl hc (by omega) (by omega)
end Go.Proofs.YtmpckkogllnkkaaDoor
