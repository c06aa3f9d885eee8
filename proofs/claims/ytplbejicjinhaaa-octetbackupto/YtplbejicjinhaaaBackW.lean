/- The walk of the statement OctetBack, where what comes in is of at most some million values and letters. -/
import Derived.Test.YtplbejicjinhaaaBackM
namespace Go.Proofs.Ytplbejicjinhaaa
open Go.ChangeShapes Go.WideShapes Go.ChangeAt Go.RowKit
set_option linter.unusedVariables false

theorem app_law {ops : Array Oper} {rest : List Oper} {o : Oper} {a : Act} {Q : Exit → Act → World → Prop} (w : World) (hgd : o.guard = none) (s x : Operand)
    (ho : o.op = .call { callee := .builtin .append, args := #[s, x], argTypes := #[26, 26] }) (base : Nat) (v : Value) (zs ts : List Int) (hs : a.eval s = v) (hown : Own w base v zs)
    (a3 : Option Addr) (c3 : Nat) (hx : a.eval x = .slice a3 ts.length c3) (hl : Lies w a3 ts) (hna : a3 = none → ts.length = 0 ∧ c3 = 0) (hm : zs.length + ts.length ≤ 140737488355328) (hbase : base ≤ w.heap.size)
    (h : ∀ a' c' w', Got w' base a' c' (zs ++ ts) → Below base w w' → wpList Try.prog ops Q rest (a.put o.dst (.slice a' (zs ++ ts).length c')) w') : wpList Try.prog ops Q (o :: rest) a w := by
  obtain ⟨i0, hi, hz0, hz1, hz2⟩ := info_parts Try.info5
  cases a3 with
  | none =>
    obtain ⟨ht, rfl⟩ := hna rfl
    obtain rfl := List.length_eq_zero_iff.1 ht
    refine wpList_append_own_none hgd s x 26 ho base 5 i0 1 Try.underlying26 hi v zs.length (cellsOf zs) hs hown hx ?_
    obtain ⟨a', c', rfl, hg⟩ := own_got hown
    have e : zs ++ [] = zs := List.append_nil zs
    have := h a' c' w (by rw [e]; exact hg) (Below.refl _ _)
    rw [e] at this
    exact this
  | some ad =>
    refine wpList_append_own w hgd s x 26 ho base 5 i0 (.int .u8 0) 1 1 Try.underlying26 hi hz0 hz1 hz2 rfl (by decide) v zs.length (cellsOf zs) hs hown ad ts.length c3 (cellsOf ts) hx (by simp [cellsOf_length]) (lies_olds hl (Below.refl _ _) ad rfl) (cellsOf_one ts) (by unfold maxLen; omega) (by omega) hbase ?_
    intro v' w' hown' hgrow _
    have ho' : Own w' base v' (zs ++ ts) := by
      unfold Own
      rw [List.length_append]
      simpa [cellsOf] using hown'
    obtain ⟨a', c', rfl, hg⟩ := own_got ho'
    exact h a' c' w' hg ((Below.refl _ _).grown hgrow hbase (fun k hk => (hown.lt k hk).1))

theorem app_law_at {ops : Array Oper} {rest : List Oper} {o : Oper} {a : Act} {Q : Exit → Act → World → Prop} (w : World) (hgd : o.guard = none) (s x : Operand)
    (ho : o.op = .call { callee := .builtin .append, args := #[s, x], argTypes := #[26, 26] }) (base : Nat) (v : Value) (zs ts L : List Int) (hL : L = zs ++ ts) (hs : a.eval s = v) (hown : Own w base v zs)
    (a3 : Option Addr) (c3 : Nat) (hx : a.eval x = .slice a3 ts.length c3) (hl : Lies w a3 ts) (hna : a3 = none → ts.length = 0 ∧ c3 = 0) (hm : zs.length + ts.length ≤ 140737488355328) (hbase : base ≤ w.heap.size)
    (h : ∀ a' c' w', Got w' base a' c' L → Below base w w' → wpList Try.prog ops Q rest (a.put o.dst (.slice a' L.length c')) w') : wpList Try.prog ops Q (o :: rest) a w := by
  subst hL
  exact app_law w hgd s x ho base v zs ts hs hown a3 c3 hx hl hna hm hbase h

theorem back_getN4 (zs ts : List Int) (n : Int) (hn : 0 ≤ n ∧ n ≤ 4294967295) : getN (zs ++ leB n 4 ++ ts) zs.length 4 = n := by
  have h := back_getN zs ts n 4 (by omega) hn.1
  have e : n % 256 ^ 4 = n := by
    have h4 : (256 : Int) ^ 4 = 4294967296 := by decide
    rw [h4]
    omega
  rw [e] at h
  exact h

theorem areBytes_append {xs ys : List Int} (h1 : AreBytes xs) (h2 : AreBytes ys) : AreBytes (xs ++ ys) := by
  intro z hz
  rcases List.mem_append.1 hz with h | h
  · exact h1 z h
  · exact h2 z h

set_option maxRecDepth 100000 in
theorem back_walk (a0 a3 : Option Addr) (c0 c3 : Nat) (zs ts : List Int) (n : Int) (s : ByteArray) (w : World) (hl : Lies w a0 zs) (hna : a0 = none → zs.length = 0 ∧ c0 = 0) (hcap : zs.length ≤ c0) (hl3 : Lies w a3 ts) (hna3 : a3 = none → ts.length = 0 ∧ c3 = 0)
    (hs : s.size ≤ 60000) (hm : zs.length + ts.length ≤ 1048576) (hn : 0 ≤ n ∧ n ≤ 4294967295) :
    Calls Try.prog 7 #[.slice a0 zs.length c0, .int .u32 n, .string s, .slice a3 ts.length c3] w fun e w' => e = .returned (.bool true) ∧ Below w.heap.size w w' := by
  have hz := hl.1
  have ht := hl3.1
  go_enter Try.func7, Try.ntmps7
  go_wp2
  go_loopw [25] (fun i wr => ∃ k : Nat, k ≤ 3 ∧ i = .int .i64 k ∧ Below (w.heap.size + 1) (w.alloc (.cells #[.int .i64 1, .int .i64 2, .int .i64 4] 3)) wr) (fun i _ => 3 - (intOf i).toNat)
  case atStart => exact ⟨0, by omega, rfl, Below.refl _ _⟩
  case round =>
    obtain ⟨k, hk, rfl, hb⟩ := hrel
    have hbw : Below w.heap.size w wr := ((Below.refl _ _).alloc (Nat.le_refl _) _).trans (hb.mono (by omega))
    have hL := hl.below hbw
    have hT := hl3.below hbw
    have q0 : wr.cell? ⟨w.heap.size, 0, none⟩ = some (.int .i64 1) := (hb.cell (by simp)).trans (by simp)
    have q1 : wr.cell? ⟨w.heap.size, 1, none⟩ = some (.int .i64 2) := (hb.cell (by simp)).trans (by simp)
    have q2 : wr.cell? ⟨w.heap.size, 2, none⟩ = some (.int .i64 4) := (hb.cell (by simp)).trans (by simp)
    have hsz : w.heap.size + 1 ≤ wr.heap.size := by have := hb.size; simpa using this
    by_cases h0 : k = 0
    · subst h0
      have hp := put_ok a0 c0 1 zs n wr hL hna hcap (by omega) (by omega) hn
      obtain ⟨L, hLe⟩ : ∃ L, L = zs ++ leB n 1 ++ ts := ⟨_, rfl⟩
      have gE : getE L zs.length 1 = 0 := by rw [hLe]; exact back_getE zs ts n 1 (by omega)
      have gN : getN L zs.length 1 = n % 256 := by rw [hLe]; exact back_getN zs ts n 1 (by omega) hn.1
      have mL : L.length ≤ maxLen := by rw [hLe]; simp [leB_length]; unfold maxLen; omega
      have hA : AreBytes L := by rw [hLe]; exact areBytes_append (areBytes_append hz (leB_bytes n 1)) ht
      have hg := fun xa xc w2 (hX : Lies w2 xa L) => get_any xa xc L zs.length 1 w2 hX mL (by omega)
      rw [gE, gN] at hg
      have HL : Hid (L = zs ++ leB n 1 ++ ts) := hLe
      clear gE gN hLe
      have hw32 : -2147483648 ≤ wrap32 n ∧ wrap32 n ≤ 2147483647 := by unfold wrap32; omega
      have f1 := back_fits n (n % 256) hn 1 (by omega)
      have f4 : fitsB (wrap32 n) 4 = true := rfl
      go_wp2_with (first
        | (go_at_call 9; refine (hg _ _ _ hX).mono ?_; rintro e w3 ⟨rfl, rfl⟩)
        | (go_at_call 12; refine (signed_any _ _ _).mono ?_; rintro e w4 ⟨rfl, rfl⟩)
        | (go_at_call 13; refine (fits_any _ _ _ hw32).mono ?_; rintro e w5 ⟨rfl, rfl⟩)
        | (go_at_call 11; refine hp.mono ?_; rintro e w1 ⟨v, rfl, hown, hb1⟩; have hT := hT.below hb1)
        | (at_builtin; go_must (refine app_law_at _ rfl (.tmp 32) (.tmp 33) rfl wr.heap.size _ (zs ++ leB n 1) ts L HL.out rfl hown a3 c3 rfl hT hna3 (by simp [leB_length]; omega) hb1.size ?_); intro xa xc w2 hx hb2; have hX := hx.lies hA))
      all_goals
        go_roundw
        case rel => exact ⟨1, by omega, rfl, hb.trans ((hb1.trans hb2).mono hsz)⟩
        case measure => simp [intOf]
    · by_cases h1 : k = 1
      · subst h1
        have hp := put_ok a0 c0 2 zs n wr hL hna hcap (by omega) (by omega) hn
        obtain ⟨L, hLe⟩ : ∃ L, L = zs ++ leB n 2 ++ ts := ⟨_, rfl⟩
        have gE : getE L zs.length 2 = 0 := by rw [hLe]; exact back_getE zs ts n 2 (by omega)
        have gN : getN L zs.length 2 = n % 65536 := by rw [hLe]; exact back_getN zs ts n 2 (by omega) hn.1
        have mL : L.length ≤ maxLen := by rw [hLe]; simp [leB_length]; unfold maxLen; omega
        have hA : AreBytes L := by rw [hLe]; exact areBytes_append (areBytes_append hz (leB_bytes n 2)) ht
        have hg := fun xa xc w2 (hX : Lies w2 xa L) => get_any xa xc L zs.length 2 w2 hX mL (by omega)
        rw [gE, gN] at hg
        have HL : Hid (L = zs ++ leB n 2 ++ ts) := hLe
        clear gE gN hLe
        have hw32 : -2147483648 ≤ wrap32 n ∧ wrap32 n ≤ 2147483647 := by unfold wrap32; omega
        have f1 := back_fits n (n % 65536) hn 2 (by omega)
        have f4 : fitsB (wrap32 n) 4 = true := rfl
        go_wp2_with (first
          | (go_at_call 9; refine (hg _ _ _ hX).mono ?_; rintro e w3 ⟨rfl, rfl⟩)
          | (go_at_call 12; refine (signed_any _ _ _).mono ?_; rintro e w4 ⟨rfl, rfl⟩)
          | (go_at_call 13; refine (fits_any _ _ _ hw32).mono ?_; rintro e w5 ⟨rfl, rfl⟩)
          | (go_at_call 11; refine hp.mono ?_; rintro e w1 ⟨v, rfl, hown, hb1⟩; have hT := hT.below hb1)
          | (at_builtin; go_must (refine app_law_at _ rfl (.tmp 32) (.tmp 33) rfl wr.heap.size _ (zs ++ leB n 2) ts L HL.out rfl hown a3 c3 rfl hT hna3 (by simp [leB_length]; omega) hb1.size ?_); intro xa xc w2 hx hb2; have hX := hx.lies hA))
        all_goals
          go_roundw
          case rel => exact ⟨2, by omega, rfl, hb.trans ((hb1.trans hb2).mono hsz)⟩
          case measure => simp [intOf]
      · by_cases h2 : k = 2
        · subst h2
          have hp := put_ok a0 c0 4 zs n wr hL hna hcap (by omega) (by omega) hn
          obtain ⟨L, hLe⟩ : ∃ L, L = zs ++ leB n 4 ++ ts := ⟨_, rfl⟩
          have gE : getE L zs.length 4 = 0 := by rw [hLe]; exact back_getE zs ts n 4 (by omega)
          have gN : getN L zs.length 4 = n := by rw [hLe]; exact back_getN4 zs ts n hn
          have mL : L.length ≤ maxLen := by rw [hLe]; simp [leB_length]; unfold maxLen; omega
          have hA : AreBytes L := by rw [hLe]; exact areBytes_append (areBytes_append hz (leB_bytes n 4)) ht
          have hg := fun xa xc w2 (hX : Lies w2 xa L) => get_any xa xc L zs.length 4 w2 hX mL (by omega)
          rw [gE, gN] at hg
          have HL : Hid (L = zs ++ leB n 4 ++ ts) := hLe
          clear gE gN hLe
          have hw32 : -2147483648 ≤ wrap32 n ∧ wrap32 n ≤ 2147483647 := by unfold wrap32; omega
          have f1 := back_fits n (n) hn 4 (by omega)
          have f4 : fitsB (wrap32 n) 4 = true := rfl
          go_wp2_with (first
            | (go_at_call 9; refine (hg _ _ _ hX).mono ?_; rintro e w3 ⟨rfl, rfl⟩)
            | (go_at_call 12; refine (signed_any _ _ _).mono ?_; rintro e w4 ⟨rfl, rfl⟩)
            | (go_at_call 13; refine (fits_any _ _ _ hw32).mono ?_; rintro e w5 ⟨rfl, rfl⟩)
            | (go_at_call 11; refine hp.mono ?_; rintro e w1 ⟨v, rfl, hown, hb1⟩; have hT := hT.below hb1)
            | (at_builtin; go_must (refine app_law_at _ rfl (.tmp 32) (.tmp 33) rfl wr.heap.size _ (zs ++ leB n 4) ts L HL.out rfl hown a3 c3 rfl hT hna3 (by simp [leB_length]; omega) hb1.size ?_); intro xa xc w2 hx hb2; have hX := hx.lies hA))
          all_goals
            go_roundw
            case rel => exact ⟨3, by omega, rfl, hb.trans ((hb1.trans hb2).mono hsz)⟩
            case measure => simp [intOf]
        · obtain rfl : k = 3 := by omega
          obtain ⟨L, hLe⟩ : ∃ L, L = putT zs s ++ ts := ⟨_, rfl⟩
          have hLl : L.length = zs.length + 2 + s.size + ts.length := by rw [hLe, List.length_append, putT_length]
          have gE : getTE L zs.length s.size = 0 := by rw [hLe]; exact backT_TE zs ts s hs
          have gT : getTo L zs.length s.size = zs.length + 2 + s.size := by rw [hLe]; exact backT_To zs ts s hs
          have gS : getTS L zs.length s.size = s := by rw [hLe]; exact backT_TS zs ts s hs
          have mL : L.length ≤ maxLen := by rw [hLl]; unfold maxLen; omega
          have hA : AreBytes L := by rw [hLe]; exact areBytes_append (putT_bytes zs s hz) ht
          have hg := fun xa xc w2 (hX : Lies w2 xa L) (hc : L.length ≤ xc) => getText_any xa xc L zs.length s.size w2 hX mL hc (by omega)
          rw [gE, gT, gS] at hg
          have hp := putText_any a0 c0 zs s wr hL hna hcap (by omega)
          have hll : (putT zs s).length = zs.length + 2 + s.size := putT_length zs s
          have HL : Hid (L = putT zs s ++ ts) := hLe
          have HLL : Hid ((putT zs s).length = zs.length + 2 + s.size) := hll
          have e5 : ((zs.length : Int) + 2 + s.size == (L.length : Int) - ts.length) = true := by simp; omega
          have e6 : L.length ≤ 140737488355328 := by omega
          clear gE gT gS hLe hll hLl
          go_wp2_with (first
            | (go_at_call 10; refine (hg _ _ _ hX hC).mono ?_; rintro e w3 ⟨rfl, rfl⟩)
            | (go_at_call 16; refine hp.mono ?_; rintro e w1 ⟨v, rfl, hown, hb1⟩; have hT := hT.below hb1)
            | (go_at_call 14; refine (known_bel _).mono ?_; rintro e w9 ⟨rfl, hb9⟩)
            | (at_builtin; go_must (refine app_law_at _ rfl (.tmp 94) (.tmp 95) rfl wr.heap.size _ (putT zs s) ts L HL.out rfl hown a3 c3 rfl hT hna3 (by rw [HLL.out]; omega) hb1.size ?_); intro xa xc w2 hx hb2; have hX := hx.lies hA; have hC := hx.cap))
          go_ret
          exact ⟨rfl, Below.go hbw (Below.go (hb1.trans hb2) hb9)⟩
set_option maxRecDepth 100000 in
theorem back_walk_long (a0 a3 : Option Addr) (c0 c3 : Nat) (zs ts : List Int) (n : Int) (s0 : ByteArray) (w : World) (hl : Lies w a0 zs) (hna : a0 = none → zs.length = 0 ∧ c0 = 0) (hcap : zs.length ≤ c0) (hl3 : Lies w a3 ts) (hna3 : a3 = none → ts.length = 0 ∧ c3 = 0)
    (hs0 : 60000 < s0.size) (hmx : s0.size ≤ maxLen) (hm : zs.length + ts.length ≤ 1048576) (hn : 0 ≤ n ∧ n ≤ 4294967295) :
    Calls Try.prog 7 #[.slice a0 zs.length c0, .int .u32 n, .string s0, .slice a3 ts.length c3] w fun e w' => e = .returned (.bool true) ∧ Below w.heap.size w w' := by
  have hz := hl.1
  have ht := hl3.1
  obtain ⟨s, hse⟩ : ∃ s, s0.extract 0 60000 = s := ⟨_, rfl⟩
  have hs : s.size ≤ 60000 := by rw [← hse]; simp; omega
  unfold maxLen at hmx
  have hd : decide ((60000 : Int) < (s0.size : Int)) = true := by simp; omega
  go_enter Try.func7, Try.ntmps7
  go_wp2
  clear hse
  go_loopw [25] (fun i wr => ∃ k : Nat, k ≤ 3 ∧ i = .int .i64 k ∧ Below (w.heap.size + 1) (w.alloc (.cells #[.int .i64 1, .int .i64 2, .int .i64 4] 3)) wr) (fun i _ => 3 - (intOf i).toNat)
  case atStart => exact ⟨0, by omega, rfl, Below.refl _ _⟩
  case round =>
    obtain ⟨k, hk, rfl, hb⟩ := hrel
    have hbw : Below w.heap.size w wr := ((Below.refl _ _).alloc (Nat.le_refl _) _).trans (hb.mono (by omega))
    have hL := hl.below hbw
    have hT := hl3.below hbw
    have q0 : wr.cell? ⟨w.heap.size, 0, none⟩ = some (.int .i64 1) := (hb.cell (by simp)).trans (by simp)
    have q1 : wr.cell? ⟨w.heap.size, 1, none⟩ = some (.int .i64 2) := (hb.cell (by simp)).trans (by simp)
    have q2 : wr.cell? ⟨w.heap.size, 2, none⟩ = some (.int .i64 4) := (hb.cell (by simp)).trans (by simp)
    have hsz : w.heap.size + 1 ≤ wr.heap.size := by have := hb.size; simpa using this
    by_cases h0 : k = 0
    · subst h0
      have hp := put_ok a0 c0 1 zs n wr hL hna hcap (by omega) (by omega) hn
      obtain ⟨L, hLe⟩ : ∃ L, L = zs ++ leB n 1 ++ ts := ⟨_, rfl⟩
      have gE : getE L zs.length 1 = 0 := by rw [hLe]; exact back_getE zs ts n 1 (by omega)
      have gN : getN L zs.length 1 = n % 256 := by rw [hLe]; exact back_getN zs ts n 1 (by omega) hn.1
      have mL : L.length ≤ maxLen := by rw [hLe]; simp [leB_length]; unfold maxLen; omega
      have hA : AreBytes L := by rw [hLe]; exact areBytes_append (areBytes_append hz (leB_bytes n 1)) ht
      have hg := fun xa xc w2 (hX : Lies w2 xa L) => get_any xa xc L zs.length 1 w2 hX mL (by omega)
      rw [gE, gN] at hg
      have HL : Hid (L = zs ++ leB n 1 ++ ts) := hLe
      clear gE gN hLe
      have hw32 : -2147483648 ≤ wrap32 n ∧ wrap32 n ≤ 2147483647 := by unfold wrap32; omega
      have f1 := back_fits n (n % 256) hn 1 (by omega)
      have f4 : fitsB (wrap32 n) 4 = true := rfl
      go_wp2_with (first
        | (go_at_call 9; refine (hg _ _ _ hX).mono ?_; rintro e w3 ⟨rfl, rfl⟩)
        | (go_at_call 12; refine (signed_any _ _ _).mono ?_; rintro e w4 ⟨rfl, rfl⟩)
        | (go_at_call 13; refine (fits_any _ _ _ hw32).mono ?_; rintro e w5 ⟨rfl, rfl⟩)
        | (go_at_call 11; refine hp.mono ?_; rintro e w1 ⟨v, rfl, hown, hb1⟩; have hT := hT.below hb1)
        | (at_builtin; go_must (refine app_law_at _ rfl (.tmp 32) (.tmp 33) rfl wr.heap.size _ (zs ++ leB n 1) ts L HL.out rfl hown a3 c3 rfl hT hna3 (by simp [leB_length]; omega) hb1.size ?_); intro xa xc w2 hx hb2; have hX := hx.lies hA))
      all_goals
        go_roundw
        case rel => exact ⟨1, by omega, rfl, hb.trans ((hb1.trans hb2).mono hsz)⟩
        case measure => simp [intOf]
    · by_cases h1 : k = 1
      · subst h1
        have hp := put_ok a0 c0 2 zs n wr hL hna hcap (by omega) (by omega) hn
        obtain ⟨L, hLe⟩ : ∃ L, L = zs ++ leB n 2 ++ ts := ⟨_, rfl⟩
        have gE : getE L zs.length 2 = 0 := by rw [hLe]; exact back_getE zs ts n 2 (by omega)
        have gN : getN L zs.length 2 = n % 65536 := by rw [hLe]; exact back_getN zs ts n 2 (by omega) hn.1
        have mL : L.length ≤ maxLen := by rw [hLe]; simp [leB_length]; unfold maxLen; omega
        have hA : AreBytes L := by rw [hLe]; exact areBytes_append (areBytes_append hz (leB_bytes n 2)) ht
        have hg := fun xa xc w2 (hX : Lies w2 xa L) => get_any xa xc L zs.length 2 w2 hX mL (by omega)
        rw [gE, gN] at hg
        have HL : Hid (L = zs ++ leB n 2 ++ ts) := hLe
        clear gE gN hLe
        have hw32 : -2147483648 ≤ wrap32 n ∧ wrap32 n ≤ 2147483647 := by unfold wrap32; omega
        have f1 := back_fits n (n % 65536) hn 2 (by omega)
        have f4 : fitsB (wrap32 n) 4 = true := rfl
        go_wp2_with (first
          | (go_at_call 9; refine (hg _ _ _ hX).mono ?_; rintro e w3 ⟨rfl, rfl⟩)
          | (go_at_call 12; refine (signed_any _ _ _).mono ?_; rintro e w4 ⟨rfl, rfl⟩)
          | (go_at_call 13; refine (fits_any _ _ _ hw32).mono ?_; rintro e w5 ⟨rfl, rfl⟩)
          | (go_at_call 11; refine hp.mono ?_; rintro e w1 ⟨v, rfl, hown, hb1⟩; have hT := hT.below hb1)
          | (at_builtin; go_must (refine app_law_at _ rfl (.tmp 32) (.tmp 33) rfl wr.heap.size _ (zs ++ leB n 2) ts L HL.out rfl hown a3 c3 rfl hT hna3 (by simp [leB_length]; omega) hb1.size ?_); intro xa xc w2 hx hb2; have hX := hx.lies hA))
        all_goals
          go_roundw
          case rel => exact ⟨2, by omega, rfl, hb.trans ((hb1.trans hb2).mono hsz)⟩
          case measure => simp [intOf]
      · by_cases h2 : k = 2
        · subst h2
          have hp := put_ok a0 c0 4 zs n wr hL hna hcap (by omega) (by omega) hn
          obtain ⟨L, hLe⟩ : ∃ L, L = zs ++ leB n 4 ++ ts := ⟨_, rfl⟩
          have gE : getE L zs.length 4 = 0 := by rw [hLe]; exact back_getE zs ts n 4 (by omega)
          have gN : getN L zs.length 4 = n := by rw [hLe]; exact back_getN4 zs ts n hn
          have mL : L.length ≤ maxLen := by rw [hLe]; simp [leB_length]; unfold maxLen; omega
          have hA : AreBytes L := by rw [hLe]; exact areBytes_append (areBytes_append hz (leB_bytes n 4)) ht
          have hg := fun xa xc w2 (hX : Lies w2 xa L) => get_any xa xc L zs.length 4 w2 hX mL (by omega)
          rw [gE, gN] at hg
          have HL : Hid (L = zs ++ leB n 4 ++ ts) := hLe
          clear gE gN hLe
          have hw32 : -2147483648 ≤ wrap32 n ∧ wrap32 n ≤ 2147483647 := by unfold wrap32; omega
          have f1 := back_fits n (n) hn 4 (by omega)
          have f4 : fitsB (wrap32 n) 4 = true := rfl
          go_wp2_with (first
            | (go_at_call 9; refine (hg _ _ _ hX).mono ?_; rintro e w3 ⟨rfl, rfl⟩)
            | (go_at_call 12; refine (signed_any _ _ _).mono ?_; rintro e w4 ⟨rfl, rfl⟩)
            | (go_at_call 13; refine (fits_any _ _ _ hw32).mono ?_; rintro e w5 ⟨rfl, rfl⟩)
            | (go_at_call 11; refine hp.mono ?_; rintro e w1 ⟨v, rfl, hown, hb1⟩; have hT := hT.below hb1)
            | (at_builtin; go_must (refine app_law_at _ rfl (.tmp 32) (.tmp 33) rfl wr.heap.size _ (zs ++ leB n 4) ts L HL.out rfl hown a3 c3 rfl hT hna3 (by simp [leB_length]; omega) hb1.size ?_); intro xa xc w2 hx hb2; have hX := hx.lies hA))
          all_goals
            go_roundw
            case rel => exact ⟨3, by omega, rfl, hb.trans ((hb1.trans hb2).mono hsz)⟩
            case measure => simp [intOf]
        · obtain rfl : k = 3 := by omega
          obtain ⟨L, hLe⟩ : ∃ L, L = putT zs s ++ ts := ⟨_, rfl⟩
          have hLl : L.length = zs.length + 2 + s.size + ts.length := by rw [hLe, List.length_append, putT_length]
          have gE : getTE L zs.length s.size = 0 := by rw [hLe]; exact backT_TE zs ts s hs
          have gT : getTo L zs.length s.size = zs.length + 2 + s.size := by rw [hLe]; exact backT_To zs ts s hs
          have gS : getTS L zs.length s.size = s := by rw [hLe]; exact backT_TS zs ts s hs
          have mL : L.length ≤ maxLen := by rw [hLl]; unfold maxLen; omega
          have hA : AreBytes L := by rw [hLe]; exact areBytes_append (putT_bytes zs s hz) ht
          have hg := fun xa xc w2 (hX : Lies w2 xa L) (hc : L.length ≤ xc) => getText_any xa xc L zs.length s.size w2 hX mL hc (by omega)
          rw [gE, gT, gS] at hg
          have hp := putText_any a0 c0 zs s wr hL hna hcap (by omega)
          have hll : (putT zs s).length = zs.length + 2 + s.size := putT_length zs s
          have HL : Hid (L = putT zs s ++ ts) := hLe
          have HLL : Hid ((putT zs s).length = zs.length + 2 + s.size) := hll
          have e5 : ((zs.length : Int) + 2 + s.size == (L.length : Int) - ts.length) = true := by simp; omega
          have e6 : L.length ≤ 140737488355328 := by omega
          clear gE gT gS hLe hll hLl
          go_wp2_with (first
            | (go_at_call 10; refine (hg _ _ _ hX hC).mono ?_; rintro e w3 ⟨rfl, rfl⟩)
            | (go_at_call 16; refine hp.mono ?_; rintro e w1 ⟨v, rfl, hown, hb1⟩; have hT := hT.below hb1)
            | (go_at_call 14; refine (known_bel _).mono ?_; rintro e w9 ⟨rfl, hb9⟩)
            | (at_builtin; go_must (refine app_law_at _ rfl (.tmp 94) (.tmp 95) rfl wr.heap.size _ (putT zs s) ts L HL.out rfl hown a3 c3 rfl hT hna3 (by rw [HLL.out]; omega) hb1.size ?_); intro xa xc w2 hx hb2; have hX := hx.lies hA; have hC := hx.cap))
          go_ret
          exact ⟨rfl, Below.go hbw (Below.go (hb1.trans hb2) hb9)⟩

theorem back_all (a0 a3 : Option Addr) (c0 c3 : Nat) (zs ts : List Int) (n : Int) (s : ByteArray) (w : World) (hl : Lies w a0 zs) (hna : a0 = none → zs.length = 0 ∧ c0 = 0) (hcap : zs.length ≤ c0) (hl3 : Lies w a3 ts) (hna3 : a3 = none → ts.length = 0 ∧ c3 = 0)
    (hmx : s.size ≤ maxLen) (hm : zs.length + ts.length ≤ 1048576) (hn : 0 ≤ n ∧ n ≤ 4294967295) :
    Calls Try.prog 7 #[.slice a0 zs.length c0, .int .u32 n, .string s, .slice a3 ts.length c3] w fun e w' => e = .returned (.bool true) ∧ Below w.heap.size w w' := by
  by_cases hs : s.size ≤ 60000
  · exact back_walk a0 a3 c0 c3 zs ts n s w hl hna hcap hl3 hna3 hs hm hn
  · exact back_walk_long a0 a3 c0 c3 zs ts n s w hl hna hcap hl3 hna3 (by omega) hmx hm hn

end Go.Proofs.Ytplbejicjinhaaa
