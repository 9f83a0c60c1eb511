/- The document's answer for prefix codes, walked: Check, Number. -/
import Derived.Test.YtachikilcfdngaaPrefRefPlain
namespace Go.Proofs.Ytachikilcfdngaa
open Go.RowKit PrefPlain BitsPlain
set_option linter.unusedVariables false

/-- where the loop over the lengths stands -/
structure Ck (L : List Int) (k u v : Nat) (b : Bool) : Prop where
  ok : okL L k
  u : u = ss L k
  v : v = wq L k
  b : b = on L k
theorem pow_int (x : Nat) (h : x ≤ 15) : (32768 : Int) / 2 ^ x = ((2 ^ (15 - x) : Nat) : Int) := by
  have e : (2 : Nat) ^ (15 - x) = 32768 / 2 ^ x := by
    have h1 : (32768 : Nat) = 2 ^ (15 - x) * 2 ^ x := by rw [← Nat.pow_add, Nat.sub_add_cancel h]
    rw [h1, Nat.mul_div_cancel _ (Nat.two_pow_pos _)]
  rw [e]
  have h2 : ∀ V : Nat, (V : Int) / 2 ^ x = ((V / 2 ^ x : Nat) : Int) := fun V => by push_cast; rfl
  exact h2 32768
theorem Ck.hit {L : List Int} {k u v x : Nat} {b : Bool} (h : Ck L k u v b) (hx : L.getD k 0 = (x : Int)) (h0 : 0 < x) (h15 : x ≤ 15) : Ck L (k + 1) (u + 2 ^ (15 - x)) (v + 1) ((x : Int) == 1) := by
  have hp : 0 < L.getD k 0 := by omega
  exact ⟨okL_succ h.ok (by omega), by rw [ss, if_pos hp, hx, Int.toNat_natCast, h.u], by rw [wq, if_pos hp, h.v], by rw [on, if_pos hp, hx]⟩
theorem Ck.miss {L : List Int} {k u v : Nat} {b : Bool} (h : Ck L k u v b) (hx : L.getD k 0 = 0) : Ck L (k + 1) u v b := by
  have hp : ¬ 0 < L.getD k 0 := by omega
  exact ⟨okL_succ h.ok (by omega), by rw [ss, if_neg hp, h.u], by rw [wq, if_neg hp, h.v], by rw [on, if_neg hp, h.b]⟩
theorem mk_ok {L : List Int} (hl : L.length ≤ 320) (hok : okL L L.length) : mk L = if fitsB (cn L) (mo L L.length) = false then 4 else 0 := by
  unfold mk
  rw [if_neg (by omega), if_neg (by rw [allOk_of hok]; simp)]
theorem ck_no {L : List Int} {u v : Nat} {b : Bool} (h : Ck L L.length u v b) (hl : L.length ≤ 320) (h1 : 0 < v) (h2 : u ≠ 32768) (h3 : ¬ (v = 1 ∧ b = true)) : mk L = 4 := by
  rw [mk_ok hl h.ok, if_pos]
  have := fits_said h.ok
  rw [← h.u, ← h.v, ← h.b] at this
  rw [← Bool.not_eq_true, this]
  exact fun g => g ⟨h1, h2, h3⟩
theorem ck_yes {L : List Int} {u v : Nat} {b : Bool} (h : Ck L L.length u v b) (hl : L.length ≤ 320) (h1 : v = 0 ∨ u = 32768 ∨ (v = 1 ∧ b = true)) : mk L = 0 := by
  rw [mk_ok hl h.ok, if_neg]
  have := fits_said h.ok
  rw [← h.u, ← h.v, ← h.b] at this
  rw [Bool.not_eq_false, this]
  rintro ⟨a1, a2, a3⟩
  rcases h1 with g | g | g
  · omega
  · exact a2 g
  · exact a3 g
theorem mk_bad {L : List Int} {k : Nat} (hl : L.length ≤ 320) (hk : k < L.length) (h : L.getD k 0 < 0 ∨ 15 < L.getD k 0) : mk L = 1 := by
  unfold mk
  rw [if_neg (by omega), if_pos (allOk_no hk h)]

set_option maxRecDepth 100000 in
set_option maxHeartbeats 4000000 in
theorem check_any {w : World} {a : Option Addr} {n c : Nat} {L : List Int} (h : IntsAt .i64 w a n c L) :
    Calls Try.prog 26 #[.slice a n c] w fun e w' => e = .returned (.int .i64 ((mk L : Nat) : Int)) ∧ w = w' := by
  have hlen := h.len
  have hcap := h.cap
  have hcm := h.capm
  have HH := Lib.hid h
  have HL := Lib.hid hlen
  clear h hlen
  by_cases hbig : (320 : Int) < (n : Int)
  · have HM := Lib.hid (show mk L = 5 by unfold mk; rw [if_pos (by rw [HL.out]; omega)])
    go_enter Try.func26, Try.ntmps26
    go_wp2_with fail
    go_ret
    rw [HM.out]
    exact ⟨rfl, rfl⟩
  · have hbig2 : (n : Int) ≤ 320 := by omega
    have HL2 := Lib.hid (show L.length ≤ 320 by rw [HL.out]; omega)
    clear hbig
    go_enter Try.func26, Try.ntmps26
    go_wp2_with fail
    go_loop [3, 4, 5, 13] (fun s3 s4 s5 s13 => ∃ (k u v : Nat) (b : Bool), k ≤ n ∧ u ≤ 32768 * k ∧ v ≤ k ∧ s13 = .int .i64 k ∧ s3 = .int .i64 (u : Int) ∧ s4 = .int .i64 (v : Int) ∧ s5 = .bool b ∧ Hid (Ck L k u v b)) (fun _ _ _ s13 => n - (intOf s13).toNat)
    case atStart => exact ⟨0, 0, 0, false, by omega, by omega, by omega, rfl, rfl, rfl, rfl, Lib.hid ⟨fun s hs => by omega, rfl, rfl, rfl⟩⟩
    case round =>
      obtain ⟨k, u, v, b, hk, hu, hv, rfl, rfl, rfl, rfl, HC⟩ := hrel
      by_cases hkn : k < n
      · obtain ⟨g, off, rfl, hlt, hcell⟩ := HH.out.cells (by omega)
        have hck := hcell k hkn
        obtain ⟨x, hx⟩ : ∃ x, x = L.getD k 0 := ⟨_, rfl⟩
        rw [← hx] at hck
        by_cases hneg : x < 0
        · have HM := Lib.hid (mk_bad HL2.out (by rw [HL.out]; exact hkn) (.inl (by omega)))
          clear hcell hx
          go_wp2_with fail
          go_ret
          rw [HM.out]
          exact ⟨rfl, rfl⟩
        · by_cases h15 : 15 < x
          · have HM := Lib.hid (mk_bad HL2.out (by rw [HL.out]; exact hkn) (.inr (by omega)))
            have hneg2 : 0 ≤ x := by omega
            clear hcell hx hneg
            go_wp2_with fail
            go_ret
            rw [HM.out]
            exact ⟨rfl, rfl⟩
          · obtain ⟨y, rfl⟩ := Int.eq_ofNat_of_zero_le (show 0 ≤ x by omega)
            have hy15 : (y : Int) ≤ 15 := by omega
            by_cases h0 : 0 < y
            · have HC2 := Lib.hid (HC.out.hit hx.symm h0 (by omega))
              have hp := pow_le_15 (n := 15 - y) (by omega)
              have e1 := pow_int y (by omega)
              obtain ⟨z, hz⟩ : ∃ z, z = 2 ^ (15 - y) := ⟨_, rfl⟩
              rw [← hz] at HC2 e1 hp
              have h0' : 0 < (y : Int) := by omega
              clear hcell hx hneg h15 hz h0
              go_wp2_with fail
              go_round
              case rel => exact ⟨k + 1, u + z, v + 1, (y : Int) == 1, by omega, by omega, by omega, by go_num, by go_num, by go_num, rfl, HC2⟩
              case measure => simp [intOf]; omega
            · obtain rfl : y = 0 := by omega
              have HC2 := Lib.hid (HC.out.miss hx.symm)
              clear hcell hx hneg h15 h0
              go_wp2_with fail
              go_round
              case rel => exact ⟨k + 1, u, v, b, by omega, by omega, by omega, by go_num, rfl, rfl, rfl, HC2⟩
              case measure => simp [intOf]; omega
      · obtain rfl : k = n := by omega
        have HC2 := Lib.hid (show Ck L L.length u v b by rw [HL.out]; exact HC.out)
        by_cases h1 : v = 0
        · subst h1
          have HM := Lib.hid (ck_yes HC2.out HL2.out (.inl rfl))
          go_wp2_with fail
          go_ret
          rw [HM.out]
          exact ⟨rfl, rfl⟩
        · have h1' : (0 : Int) < (v : Int) := by omega
          by_cases h2 : u = 32768
          · have e2 : ((u : Int) != 32768) = false := by rw [bne_eq_false_iff_eq]; omega
            have HM := Lib.hid (ck_yes HC2.out HL2.out (.inr (.inl h2)))
            clear h1 h2
            go_wp2_with fail
            go_ret
            rw [HM.out]
            exact ⟨rfl, rfl⟩
          · have e2 : ((u : Int) != 32768) = true := by rw [bne_iff_ne]; omega
            by_cases h3 : v = 1
            · have e3 : ((v : Int) == 1) = true := by rw [beq_iff_eq]; omega
              cases b
              · have HM := Lib.hid (ck_no HC2.out HL2.out (by omega) h2 (by simp))
                clear h1 h2 h3
                go_wp2_with fail
                go_ret
                rw [HM.out]
                exact ⟨rfl, rfl⟩
              · have HM := Lib.hid (ck_yes HC2.out HL2.out (.inr (.inr ⟨h3, rfl⟩)))
                clear h1 h2 h3
                go_wp2_with fail
                go_ret
                rw [HM.out]
                exact ⟨rfl, rfl⟩
            · have e3 : ((v : Int) == 1) = false := by rw [beq_eq_false_iff_ne]; omega
              have HM := Lib.hid (ck_no HC2.out HL2.out (by omega) h2 (fun g => h3 g.1))
              clear h1 h2 h3
              go_wp2_with fail
              go_ret
              rw [HM.out]
              exact ⟨rfl, rfl⟩

theorem bs_size (xs : List Nat) : (bs xs).size = xs.length := by
  have h : (bs xs).data.toList.length = xs.length := by simp [bs, strOfNums_data]
  simpa using h
theorem bs_at {xs : List Nat} (hx : ∀ x ∈ xs, x < 256) {i : Nat} (hi : i < (bs xs).size) : ((bs xs)[i]'hi).toNat = xs.getD i 0 := by
  have hi2 : i < xs.length := by rw [bs_size] at hi; exact hi
  have h : ((bs xs)[i]'hi) = (bs xs).data.toList[i]'(by simpa using hi) := by simp; rfl
  rw [h]
  have hb : xs[i] < 256 := hx _ (List.getElem_mem hi2)
  simp [bs, strOfNums_data, hi2, Nat.mod_eq_of_lt hb]
theorem num_step (V m k : Nat) (hk : k < m) : V / 2 ^ (m - (k + 1)) = 2 * (V / 2 ^ (m - k)) + V / 2 ^ (m - 1 - k) % 2 := by
  rw [show m - k = (m - 1 - k) + 1 from by omega, show m - (k + 1) = m - 1 - k from by omega, Nat.pow_succ, ← Nat.div_div_eq_div_mul]
  omega

set_option maxRecDepth 100000 in
set_option maxHeartbeats 2000000 in
theorem wnumber_any (w : World) (V m : Nat) (hm : m ≤ 15) (hV : V < 2 ^ m) :
    Calls Try.prog 30 #[.string (bs (txt V m))] w fun e w' => e = .returned (.int .u32 (V : Int)) ∧ w = w' := by
  have hsz : (bs (txt V m)).size = m := by rw [bs_size, txt_len]
  have hat : ∀ i (hi : i < (bs (txt V m)).size), ((bs (txt V m))[i]'hi).toNat = 48 + V / 2 ^ (m - 1 - i) % 2 := fun i hi => by
    rw [bs_at (txt_byte V m), txt_getD (by omega)]
  obtain ⟨s, hs⟩ : ∃ s, s = bs (txt V m) := ⟨_, rfl⟩
  rw [← hs] at hsz ⊢
  have HAT : Hid (∀ i (hi : i < s.size), (s[i]'hi).toNat = 48 + V / 2 ^ (m - 1 - i) % 2) := by subst hs; exact Lib.hid hat
  have HV := Lib.hid hV
  have HZ := Lib.hid (show V / 2 ^ m = 0 from Nat.div_eq_of_lt hV)
  have hV15 : V < 32768 := Nat.lt_of_lt_of_le hV (pow_le_15 hm)
  clear hat hs hV
  go_enter Try.func30, Try.ntmps30
  go_wp2_with fail
  go_loop [3, 4] (fun s3 s4 => ∃ k : Nat, k ≤ m ∧ s4 = .int .i64 k ∧ s3 = .int .u32 ((V / 2 ^ (m - k) : Nat) : Int)) (fun _ s4 => m - (intOf s4).toNat)
  case atStart => exact ⟨0, by omega, rfl, by rw [Nat.sub_zero, HZ.out]; rfl⟩
  case round =>
    obtain ⟨k, hk, rfl, rfl⟩ := hrel
    by_cases hkm : k < m
    · have hst := num_step V m k hkm
      have hks : k < s.size := by omega
      have ha := HAT.out k hks
      obtain ⟨u, hu⟩ : ∃ u, u = V / 2 ^ (m - k) := ⟨_, rfl⟩
      obtain ⟨d, hd⟩ : ∃ d, d = V / 2 ^ (m - 1 - k) % 2 := ⟨_, rfl⟩
      have hu15 : u ≤ 32768 := by rw [hu]; exact Nat.le_trans (Nat.div_le_self _ _) (by omega)
      have hd2 : d < 2 := by rw [hd]; exact Nat.mod_lt _ (by omega)
      rw [← hd] at hst ha
      rw [← hu] at hst ⊢
      have HST := Lib.hid hst
      have ha' : ((s[k]'hks).toNat : Int) = 48 + (d : Int) := by omega
      clear hst hu hd ha
      go_wp2_with fail
      go_round
      case rel => exact ⟨k + 1, by omega, by go_num, by rw [HST.out]; go_num⟩
      case measure => simp [intOf]; omega
    · obtain rfl : k = m := by omega
      rw [Nat.sub_self, Nat.pow_zero, Nat.div_one]
      go_wp2_with fail
      go_ret
      exact ⟨rfl, rfl⟩
end Go.Proofs.Ytachikilcfdngaa
