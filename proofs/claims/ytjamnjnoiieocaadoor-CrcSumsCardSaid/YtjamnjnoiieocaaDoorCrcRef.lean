/- The document's checksum (bit by bit), Seal and Open, walked: they are the same plain functions. Condition: at most 100,000 bytes. -/
import Derived.Test.YtjamnjnoiieocaaDoorCrcOpen
import Derived.Test.YtjamnjnoiieocaaDoorOwn
namespace Go.Proofs.YtjamnjnoiieocaaDoor
open Go.RowKit CrcPlain
set_option linter.unusedVariables false

theorem sbs_snoc (n c : Nat) : sbs (n + 1) c = sb (sbs n c) := by rw [sbs_add]; rfl

set_option maxRecDepth 100000 in
set_option maxHeartbeats 1000000 in
theorem rstep_any (c x : Nat) (hc : c < 4294967296) (hx : x < 256) (w : World) :
    Calls Tryd.prog 18 #[.int .u32 (c : Int), .int .u8 (x : Int)] w fun e w' => e = .returned (.int .u32 ((sbs 8 (c ^^^ x) : Nat) : Int)) ∧ w = w' := by
  have E1 := xor_nat c x hc (by omega)
  obtain ⟨q, hq⟩ : ∃ q, q = c ^^^ x := ⟨_, rfl⟩
  have hq32 : q < 4294967296 := by rw [hq]; exact Nat.xor_lt_two_pow (n := 32) hc (by omega)
  rw [← hq] at E1 ⊢
  have HQ := Lib.hid hq32
  clear hq hq32
  go_enter Tryd.func18, Tryd.ntmps18
  go_wp2_with fail
  clear E1
  go_loop [0, 5, 6] (fun s0 s5 s6 => ∃ k : Nat, k ≤ 8 ∧ s5 = .int .i64 k ∧ s0 = .int .u32 ((sbs k q : Nat) : Int)) (fun _ s5 _ => 8 - (intOf s5).toNat)
  case atStart => exact ⟨0, by omega, rfl, rfl⟩
  case round =>
    obtain ⟨k, hk, rfl, rfl⟩ := hrel
    by_cases hk8 : k < 8
    · have hn := sbs_snoc k q
      have h32 := sbs_lt k q HQ.out
      obtain ⟨r, hr⟩ : ∃ r, r = sbs k q := ⟨_, rfl⟩
      rw [← hr] at hn h32 ⊢
      by_cases ho : r % 2 = 1
      · have E2 := xor_nat (r / 2) 3988292384 (by omega) (by omega)
        have E2' : bits .xor .u32 ((r : Int) / 2) 3988292384 = ((sb r : Nat) : Int) := by
          have : sb r = (r / 2) ^^^ 3988292384 := by unfold sb; rw [if_pos ho]
          rw [this]; exact E2
        have hb : ((r : Int) % 2 == 1) = true := by rw [beq_iff_eq]; omega
        have HN := Lib.hid hn
        clear hn hr ho E2
        go_wp2_with fail
        go_round
        case rel => exact ⟨k + 1, by omega, by go_num, by rw [HN.out]⟩
        case measure => simp [intOf]; omega
      · have hs : sb r = r / 2 := by unfold sb; rw [if_neg ho, Nat.xor_zero]
        have hb : ((r : Int) % 2 == 1) = false := by rw [beq_eq_false_iff_ne]; omega
        have HN := Lib.hid hn
        have HS := Lib.hid hs
        clear hn hr ho hs
        go_wp2_with fail
        go_round
        case rel => exact ⟨k + 1, by omega, by go_num, by rw [HN.out, HS.out]; push_cast; rfl⟩
        case measure => simp [intOf]; omega
    · obtain rfl : k = 8 := by omega
      go_wp2_with fail
      go_ret
      exact ⟨rfl, rfl⟩

set_option maxRecDepth 100000 in
set_option maxHeartbeats 1000000 in
theorem rsum_any {w : World} {a : Option Addr} {n c : Nat} {xs : List Nat} (h : BytesAt w a n c xs) :
    Calls Tryd.prog 10 #[.slice a n c] w fun e w' => e = .returned (.int .u32 ((crcN xs : Nat) : Int)) ∧ w = w' := by
  have HH := Lib.hid h
  have hcap := h.cap
  have hcm := h.capm
  have HBY := Lib.hid h.byte
  clear h
  go_enter Tryd.func10, Tryd.ntmps10
  go_wp2_with fail
  go_loop [3, 5, 8] (fun s3 s5 s8 => ∃ k : Nat, k ≤ n ∧ s8 = .int .i64 k ∧ s3 = .int .u32 ((reg 4294967295 (xs.take k) : Nat) : Int)) (fun _ _ s8 => n - (intOf s8).toNat)
  case atStart => exact ⟨0, by omega, rfl, rfl⟩
  case round =>
    obtain ⟨k, hk, rfl, rfl⟩ := hrel
    have hlen := HH.out.len
    obtain ⟨q, hq⟩ : ∃ q, q = reg 4294967295 (xs.take k) := ⟨_, rfl⟩
    have hq32 : q < 4294967296 := by rw [hq]; exact reg_lt _ _ (fun x hx => HBY.out x (List.mem_of_mem_take hx)) (by decide)
    rw [← hq]
    by_cases hkn : k < n
    · obtain ⟨b, off, rfl, hlt, hc⟩ := HH.out.cells (by omega)
      have hck := hc k hkn
      obtain ⟨x, hx⟩ : ∃ x, x = xs.getD k 0 := ⟨_, rfl⟩
      have h1 : k < xs.length := by omega
      have hx256 : x < 256 := by
        have : xs.getD k 0 = xs[k] := by simp [h1]
        rw [hx, this]
        exact HBY.out _ (List.getElem_mem h1)
      rw [← hx] at hck
      have htk : xs.take (k + 1) = xs.take k ++ [x] := by
        rw [List.take_add_one, List.getElem?_eq_getElem h1, hx]; simp [h1]
      have hend : sbs 8 (q ^^^ x) = reg 4294967295 (xs.take (k + 1)) := by rw [htk, reg_snoc, ← hq]
      have HE := Lib.hid hend
      have HC := Lib.hid (rstep_any q x hq32 hx256 w)
      clear hc hx htk hq hend hlen
      go_wp2_with fail
      refine HC.out.mono ?_
      rintro e w1 ⟨rfl, rfl⟩
      go_wp2_with fail
      go_round
      case rel => exact ⟨k + 1, by omega, by go_num, by rw [← HE.out]⟩
      case measure => simp [intOf]; omega
    · have hkn2 : k = n := by omega
      have hfull : xs.take k = xs := List.take_of_length_le (by omega)
      have E6 := not_nat q hq32
      have he : 4294967295 ^^^ q = crcN xs := by rw [hq, hfull]; rfl
      have HQ := Lib.hid he
      clear hq hq32 hfull he hlen
      go_wp2_with fail
      go_ret
      rw [← HQ.out]
      exact ⟨rfl, rfl⟩

set_option maxHeartbeats 1000000 in
theorem four_any (s : Nat) (hs : s < 4294967296) (w : World) :
    Calls Tryd.prog 21 #[.int .u32 (s : Int)] w fun e w' => e = .returned (.slice (some ⟨w.heap.size, 0, none⟩) 4 4) ∧ BytesAt w' (some ⟨w.heap.size, 0, none⟩) 4 4 (le s 4) ∧ Below w.heap.size w w' := by
  go_enter Tryd.func21, Tryd.ntmps21
  go_wp2_with fail
  go_ret
  refine ⟨rfl, ?_, (Below.refl _ _).alloc (Nat.le_refl _) _⟩
  have hl : le s 4 = [s % 256, s / 256 % 256, s / 65536 % 256, s / 16777216] := by
    have h4 : s / 16777216 % 256 = s / 16777216 := Nat.mod_eq_of_lt (by omega)
    simp [le, List.range_succ, h4]
  rw [hl]
  exact BytesAt.lit w _ [s % 256, s / 256 % 256, s / 65536 % 256, s / 16777216] (by simp [bv]) (by
    intro x hx
    simp only [List.mem_cons, List.not_mem_nil, or_false] at hx
    rcases hx with rfl | rfl | rfl | rfl <;> omega) (by simp) (by simp)

set_option maxRecDepth 100000 in
set_option maxHeartbeats 1000000 in
theorem rseal_any {w : World} {a : Option Addr} {n c : Nat} {xs : List Nat} (h : BytesAt w a n c xs) (hn : n ≤ 100000) :
    Calls Tryd.prog 17 #[.slice a n c] w fun e w' => ∃ a' c', e = .returned (.slice a' (n + 4) c') ∧ BytesAt w' a' (n + 4) c' (sealed xs) ∧ Below w.heap.size w w' := by
  have HT := Lib.hid (twin h)
  have HH := Lib.hid h
  have hs := crcN_lt xs h.byte
  have HBX := Lib.hid h.byte
  have HS := Lib.hid hs
  clear h hs
  go_enter Tryd.func17, Tryd.ntmps17
  go_wp2_with fail
  refine HT.out.mono ?_
  rintro e w1 ⟨g, k, rfl, hg1, hg2, hown, hby, hb1⟩
  have HB1 := Lib.hid hb1
  have HR := Lib.hid (rsum_any (HH.out.kept hb1))
  have HO := Lib.hid hown
  clear hb1 hown hby
  go_wp2_with fail
  refine HR.out.mono ?_
  rintro e w2 ⟨rfl, rfl⟩
  go_wp2_with fail
  refine (four_any _ HS.out _).mono ?_
  rintro e w2 ⟨rfl, hb4, hb2⟩
  have HB2 := Lib.hid (HB1.out.trans (hb2.mono HB1.out.size))
  have HF := Lib.hid hb4
  have hgo := own_below HO.out hb2
  have hbs := HB2.out.size
  clear hb2 hb4
  go_wp2_with (at_builtin; refine wpList_append_bytes rfl (.tmp 4) (.tmp 7) rfl w.heap.size _ _ _ rfl hgo _ _ _ _ rfl HF.out (by omega) hbs ?_)
  intro v' w3 hown' hgrow
  have HB3 := Lib.hid (HB2.out.grown hgrow hbs (fun k hk => (hgo.lt k hk).1))
  have HO3 := Lib.hid hown'
  clear hown' hgrow hgo
  have hby : ∀ x ∈ xs ++ le (crcN xs) 4, x < 256 := by
    intro x hx
    rcases List.mem_append.1 hx with g | g
    · exact HBX.out x g
    · exact le_byte _ 4 x g
  obtain ⟨a', c', rfl, hba, hfa⟩ := BytesAt.ofOwn HO3.out hby (by omega)
  have HBA := Lib.hid hba
  clear hba hby
  go_wp2_with fail
  go_ret
  exact ⟨a', c', rfl, HBA.out, HB3.out⟩

set_option maxRecDepth 100000 in
set_option maxHeartbeats 1000000 in
theorem ropen_any {w : World} {a : Option Addr} {n c : Nat} {xs : List Nat} (h : BytesAt w a n c xs) (hn : n ≤ 100000) :
    Calls Tryd.prog 15 #[.slice a n c] w fun e w' => ∃ a' m' c', e = .returned (.tuple #[.slice a' m' c', .int .i64 ((op xs).2 : Int)]) ∧ BytesAt w' a' m' c' (op xs).1 ∧ Below w.heap.size w w' := by
  have hlen := h.len
  have hempty : ∀ w, BytesAt w none 0 0 [] := fun w => BytesAt.empty w none 0 (by omega) (fun _ => rfl)
  have HEM := Lib.hid hempty
  have hcap := h.cap
  have hcm := h.capm
  have HL := Lib.hid hlen
  clear hempty hlen
  by_cases h4 : n < 4
  · have HO := Lib.hid (show op xs = ([], 3) by unfold op; rw [if_pos (by rw [HL.out]; exact h4)])
    have h4' : (n : Int) < 4 := by omega
    clear h
    go_enter Tryd.func15, Tryd.ntmps15
    go_wp2_with fail
    go_ret2
    rw [HO.out]
    exact ⟨none, 0, 0, rfl, HEM.out _, Below.refl _ _⟩
  · obtain ⟨m, rfl⟩ : ∃ m, n = m + 4 := ⟨n - 4, by omega⟩
    have e1 : IntKind.i64.wrap (((m + 4 : Nat) : Int) - 4) = (m : Int) := by rw [IntWalk.i64_in _ (by omega)]; omega
    have h4' : (4 : Int) ≤ ((m + 4 : Nat) : Int) := by omega
    have HU := Lib.hid (h.upto m (by omega))
    have HS := Lib.hid (rseal_any HU.out (by omega))
    have HH := Lib.hid h
    have ho : op xs = if sealed (xs.take m) = xs then (xs.take m, 0) else ([], 6) := by
      unfold op; rw [if_neg (by rw [HL.out]; omega), HL.out]; rfl
    have HO := Lib.hid ho
    clear h ho h4
    go_enter Tryd.func15, Tryd.ntmps15
    go_wp2_with fail
    refine HS.out.mono ?_
    rintro e w1 ⟨a1, c1, rfl, hb1, hbel1⟩
    have HB1 := Lib.hid hb1
    have HBE1 := Lib.hid hbel1
    clear hb1 hbel1
    go_wp2_with fail
    refine (same_any HB1.out (HH.out.kept HBE1.out)).mono ?_
    rintro e w2 ⟨rfl, rfl⟩
    by_cases heq : sealed (xs.take m) = xs
    · have hv : (sealed (xs.take m) == xs) = true := by rw [heq]; exact beq_self_eq_true _
      rw [hv]
      have HV := Lib.hid (show op xs = (xs.take m, 0) by rw [HO.out, if_pos heq])
      clear heq hv
      go_wp2_with fail
      refine (twin (HU.out.kept HBE1.out)).mono ?_
      rintro e w2 ⟨g, k, rfl, hg1, hg2, hown, hby, hb1⟩
      have HB2 := Lib.hid (HBE1.out.trans (hb1.mono HBE1.out.size))
      have HY := Lib.hid hby
      clear hown hby hb1
      go_wp2_with fail
      go_ret2
      rw [HV.out]
      exact ⟨_, _, _, rfl, HY.out, HB2.out⟩
    · have hv : (sealed (xs.take m) == xs) = false := by rw [beq_eq_false_iff_ne]; exact heq
      rw [hv]
      have HV := Lib.hid (show op xs = ([], 6) by rw [HO.out, if_neg heq])
      clear heq hv
      go_wp2_with fail
      go_ret2
      rw [HV.out]
      exact ⟨none, 0, 0, rfl, HEM.out _, HBE1.out⟩
end Go.Proofs.YtjamnjnoiieocaaDoor
