/- Texts put together by packtpl2.py: CrcRef, MfRD. -/
import Derived.Test.YtbdgcfimbblncaaGreatDoorPkMR1
import Derived.Test.YtbdgcfimbblncaaGreatDoorPkMR10
import Derived.Test.YtbdgcfimbblncaaGreatDoorPkMR11
import Derived.Test.YtbdgcfimbblncaaGreatDoorPkMR12
section PkMR13_0
/- The document's checksum (bit by bit), Seal and Open, walked: they are the same plain functions. Condition: at most 100,000 bytes. -/
namespace Go.Proofs.YtbdgcfimbblncaaGreatDoor
open Go.RowKit CrcPlain
set_option linter.unusedVariables false

theorem sbs_snoc (n c : Nat) : sbs (n + 1) c = sb (sbs n c) := by rw [sbs_add]; rfl

set_option maxRecDepth 100000 in
set_option maxHeartbeats 1000000 in
theorem rstep_any (c x : Nat) (hc : c < 4294967296) (hx : x < 256) (w : World) :
    Calls Tryz.prog 118 #[.int .u32 (c : Int), .int .u8 (x : Int)] w fun e w' => e = .returned (.int .u32 ((sbs 8 (c ^^^ x) : Nat) : Int)) ∧ w = w' := by
  have E1 := xor_nat c x hc (by omega)
  obtain ⟨q, hq⟩ : ∃ q, q = c ^^^ x := ⟨_, rfl⟩
  have hq32 : q < 4294967296 := by rw [hq]; exact Nat.xor_lt_two_pow (n := 32) hc (by omega)
  rw [← hq] at E1 ⊢
  have HQ := Lib.hid hq32
  clear hq hq32
  go_enter Tryz.func118, Tryz.ntmps118
  go_wp2_with fail
  clear E1
  go_loop [0, 5, 6] (fun s0 s5 s6 => ∃ k : Nat, k ≤ 8 ∧ s5 = .int .i64 k ∧ s0 = .int .u32 ((sbs k q : Nat) : Int)) (fun _ s5 _ => 8 - (intOf s5).toNat)
  case atStart => exact ⟨0, by omega, rfl, rfl⟩
  case round =>
    obtain ⟨k, hk, rfl, rfl⟩ := hrel
    by_cases hk8 : k < 8
    · have hn := sbs_snoc k q
      have h32 := sbs_lt k q HQ.out
      obtain ⟨r, hr⟩ : ∃ r, r = sbs k q := ⟨_, rfl⟩
      rw [← hr] at hn h32 ⊢
      by_cases ho : r % 2 = 1
      · have E2 := xor_nat (r / 2) 3988292384 (by omega) (by omega)
        have E2' : bits .xor .u32 ((r : Int) / 2) 3988292384 = ((sb r : Nat) : Int) := by
          have : sb r = (r / 2) ^^^ 3988292384 := by unfold sb; rw [if_pos ho]
          rw [this]; exact E2
        have hb : ((r : Int) % 2 == 1) = true := by rw [beq_iff_eq]; omega
        have HN := Lib.hid hn
        clear hn hr ho E2
        go_wp2_with fail
        go_round
        case rel => exact ⟨k + 1, by omega, by go_num, by rw [HN.out]⟩
        case measure => simp [intOf]; omega
      · have hs : sb r = r / 2 := by unfold sb; rw [if_neg ho, Nat.xor_zero]
        have hb : ((r : Int) % 2 == 1) = false := by rw [beq_eq_false_iff_ne]; omega
        have HN := Lib.hid hn
        have HS := Lib.hid hs
        clear hn hr ho hs
        go_wp2_with fail
        go_round
        case rel => exact ⟨k + 1, by omega, by go_num, by rw [HN.out, HS.out]; push_cast; rfl⟩
        case measure => simp [intOf]; omega
    · obtain rfl : k = 8 := by omega
      go_wp2_with fail
      go_ret
      exact ⟨rfl, rfl⟩

set_option maxRecDepth 100000 in
set_option maxHeartbeats 1000000 in
theorem rsum_any {w : World} {a : Option Addr} {n c : Nat} {xs : List Nat} (h : BytesAt w a n c xs) :
    Calls Tryz.prog 88 #[.slice a n c] w fun e w' => e = .returned (.int .u32 ((crcN xs : Nat) : Int)) ∧ w = w' := by
  have HH := Lib.hid h
  have hcap := h.cap
  have hcm := h.capm
  have HBY := Lib.hid h.byte
  clear h
  go_enter Tryz.func88, Tryz.ntmps88
  go_wp2_with fail
  go_loop [3, 5, 8] (fun s3 s5 s8 => ∃ k : Nat, k ≤ n ∧ s8 = .int .i64 k ∧ s3 = .int .u32 ((reg 4294967295 (xs.take k) : Nat) : Int)) (fun _ _ s8 => n - (intOf s8).toNat)
  case atStart => exact ⟨0, by omega, rfl, rfl⟩
  case round =>
    obtain ⟨k, hk, rfl, rfl⟩ := hrel
    have hlen := HH.out.len
    obtain ⟨q, hq⟩ : ∃ q, q = reg 4294967295 (xs.take k) := ⟨_, rfl⟩
    have hq32 : q < 4294967296 := by rw [hq]; exact reg_lt _ _ (fun x hx => HBY.out x (List.mem_of_mem_take hx)) (by decide)
    rw [← hq]
    by_cases hkn : k < n
    · obtain ⟨b, off, rfl, hlt, hc⟩ := HH.out.cells (by omega)
      have hck := hc k hkn
      obtain ⟨x, hx⟩ : ∃ x, x = xs.getD k 0 := ⟨_, rfl⟩
      have h1 : k < xs.length := by omega
      have hx256 : x < 256 := by
        have : xs.getD k 0 = xs[k] := by simp [h1]
        rw [hx, this]
        exact HBY.out _ (List.getElem_mem h1)
      rw [← hx] at hck
      have htk : xs.take (k + 1) = xs.take k ++ [x] := by
        rw [List.take_add_one, List.getElem?_eq_getElem h1, hx]; simp [h1]
      have hend : sbs 8 (q ^^^ x) = reg 4294967295 (xs.take (k + 1)) := by rw [htk, reg_snoc, ← hq]
      have HE := Lib.hid hend
      have HC := Lib.hid (rstep_any q x hq32 hx256 w)
      clear hc hx htk hq hend hlen
      go_wp2_with fail
      refine HC.out.mono ?_
      rintro e w1 ⟨rfl, rfl⟩
      go_wp2_with fail
      go_round
      case rel => exact ⟨k + 1, by omega, by go_num, by rw [← HE.out]⟩
      case measure => simp [intOf]; omega
    · have hkn2 : k = n := by omega
      have hfull : xs.take k = xs := List.take_of_length_le (by omega)
      have E6 := not_nat q hq32
      have he : 4294967295 ^^^ q = crcN xs := by rw [hq, hfull]; rfl
      have HQ := Lib.hid he
      clear hq hq32 hfull he hlen
      go_wp2_with fail
      go_ret
      rw [← HQ.out]
      exact ⟨rfl, rfl⟩

set_option maxHeartbeats 1000000 in
theorem four_any (s : Nat) (hs : s < 4294967296) (w : World) :
    Calls Tryz.prog 87 #[.int .u32 (s : Int)] w fun e w' => e = .returned (.slice (some ⟨w.heap.size, 0, none⟩) 4 4) ∧ BytesAt w' (some ⟨w.heap.size, 0, none⟩) 4 4 (le s 4) ∧ Below w.heap.size w w' := by
  go_enter Tryz.func87, Tryz.ntmps87
  go_wp2_with fail
  go_ret
  refine ⟨rfl, ?_, (Below.refl _ _).alloc (Nat.le_refl _) _⟩
  have hl : le s 4 = [s % 256, s / 256 % 256, s / 65536 % 256, s / 16777216] := by
    have h4 : s / 16777216 % 256 = s / 16777216 := Nat.mod_eq_of_lt (by omega)
    simp [le, List.range_succ, h4]
  rw [hl]
  exact BytesAt.lit w _ [s % 256, s / 256 % 256, s / 65536 % 256, s / 16777216] (by simp [bv]) (by
    intro x hx
    simp only [List.mem_cons, List.not_mem_nil, or_false] at hx
    rcases hx with rfl | rfl | rfl | rfl <;> omega) (by simp) (by simp)

set_option maxRecDepth 100000 in
set_option maxHeartbeats 1000000 in
theorem rseal_any {w : World} {a : Option Addr} {n c : Nat} {xs : List Nat} (h : BytesAt w a n c xs) (hn : n ≤ 1000000) :
    Calls Tryz.prog 46 #[.slice a n c] w fun e w' => ∃ a' c', e = .returned (.slice a' (n + 4) c') ∧ BytesAt w' a' (n + 4) c' (sealed xs) ∧ Below w.heap.size w w' := by
  have HT := Lib.hid (twin h)
  have HH := Lib.hid h
  have hs := crcN_lt xs h.byte
  have HBX := Lib.hid h.byte
  have HS := Lib.hid hs
  clear h hs
  go_enter Tryz.func46, Tryz.ntmps46
  go_wp2_with fail
  refine HT.out.mono ?_
  rintro e w1 ⟨g, k, rfl, hg1, hg2, hown, hby, hb1⟩
  have HB1 := Lib.hid hb1
  have HR := Lib.hid (rsum_any (HH.out.kept hb1))
  have HO := Lib.hid hown
  clear hb1 hown hby
  go_wp2_with fail
  refine HR.out.mono ?_
  rintro e w2 ⟨rfl, rfl⟩
  go_wp2_with fail
  refine (four_any _ HS.out _).mono ?_
  rintro e w2 ⟨rfl, hb4, hb2⟩
  have HB2 := Lib.hid (HB1.out.trans (hb2.mono HB1.out.size))
  have HF := Lib.hid hb4
  have hgo := own_below HO.out hb2
  have hbs := HB2.out.size
  clear hb2 hb4
  go_wp2_with (at_builtin; refine wpList_append_bytes rfl (.tmp 4) (.tmp 7) rfl w.heap.size _ _ _ rfl hgo _ _ _ _ rfl HF.out (by omega) hbs ?_)
  intro v' w3 hown' hgrow
  have HB3 := Lib.hid (HB2.out.grown hgrow hbs (fun k hk => (hgo.lt k hk).1))
  have HO3 := Lib.hid hown'
  clear hown' hgrow hgo
  have hby : ∀ x ∈ xs ++ le (crcN xs) 4, x < 256 := by
    intro x hx
    rcases List.mem_append.1 hx with g | g
    · exact HBX.out x g
    · exact le_byte _ 4 x g
  obtain ⟨a', c', rfl, hba, hfa⟩ := BytesAt.ofOwn HO3.out hby (by omega)
  have HBA := Lib.hid hba
  clear hba hby
  go_wp2_with fail
  go_ret
  exact ⟨a', c', rfl, HBA.out, HB3.out⟩

set_option maxRecDepth 100000 in
set_option maxHeartbeats 1000000 in
theorem ropen_any {w : World} {a : Option Addr} {n c : Nat} {xs : List Nat} (h : BytesAt w a n c xs) (hn : n ≤ 1000000) :
    Calls Tryz.prog 58 #[.slice a n c] w fun e w' => ∃ a' m' c', e = .returned (.tuple #[.slice a' m' c', .int .i64 ((op xs).2 : Int)]) ∧ BytesAt w' a' m' c' (op xs).1 ∧ Below w.heap.size w w' := by
  have hlen := h.len
  have hempty : ∀ w, BytesAt w none 0 0 [] := fun w => BytesAt.empty w none 0 (by omega) (fun _ => rfl)
  have HEM := Lib.hid hempty
  have hcap := h.cap
  have hcm := h.capm
  have HL := Lib.hid hlen
  clear hempty hlen
  by_cases h4 : n < 4
  · have HO := Lib.hid (show op xs = ([], 3) by unfold op; rw [if_pos (by rw [HL.out]; exact h4)])
    have h4' : (n : Int) < 4 := by omega
    clear h
    go_enter Tryz.func58, Tryz.ntmps58
    go_wp2_with fail
    go_ret2
    rw [HO.out]
    exact ⟨none, 0, 0, rfl, HEM.out _, Below.refl _ _⟩
  · obtain ⟨m, rfl⟩ : ∃ m, n = m + 4 := ⟨n - 4, by omega⟩
    have e1 : IntKind.i64.wrap (((m + 4 : Nat) : Int) - 4) = (m : Int) := by rw [IntWalk.i64_in _ (by omega)]; omega
    have h4' : (4 : Int) ≤ ((m + 4 : Nat) : Int) := by omega
    have HU := Lib.hid (h.upto m (by omega))
    have HS := Lib.hid (rseal_any HU.out (by omega))
    have HH := Lib.hid h
    have ho : op xs = if sealed (xs.take m) = xs then (xs.take m, 0) else ([], 6) := by
      unfold op; rw [if_neg (by rw [HL.out]; omega), HL.out]; rfl
    have HO := Lib.hid ho
    clear h ho h4
    go_enter Tryz.func58, Tryz.ntmps58
    go_wp2_with fail
    refine HS.out.mono ?_
    rintro e w1 ⟨a1, c1, rfl, hb1, hbel1⟩
    have HB1 := Lib.hid hb1
    have HBE1 := Lib.hid hbel1
    clear hb1 hbel1
    go_wp2_with fail
    refine (same_any HB1.out (HH.out.kept HBE1.out)).mono ?_
    rintro e w2 ⟨rfl, rfl⟩
    by_cases heq : sealed (xs.take m) = xs
    · have hv : (sealed (xs.take m) == xs) = true := by rw [heq]; exact beq_self_eq_true _
      rw [hv]
      have HV := Lib.hid (show op xs = (xs.take m, 0) by rw [HO.out, if_pos heq])
      clear heq hv
      go_wp2_with fail
      refine (twin (HU.out.kept HBE1.out)).mono ?_
      rintro e w2 ⟨g, k, rfl, hg1, hg2, hown, hby, hb1⟩
      have HB2 := Lib.hid (HBE1.out.trans (hb1.mono HBE1.out.size))
      have HY := Lib.hid hby
      clear hown hby hb1
      go_wp2_with fail
      go_ret2
      rw [HV.out]
      exact ⟨_, _, _, rfl, HY.out, HB2.out⟩
    · have hv : (sealed (xs.take m) == xs) = false := by rw [beq_eq_false_iff_ne]; exact heq
      rw [hv]
      have HV := Lib.hid (show op xs = ([], 6) by rw [HO.out, if_neg heq])
      clear heq hv
      go_wp2_with fail
      go_ret2
      rw [HV.out]
      exact ⟨none, 0, 0, rfl, HEM.out _, HBE1.out⟩
end Go.Proofs.YtbdgcfimbblncaaGreatDoor
end PkMR13_0
section PkMR13_1
/- Manifests: the document's Decode of any bytes, walked. Written by genmfrd.py. -/
namespace Go.Proofs.YtbdgcfimbblncaaGreatDoor
open Go.RowKit NumsPlain LabPlain CrcPlain
set_option linter.unusedVariables false

set_option maxRecDepth 100000 in
set_option maxHeartbeats 16000000 in
theorem rdecode_any {w : World} {a : Option Addr} {n c : Nat} {ys : List Nat} (h : BytesAt w a n c ys) (hn : n ≤ 1000000) :
    Calls Tryz.prog 17 #[.slice a n c] w fun e w' => DecIs (op ys).1 (rdM (op ys).1 1099511627775 1099511627775 1099511627775 1099511627775 1099511627775) (op ys).2 e w' ∧ Below w.heap.size w w' := by
  obtain ⟨wa, hwa⟩ : ∃ wa, wa = w.alloc (.cells #[.int .i64 0, .int .i64 0, .int .i64 0, .slice none 0 0, .slice none 0 0, .slice none 0 0] 26) := ⟨_, rfl⟩
  have ba : Below w.heap.size w wa := by rw [hwa]; exact (Below.refl _ _).alloc (Nat.le_refl _) _
  have ga : wa.heap[w.heap.size]? = some (.cells #[.int .i64 0, .int .i64 0, .int .i64 0, .slice none 0 0, .slice none 0 0, .slice none 0 0] 26 (0, 0)) := by rw [hwa]; exact heap_alloc_new _ _
  have hop := ropen_any (h.kept ba) hn
  obtain ⟨xs, hxs⟩ : ∃ xs, xs = (op ys).1 := ⟨_, rfl⟩
  obtain ⟨er, her⟩ : ∃ er, er = (op ys).2 := ⟨_, rfl⟩
  rw [← hxs, ← her] at hop ⊢
  have HOP := Lib.hid hop
  have HBA := Lib.hid ba
  have HGA := Lib.hid ga
  have HWA := Lib.hid hwa
  clear h hn hwa ba ga hop hxs her
  go_enter Tryz.func17, Tryz.ntmps17
  go_wp2_with fail
  rw [← HWA.out]
  refine HOP.out.mono ?_
  rintro e w1 ⟨a1, m1, c1, rfl, hb1, hbl1⟩
  have HB1 := Lib.hid (HBA.out.trans (hbl1.mono HBA.out.size))
  have HR1 := Lib.hid ((hbl1.block w.heap.size (Array.getElem?_eq_some_iff.1 HGA.out).1).trans HGA.out)
  have HLR := Lib.hid (Array.getElem?_eq_some_iff.1 HR1.out).1
  by_cases her : er = 0
  case neg =>
    have z0 : ((er : Int) != 0) = true := by rw [bne_iff_ne]; omega
    have HER := Lib.hid her
    clear hb1 hbl1 her
    have rx0 : w1.cell? ⟨w.heap.size, 0, none⟩ = some (.int .i64 0) := cell_blk HR1.out rfl
    have rxf0 : w1.frozen? ⟨w.heap.size, 0, none⟩ = false := fro_blk HR1.out 0
    have rx1 : w1.cell? ⟨w.heap.size, 1, none⟩ = some (.int .i64 0) := cell_blk HR1.out rfl
    have rxf1 : w1.frozen? ⟨w.heap.size, 1, none⟩ = false := fro_blk HR1.out 1
    have rx2 : w1.cell? ⟨w.heap.size, 2, none⟩ = some (.int .i64 0) := cell_blk HR1.out rfl
    have rxf2 : w1.frozen? ⟨w.heap.size, 2, none⟩ = false := fro_blk HR1.out 2
    have rx3 : w1.cell? ⟨w.heap.size, 3, none⟩ = some (.slice none 0 0) := cell_blk HR1.out rfl
    have rxf3 : w1.frozen? ⟨w.heap.size, 3, none⟩ = false := fro_blk HR1.out 3
    have rx4 : w1.cell? ⟨w.heap.size, 4, none⟩ = some (.slice none 0 0) := cell_blk HR1.out rfl
    have rxf4 : w1.frozen? ⟨w.heap.size, 4, none⟩ = false := fro_blk HR1.out 4
    have rx5 : w1.cell? ⟨w.heap.size, 5, none⟩ = some (.slice none 0 0) := cell_blk HR1.out rfl
    have rxf5 : w1.frozen? ⟨w.heap.size, 5, none⟩ = false := fro_blk HR1.out 5
    go_wp2_with fail
    have hr9 := set6 HR1.out (.int .i64 0) (.int .i64 0) (.int .i64 0) (.slice none 0 0) (.slice none 0 0) (.slice none 0 0)
    refine bodyPost_ret (ret_cell_tmp rfl _ _ w.heap.size 26 #[.int .i64 0, .int .i64 0, .int .i64 0, .slice none 0 0, .slice none 0 0, .slice none 0 0] _ _ rfl hr9 Tryz.underlying26 rfl (by kernel_rfl)) rfl ?_
    exact ⟨.inl ⟨HER.out, rfl⟩, below6 HB1.out (Nat.le_refl _) _ _ _ _ _ _⟩

  subst her
  have z0 : (((0 : Nat) : Int) != 0) = false := by decide
  have HXL := Lib.hid hb1.len
  have HREA := Lib.hid (show xs.length ≤ 140737488351232 from by rw [hb1.len]; exact hb1.reach)
  obtain ⟨B, hB⟩ : ∃ B, B = w1.heap.size := ⟨_, rfl⟩
  obtain ⟨w2, hw2⟩ : ∃ w2, w2 = w1.alloc (.cells #[.slice a1 m1 c1, .int .i64 0, .int .i64 0] 88) := ⟨_, rfl⟩
  have b2 : Below w1.heap.size w1 w2 := by rw [hw2]; exact (Below.refl _ _).alloc (Nat.le_refl _) _
  have hc2 : CurAt 88 w2 B a1 m1 c1 xs 0 0 := ⟨by rw [hw2, hB]; exact heap_alloc_new _ _, hb1.kept b2, fun b off s hp ha => by
    obtain ⟨b', off', ha', hlt, _⟩ := hb1.cells hp
    rw [ha] at ha'
    cases ha'
    omega, Nat.zero_le _⟩
  have HB2 := Lib.hid (HB1.out.trans (b2.mono HB1.out.size))
  have HR2 := Lib.hid ((b2.block w.heap.size HLR.out).trans HR1.out)
  have HLO2 := Lib.hid hc2.lo
  have HBB := Lib.hid (show w.heap.size < B from by have := HLR.out; omega)
  have HCB := Lib.hid (rcb_any hc2 5 (by decide) (by decide))
  have HBE := Lib.hid hB
  have HW2 := Lib.hid hw2
  clear hB hw2 b2 hc2 hb1 hbl1
  go_wp2_with fail
  rw [← HW2.out, ← HBE.out]
  refine HCB.out.mono ?_
  rintro e w3 ⟨⟨a3, c3, rfl, hby⟩, hc3, hg3⟩
  obtain ⟨t0, ht0⟩ : ∃ t, t = cb xs 0 0 5 := ⟨_, rfl⟩
  rw [← ht0] at hby hc3 ⊢
  have hcv := hby.conv
  have HB3 := Lib.hid (HB2.out.grown hg3 HB2.out.size (fun k e => by cases e; exact Nat.le_of_lt HBB.out))
  have HR3 := Lib.hid ((hg3.block w.heap.size (Array.getElem?_eq_some_iff.1 HR2.out).1 (by intro e; cases e; exact absurd HBB.out (Nat.lt_irrefl _))).trans HR2.out)
  have HC3 := Lib.hid hc3
  have HT0 := Lib.hid ht0
  clear hc3 hg3 ht0 hby
  cases hh : hdB t0.1 with
  | false =>
    have z1 : ((bs t0.1).toList == [77, 65, 78, 73, 1]) = false := hh
    have z1b : ¬ (bs t0.1).toList = [77, 65, 78, 73, 1] := fun e => by unfold hdB at hh; rw [e] at hh; cases hh
    have z1c : ((bs t0.1).toList == (⟨#[77, 65, 78, 73, 1]⟩ : ByteArray).toList) = false := by rw [show (⟨#[77, 65, 78, 73, 1]⟩ : ByteArray).toList = [77, 65, 78, 73, 1] from by rw [ByteArray.toList_eq]]; exact hh
    have HNO := Lib.hid (show ¬ OkM xs (rdM xs 1099511627775 1099511627775 1099511627775 1099511627775 1099511627775) from fun q => absurd ((congrArg hdB (congrArg (·.1) HT0.out)).trans q.1) (by rw [hh]; decide))
    clear hh
    have rx0 : w3.cell? ⟨w.heap.size, 0, none⟩ = some (.int .i64 0) := cell_blk HR3.out rfl
    have rxf0 : w3.frozen? ⟨w.heap.size, 0, none⟩ = false := fro_blk HR3.out 0
    have rx1 : w3.cell? ⟨w.heap.size, 1, none⟩ = some (.int .i64 0) := cell_blk HR3.out rfl
    have rxf1 : w3.frozen? ⟨w.heap.size, 1, none⟩ = false := fro_blk HR3.out 1
    have rx2 : w3.cell? ⟨w.heap.size, 2, none⟩ = some (.int .i64 0) := cell_blk HR3.out rfl
    have rxf2 : w3.frozen? ⟨w.heap.size, 2, none⟩ = false := fro_blk HR3.out 2
    have rx3 : w3.cell? ⟨w.heap.size, 3, none⟩ = some (.slice none 0 0) := cell_blk HR3.out rfl
    have rxf3 : w3.frozen? ⟨w.heap.size, 3, none⟩ = false := fro_blk HR3.out 3
    have rx4 : w3.cell? ⟨w.heap.size, 4, none⟩ = some (.slice none 0 0) := cell_blk HR3.out rfl
    have rxf4 : w3.frozen? ⟨w.heap.size, 4, none⟩ = false := fro_blk HR3.out 4
    have rx5 : w3.cell? ⟨w.heap.size, 5, none⟩ = some (.slice none 0 0) := cell_blk HR3.out rfl
    have rxf5 : w3.frozen? ⟨w.heap.size, 5, none⟩ = false := fro_blk HR3.out 5
    go_wp2_with fail
    have hr9 := set6 HR3.out (.int .i64 0) (.int .i64 0) (.int .i64 0) (.slice none 0 0) (.slice none 0 0) (.slice none 0 0)
    refine bodyPost_ret (ret_cell_tmp rfl _ _ w.heap.size 26 #[.int .i64 0, .int .i64 0, .int .i64 0, .slice none 0 0, .slice none 0 0, .slice none 0 0] _ _ rfl hr9 Tryz.underlying26 rfl (by kernel_rfl)) rfl ?_
    exact ⟨.inr (.inl ⟨rfl, HNO.out, rfl⟩), below6 HB3.out (Nat.le_refl _) _ _ _ _ _ _⟩

  | true =>
  have z1b : (bs t0.1).toList = [77, 65, 78, 73, 1] := by unfold hdB at hh; rw [beq_iff_eq] at hh; exact hh
  have z1 : ((bs t0.1).toList == [77, 65, 78, 73, 1]) = true := hh
  have z1c : ((bs t0.1).toList == (⟨#[77, 65, 78, 73, 1]⟩ : ByteArray).toList) = true := by rw [show (⟨#[77, 65, 78, 73, 1]⟩ : ByteArray).toList = [77, 65, 78, 73, 1] from by rw [ByteArray.toList_eq]]; exact hh
  have HHH := Lib.hid hh
  clear hh
  obtain ⟨X, hX⟩ : ∃ X, X = w3.heap.size := ⟨_, rfl⟩
  obtain ⟨wx, hwx⟩ : ∃ wx, wx = w3.alloc (.cells #[.int .i64 0, .int .i64 0, .int .i64 0, .slice none 0 0, .slice none 0 0, .slice none 0 0] 26) := ⟨_, rfl⟩
  have bx : Below w3.heap.size w3 wx := by rw [hwx]; exact (Below.refl _ _).alloc (Nat.le_refl _) _
  have HXX := Lib.hid (show wx.heap[X]? = some (.cells #[.int .i64 0, .int .i64 0, .int .i64 0, .slice none 0 0, .slice none 0 0, .slice none 0 0] 26 (0, 0)) from by rw [hwx, hX]; exact heap_alloc_new _ _)
  have HLO := Lib.hid (show CurLow X a1 m1 B from by rw [hX]; exact HC3.out.lo)
  have HBX := Lib.hid (show B < X from HLO.out.1)
  have HCX := Lib.hid (HC3.out.keptB bx)
  have HBLX := Lib.hid (HB3.out.trans (bx.mono HB3.out.size))
  have HRX := Lib.hid ((bx.block w.heap.size (Array.getElem?_eq_some_iff.1 HR3.out).1).trans HR3.out)
  have HKX := Lib.hid (Kp.refl (N := X) (B := B) (X := X) (w := wx) (by rw [hX]; exact bx.size))
  obtain ⟨t1, ht1⟩ : ∃ t, t = ccn xs t0.2.1 t0.2.2 1099511627775 2 := ⟨_, rfl⟩
  have hn1 := rcn_any HCX.out 1099511627775 (by decide) (by decide)
  rw [← ht1] at hn1
  have HN1 := Lib.hid hn1
  have HT1 := Lib.hid ht1
  have HWX := Lib.hid hwx
  have HXE := Lib.hid hX
  clear hX hwx bx ht1 hn1
  go_wp2_with fail
  clear hcv
  rw [← HWX.out, ← HXE.out]
  refine HN1.out.mono ?_
  rintro r q1 ⟨rfl, hc, hg⟩
  have hx := (hg.block X (Array.getElem?_eq_some_iff.1 HXX.out).1 (by intro e; cases e; exact absurd HBX.out (Nat.lt_irrefl _))).trans HXX.out
  have HKq := Lib.hid ((HKX.out.grown hg (fun x e => by cases e; exact .inl rfl)).set (Y := X) (i := 0) (.inl rfl) (.int .i64 (t1.1 : Int)))
  have xc : q1.cell? ⟨X, 0, none⟩ = some (.int .i64 0) := cell_blk hx rfl
  have xf : q1.frozen? ⟨X, 0, none⟩ = false := fro_blk hx 0
  have HX1 := Lib.hid (show (q1.setCell ⟨X, 0, none⟩ (.int .i64 (t1.1 : Int))).heap[X]? = some (.cells #[.int .i64 (t1.1 : Int), .int .i64 0, .int .i64 0, .slice none 0 0, .slice none 0 0, .slice none 0 0] 26 (0, 0)) from heap_set hx 0 _)
  have HK1 := HKq
  have hcs : CurAt 88 (q1.setCell ⟨X, 0, none⟩ (.int .i64 (t1.1 : Int))) B a1 m1 c1 xs t1.2.1 t1.2.2 := hc.set (X := X) (j := 0) HLO.out (Nat.le_refl _) _
  obtain ⟨t2, ht⟩ : ∃ t, t = ccn xs t1.2.1 t1.2.2 1099511627775 2 := ⟨_, rfl⟩
  have hn := rcn_any hcs 1099511627775 (by decide) (by decide)
  rw [← ht] at hn
  have HN2 := Lib.hid hn
  have HT2 := Lib.hid ht
  clear hc hg hx HKq hcs hn ht
  go_wp2_with fail
  clear xc xf
  refine HN2.out.mono ?_
  rintro r q2 ⟨rfl, hc, hg⟩
  have hx := (hg.block X (Array.getElem?_eq_some_iff.1 HX1.out).1 (by intro e; cases e; exact absurd HBX.out (Nat.lt_irrefl _))).trans HX1.out
  have HKq := Lib.hid ((HK1.out.grown hg (fun x e => by cases e; exact .inl rfl)).set (Y := X) (i := 1) (.inl rfl) (.int .i64 (t2.1 : Int)))
  have xc : q2.cell? ⟨X, 1, none⟩ = some (.int .i64 0) := cell_blk hx rfl
  have xf : q2.frozen? ⟨X, 1, none⟩ = false := fro_blk hx 1
  have HX2 := Lib.hid (show (q2.setCell ⟨X, 1, none⟩ (.int .i64 (t2.1 : Int))).heap[X]? = some (.cells #[.int .i64 (t1.1 : Int), .int .i64 (t2.1 : Int), .int .i64 0, .slice none 0 0, .slice none 0 0, .slice none 0 0] 26 (0, 0)) from heap_set hx 1 _)
  have HK2 := HKq
  have hcs : CurAt 88 (q2.setCell ⟨X, 1, none⟩ (.int .i64 (t2.1 : Int))) B a1 m1 c1 xs t2.2.1 t2.2.2 := hc.set (X := X) (j := 1) HLO.out (Nat.le_refl _) _
  obtain ⟨t3, ht⟩ : ∃ t, t = ccn xs t2.2.1 t2.2.2 1099511627775 2 := ⟨_, rfl⟩
  have hn := rcn_any hcs 1099511627775 (by decide) (by decide)
  rw [← ht] at hn
  have HN3 := Lib.hid hn
  have HT3 := Lib.hid ht
  clear hc hg hx HKq hcs hn ht
  go_wp2_with fail
  clear xc xf
  refine HN3.out.mono ?_
  rintro r q3 ⟨rfl, hc, hg⟩
  have hx := (hg.block X (Array.getElem?_eq_some_iff.1 HX2.out).1 (by intro e; cases e; exact absurd HBX.out (Nat.lt_irrefl _))).trans HX2.out
  have HKq := Lib.hid ((HK2.out.grown hg (fun x e => by cases e; exact .inl rfl)).set (Y := X) (i := 2) (.inl rfl) (.int .i64 (t3.1 : Int)))
  have xc : q3.cell? ⟨X, 2, none⟩ = some (.int .i64 0) := cell_blk hx rfl
  have xf : q3.frozen? ⟨X, 2, none⟩ = false := fro_blk hx 2
  have HX3 := Lib.hid (show (q3.setCell ⟨X, 2, none⟩ (.int .i64 (t3.1 : Int))).heap[X]? = some (.cells #[.int .i64 (t1.1 : Int), .int .i64 (t2.1 : Int), .int .i64 (t3.1 : Int), .slice none 0 0, .slice none 0 0, .slice none 0 0] 26 (0, 0)) from heap_set hx 2 _)
  have HK3 := HKq
  have hcs : CurAt 88 (q3.setCell ⟨X, 2, none⟩ (.int .i64 (t3.1 : Int))) B a1 m1 c1 xs t3.2.1 t3.2.2 := hc.set (X := X) (j := 2) HLO.out (Nat.le_refl _) _
  obtain ⟨tE, ht⟩ : ∃ t, t = ccn xs t3.2.1 t3.2.2 256 2 := ⟨_, rfl⟩
  have hn := rcn_any hcs 256 (by decide) (by decide)
  rw [← ht] at hn
  have HN4 := Lib.hid hn
  have HTE := Lib.hid ht
  clear hc hg hx HKq hcs hn ht
  go_wp2_with fail
  clear xc xf
  refine HN4.out.mono ?_
  rintro r wE ⟨rfl, hc, hg⟩
  have HXbE := Lib.hid ((hg.block X (Array.getElem?_eq_some_iff.1 HX3.out).1 (by intro e; cases e; exact absurd HBX.out (Nat.lt_irrefl _))).trans HX3.out)
  have HKw := Lib.hid (HK3.out.grown hg (fun x e => by cases e; exact .inl rfl))
  have HRbE := Lib.hid ((HKw.out.old w.heap.size (by have h4 := HBX.out; have h5 := HBB.out; omega) (by have h5 := HBB.out; omega) (by have h4 := HBX.out; have h5 := HBB.out; omega)).trans HRX.out)
  have HBbE := Lib.hid (HKw.out.below HBLX.out (by have h4 := HBX.out; have h5 := HBB.out; omega) (by have h5 := HBB.out; omega) (by have h4 := HBX.out; have h5 := HBB.out; omega))
  clear HKw

  obtain ⟨neE, hne⟩ : ∃ z, z = tE.1 := ⟨_, rfl⟩
  obtain ⟨sE1, hs1⟩ : ∃ z, z = tE.2 := ⟨_, rfl⟩
  obtain ⟨vE, hvv⟩ : ∃ vE, vE = (fun s => enV xs 1099511627775 1099511627775 1099511627775 s) := ⟨_, rfl⟩
  obtain ⟨gE, hgg⟩ : ∃ gE, gE = (fun s => enS xs 1099511627775 1099511627775 1099511627775 s) := ⟨_, rfl⟩
  rw [← hs1] at hc
  rw [← hne]
  have HNME := Lib.hid (show (neE : Int) ≤ 256 from by rw [hne, HTE.out]; exact ccn_le (by decide))
  have HNEE := Lib.hid hne
  have HS1E := Lib.hid hs1
  have HVVE := Lib.hid hvv
  have HGGE := Lib.hid hgg
  obtain ⟨NE, hN⟩ : ∃ NE, NE = wE.heap.size := ⟨_, rfl⟩
  have HXNE := Lib.hid (show X < NE from by rw [hN]; exact (Array.getElem?_eq_some_iff.1 HXbE.out).1)
  have HO1 := Lib.hid (show wE.ownsRow NE 53 9 (.slice none 0 0) 0 (EntS.flat (vlK vE gE 0 sE1)) from World.ownsRow_nil _ _ _ _)
  have HC1 := Lib.hid (show CurAt 88 wE B a1 m1 c1 xs (stK gE 0 sE1).1 (stK gE 0 sE1).2 from hc)
  have HK1 := Lib.hid (Kp.refl (N := NE) (B := B) (X := X) (w := wE) (by rw [hN]; exact Nat.le_refl _))
  have HNSE := Lib.hid hN
  clear hc hg hne hs1 hvv hgg hN
  go_wp2_with fail
  go_loopw [10] (fun s10 wr => ∃ (j c9 : Nat) (a9 : Option Addr), j ≤ neE ∧ s10 = .int .i64 (j : Int) ∧ Hid (wr.ownsRow NE 53 9 (.slice a9 j c9) j (EntS.flat (vlK vE gE j sE1))) ∧ Hid (wr.heap[X]? = some (.cells #[.int .i64 (t1.1 : Int), .int .i64 (t2.1 : Int), .int .i64 (t3.1 : Int), .slice a9 j c9, .slice none 0 0, .slice none 0 0] 26 (0, 0))) ∧ Hid (CurAt 88 wr B a1 m1 c1 xs (stK gE j sE1).1 (stK gE j sE1).2) ∧ Hid (Kp NE B X wE wr)) (fun s10 _ => neE - (intOf s10).toNat)
  case atStart => exact ⟨0, 0, none, by omega, rfl, HO1, HXbE, HC1, HK1⟩
  case round =>
    clear HO1 HC1 HK1
    obtain ⟨j, c9, a9, hj, rfl, HO, HXC, HC, HK⟩ := hrel
    rename World => wr
    by_cases hjn : j < neE
    · have hji : (j : Int) < (neE : Int) := by omega
      have hj300 : j ≤ 300 := by have := HNME.out; omega
      obtain ⟨s, hs⟩ : ∃ s, s = stK gE j sE1 := ⟨_, rfl⟩
      rw [← hs] at HC
      obtain ⟨y0, hy0⟩ : ∃ t, t = ct xs s.1 s.2 40 := ⟨_, rfl⟩
      obtain ⟨y1, hy1⟩ : ∃ t, t = ccn xs y0.2.1 y0.2.2 1099511627775 2 := ⟨_, rfl⟩
      obtain ⟨y2, hy2⟩ : ∃ t, t = ct xs y1.2.1 y1.2.2 1024 := ⟨_, rfl⟩
      obtain ⟨y3, hy3⟩ : ∃ t, t = ccn xs y2.2.1 y2.2.2 1099511627775 2 := ⟨_, rfl⟩
      obtain ⟨y4, hy4⟩ : ∃ t, t = ccn xs y3.2.1 y3.2.2 1099511627775 2 := ⟨_, rfl⟩
      obtain ⟨y5, hy5⟩ : ∃ t, t = ccn xs y4.2.1 y4.2.2 1099511627775 2 := ⟨_, rfl⟩
      obtain ⟨y6, hy6⟩ : ∃ t, t = ccn xs y5.2.1 y5.2.2 1099511627775 2 := ⟨_, rfl⟩
      obtain ⟨y7, hy7⟩ : ∃ t, t = ccn xs y6.2.1 y6.2.2 4294967295 2 := ⟨_, rfl⟩
      obtain ⟨y8, hy8⟩ : ∃ t, t = ccn xs y7.2.1 y7.2.2 1099511627775 2 := ⟨_, rfl⟩
      have HV := Lib.hid (show vE s = ⟨bs y0.1, (y1.1 : Int), bs y2.1, (y3.1 : Int), (y4.1 : Int), (y5.1 : Int), (y6.1 : Int), (y7.1 : Int), (y8.1 : Int)⟩ ∧ gE s = y8.2 from by rw [HVVE.out, HGGE.out, hy8, hy7, hy6, hy5, hy4, hy3, hy2, hy1, hy0]; exact ⟨rfl, rfl⟩)
      have HU := Lib.hid (show (y7.1 : Int) ≤ 4294967295 from by rw [hy7]; exact ccn_le (by decide))
      have HOKX := Lib.hid (show ∀ W : World, EntS.ok W ⟨bs y0.1, (y1.1 : Int), bs y2.1, (y3.1 : Int), (y4.1 : Int), (y5.1 : Int), (y6.1 : Int), (y7.1 : Int), (y8.1 : Int)⟩ from fun W => by rw [← HV.out.1, HVVE.out]; exact enV_ok HREA.out)
      obtain ⟨Y, hY⟩ : ∃ Y, Y = wr.heap.size := ⟨_, rfl⟩
      obtain ⟨wy, hwy⟩ : ∃ wy, wy = wr.alloc (.cells #[.string { data := #[] }, .int .i64 0, .string { data := #[] }, .int .i64 0, .int .i64 0, .int .i64 0, .int .i64 0, .int .u32 0, .int .i64 0] 53) := ⟨_, rfl⟩
      have HD := Lib.hid (show Rd NE B X Y 53 wE #[.int .i64 (t1.1 : Int), .int .i64 (t2.1 : Int), .int .i64 (t3.1 : Int), .slice a9 j c9, .slice none 0 0, .slice none 0 0] #[.string { data := #[] }, .int .i64 0, .string { data := #[] }, .int .i64 0, .int .i64 0, .int .i64 0, .int .i64 0, .int .u32 0, .int .i64 0] 53 9 (.slice a9 j c9) j (EntS.flat (vlK vE gE j sE1)) a1 m1 c1 xs s wy from by rw [hwy, hY]; exact rd_start HBX.out HXNE.out HLO.out HC.out HXC.out HK.out HO.out)
      have hn := rct_any HD.out.cur 40 (by decide) (by decide)
      rw [← hy0] at hn
      have HN0 := Lib.hid hn
      have HY1 := Lib.hid hy1
      have HY2 := Lib.hid hy2
      have HY3 := Lib.hid hy3
      have HY4 := Lib.hid hy4
      have HY5 := Lib.hid hy5
      have HY6 := Lib.hid hy6
      have HY7 := Lib.hid hy7
      have HY8 := Lib.hid hy8
      have HSS := Lib.hid hs
      have HWY := Lib.hid hwy
      have HYE := Lib.hid hY
      clear hs hwy hY hn hy0 hy1 hy2 hy3 hy4 hy5 hy6 hy7 hy8
      go_wp2_with fail
      rw [← HWY.out, ← HYE.out]
      refine HN0.out.mono ?_
      rintro r q0 ⟨rfl, hc, hg⟩
      have HD0 := Lib.hid (show Rd NE B X Y 53 wE #[.int .i64 (t1.1 : Int), .int .i64 (t2.1 : Int), .int .i64 (t3.1 : Int), .slice a9 j c9, .slice none 0 0, .slice none 0 0] #[.string { data := #[] }, .int .i64 0, .string { data := #[] }, .int .i64 0, .int .i64 0, .int .i64 0, .int .i64 0, .int .u32 0, .int .i64 0] 53 9 (.slice a9 j c9) j (EntS.flat (vlK vE gE j sE1)) a1 m1 c1 xs y0.2 q0 from HD.out.call hc hg)
      have yc : q0.cell? ⟨Y, 0, none⟩ = some (.string { data := #[] }) := cell_blk HD0.out.y rfl
      have yf : q0.frozen? ⟨Y, 0, none⟩ = false := fro_blk HD0.out.y 0
      have HD := Lib.hid (show Rd NE B X Y 53 wE #[.int .i64 (t1.1 : Int), .int .i64 (t2.1 : Int), .int .i64 (t3.1 : Int), .slice a9 j c9, .slice none 0 0, .slice none 0 0] #[.string (bs y0.1), .int .i64 0, .string { data := #[] }, .int .i64 0, .int .i64 0, .int .i64 0, .int .i64 0, .int .u32 0, .int .i64 0] 53 9 (.slice a9 j c9) j (EntS.flat (vlK vE gE j sE1)) a1 m1 c1 xs y0.2 (q0.setCell ⟨Y, 0, none⟩ (.string (bs y0.1))) from HD0.out.set 0 _)
      have hn := rcn_any HD.out.cur 1099511627775 (by decide) (by decide)
      rw [← HY1.out] at hn
      have HN1 := Lib.hid hn
      clear hc hg hn HD0
      go_wp2_with fail
      clear yc yf
      refine HN1.out.mono ?_
      rintro r q1 ⟨rfl, hc, hg⟩
      have HD0 := Lib.hid (show Rd NE B X Y 53 wE #[.int .i64 (t1.1 : Int), .int .i64 (t2.1 : Int), .int .i64 (t3.1 : Int), .slice a9 j c9, .slice none 0 0, .slice none 0 0] #[.string (bs y0.1), .int .i64 0, .string { data := #[] }, .int .i64 0, .int .i64 0, .int .i64 0, .int .i64 0, .int .u32 0, .int .i64 0] 53 9 (.slice a9 j c9) j (EntS.flat (vlK vE gE j sE1)) a1 m1 c1 xs y1.2 q1 from HD.out.call hc hg)
      have yc : q1.cell? ⟨Y, 1, none⟩ = some (.int .i64 0) := cell_blk HD0.out.y rfl
      have yf : q1.frozen? ⟨Y, 1, none⟩ = false := fro_blk HD0.out.y 1
      have HD := Lib.hid (show Rd NE B X Y 53 wE #[.int .i64 (t1.1 : Int), .int .i64 (t2.1 : Int), .int .i64 (t3.1 : Int), .slice a9 j c9, .slice none 0 0, .slice none 0 0] #[.string (bs y0.1), .int .i64 (y1.1 : Int), .string { data := #[] }, .int .i64 0, .int .i64 0, .int .i64 0, .int .i64 0, .int .u32 0, .int .i64 0] 53 9 (.slice a9 j c9) j (EntS.flat (vlK vE gE j sE1)) a1 m1 c1 xs y1.2 (q1.setCell ⟨Y, 1, none⟩ (.int .i64 (y1.1 : Int))) from HD0.out.set 1 _)
      have hn := rct_any HD.out.cur 1024 (by decide) (by decide)
      rw [← HY2.out] at hn
      have HN2 := Lib.hid hn
      clear hc hg hn HD0
      go_wp2_with fail
      clear yc yf
      refine HN2.out.mono ?_
      rintro r q2 ⟨rfl, hc, hg⟩
      have HD0 := Lib.hid (show Rd NE B X Y 53 wE #[.int .i64 (t1.1 : Int), .int .i64 (t2.1 : Int), .int .i64 (t3.1 : Int), .slice a9 j c9, .slice none 0 0, .slice none 0 0] #[.string (bs y0.1), .int .i64 (y1.1 : Int), .string { data := #[] }, .int .i64 0, .int .i64 0, .int .i64 0, .int .i64 0, .int .u32 0, .int .i64 0] 53 9 (.slice a9 j c9) j (EntS.flat (vlK vE gE j sE1)) a1 m1 c1 xs y2.2 q2 from HD.out.call hc hg)
      have yc : q2.cell? ⟨Y, 2, none⟩ = some (.string { data := #[] }) := cell_blk HD0.out.y rfl
      have yf : q2.frozen? ⟨Y, 2, none⟩ = false := fro_blk HD0.out.y 2
      have HD := Lib.hid (show Rd NE B X Y 53 wE #[.int .i64 (t1.1 : Int), .int .i64 (t2.1 : Int), .int .i64 (t3.1 : Int), .slice a9 j c9, .slice none 0 0, .slice none 0 0] #[.string (bs y0.1), .int .i64 (y1.1 : Int), .string (bs y2.1), .int .i64 0, .int .i64 0, .int .i64 0, .int .i64 0, .int .u32 0, .int .i64 0] 53 9 (.slice a9 j c9) j (EntS.flat (vlK vE gE j sE1)) a1 m1 c1 xs y2.2 (q2.setCell ⟨Y, 2, none⟩ (.string (bs y2.1))) from HD0.out.set 2 _)
      have hn := rcn_any HD.out.cur 1099511627775 (by decide) (by decide)
      rw [← HY3.out] at hn
      have HN3 := Lib.hid hn
      clear hc hg hn HD0
      go_wp2_with fail
      clear yc yf
      refine HN3.out.mono ?_
      rintro r q3 ⟨rfl, hc, hg⟩
      have HD0 := Lib.hid (show Rd NE B X Y 53 wE #[.int .i64 (t1.1 : Int), .int .i64 (t2.1 : Int), .int .i64 (t3.1 : Int), .slice a9 j c9, .slice none 0 0, .slice none 0 0] #[.string (bs y0.1), .int .i64 (y1.1 : Int), .string (bs y2.1), .int .i64 0, .int .i64 0, .int .i64 0, .int .i64 0, .int .u32 0, .int .i64 0] 53 9 (.slice a9 j c9) j (EntS.flat (vlK vE gE j sE1)) a1 m1 c1 xs y3.2 q3 from HD.out.call hc hg)
      have yc : q3.cell? ⟨Y, 3, none⟩ = some (.int .i64 0) := cell_blk HD0.out.y rfl
      have yf : q3.frozen? ⟨Y, 3, none⟩ = false := fro_blk HD0.out.y 3
      have HD := Lib.hid (show Rd NE B X Y 53 wE #[.int .i64 (t1.1 : Int), .int .i64 (t2.1 : Int), .int .i64 (t3.1 : Int), .slice a9 j c9, .slice none 0 0, .slice none 0 0] #[.string (bs y0.1), .int .i64 (y1.1 : Int), .string (bs y2.1), .int .i64 (y3.1 : Int), .int .i64 0, .int .i64 0, .int .i64 0, .int .u32 0, .int .i64 0] 53 9 (.slice a9 j c9) j (EntS.flat (vlK vE gE j sE1)) a1 m1 c1 xs y3.2 (q3.setCell ⟨Y, 3, none⟩ (.int .i64 (y3.1 : Int))) from HD0.out.set 3 _)
      have hn := rcn_any HD.out.cur 1099511627775 (by decide) (by decide)
      rw [← HY4.out] at hn
      have HN4 := Lib.hid hn
      clear hc hg hn HD0
      go_wp2_with fail
      clear yc yf
      refine HN4.out.mono ?_
      rintro r q4 ⟨rfl, hc, hg⟩
      have HD0 := Lib.hid (show Rd NE B X Y 53 wE #[.int .i64 (t1.1 : Int), .int .i64 (t2.1 : Int), .int .i64 (t3.1 : Int), .slice a9 j c9, .slice none 0 0, .slice none 0 0] #[.string (bs y0.1), .int .i64 (y1.1 : Int), .string (bs y2.1), .int .i64 (y3.1 : Int), .int .i64 0, .int .i64 0, .int .i64 0, .int .u32 0, .int .i64 0] 53 9 (.slice a9 j c9) j (EntS.flat (vlK vE gE j sE1)) a1 m1 c1 xs y4.2 q4 from HD.out.call hc hg)
      have yc : q4.cell? ⟨Y, 4, none⟩ = some (.int .i64 0) := cell_blk HD0.out.y rfl
      have yf : q4.frozen? ⟨Y, 4, none⟩ = false := fro_blk HD0.out.y 4
      have HD := Lib.hid (show Rd NE B X Y 53 wE #[.int .i64 (t1.1 : Int), .int .i64 (t2.1 : Int), .int .i64 (t3.1 : Int), .slice a9 j c9, .slice none 0 0, .slice none 0 0] #[.string (bs y0.1), .int .i64 (y1.1 : Int), .string (bs y2.1), .int .i64 (y3.1 : Int), .int .i64 (y4.1 : Int), .int .i64 0, .int .i64 0, .int .u32 0, .int .i64 0] 53 9 (.slice a9 j c9) j (EntS.flat (vlK vE gE j sE1)) a1 m1 c1 xs y4.2 (q4.setCell ⟨Y, 4, none⟩ (.int .i64 (y4.1 : Int))) from HD0.out.set 4 _)
      have hn := rcn_any HD.out.cur 1099511627775 (by decide) (by decide)
      rw [← HY5.out] at hn
      have HN5 := Lib.hid hn
      clear hc hg hn HD0
      go_wp2_with fail
      clear yc yf
      refine HN5.out.mono ?_
      rintro r q5 ⟨rfl, hc, hg⟩
      have HD0 := Lib.hid (show Rd NE B X Y 53 wE #[.int .i64 (t1.1 : Int), .int .i64 (t2.1 : Int), .int .i64 (t3.1 : Int), .slice a9 j c9, .slice none 0 0, .slice none 0 0] #[.string (bs y0.1), .int .i64 (y1.1 : Int), .string (bs y2.1), .int .i64 (y3.1 : Int), .int .i64 (y4.1 : Int), .int .i64 0, .int .i64 0, .int .u32 0, .int .i64 0] 53 9 (.slice a9 j c9) j (EntS.flat (vlK vE gE j sE1)) a1 m1 c1 xs y5.2 q5 from HD.out.call hc hg)
      have yc : q5.cell? ⟨Y, 5, none⟩ = some (.int .i64 0) := cell_blk HD0.out.y rfl
      have yf : q5.frozen? ⟨Y, 5, none⟩ = false := fro_blk HD0.out.y 5
      have HD := Lib.hid (show Rd NE B X Y 53 wE #[.int .i64 (t1.1 : Int), .int .i64 (t2.1 : Int), .int .i64 (t3.1 : Int), .slice a9 j c9, .slice none 0 0, .slice none 0 0] #[.string (bs y0.1), .int .i64 (y1.1 : Int), .string (bs y2.1), .int .i64 (y3.1 : Int), .int .i64 (y4.1 : Int), .int .i64 (y5.1 : Int), .int .i64 0, .int .u32 0, .int .i64 0] 53 9 (.slice a9 j c9) j (EntS.flat (vlK vE gE j sE1)) a1 m1 c1 xs y5.2 (q5.setCell ⟨Y, 5, none⟩ (.int .i64 (y5.1 : Int))) from HD0.out.set 5 _)
      have hn := rcn_any HD.out.cur 1099511627775 (by decide) (by decide)
      rw [← HY6.out] at hn
      have HN6 := Lib.hid hn
      clear hc hg hn HD0
      go_wp2_with fail
      clear yc yf
      refine HN6.out.mono ?_
      rintro r q6 ⟨rfl, hc, hg⟩
      have HD0 := Lib.hid (show Rd NE B X Y 53 wE #[.int .i64 (t1.1 : Int), .int .i64 (t2.1 : Int), .int .i64 (t3.1 : Int), .slice a9 j c9, .slice none 0 0, .slice none 0 0] #[.string (bs y0.1), .int .i64 (y1.1 : Int), .string (bs y2.1), .int .i64 (y3.1 : Int), .int .i64 (y4.1 : Int), .int .i64 (y5.1 : Int), .int .i64 0, .int .u32 0, .int .i64 0] 53 9 (.slice a9 j c9) j (EntS.flat (vlK vE gE j sE1)) a1 m1 c1 xs y6.2 q6 from HD.out.call hc hg)
      have yc : q6.cell? ⟨Y, 6, none⟩ = some (.int .i64 0) := cell_blk HD0.out.y rfl
      have yf : q6.frozen? ⟨Y, 6, none⟩ = false := fro_blk HD0.out.y 6
      have HD := Lib.hid (show Rd NE B X Y 53 wE #[.int .i64 (t1.1 : Int), .int .i64 (t2.1 : Int), .int .i64 (t3.1 : Int), .slice a9 j c9, .slice none 0 0, .slice none 0 0] #[.string (bs y0.1), .int .i64 (y1.1 : Int), .string (bs y2.1), .int .i64 (y3.1 : Int), .int .i64 (y4.1 : Int), .int .i64 (y5.1 : Int), .int .i64 (y6.1 : Int), .int .u32 0, .int .i64 0] 53 9 (.slice a9 j c9) j (EntS.flat (vlK vE gE j sE1)) a1 m1 c1 xs y6.2 (q6.setCell ⟨Y, 6, none⟩ (.int .i64 (y6.1 : Int))) from HD0.out.set 6 _)
      have hn := rcn_any HD.out.cur 4294967295 (by decide) (by decide)
      rw [← HY7.out] at hn
      have HN7 := Lib.hid hn
      clear hc hg hn HD0
      go_wp2_with fail
      clear yc yf
      refine HN7.out.mono ?_
      rintro r q7 ⟨rfl, hc, hg⟩
      have HD0 := Lib.hid (show Rd NE B X Y 53 wE #[.int .i64 (t1.1 : Int), .int .i64 (t2.1 : Int), .int .i64 (t3.1 : Int), .slice a9 j c9, .slice none 0 0, .slice none 0 0] #[.string (bs y0.1), .int .i64 (y1.1 : Int), .string (bs y2.1), .int .i64 (y3.1 : Int), .int .i64 (y4.1 : Int), .int .i64 (y5.1 : Int), .int .i64 (y6.1 : Int), .int .u32 0, .int .i64 0] 53 9 (.slice a9 j c9) j (EntS.flat (vlK vE gE j sE1)) a1 m1 c1 xs y7.2 q7 from HD.out.call hc hg)
      have yc : q7.cell? ⟨Y, 7, none⟩ = some (.int .u32 0) := cell_blk HD0.out.y rfl
      have yf : q7.frozen? ⟨Y, 7, none⟩ = false := fro_blk HD0.out.y 7
      have HD := Lib.hid (show Rd NE B X Y 53 wE #[.int .i64 (t1.1 : Int), .int .i64 (t2.1 : Int), .int .i64 (t3.1 : Int), .slice a9 j c9, .slice none 0 0, .slice none 0 0] #[.string (bs y0.1), .int .i64 (y1.1 : Int), .string (bs y2.1), .int .i64 (y3.1 : Int), .int .i64 (y4.1 : Int), .int .i64 (y5.1 : Int), .int .i64 (y6.1 : Int), .int .u32 (y7.1 : Int), .int .i64 0] 53 9 (.slice a9 j c9) j (EntS.flat (vlK vE gE j sE1)) a1 m1 c1 xs y7.2 (q7.setCell ⟨Y, 7, none⟩ (.int .u32 (y7.1 : Int))) from HD0.out.set 7 _)
      have hw7 : (y7.1 : Int) % 4294967296 = (y7.1 : Int) := by have := HU.out; omega
      have hn := rcn_any HD.out.cur 1099511627775 (by decide) (by decide)
      rw [← HY8.out] at hn
      have HN8 := Lib.hid hn
      clear hc hg hn HD0
      go_wp2_with fail
      clear yc yf
      refine HN8.out.mono ?_
      rintro r q8 ⟨rfl, hc, hg⟩
      have HD0 := Lib.hid (show Rd NE B X Y 53 wE #[.int .i64 (t1.1 : Int), .int .i64 (t2.1 : Int), .int .i64 (t3.1 : Int), .slice a9 j c9, .slice none 0 0, .slice none 0 0] #[.string (bs y0.1), .int .i64 (y1.1 : Int), .string (bs y2.1), .int .i64 (y3.1 : Int), .int .i64 (y4.1 : Int), .int .i64 (y5.1 : Int), .int .i64 (y6.1 : Int), .int .u32 (y7.1 : Int), .int .i64 0] 53 9 (.slice a9 j c9) j (EntS.flat (vlK vE gE j sE1)) a1 m1 c1 xs y8.2 q8 from HD.out.call hc hg)
      have yc : q8.cell? ⟨Y, 8, none⟩ = some (.int .i64 0) := cell_blk HD0.out.y rfl
      have yf : q8.frozen? ⟨Y, 8, none⟩ = false := fro_blk HD0.out.y 8
      have HD := Lib.hid (show Rd NE B X Y 53 wE #[.int .i64 (t1.1 : Int), .int .i64 (t2.1 : Int), .int .i64 (t3.1 : Int), .slice a9 j c9, .slice none 0 0, .slice none 0 0] #[.string (bs y0.1), .int .i64 (y1.1 : Int), .string (bs y2.1), .int .i64 (y3.1 : Int), .int .i64 (y4.1 : Int), .int .i64 (y5.1 : Int), .int .i64 (y6.1 : Int), .int .u32 (y7.1 : Int), .int .i64 (y8.1 : Int)] 53 9 (.slice a9 j c9) j (EntS.flat (vlK vE gE j sE1)) a1 m1 c1 xs y8.2 (q8.setCell ⟨Y, 8, none⟩ (.int .i64 (y8.1 : Int))) from HD0.out.set 8 _)
      obtain ⟨wz, hwz⟩ : ∃ wz, wz = (q8.setCell ⟨Y, 8, none⟩ (.int .i64 (y8.1 : Int))) := ⟨_, rfl⟩
      have HDZ := Lib.hid (show Rd NE B X Y 53 wE #[.int .i64 (t1.1 : Int), .int .i64 (t2.1 : Int), .int .i64 (t3.1 : Int), .slice a9 j c9, .slice none 0 0, .slice none 0 0] #[.string (bs y0.1), .int .i64 (y1.1 : Int), .string (bs y2.1), .int .i64 (y3.1 : Int), .int .i64 (y4.1 : Int), .int .i64 (y5.1 : Int), .int .i64 (y6.1 : Int), .int .u32 (y7.1 : Int), .int .i64 (y8.1 : Int)] 53 9 (.slice a9 j c9) j (EntS.flat (vlK vE gE j sE1)) a1 m1 c1 xs y8.2 wz from by rw [hwz]; exact HD.out)
      have HWZ := Lib.hid hwz
      clear hc hg HD0 hwz
      have z09 : (q8.setCell ⟨Y, 8, none⟩ (.int .i64 (y8.1 : Int))).cell? ⟨Y, 0, none⟩ = some (.string (bs y0.1)) := cell_blk HD.out.y rfl
      have z19 : (q8.setCell ⟨Y, 8, none⟩ (.int .i64 (y8.1 : Int))).cell? ⟨Y, 1, none⟩ = some (.int .i64 (y1.1 : Int)) := cell_blk HD.out.y rfl
      have z29 : (q8.setCell ⟨Y, 8, none⟩ (.int .i64 (y8.1 : Int))).cell? ⟨Y, 2, none⟩ = some (.string (bs y2.1)) := cell_blk HD.out.y rfl
      have z39 : (q8.setCell ⟨Y, 8, none⟩ (.int .i64 (y8.1 : Int))).cell? ⟨Y, 3, none⟩ = some (.int .i64 (y3.1 : Int)) := cell_blk HD.out.y rfl
      have z49 : (q8.setCell ⟨Y, 8, none⟩ (.int .i64 (y8.1 : Int))).cell? ⟨Y, 4, none⟩ = some (.int .i64 (y4.1 : Int)) := cell_blk HD.out.y rfl
      have z59 : (q8.setCell ⟨Y, 8, none⟩ (.int .i64 (y8.1 : Int))).cell? ⟨Y, 5, none⟩ = some (.int .i64 (y5.1 : Int)) := cell_blk HD.out.y rfl
      have z69 : (q8.setCell ⟨Y, 8, none⟩ (.int .i64 (y8.1 : Int))).cell? ⟨Y, 6, none⟩ = some (.int .i64 (y6.1 : Int)) := cell_blk HD.out.y rfl
      have z79 : (q8.setCell ⟨Y, 8, none⟩ (.int .i64 (y8.1 : Int))).cell? ⟨Y, 7, none⟩ = some (.int .u32 (y7.1 : Int)) := cell_blk HD.out.y rfl
      have z89 : (q8.setCell ⟨Y, 8, none⟩ (.int .i64 (y8.1 : Int))).cell? ⟨Y, 8, none⟩ = some (.int .i64 (y8.1 : Int)) := cell_blk HD.out.y rfl
      have xp : (q8.setCell ⟨Y, 8, none⟩ (.int .i64 (y8.1 : Int))).cell? ⟨X, 3, none⟩ = some (.slice a9 j c9) := cell_blk HD.out.x rfl
      have HO3 := Lib.hid (HD.out.own.alloc (.cells #[.string (bs y0.1), .int .i64 (y1.1 : Int), .string (bs y2.1), .int .i64 (y3.1 : Int), .int .i64 (y4.1 : Int), .int .i64 (y5.1 : Int), .int .i64 (y6.1 : Int), .int .u32 (y7.1 : Int), .int .i64 (y8.1 : Int)] 53))
      have HV3 := Lib.hid (VecAt.ofOwn (S := EntS) (l := [⟨bs y0.1, (y1.1 : Int), bs y2.1, (y3.1 : Int), (y4.1 : Int), (y5.1 : Int), (y6.1 : Int), (y7.1 : Int), (y8.1 : Int)⟩]) (World.ownsRow_lit (base := (q8.setCell ⟨Y, 8, none⟩ (.int .i64 (y8.1 : Int))).heap.size) (e := 53) (size := 9) (q8.setCell ⟨Y, 8, none⟩ (.int .i64 (y8.1 : Int))) #[.string (bs y0.1), .int .i64 (y1.1 : Int), .string (bs y2.1), .int .i64 (y3.1 : Int), .int .i64 (y4.1 : Int), .int .i64 (y5.1 : Int), .int .i64 (y6.1 : Int), .int .u32 (y7.1 : Int), .int .i64 (y8.1 : Int)] 1 (Nat.le_refl _) (by unfold maxLen; omega) rfl) rfl (fun y hy => by rw [List.mem_singleton.1 hy]; exact HOKX.out _))
      have HS3 := Lib.hid (show NE ≤ ((q8.setCell ⟨Y, 8, none⟩ (.int .i64 (y8.1 : Int))).alloc (.cells #[.string (bs y0.1), .int .i64 (y1.1 : Int), .string (bs y2.1), .int .i64 (y3.1 : Int), .int .i64 (y4.1 : Int), .int .i64 (y5.1 : Int), .int .i64 (y6.1 : Int), .int .u32 (y7.1 : Int), .int .i64 (y8.1 : Int)] 53)).heap.size from Nat.le_trans (Nat.le_trans HD.out.kp.base HD.out.kp.size) ((Below.refl _ _).alloc (Nat.le_refl _) _).size)
      have hvq := HV3.out
      rw [show (q8.setCell ⟨Y, 8, none⟩ (.int .i64 (y8.1 : Int))).heap.size = q8.heap.size from by simp] at hvq
      have HV4 := Lib.hid hvq
      clear hvq
      go_wp2_with (at_builtin; first | refine wpList_append9E rfl (.tmp 89) (.tmp 91) rfl NE _ j _ rfl HO3.out _ 1 1 [⟨bs y0.1, (y1.1 : Int), bs y2.1, (y3.1 : Int), (y4.1 : Int), (y5.1 : Int), (y6.1 : Int), (y7.1 : Int), (y8.1 : Int)⟩] rfl HV4.out (by omega) HS3.out ?_ | refine wpList_append9E rfl (.tmp 89) (.tmp 91) rfl NE _ j _ rfl HO3.out _ 1 1 [⟨bs y0.1, (y1.1 : Int), bs y2.1, (y3.1 : Int), (y4.1 : Int), (y5.1 : Int), (y6.1 : Int), (y7.1 : Int), (y8.1 : Int)⟩] rfl HV3.out (by omega) HS3.out ?_)
      intro v4 w4 ho4 hg4
      rw [← HWZ.out] at hg4
      obtain ⟨hc4, hx4, hk4⟩ := HDZ.out.app hg4
      have ho4b : w4.ownsRow NE 53 9 v4 (j + 1) (EntS.flat (vlK vE gE (j + 1) sE1)) := by rw [vlK, ← HSS.out, HV.out.1]; exact ho4
      obtain ⟨a5, c5, rfl⟩ := own_slice9 ho4b
      obtain ⟨ho5, hx5, hc5, hk5⟩ := rd_put (s := y8.2) HXNE.out HLO.out hc4 hx4 hk4 ho4b 3 (.slice a5 (j + 1) c5)
      have hst : stK gE (j + 1) sE1 = y8.2 := by rw [stK, ← HSS.out]; exact HV.out.2
      have HO5 := Lib.hid ho5
      have HX5 := Lib.hid hx5
      have HC5 := Lib.hid (show CurAt 88 (w4.setCell ⟨X, 3, none⟩ (.slice a5 (j + 1) c5)) B a1 m1 c1 xs (stK gE (j + 1) sE1).1 (stK gE (j + 1) sE1).2 from by rw [hst]; exact hc5)
      have HK5 := Lib.hid hk5
      have xc : w4.cell? ⟨X, 3, none⟩ = some (.slice a9 j c9) := cell_blk hx4 rfl
      have xf : w4.frozen? ⟨X, 3, none⟩ = false := fro_blk hx4 3
      clear hc4 hx4 hk4 ho4b ho5 hx5 hc5 hk5 hst ho4 hg4 xp yc yf z09 z19 z29 z39 z49 z59 z69 z79 z89
      go_wp2_with fail
      go_roundw
      case rel => exact ⟨j + 1, c5, a5, by omega, by go_num, HO5, HX5, HC5, HK5⟩
      case measure => simp [intOf]; omega
    · skip
      obtain rfl : neE = j := by omega
      clear hjn
      obtain ⟨lE, hl⟩ : ∃ z, z = vlK vE gE neE sE1 := ⟨_, rfl⟩
      obtain ⟨stE, hst⟩ : ∃ z, z = stK gE neE sE1 := ⟨_, rfl⟩
      have HVWE := Lib.hid (VecAt.ofOwn (S := EntS) (l := vlK vE gE neE sE1) HO.out (vlK_len _ _ _ _) (fun x hx => by obtain ⟨t, rfl⟩ := vlK_mem hx; rw [HVVE.out]; exact enV_ok HREA.out))
      rw [← hl] at HVWE
      rw [← hst] at HC
      have HADE := Lib.hid (show ∀ b off s, a9 = some ⟨b, off, s⟩ → b < wr.heap.size ∧ b ≠ w.heap.size ∧ b ≠ B ∧ b ≠ X from fun b off s e => by
        have h1 := own_addr HO.out b off s e
        have h2 := (HO.out.lt b (by rw [e]; rfl)).2
        have h3 := HXNE.out
        have h4 := HBX.out
        have h5 := HBB.out
        omega)
      have HLE := Lib.hid hl
      have HSTE := Lib.hid hst
      have HREE := Lib.hid ((HK.out.old w.heap.size (by have h3 := HXNE.out; have h4 := HBX.out; have h5 := HBB.out; omega) (by have h5 := HBB.out; omega) (by have h4 := HBX.out; have h5 := HBB.out; omega)).trans HRbE.out)
      have HBEE := Lib.hid (HK.out.below HBbE.out (by have h3 := HXNE.out; have h4 := HBX.out; have h5 := HBB.out; omega) (by have h5 := HBB.out; omega) (by have h4 := HBX.out; have h5 := HBB.out; omega))

      clear hl hst
      obtain ⟨ea, hea⟩ : ∃ z, z = a9 := ⟨_, rfl⟩
      obtain ⟨ec, hec⟩ : ∃ z, z = c9 := ⟨_, rfl⟩
      rw [← hea, ← hec] at HVWE HXC
      rw [← hea] at HADE
      clear HO hea hec
      have HXWE := HXC
      obtain ⟨tM, ht⟩ : ∃ t, t = ccn xs stE.1 stE.2 64 2 := ⟨_, rfl⟩
      have hn := rcn_any HC.out 64 (by decide) (by decide)
      rw [← ht] at hn
      have HNM := Lib.hid hn
      have HTM := Lib.hid ht
      clear hn ht HC HK
      go_wp2_with fail
      refine HNM.out.mono ?_
      rintro r wM ⟨rfl, hc, hg⟩
      have HXbM := Lib.hid ((hg.block X (Array.getElem?_eq_some_iff.1 HXWE.out).1 (by intro e; cases e; exact absurd HBX.out (Nat.lt_irrefl _))).trans HXWE.out)
      have HRbM := Lib.hid ((hg.block w.heap.size (Array.getElem?_eq_some_iff.1 HREE.out).1 (by intro e; cases e; exact absurd HBB.out (Nat.lt_irrefl _))).trans HREE.out)
      have HBbM := Lib.hid (HBEE.out.grown hg HBEE.out.size (fun k e => by cases e; exact Nat.le_of_lt HBB.out))
      have HVEM := Lib.hid (HVWE.out.ob (Ob.of hg) (fun _ h => h) (fun b off s e => (HADE.out b off s e).2.2.1))
      have HALEM := Lib.hid (show ∀ b off s, ea = some ⟨b, off, s⟩ → b < wM.heap.size ∧ b ≠ B ∧ b ≠ X from fun b off s e => by have h1 := HADE.out b off s e; have h2 := hg.size; omega)

      obtain ⟨neM, hne⟩ : ∃ z, z = tM.1 := ⟨_, rfl⟩
      obtain ⟨sM1, hs1⟩ : ∃ z, z = tM.2 := ⟨_, rfl⟩
      obtain ⟨vM, hvv⟩ : ∃ vM, vM = (fun s => mkV xs 1099511627775 1099511627775 s) := ⟨_, rfl⟩
      obtain ⟨gM, hgg⟩ : ∃ gM, gM = (fun s => mkS xs 1099511627775 1099511627775 s) := ⟨_, rfl⟩
      rw [← hs1] at hc
      rw [← hne]
      have HNMM := Lib.hid (show (neM : Int) ≤ 64 from by rw [hne, HTM.out]; exact ccn_le (by decide))
      have HNEM := Lib.hid hne
      have HS1M := Lib.hid hs1
      have HVVM := Lib.hid hvv
      have HGGM := Lib.hid hgg
      obtain ⟨NM, hN⟩ : ∃ NM, NM = wM.heap.size := ⟨_, rfl⟩
      have HXNM := Lib.hid (show X < NM from by rw [hN]; exact (Array.getElem?_eq_some_iff.1 HXbM.out).1)
      have HO1 := Lib.hid (show wM.ownsRow NM 43 2 (.slice none 0 0) 0 (MarkS.flat (vlK vM gM 0 sM1)) from World.ownsRow_nil _ _ _ _)
      have HC1 := Lib.hid (show CurAt 88 wM B a1 m1 c1 xs (stK gM 0 sM1).1 (stK gM 0 sM1).2 from hc)
      have HK1 := Lib.hid (Kp.refl (N := NM) (B := B) (X := X) (w := wM) (by rw [hN]; exact Nat.le_refl _))
      have HNSM := Lib.hid hN
      clear hc hg hne hs1 hvv hgg hN
      go_wp2_with fail
      go_loopw [12] (fun s12 wr => ∃ (j c9 : Nat) (a9 : Option Addr), j ≤ neM ∧ s12 = .int .i64 (j : Int) ∧ Hid (wr.ownsRow NM 43 2 (.slice a9 j c9) j (MarkS.flat (vlK vM gM j sM1))) ∧ Hid (wr.heap[X]? = some (.cells #[.int .i64 (t1.1 : Int), .int .i64 (t2.1 : Int), .int .i64 (t3.1 : Int), .slice ea neE ec, .slice a9 j c9, .slice none 0 0] 26 (0, 0))) ∧ Hid (CurAt 88 wr B a1 m1 c1 xs (stK gM j sM1).1 (stK gM j sM1).2) ∧ Hid (Kp NM B X wM wr)) (fun s12 _ => neM - (intOf s12).toNat)
      case atStart => exact ⟨0, 0, none, by omega, rfl, HO1, HXbM, HC1, HK1⟩
      case round =>
        clear HO1 HC1 HK1
        obtain ⟨j, c9, a9, hj, rfl, HO, HXC, HC, HK⟩ := hrel
        rename World => wr
        by_cases hjn : j < neM
        · have hji : (j : Int) < (neM : Int) := by omega
          have hj300 : j ≤ 300 := by have := HNMM.out; omega
          obtain ⟨s, hs⟩ : ∃ s, s = stK gM j sM1 := ⟨_, rfl⟩
          rw [← hs] at HC
          obtain ⟨y0, hy0⟩ : ∃ t, t = ccn xs s.1 s.2 1099511627775 2 := ⟨_, rfl⟩
          obtain ⟨y1, hy1⟩ : ∃ t, t = ccn xs y0.2.1 y0.2.2 1099511627775 2 := ⟨_, rfl⟩
          have HV := Lib.hid (show vM s = ((y0.1 : Int), (y1.1 : Int)) ∧ gM s = y1.2 from by rw [HVVM.out, HGGM.out, hy1, hy0]; exact ⟨rfl, rfl⟩)
          obtain ⟨Y, hY⟩ : ∃ Y, Y = wr.heap.size := ⟨_, rfl⟩
          obtain ⟨wy, hwy⟩ : ∃ wy, wy = wr.alloc (.cells #[.int .i64 0, .int .i64 0] 43) := ⟨_, rfl⟩
          have HD := Lib.hid (show Rd NM B X Y 43 wM #[.int .i64 (t1.1 : Int), .int .i64 (t2.1 : Int), .int .i64 (t3.1 : Int), .slice ea neE ec, .slice a9 j c9, .slice none 0 0] #[.int .i64 0, .int .i64 0] 43 2 (.slice a9 j c9) j (MarkS.flat (vlK vM gM j sM1)) a1 m1 c1 xs s wy from by rw [hwy, hY]; exact rd_start HBX.out HXNM.out HLO.out HC.out HXC.out HK.out HO.out)
          have hn := rcn_any HD.out.cur 1099511627775 (by decide) (by decide)
          rw [← hy0] at hn
          have HN0 := Lib.hid hn
          have HY1 := Lib.hid hy1
          have HSS := Lib.hid hs
          have HWY := Lib.hid hwy
          have HYE := Lib.hid hY
          clear hs hwy hY hn hy0 hy1
          go_wp2_with fail
          rw [← HWY.out, ← HYE.out]
          refine HN0.out.mono ?_
          rintro r q0 ⟨rfl, hc, hg⟩
          have HD0 := Lib.hid (show Rd NM B X Y 43 wM #[.int .i64 (t1.1 : Int), .int .i64 (t2.1 : Int), .int .i64 (t3.1 : Int), .slice ea neE ec, .slice a9 j c9, .slice none 0 0] #[.int .i64 0, .int .i64 0] 43 2 (.slice a9 j c9) j (MarkS.flat (vlK vM gM j sM1)) a1 m1 c1 xs y0.2 q0 from HD.out.call hc hg)
          have yc : q0.cell? ⟨Y, 0, none⟩ = some (.int .i64 0) := cell_blk HD0.out.y rfl
          have yf : q0.frozen? ⟨Y, 0, none⟩ = false := fro_blk HD0.out.y 0
          have HD := Lib.hid (show Rd NM B X Y 43 wM #[.int .i64 (t1.1 : Int), .int .i64 (t2.1 : Int), .int .i64 (t3.1 : Int), .slice ea neE ec, .slice a9 j c9, .slice none 0 0] #[.int .i64 (y0.1 : Int), .int .i64 0] 43 2 (.slice a9 j c9) j (MarkS.flat (vlK vM gM j sM1)) a1 m1 c1 xs y0.2 (q0.setCell ⟨Y, 0, none⟩ (.int .i64 (y0.1 : Int))) from HD0.out.set 0 _)
          have hn := rcn_any HD.out.cur 1099511627775 (by decide) (by decide)
          rw [← HY1.out] at hn
          have HN1 := Lib.hid hn
          clear hc hg hn HD0
          go_wp2_with fail
          clear yc yf
          refine HN1.out.mono ?_
          rintro r q1 ⟨rfl, hc, hg⟩
          have HD0 := Lib.hid (show Rd NM B X Y 43 wM #[.int .i64 (t1.1 : Int), .int .i64 (t2.1 : Int), .int .i64 (t3.1 : Int), .slice ea neE ec, .slice a9 j c9, .slice none 0 0] #[.int .i64 (y0.1 : Int), .int .i64 0] 43 2 (.slice a9 j c9) j (MarkS.flat (vlK vM gM j sM1)) a1 m1 c1 xs y1.2 q1 from HD.out.call hc hg)
          have yc : q1.cell? ⟨Y, 1, none⟩ = some (.int .i64 0) := cell_blk HD0.out.y rfl
          have yf : q1.frozen? ⟨Y, 1, none⟩ = false := fro_blk HD0.out.y 1
          have HD := Lib.hid (show Rd NM B X Y 43 wM #[.int .i64 (t1.1 : Int), .int .i64 (t2.1 : Int), .int .i64 (t3.1 : Int), .slice ea neE ec, .slice a9 j c9, .slice none 0 0] #[.int .i64 (y0.1 : Int), .int .i64 (y1.1 : Int)] 43 2 (.slice a9 j c9) j (MarkS.flat (vlK vM gM j sM1)) a1 m1 c1 xs y1.2 (q1.setCell ⟨Y, 1, none⟩ (.int .i64 (y1.1 : Int))) from HD0.out.set 1 _)
          obtain ⟨wz, hwz⟩ : ∃ wz, wz = (q1.setCell ⟨Y, 1, none⟩ (.int .i64 (y1.1 : Int))) := ⟨_, rfl⟩
          have HDZ := Lib.hid (show Rd NM B X Y 43 wM #[.int .i64 (t1.1 : Int), .int .i64 (t2.1 : Int), .int .i64 (t3.1 : Int), .slice ea neE ec, .slice a9 j c9, .slice none 0 0] #[.int .i64 (y0.1 : Int), .int .i64 (y1.1 : Int)] 43 2 (.slice a9 j c9) j (MarkS.flat (vlK vM gM j sM1)) a1 m1 c1 xs y1.2 wz from by rw [hwz]; exact HD.out)
          have HWZ := Lib.hid hwz
          clear hc hg HD0 hwz
          have z09 : (q1.setCell ⟨Y, 1, none⟩ (.int .i64 (y1.1 : Int))).cell? ⟨Y, 0, none⟩ = some (.int .i64 (y0.1 : Int)) := cell_blk HD.out.y rfl
          have z19 : (q1.setCell ⟨Y, 1, none⟩ (.int .i64 (y1.1 : Int))).cell? ⟨Y, 1, none⟩ = some (.int .i64 (y1.1 : Int)) := cell_blk HD.out.y rfl
          have xp : (q1.setCell ⟨Y, 1, none⟩ (.int .i64 (y1.1 : Int))).cell? ⟨X, 4, none⟩ = some (.slice a9 j c9) := cell_blk HD.out.x rfl
          have HO3 := Lib.hid (HD.out.own.alloc (.cells #[.int .i64 (y0.1 : Int), .int .i64 (y1.1 : Int)] 43))
          have HV3 := Lib.hid (VecAt.ofOwn (S := MarkS) (l := [((y0.1 : Int), (y1.1 : Int))]) (World.ownsRow_lit (base := (q1.setCell ⟨Y, 1, none⟩ (.int .i64 (y1.1 : Int))).heap.size) (e := 43) (size := 2) (q1.setCell ⟨Y, 1, none⟩ (.int .i64 (y1.1 : Int))) #[.int .i64 (y0.1 : Int), .int .i64 (y1.1 : Int)] 1 (Nat.le_refl _) (by unfold maxLen; omega) rfl) rfl (fun _ _ => trivial))
          have HS3 := Lib.hid (show NM ≤ ((q1.setCell ⟨Y, 1, none⟩ (.int .i64 (y1.1 : Int))).alloc (.cells #[.int .i64 (y0.1 : Int), .int .i64 (y1.1 : Int)] 43)).heap.size from Nat.le_trans (Nat.le_trans HD.out.kp.base HD.out.kp.size) ((Below.refl _ _).alloc (Nat.le_refl _) _).size)
          have hvq := HV3.out
          rw [show (q1.setCell ⟨Y, 1, none⟩ (.int .i64 (y1.1 : Int))).heap.size = q1.heap.size from by simp] at hvq
          have HV4 := Lib.hid hvq
          clear hvq
          go_wp2_with (at_builtin; first | refine wpList_append9M rfl (.tmp 111) (.tmp 113) rfl NM _ j _ rfl HO3.out _ 1 1 [((y0.1 : Int), (y1.1 : Int))] rfl HV4.out (by omega) HS3.out ?_ | refine wpList_append9M rfl (.tmp 111) (.tmp 113) rfl NM _ j _ rfl HO3.out _ 1 1 [((y0.1 : Int), (y1.1 : Int))] rfl HV3.out (by omega) HS3.out ?_)
          intro v4 w4 ho4 hg4
          rw [← HWZ.out] at hg4
          obtain ⟨hc4, hx4, hk4⟩ := HDZ.out.app hg4
          have ho4b : w4.ownsRow NM 43 2 v4 (j + 1) (MarkS.flat (vlK vM gM (j + 1) sM1)) := by rw [vlK, ← HSS.out, HV.out.1]; exact ho4
          obtain ⟨a5, c5, rfl⟩ := own_slice9 ho4b
          obtain ⟨ho5, hx5, hc5, hk5⟩ := rd_put (s := y1.2) HXNM.out HLO.out hc4 hx4 hk4 ho4b 4 (.slice a5 (j + 1) c5)
          have hst : stK gM (j + 1) sM1 = y1.2 := by rw [stK, ← HSS.out]; exact HV.out.2
          have HO5 := Lib.hid ho5
          have HX5 := Lib.hid hx5
          have HC5 := Lib.hid (show CurAt 88 (w4.setCell ⟨X, 4, none⟩ (.slice a5 (j + 1) c5)) B a1 m1 c1 xs (stK gM (j + 1) sM1).1 (stK gM (j + 1) sM1).2 from by rw [hst]; exact hc5)
          have HK5 := Lib.hid hk5
          have xc : w4.cell? ⟨X, 4, none⟩ = some (.slice a9 j c9) := cell_blk hx4 rfl
          have xf : w4.frozen? ⟨X, 4, none⟩ = false := fro_blk hx4 4
          clear hc4 hx4 hk4 ho4b ho5 hx5 hc5 hk5 hst ho4 hg4 xp yc yf z09 z19
          go_wp2_with fail
          go_roundw
          case rel => exact ⟨j + 1, c5, a5, by omega, by go_num, HO5, HX5, HC5, HK5⟩
          case measure => simp [intOf]; omega
        · skip
          obtain rfl : neM = j := by omega
          clear hjn
          obtain ⟨lM, hl⟩ : ∃ z, z = vlK vM gM neM sM1 := ⟨_, rfl⟩
          obtain ⟨stM, hst⟩ : ∃ z, z = stK gM neM sM1 := ⟨_, rfl⟩
          have HVWM := Lib.hid (VecAt.ofOwn (S := MarkS) (l := vlK vM gM neM sM1) HO.out (vlK_len _ _ _ _) (fun _ _ => trivial))
          rw [← hl] at HVWM
          rw [← hst] at HC
          have HADM := Lib.hid (show ∀ b off s, a9 = some ⟨b, off, s⟩ → b < wr.heap.size ∧ b ≠ w.heap.size ∧ b ≠ B ∧ b ≠ X from fun b off s e => by
            have h1 := own_addr HO.out b off s e
            have h2 := (HO.out.lt b (by rw [e]; rfl)).2
            have h3 := HXNM.out
            have h4 := HBX.out
            have h5 := HBB.out
            omega)
          have HLM := Lib.hid hl
          have HSTM := Lib.hid hst
          have HREM := Lib.hid ((HK.out.old w.heap.size (by have h3 := HXNM.out; have h4 := HBX.out; have h5 := HBB.out; omega) (by have h5 := HBB.out; omega) (by have h4 := HBX.out; have h5 := HBB.out; omega)).trans HRbM.out)
          have HBEM := Lib.hid (HK.out.below HBbM.out (by have h3 := HXNM.out; have h4 := HBX.out; have h5 := HBB.out; omega) (by have h5 := HBB.out; omega) (by have h4 := HBX.out; have h5 := HBB.out; omega))
          have HVWE := Lib.hid (HVEM.out.kp HK.out (fun _ h => h) (fun b off s e => by have h1 := HALEM.out b off s e; have h2 := HNSM.out; omega))
          have HADE := Lib.hid (show ∀ b off s, ea = some ⟨b, off, s⟩ → b < wr.heap.size ∧ b ≠ w.heap.size ∧ b ≠ B ∧ b ≠ X from fun b off s e => by have h1 := HADE.out b off s e; have h2 := HALEM.out b off s e; have h3 := HK.out.size; omega)

          clear hl hst
          obtain ⟨ma, hea⟩ : ∃ z, z = a9 := ⟨_, rfl⟩
          obtain ⟨mc, hec⟩ : ∃ z, z = c9 := ⟨_, rfl⟩
          rw [← hea, ← hec] at HVWM HXC
          rw [← hea] at HADM
          clear HO hea hec
          have HXWM := HXC
          obtain ⟨tO, ht⟩ : ∃ t, t = ccn xs stM.1 stM.2 8 2 := ⟨_, rfl⟩
          have hn := rcn_any HC.out 8 (by decide) (by decide)
          rw [← ht] at hn
          have HNO := Lib.hid hn
          have HTO := Lib.hid ht
          clear hn ht HC HK
          go_wp2_with fail
          refine HNO.out.mono ?_
          rintro r wO ⟨rfl, hc, hg⟩
          have HXbO := Lib.hid ((hg.block X (Array.getElem?_eq_some_iff.1 HXWM.out).1 (by intro e; cases e; exact absurd HBX.out (Nat.lt_irrefl _))).trans HXWM.out)
          have HRbO := Lib.hid ((hg.block w.heap.size (Array.getElem?_eq_some_iff.1 HREM.out).1 (by intro e; cases e; exact absurd HBB.out (Nat.lt_irrefl _))).trans HREM.out)
          have HBbO := Lib.hid (HBEM.out.grown hg HBEM.out.size (fun k e => by cases e; exact Nat.le_of_lt HBB.out))
          have HVEO := Lib.hid (HVWE.out.ob (Ob.of hg) (fun _ h => h) (fun b off s e => (HADE.out b off s e).2.2.1))
          have HALEO := Lib.hid (show ∀ b off s, ea = some ⟨b, off, s⟩ → b < wO.heap.size ∧ b ≠ B ∧ b ≠ X from fun b off s e => by have h1 := HADE.out b off s e; have h2 := hg.size; omega)
          have HVMO := Lib.hid (HVWM.out.ob (Ob.of hg) (fun _ h => h) (fun b off s e => (HADM.out b off s e).2.2.1))
          have HALMO := Lib.hid (show ∀ b off s, ma = some ⟨b, off, s⟩ → b < wO.heap.size ∧ b ≠ B ∧ b ≠ X from fun b off s e => by have h1 := HADM.out b off s e; have h2 := hg.size; omega)

          obtain ⟨neO, hne⟩ : ∃ z, z = tO.1 := ⟨_, rfl⟩
          obtain ⟨sO1, hs1⟩ : ∃ z, z = tO.2 := ⟨_, rfl⟩
          obtain ⟨vO, hvv⟩ : ∃ vO, vO = (fun s => owV xs 1099511627775 1099511627775 s) := ⟨_, rfl⟩
          obtain ⟨gO, hgg⟩ : ∃ gO, gO = (fun s => owS xs 1099511627775 1099511627775 s) := ⟨_, rfl⟩
          rw [← hs1] at hc
          rw [← hne]
          have HNMO := Lib.hid (show (neO : Int) ≤ 8 from by rw [hne, HTO.out]; exact ccn_le (by decide))
          have HNEO := Lib.hid hne
          have HS1O := Lib.hid hs1
          have HVVO := Lib.hid hvv
          have HGGO := Lib.hid hgg
          obtain ⟨NO, hN⟩ : ∃ NO, NO = wO.heap.size := ⟨_, rfl⟩
          have HXNO := Lib.hid (show X < NO from by rw [hN]; exact (Array.getElem?_eq_some_iff.1 HXbO.out).1)
          have HO1 := Lib.hid (show wO.ownsRow NO 45 3 (.slice none 0 0) 0 (OwnS.flat (vlK vO gO 0 sO1)) from World.ownsRow_nil _ _ _ _)
          have HC1 := Lib.hid (show CurAt 88 wO B a1 m1 c1 xs (stK gO 0 sO1).1 (stK gO 0 sO1).2 from hc)
          have HK1 := Lib.hid (Kp.refl (N := NO) (B := B) (X := X) (w := wO) (by rw [hN]; exact Nat.le_refl _))
          have HNSO := Lib.hid hN
          clear hc hg hne hs1 hvv hgg hN
          go_wp2_with fail
          go_loopw [14] (fun s14 wr => ∃ (j c9 : Nat) (a9 : Option Addr), j ≤ neO ∧ s14 = .int .i64 (j : Int) ∧ Hid (wr.ownsRow NO 45 3 (.slice a9 j c9) j (OwnS.flat (vlK vO gO j sO1))) ∧ Hid (wr.heap[X]? = some (.cells #[.int .i64 (t1.1 : Int), .int .i64 (t2.1 : Int), .int .i64 (t3.1 : Int), .slice ea neE ec, .slice ma neM mc, .slice a9 j c9] 26 (0, 0))) ∧ Hid (CurAt 88 wr B a1 m1 c1 xs (stK gO j sO1).1 (stK gO j sO1).2) ∧ Hid (Kp NO B X wO wr)) (fun s14 _ => neO - (intOf s14).toNat)
          case atStart => exact ⟨0, 0, none, by omega, rfl, HO1, HXbO, HC1, HK1⟩
          case round =>
            clear HO1 HC1 HK1
            obtain ⟨j, c9, a9, hj, rfl, HO, HXC, HC, HK⟩ := hrel
            rename World => wr
            by_cases hjn : j < neO
            · have hji : (j : Int) < (neO : Int) := by omega
              have hj300 : j ≤ 300 := by have := HNMO.out; omega
              obtain ⟨s, hs⟩ : ∃ s, s = stK gO j sO1 := ⟨_, rfl⟩
              rw [← hs] at HC
              obtain ⟨y0, hy0⟩ : ∃ t, t = ccn xs s.1 s.2 1099511627775 2 := ⟨_, rfl⟩
              obtain ⟨y1, hy1⟩ : ∃ t, t = ccn xs y0.2.1 y0.2.2 1099511627775 2 := ⟨_, rfl⟩
              obtain ⟨y2, hy2⟩ : ∃ t, t = ccn xs y1.2.1 y1.2.2 1099511627775 2 := ⟨_, rfl⟩
              have HV := Lib.hid (show vO s = ((y0.1 : Int), (y1.1 : Int), (y2.1 : Int)) ∧ gO s = y2.2 from by rw [HVVO.out, HGGO.out, hy2, hy1, hy0]; exact ⟨rfl, rfl⟩)
              obtain ⟨Y, hY⟩ : ∃ Y, Y = wr.heap.size := ⟨_, rfl⟩
              obtain ⟨wy, hwy⟩ : ∃ wy, wy = wr.alloc (.cells #[.int .i64 0, .int .i64 0, .int .i64 0] 45) := ⟨_, rfl⟩
              have HD := Lib.hid (show Rd NO B X Y 45 wO #[.int .i64 (t1.1 : Int), .int .i64 (t2.1 : Int), .int .i64 (t3.1 : Int), .slice ea neE ec, .slice ma neM mc, .slice a9 j c9] #[.int .i64 0, .int .i64 0, .int .i64 0] 45 3 (.slice a9 j c9) j (OwnS.flat (vlK vO gO j sO1)) a1 m1 c1 xs s wy from by rw [hwy, hY]; exact rd_start HBX.out HXNO.out HLO.out HC.out HXC.out HK.out HO.out)
              have hn := rcn_any HD.out.cur 1099511627775 (by decide) (by decide)
              rw [← hy0] at hn
              have HN0 := Lib.hid hn
              have HY1 := Lib.hid hy1
              have HY2 := Lib.hid hy2
              have HSS := Lib.hid hs
              have HWY := Lib.hid hwy
              have HYE := Lib.hid hY
              clear hs hwy hY hn hy0 hy1 hy2
              go_wp2_with fail
              rw [← HWY.out, ← HYE.out]
              refine HN0.out.mono ?_
              rintro r q0 ⟨rfl, hc, hg⟩
              have HD0 := Lib.hid (show Rd NO B X Y 45 wO #[.int .i64 (t1.1 : Int), .int .i64 (t2.1 : Int), .int .i64 (t3.1 : Int), .slice ea neE ec, .slice ma neM mc, .slice a9 j c9] #[.int .i64 0, .int .i64 0, .int .i64 0] 45 3 (.slice a9 j c9) j (OwnS.flat (vlK vO gO j sO1)) a1 m1 c1 xs y0.2 q0 from HD.out.call hc hg)
              have yc : q0.cell? ⟨Y, 0, none⟩ = some (.int .i64 0) := cell_blk HD0.out.y rfl
              have yf : q0.frozen? ⟨Y, 0, none⟩ = false := fro_blk HD0.out.y 0
              have HD := Lib.hid (show Rd NO B X Y 45 wO #[.int .i64 (t1.1 : Int), .int .i64 (t2.1 : Int), .int .i64 (t3.1 : Int), .slice ea neE ec, .slice ma neM mc, .slice a9 j c9] #[.int .i64 (y0.1 : Int), .int .i64 0, .int .i64 0] 45 3 (.slice a9 j c9) j (OwnS.flat (vlK vO gO j sO1)) a1 m1 c1 xs y0.2 (q0.setCell ⟨Y, 0, none⟩ (.int .i64 (y0.1 : Int))) from HD0.out.set 0 _)
              have hn := rcn_any HD.out.cur 1099511627775 (by decide) (by decide)
              rw [← HY1.out] at hn
              have HN1 := Lib.hid hn
              clear hc hg hn HD0
              go_wp2_with fail
              clear yc yf
              refine HN1.out.mono ?_
              rintro r q1 ⟨rfl, hc, hg⟩
              have HD0 := Lib.hid (show Rd NO B X Y 45 wO #[.int .i64 (t1.1 : Int), .int .i64 (t2.1 : Int), .int .i64 (t3.1 : Int), .slice ea neE ec, .slice ma neM mc, .slice a9 j c9] #[.int .i64 (y0.1 : Int), .int .i64 0, .int .i64 0] 45 3 (.slice a9 j c9) j (OwnS.flat (vlK vO gO j sO1)) a1 m1 c1 xs y1.2 q1 from HD.out.call hc hg)
              have yc : q1.cell? ⟨Y, 1, none⟩ = some (.int .i64 0) := cell_blk HD0.out.y rfl
              have yf : q1.frozen? ⟨Y, 1, none⟩ = false := fro_blk HD0.out.y 1
              have HD := Lib.hid (show Rd NO B X Y 45 wO #[.int .i64 (t1.1 : Int), .int .i64 (t2.1 : Int), .int .i64 (t3.1 : Int), .slice ea neE ec, .slice ma neM mc, .slice a9 j c9] #[.int .i64 (y0.1 : Int), .int .i64 (y1.1 : Int), .int .i64 0] 45 3 (.slice a9 j c9) j (OwnS.flat (vlK vO gO j sO1)) a1 m1 c1 xs y1.2 (q1.setCell ⟨Y, 1, none⟩ (.int .i64 (y1.1 : Int))) from HD0.out.set 1 _)
              have hn := rcn_any HD.out.cur 1099511627775 (by decide) (by decide)
              rw [← HY2.out] at hn
              have HN2 := Lib.hid hn
              clear hc hg hn HD0
              go_wp2_with fail
              clear yc yf
              refine HN2.out.mono ?_
              rintro r q2 ⟨rfl, hc, hg⟩
              have HD0 := Lib.hid (show Rd NO B X Y 45 wO #[.int .i64 (t1.1 : Int), .int .i64 (t2.1 : Int), .int .i64 (t3.1 : Int), .slice ea neE ec, .slice ma neM mc, .slice a9 j c9] #[.int .i64 (y0.1 : Int), .int .i64 (y1.1 : Int), .int .i64 0] 45 3 (.slice a9 j c9) j (OwnS.flat (vlK vO gO j sO1)) a1 m1 c1 xs y2.2 q2 from HD.out.call hc hg)
              have yc : q2.cell? ⟨Y, 2, none⟩ = some (.int .i64 0) := cell_blk HD0.out.y rfl
              have yf : q2.frozen? ⟨Y, 2, none⟩ = false := fro_blk HD0.out.y 2
              have HD := Lib.hid (show Rd NO B X Y 45 wO #[.int .i64 (t1.1 : Int), .int .i64 (t2.1 : Int), .int .i64 (t3.1 : Int), .slice ea neE ec, .slice ma neM mc, .slice a9 j c9] #[.int .i64 (y0.1 : Int), .int .i64 (y1.1 : Int), .int .i64 (y2.1 : Int)] 45 3 (.slice a9 j c9) j (OwnS.flat (vlK vO gO j sO1)) a1 m1 c1 xs y2.2 (q2.setCell ⟨Y, 2, none⟩ (.int .i64 (y2.1 : Int))) from HD0.out.set 2 _)
              obtain ⟨wz, hwz⟩ : ∃ wz, wz = (q2.setCell ⟨Y, 2, none⟩ (.int .i64 (y2.1 : Int))) := ⟨_, rfl⟩
              have HDZ := Lib.hid (show Rd NO B X Y 45 wO #[.int .i64 (t1.1 : Int), .int .i64 (t2.1 : Int), .int .i64 (t3.1 : Int), .slice ea neE ec, .slice ma neM mc, .slice a9 j c9] #[.int .i64 (y0.1 : Int), .int .i64 (y1.1 : Int), .int .i64 (y2.1 : Int)] 45 3 (.slice a9 j c9) j (OwnS.flat (vlK vO gO j sO1)) a1 m1 c1 xs y2.2 wz from by rw [hwz]; exact HD.out)
              have HWZ := Lib.hid hwz
              clear hc hg HD0 hwz
              have z09 : (q2.setCell ⟨Y, 2, none⟩ (.int .i64 (y2.1 : Int))).cell? ⟨Y, 0, none⟩ = some (.int .i64 (y0.1 : Int)) := cell_blk HD.out.y rfl
              have z19 : (q2.setCell ⟨Y, 2, none⟩ (.int .i64 (y2.1 : Int))).cell? ⟨Y, 1, none⟩ = some (.int .i64 (y1.1 : Int)) := cell_blk HD.out.y rfl
              have z29 : (q2.setCell ⟨Y, 2, none⟩ (.int .i64 (y2.1 : Int))).cell? ⟨Y, 2, none⟩ = some (.int .i64 (y2.1 : Int)) := cell_blk HD.out.y rfl
              have xp : (q2.setCell ⟨Y, 2, none⟩ (.int .i64 (y2.1 : Int))).cell? ⟨X, 5, none⟩ = some (.slice a9 j c9) := cell_blk HD.out.x rfl
              have HO3 := Lib.hid (HD.out.own.alloc (.cells #[.int .i64 (y0.1 : Int), .int .i64 (y1.1 : Int), .int .i64 (y2.1 : Int)] 45))
              have HV3 := Lib.hid (VecAt.ofOwn (S := OwnS) (l := [((y0.1 : Int), (y1.1 : Int), (y2.1 : Int))]) (World.ownsRow_lit (base := (q2.setCell ⟨Y, 2, none⟩ (.int .i64 (y2.1 : Int))).heap.size) (e := 45) (size := 3) (q2.setCell ⟨Y, 2, none⟩ (.int .i64 (y2.1 : Int))) #[.int .i64 (y0.1 : Int), .int .i64 (y1.1 : Int), .int .i64 (y2.1 : Int)] 1 (Nat.le_refl _) (by unfold maxLen; omega) rfl) rfl (fun _ _ => trivial))
              have HS3 := Lib.hid (show NO ≤ ((q2.setCell ⟨Y, 2, none⟩ (.int .i64 (y2.1 : Int))).alloc (.cells #[.int .i64 (y0.1 : Int), .int .i64 (y1.1 : Int), .int .i64 (y2.1 : Int)] 45)).heap.size from Nat.le_trans (Nat.le_trans HD.out.kp.base HD.out.kp.size) ((Below.refl _ _).alloc (Nat.le_refl _) _).size)
              have hvq := HV3.out
              rw [show (q2.setCell ⟨Y, 2, none⟩ (.int .i64 (y2.1 : Int))).heap.size = q2.heap.size from by simp] at hvq
              have HV4 := Lib.hid hvq
              clear hvq
              go_wp2_with (at_builtin; first | refine wpList_append9O rfl (.tmp 137) (.tmp 139) rfl NO _ j _ rfl HO3.out _ 1 1 [((y0.1 : Int), (y1.1 : Int), (y2.1 : Int))] rfl HV4.out (by omega) HS3.out ?_ | refine wpList_append9O rfl (.tmp 137) (.tmp 139) rfl NO _ j _ rfl HO3.out _ 1 1 [((y0.1 : Int), (y1.1 : Int), (y2.1 : Int))] rfl HV3.out (by omega) HS3.out ?_)
              intro v4 w4 ho4 hg4
              rw [← HWZ.out] at hg4
              obtain ⟨hc4, hx4, hk4⟩ := HDZ.out.app hg4
              have ho4b : w4.ownsRow NO 45 3 v4 (j + 1) (OwnS.flat (vlK vO gO (j + 1) sO1)) := by rw [vlK, ← HSS.out, HV.out.1]; exact ho4
              obtain ⟨a5, c5, rfl⟩ := own_slice9 ho4b
              obtain ⟨ho5, hx5, hc5, hk5⟩ := rd_put (s := y2.2) HXNO.out HLO.out hc4 hx4 hk4 ho4b 5 (.slice a5 (j + 1) c5)
              have hst : stK gO (j + 1) sO1 = y2.2 := by rw [stK, ← HSS.out]; exact HV.out.2
              have HO5 := Lib.hid ho5
              have HX5 := Lib.hid hx5
              have HC5 := Lib.hid (show CurAt 88 (w4.setCell ⟨X, 5, none⟩ (.slice a5 (j + 1) c5)) B a1 m1 c1 xs (stK gO (j + 1) sO1).1 (stK gO (j + 1) sO1).2 from by rw [hst]; exact hc5)
              have HK5 := Lib.hid hk5
              have xc : w4.cell? ⟨X, 5, none⟩ = some (.slice a9 j c9) := cell_blk hx4 rfl
              have xf : w4.frozen? ⟨X, 5, none⟩ = false := fro_blk hx4 5
              clear hc4 hx4 hk4 ho4b ho5 hx5 hc5 hk5 hst ho4 hg4 xp yc yf z09 z19 z29
              go_wp2_with fail
              go_roundw
              case rel => exact ⟨j + 1, c5, a5, by omega, by go_num, HO5, HX5, HC5, HK5⟩
              case measure => simp [intOf]; omega
            · skip
              obtain rfl : neO = j := by omega
              clear hjn
              obtain ⟨lO, hl⟩ : ∃ z, z = vlK vO gO neO sO1 := ⟨_, rfl⟩
              obtain ⟨stO, hst⟩ : ∃ z, z = stK gO neO sO1 := ⟨_, rfl⟩
              have HVWO := Lib.hid (VecAt.ofOwn (S := OwnS) (l := vlK vO gO neO sO1) HO.out (vlK_len _ _ _ _) (fun _ _ => trivial))
              rw [← hl] at HVWO
              rw [← hst] at HC
              have HADO := Lib.hid (show ∀ b off s, a9 = some ⟨b, off, s⟩ → b < wr.heap.size ∧ b ≠ w.heap.size ∧ b ≠ B ∧ b ≠ X from fun b off s e => by
                have h1 := own_addr HO.out b off s e
                have h2 := (HO.out.lt b (by rw [e]; rfl)).2
                have h3 := HXNO.out
                have h4 := HBX.out
                have h5 := HBB.out
                omega)
              have HLO_ := Lib.hid hl
              have HSTO := Lib.hid hst
              have HREO := Lib.hid ((HK.out.old w.heap.size (by have h3 := HXNO.out; have h4 := HBX.out; have h5 := HBB.out; omega) (by have h5 := HBB.out; omega) (by have h4 := HBX.out; have h5 := HBB.out; omega)).trans HRbO.out)
              have HBEO := Lib.hid (HK.out.below HBbO.out (by have h3 := HXNO.out; have h4 := HBX.out; have h5 := HBB.out; omega) (by have h5 := HBB.out; omega) (by have h4 := HBX.out; have h5 := HBB.out; omega))
              have HVWE := Lib.hid (HVEO.out.kp HK.out (fun _ h => h) (fun b off s e => by have h1 := HALEO.out b off s e; have h2 := HNSO.out; omega))
              have HADE := Lib.hid (show ∀ b off s, ea = some ⟨b, off, s⟩ → b < wr.heap.size ∧ b ≠ w.heap.size ∧ b ≠ B ∧ b ≠ X from fun b off s e => by have h1 := HADE.out b off s e; have h2 := HALEO.out b off s e; have h3 := HK.out.size; omega)
              have HVWM := Lib.hid (HVMO.out.kp HK.out (fun _ h => h) (fun b off s e => by have h1 := HALMO.out b off s e; have h2 := HNSO.out; omega))
              have HADM := Lib.hid (show ∀ b off s, ma = some ⟨b, off, s⟩ → b < wr.heap.size ∧ b ≠ w.heap.size ∧ b ≠ B ∧ b ≠ X from fun b off s e => by have h1 := HADM.out b off s e; have h2 := HALMO.out b off s e; have h3 := HK.out.size; omega)

              clear hl hst
              obtain ⟨oa, hea⟩ : ∃ z, z = a9 := ⟨_, rfl⟩
              obtain ⟨oc, hec⟩ : ∃ z, z = c9 := ⟨_, rfl⟩
              rw [← hea, ← hec] at HVWO HXC
              rw [← hea] at HADO
              clear HO hea hec
              have HXWO := HXC
              obtain ⟨ce, hce⟩ : ∃ ce, ce = cend m1 stO.1 stO.2 := ⟨_, rfl⟩
              have hend := rend_any HC.out
              rw [← hce] at hend
              have HEND := Lib.hid hend
              have HCE := Lib.hid (show cend xs.length stO.1 stO.2 = ce from by rw [HXL.out]; exact hce.symm)
              have HRD := Lib.hid (show rdM xs 1099511627775 1099511627775 1099511627775 1099511627775 1099511627775 = ⟨t0.1, t1.1, t2.1, t3.1, neE, lE, neM, lM, neO, lO, stO⟩ from by
                rw [HSTO.out, HLO_.out, HNEO.out, HS1O.out, HTO.out, HLM.out, HNEM.out, HSTM.out, HNEM.out, HS1M.out, HTM.out, HLE.out, HSTE.out, HNEE.out, HS1E.out, HTE.out, HT3.out, HT2.out, HT1.out, HT0.out, HVVO.out, HGGO.out, HVVM.out, HGGM.out, HVVE.out, HGGE.out]
                rfl)
              have HPS := Lib.hid (show ∀ x ∈ lE, x.part.size ≤ 1300 from fun x hx => by
                rw [HLE.out] at hx
                obtain ⟨t, rfl⟩ := vlK_mem hx
                rw [HVVE.out]
                have := (en_sizes xs 1099511627775 1099511627775 1099511627775 t).2
                show (enV xs 1099511627775 1099511627775 1099511627775 t).part.size ≤ 1300
                omega)
              have HSW := Lib.hid (Array.getElem?_eq_some_iff.1 HXWO.out).1
              clear hce hend HC HK
              go_wp2_with fail
              refine HEND.out.mono ?_
              rintro e w9 ⟨rfl, qq, hw9⟩
              have hd9 : Below wr.heap.size wr w9 := by rw [hw9]; exact ⟨rfl, rfl, rfl, Nat.le_refl _, fun _ _ => rfl⟩
              have HX9 := Lib.hid ((hd9.block X HSW.out).trans HXWO.out)
              have HB9 := Lib.hid (HBEO.out.trans (hd9.mono HBEO.out.size))
              have HR9 := Lib.hid ((hd9.block w.heap.size (Array.getElem?_eq_some_iff.1 HREO.out).1).trans HREO.out)
              have HVE9 := Lib.hid (HVWE.out.kept hd9)
              have HVM9 := Lib.hid (HVWM.out.kept hd9)
              have HVO9 := Lib.hid (HVWO.out.kept hd9)
              have HS9 := Lib.hid (Nat.lt_of_lt_of_le HSW.out hd9.size)
              clear hw9 hd9
              by_cases hz9 : ce = 0
              case neg =>
                have z2 : ((ce : Int) != 0) = true := by rw [bne_iff_ne]; omega
                have HNO := Lib.hid (show ¬ OkM xs (rdM xs 1099511627775 1099511627775 1099511627775 1099511627775 1099511627775) from fun q => by have h1 := q.2.1; rw [HRD.out, HCE.out] at h1; exact hz9 h1)
                clear hz9
                have rx0 : w9.cell? ⟨w.heap.size, 0, none⟩ = some (.int .i64 0) := cell_blk HR9.out rfl
                have rxf0 : w9.frozen? ⟨w.heap.size, 0, none⟩ = false := fro_blk HR9.out 0
                have rx1 : w9.cell? ⟨w.heap.size, 1, none⟩ = some (.int .i64 0) := cell_blk HR9.out rfl
                have rxf1 : w9.frozen? ⟨w.heap.size, 1, none⟩ = false := fro_blk HR9.out 1
                have rx2 : w9.cell? ⟨w.heap.size, 2, none⟩ = some (.int .i64 0) := cell_blk HR9.out rfl
                have rxf2 : w9.frozen? ⟨w.heap.size, 2, none⟩ = false := fro_blk HR9.out 2
                have rx3 : w9.cell? ⟨w.heap.size, 3, none⟩ = some (.slice none 0 0) := cell_blk HR9.out rfl
                have rxf3 : w9.frozen? ⟨w.heap.size, 3, none⟩ = false := fro_blk HR9.out 3
                have rx4 : w9.cell? ⟨w.heap.size, 4, none⟩ = some (.slice none 0 0) := cell_blk HR9.out rfl
                have rxf4 : w9.frozen? ⟨w.heap.size, 4, none⟩ = false := fro_blk HR9.out 4
                have rx5 : w9.cell? ⟨w.heap.size, 5, none⟩ = some (.slice none 0 0) := cell_blk HR9.out rfl
                have rxf5 : w9.frozen? ⟨w.heap.size, 5, none⟩ = false := fro_blk HR9.out 5
                go_wp2_with fail
                have hr9 := set6 HR9.out (.int .i64 0) (.int .i64 0) (.int .i64 0) (.slice none 0 0) (.slice none 0 0) (.slice none 0 0)
                refine bodyPost_ret (ret_cell_tmp rfl _ _ w.heap.size 26 #[.int .i64 0, .int .i64 0, .int .i64 0, .slice none 0 0, .slice none 0 0, .slice none 0 0] _ _ rfl hr9 Tryz.underlying26 rfl (by kernel_rfl)) rfl ?_
                exact ⟨.inr (.inl ⟨rfl, HNO.out, rfl⟩), below6 HB9.out (Nat.le_refl _) _ _ _ _ _ _⟩

              subst hz9
              have z2 : (((0 : Nat) : Int) != 0) = false := by decide
              have p0 : w9.cell? ⟨X, 0, none⟩ = some (.int .i64 (t1.1 : Int)) := cell_blk HX9.out rfl
              have p1 : w9.cell? ⟨X, 1, none⟩ = some (.int .i64 (t2.1 : Int)) := cell_blk HX9.out rfl
              have p2 : w9.cell? ⟨X, 2, none⟩ = some (.int .i64 (t3.1 : Int)) := cell_blk HX9.out rfl
              have p3 : w9.cell? ⟨X, 3, none⟩ = some (.slice ea neE ec) := cell_blk HX9.out rfl
              have p4 : w9.cell? ⟨X, 4, none⟩ = some (.slice ma neM mc) := cell_blk HX9.out rfl
              have p5 : w9.cell? ⟨X, 5, none⟩ = some (.slice oa neO oc) := cell_blk HX9.out rfl
              have HMR := Lib.hid (rright_man HVE9.out HVM9.out HVO9.out (s := (t1.1 : Int)) (d := (t2.1 : Int)) (hz := (t3.1 : Int)) HPS.out)
              go_wp2_with fail
              refine HMR.out.mono ?_
              rintro e w10 ⟨⟨b9, rfl, hb9⟩, hd10⟩
              have HX10 := Lib.hid ((hd10.block X HS9.out).trans HX9.out)
              have HB10 := Lib.hid (HB9.out.trans (hd10.mono HB9.out.size))
              have HR10 := Lib.hid ((hd10.block w.heap.size (Array.getElem?_eq_some_iff.1 HR9.out).1).trans HR9.out)
              have HVE10 := Lib.hid (HVE9.out.kept hd10)
              have HVM10 := Lib.hid (HVM9.out.kept hd10)
              have HVO10 := Lib.hid (HVO9.out.kept hd10)
              have HB9' := Lib.hid hb9
              clear hd10 hb9 p0 p1 p2 p3 p4 p5
              cases b9 with
              | false =>
                have HNO := Lib.hid (show ¬ OkM xs (rdM xs 1099511627775 1099511627775 1099511627775 1099511627775 1099511627775) from fun q => by have h1 := q.2.2; rw [HRD.out] at h1; have := HB9'.out.2 h1; cases this)
                have rx0 : w10.cell? ⟨w.heap.size, 0, none⟩ = some (.int .i64 0) := cell_blk HR10.out rfl
                have rxf0 : w10.frozen? ⟨w.heap.size, 0, none⟩ = false := fro_blk HR10.out 0
                have rx1 : w10.cell? ⟨w.heap.size, 1, none⟩ = some (.int .i64 0) := cell_blk HR10.out rfl
                have rxf1 : w10.frozen? ⟨w.heap.size, 1, none⟩ = false := fro_blk HR10.out 1
                have rx2 : w10.cell? ⟨w.heap.size, 2, none⟩ = some (.int .i64 0) := cell_blk HR10.out rfl
                have rxf2 : w10.frozen? ⟨w.heap.size, 2, none⟩ = false := fro_blk HR10.out 2
                have rx3 : w10.cell? ⟨w.heap.size, 3, none⟩ = some (.slice none 0 0) := cell_blk HR10.out rfl
                have rxf3 : w10.frozen? ⟨w.heap.size, 3, none⟩ = false := fro_blk HR10.out 3
                have rx4 : w10.cell? ⟨w.heap.size, 4, none⟩ = some (.slice none 0 0) := cell_blk HR10.out rfl
                have rxf4 : w10.frozen? ⟨w.heap.size, 4, none⟩ = false := fro_blk HR10.out 4
                have rx5 : w10.cell? ⟨w.heap.size, 5, none⟩ = some (.slice none 0 0) := cell_blk HR10.out rfl
                have rxf5 : w10.frozen? ⟨w.heap.size, 5, none⟩ = false := fro_blk HR10.out 5
                go_wp2_with fail
                have hr9 := set6 HR10.out (.int .i64 0) (.int .i64 0) (.int .i64 0) (.slice none 0 0) (.slice none 0 0) (.slice none 0 0)
                refine bodyPost_ret (ret_cell_tmp rfl _ _ w.heap.size 26 #[.int .i64 0, .int .i64 0, .int .i64 0, .slice none 0 0, .slice none 0 0, .slice none 0 0] _ _ rfl hr9 Tryz.underlying26 rfl (by kernel_rfl)) rfl ?_
                exact ⟨.inr (.inl ⟨rfl, HNO.out, rfl⟩), below6 HB10.out (Nat.le_refl _) _ _ _ _ _ _⟩

              | true =>
                have HOKM := Lib.hid (show OkM xs (rdM xs 1099511627775 1099511627775 1099511627775 1099511627775 1099511627775) from by
                  unfold OkM
                  rw [HRD.out]
                  exact ⟨HHH.out, HCE.out, HB9'.out.1 (by first | rfl | trivial)⟩)
                have p0 : w10.cell? ⟨X, 0, none⟩ = some (.int .i64 (t1.1 : Int)) := cell_blk HX10.out rfl
                have p1 : w10.cell? ⟨X, 1, none⟩ = some (.int .i64 (t2.1 : Int)) := cell_blk HX10.out rfl
                have p2 : w10.cell? ⟨X, 2, none⟩ = some (.int .i64 (t3.1 : Int)) := cell_blk HX10.out rfl
                have p3 : w10.cell? ⟨X, 3, none⟩ = some (.slice ea neE ec) := cell_blk HX10.out rfl
                have p4 : w10.cell? ⟨X, 4, none⟩ = some (.slice ma neM mc) := cell_blk HX10.out rfl
                have p5 : w10.cell? ⟨X, 5, none⟩ = some (.slice oa neO oc) := cell_blk HX10.out rfl
                have hrx : w.heap.size ≠ X := by have h4 := HBX.out; have h5 := HBB.out; omega
                have rx0 : w10.cell? ⟨w.heap.size, 0, none⟩ = some (.int .i64 0) := cell_blk HR10.out rfl
                have rxf0 : w10.frozen? ⟨w.heap.size, 0, none⟩ = false := fro_blk HR10.out 0
                have rx1 : w10.cell? ⟨w.heap.size, 1, none⟩ = some (.int .i64 0) := cell_blk HR10.out rfl
                have rxf1 : w10.frozen? ⟨w.heap.size, 1, none⟩ = false := fro_blk HR10.out 1
                have rx2 : w10.cell? ⟨w.heap.size, 2, none⟩ = some (.int .i64 0) := cell_blk HR10.out rfl
                have rxf2 : w10.frozen? ⟨w.heap.size, 2, none⟩ = false := fro_blk HR10.out 2
                have rx3 : w10.cell? ⟨w.heap.size, 3, none⟩ = some (.slice none 0 0) := cell_blk HR10.out rfl
                have rxf3 : w10.frozen? ⟨w.heap.size, 3, none⟩ = false := fro_blk HR10.out 3
                have rx4 : w10.cell? ⟨w.heap.size, 4, none⟩ = some (.slice none 0 0) := cell_blk HR10.out rfl
                have rxf4 : w10.frozen? ⟨w.heap.size, 4, none⟩ = false := fro_blk HR10.out 4
                have rx5 : w10.cell? ⟨w.heap.size, 5, none⟩ = some (.slice none 0 0) := cell_blk HR10.out rfl
                have rxf5 : w10.frozen? ⟨w.heap.size, 5, none⟩ = false := fro_blk HR10.out 5

                go_wp2_with fail
                have hr9 := set6 HR10.out (.int .i64 (t1.1 : Int)) (.int .i64 (t2.1 : Int)) (.int .i64 (t3.1 : Int)) (.slice ea neE ec) (.slice ma neM mc) (.slice oa neO oc)
                refine bodyPost_ret (ret_cell_tmp rfl _ _ w.heap.size 26 #[.int .i64 (t1.1 : Int), .int .i64 (t2.1 : Int), .int .i64 (t3.1 : Int), .slice ea neE ec, .slice ma neM mc, .slice oa neO oc] _ _ rfl hr9 Tryz.underlying26 rfl (by kernel_rfl)) rfl ?_
                refine ⟨.inr (.inr ⟨rfl, HOKM.out, ?_⟩), below6 HB10.out (Nat.le_refl _) _ _ _ _ _ _⟩
                rw [HRD.out]
                exact ⟨ea, ec, ma, mc, oa, oc, rfl, vec6o HVE10.out (fun _ _ _ h => h) (fun b off s e => (HADE.out b off s e).2.1) _ _ _ _ _ _, vec6o HVM10.out (fun _ _ _ h => h) (fun b off s e => (HADM.out b off s e).2.1) _ _ _ _ _ _, vec6o HVO10.out (fun _ _ _ h => h) (fun b off s e => (HADO.out b off s e).2.1) _ _ _ _ _ _⟩

end Go.Proofs.YtbdgcfimbblncaaGreatDoor
end PkMR13_1
