/- The walk of SqueezeBytes: it returns true for all bytes. -/
import Derived.Test.YtachikilcfdngaaSqRFx
import Derived.Test.YtachikilcfdngaaSqRSt
namespace Go.Proofs.Ytachikilcfdngaa
open Go.RowKit BitsPlain
set_option linter.unusedVariables false

set_option maxRecDepth 100000 in
set_option maxHeartbeats 4000000 in
theorem rdeflate_any {w : World} {a : Option Addr} {n c : Nat} {b : List Nat} (h : BytesAt w a n c b) (hn : n ≤ 600) :
    Calls Try.prog 33 #[.slice a n c] w fun e w' => ∃ a' c', e = .returned (.slice a' (dfl b).length c') ∧ BytesAt w' a' (dfl b).length c' (dfl b) ∧ Below w.heap.size w w' := by
  have HH := Lib.hid h
  have hll := h.len
  have HSP := Lib.hid (stor_bytes h.byte (by omega))
  have HF := Lib.hid (rfx_any h hn)
  clear h
  go_enter Try.func33, Try.ntmps33
  go_wp2_with fail
  refine HF.out.mono ?_
  rintro e w1 ⟨a1, c1, rfl, h1, hb1⟩
  have HB1 := Lib.hid hb1
  have HH1 := Lib.hid (HH.out.kept hb1)
  have H1 := Lib.hid h1
  have HS := Lib.hid (rst_any HH1.out (by omega))
  clear h1 hb1
  go_wp2_with fail
  refine HS.out.mono ?_
  rintro e w2 ⟨a2, c2, rfl, h2, hb2⟩
  have HB2 := Lib.hid (HB1.out.trans (hb2.mono HB1.out.size))
  have H12 := Lib.hid (H1.out.kept hb2)
  have H2 := Lib.hid h2
  clear h2 hb2
  obtain ⟨s, hs⟩ : ∃ s, s = stP b := ⟨_, rfl⟩
  obtain ⟨x, hx⟩ : ∃ x, x = pack (fxB (toks b)) := ⟨_, rfl⟩
  obtain ⟨ls, hls⟩ : ∃ ls, ls = s.length := ⟨_, rfl⟩
  obtain ⟨lx, hlx⟩ : ∃ lx, lx = x.length := ⟨_, rfl⟩
  have HD := Lib.hid (show dfl b = if ls ≤ lx then s else x from by unfold dfl; rw [HSP.out, hls, hlx, hs, hx])
  rw [← hs] at H2
  rw [← hx] at H12
  rw [← hs, ← hls, ← hx, ← hlx]
  rw [← hls] at H2
  rw [← hlx] at H12
  have HLS := Lib.hid hls
  have HLX := Lib.hid hlx
  clear hs hx hls hlx
  by_cases hle : lx < ls
  · have hi : (lx : Int) < (ls : Int) := by omega
    have e := HD.out
    rw [if_neg (by omega)] at e
    have HE := Lib.hid e
    have HT := Lib.hid (twin H12.out)
    clear e hle
    go_wp2_with fail
    refine HT.out.mono ?_
    rintro e w3 ⟨g3, k3, rfl, _, _, _, hy3, hb3⟩
    have HY3 := Lib.hid hy3
    have HB3 := Lib.hid (HB2.out.trans (hb3.mono HB2.out.size))
    clear hy3 hb3
    go_wp2_with fail
    go_ret
    rw [HE.out, ← HLX.out]
    exact ⟨_, k3, rfl, HY3.out, HB3.out⟩
  · have hi : ¬ (lx : Int) < (ls : Int) := by omega
    have e := HD.out
    rw [if_pos (by omega)] at e
    have HE := Lib.hid e
    have HT := Lib.hid (twin H2.out)
    clear e hle
    go_wp2_with fail
    refine HT.out.mono ?_
    rintro e w3 ⟨g3, k3, rfl, _, _, _, hy3, hb3⟩
    have HY3 := Lib.hid hy3
    have HB3 := Lib.hid (HB2.out.trans (hb3.mono HB2.out.size))
    clear hy3 hb3
    go_wp2_with fail
    go_ret
    rw [HE.out, ← HLS.out]
    exact ⟨_, k3, rfl, HY3.out, HB3.out⟩

set_option maxRecDepth 100000 in
set_option maxHeartbeats 4000000 in
theorem squeezeBytes_walk (a0 : Option Addr) (len0 cap0 : Nat) (z0 : List Int) (w : World) (w0 : IsRow .u8 1 w a0 len0 cap0 z0) :
    Calls Try.prog 6 #[.slice a0 len0 cap0] w fun e w' => e = .returned (.bool true) ∧ Below w.heap.size w w' := by
  obtain ⟨xs, hb⟩ := w0.bytes
  have hll := hb.len
  have HL := Lib.hid (lives7_any (w := w))
  have HH := Lib.hid hb
  clear w0 hb
  by_cases hbig : (600 : Int) < (len0 : Int)
  · go_enter Try.func6, Try.ntmps6
    go_wp2_with fail
    refine HL.out.mono ?_
    rintro e w1 ⟨rfl, hb1⟩
    have HB1 := Lib.hid hb1
    have HL1 := Lib.hid (lives7_any (w := w1))
    clear hb1
    go_wp2_with fail
    refine HL1.out.mono ?_
    rintro e w2 ⟨rfl, hb2⟩
    have HB2 := Lib.hid (HB1.out.trans (hb2.mono HB1.out.size))
    clear hb2
    go_wp2_with fail
    go_ret
    exact ⟨rfl, HB2.out⟩
  · have hbig3 : len0 ≤ 600 := by omega
    go_enter Try.func6, Try.ntmps6
    go_wp2_with fail
    refine HL.out.mono ?_
    rintro e w1 ⟨rfl, hb1⟩
    have HB1 := Lib.hid hb1
    have HH1 := Lib.hid (HH.out.kept hb1)
    clear hb1
    go_wp2_with fail
    refine (twin HH1.out).mono ?_
    rintro e w2 ⟨g2, k2, rfl, _, _, _, hy2, hb2⟩
    have HB2 := Lib.hid (HB1.out.trans (hb2.mono HB1.out.size))
    have HY2 := Lib.hid hy2
    have HH2 := Lib.hid (HH1.out.kept hb2)
    have HD := Lib.hid (deflate_any HY2.out (by omega))
    clear hy2 hb2
    go_wp2_with fail
    refine HD.out.mono ?_
    rintro e w3 ⟨a3, c3, rfl, h3, hb3⟩
    have HB3 := Lib.hid (HB2.out.trans (hb3.mono HB2.out.size))
    have HY3 := Lib.hid (HY2.out.kept hb3)
    have HH3 := Lib.hid (HH2.out.kept hb3)
    have H3 := Lib.hid h3
    have HRD := Lib.hid (rdeflate_any HH3.out hbig3)
    obtain ⟨m, hm⟩ : ∃ m, m = (dfl xs).length := ⟨_, rfl⟩
    rw [← hm] at H3 HRD
    rw [← hm]
    clear h3 hb3 hm
    go_wp2_with fail
    refine HRD.out.mono ?_
    rintro e w4 ⟨a4, c4, rfl, h4, hb4⟩
    have HB4 := Lib.hid (HB3.out.trans (hb4.mono HB3.out.size))
    have hs1 := same_any (H3.out.kept hb4) h4
    rw [beq_self_eq_true] at hs1
    have hs2 := same_any (HY3.out.kept hb4) (HH3.out.kept hb4)
    rw [beq_self_eq_true] at hs2
    have HS1 := Lib.hid hs1
    have HS2 := Lib.hid hs2
    clear h4 hb4 hs1 hs2
    go_wp2_with fail
    refine HS1.out.mono ?_
    rintro e w5 ⟨rfl, rfl⟩
    go_wp2_with fail
    refine HS2.out.mono ?_
    rintro e w5 ⟨rfl, rfl⟩
    go_wp2_with fail
    go_ret
    exact ⟨rfl, HB4.out⟩
end Go.Proofs.Ytachikilcfdngaa
