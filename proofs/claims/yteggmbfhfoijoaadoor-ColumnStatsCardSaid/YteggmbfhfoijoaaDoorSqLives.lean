/- Deflate, walked, and layer 7's fixed fact. -/
import Derived.Test.YteggmbfhfoijoaaDoorSqStor
import Derived.Lib.SlBytesConst
namespace Go.Proofs.YteggmbfhfoijoaaDoor
open Go.RowKit BitsPlain
set_option linter.unusedVariables false

theorem toksFrom_le {b : List Nat} : ∀ {f p : Nat}, (toksFrom b f p).length ≤ b.length - p
  | 0, p => by simp [toksFrom]
  | f + 1, p => by
    simp only [toksFrom]
    split
    · rename_i hp
      have ih := @toksFrom_le b f (p + max 1 (tokAt b p).1)
      rw [List.length_cons]
      omega
    · exact Nat.zero_le _
theorem toks_le (b : List Nat) : (toks b).length ≤ b.length := by
  have := @toksFrom_le b b.length 0
  unfold toks
  omega
/-- the squeezed text -/
def dfl (b : List Nat) : List Nat := if (pack (storB b)).length ≤ (pack (fxB (toks b))).length then pack (storB b) else pack (fxB (toks b))
theorem dfl_one : dfl [97] = [75, 4, 0] := by decide +kernel
theorem bs_k40 : bs [75, 4, 0] = { data := #[75, 4, 0] } := by decide +kernel

set_option maxRecDepth 100000 in
set_option maxHeartbeats 2000000 in
theorem deflate_any {w : World} {a : Option Addr} {n c : Nat} {b : List Nat} (h : BytesAt w a n c b) (hn : n ≤ 65536) :
    Calls Tryd.prog 24 #[.slice a n c] w fun e w' => ∃ a' c', e = .returned (.tuple #[.slice a' (dfl b).length c', .int .i64 0]) ∧ BytesAt w' a' (dfl b).length c' (dfl b) ∧ Below w.heap.size w w' := by
  have HH := Lib.hid h
  have hll := h.len
  have hby := h.byte
  have hfl := Lib.hid (fxB_len hby)
  have htl := Lib.hid (toks_le b)
  have hok := Lib.hid (toks_ok hby)
  have HT := Lib.hid (tokens_any h hn)
  clear h hby
  go_enter Tryd.func24, Tryd.ntmps24
  go_wp2_with fail
  refine HT.out.mono ?_
  rintro e w1 ⟨v, rfl, ho, hb1⟩
  obtain ⟨a1, c1, rfl, ht1⟩ := TksAt.ofOwn ho rfl
  have HF := Lib.hid (fixed_any ht1 hok.out (by have := hfl.out; omega) (by have := htl.out; omega))
  have HB1 := Lib.hid hb1
  have HH1 := Lib.hid (HH.out.kept hb1)
  clear ho hb1 ht1
  go_wp2_with fail
  refine HF.out.mono ?_
  rintro e w2 ⟨a2, c2, rfl, h2, hb2⟩
  have HB2 := Lib.hid (HB1.out.trans (hb2.mono HB1.out.size))
  have HH2 := Lib.hid (HH1.out.kept hb2)
  have H2 := Lib.hid h2
  have HS := Lib.hid (stored_any HH2.out (by omega))
  clear hb2 h2
  go_wp2_with fail
  refine HS.out.mono ?_
  rintro e w3 ⟨a3, c3, rfl, h3, hb3⟩
  have HB3 := Lib.hid (HB2.out.trans (hb3.mono HB2.out.size))
  have H23 := Lib.hid (H2.out.kept hb3)
  have H3 := Lib.hid h3
  clear hb3 h3
  obtain ⟨s, hs⟩ : ∃ s, s = pack (storB b) := ⟨_, rfl⟩
  obtain ⟨x, hx⟩ : ∃ x, x = pack (fxB (toks b)) := ⟨_, rfl⟩
  obtain ⟨ls, hls⟩ : ∃ ls, ls = s.length := ⟨_, rfl⟩
  obtain ⟨lx, hlx⟩ : ∃ lx, lx = x.length := ⟨_, rfl⟩
  have HD := Lib.hid (show dfl b = if ls ≤ lx then s else x from by unfold dfl; rw [hls, hlx, hs, hx])
  rw [← hs] at H3
  rw [← hx] at H23
  rw [← hs, ← hls, ← hx, ← hlx]
  rw [← hls] at H3
  rw [← hlx] at H23
  have HLS := Lib.hid hls
  have HLX := Lib.hid hlx
  clear hs hx hls hlx
  by_cases hle : ls ≤ lx
  · have hi : (ls : Int) ≤ (lx : Int) := by omega
    have e := HD.out
    rw [if_pos hle] at e
    have HE := Lib.hid e
    clear e hle
    go_wp2_with fail
    first | go_ret2 | go_ret
    rw [HE.out, ← HLS.out]
    exact ⟨a3, c3, rfl, H3.out, HB3.out⟩
  · have hi : ¬ (ls : Int) ≤ (lx : Int) := by omega
    have e := HD.out
    rw [if_neg hle] at e
    have HE := Lib.hid e
    clear e hle
    go_wp2_with fail
    first | go_ret2 | go_ret
    rw [HE.out, ← HLX.out]
    exact ⟨a2, c2, rfl, H23.out, HB3.out⟩

end Go.Proofs.YteggmbfhfoijoaaDoor
