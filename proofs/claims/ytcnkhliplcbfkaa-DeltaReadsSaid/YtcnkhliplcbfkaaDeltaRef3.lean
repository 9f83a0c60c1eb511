/- The document's Encode of rows, walked; the chapter's example. -/
import Derived.Test.YtcnkhliplcbfkaaDeltaRef2
namespace Go.Proofs.Ytcnkhliplcbfkaa
open Go.RowKit NumsPlain DeltaPlain
set_option linter.unusedVariables false

set_option maxRecDepth 100000 in
set_option maxHeartbeats 2000000 in
theorem rencode_any {w : World} {a : Option Addr} {n c : Nat} {zs : List Int} (h : IntsAt .i64 w a n c zs) (way : Int) (hc : chk zs way = 0) :
    Calls Try.prog 16 #[.slice a n c, .int .i64 way] w fun e w' => ∃ a' n' c', e = .returned (.slice a' n' c') ∧ BytesAt w' a' n' c' (enc zs way) ∧ Below w.heap.size w w' := by
  obtain ⟨h0, h2, hl, hb⟩ := chk_ok hc
  obtain ⟨ts, hts⟩ : ∃ ts, ts = tl zs way := ⟨_, rfl⟩
  have htb := tl_bound hb way
  rw [← hts] at htb
  have hlen := h.len
  have htl : ts.length = n := by rw [hts, tl_length, hlen]
  have he : enc zs way = pu n ++ ts.flatMap pz := by rw [hts, ← hlen]; rfl
  have hn : n ≤ 2048 := by omega
  have hby : ∀ k, ∀ y ∈ eb0 n ts k, y < 256 := fun k => eb0_byte (by omega) htb
  have hlen' : ∀ k, (eb0 n ts k).length ≤ 30000 := fun k => by
    have := eb0_len (N := n) (k := k) (by omega) htb
    omega
  have HC := Lib.hid hc
  have HE := Lib.hid he
  have HTB := Lib.hid htb
  have HTL := Lib.hid htl
  have HBY := Lib.hid hby
  have HLEN := Lib.hid hlen'
  have HH := Lib.hid h
  have HTS := Lib.hid hts
  have HP := Lib.hid (rputu_any n (by omega) w)
  clear h hc hb hts htb htl he hby hlen hlen' h0 h2 hl
  go_enter Try.func16, Try.ntmps16
  go_wp2_with fail
  refine HP.out.mono ?_
  rintro e w1 ⟨v1, rfl, hown1, hb1⟩
  have HO1 := Lib.hid (show w1.ownsRow w.heap.size 5 1 v1 (eb0 n ts 0).length (bv (eb0 n ts 0)) by
    rw [eb0_zero]; exact hown1)
  have HB1 := Lib.hid hb1
  have HT := Lib.hid (rturn_any (HH.out.kept hb1) way HC.out)
  clear hown1 hb1
  rw [← HTS.out] at HT
  go_wp2_with fail
  refine HT.out.mono ?_
  rintro e w2 ⟨a2, c2, rfl, hown2, hi2, hb2⟩
  have HT2 := Lib.hid hown2
  have HO2 := Lib.hid (own_below HO1.out hb2)
  have HB2 := Lib.hid (HB1.out.trans (hb2.mono HB1.out.size))
  have hcap := hi2.cap
  have hcm := hi2.capm
  have hz1 := HB1.out.size
  clear hown2 hb2 hi2
  go_wp2_with fail
  go_loopw [5, 16] (fun s5 s16 wr => ∃ k : Nat, k ≤ n ∧ s16 = .int .i64 k ∧ Hid (wr.ownsRow w.heap.size 5 1 s5 (eb0 n ts k).length (bv (eb0 n ts k))) ∧ Hid (Below w.heap.size w wr) ∧ Hid (wr.ownsRow w1.heap.size 2 1 (.slice a2 n c2) n (iv .i64 ts))) (fun _ s16 _ => n - (intOf s16).toNat)
  case atStart => exact ⟨0, by omega, rfl, HO2, HB2, HT2⟩
  case round =>
    obtain ⟨k, hk, rfl, HO, HB, HT⟩ := hrel
    rename World => wr
    by_cases hkn : k < n
    · have hi := IntsAt.own HT.out (fun z hz => wf_i64 (by have := HTB.out z hz; omega))
      obtain ⟨b, off, rfl, hlt, hcell⟩ := hi.cells (by omega)
      have hck := hcell k hkn
      obtain ⟨x, hx⟩ : ∃ x, x = ts.getD k 0 := ⟨_, rfl⟩
      rw [← hx] at hck
      have hxb : -4611686018427387904 ≤ x ∧ x ≤ 4611686018427387904 := by rw [hx]; exact getD_mem_or HTB.out (by omega) k
      have HX := Lib.hid (show eb0 n ts (k + 1) = eb0 n ts k ++ pu (zig x) by rw [hx]; exact eb0_succ (by rw [HTL.out]; exact hkn))
      have HZ := Lib.hid (rzig_any x (by omega) (by omega) wr)
      have HPI := Lib.hid (rputu_any (zig x) (zig_lt (by omega) (by omega)) wr)
      have HPB := Lib.hid (pu_bytes (zig_lt (m := x) (by omega) (by omega)))
      have hl2 : (pu (zig x)).length ≤ 10 := pz_len hxb
      have hl1 := HLEN.out k
      clear hcell hx hxb hi
      go_wp2_with fail
      refine HZ.out.mono ?_
      rintro e w3 ⟨rfl, rfl⟩
      go_wp2_with fail
      refine HPI.out.mono ?_
      rintro e w3 ⟨v3, rfl, hown3, hb3⟩
      obtain ⟨a3, c3, rfl, hy3, _⟩ := BytesAt.ofOwn hown3 HPB.out (by omega)
      have HY3 := Lib.hid hy3
      have hgo := own_below HO.out hb3
      have hgt := own_below HT.out hb3
      have HB3 := Lib.hid (HB.out.trans (hb3.mono HB.out.size))
      have hbs := HB3.out.size
      clear hy3 hb3 hown3
      go_wp2_with (at_builtin; refine wpList_append_bytes rfl (.tmp 20) (.tmp 23) rfl w.heap.size _ _ _ rfl hgo _ _ _ _ rfl HY3.out (by omega) hbs ?_)
      intro v4 w4 hown4 hg4
      have HO4 := Lib.hid (show w4.ownsRow w.heap.size 5 1 v4 (eb0 n ts (k + 1)).length (bv (eb0 n ts (k + 1))) by
        rw [HX.out, List.length_append]; exact hown4)
      have HB4 := Lib.hid (HB3.out.grown hg4 hbs (fun j hj => (hgo.lt j hj).1))
      have HT4 := Lib.hid (hgt.kept hg4 (own_ne2 hgt hgo (by decide)))
      clear hown4 hg4 hgo hgt
      go_wp2_with fail
      go_roundw
      case rel => exact ⟨k + 1, by omega, by go_num, HO4, HB4, HT4⟩
      case measure => simp [intOf]; omega
    · have hkn2 : k = n := by omega
      have hfull : eb0 n ts k = pu n ++ ts.flatMap pz := eb0_full (by rw [HTL.out]; omega)
      have ho := HO.out
      have hby := HBY.out k
      have hll := HLEN.out k
      obtain ⟨E, hE⟩ : ∃ E, E = eb0 n ts k := ⟨_, rfl⟩
      rw [← hE] at ho hby hll
      have HF := Lib.hid (hE.trans hfull)
      obtain ⟨a4, c4, rfl, hy4, _⟩ := BytesAt.ofOwn ho hby (by omega)
      have HY4 := Lib.hid hy4
      clear ho hby hll hy4 hfull hkn2 hE
      go_wp2_with fail
      go_ret
      refine ⟨a4, _, c4, rfl, ?_, HB.out⟩
      rw [HE.out, ← HF.out]; exact HY4.out

theorem enc_ex : enc [10, 20, 31, 31] 2 = [4, 20, 20, 2, 21] := by
  have h4 : pu 4 = [4] := pu_small (by omega)
  have e : tl [10, 20, 31, 31] 2 = [10, 10, 1, -11] := by decide
  have z1 : pz 10 = [20] := by unfold pz; rw [show zig 10 = 20 from by decide]; exact pu_small (by omega)
  have z2 : pz 1 = [2] := by unfold pz; rw [show zig 1 = 2 from by decide]; exact pu_small (by omega)
  have z3 : pz (-11) = [21] := by unfold pz; rw [show zig (-11) = 21 from by decide]; exact pu_small (by omega)
  unfold enc
  rw [e]
  simp [h4, z1, z2, z3]

set_option maxRecDepth 100000 in
set_option maxHeartbeats 1000000 in
theorem lives4_any (w : World) :
    Calls Try.prog 9 #[] w fun e w' => e = .returned (.bool true) ∧ Below w.heap.size w w' := by
  have hrow : IsRow .i64 8 (w.alloc (.cells #[.int .i64 10, .int .i64 20, .int .i64 31, .int .i64 31] 2)) (some ⟨w.heap.size, 0, none⟩) 4 4 [10, 20, 31, 31] := .inr ⟨_, rfl, Nat.le_refl _, by unfold maxLen; omega, rfl, fun i hi => by
    have h4 : i = 0 ∨ i = 1 ∨ i = 2 ∨ i = 3 := by simp at hi; omega
    rcases h4 with rfl | rfl | rfl | rfl <;> simp [Addr.add], by decide, by omega⟩
  have hE := Lib.hid (encode_any hrow.ints 2)
  rw [show chk ([10, 20, 31, 31].take 4) 2 = 0 from by decide, show eb ([10, 20, 31, 31].take 4) 2 = [4, 20, 20, 2, 21] from by rw [eb_ok (by decide)]; exact enc_ex] at hE
  clear hrow
  go_enter Try.func9, Try.ntmps9
  go_wp2_with fail
  refine hE.out.mono ?_
  rintro e w1 ⟨a1, n1, c1, rfl, _, hy1, hb1⟩
  have HB1 := Lib.hid (((Below.refl w.heap.size w).alloc (Nat.le_refl _) (.cells #[.int .i64 10, .int .i64 20, .int .i64 31, .int .i64 31] 2)).trans (hb1.mono (by simp)))
  have hcv := hy1.conv
  have hbs : (bs [4, 20, 20, 2, 21]).toList = [4, 20, 20, 2, 21] := by decide +kernel
  clear hb1 hy1
  go_wp2_with fail
  go_ret
  exact ⟨rfl, HB1.out⟩
end Go.Proofs.Ytcnkhliplcbfkaa
