/- Texts put together by packtpl2.py: SqStor. -/
import Derived.Test.YtpbijdoemdoijaaGreatDoorPkCa5
section PkCa6_0
/- The form Stored, walked. -/
namespace Go.Proofs.YtpbijdoemdoijaaGreatDoor
open Go.RowKit BitsPlain
set_option linter.unusedVariables false

/-- noughts up to the end of a byte -/
def alg (l : List Nat) : List Nat := l ++ List.replicate ((8 - l.length % 8) % 8) 0
theorem sq_pack_pad {l : List Nat} (h : Bin l) : ∀ k, (k = 0 ∨ (l.length % 8 ≠ 0 ∧ l.length % 8 + k ≤ 8)) → pack (l ++ List.replicate k 0) = pack l
  | 0, _ => by simp
  | k + 1, hk => by
    have hk2 : l.length % 8 ≠ 0 ∧ l.length % 8 + k + 1 ≤ 8 := by rcases hk with h | h <;> omega
    have ih := sq_pack_pad h k (Or.inr ⟨hk2.1, by omega⟩)
    rw [List.replicate_succ', ← List.append_assoc, pack_old 0 (by simp only [List.length_append, List.length_replicate]; omega), ih]
    simp only [List.length_append, List.length_replicate, Nat.zero_mul, Nat.add_zero]
    refine List.ext_getElem (by simp) (fun i h1 h2 => ?_)
    rw [List.getElem_set]
    split
    · rename_i e
      subst e
      simp [h2]
    · rfl
theorem alg_pack {l : List Nat} (h : Bin l) : pack (alg l) = pack l := by
  refine sq_pack_pad h _ ?_
  omega
theorem alg_len (l : List Nat) : (alg l).length = 8 * (pack l).length := by
  unfold alg
  rw [pack_length, List.length_append, List.length_replicate]
  omega
theorem alg_bin {l : List Nat} (h : Bin l) : Bin (alg l) := h.app (fun x hx => by
  have := List.eq_of_mem_replicate hx
  omega)

set_option maxRecDepth 100000 in
set_option maxHeartbeats 2000000 in
theorem sqalign_any {w : World} {B base : Nat} {v : Value} {l : List Nat} (h : WrAt w B base v l) (hlen : l.length ≤ 10000000) :
    Calls Tryz.prog 146 #[.pointer (some ⟨B, 0, none⟩)] w fun e w' => e = .returned (.tuple #[]) ∧ WrAt w' B base v (alg l) ∧ Touch w w' B v ∧ Went w v v := by
  have hpl := pack_len_le l hlen
  obtain ⟨a, c, hv, hb, _⟩ := BytesAt.ofOwn h.own (pack_byte h.bin) (by omega)
  have h0 := h.c0
  have h1 := h.c1
  have f1 := h.f 1
  rw [hv] at h0
  have HH := Lib.hid h
  have HV := Lib.hid hv
  obtain ⟨m, hm⟩ : ∃ m, m = (pack l).length := ⟨_, rfl⟩
  rw [← hm] at hpl h0
  have HM := Lib.hid hm
  have HE : Hid (WrAt (w.setCell ⟨B, 1, none⟩ (.int .i64 (8 * (m : Int)))) B base v (alg l) ∧ Touch w (w.setCell ⟨B, 1, none⟩ (.int .i64 (8 * (m : Int)))) B v) := Lib.hid (by
    refine ⟨⟨?_, ?_, alg_bin h.bin⟩, ⟨rfl, rfl, rfl, by simp [World.setCell], fun k hk hkB hkv => heap_setCell_other _ _ _ _ hkB⟩⟩
    · rw [heap_setCell_same _ B 1 _ _ _ h.blk, alg_len, ← hm]
      rfl
    · rw [alg_pack h.bin]
      exact ownsRow_setCell_other h.own h.ne _)
  clear h hb hv hm
  go_enter Tryz.func146, Tryz.ntmps146
  go_wp2_with fail
  first | go_end0 | refine bodyPost_ret (results_none rfl _ _ _) rfl ?_
  exact ⟨rfl, HE.out.1, HE.out.2, Or.inl rfl⟩
/-- a piece, behind what is written -/
def pieceH (acc : List Nat) (last m : Nat) : List Nat := alg (acc ++ bitsOf last 1 ++ bitsOf 0 2) ++ bitsOf m 16 ++ bitsOf (4294967295 - m) 16
def pieceB (acc : List Nat) (last : Nat) (xs : List Nat) : List Nat := pieceH acc last xs.length ++ xs.flatMap fun x => bitsOf x 8
def storF : Nat → List Nat → List Nat → List Nat
  | 0, acc, _ => acc
  | f + 1, acc, xs => if xs.length ≤ 65535 then pieceB acc 1 xs else storF f (pieceB acc 0 (xs.take 65535)) (xs.drop 65535)
def storB (b : List Nat) : List Nat := storF (b.length + 1) [] b
theorem alg_le (l : List Nat) : (alg l).length ≤ l.length + 7 := by
  unfold alg
  rw [List.length_append, List.length_replicate]
  omega
theorem flat8_len (xs : List Nat) : (xs.flatMap fun x => bitsOf x 8).length = 8 * xs.length := by
  induction xs with
  | nil => rfl
  | cons x r ih => rw [List.flatMap_cons, List.length_append, ih, bitsOf_length, List.length_cons]; omega
theorem pieceH_len (acc : List Nat) (last m : Nat) : (pieceH acc last m).length ≤ acc.length + 42 := by
  have h := alg_le (acc ++ bitsOf last 1 ++ bitsOf 0 2)
  unfold pieceH
  simp only [List.length_append, bitsOf_length] at h ⊢
  omega

theorem not_word (a : Nat) (ha : a < 4294967296) : bits .xor .u32 IntKind.u32.max (a : Int) = ((4294967295 - a : Nat) : Int) := by
  rw [show IntKind.u32.max = 4294967295 from rfl, show (4294967295 : Int) = ((4294967295 : Nat) : Int) from rfl, u32_xor_nat _ _ (by omega) ha]
  congr 1
  refine Nat.eq_of_testBit_eq (fun i => ?_)
  have e1 := Nat.testBit_two_pow_sub_succ (n := 32) (x := a) ha i
  rw [show 2 ^ 32 - (a + 1) = 4294967295 - a from by omega] at e1
  rw [Nat.testBit_xor, e1, show (4294967295 : Nat) = 2 ^ 32 - 1 from rfl, Nat.testBit_two_pow_sub_one]
  rcases Nat.lt_or_ge i 32 with g | g
  · simp [g]
  · have : a.testBit i = false := Nat.testBit_lt_two_pow (Nat.lt_of_lt_of_le (show a < 2 ^ 32 from ha) (Nat.pow_le_pow_right (by omega) g))
    simp [this, Nat.not_lt.2 g]

/-- a slice's end, from a place on -/
theorem BytesAt.behind {w : World} {g off n c : Nat} {xs : List Nat} (h : BytesAt w (some ⟨g, off, none⟩) n c xs) (k : Nat) (hk : k ≤ n) : BytesAt w (some ⟨g, off + k, none⟩) (n - k) (c - k) (xs.drop k) := by
  have hl := h.len
  have hc := h.cap
  have hr := h.reach
  have hm := h.capm
  refine ⟨by simp; omega, by omega, fun x hx => h.byte x (List.mem_of_mem_drop hx), by omega, by omega, (fun e => by cases e), fun hp => ?_⟩
  obtain ⟨b, o, ha, hlt, hcell⟩ := h.cells (by omega)
  cases ha
  refine ⟨g, off + k, rfl, hlt, fun i hi => ?_⟩
  have := hcell (k + i) (by omega)
  rw [show off + k + i = off + (k + i) from by omega, this]
  congr 3
  simp

theorem getD_get {l : List Nat} {k : Nat} (h : k < l.length) : l.getD k 0 = l[k] := by simp [h]

/-- a writer under way, alone in new memory -/
structure Wl (w0 w : World) (v : Value) (l : List Nat) : Prop where
  wr : WrAt w w0.heap.size w0.heap.size v l
  bel : Below w0.heap.size w0 w
theorem Wl.step {w0 w w' : World} {v v' : Value} {l l' : List Nat} (h : Wl w0 w v l) (h1 : WrAt w' w0.heap.size w0.heap.size v' l') (h2 : Touch w w' w0.heap.size v) : Wl w0 w' v' l' :=
  ⟨h1, Touch.below h.bel h2 (Nat.le_refl _) (own_block h.wr.own)⟩

set_option maxRecDepth 100000 in
set_option maxHeartbeats 4000000 in
theorem stored_any {w : World} {a : Option Addr} {n c : Nat} {b : List Nat} (h : BytesAt w a n c b) (hn : n ≤ 1000000) :
    Calls Tryz.prog 104 #[.slice a n c] w fun e w' => ∃ a' c', e = .returned (.slice a' (pack (storB b)).length c') ∧ BytesAt w' a' (pack (storB b)).length c' (pack (storB b)) ∧ Below w.heap.size w w' := by
  have hnew := wr_new w w.heap.size (by omega)
  obtain ⟨w1, hw1⟩ : ∃ w1, w1 = w.alloc (.cells #[.slice none 0 0, .int .i64 0] 97) := ⟨_, rfl⟩
  have b1 : Below w.heap.size w w1 := by rw [hw1]; exact (Below.refl _ _).alloc (Nat.le_refl _) _
  rw [← hw1] at hnew
  have HH := Lib.hid h
  have HH1 := Lib.hid (h.kept b1)
  have hll := h.len
  have HW1 := Lib.hid hw1
  have HB1 := Lib.hid b1
  have HNW := Lib.hid hnew
  clear h b1 hnew
  go_enter Tryz.func104, Tryz.ntmps104
  go_wp2_with fail
  rw [← HW1.out]
  clear hw1
  go_loopw [0] (fun s0 wr => ∃ (f : Nat) (a : Option Addr) (m c : Nat) (xs acc : List Nat) (v : Value), s0 = .slice a m c ∧ m ≤ f ∧ acc.length + 9 * m ≤ 9 * n ∧ Hid (BytesAt w a m c xs) ∧ Hid (WrAt wr w.heap.size w.heap.size v acc) ∧ Hid (Below w.heap.size w wr) ∧ Hid (storF (f + 1) acc xs = storB b)) (fun s0 _ => match s0 with | .slice _ m _ => m | _ => 0)
  case atStart => exact ⟨n, a, n, c, b, [], _, rfl, Nat.le_refl _, by simp, HH, HNW, HB1, Lib.hid (by unfold storB; rw [hll])⟩
  case round =>
    obtain ⟨f, a', m, c', xs, acc, v, rfl, hmf, hac, HX, HW, HB, HF⟩ := hrel
    rename World => wr
    have HSZ := Lib.hid HB.out.size
    have hxl := HX.out.len
    have hxc := HX.out.cap
    have hxm := HX.out.capm
    by_cases hm0 : m = 0
    · have HM0 := Lib.hid hm0
      clear hm0
      have hm : m ≤ 65535 := by have := HM0.out; omega
      have hmin : min (65535 : Int) (m : Int) = (m : Int) := by omega
      rcases Nat.lt_or_ge m c' with hlt | hge
      · have hne : ¬ c' = m := by omega
        have hne2 : ¬ m = c' := by omega
        obtain ⟨q, hq⟩ : ∃ q, q = 4294967295 - m := ⟨_, rfl⟩
        have hqx : bits .xor .u32 IntKind.u32.max (m : Int) = (q : Int) := by rw [hq]; exact not_word m (by omega)
        have hql : q < 4294967296 := by omega
        have HQ := Lib.hid hq
        clear hq
        have L2 := Lib.hid (alg_le (acc ++ bitsOf 1 1 ++ bitsOf 0 2))
        have L5 := Lib.hid (pieceH_len acc 1 m)
        have HM16 := Lib.hid (show m < 4294967296 by omega)
        have HA := Lib.hid (show acc.length ≤ 9000000 by omega)
        have HC1 := Lib.hid (wbits_any HW.out HSZ.out 1 (by omega) 1 (by omega) (by have := HA.out; omega))
        have HC2 := Lib.hid (fun (wx : World) (vx : Value) (hx : Wl w wx vx (acc ++ bitsOf 1 1)) => wbits_any hx.wr hx.bel.size 0 (by omega) 2 (by omega) (by have := HA.out; simp only [List.length_append, bitsOf_length]; omega))
        have HC3 := Lib.hid (fun (wx : World) (vx : Value) (hx : Wl w wx vx (acc ++ bitsOf 1 1 ++ bitsOf 0 2)) => sqalign_any hx.wr (by have := HA.out; simp only [List.length_append, bitsOf_length]; omega))
        have HC4 := Lib.hid (fun (wx : World) (vx : Value) (hx : Wl w wx vx (alg (acc ++ bitsOf 1 1 ++ bitsOf 0 2))) => wbits_any hx.wr hx.bel.size m (by omega) 16 (by omega) (by have := HA.out; have := L2.out; simp only [List.length_append, bitsOf_length] at this; omega))
        have HC5 := Lib.hid (fun (wx : World) (vx : Value) (hx : Wl w wx vx (alg (acc ++ bitsOf 1 1 ++ bitsOf 0 2) ++ bitsOf m 16)) => wbits_any hx.wr hx.bel.size q (by omega) 16 (by omega) (by have := HA.out; have := L2.out; simp only [List.length_append, bitsOf_length] at this ⊢; omega))
        have HP := Lib.hid (fun (wx : World) (vx : Value) (l : List Nat) (hx : Wl w wx vx l) => HX.out.kept hx.bel)
        have HWL := Lib.hid (show Wl w wr v acc from ⟨HW.out, HB.out⟩)
        go_wp2_with fail
        refine HC1.out.mono ?_
        rintro e w2 ⟨rfl, v2, h2, t2, g2⟩
        have HL2 := Lib.hid (HWL.out.step h2 t2)
        clear h2 t2 g2
        go_wp2_with fail
        refine (HC2.out w2 v2 HL2.out).mono ?_
        rintro e w3 ⟨rfl, v3, h3, t3, g3⟩
        have HL3 := Lib.hid (HL2.out.step h3 t3)
        clear h3 t3 g3
        go_wp2_with fail
        refine (HC3.out w3 v3 HL3.out).mono ?_
        rintro e w4 ⟨rfl, h4, t4, g4⟩
        have HL4 := Lib.hid (HL3.out.step h4 t4)
        clear h4 t4 g4
        go_wp2_with fail
        refine (HC4.out w4 v3 HL4.out).mono ?_
        rintro e w5 ⟨rfl, v5, h5, t5, g5⟩
        have HL5 := Lib.hid (HL4.out.step h5 t5)
        clear h5 t5 g5
        go_wp2_with fail
        refine (HC5.out w5 v5 HL5.out).mono ?_
        rintro e w6 ⟨rfl, v6, h6, t6, g6⟩
        have HL6 := Lib.hid (show Wl w w6 v6 (pieceH acc 1 m) from by
          have e := HL5.out.step h6 t6
          unfold pieceH
          rw [← HQ.out]
          exact e)
        clear h6 t6 g6
        go_wp2_with fail
        go_loopw [34] (fun s34 wx => ∃ (k : Nat) (vx : Value), k ≤ m ∧ s34 = .int .i64 k ∧ Hid (Wl w wx vx (pieceH acc 1 m ++ (xs.take k).flatMap fun x => bitsOf x 8))) (fun s34 _ => m - (intOf s34).toNat)
        case atStart => exact ⟨0, v6, by omega, rfl, Lib.hid (by simpa using HL6.out)⟩
        case round =>
          obtain ⟨k, vx, hk, rfl, HLX⟩ := hrel
          rename World => wx
          by_cases hkm : k < m
          · exact absurd hkm (by have := HM0.out; omega)
          · have hke : k = m := by omega
            rw [hke] at HLX
            have hnk : ¬ ((k : Int) < (m : Int)) := by omega
            clear hke hkm
            have HBY := Lib.hid (wbytes_any HLX.out.wr (by have := HA.out; have := L5.out; rw [List.length_append, flat8_len, List.length_take]; omega))
            have HEQ := Lib.hid (show storB b = pieceH acc 1 m ++ (xs.take m).flatMap (fun x => bitsOf x 8) from by
              have e := HF.out
              simp only [storF] at e
              rw [if_pos (by omega)] at e
              unfold pieceB at e
              rw [hxl] at e
              rw [List.take_of_length_le (by omega)]
              exact e.symm)
            go_wp2_with fail
            refine HBY.out.mono ?_
            rintro e w9 ⟨a9, c9, rfl, h9, b9, f9⟩
            have HB9 := Lib.hid h9
            have HBE := Lib.hid (show Below w.heap.size w w9 from HLX.out.bel.trans (b9.mono HLX.out.bel.size))
            clear h9 b9 f9
            go_wp2_with fail
            go_ret
            rw [HEQ.out]
            exact ⟨a9, c9, rfl, HB9.out, HBE.out⟩
      · obtain rfl : m = c' := by omega
        obtain ⟨q, hq⟩ : ∃ q, q = 4294967295 - m := ⟨_, rfl⟩
        have hqx : bits .xor .u32 IntKind.u32.max (m : Int) = (q : Int) := by rw [hq]; exact not_word m (by omega)
        have hql : q < 4294967296 := by omega
        have HQ := Lib.hid hq
        clear hq
        have L2 := Lib.hid (alg_le (acc ++ bitsOf 1 1 ++ bitsOf 0 2))
        have L5 := Lib.hid (pieceH_len acc 1 m)
        have HM16 := Lib.hid (show m < 4294967296 by omega)
        have HA := Lib.hid (show acc.length ≤ 9000000 by omega)
        have HC1 := Lib.hid (wbits_any HW.out HSZ.out 1 (by omega) 1 (by omega) (by have := HA.out; omega))
        have HC2 := Lib.hid (fun (wx : World) (vx : Value) (hx : Wl w wx vx (acc ++ bitsOf 1 1)) => wbits_any hx.wr hx.bel.size 0 (by omega) 2 (by omega) (by have := HA.out; simp only [List.length_append, bitsOf_length]; omega))
        have HC3 := Lib.hid (fun (wx : World) (vx : Value) (hx : Wl w wx vx (acc ++ bitsOf 1 1 ++ bitsOf 0 2)) => sqalign_any hx.wr (by have := HA.out; simp only [List.length_append, bitsOf_length]; omega))
        have HC4 := Lib.hid (fun (wx : World) (vx : Value) (hx : Wl w wx vx (alg (acc ++ bitsOf 1 1 ++ bitsOf 0 2))) => wbits_any hx.wr hx.bel.size m (by omega) 16 (by omega) (by have := HA.out; have := L2.out; simp only [List.length_append, bitsOf_length] at this; omega))
        have HC5 := Lib.hid (fun (wx : World) (vx : Value) (hx : Wl w wx vx (alg (acc ++ bitsOf 1 1 ++ bitsOf 0 2) ++ bitsOf m 16)) => wbits_any hx.wr hx.bel.size q (by omega) 16 (by omega) (by have := HA.out; have := L2.out; simp only [List.length_append, bitsOf_length] at this ⊢; omega))
        have HP := Lib.hid (fun (wx : World) (vx : Value) (l : List Nat) (hx : Wl w wx vx l) => HX.out.kept hx.bel)
        have HWL := Lib.hid (show Wl w wr v acc from ⟨HW.out, HB.out⟩)
        go_wp2_with fail
        refine HC1.out.mono ?_
        rintro e w2 ⟨rfl, v2, h2, t2, g2⟩
        have HL2 := Lib.hid (HWL.out.step h2 t2)
        clear h2 t2 g2
        go_wp2_with fail
        refine (HC2.out w2 v2 HL2.out).mono ?_
        rintro e w3 ⟨rfl, v3, h3, t3, g3⟩
        have HL3 := Lib.hid (HL2.out.step h3 t3)
        clear h3 t3 g3
        go_wp2_with fail
        refine (HC3.out w3 v3 HL3.out).mono ?_
        rintro e w4 ⟨rfl, h4, t4, g4⟩
        have HL4 := Lib.hid (HL3.out.step h4 t4)
        clear h4 t4 g4
        go_wp2_with fail
        refine (HC4.out w4 v3 HL4.out).mono ?_
        rintro e w5 ⟨rfl, v5, h5, t5, g5⟩
        have HL5 := Lib.hid (HL4.out.step h5 t5)
        clear h5 t5 g5
        go_wp2_with fail
        refine (HC5.out w5 v5 HL5.out).mono ?_
        rintro e w6 ⟨rfl, v6, h6, t6, g6⟩
        have HL6 := Lib.hid (show Wl w w6 v6 (pieceH acc 1 m) from by
          have e := HL5.out.step h6 t6
          unfold pieceH
          rw [← HQ.out]
          exact e)
        clear h6 t6 g6
        go_wp2_with fail
        go_loopw [34] (fun s34 wx => ∃ (k : Nat) (vx : Value), k ≤ m ∧ s34 = .int .i64 k ∧ Hid (Wl w wx vx (pieceH acc 1 m ++ (xs.take k).flatMap fun x => bitsOf x 8))) (fun s34 _ => m - (intOf s34).toNat)
        case atStart => exact ⟨0, v6, by omega, rfl, Lib.hid (by simpa using HL6.out)⟩
        case round =>
          obtain ⟨k, vx, hk, rfl, HLX⟩ := hrel
          rename World => wx
          by_cases hkm : k < m
          · exact absurd hkm (by have := HM0.out; omega)
          · have hke : k = m := by omega
            rw [hke] at HLX
            have hnk : ¬ ((k : Int) < (m : Int)) := by omega
            clear hke hkm
            have HBY := Lib.hid (wbytes_any HLX.out.wr (by have := HA.out; have := L5.out; rw [List.length_append, flat8_len, List.length_take]; omega))
            have HEQ := Lib.hid (show storB b = pieceH acc 1 m ++ (xs.take m).flatMap (fun x => bitsOf x 8) from by
              have e := HF.out
              simp only [storF] at e
              rw [if_pos (by omega)] at e
              unfold pieceB at e
              rw [hxl] at e
              rw [List.take_of_length_le (by omega)]
              exact e.symm)
            go_wp2_with fail
            refine HBY.out.mono ?_
            rintro e w9 ⟨a9, c9, rfl, h9, b9, f9⟩
            have HB9 := Lib.hid h9
            have HBE := Lib.hid (show Below w.heap.size w w9 from HLX.out.bel.trans (b9.mono HLX.out.bel.size))
            clear h9 b9 f9
            go_wp2_with fail
            go_ret
            rw [HEQ.out]
            exact ⟨a9, c9, rfl, HB9.out, HBE.out⟩
    by_cases hm : m ≤ 65535
    · obtain ⟨g, off, ha, hg, hc⟩ := HX.out.cells (by omega)
      subst ha
      clear hc
      have hmin : min (65535 : Int) (m : Int) = (m : Int) := by omega
      rcases Nat.lt_or_ge m c' with hlt | hge
      · have hne : ¬ c' = m := by omega
        have hne2 : ¬ m = c' := by omega
        obtain ⟨q, hq⟩ : ∃ q, q = 4294967295 - m := ⟨_, rfl⟩
        have hqx : bits .xor .u32 IntKind.u32.max (m : Int) = (q : Int) := by rw [hq]; exact not_word m (by omega)
        have hql : q < 4294967296 := by omega
        have HQ := Lib.hid hq
        clear hq
        have L2 := Lib.hid (alg_le (acc ++ bitsOf 1 1 ++ bitsOf 0 2))
        have L5 := Lib.hid (pieceH_len acc 1 m)
        have HM16 := Lib.hid (show m < 4294967296 by omega)
        have HA := Lib.hid (show acc.length ≤ 9000000 by omega)
        have HC1 := Lib.hid (wbits_any HW.out HSZ.out 1 (by omega) 1 (by omega) (by have := HA.out; omega))
        have HC2 := Lib.hid (fun (wx : World) (vx : Value) (hx : Wl w wx vx (acc ++ bitsOf 1 1)) => wbits_any hx.wr hx.bel.size 0 (by omega) 2 (by omega) (by have := HA.out; simp only [List.length_append, bitsOf_length]; omega))
        have HC3 := Lib.hid (fun (wx : World) (vx : Value) (hx : Wl w wx vx (acc ++ bitsOf 1 1 ++ bitsOf 0 2)) => sqalign_any hx.wr (by have := HA.out; simp only [List.length_append, bitsOf_length]; omega))
        have HC4 := Lib.hid (fun (wx : World) (vx : Value) (hx : Wl w wx vx (alg (acc ++ bitsOf 1 1 ++ bitsOf 0 2))) => wbits_any hx.wr hx.bel.size m (by omega) 16 (by omega) (by have := HA.out; have := L2.out; simp only [List.length_append, bitsOf_length] at this; omega))
        have HC5 := Lib.hid (fun (wx : World) (vx : Value) (hx : Wl w wx vx (alg (acc ++ bitsOf 1 1 ++ bitsOf 0 2) ++ bitsOf m 16)) => wbits_any hx.wr hx.bel.size q (by omega) 16 (by omega) (by have := HA.out; have := L2.out; simp only [List.length_append, bitsOf_length] at this ⊢; omega))
        have HP := Lib.hid (fun (wx : World) (vx : Value) (l : List Nat) (hx : Wl w wx vx l) => HX.out.kept hx.bel)
        have HWL := Lib.hid (show Wl w wr v acc from ⟨HW.out, HB.out⟩)
        go_wp2_with fail
        refine HC1.out.mono ?_
        rintro e w2 ⟨rfl, v2, h2, t2, g2⟩
        have HL2 := Lib.hid (HWL.out.step h2 t2)
        clear h2 t2 g2
        go_wp2_with fail
        refine (HC2.out w2 v2 HL2.out).mono ?_
        rintro e w3 ⟨rfl, v3, h3, t3, g3⟩
        have HL3 := Lib.hid (HL2.out.step h3 t3)
        clear h3 t3 g3
        go_wp2_with fail
        refine (HC3.out w3 v3 HL3.out).mono ?_
        rintro e w4 ⟨rfl, h4, t4, g4⟩
        have HL4 := Lib.hid (HL3.out.step h4 t4)
        clear h4 t4 g4
        go_wp2_with fail
        refine (HC4.out w4 v3 HL4.out).mono ?_
        rintro e w5 ⟨rfl, v5, h5, t5, g5⟩
        have HL5 := Lib.hid (HL4.out.step h5 t5)
        clear h5 t5 g5
        go_wp2_with fail
        refine (HC5.out w5 v5 HL5.out).mono ?_
        rintro e w6 ⟨rfl, v6, h6, t6, g6⟩
        have HL6 := Lib.hid (show Wl w w6 v6 (pieceH acc 1 m) from by
          have e := HL5.out.step h6 t6
          unfold pieceH
          rw [← HQ.out]
          exact e)
        clear h6 t6 g6
        go_wp2_with fail
        go_loopw [34] (fun s34 wx => ∃ (k : Nat) (vx : Value), k ≤ m ∧ s34 = .int .i64 k ∧ Hid (Wl w wx vx (pieceH acc 1 m ++ (xs.take k).flatMap fun x => bitsOf x 8))) (fun s34 _ => m - (intOf s34).toNat)
        case atStart => exact ⟨0, v6, by omega, rfl, Lib.hid (by simpa using HL6.out)⟩
        case round =>
          obtain ⟨k, vx, hk, rfl, HLX⟩ := hrel
          rename World => wx
          by_cases hkm : k < m
          · have hki : (k : Int) < (m : Int) := by omega
            have HPX := Lib.hid (show BytesAt wx (some ⟨g, off, none⟩) m c' xs from HP.out wx vx _ HLX.out)
            obtain ⟨g1, off1, ha1, hg1, hc1⟩ := HPX.out.cells (by omega)
            have x0 := hc1 k hkm
            obtain ⟨x, hx⟩ : ∃ x, x = (xs).getD k 0 := ⟨_, rfl⟩
            have hx2 : x < 256 := by
              rw [hx]
              have hlt : k < (xs).length := by rw [HPX.out.len]; exact hkm
              have e1 : (xs).getD k 0 = (xs)[k] := getD_get hlt
              rw [e1]
              exact HPX.out.byte _ (List.getElem_mem hlt)
            rw [← hx] at x0
            cases ha1
            have HC6 := Lib.hid (wbits_any HLX.out.wr HLX.out.bel.size x (by omega) 8 (by omega) (by have := HA.out; have := L5.out; rw [List.length_append, flat8_len, List.length_take]; omega))
            have HTK := Lib.hid (show (xs.take (k + 1)).flatMap (fun x => bitsOf x 8) = (xs.take k).flatMap (fun x => bitsOf x 8) ++ bitsOf x 8 from by
              have hlt : k < (xs).length := by rw [HPX.out.len]; exact hkm
              rw [List.take_add_one, List.getElem?_eq_getElem hlt, List.flatMap_append]
              have e1 : (xs).getD k 0 = (xs)[k] := getD_get hlt
              rw [hx, e1]
              simp)
            clear hc1 hx
            go_wp2_with fail
            refine HC6.out.mono ?_
            rintro e w8 ⟨rfl, v8, h8, t8, g8⟩
            have HL8 := Lib.hid (HLX.out.step h8 t8)
            clear h8 t8 g8
            go_wp2_with fail
            go_roundw
            case rel => exact ⟨k + 1, v8, by omega, by go_num, Lib.hid (by rw [HTK.out, ← List.append_assoc]; exact HL8.out)⟩
            case measure => simp [intOf]; omega
          · have hke : k = m := by omega
            rw [hke] at HLX
            have hnk : ¬ ((k : Int) < (m : Int)) := by omega
            clear hke hkm
            have HBY := Lib.hid (wbytes_any HLX.out.wr (by have := HA.out; have := L5.out; rw [List.length_append, flat8_len, List.length_take]; omega))
            have HEQ := Lib.hid (show storB b = pieceH acc 1 m ++ (xs.take m).flatMap (fun x => bitsOf x 8) from by
              have e := HF.out
              simp only [storF] at e
              rw [if_pos (by omega)] at e
              unfold pieceB at e
              rw [hxl] at e
              rw [List.take_of_length_le (by omega)]
              exact e.symm)
            go_wp2_with fail
            refine HBY.out.mono ?_
            rintro e w9 ⟨a9, c9, rfl, h9, b9, f9⟩
            have HB9 := Lib.hid h9
            have HBE := Lib.hid (show Below w.heap.size w w9 from HLX.out.bel.trans (b9.mono HLX.out.bel.size))
            clear h9 b9 f9
            go_wp2_with fail
            go_ret
            rw [HEQ.out]
            exact ⟨a9, c9, rfl, HB9.out, HBE.out⟩
      · obtain rfl : m = c' := by omega
        obtain ⟨q, hq⟩ : ∃ q, q = 4294967295 - m := ⟨_, rfl⟩
        have hqx : bits .xor .u32 IntKind.u32.max (m : Int) = (q : Int) := by rw [hq]; exact not_word m (by omega)
        have hql : q < 4294967296 := by omega
        have HQ := Lib.hid hq
        clear hq
        have L2 := Lib.hid (alg_le (acc ++ bitsOf 1 1 ++ bitsOf 0 2))
        have L5 := Lib.hid (pieceH_len acc 1 m)
        have HM16 := Lib.hid (show m < 4294967296 by omega)
        have HA := Lib.hid (show acc.length ≤ 9000000 by omega)
        have HC1 := Lib.hid (wbits_any HW.out HSZ.out 1 (by omega) 1 (by omega) (by have := HA.out; omega))
        have HC2 := Lib.hid (fun (wx : World) (vx : Value) (hx : Wl w wx vx (acc ++ bitsOf 1 1)) => wbits_any hx.wr hx.bel.size 0 (by omega) 2 (by omega) (by have := HA.out; simp only [List.length_append, bitsOf_length]; omega))
        have HC3 := Lib.hid (fun (wx : World) (vx : Value) (hx : Wl w wx vx (acc ++ bitsOf 1 1 ++ bitsOf 0 2)) => sqalign_any hx.wr (by have := HA.out; simp only [List.length_append, bitsOf_length]; omega))
        have HC4 := Lib.hid (fun (wx : World) (vx : Value) (hx : Wl w wx vx (alg (acc ++ bitsOf 1 1 ++ bitsOf 0 2))) => wbits_any hx.wr hx.bel.size m (by omega) 16 (by omega) (by have := HA.out; have := L2.out; simp only [List.length_append, bitsOf_length] at this; omega))
        have HC5 := Lib.hid (fun (wx : World) (vx : Value) (hx : Wl w wx vx (alg (acc ++ bitsOf 1 1 ++ bitsOf 0 2) ++ bitsOf m 16)) => wbits_any hx.wr hx.bel.size q (by omega) 16 (by omega) (by have := HA.out; have := L2.out; simp only [List.length_append, bitsOf_length] at this ⊢; omega))
        have HP := Lib.hid (fun (wx : World) (vx : Value) (l : List Nat) (hx : Wl w wx vx l) => HX.out.kept hx.bel)
        have HWL := Lib.hid (show Wl w wr v acc from ⟨HW.out, HB.out⟩)
        go_wp2_with fail
        refine HC1.out.mono ?_
        rintro e w2 ⟨rfl, v2, h2, t2, g2⟩
        have HL2 := Lib.hid (HWL.out.step h2 t2)
        clear h2 t2 g2
        go_wp2_with fail
        refine (HC2.out w2 v2 HL2.out).mono ?_
        rintro e w3 ⟨rfl, v3, h3, t3, g3⟩
        have HL3 := Lib.hid (HL2.out.step h3 t3)
        clear h3 t3 g3
        go_wp2_with fail
        refine (HC3.out w3 v3 HL3.out).mono ?_
        rintro e w4 ⟨rfl, h4, t4, g4⟩
        have HL4 := Lib.hid (HL3.out.step h4 t4)
        clear h4 t4 g4
        go_wp2_with fail
        refine (HC4.out w4 v3 HL4.out).mono ?_
        rintro e w5 ⟨rfl, v5, h5, t5, g5⟩
        have HL5 := Lib.hid (HL4.out.step h5 t5)
        clear h5 t5 g5
        go_wp2_with fail
        refine (HC5.out w5 v5 HL5.out).mono ?_
        rintro e w6 ⟨rfl, v6, h6, t6, g6⟩
        have HL6 := Lib.hid (show Wl w w6 v6 (pieceH acc 1 m) from by
          have e := HL5.out.step h6 t6
          unfold pieceH
          rw [← HQ.out]
          exact e)
        clear h6 t6 g6
        go_wp2_with fail
        go_loopw [34] (fun s34 wx => ∃ (k : Nat) (vx : Value), k ≤ m ∧ s34 = .int .i64 k ∧ Hid (Wl w wx vx (pieceH acc 1 m ++ (xs.take k).flatMap fun x => bitsOf x 8))) (fun s34 _ => m - (intOf s34).toNat)
        case atStart => exact ⟨0, v6, by omega, rfl, Lib.hid (by simpa using HL6.out)⟩
        case round =>
          obtain ⟨k, vx, hk, rfl, HLX⟩ := hrel
          rename World => wx
          by_cases hkm : k < m
          · have hki : (k : Int) < (m : Int) := by omega
            have HPX := Lib.hid (show BytesAt wx (some ⟨g, off, none⟩) m m xs from HP.out wx vx _ HLX.out)
            obtain ⟨g1, off1, ha1, hg1, hc1⟩ := HPX.out.cells (by omega)
            have x0 := hc1 k hkm
            obtain ⟨x, hx⟩ : ∃ x, x = (xs).getD k 0 := ⟨_, rfl⟩
            have hx2 : x < 256 := by
              rw [hx]
              have hlt : k < (xs).length := by rw [HPX.out.len]; exact hkm
              have e1 : (xs).getD k 0 = (xs)[k] := getD_get hlt
              rw [e1]
              exact HPX.out.byte _ (List.getElem_mem hlt)
            rw [← hx] at x0
            cases ha1
            have HC6 := Lib.hid (wbits_any HLX.out.wr HLX.out.bel.size x (by omega) 8 (by omega) (by have := HA.out; have := L5.out; rw [List.length_append, flat8_len, List.length_take]; omega))
            have HTK := Lib.hid (show (xs.take (k + 1)).flatMap (fun x => bitsOf x 8) = (xs.take k).flatMap (fun x => bitsOf x 8) ++ bitsOf x 8 from by
              have hlt : k < (xs).length := by rw [HPX.out.len]; exact hkm
              rw [List.take_add_one, List.getElem?_eq_getElem hlt, List.flatMap_append]
              have e1 : (xs).getD k 0 = (xs)[k] := getD_get hlt
              rw [hx, e1]
              simp)
            clear hc1 hx
            go_wp2_with fail
            refine HC6.out.mono ?_
            rintro e w8 ⟨rfl, v8, h8, t8, g8⟩
            have HL8 := Lib.hid (HLX.out.step h8 t8)
            clear h8 t8 g8
            go_wp2_with fail
            go_roundw
            case rel => exact ⟨k + 1, v8, by omega, by go_num, Lib.hid (by rw [HTK.out, ← List.append_assoc]; exact HL8.out)⟩
            case measure => simp [intOf]; omega
          · have hke : k = m := by omega
            rw [hke] at HLX
            have hnk : ¬ ((k : Int) < (m : Int)) := by omega
            clear hke hkm
            have HBY := Lib.hid (wbytes_any HLX.out.wr (by have := HA.out; have := L5.out; rw [List.length_append, flat8_len, List.length_take]; omega))
            have HEQ := Lib.hid (show storB b = pieceH acc 1 m ++ (xs.take m).flatMap (fun x => bitsOf x 8) from by
              have e := HF.out
              simp only [storF] at e
              rw [if_pos (by omega)] at e
              unfold pieceB at e
              rw [hxl] at e
              rw [List.take_of_length_le (by omega)]
              exact e.symm)
            go_wp2_with fail
            refine HBY.out.mono ?_
            rintro e w9 ⟨a9, c9, rfl, h9, b9, f9⟩
            have HB9 := Lib.hid h9
            have HBE := Lib.hid (show Below w.heap.size w w9 from HLX.out.bel.trans (b9.mono HLX.out.bel.size))
            clear h9 b9 f9
            go_wp2_with fail
            go_ret
            rw [HEQ.out]
            exact ⟨a9, c9, rfl, HB9.out, HBE.out⟩
    · obtain ⟨g, off, ha, hg, hc⟩ := HX.out.cells (by omega)
      subst ha
      obtain ⟨K, hK1, hK2⟩ : ∃ K : Nat, 65535 ≤ K ∧ K ≤ 65535 := ⟨65535, Nat.le_refl _, Nat.le_refl _⟩
      have HKK := Lib.hid (show K = 65535 from Nat.le_antisymm hK2 hK1)
      obtain ⟨m2, rfl⟩ : ∃ m2, m = m2 + K := ⟨m - K, by omega⟩
      obtain ⟨c2, rfl⟩ : ∃ c2, c' = c2 + K := ⟨c' - K, by omega⟩
      have hmin : min (65535 : Int) ((m2 + K : Nat) : Int) = (K : Int) := by omega
      have hmin2 : min (65535 : Int) ((m2 : Int) + (K : Int)) = (K : Int) := by omega
      have hm2 : 0 < m2 := by omega
      have hz : ((m2 : Int) == 0) = false := by rw [beq_eq_false_iff_ne]; omega
      have HR := Lib.hid (show BytesAt w (some ⟨g, off + K, none⟩) m2 c2 (xs.drop K) from by
        have := HX.out.behind K (by omega)
        rw [Nat.add_sub_cancel, Nat.add_sub_cancel] at this
        exact this)
      have HA2 := Lib.hid hac
      clear hc
      obtain ⟨q, hq⟩ : ∃ q, q = 4294967295 - K := ⟨_, rfl⟩
      have hqx : bits .xor .u32 IntKind.u32.max (K : Int) = (q : Int) := by rw [hq]; exact not_word K (by omega)
      have hql : q < 4294967296 := by omega
      have HQ := Lib.hid hq
      clear hq
      have L2 := Lib.hid (alg_le (acc ++ bitsOf 0 1 ++ bitsOf 0 2))
      have L5 := Lib.hid (pieceH_len acc 0 K)
      have HM16 := Lib.hid (show K < 4294967296 by omega)
      have HA := Lib.hid (show acc.length ≤ 9000000 by omega)
      have HC1 := Lib.hid (wbits_any HW.out HSZ.out 0 (by omega) 1 (by omega) (by have := HA.out; omega))
      have HC2 := Lib.hid (fun (wx : World) (vx : Value) (hx : Wl w wx vx (acc ++ bitsOf 0 1)) => wbits_any hx.wr hx.bel.size 0 (by omega) 2 (by omega) (by have := HA.out; simp only [List.length_append, bitsOf_length]; omega))
      have HC3 := Lib.hid (fun (wx : World) (vx : Value) (hx : Wl w wx vx (acc ++ bitsOf 0 1 ++ bitsOf 0 2)) => sqalign_any hx.wr (by have := HA.out; simp only [List.length_append, bitsOf_length]; omega))
      have HC4 := Lib.hid (fun (wx : World) (vx : Value) (hx : Wl w wx vx (alg (acc ++ bitsOf 0 1 ++ bitsOf 0 2))) => wbits_any hx.wr hx.bel.size K (by omega) 16 (by omega) (by have := HA.out; have := L2.out; simp only [List.length_append, bitsOf_length] at this; omega))
      have HC5 := Lib.hid (fun (wx : World) (vx : Value) (hx : Wl w wx vx (alg (acc ++ bitsOf 0 1 ++ bitsOf 0 2) ++ bitsOf K 16)) => wbits_any hx.wr hx.bel.size q (by omega) 16 (by omega) (by have := HA.out; have := L2.out; simp only [List.length_append, bitsOf_length] at this ⊢; omega))
      have HP := Lib.hid (fun (wx : World) (vx : Value) (l : List Nat) (hx : Wl w wx vx l) => (HX.out.upto K (by omega)).kept hx.bel)
      have HWL := Lib.hid (show Wl w wr v acc from ⟨HW.out, HB.out⟩)
      go_wp2_with fail
      refine HC1.out.mono ?_
      rintro e w2 ⟨rfl, v2, h2, t2, g2⟩
      have HL2 := Lib.hid (HWL.out.step h2 t2)
      clear h2 t2 g2
      go_wp2_with fail
      refine (HC2.out w2 v2 HL2.out).mono ?_
      rintro e w3 ⟨rfl, v3, h3, t3, g3⟩
      have HL3 := Lib.hid (HL2.out.step h3 t3)
      clear h3 t3 g3
      go_wp2_with fail
      refine (HC3.out w3 v3 HL3.out).mono ?_
      rintro e w4 ⟨rfl, h4, t4, g4⟩
      have HL4 := Lib.hid (HL3.out.step h4 t4)
      clear h4 t4 g4
      go_wp2_with fail
      refine (HC4.out w4 v3 HL4.out).mono ?_
      rintro e w5 ⟨rfl, v5, h5, t5, g5⟩
      have HL5 := Lib.hid (HL4.out.step h5 t5)
      clear h5 t5 g5
      go_wp2_with fail
      refine (HC5.out w5 v5 HL5.out).mono ?_
      rintro e w6 ⟨rfl, v6, h6, t6, g6⟩
      have HL6 := Lib.hid (show Wl w w6 v6 (pieceH acc 0 K) from by
        have e := HL5.out.step h6 t6
        unfold pieceH
        rw [← HQ.out]
        exact e)
      clear h6 t6 g6
      go_wp2_with fail
      go_loopw [34] (fun s34 wx => ∃ (k : Nat) (vx : Value), k ≤ K ∧ s34 = .int .i64 k ∧ Hid (Wl w wx vx (pieceH acc 0 K ++ ((xs.take K).take k).flatMap fun x => bitsOf x 8))) (fun s34 _ => K - (intOf s34).toNat)
      case atStart => exact ⟨0, v6, by omega, rfl, Lib.hid (by simpa using HL6.out)⟩
      case round =>
        obtain ⟨k, vx, hk, rfl, HLX⟩ := hrel
        rename World => wx
        by_cases hkm : k < K
        · have hki : (k : Int) < (K : Int) := by omega
          have HPX := Lib.hid (show BytesAt wx (some ⟨g, off, none⟩) K (c2 + K) (xs.take K) from HP.out wx vx _ HLX.out)
          obtain ⟨g1, off1, ha1, hg1, hc1⟩ := HPX.out.cells (by omega)
          have x0 := hc1 k hkm
          obtain ⟨x, hx⟩ : ∃ x, x = ((xs.take K)).getD k 0 := ⟨_, rfl⟩
          have hx2 : x < 256 := by
            rw [hx]
            have hlt : k < ((xs.take K)).length := by rw [HPX.out.len]; exact hkm
            have e1 : ((xs.take K)).getD k 0 = ((xs.take K))[k] := getD_get hlt
            rw [e1]
            exact HPX.out.byte _ (List.getElem_mem hlt)
          rw [← hx] at x0
          cases ha1
          have HC6 := Lib.hid (wbits_any HLX.out.wr HLX.out.bel.size x (by omega) 8 (by omega) (by have := HA.out; have := L5.out; rw [List.length_append, flat8_len, List.length_take]; omega))
          have HTK := Lib.hid (show ((xs.take K).take (k + 1)).flatMap (fun x => bitsOf x 8) = ((xs.take K).take k).flatMap (fun x => bitsOf x 8) ++ bitsOf x 8 from by
            have hlt : k < ((xs.take K)).length := by rw [HPX.out.len]; exact hkm
            rw [List.take_add_one, List.getElem?_eq_getElem hlt, List.flatMap_append]
            have e1 : ((xs.take K)).getD k 0 = ((xs.take K))[k] := getD_get hlt
            rw [hx, e1]
            simp)
          clear hc1 hx
          go_wp2_with fail
          refine HC6.out.mono ?_
          rintro e w8 ⟨rfl, v8, h8, t8, g8⟩
          have HL8 := Lib.hid (HLX.out.step h8 t8)
          clear h8 t8 g8
          go_wp2_with fail
          go_roundw
          case rel => exact ⟨k + 1, v8, by omega, by go_num, Lib.hid (by rw [HTK.out, ← List.append_assoc]; exact HL8.out)⟩
          case measure => simp [intOf]; omega
        · have hke : k = K := by omega
          rw [hke] at HLX
          have hnk : ¬ ((k : Int) < (K : Int)) := by omega
          clear hke hkm
          have HEQ := Lib.hid (show storF (f - 1 + 1) (pieceH acc 0 K ++ (((xs.take K)).take K).flatMap (fun x => bitsOf x 8)) (xs.drop K) = storB b from by
            have e := HF.out
            have hf : f - 1 + 1 = f := by omega
            simp only [storF] at e
            rw [← HKK.out, if_neg (by omega)] at e
            unfold pieceB at e
            rw [List.length_take, show min K xs.length = K from by omega] at e
            rw [List.take_of_length_le (by rw [List.length_take]; omega), hf]
            exact e)
          have HLEN := Lib.hid (show (pieceH acc 0 K ++ (((xs.take K)).take K).flatMap (fun x => bitsOf x 8)).length + 9 * m2 ≤ 9 * n from by have := HA2.out; have := L5.out; rw [List.length_append, flat8_len, List.length_take]; omega)
          go_wp2_with fail
          go_roundw
          case rel => exact ⟨f - 1, some ⟨g, off + K, none⟩, m2, c2, xs.drop K, _, vx, rfl, by omega, HLEN.out, HR, Lib.hid HLX.out.wr, Lib.hid HLX.out.bel, HEQ⟩
          case measure => simp; omega

theorem bsum_left (A l : List Nat) (p : Nat) : ∀ k, p + k ≤ A.length → bsum (A ++ l) p k = bsum A p k
  | 0, _ => rfl
  | k + 1, h => by
    have ih := bsum_left A l p k (by omega)
    have e : (A ++ l).getD (p + k) 0 = A.getD (p + k) 0 := by simp [List.getElem?_append_left (show p + k < A.length by omega)]
    simp only [bsum]
    rw [ih, e]
theorem bsum_right (A l : List Nat) (p : Nat) : ∀ k, bsum (A ++ l) (A.length + p) k = bsum l p k
  | 0 => rfl
  | k + 1 => by
    have ih := bsum_right A l p k
    have e : (A ++ l).getD (A.length + p + k) 0 = l.getD (p + k) 0 := by
      rw [List.getD_eq_getElem?_getD, List.getD_eq_getElem?_getD, List.getElem?_append_right (by omega), show A.length + p + k - A.length = p + k from by omega]
    simp only [bsum]
    rw [ih, e]
theorem pack_app {A : List Nat} (h : A.length % 8 = 0) (l : List Nat) : pack (A ++ l) = pack A ++ pack l := by
  refine ext_getD (by simp only [pack_length, List.length_append]; omega) (fun j hj => ?_)
  rw [pack_get]
  rcases Nat.lt_or_ge j (pack A).length with g | g
  · have e : (pack A ++ pack l).getD j 0 = (pack A).getD j 0 := by simp [List.getElem?_append_left g]
    rw [pack_length] at g
    rw [e, pack_get, bsum_left A l (8 * j) 8 (by omega)]
  · obtain ⟨i, rfl⟩ : ∃ i, j = (pack A).length + i := ⟨j - (pack A).length, by omega⟩
    have e : (pack A ++ pack l).getD ((pack A).length + i) 0 = (pack l).getD i 0 := by
      rw [List.getD_eq_getElem?_getD, List.getD_eq_getElem?_getD, List.getElem?_append_right (by omega), show (pack A).length + i - (pack A).length = i from by omega]
    have e2 : 8 * ((pack A).length + i) = A.length + 8 * i := by rw [pack_length]; omega
    rw [e, pack_get, e2, bsum_right]
theorem pack_one : ∀ x, x < 256 → pack (bitsOf x 8) = [x] := by decide +kernel
theorem pack_flat8 : ∀ {xs : List Nat}, (∀ x ∈ xs, x < 256) → pack (xs.flatMap fun x => bitsOf x 8) = xs
  | [], _ => by decide
  | x :: r, h => by
    rw [List.flatMap_cons, pack_app (by rw [bitsOf_length]), pack_one x (h x (by simp)), pack_flat8 (fun y hy => h y (by simp [hy]))]
    rfl
theorem bitsOf_add (v a b : Nat) : bitsOf v (a + b) = bitsOf v a ++ bitsOf (v / 2 ^ a) b := by
  simp only [bitsOf, List.range_add, List.map_append, List.map_map]
  congr 1
  refine List.map_congr_left (fun i _ => ?_)
  simp only [Function.comp]
  rw [Nat.div_div_eq_div_mul, ← Nat.pow_add]
theorem bitsOf_mod (v : Nat) : bitsOf (v % 256) 8 = bitsOf v 8 := by
  simp only [bitsOf, List.range, List.range.loop, List.map_cons, List.map_nil, List.cons.injEq, and_true]
  omega
theorem bits16 (v : Nat) : bitsOf v 16 = bitsOf (v % 256) 8 ++ bitsOf (v / 256 % 256) 8 := by
  rw [show (16 : Nat) = 8 + 8 from rfl, bitsOf_add, bitsOf_mod, bitsOf_mod]
/-- the stored form -/
def stP (b : List Nat) : List Nat := [1, b.length % 256, b.length / 256, 255 - b.length % 256, 255 - b.length / 256] ++ b
theorem stor_bytes {b : List Nat} (hb : ∀ x ∈ b, x < 256) (hn : b.length ≤ 65535) : pack (storB b) = stP b := by
  have e : storB b = (stP b).flatMap fun x => bitsOf x 8 := by
    unfold storB
    simp only [storF]
    rw [if_pos hn]
    unfold pieceB pieceH
    rw [show alg ([] ++ bitsOf 1 1 ++ bitsOf 0 2) = bitsOf 1 8 from by decide, bits16 b.length, bits16 (4294967295 - b.length)]
    rw [show b.length / 256 % 256 = b.length / 256 from by omega, show (4294967295 - b.length) % 256 = 255 - b.length % 256 from by omega, show (4294967295 - b.length) / 256 % 256 = 255 - b.length / 256 from by omega]
    simp [stP, List.flatMap_cons]
  rw [e, pack_flat8]
  intro x hx
  unfold stP at hx
  rcases List.mem_append.1 hx with h | h
  · simp only [List.mem_cons, List.not_mem_nil, or_false] at h
    omega
  · exact hb x h
theorem stP_len (b : List Nat) : (stP b).length = b.length + 5 := by simp [stP]
end Go.Proofs.YtpbijdoemdoijaaGreatDoor
end PkCa6_0
