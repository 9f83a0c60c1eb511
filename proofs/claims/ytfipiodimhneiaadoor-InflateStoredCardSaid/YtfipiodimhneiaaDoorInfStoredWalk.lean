/- The walk of InflateStored: it returns true for all parts. -/
import Derived.Test.YtfipiodimhneiaaDoorInfStPlain
import Derived.Test.YtfipiodimhneiaaDoorParts2
import Derived.Test.YtfipiodimhneiaaDoorApnd
namespace Go.Proofs.YtfipiodimhneiaaDoor
open Go.RowKit PrefPlain BitsPlain InfPlain StPlain
set_option linter.unusedVariables false

theorem lit5 (w : World) (l m r : Nat) (hl : l < 2) (hm : m ≤ 200) (hr : r < 256) : BytesAt (w.alloc (.cells #[.int .u8 (l : Int), .int .u8 (m : Int), .int .u8 0, .int .u8 (r : Int), .int .u8 255] 5)) (some ⟨w.heap.size, 0, none⟩) 5 5 [l, m, 0, r, 255] :=
  BytesAt.lit w _ [l, m, 0, r, 255] rfl (by intro x hx; simp at hx; omega) (by simp) (by simp)
theorem not_u8 (m : Nat) (hm : m < 256) : bits .xor .u8 IntKind.u8.max (m : Int) = ((255 - m : Nat) : Int) := by
  have h : ∀ m, m < 256 → 255 ^^^ m = 255 - m := by decide +kernel
  have := u8_xor_nat 255 m (by omega) hm
  rw [h m hm] at this
  exact this

set_option maxRecDepth 100000 in
set_option maxHeartbeats 4000000 in
theorem inflateStored_walk (a0 : Option Addr) (len0 cap0 : Nat) (z0 : (Nat → Option Addr) × (Nat → Nat) × (Nat → Nat) × (Nat → List Nat)) (w : World) (hO : Ordr w) (w0 : RowsAt2 w a0 len0 cap0 z0.1 z0.2.1 z0.2.2.1 z0.2.2.2) :
    Calls Tryd.prog 5 #[.slice a0 len0 cap0] w fun e w' => e = .returned (.bool true) ∧ Below w.heap.size w w' := by
  obtain ⟨A, L, C, X⟩ := z0
  have HL := Lib.hid (lives6_any hO)
  have HO := Lib.hid hO
  have HH := Lib.hid w0
  have hcap := w0.cap
  have hcapm := w0.capm
  clear w0 hO
  by_cases hbig : len0 = 0 ∨ (20 : Int) < (len0 : Int)
  · rcases hbig with rfl | h1
    all_goals
      go_enter Tryd.func5, Tryd.ntmps5
      go_wp2_with fail
      refine HL.out.mono ?_
      rintro e w1 ⟨rfl, hb1⟩
      have HB1 := Lib.hid hb1
      have HL1 := Lib.hid (lives6_any (HO.out.below hb1))
      clear hb1
      go_wp2_with fail
      refine HL1.out.mono ?_
      rintro e w2 ⟨rfl, hb2⟩
      have HB2 := Lib.hid (HB1.out.trans (hb2.mono HB1.out.size))
      clear hb2
      go_wp2_with fail
      go_ret
      exact ⟨rfl, HB2.out⟩
  · have h20 : (len0 : Int) ≤ 20 := by omega
    have h1 : (1 : Int) ≤ (len0 : Int) := by omega
    have h1n : 0 < len0 := by omega
    have hz : ((len0 : Int) == 0) = false := by rw [beq_eq_false_iff_ne]; omega
    clear hbig
    go_enter Tryd.func5, Tryd.ntmps5
    go_wp2_with fail
    refine HL.out.mono ?_
    rintro e w1 ⟨rfl, hbw1⟩
    have HB1 := Lib.hid hbw1
    obtain ⟨b, off, rfl, hlt, hcell⟩ := HH.out.cells h1n
    have HC := Lib.hid hcell
    obtain ⟨P, hP⟩ : ∃ P : Nat → List Nat, P = fun i => (X i).take 200 := ⟨_, rfl⟩
    have HPP := Lib.hid (show ∀ i, i < len0 → (P i).length ≤ 200 ∧ ∀ x ∈ P i, x < 256 from fun i hi => by
      rw [hP]
      obtain ⟨_, _, _, hxl, hby⟩ := hcell i hi
      have := (hby (min (L i) 200) (by omega) (by omega)).byte
      refine ⟨by simp; omega, fun x hx => this x ?_⟩
      rw [show (X i).take (min (L i) 200) = (X i).take 200 from by
        rcases Nat.le_total (L i) 200 with g | g
        · rw [Nat.min_eq_left g, List.take_of_length_le (by omega), List.take_of_length_le (by omega)]
        · rw [Nat.min_eq_right g]]
      exact hx)
    have HPD := Lib.hid hP
    clear hbw1 hcell hP
    go_wp2_with fail
    go_loopw [3, 4, 26] (fun s3 s4 s26 wr => ∃ (k lb la ca cb : Nat) (ab aa : Option Addr), k ≤ len0 ∧ s26 = .int .i64 (k : Int) ∧ s3 = .slice ab lb cb ∧ s4 = .slice aa la ca ∧ Hid (lb = (stB len0 P k).length) ∧ Hid (la = (stA P k).length) ∧ Hid (wr.ownsRow w1.heap.size 5 1 (.slice ab lb cb) lb (bv (stB len0 P k))) ∧ Hid (wr.ownsRow w1.heap.size 5 1 (.slice aa la ca) la (bv (stA P k))) ∧ Hid (Apart (.slice ab lb cb) (.slice aa la ca)) ∧ Hid (Below w1.heap.size w1 wr)) (fun _ _ s26 _ => len0 - (intOf s26).toNat)
    case atStart => exact ⟨0, 0, 0, 0, 0, none, none, by omega, rfl, rfl, rfl, Lib.hid rfl, Lib.hid rfl, Lib.hid (own_nil_bytes _ _), Lib.hid (own_nil_bytes _ _), Lib.hid (Apart.none _), Lib.hid (Below.refl _ _)⟩
    case round =>
      obtain ⟨k, lb, la, ca, cb, ab, aa, hk, rfl, rfl, rfl, HLB, HLA, HOB, HOA, HAP, HBR⟩ := hrel
      rename World => wr
      have hb0r := HB1.out.trans (HBR.out.mono HB1.out.size)
      have HB0R := Lib.hid hb0r
      have hlb : lb ≤ 4100 := by
        have := stB_len len0 P k (fun j hj => (HPP.out j (by omega)).1)
        rw [HLB.out]; omega
      have hla : la ≤ 4000 := by
        have := stA_len P k (fun j hj => (HPP.out j (by omega)).1)
        rw [HLA.out]; omega
      by_cases hkm : k < len0
      · obtain ⟨q1, q2, q3, q4, q5⟩ := HC.out k hkm
        have hck := (hb0r.cell (p := ⟨b, off + k, none⟩) hlt).trans q1
        obtain ⟨pa, hpa⟩ : ∃ pa, pa = A k := ⟨_, rfl⟩
        obtain ⟨pl, hpl⟩ : ∃ pl, pl = L k := ⟨_, rfl⟩
        obtain ⟨pc, hpc⟩ : ∃ pc, pc = C k := ⟨_, rfl⟩
        rw [← hpa, ← hpl, ← hpc] at hck
        rw [← hpl] at q2 q4
        rw [← hpc] at q2 q3
        have HQ5 := Lib.hid q5
        have HPLE := Lib.hid hpl
        have HPAE := Lib.hid hpa
        have HPCE := Lib.hid hpc
        clear q5 hpa hpl hpc
        have HPW := Lib.hid (show ∀ w', Below w1.heap.size w1 w' → ∀ m, m ≤ pl → m ≤ 200 → (pl ≤ 200 → m = pl) → (200 < pl → m = 200) → BytesAt w' pa m pc (P k) from fun w' hb m h1 h2 h3 h4 => by
          have := (HQ5.out m (by have := HPLE.out; omega) (by omega)).keep (HB1.out.trans (hb.mono HB1.out.size)) (Nat.le_refl _)
          rw [← HPAE.out, ← HPCE.out] at this
          rw [HPD.out]
          show BytesAt w' pa m pc ((X k).take 200)
          rw [show (X k).take 200 = (X k).take m from by
            by_cases g : pl ≤ 200
            · rw [h3 g, List.take_of_length_le (by omega), List.take_of_length_le (by omega)]
            · rw [h4 (by omega)]]
          exact this)
        have HPART := Lib.hid (HPW.out wr HBR.out)
        have HBY := Lib.hid (show ∀ x ∈ stA P k ++ P k, x < 256 by rw [← stA_succ]; exact stA_byte P (k + 1) (fun j hj => (HPP.out j (by omega)).2))
        have hkmi : (k : Int) < (len0 : Int) := by omega
        clear q1 hb0r
        -- ROUNDS
        by_cases hbig : 200 < pl
        · have hpl2 : (P k).length = 200 := (HPART.out 200 (by omega) (by omega) (by omega) (by omega)).len
          have hnot : bits .xor .u8 IntKind.u8.max 200 = 55 := by decide
          by_cases hlast : k + 1 = len0
          · have hli : ((k : Int) == (len0 : Int) - 1) = true := by rw [beq_iff_eq]; omega
            have HSB := Lib.hid (show stB len0 P (k + 1) = (stB len0 P k ++ [1, 200, 0, 55, 255]) ++ P k by
              rw [stB_succ, if_pos hlast, List.append_assoc]
              unfold enc
              rw [hpl2])
            clear hlast
            have hpm := (HPART.out 200 (by omega) (by omega) (by omega) (by omega))
            have hplen := hpm.len
            have HLIT := Lib.hid (lit5 wr 1 200 55 (by omega) (by omega) (by omega))
            have hbr := HBR.out.size
            have hwb : w1.heap.size ≤ (wr.alloc (.cells #[.int .u8 ((1 : Nat) : Int), .int .u8 ((200 : Nat) : Int), .int .u8 0, .int .u8 ((55 : Nat) : Int), .int .u8 255] 5)).heap.size := by simp; omega
            have HBA := Lib.hid (HBR.out.alloc hbr (.cells #[.int .u8 ((1 : Nat) : Int), .int .u8 ((200 : Nat) : Int), .int .u8 0, .int .u8 ((55 : Nat) : Int), .int .u8 255] 5))
            have HOB1 := Lib.hid (HOB.out.alloc (.cells #[.int .u8 ((1 : Nat) : Int), .int .u8 ((200 : Nat) : Int), .int .u8 0, .int .u8 ((55 : Nat) : Int), .int .u8 255] 5))
            have HOA1 := Lib.hid (HOA.out.alloc (.cells #[.int .u8 ((1 : Nat) : Int), .int .u8 ((200 : Nat) : Int), .int .u8 0, .int .u8 ((55 : Nat) : Int), .int .u8 255] 5))
            have HLK := Lib.hid hplen
            clear hpm hplen
            go_wp2_with (at_builtin; refine wpList_append_bytes_at rfl (.tmp 41) (.tmp 50) rfl w1.heap.size _ _ (stB len0 P k) rfl HOB1.out _ _ _ _ rfl HLIT.out (by omega) hwb ?_)
            intro v2 w2 ho2 hg2 hat2
            obtain ⟨g2, c2, rfl⟩ := own_some ho2 (by omega)
            have hb2 : Below w1.heap.size w1 w2 := below_own HBA.out HOB1.out hg2 (Nat.le_refl _) hwb
            have HOA2 := Lib.hid (HAP.out.symm.keeps HOA1.out hg2)
            have HAP2 := Lib.hid (HAP.out.moved hat2 (fun j hj => by have := (HOA.out.lt j hj).2; (try simp); omega))
            have HPM2 := Lib.hid (HPW.out w2 hb2 200 (by omega) (by omega) (by omega) (by omega))
            have HB2 := Lib.hid hb2
            have HO2 := Lib.hid ho2
            have hs2 := hb2.size
            have hl2 : lb + 5 + 200 ≤ 140737488355328 := by omega
            clear ho2 hg2 hat2 hb2
            go_wp2_with (at_builtin; refine wpList_append_bytes_at rfl (.tmp 52) (.tmp 53) rfl w1.heap.size _ _ _ rfl HO2.out _ _ _ _ rfl HPM2.out hl2 hs2 ?_)
            intro v3 w3 ho3 hg3 hat3
            obtain ⟨g3, c3, rfl⟩ := own_some ho3 (by omega)
            have hb3 : Below w1.heap.size w1 w3 := below_own HB2.out HO2.out hg3 (Nat.le_refl _) hs2
            have HOA3 := Lib.hid (HAP2.out.symm.keeps HOA2.out hg3)
            have HAP3 := Lib.hid (HAP2.out.moved hat3 (fun j hj => (HOA2.out.lt j hj).2))
            have HPM3 := Lib.hid (HPW.out w3 hb3 200 (by omega) (by omega) (by omega) (by omega))
            have HB3 := Lib.hid hb3
            have HO3 := Lib.hid ho3
            have hs3 := hb3.size
            have hl3 : la + 200 ≤ 140737488355328 := by omega
            clear ho3 hg3 hat3 hb3
            go_wp2_with (at_builtin; refine wpList_append_bytes_at rfl (.tmp 55) (.tmp 56) rfl w1.heap.size _ _ _ rfl HOA3.out _ _ _ _ rfl HPM3.out hl3 hs3 ?_)
            intro v4 w4 ho4 hg4 hat4
            obtain ⟨a4, c4, rfl, _, _⟩ := BytesAt.ofOwn ho4 (HBY.out) (by omega)
            have hb4 : Below w1.heap.size w1 w4 := below_own HB3.out HOA3.out hg4 (Nat.le_refl _) hs3
            have HOB4 := Lib.hid (HAP3.out.keeps HO3.out hg4)
            have HAP4 := Lib.hid (Apart.symm (HAP3.out.symm.moved hat4 (fun j hj => (HO3.out.lt j hj).2)))
            have HB4 := Lib.hid hb4
            have HO4 := Lib.hid ho4
            clear ho4 hg4 hat4 hb4
            go_wp2_with fail
            go_roundw
            case rel => exact ⟨k + 1, _, _, _, _, _, _, by omega, by go_num, rfl, rfl, Lib.hid (by rw [HSB.out, List.length_append, List.length_append, ← HLB.out, HLK.out]; rfl), Lib.hid (by rw [stA_succ, List.length_append, ← HLA.out, HLK.out]), Lib.hid (by rw [HSB.out, List.append_assoc]; exact HOB4.out), Lib.hid (by rw [stA_succ]; exact HO4.out), HAP4, HB4⟩
            case measure => simp [intOf]; omega
          · have hli : ((k : Int) == (len0 : Int) - 1) = false := by rw [beq_eq_false_iff_ne]; omega
            have HSB := Lib.hid (show stB len0 P (k + 1) = (stB len0 P k ++ [0, 200, 0, 55, 255]) ++ P k by
              rw [stB_succ, if_neg hlast, List.append_assoc]
              unfold enc
              rw [hpl2])
            clear hlast
            have hpm := (HPART.out 200 (by omega) (by omega) (by omega) (by omega))
            have hplen := hpm.len
            have HLIT := Lib.hid (lit5 wr 0 200 55 (by omega) (by omega) (by omega))
            have hbr := HBR.out.size
            have hwb : w1.heap.size ≤ (wr.alloc (.cells #[.int .u8 ((0 : Nat) : Int), .int .u8 ((200 : Nat) : Int), .int .u8 0, .int .u8 ((55 : Nat) : Int), .int .u8 255] 5)).heap.size := by simp; omega
            have HBA := Lib.hid (HBR.out.alloc hbr (.cells #[.int .u8 ((0 : Nat) : Int), .int .u8 ((200 : Nat) : Int), .int .u8 0, .int .u8 ((55 : Nat) : Int), .int .u8 255] 5))
            have HOB1 := Lib.hid (HOB.out.alloc (.cells #[.int .u8 ((0 : Nat) : Int), .int .u8 ((200 : Nat) : Int), .int .u8 0, .int .u8 ((55 : Nat) : Int), .int .u8 255] 5))
            have HOA1 := Lib.hid (HOA.out.alloc (.cells #[.int .u8 ((0 : Nat) : Int), .int .u8 ((200 : Nat) : Int), .int .u8 0, .int .u8 ((55 : Nat) : Int), .int .u8 255] 5))
            have HLK := Lib.hid hplen
            clear hpm hplen
            go_wp2_with (at_builtin; refine wpList_append_bytes_at rfl (.tmp 41) (.tmp 50) rfl w1.heap.size _ _ (stB len0 P k) rfl HOB1.out _ _ _ _ rfl HLIT.out (by omega) hwb ?_)
            intro v2 w2 ho2 hg2 hat2
            obtain ⟨g2, c2, rfl⟩ := own_some ho2 (by omega)
            have hb2 : Below w1.heap.size w1 w2 := below_own HBA.out HOB1.out hg2 (Nat.le_refl _) hwb
            have HOA2 := Lib.hid (HAP.out.symm.keeps HOA1.out hg2)
            have HAP2 := Lib.hid (HAP.out.moved hat2 (fun j hj => by have := (HOA.out.lt j hj).2; (try simp); omega))
            have HPM2 := Lib.hid (HPW.out w2 hb2 200 (by omega) (by omega) (by omega) (by omega))
            have HB2 := Lib.hid hb2
            have HO2 := Lib.hid ho2
            have hs2 := hb2.size
            have hl2 : lb + 5 + 200 ≤ 140737488355328 := by omega
            clear ho2 hg2 hat2 hb2
            go_wp2_with (at_builtin; refine wpList_append_bytes_at rfl (.tmp 52) (.tmp 53) rfl w1.heap.size _ _ _ rfl HO2.out _ _ _ _ rfl HPM2.out hl2 hs2 ?_)
            intro v3 w3 ho3 hg3 hat3
            obtain ⟨g3, c3, rfl⟩ := own_some ho3 (by omega)
            have hb3 : Below w1.heap.size w1 w3 := below_own HB2.out HO2.out hg3 (Nat.le_refl _) hs2
            have HOA3 := Lib.hid (HAP2.out.symm.keeps HOA2.out hg3)
            have HAP3 := Lib.hid (HAP2.out.moved hat3 (fun j hj => (HOA2.out.lt j hj).2))
            have HPM3 := Lib.hid (HPW.out w3 hb3 200 (by omega) (by omega) (by omega) (by omega))
            have HB3 := Lib.hid hb3
            have HO3 := Lib.hid ho3
            have hs3 := hb3.size
            have hl3 : la + 200 ≤ 140737488355328 := by omega
            clear ho3 hg3 hat3 hb3
            go_wp2_with (at_builtin; refine wpList_append_bytes_at rfl (.tmp 55) (.tmp 56) rfl w1.heap.size _ _ _ rfl HOA3.out _ _ _ _ rfl HPM3.out hl3 hs3 ?_)
            intro v4 w4 ho4 hg4 hat4
            obtain ⟨a4, c4, rfl, _, _⟩ := BytesAt.ofOwn ho4 (HBY.out) (by omega)
            have hb4 : Below w1.heap.size w1 w4 := below_own HB3.out HOA3.out hg4 (Nat.le_refl _) hs3
            have HOB4 := Lib.hid (HAP3.out.keeps HO3.out hg4)
            have HAP4 := Lib.hid (Apart.symm (HAP3.out.symm.moved hat4 (fun j hj => (HO3.out.lt j hj).2)))
            have HB4 := Lib.hid hb4
            have HO4 := Lib.hid ho4
            clear ho4 hg4 hat4 hb4
            go_wp2_with fail
            go_roundw
            case rel => exact ⟨k + 1, _, _, _, _, _, _, by omega, by go_num, rfl, rfl, Lib.hid (by rw [HSB.out, List.length_append, List.length_append, ← HLB.out, HLK.out]; rfl), Lib.hid (by rw [stA_succ, List.length_append, ← HLA.out, HLK.out]), Lib.hid (by rw [HSB.out, List.append_assoc]; exact HOB4.out), Lib.hid (by rw [stA_succ]; exact HO4.out), HAP4, HB4⟩
            case measure => simp [intOf]; omega
        · have hpl2 : (P k).length = pl := (HPART.out pl (by omega) (by omega) (by omega) (by omega)).len
          obtain ⟨r, hr⟩ : ∃ r, r = 255 - pl := ⟨_, rfl⟩
          have hnot : bits .xor .u8 IntKind.u8.max (pl : Int) = (r : Int) := by rw [hr]; exact not_u8 pl (by omega)
          have hnot' : bits .xor .u8 (if IntKind.u8.signed = true then -1 else IntKind.u8.max) (pl : Int) = (r : Int) := hnot
          have HRR := Lib.hid hr.symm
          have hr2 : r < 256 := by omega
          clear hr
          by_cases hlast : k + 1 = len0
          · have hli : ((k : Int) == (len0 : Int) - 1) = true := by rw [beq_iff_eq]; omega
            have HSB := Lib.hid (show stB len0 P (k + 1) = (stB len0 P k ++ [1, pl, 0, r, 255]) ++ P k by
              rw [stB_succ, if_pos hlast, List.append_assoc]
              unfold enc
              rw [hpl2, HRR.out])
            clear hlast
            have hpm := (HPART.out pl (by omega) (by omega) (by omega) (by omega))
            have hplen := hpm.len
            have HLIT := Lib.hid (lit5 wr 1 pl r (by omega) (by omega) (by omega))
            have hbr := HBR.out.size
            have hwb : w1.heap.size ≤ (wr.alloc (.cells #[.int .u8 ((1 : Nat) : Int), .int .u8 ((pl : Nat) : Int), .int .u8 0, .int .u8 ((r : Nat) : Int), .int .u8 255] 5)).heap.size := by simp; omega
            have HBA := Lib.hid (HBR.out.alloc hbr (.cells #[.int .u8 ((1 : Nat) : Int), .int .u8 ((pl : Nat) : Int), .int .u8 0, .int .u8 ((r : Nat) : Int), .int .u8 255] 5))
            have HOB1 := Lib.hid (HOB.out.alloc (.cells #[.int .u8 ((1 : Nat) : Int), .int .u8 ((pl : Nat) : Int), .int .u8 0, .int .u8 ((r : Nat) : Int), .int .u8 255] 5))
            have HOA1 := Lib.hid (HOA.out.alloc (.cells #[.int .u8 ((1 : Nat) : Int), .int .u8 ((pl : Nat) : Int), .int .u8 0, .int .u8 ((r : Nat) : Int), .int .u8 255] 5))
            have HLK := Lib.hid hplen
            clear hpm hplen
            go_wp2_with (at_builtin; refine wpList_append_bytes_at rfl (.tmp 41) (.tmp 50) rfl w1.heap.size _ _ (stB len0 P k) rfl HOB1.out _ _ _ _ rfl HLIT.out (by omega) hwb ?_)
            intro v2 w2 ho2 hg2 hat2
            obtain ⟨g2, c2, rfl⟩ := own_some ho2 (by omega)
            have hb2 : Below w1.heap.size w1 w2 := below_own HBA.out HOB1.out hg2 (Nat.le_refl _) hwb
            have HOA2 := Lib.hid (HAP.out.symm.keeps HOA1.out hg2)
            have HAP2 := Lib.hid (HAP.out.moved hat2 (fun j hj => by have := (HOA.out.lt j hj).2; (try simp); omega))
            have HPM2 := Lib.hid (HPW.out w2 hb2 pl (by omega) (by omega) (by omega) (by omega))
            have HB2 := Lib.hid hb2
            have HO2 := Lib.hid ho2
            have hs2 := hb2.size
            have hl2 : lb + 5 + pl ≤ 140737488355328 := by omega
            clear ho2 hg2 hat2 hb2
            go_wp2_with (at_builtin; refine wpList_append_bytes_at rfl (.tmp 52) (.tmp 53) rfl w1.heap.size _ _ _ rfl HO2.out _ _ _ _ rfl HPM2.out hl2 hs2 ?_)
            intro v3 w3 ho3 hg3 hat3
            obtain ⟨g3, c3, rfl⟩ := own_some ho3 (by omega)
            have hb3 : Below w1.heap.size w1 w3 := below_own HB2.out HO2.out hg3 (Nat.le_refl _) hs2
            have HOA3 := Lib.hid (HAP2.out.symm.keeps HOA2.out hg3)
            have HAP3 := Lib.hid (HAP2.out.moved hat3 (fun j hj => (HOA2.out.lt j hj).2))
            have HPM3 := Lib.hid (HPW.out w3 hb3 pl (by omega) (by omega) (by omega) (by omega))
            have HB3 := Lib.hid hb3
            have HO3 := Lib.hid ho3
            have hs3 := hb3.size
            have hl3 : la + pl ≤ 140737488355328 := by omega
            clear ho3 hg3 hat3 hb3
            go_wp2_with (at_builtin; refine wpList_append_bytes_at rfl (.tmp 55) (.tmp 56) rfl w1.heap.size _ _ _ rfl HOA3.out _ _ _ _ rfl HPM3.out hl3 hs3 ?_)
            intro v4 w4 ho4 hg4 hat4
            obtain ⟨a4, c4, rfl, _, _⟩ := BytesAt.ofOwn ho4 (HBY.out) (by omega)
            have hb4 : Below w1.heap.size w1 w4 := below_own HB3.out HOA3.out hg4 (Nat.le_refl _) hs3
            have HOB4 := Lib.hid (HAP3.out.keeps HO3.out hg4)
            have HAP4 := Lib.hid (Apart.symm (HAP3.out.symm.moved hat4 (fun j hj => (HO3.out.lt j hj).2)))
            have HB4 := Lib.hid hb4
            have HO4 := Lib.hid ho4
            clear ho4 hg4 hat4 hb4
            go_wp2_with fail
            go_roundw
            case rel => exact ⟨k + 1, _, _, _, _, _, _, by omega, by go_num, rfl, rfl, Lib.hid (by rw [HSB.out, List.length_append, List.length_append, ← HLB.out, HLK.out]; rfl), Lib.hid (by rw [stA_succ, List.length_append, ← HLA.out, HLK.out]), Lib.hid (by rw [HSB.out, List.append_assoc]; exact HOB4.out), Lib.hid (by rw [stA_succ]; exact HO4.out), HAP4, HB4⟩
            case measure => simp [intOf]; omega
          · have hli : ((k : Int) == (len0 : Int) - 1) = false := by rw [beq_eq_false_iff_ne]; omega
            have HSB := Lib.hid (show stB len0 P (k + 1) = (stB len0 P k ++ [0, pl, 0, r, 255]) ++ P k by
              rw [stB_succ, if_neg hlast, List.append_assoc]
              unfold enc
              rw [hpl2, HRR.out])
            clear hlast
            have hpm := (HPART.out pl (by omega) (by omega) (by omega) (by omega))
            have hplen := hpm.len
            have HLIT := Lib.hid (lit5 wr 0 pl r (by omega) (by omega) (by omega))
            have hbr := HBR.out.size
            have hwb : w1.heap.size ≤ (wr.alloc (.cells #[.int .u8 ((0 : Nat) : Int), .int .u8 ((pl : Nat) : Int), .int .u8 0, .int .u8 ((r : Nat) : Int), .int .u8 255] 5)).heap.size := by simp; omega
            have HBA := Lib.hid (HBR.out.alloc hbr (.cells #[.int .u8 ((0 : Nat) : Int), .int .u8 ((pl : Nat) : Int), .int .u8 0, .int .u8 ((r : Nat) : Int), .int .u8 255] 5))
            have HOB1 := Lib.hid (HOB.out.alloc (.cells #[.int .u8 ((0 : Nat) : Int), .int .u8 ((pl : Nat) : Int), .int .u8 0, .int .u8 ((r : Nat) : Int), .int .u8 255] 5))
            have HOA1 := Lib.hid (HOA.out.alloc (.cells #[.int .u8 ((0 : Nat) : Int), .int .u8 ((pl : Nat) : Int), .int .u8 0, .int .u8 ((r : Nat) : Int), .int .u8 255] 5))
            have HLK := Lib.hid hplen
            clear hpm hplen
            go_wp2_with (at_builtin; refine wpList_append_bytes_at rfl (.tmp 41) (.tmp 50) rfl w1.heap.size _ _ (stB len0 P k) rfl HOB1.out _ _ _ _ rfl HLIT.out (by omega) hwb ?_)
            intro v2 w2 ho2 hg2 hat2
            obtain ⟨g2, c2, rfl⟩ := own_some ho2 (by omega)
            have hb2 : Below w1.heap.size w1 w2 := below_own HBA.out HOB1.out hg2 (Nat.le_refl _) hwb
            have HOA2 := Lib.hid (HAP.out.symm.keeps HOA1.out hg2)
            have HAP2 := Lib.hid (HAP.out.moved hat2 (fun j hj => by have := (HOA.out.lt j hj).2; (try simp); omega))
            have HPM2 := Lib.hid (HPW.out w2 hb2 pl (by omega) (by omega) (by omega) (by omega))
            have HB2 := Lib.hid hb2
            have HO2 := Lib.hid ho2
            have hs2 := hb2.size
            have hl2 : lb + 5 + pl ≤ 140737488355328 := by omega
            clear ho2 hg2 hat2 hb2
            go_wp2_with (at_builtin; refine wpList_append_bytes_at rfl (.tmp 52) (.tmp 53) rfl w1.heap.size _ _ _ rfl HO2.out _ _ _ _ rfl HPM2.out hl2 hs2 ?_)
            intro v3 w3 ho3 hg3 hat3
            obtain ⟨g3, c3, rfl⟩ := own_some ho3 (by omega)
            have hb3 : Below w1.heap.size w1 w3 := below_own HB2.out HO2.out hg3 (Nat.le_refl _) hs2
            have HOA3 := Lib.hid (HAP2.out.symm.keeps HOA2.out hg3)
            have HAP3 := Lib.hid (HAP2.out.moved hat3 (fun j hj => (HOA2.out.lt j hj).2))
            have HPM3 := Lib.hid (HPW.out w3 hb3 pl (by omega) (by omega) (by omega) (by omega))
            have HB3 := Lib.hid hb3
            have HO3 := Lib.hid ho3
            have hs3 := hb3.size
            have hl3 : la + pl ≤ 140737488355328 := by omega
            clear ho3 hg3 hat3 hb3
            go_wp2_with (at_builtin; refine wpList_append_bytes_at rfl (.tmp 55) (.tmp 56) rfl w1.heap.size _ _ _ rfl HOA3.out _ _ _ _ rfl HPM3.out hl3 hs3 ?_)
            intro v4 w4 ho4 hg4 hat4
            obtain ⟨a4, c4, rfl, _, _⟩ := BytesAt.ofOwn ho4 (HBY.out) (by omega)
            have hb4 : Below w1.heap.size w1 w4 := below_own HB3.out HOA3.out hg4 (Nat.le_refl _) hs3
            have HOB4 := Lib.hid (HAP3.out.keeps HO3.out hg4)
            have HAP4 := Lib.hid (Apart.symm (HAP3.out.symm.moved hat4 (fun j hj => (HO3.out.lt j hj).2)))
            have HB4 := Lib.hid hb4
            have HO4 := Lib.hid ho4
            clear ho4 hg4 hat4 hb4
            go_wp2_with fail
            go_roundw
            case rel => exact ⟨k + 1, _, _, _, _, _, _, by omega, by go_num, rfl, rfl, Lib.hid (by rw [HSB.out, List.length_append, List.length_append, ← HLB.out, HLK.out]; rfl), Lib.hid (by rw [stA_succ, List.length_append, ← HLA.out, HLK.out]), Lib.hid (by rw [HSB.out, List.append_assoc]; exact HOB4.out), Lib.hid (by rw [stA_succ]; exact HO4.out), HAP4, HB4⟩
            case measure => simp [intOf]; omega
        -- END
      · obtain rfl : k = len0 := by omega
        have hbyB := stB_byte k P k (fun j hj => HPP.out j hj)
        have hbyA := stA_byte P k (fun j hj => (HPP.out j hj).2)
        obtain ⟨a9, c9, he9, hba, _⟩ := BytesAt.ofOwn HOB.out hbyB (by omega)
        simp only [Value.slice.injEq, true_and] at he9
        obtain ⟨rfl, rfl⟩ := he9
        obtain ⟨a8, c8, he8, hbA, _⟩ := BytesAt.ofOwn HOA.out hbyA (by omega)
        simp only [Value.slice.injEq, true_and] at he8
        obtain ⟨rfl, rfl⟩ := he8
        have hl9 := hba.len
        have HIN := Lib.hid (inflate_any hba (HO.out.below hb0r) 50000 5000 (by rw [hl9]; omega) (by omega) (by omega))
        have hip := inf_parts k P HPP.out (by omega) h1n 50000 (by omega)
        rw [← HLB.out] at hip
        have HIP := Lib.hid hip
        have HBA := Lib.hid hbA
        have HLE := Lib.hid HLA.out.symm
        clear hbyB hbyA hba hbA hl9 hip hb0r hkm
        go_wp2_with fail
        refine HIN.out.mono ?_
        intro e w5 hout
        obtain ⟨ax, cx, rfl, hbx, hb5⟩ := hout.at2 HIP.out HLE.out (by omega)
        have HB5 := Lib.hid (HB0R.out.trans (hb5.mono HB0R.out.size))
        have HSM := same_any hbx (HBA.out.kept hb5)
        rw [beq_self_eq_true] at HSM
        have HSAME := Lib.hid HSM
        have hnn : ((lb : Int) == (lb : Int)) = true := by simp
        clear hout hbx hb5 HSM
        go_wp2_with fail
        refine HSAME.out.mono ?_
        rintro e w6 ⟨rfl, rfl⟩
        go_wp2_with fail
        go_ret
        exact ⟨rfl, HB5.out⟩
end Go.Proofs.YtfipiodimhneiaaDoor
