/- Texts put together by packtpl2.py: ColTxR, ColCp, LabPlain, ColBs, ColKn, ColKw. -/
import Derived.Test.YtpbijdoemdoijaaGreatDoorPkCa12
import Derived.Lib.EndianMore
import Derived.WalkKit
import Derived.LoopTactic
import Derived.Deep.Draws
section PkCa13_0
/- A content read as a column of texts, walked. -/
namespace Go.Proofs.YtpbijdoemdoijaaGreatDoor
open Go.RowKit BitsPlain NumsPlain
set_option linter.unusedVariables false

theorem ct_int : (Tryz.prog.info? 3).map (fun i => (i.zero, i.size, i.bytes)) = some (some (.int .i64 0), 1, 8) := by kernel_rfl
theorem ct_str : (Tryz.prog.info? 9).map (fun i => (i.zero, i.size, i.bytes)) = some (some (.string ByteArray.empty), 1, 16) := by kernel_rfl
theorem ct_some2 {w : World} {base n : Nat} {e : TypeId} {size : Nat} {v : Value} {xs : List Value} (h : w.ownsRow base e size v n xs) (hn : 0 < n) : ∃ g c, v = .slice (some ⟨g, 0, none⟩) n c := by
  rcases h.2 with ⟨_, h0⟩ | ⟨g, cap, cur, he, _⟩
  · omega
  · exact ⟨g, cap, he⟩
theorem ct_over {a b c : World} {r r2 : Option Nat} (h : a.grownBy b r) (k : b.grownBy c r2) (hr2 : ∀ g, r2 = some g → a.heap.size ≤ g) : a.grownBy c r :=
  ⟨k.os.trans h.os, k.tape.trans h.tape, k.output.trans h.output, Nat.le_trans h.size k.size, fun j hj hne => (k.block j (Nat.lt_of_lt_of_le hj h.size) (fun e => by have := hr2 j e.symm; omega)).trans (h.block j hj hne)⟩
theorem ct_low {w : World} {base n size B : Nat} {e : TypeId} {v : Value} {xs : List Value} (h : w.ownsRow base e size v n xs) (hB : B < base) : v.ownBlock = none ∨ v.ownBlock ≠ some B := by
  cases hv : v.ownBlock with
  | none => exact .inl rfl
  | some d => exact .inr (fun e => by have h1 := (h.lt d hv).1; cases e; omega)
theorem ct_drewN {B : Nat} {a w : World} (h : Below B a w) (hB : B ≤ w.heap.size) (q : Nat) : Below B a (w.drewN q) := h.grown (grown_drewN w q none) hB (fun d hd => by cases hd)
theorem CurAt.over {T : TypeId} {w w' : World} {B base : Nat} {a : Option Addr} {n c : Nat} {xs : List Nat} {i e : Nat} {row : Option Nat} (h : CurAt T w B a n c xs i e) (hg : w.grownBy w' row) (hr : ∀ g, row = some g → base ≤ g) (hB : B < base) (hs : ∀ b off s, 0 < n → a = some ⟨b, off, s⟩ → b < base) : CurAt T w' B a n c xs i e := by
  refine ⟨(hg.block B h.lt (fun e => by have := hr B e.symm; omega)).trans h.blk, ⟨h.src.len, h.src.cap, h.src.byte, h.src.reach, h.src.capm, h.src.nl, fun hp => ?_⟩, h.apart, h.le⟩
  obtain ⟨b, off, he, hlt, hc⟩ := h.src.cells hp
  refine ⟨b, off, he, Nat.lt_of_lt_of_le hlt hg.size, fun j hj => ?_⟩
  exact hg.cell (hc j hj) (fun e => by have h1 := hr b e.symm; have h2 := hs b off none hp he; omega)
theorem cn_most {xs : List Nat} {i e above : Nat} {most : Int} (h0 : 0 ≤ most) : ((ccn xs i e most above).1 : Int) ≤ most := by
  unfold ccn
  split
  · simpa using h0
  · split
    · simpa using h0
    · split
      · simpa using h0
      · rename_i h3
        omega
theorem szR_le (xs : List Nat) (i e : Nat) : ∀ k, ∀ z ∈ (szR xs i e k).1, z ≤ 1024
  | 0, z, hz => by cases hz
  | k + 1, z, hz => by
    rw [szR] at hz
    rcases List.mem_append.1 hz with g | g
    · exact szR_le xs i e k z g
    · rw [List.mem_singleton.1 g]
      have h1 := cn_most (xs := xs) (i := (szR xs i e k).2.1) (e := (szR xs i e k).2.2) (above := 2) (most := 1024) (by omega)
      omega
theorem cb_le (xs : List Nat) (i e : Nat) (k : Int) : (cb xs i e k).1.length ≤ xs.length := by
  unfold cb
  split
  · simp
  · split
    · simp
    · simp only [List.length_take, List.length_drop]; omega
theorem bs_sz (xs : List Nat) : (bs xs).size = xs.length := by
  show (bs xs).data.size = _
  rw [← Array.length_toList]
  unfold bs
  rw [strOfNums_data]
  simp
theorem txR_le (xs ss : List Nat) (i e : Nat) : ∀ k, ∀ z ∈ (txR xs ss i e k).1, z.size ≤ xs.length
  | 0, z, hz => by cases hz
  | k + 1, z, hz => by
    rw [txR] at hz
    rcases List.mem_append.1 hz with g | g
    · exact txR_le xs ss i e k z g
    · rw [List.mem_singleton.1 g, bs_sz]; exact cb_le _ _ _ _

theorem ints_flat : ∀ l : List Int, IntS.flat l = l.map fun z => Value.int .i64 z
  | [] => rfl
  | x :: l => by
    have h := ints_flat l
    unfold Sty.flat at h ⊢
    rw [List.flatMap_cons, h]; rfl
def zs (l : List Nat) : List Int := l.map fun (z : Nat) => (z : Int)
theorem zs_snoc (l : List Nat) (z : Nat) : zs (l ++ [z]) = zs l ++ [(z : Int)] := by unfold zs; simp

set_option maxRecDepth 100000 in
set_option maxHeartbeats 2000000 in
theorem whole_any {w : World} {B : Nat} {a : Option Addr} {n c : Nat} {xs : List Nat} {i e : Nat} (h : CurAt 155 w B a n c xs i e) (v : Option Addr) (m d : Nat) :
    Calls Tryz.prog 96 #[.pointer (some ⟨B, 0, none⟩), .slice v m d] w fun r w' => r = .returned (if cend n i e = 0 then .slice v m d else .slice none 0 0) ∧ ∃ q, w' = w.drewN q := by
  have HE := Lib.hid (end_any h)
  clear h
  go_enter Tryz.func96, Tryz.ntmps96
  go_wp2_with fail
  refine HE.out.mono ?_
  rintro r w2 ⟨rfl, q, hq⟩
  have HQ := Lib.hid hq
  clear hq
  by_cases hz : cend n i e = 0
  · have z1 : ((cend n i e : Int) != 0) = false := by rw [hz]; rfl
    have HZ := Lib.hid hz
    clear hz
    go_wp2_with fail
    go_ret
    exact ⟨rfl, q, HQ.out⟩
  · have z1 : ((cend n i e : Int) != 0) = true := by rw [bne_iff_ne]; omega
    have HZ := Lib.hid hz
    clear hz
    go_wp2_with fail
    go_ret
    exact ⟨rfl, q, HQ.out⟩

set_option maxRecDepth 100000 in
set_option maxHeartbeats 8000000 in
theorem contentTexts_any {w : World} {a : Option Addr} {n c : Nat} {xs : List Nat} (h : BytesAt w a n c xs) (hn : n ≤ 100000000) :
    Calls Tryz.prog 58 #[.slice a n c] w fun e w' => ∃ a' n' c', e = .returned (.slice a' n' c') ∧ VecAt StrS w' a' n' c' (rdT xs) ∧ Below w.heap.size w w' := by
  obtain ⟨i0, ii, iz0, iz1, iz2⟩ := info_parts ct_int
  obtain ⟨j0, ji, jz0, jz1, jz2⟩ := info_parts ct_str
  have HN := Lib.hid (new_any h)
  have HXL := Lib.hid h.len
  clear h
  go_enter Tryz.func58, Tryz.ntmps58
  go_wp2_with fail
  refine HN.out.mono ?_
  rintro e w1 ⟨B, a1, c1, rfl, hcur, hb1, hBw, has⟩
  have HB1 := Lib.hid hb1
  have HBW := Lib.hid hBw
  have HBL := Lib.hid hcur.lt
  have HSL := Lib.hid (show ∀ b off s, 0 < n → a1 = some ⟨b, off, s⟩ → b < w1.heap.size from fun b off s hp he => by
    obtain ⟨b', off', he', hlt, _⟩ := hcur.src.cells hp
    rw [he] at he'; cases he'; exact hlt)
  have HNU := Lib.hid (cnum_any hcur 2048 (by omega) (by omega))
  clear hb1 hBw has hcur
  obtain ⟨r0, hr0⟩ : ∃ r, r = ccn xs 0 0 2048 2 := ⟨_, rfl⟩
  have hN0 := cn_most (xs := xs) (i := 0) (e := 0) (above := 2) (most := 2048) (by omega)
  have hRD : rdT xs = (let s := szR xs r0.2.1 r0.2.2 r0.1; let t := txR xs s.1 s.2.1 s.2.2 r0.1; if cend xs.length t.2.1 t.2.2 = 0 then t.1 else []) := by unfold rdT; rw [hr0]
  rw [← hr0] at HNU hN0
  obtain ⟨N, i1, e1⟩ := r0
  have HRD := Lib.hid hRD
  have hN2 : N ≤ 2048 := by simp only at hN0; omega
  have HNU := Lib.hid HNU.out
  clear hr0 hN0 hRD
  simp only at HNU
  go_wp2_with fail
  refine HNU.out.mono ?_
  rintro e w2 ⟨rfl, hc2, hg2⟩
  have HC2 := Lib.hid hc2
  have HG2 := Lib.hid hg2
  have HO2 := Lib.hid (World.ownsRow_nil w2 w1.heap.size 3 1)
  clear hc2 hg2
  go_wp2_with fail
  go_loopw [4, 12] (fun s4 s12 wr => ∃ (k c9 : Nat) (a9 : Option Addr), k ≤ N ∧ s12 = .int .i64 (k : Int) ∧ s4 = .slice a9 k c9 ∧ Hid (CurAt 155 wr B a1 n c1 xs (szR xs i1 e1 k).2.1 (szR xs i1 e1 k).2.2) ∧ Hid (wr.ownsRow w1.heap.size 3 1 (.slice a9 k c9) k (IntS.flat (zs (szR xs i1 e1 k).1))) ∧ Hid (w1.grownBy wr (some B))) (fun _ s12 _ => N - (intOf s12).toNat)
  case atStart => exact ⟨0, 0, none, by omega, rfl, rfl, HC2, HO2, HG2⟩
  case round =>
    clear HC2 HO2 HG2
    obtain ⟨k, c9, a9, hk, rfl, rfl, HC, HO, HG⟩ := hrel
    rename World => wr
    by_cases hkn : k < N
    · have hki : (k : Int) < (N : Int) := by omega
      have HNX := Lib.hid (cnum_any HC.out 1024 (by omega) (by omega))
      obtain ⟨r, hr⟩ : ∃ r, r = ccn xs (szR xs i1 e1 k).2.1 (szR xs i1 e1 k).2.2 1024 2 := ⟨_, rfl⟩
      have hv := cn_most (xs := xs) (i := (szR xs i1 e1 k).2.1) (e := (szR xs i1 e1 k).2.2) (above := 2) (most := 1024) (by omega)
      have HSR := Lib.hid (show szR xs i1 e1 (k + 1) = ((szR xs i1 e1 k).1 ++ [r.1], r.2) from by rw [szR, ← hr])
      rw [← hr] at HNX hv
      obtain ⟨v, i2, e2⟩ := r
      simp only at hv
      have HNX := Lib.hid HNX.out
      simp only at HNX
      clear hr
      go_wp2_with fail
      refine HNX.out.mono ?_
      rintro e w3 ⟨rfl, hc3, hg3⟩
      have HG3 := Lib.hid (HG.out.trans hg3)
      have HC3 := Lib.hid (hc3.keptB ((Below.refl _ _).alloc (Nat.le_refl _) (.cells #[.int .i64 (v : Int)] 3)))
      have HO3 := Lib.hid (HO.out.kept hg3 (ct_low HO.out HBL.out))
      have HOA := Lib.hid (HO3.out.alloc (.cells #[.int .i64 (v : Int)] 3))
      have HSRC := Lib.hid (IntS.src w3 (v : Int) 3 (cs := #[.int .i64 (v : Int)]) rfl)
      have hsz3 : w1.heap.size ≤ w3.heap.size := HG3.out.size
      have HSZ := Lib.hid hsz3
      have HGA := Lib.hid (ct_over HG3.out (below_grown ((Below.refl w3.heap.size w3).alloc (Nat.le_refl _) (.cells #[.int .i64 (v : Int)] 3)) none) (fun g e => by cases e))
      clear hc3 hg3 hsz3
      go_wp2_with (at_builtin; refine wpList_append_own_at _ rfl (.tmp 14) (.tmp 17) 77 rfl w1.heap.size 3 i0 _ 1 8 Tryz.underlying77 ii iz0 iz1 iz2 rfl (by decide) _ k _ rfl HOA.out ⟨w3.heap.size, 0, none⟩ 1 1 [.int .i64 (v : Int)] rfl rfl HSRC.out (IntS.one (v : Int)) (by unfold maxLen; omega) (by omega) (Nat.le_trans HSZ.out (by simp)) ?_)
      intro v7 w7 ho7 hg7 _ _
      have hrow : ∀ g, (Value.slice a9 k c9).ownBlock = some g → w1.heap.size ≤ g := fun g hg => (HOA.out.lt g hg).1
      have HC7 := Lib.hid (show CurAt 155 w7 B a1 n c1 xs (szR xs i1 e1 (k + 1)).2.1 (szR xs i1 e1 (k + 1)).2.2 from by
        rw [HSR.out]
        exact HC3.out.over hg7 hrow HBL.out HSL.out)
      have HG7 := Lib.hid (ct_over HGA.out hg7 hrow)
      obtain ⟨g7, c7, rfl⟩ := ct_some2 ho7 (by omega)
      have HO7 := Lib.hid (show w7.ownsRow w1.heap.size 3 1 (.slice (some ⟨g7, 0, none⟩) (k + 1) c7) (k + 1) (IntS.flat (zs (szR xs i1 e1 (k + 1)).1)) from by
        rw [HSR.out, zs_snoc, IntS.flat_snoc]; exact ho7)
      clear ho7 hg7 hrow
      go_wp2_with fail
      go_roundw
      case rel => exact ⟨k + 1, c7, _, by omega, by go_num, rfl, HC7, HO7, HG7⟩
      case measure => simp [intOf]; omega
    · obtain rfl : k = N := by omega
      obtain ⟨ss, hss⟩ : ∃ ss, ss = (szR xs i1 e1 k).1 := ⟨_, rfl⟩
      obtain ⟨i2, hi2⟩ : ∃ i2, i2 = (szR xs i1 e1 k).2.1 := ⟨_, rfl⟩
      obtain ⟨e2, he2⟩ : ∃ e2, e2 = (szR xs i1 e1 k).2.2 := ⟨_, rfl⟩
      have HSSL := Lib.hid (show ss.length = k from by rw [hss]; exact szR_len _ _ _ _)
      have HSLE := Lib.hid (show ∀ z ∈ ss, z ≤ 1024 from by rw [hss]; exact szR_le _ _ _ _)
      have HR2 := Lib.hid (show rdT xs = if cend n (txR xs ss i2 e2 k).2.1 (txR xs ss i2 e2 k).2.2 = 0 then (txR xs ss i2 e2 k).1 else [] from by rw [HRD.out, ← HXL.out, hss, hi2, he2])
      have HC0 := Lib.hid (show CurAt 155 wr B a1 n c1 xs (txR xs ss i2 e2 0).2.1 (txR xs ss i2 e2 0).2.2 from by rw [txR, hi2, he2]; exact HC.out)
      have HI0 := Lib.hid (show wr.ownsRow w1.heap.size 3 1 (.slice a9 k c9) k (IntS.flat (zs ss)) from by rw [hss]; exact HO.out)
      have HT0 := Lib.hid (World.ownsRow_nil wr w1.heap.size 9 1)
      have hk99 : (k : Int) ≤ 2048 := by omega
      have hkc : k ≤ c9 := by
        rcases HO.out.2 with ⟨he, h0⟩ | ⟨g, cap, cur, he, hg, hh, hnc, hcap, _⟩
        · omega
        · cases he; exact hnc
      clear hkn hss hi2 he2
      go_wp2_with fail
      go_loopw [5, 7, 22] (fun s5 s7 s22 wt => ∃ (j d9 : Nat) (b9 : Option Addr), j ≤ k ∧ s22 = .int .i64 (j : Int) ∧ s5 = .slice b9 j d9 ∧ Hid (CurAt 155 wt B a1 n c1 xs (txR xs ss i2 e2 j).2.1 (txR xs ss i2 e2 j).2.2) ∧ Hid (wt.ownsRow w1.heap.size 3 1 (.slice a9 k c9) k (IntS.flat (zs ss))) ∧ Hid (wt.ownsRow w1.heap.size 9 1 (.slice b9 j d9) j (StrS.flat (txR xs ss i2 e2 j).1)) ∧ Hid (w1.grownBy wt (some B))) (fun _ _ s22 _ => k - (intOf s22).toNat)
      case atStart => exact ⟨0, 0, none, by omega, rfl, rfl, HC0, HI0, HT0, HG⟩
      case round =>
        clear HC0 HI0 HT0 HC HO HG
        obtain ⟨j, d9, b9, hj, rfl, rfl, HC, HI, HO, HG⟩ := hrel
        rename World => wt
        by_cases hjk : j < k
        · have hji : (j : Int) < (k : Int) := by omega
          obtain ⟨ga, gc, hge⟩ := ct_some2 HI.out (by omega)
          cases hge
          obtain ⟨z, hz⟩ : ∃ z, z = ss.getD j 0 := ⟨_, rfl⟩
          have hz1 : z ≤ 1024 := by rw [hz]; rw [show ss.getD j 0 = ss[j]'(by rw [HSSL.out]; exact hjk) from by simp [show j < ss.length from by rw [HSSL.out]; exact hjk]]; exact HSLE.out _ (List.getElem_mem _)
          have c0 : wt.cell? ⟨ga, j, none⟩ = some (.int .i64 (z : Int)) := by
            have h1 := HI.out.cellAt j (by omega)
            rw [h1, ints_flat, List.getElem?_map]
            unfold zs
            rw [List.getElem?_map, List.getElem?_eq_getElem (by rw [HSSL.out]; exact hjk), hz]
            simp [show j < ss.length from by rw [HSSL.out]; exact hjk]
          have HCB := Lib.hid (cb_any HC.out (z : Int) (by omega) (by omega))
          obtain ⟨r, hr⟩ : ∃ r, r = cb xs (txR xs ss i2 e2 j).2.1 (txR xs ss i2 e2 j).2.2 (z : Int) := ⟨_, rfl⟩
          have HTR := Lib.hid (show txR xs ss i2 e2 (j + 1) = ((txR xs ss i2 e2 j).1 ++ [bs r.1], r.2) from by rw [txR, ← hz, ← hr])
          have hrl : r.1.length ≤ 100000000 := by rw [hr]; have := cb_le xs (txR xs ss i2 e2 j).2.1 (txR xs ss i2 e2 j).2.2 (z : Int); have := HXL.out; omega
          rw [← hr] at HCB
          obtain ⟨bt, i3, e3⟩ := r
          have HCB := Lib.hid HCB.out
          simp only at HCB hrl
          obtain ⟨lb, hlb⟩ : ∃ lb, lb = bt.length := ⟨_, rfl⟩
          rw [← hlb] at HCB hrl
          have HLB := Lib.hid hlb
          have HBSZ := Lib.hid (show (bs bt).size ≤ 140737488355328 from by rw [bs_sz, ← hlb]; omega)
          obtain ⟨tx, htx⟩ : ∃ tx, tx = bs bt := ⟨_, rfl⟩
          have HTX := Lib.hid htx
          clear hr hz hlb htx
          go_wp2_with fail
          refine HCB.out.mono ?_
          rintro e w3 ⟨⟨a3, c3, rfl, hb3⟩, hc3, hg3⟩
          have hcv : (convert 27 9 (.slice a3 lb c3)).run Tryz.prog w3 = .ok (.string tx) w3 := by rw [HTX.out]; exact hb3.conv
          have HG3 := Lib.hid (HG.out.trans hg3)
          have HC3 := Lib.hid (hc3.keptB ((Below.refl _ _).alloc (Nat.le_refl _) (.cells #[.string tx] 9)))
          have HI3 := Lib.hid ((HI.out.kept hg3 (ct_low HI.out HBL.out)).alloc (.cells #[.string tx] 9))
          have HOA := Lib.hid ((HO.out.kept hg3 (ct_low HO.out HBL.out)).alloc (.cells #[.string tx] 9))
          have HSRC := Lib.hid (StrS.src w3 tx 9 (cs := #[.string tx]) rfl)
          have hsz3 : w1.heap.size ≤ w3.heap.size := HG3.out.size
          have HSZ := Lib.hid hsz3
          have HGA := Lib.hid (ct_over HG3.out (below_grown ((Below.refl w3.heap.size w3).alloc (Nat.le_refl _) (.cells #[.string tx] 9)) none) (fun g e => by cases e))
          clear hb3 hc3 hg3 hsz3 c0
          go_wp2_with (at_builtin; refine wpList_append_own_at _ rfl (.tmp 26) (.tmp 31) 23 rfl w1.heap.size 9 j0 _ 1 16 Tryz.underlying23 ji jz0 jz1 jz2 rfl (by decide) _ j _ rfl HOA.out ⟨w3.heap.size, 0, none⟩ 1 1 [.string tx] rfl rfl HSRC.out (StrS.one tx) (by unfold maxLen; omega) (by omega) (Nat.le_trans HSZ.out (by simp)) ?_)
          intro v7 w7 ho7 hg7 _ _
          have hrow : ∀ g, (Value.slice b9 j d9).ownBlock = some g → w1.heap.size ≤ g := fun g hg => (HOA.out.lt g hg).1
          have HC7 := Lib.hid (show CurAt 155 w7 B a1 n c1 xs (txR xs ss i2 e2 (j + 1)).2.1 (txR xs ss i2 e2 (j + 1)).2.2 from by
            rw [HTR.out]
            exact HC3.out.over hg7 hrow HBL.out HSL.out)
          have HI7 := Lib.hid (HI3.out.kept hg7 (own_ne2 HI3.out HOA.out (by decide)))
          have HG7 := Lib.hid (ct_over HGA.out hg7 hrow)
          obtain ⟨g7, c7, rfl⟩ := ct_some2 ho7 (by omega)
          have HO7 := Lib.hid (show w7.ownsRow w1.heap.size 9 1 (.slice (some ⟨g7, 0, none⟩) (j + 1) c7) (j + 1) (StrS.flat (txR xs ss i2 e2 (j + 1)).1) from by
            rw [HTR.out, StrS.flat_snoc, ← HTX.out]; exact ho7)
          clear ho7 hg7 hrow hcv
          go_wp2_with fail
          go_roundw
          case rel => exact ⟨j + 1, c7, _, by omega, by go_num, rfl, HC7, HI7, HO7, HG7⟩
          case measure => simp [intOf]; omega
        · obtain rfl : j = k := by omega
          have HW := whole_any HC.out b9 j d9
          have hbw : Below w.heap.size w wt := HB1.out.grown HG.out HB1.out.size (fun d hd => by cases hd; exact HBW.out)
          have hv : VecAt StrS wt b9 j d9 (txR xs ss i2 e2 j).1 := VecAt.ofOwn (S := StrS) HO.out (txR_len _ _ _ _ _) (fun z hz => by
            have := txR_le xs ss i2 e2 j z hz; have := HXL.out; show z.size ≤ _; omega)
          have HV := Lib.hid hv
          have HBW2 := Lib.hid hbw
          clear hjk hv hbw
          by_cases hz : cend n (txR xs ss i2 e2 j).2.1 (txR xs ss i2 e2 j).2.2 = 0
          · rw [if_pos hz] at HW
            have HW := Lib.hid HW
            have HZ := Lib.hid hz
            clear hz
            go_wp2_with fail
            refine HW.out.mono ?_
            rintro e w5 ⟨rfl, q, hq⟩
            have HQ := Lib.hid hq
            clear hq
            go_wp2_with fail
            go_ret
            refine ⟨b9, j, d9, rfl, ?_, ?_⟩
            · rw [HR2.out, if_pos HZ.out, HQ.out]
              exact HV.out.kept (ct_drewN (Below.refl _ _) (Nat.le_refl _) q)
            · rw [HQ.out]; exact ct_drewN HBW2.out HBW2.out.size q
          · rw [if_neg hz] at HW
            have HW := Lib.hid HW
            have HZ := Lib.hid hz
            clear hz
            go_wp2_with fail
            refine HW.out.mono ?_
            rintro e w5 ⟨rfl, q, hq⟩
            have HQ := Lib.hid hq
            clear hq
            go_wp2_with fail
            go_ret
            refine ⟨none, 0, 0, rfl, ?_, ?_⟩
            · rw [HR2.out, if_neg HZ.out]
              exact VecAt.empty _ none 0 (by omega) (fun _ => rfl)
            · rw [HQ.out]; exact ct_drewN HBW2.out HBW2.out.size q
end Go.Proofs.YtpbijdoemdoijaaGreatDoor
end PkCa13_0
section PkCa13_1
/- slices.Compact of texts that a call owns. -/
namespace Go.Proofs.YtpbijdoemdoijaaGreatDoor
open Go.RowKit Go.Sort Go.Shelf Go.Lib
set_option linter.unusedVariables false

/-- texts, of equal neighbours one -/
def cpt (l : List ByteArray) : List ByteArray := (Lib.compact (l.map tb)).map fb
theorem cpt_enc (l : List ByteArray) : (Lib.compact (l.map tb)).map encStr = (cpt l).map Value.string := by
  unfold cpt
  rw [List.map_map]
  rfl
theorem cpt_le (l : List ByteArray) : (cpt l).length ≤ l.length := by
  unfold cpt
  have h := compact_length_le (l.map tb)
  rw [List.length_map] at h ⊢
  exact h
theorem strs_of (l : List ByteArray) : Lib.strsOf (fun t => l.getD t ByteArray.empty) l.length = l.map tb := by
  apply List.ext_getElem
  · simp [Lib.strsOf]
  · intro i h1 h2
    have : i < l.length := by simpa using h2
    simp [Lib.strsOf, tb, this]

set_option maxHeartbeats 1000000 in
theorem compact_any {w : World} {base b n c : Nat} {l : List ByteArray} (ho : w.ownsRow base 9 1 (.slice (some ⟨b, 0, none⟩) n c) n (StrS.flat l)) (hn : n ≤ 100000) (hok : ∀ x ∈ cpt l, x.size ≤ 140737488355328) :
    Calls Tryz.prog 76 #[.slice (some ⟨b, 0, none⟩) n c] w fun e w' => e = .returned (.slice (some ⟨b, 0, none⟩) (cpt l).length c) ∧ VecAt StrS w' (some ⟨b, 0, none⟩) (cpt l).length c (cpt l) ∧ Below base w w' := by
  have hl : l.length = n := by
    have h := ho.1
    rw [StrS.flat_len] at h
    have h2 : l.length * 1 = n * 1 := h
    omega
  have hcell : ∀ i, i < n → w.cell? ⟨b, 0 + i, none⟩ = some (.string (l.getD i ByteArray.empty)) := fun i hi => by
    have h := ho.cellAt i (by omega)
    rw [Nat.zero_add, h]
    have h2 := vflat_at StrS.f StrS.K StrS.wid StrS.z l i 0 (by omega) StrS.pos
    rw [show i * StrS.K + 0 = i from by show i * 1 + 0 = i; omega] at h2
    exact h2
  rcases ho.2 with ⟨he, _⟩ | ⟨g, cap, cur, he, hbase, hgb, r1, r2, r3, r4⟩
  · cases he
  · cases he
    have hfr : ∀ j, j < n → w.frozen? ⟨b, 0 + j, none⟩ = false := fun j _ => by simp [World.frozen?, hgb]
    have hgl : b < w.heap.size := (Array.getElem?_eq_some_iff.1 hgb).1
    have HC := sh_slices_Compact_string_cells b 0 n c (fun t => l.getD t ByteArray.empty) w (by omega) r1 hcell hfr
    have hst : Lib.strsOf (fun t => l.getD t ByteArray.empty) n = l.map tb := by rw [← hl]; exact strs_of l
    rw [hst] at HC
    have hcl : (cpt l).length = (Lib.compact (l.map tb)).length := by unfold cpt; rw [List.length_map]
    have hle := cpt_le l
    have hml : c ≤ 9223372036854775807 := by unfold maxLen at r2; exact r2
    refine HC.mono ?_
    rintro e w' ⟨rfl, q, rfl⟩
    have hvl : (((Lib.compact (l.map tb)) ++ List.replicate (n - (Lib.compact (l.map tb)).length) []).map encStr).length = n := by
      rw [List.length_map, List.length_append, List.length_replicate]; omega
    refine ⟨by rw [hcl], ⟨rfl, by omega, hml, (fun e => by cases e), hok, fun _ => ⟨b, 0, rfl, ?_, fun i hi j u hu => ?_⟩⟩, ?_⟩
    · have h := (below_setCells_w (B := base) hbase (((Lib.compact (l.map tb)) ++ List.replicate (n - (Lib.compact (l.map tb)).length) []).map encStr) 0 (w.drewN q)).size
      exact Nat.lt_of_lt_of_le (by simpa using hgl) h
    · have h0 : j = 0 := by
        have h := (List.getElem?_eq_some_iff.1 hu).1
        rw [StrS.wid] at h
        have h : j < 1 := h
        omega
      subst h0
      have h1 := World.cell?_setCells_in b (((Lib.compact (l.map tb)) ++ List.replicate (n - (Lib.compact (l.map tb)).length) []).map encStr) 0 (w.drewN q) (fun j hj => by
        have := hcell j (by omega)
        simp only [World.cell?_drewN]
        rw [this]; rfl) i (by omega)
      rw [show 0 + i * StrS.K + 0 = 0 + i from by show 0 + i * 1 + 0 = 0 + i; omega, h1]
      have h2 : StrS.f ((cpt l).getD i StrS.z) = [.string ((cpt l).getD i StrS.z)] := rfl
      rw [h2] at hu
      cases hu
      congr 1
      have h3 : i < (Lib.compact (l.map tb)).length := by omega
      simp only [List.getElem_map]
      rw [List.getElem_append_left h3, List.getD_eq_getElem?_getD, List.getElem?_eq_getElem hi]
      simp only [cpt, List.getElem_map, Option.getD_some]
      rfl
    · exact (ct_drewN (Below.refl base w) (by omega) q).trans (below_setCells_w hbase _ 0 (w.drewN q))
end Go.Proofs.YtpbijdoemdoijaaGreatDoor
end PkCa13_1
section PkCa13_2
/- Labels, plainly: names, sets, what is asked of them. No Go in sight. -/
namespace Go.Proofs.YtpbijdoemdoijaaGreatDoor.LabPlain
open Go
set_option linter.unusedVariables false

/-- a text's byte -/
def at_ (s : ByteArray) (i : Nat) : Nat := (s.data.toList.getD i 0).toNat
theorem at_get (s : ByteArray) (i : Nat) (h : i < s.size) : at_ s i = (s[i]'h).toNat := by
  unfold at_
  have h2 : i < s.data.toList.length := by simpa using h
  rw [List.getD_eq_getElem?_getD, List.getElem?_eq_getElem h2]
  rfl
theorem at_lt (s : ByteArray) (i : Nat) : at_ s i < 256 := UInt8.toNat_lt _
/-- is it a small letter; may it stand in a name? -/
def isL (c : Nat) : Bool := decide (97 ≤ c) && decide (c ≤ 122)
def okC (c : Nat) : Bool := isL c || decide (c = 95) || (decide (48 ≤ c) && decide (c ≤ 57))
/-- are the first k bytes such? -/
def allC (s : ByteArray) : Nat → Bool
  | 0 => true
  | k + 1 => allC s k && okC (at_ s k)
theorem allC_no {s : ByteArray} {k : Nat} (h : okC (at_ s k) = false) : ∀ d, allC s (k + 1 + d) = false
  | 0 => by simp [allC, h]
  | d + 1 => by rw [← Nat.add_assoc, allC, allC_no h d]; rfl
/-- a name -/
def isNm (s : ByteArray) : Bool := decide (1 ≤ s.size) && decide (s.size ≤ 8) && isL (at_ s 0) && allC s s.size

/-- one text ahead of another one -/
def ltB (a b : ByteArray) : Bool := Op.bytesLess a.toList b.toList
theorem bl_irrefl : ∀ a : List UInt8, Op.bytesLess a a = false
  | [] => rfl
  | a :: x => by simp [Op.bytesLess, bl_irrefl x]
theorem bl_trans : ∀ a b c : List UInt8, Op.bytesLess a b = true → Op.bytesLess b c = true → Op.bytesLess a c = true
  | a, b, [], _, h2 => by cases b <;> simp [Op.bytesLess] at h2
  | a, [], c :: z, h1, _ => by cases a <;> simp [Op.bytesLess] at h1
  | [], b :: y, c :: z, _, _ => rfl
  | a :: x, b :: y, c :: z, h1, h2 => by
    simp only [Op.bytesLess, Bool.or_eq_true, decide_eq_true_eq, Bool.and_eq_true, beq_iff_eq] at h1 h2 ⊢
    rcases h1 with h1 | ⟨h1, h1'⟩
    · rcases h2 with h2 | ⟨h2, _⟩
      · exact .inl (UInt8.lt_trans h1 h2)
      · subst h2; exact .inl h1
    · subst h1
      rcases h2 with h2 | ⟨h2, h2'⟩
      · exact .inl h2
      · subst h2
        exact .inr ⟨rfl, bl_trans x y z h1' h2'⟩
theorem bl_total : ∀ a b : List UInt8, a ≠ b → Op.bytesLess a b = false → Op.bytesLess b a = true
  | [], [], h, _ => absurd rfl h
  | [], b :: y, _, h => by simp [Op.bytesLess] at h
  | a :: x, [], _, _ => rfl
  | a :: x, b :: y, hne, h => by
    simp only [Op.bytesLess, Bool.or_eq_false_iff, decide_eq_false_iff_not, Bool.and_eq_false_imp, beq_iff_eq] at h
    simp only [Op.bytesLess, Bool.or_eq_true, decide_eq_true_eq, Bool.and_eq_true, beq_iff_eq]
    by_cases e : a = b
    · subst e
      exact .inr ⟨rfl, bl_total x y (fun e => hne (by rw [e])) (h.2 rfl)⟩
    · refine .inl ?_
      have h1 := h.1
      rw [UInt8.not_lt] at h1
      rcases UInt8.lt_or_eq_of_le h1 with g | g
      · exact g
      · exact absurd g.symm e
theorem leq_not (a b : ByteArray) : (Op.bytesLess a.toList b.toList || a.toList == b.toList) = !ltB b a := by
  unfold ltB
  cases h : Op.bytesLess b.toList a.toList with
  | true =>
    rw [Bool.not_true, Bool.or_eq_false_iff]
    refine ⟨?_, ?_⟩
    · cases h2 : Op.bytesLess a.toList b.toList with
      | false => rfl
      | true => have := bl_trans _ _ _ h2 h; rw [bl_irrefl] at this; cases this
    · rw [beq_eq_false_iff_ne]; intro e; rw [e, bl_irrefl] at h; cases h
  | false =>
    rw [Bool.not_false]
    by_cases e : a.toList = b.toList
    · rw [e]; simp
    · rw [bl_total _ _ (fun e2 => e e2.symm) h]; rfl
theorem ltB_irrefl (a : ByteArray) : ltB a a = false := bl_irrefl _
theorem ltB_trans {a b c : ByteArray} (h1 : ltB a b = true) (h2 : ltB b c = true) : ltB a c = true := bl_trans _ _ _ h1 h2
theorem toList_inj {a b : ByteArray} (h : a.toList = b.toList) : a = b := by
  rw [ByteArray.toList_eq, ByteArray.toList_eq] at h
  cases a; cases b
  simpa using h
theorem eq_toList (a b : ByteArray) : (a.toList == b.toList) = decide (a = b) := by
  rw [Bool.eq_iff_iff, beq_iff_eq, decide_eq_true_eq]
  exact ⟨toList_inj, fun h => by rw [h]⟩

/-- a label: a name and a value -/
abbrev Lab := ByteArray × ByteArray
def lab0 : Lab := (ByteArray.empty, ByteArray.empty)
/-- are the first k right, each behind the one ahead of it? -/
def upTo (l : List Lab) : Nat → Bool
  | 0 => true
  | k + 1 => upTo l k && (isNm (l.getD k lab0).1 && decide ((l.getD k lab0).2.size ≤ 16) && (decide (k = 0) || ltB (l.getD (k - 1) lab0).1 (l.getD k lab0).1))
/-- a label set -/
def isSet (l : List Lab) : Bool := decide (l.length ≤ 4) && upTo l l.length
theorem upTo_no {l : List Lab} {k : Nat} (h : (isNm (l.getD k lab0).1 && decide ((l.getD k lab0).2.size ≤ 16) && (decide (k = 0) || ltB (l.getD (k - 1) lab0).1 (l.getD k lab0).1)) = false) : ∀ d, upTo l (k + 1 + d) = false
  | 0 => by rw [upTo, h, Bool.and_false]
  | d + 1 => by rw [← Nat.add_assoc, upTo, upTo_no h d]; rfl
theorem upTo_le {l : List Lab} {k : Nat} (h : upTo l k = true) {j : Nat} (hj : j < k) : isNm (l.getD j lab0).1 = true ∧ (l.getD j lab0).2.size ≤ 16 ∧ (j = 0 ∨ ltB (l.getD (j - 1) lab0).1 (l.getD j lab0).1 = true) := by
  obtain ⟨d, rfl⟩ : ∃ d, k = j + 1 + d := ⟨k - (j + 1), by omega⟩
  cases hc : (isNm (l.getD j lab0).1 && decide ((l.getD j lab0).2.size ≤ 16) && (decide (j = 0) || ltB (l.getD (j - 1) lab0).1 (l.getD j lab0).1)) with
  | false => rw [upTo_no hc d] at h; cases h
  | true => simpa [Bool.and_assoc] using hc
/-- names rise all along -/
theorem upTo_lt {l : List Lab} {k : Nat} (h : upTo l k = true) : ∀ d i, i + 1 + d < k → ltB (l.getD i lab0).1 (l.getD (i + 1 + d) lab0).1 = true
  | 0, i, hi => by
    rcases (upTo_le h (j := i + 1) (by omega)).2.2 with g | g
    · omega
    · exact g
  | d + 1, i, hi => by
    rcases (upTo_le h (j := i + 1 + (d + 1)) (by omega)).2.2 with g | g
    · omega
    · exact ltB_trans (upTo_lt h d i (by omega)) g
end Go.Proofs.YtpbijdoemdoijaaGreatDoor.LabPlain
end PkCa13_2
section PkCa13_3
/- slices.BinarySearch of texts, walked: of a text that is there. -/
namespace Go.Proofs.YtpbijdoemdoijaaGreatDoor
open Go.RowKit LabPlain
set_option linter.unusedVariables false

theorem bsNan_any (x : ByteArray) (w : World) : Calls Tryz.prog 161 #[.string x] w fun e w' => e = .returned (.bool false) ∧ w = w' := by
  have z : (x.toList == x.toList) = true := by simp
  go_enter Tryz.func161, Tryz.ntmps161
  go_wp2_with fail
  go_ret
  exact ⟨rfl, rfl⟩
theorem bsLess_any (x y : ByteArray) (w : World) : Calls Tryz.prog 121 #[.string x, .string y] w fun e w' => e = .returned (.bool (ltB x y)) ∧ w = w' := by
  go_enter Tryz.func121, Tryz.ntmps121
  go_wp2_with fail
  refine (bsNan_any x w).mono ?_
  rintro e w2 ⟨rfl, rfl⟩
  go_wp2_with fail
  go_ret
  exact ⟨rfl, rfl⟩
theorem nanSl_any (x : ByteArray) (w : World) : Calls Tryz.prog 122 #[.string x] w fun e w' => e = .returned (.bool false) ∧ w = w' := by
  have z : (x.toList == x.toList) = true := by simp
  go_enter Tryz.func122, Tryz.ntmps122
  go_wp2_with fail
  go_ret
  exact ⟨rfl, rfl⟩
set_option maxRecDepth 100000 in
set_option maxHeartbeats 4000000 in
theorem bsearch_any {w : World} {a : Option Addr} {n c : Nat} {l : List ByteArray} (h : VecAt StrS w a n c l) (hn : n ≤ 100000) {z : ByteArray} {k : Nat} (hk : k < n) (h1 : ∀ t, t < k → ltB (l.getD t ByteArray.empty) z = true) (h2 : ∀ t, k ≤ t → t < n → ltB (l.getD t ByteArray.empty) z = false) (hz : l.getD k ByteArray.empty = z) :
    Calls Tryz.prog 81 #[.slice a n c, .string z] w fun e w' => e = .returned (.tuple #[.int .i64 (k : Int), .bool true]) ∧ ∃ q, w' = w.drewN q := by
  obtain ⟨b, off, rfl, hlt, hc0⟩ := h.cells (by omega)
  have HC := Lib.hid (show ∀ i, i < n → w.cell? ⟨b, off + i, none⟩ = some (.string (l.getD i ByteArray.empty)) from fun i hi => by
    have h3 := hc0 i hi 0 (.string (l.getD i ByteArray.empty)) rfl
    rw [show off + i * StrS.K + 0 = off + i from by show off + i * 1 + 0 = off + i; omega] at h3
    exact h3)
  have H1 := Lib.hid h1
  have H2 := Lib.hid h2
  have HZ := Lib.hid hz
  clear h h1 h2 hz hc0
  go_enter Tryz.func81, Tryz.ntmps81
  go_wp2_with fail
  go_loopw [7, 8] (fun s7 s8 wr => ∃ lo hi q : Nat, s7 = .int .i64 (lo : Int) ∧ s8 = .int .i64 (hi : Int) ∧ lo ≤ k ∧ k ≤ hi ∧ hi ≤ n ∧ wr = w.drewN q) (fun s7 s8 _ => (intOf s8).toNat - (intOf s7).toNat)
  case atStart => exact ⟨0, n, 0, rfl, rfl, by omega, by omega, by omega, rfl⟩
  case round =>
    obtain ⟨lo, hi, q, rfl, rfl, hlk, hkh, hin, rfl⟩ := hrel
    by_cases hlh : lo < hi
    · obtain ⟨md, hmd⟩ : ∃ md, md = (lo + hi) / 2 := ⟨_, rfl⟩
      have cm : w.cell? ⟨b, off + (lo + hi) / 2, none⟩ = some (.string (l.getD ((lo + hi) / 2) ByteArray.empty)) := HC.out _ (by omega)
      obtain ⟨y, hy⟩ : ∃ y, y = l.getD ((lo + hi) / 2) ByteArray.empty := ⟨_, rfl⟩
      rw [← hy] at cm
      have hli : (lo : Int) < (hi : Int) := by omega
      have HY := Lib.hid hy
      cases hyz : ltB y z with
      | false =>
        have hmk : k ≤ (lo + hi) / 2 := by
          rcases Nat.lt_or_ge ((lo + hi) / 2) k with g | g
          · have h3 := H1.out _ g
            rw [← HY.out, hyz] at h3; cases h3
          · exact g
        have HL := Lib.hid (fun w => by have h := bsLess_any y z w; rw [hyz] at h; exact h : ∀ w, Calls Tryz.prog 121 #[.string y, .string z] w fun e w' => e = .returned (.bool false) ∧ w = w')
        clear hy hmd hyz
        go_wp2_with (first | (go_at_call 121; refine (HL.out _).mono ?_; rintro e w' ⟨rfl, rfl⟩))
        go_roundw
        case rel => exact ⟨lo, (lo + hi) / 2, _, rfl, by rw [show ((lo : Int) + (hi : Int)) / 2 = (((lo + hi) / 2 : Nat) : Int) by omega], by omega, by omega, by omega, rfl⟩
        case measure => simp [intOf]; omega
      | true =>
        have hmk : (lo + hi) / 2 < k := by
          rcases Nat.lt_or_ge ((lo + hi) / 2) k with g | g
          · exact g
          · have h3 := H2.out _ g (by omega)
            rw [← HY.out, hyz] at h3; cases h3
        have HL := Lib.hid (fun w => by have h := bsLess_any y z w; rw [hyz] at h; exact h : ∀ w, Calls Tryz.prog 121 #[.string y, .string z] w fun e w' => e = .returned (.bool true) ∧ w = w')
        clear hy hmd hyz
        go_wp2_with (first | (go_at_call 121; refine (HL.out _).mono ?_; rintro e w' ⟨rfl, rfl⟩))
        go_roundw
        case rel => exact ⟨(lo + hi) / 2 + 1, hi, _, by rw [show ((lo : Int) + (hi : Int)) / 2 + 1 = (((lo + hi) / 2 + 1 : Nat) : Int) by omega], rfl, by omega, by omega, by omega, rfl⟩
        case measure => simp [intOf]; omega
    · obtain rfl : lo = hi := by omega
      obtain rfl : lo = k := by omega
      have cm : w.cell? ⟨b, off + lo, none⟩ = some (.string z) := by rw [HC.out _ hk, HZ.out]
      have hli : ¬ (lo : Int) < (lo : Int) := by omega
      have hln : (lo : Int) < (n : Int) := by omega
      have hzz : (z.toList == z.toList) = true := by simp
      go_wp2_with fail
      first | go_ret2 | go_ret
      exact ⟨rfl, _, rfl⟩
end Go.Proofs.YtpbijdoemdoijaaGreatDoor
end PkCa13_3
section PkCa13_4
/- The words that a column knows, plainly: its texts, sorted, each once. -/
namespace Go.Proofs.YtpbijdoemdoijaaGreatDoor
open Go.RowKit Go.Sort Go.Lib LabPlain
set_option linter.unusedVariables false

theorem bl_lex : ∀ (x y : List UInt8), Op.bytesLess x y = decide (x < y)
  | [], [] => by simp [Op.bytesLess]
  | _ :: _, [] => by simp [Op.bytesLess]
  | [], _ :: _ => by simp [Op.bytesLess]
  | a :: x, b :: y => by
    rw [Op.bytesLess, bl_lex x y]
    simp only [List.cons_lt_cons_iff]
    rcases Decidable.em (a < b) with h1 | h1 <;> rcases Decidable.em (a = b) with h2 | h2 <;> simp [h1, h2]
theorem ltB_lex (a b : ByteArray) : ltB a b = decide (tb a < tb b) := by
  unfold ltB tb
  rw [bl_lex, Lib.toList_data, Lib.toList_data]
theorem cpt_inv (d : Array (List UInt8)) (hs : ∀ i j, i ≤ j → j < d.size → d[i]! ≤ d[j]!) : ∀ m, m ≤ d.size → (compactUpTo d m).Pairwise (· < ·) ∧ (∀ x ∈ compactUpTo d m, ∃ j, j < m ∧ x = d[j]!) ∧ ∀ j, j < m → d[j]! ∈ compactUpTo d m
  | 0, _ => ⟨by simp [compactUpTo], by simp [compactUpTo], fun j hj => by omega⟩
  | m + 1, hm => by
    obtain ⟨h1, h2, h3⟩ := cpt_inv d hs m (by omega)
    rw [compactUpTo_succ]
    rcases Decidable.em (m = 0 ∨ d[m]! ≠ d[m - 1]!) with hk | hk
    · have hkk : keeps d m = true := by unfold keeps; exact decide_eq_true hk
      rw [if_pos hkk]
      refine ⟨List.pairwise_append.2 ⟨h1, by simp, fun x hx y hy => ?_⟩, fun x hx => ?_, fun j hj => ?_⟩
      · rw [List.mem_singleton.1 hy]
        obtain ⟨j, hj, rfl⟩ := h2 x hx
        have a1 := hs j (m - 1) (by omega) (by omega)
        have a2 := hs (m - 1) m (by omega) (by omega)
        have a3 : d[m]! ≠ d[m - 1]! := by rcases hk with e | e; omega; exact e
        refine List.not_le.1 fun h => a3 ?_
        exact List.le_antisymm (List.le_trans h a1) a2
      · rcases List.mem_append.1 hx with g | g
        · obtain ⟨j, hj, e⟩ := h2 x g
          exact ⟨j, by omega, e⟩
        · exact ⟨m, by omega, List.mem_singleton.1 g⟩
      · rcases Nat.lt_or_ge j m with g | g
        · exact List.mem_append_left _ (h3 j g)
        · obtain rfl : j = m := by omega
          exact List.mem_append_right _ (by simp)
    · have hkk : keeps d m = false := by unfold keeps; exact decide_eq_false hk
      rw [if_neg (by rw [hkk]; simp), List.append_nil]
      refine ⟨h1, fun x hx => ?_, fun j hj => ?_⟩
      · obtain ⟨j, hj, e⟩ := h2 x hx
        exact ⟨j, by omega, e⟩
      · rcases Nat.lt_or_ge j m with g | g
        · exact h3 j g
        · obtain rfl : j = m := by omega
          have e1 : ¬ j = 0 := fun e => hk (.inl e)
          have e2 : d[j]! = d[j - 1]! := Decidable.byContradiction fun e => hk (.inr e)
          rw [e2]; exact h3 (j - 1) (by omega)
/-- the words known -/
def kno (l : List ByteArray) : List ByteArray := cpt (srt l)
theorem srt_tb (l : List ByteArray) : (srt l).map tb = (l.map tb).mergeSort fun x y => decide (x ≤ y) := by
  unfold srt
  rw [List.map_map]
  conv => rhs; rw [← List.map_id ((l.map tb).mergeSort fun x y => decide (x ≤ y))]
  congr 1
theorem kno_facts (l : List ByteArray) : ((kno l).map tb).Pairwise (· < ·) ∧ ∀ z, z ∈ kno l ↔ z ∈ l := by
  obtain ⟨ss, hss⟩ : ∃ ss, ss = (l.map tb).mergeSort fun x y => decide (x ≤ y) := ⟨_, rfl⟩
  have hp : ss.Pairwise fun a b => decide (a ≤ b) = true := by
    rw [hss]
    exact List.pairwise_mergeSort (fun a b c h1 h2 => by simp only [decide_eq_true_eq] at *; exact List.le_trans h1 h2) (fun a b => by simp only [Bool.or_eq_true, decide_eq_true_eq]; exact List.le_total a b) _
  have hm : ∀ x, x ∈ ss ↔ x ∈ l.map tb := fun x => by rw [hss]; exact (List.mergeSort_perm _ _).mem_iff
  have hs : ∀ i j, i ≤ j → j < ss.toArray.size → ss.toArray[i]! ≤ ss.toArray[j]! := fun i j hij hj => by
    rw [getElem!_pos ss.toArray i (by omega), getElem!_pos ss.toArray j hj]
    rcases Nat.lt_or_ge i j with g | g
    · have h := List.pairwise_iff_getElem.1 hp i j (by simp at hj; omega) (by simpa using hj) g
      simpa using h
    · obtain rfl : i = j := by omega
      exact List.le_refl _
  obtain ⟨c1, c2, c3⟩ := cpt_inv ss.toArray hs ss.length (by simp)
  have hk : (kno l).map tb = Lib.compact ss := by
    unfold kno cpt
    rw [srt_tb, ← hss, List.map_map]
    conv => rhs; rw [← List.map_id (Lib.compact ss)]
    congr 1
  have hmem : ∀ x, x ∈ Lib.compact ss ↔ x ∈ ss := fun x => by
    constructor
    · intro hx
      obtain ⟨j, hj, e⟩ := c2 x hx
      rw [e, getElem!_pos ss.toArray j (by simpa using hj)]
      simp
    · intro hx
      obtain ⟨j, hj, e⟩ := List.getElem_of_mem hx
      have h := c3 j hj
      rw [getElem!_pos ss.toArray j (by simpa using hj)] at h
      rw [← e]
      show ss[j] ∈ compactUpTo ss.toArray ss.length
      simpa using h
  refine ⟨by rw [hk]; exact c1, fun z => ?_⟩
  have h1 : tb z ∈ (kno l).map tb ↔ tb z ∈ l.map tb := by rw [hk, hmem, hm]
  have inj : ∀ (m : List ByteArray), tb z ∈ m.map tb ↔ z ∈ m := fun m => by
    constructor
    · intro h
      obtain ⟨y, hy, e⟩ := List.mem_map.1 h
      have : y = z := by rw [← fb_tb y, e, fb_tb]
      rw [← this]; exact hy
    · exact fun h => List.mem_map.2 ⟨z, h, rfl⟩
  rw [inj, inj] at h1
  exact h1
theorem kno_find {l : List ByteArray} {z : ByteArray} (hz : z ∈ l) : ∃ k, k < (kno l).length ∧ (kno l).getD k ByteArray.empty = z ∧ (∀ t, t < k → ltB ((kno l).getD t ByteArray.empty) z = true) ∧ ∀ t, k ≤ t → t < (kno l).length → ltB ((kno l).getD t ByteArray.empty) z = false := by
  obtain ⟨hp, hm⟩ := kno_facts l
  obtain ⟨k, hk, he⟩ := List.getElem_of_mem ((hm z).2 hz)
  have hg : ∀ t (ht : t < (kno l).length), (kno l).getD t ByteArray.empty = (kno l)[t] := fun t ht => by simp [ht]
  have hlt : ∀ i j (hi : i < (kno l).length) (hj : j < (kno l).length), i < j → tb (kno l)[i] < tb (kno l)[j] := fun i j hi hj hij => by
    have h := List.pairwise_iff_getElem.1 hp i j (by simpa using hi) (by simpa using hj) hij
    simpa using h
  refine ⟨k, hk, by rw [hg k hk, he], fun t ht => ?_, fun t ht htl => ?_⟩
  · rw [hg t (by omega), ltB_lex, ← he]
    exact decide_eq_true (hlt t k (by omega) hk ht)
  · rw [hg t htl, ltB_lex, ← he]
    refine decide_eq_false fun h => ?_
    rcases Nat.lt_or_ge k t with g | g
    · exact List.lt_asymm h (hlt k t hk htl g)
    · obtain rfl : t = k := by omega
      exact List.lt_irrefl _ h
end Go.Proofs.YtpbijdoemdoijaaGreatDoor
end PkCa13_4
section PkCa13_5
/- The words that a column knows: slices.Compact(slices.Sorted(slices.Values(l))), call by call. -/
namespace Go.Proofs.YtpbijdoemdoijaaGreatDoor
open Go.RowKit Go.Shelf
set_option linter.unusedVariables false

theorem sortv_any {w : World} {a : Option Addr} {n c : Nat} {l : List ByteArray} (h : VecAt StrS w a n c l) (hn : n ≤ 100000) :
    Calls Tryz.prog 77 #[.func (.func 120) #[] #[.pointer (some ⟨w.heap.size, 0, none⟩)]] (w.alloc (.cells #[.slice a n c] 23)) fun e w' => ∃ v, e = .returned v ∧ w'.ownsRow w.heap.size 9 1 v l.length (StrS.flat (srt l)) ∧ Below w.heap.size w w' := by
  have hb0 : Below w.heap.size w (w.alloc (.cells #[.slice a n c] 23)) := (Below.refl _ w).alloc (Nat.le_refl _) _
  have hl := h.len
  have hsz : (w.alloc (.cells #[.slice a n c] 23)).heap.size = w.heap.size + 1 := by simp
  have bN := Boxed.new w 23 (.slice a n c)
  have hS := sorted_any (w := w.alloc (.cells #[.slice a n c] 23)) (gf := 120) (lb := #[.pointer (some ⟨w.heap.size, 0, none⟩)]) (enters_of Tryz.func120 (by kernel_rfl) rfl) (l := l) (by omega) (fun m hm => by
    have := seq_stops m hm w.heap.size (w.alloc (.cells #[.slice a n c] 23)).heap.size n c a l hn (w.alloc (.cells #[.slice a n c] 23)) (by rw [hsz]; omega) (Nat.le_refl _) bN.cell (h.kept hb0) (fun b off s hp he => by
      obtain ⟨b', off', he', hlt, _⟩ := h.cells hp
      rw [he] at he'; cases he'; rw [hsz]; omega)
    rw [hl]; exact this)
  refine hS.mono ?_
  rintro e w' ⟨v, rfl, ho, hb⟩
  exact ⟨v, rfl, own_lower ho (by rw [hsz]; omega), hb0.trans (hb.mono (by rw [hsz]; omega))⟩

theorem compv_any {w : World} {base n : Nat} {v : Value} {l : List ByteArray} (ho : w.ownsRow base 9 1 v n (StrS.flat (srt l))) (hl : l.length = n) (hn : n ≤ 100000) (hbs : base ≤ w.heap.size) (hok : ∀ x ∈ l, x.size ≤ 140737488355328) :
    Calls Tryz.prog 76 #[v] w fun e w' => ∃ a' m' c', e = .returned (.slice a' m' c') ∧ VecAt StrS w' a' m' c' (kno l) ∧ m' ≤ n ∧ Below base w w' := by
  have hle : (kno l).length ≤ n := by
    have h := cpt_le (srt l)
    rw [srt_len, hl] at h
    exact h
  rcases ho.2 with ⟨rfl, hz⟩ | ⟨g, cap, cur, rfl, hbase, hgb, r1, r2, r3, r4⟩
  · have hl0 : l = [] := List.eq_nil_of_length_eq_zero (by omega)
    subst hl0
    have hk0 : kno [] = [] := List.eq_nil_of_length_eq_zero (by simp at hl; omega)
    refine (sh_slices_Compact_string_empty none 0 w).mono ?_
    rintro e w' ⟨rfl, rfl⟩
    exact ⟨none, 0, 0, rfl, by rw [hk0]; exact VecAt.empty _ none 0 (by omega) (fun _ => rfl), by omega, Below.refl _ _⟩
  · refine (compact_any ho hn (fun x hx => hok x (((kno_facts l).2 x).1 hx))).mono ?_
    rintro e w' ⟨rfl, hv, hb⟩
    exact ⟨_, _, _, rfl, hv, hle, hb⟩
end Go.Proofs.YtpbijdoemdoijaaGreatDoor
end PkCa13_5
