/- The tokens of bytes, walked. Written by gensqtok.py. -/
import Derived.Test.YteggmbfhfoijoaaDoorSqLong
import Derived.Maps.AppendAt
import Derived.Deep.OwnRows
import Derived.Carry
namespace Go.Proofs.YteggmbfhfoijoaaDoor
open Go.RowKit
set_option linter.unusedVariables false

theorem tok_info : (Tryd.prog.info? 108).map (fun i => (i.zero, i.size, i.bytes)) = some (some (.agg #[.int .i64 0, .int .i64 0, .int .u8 0]), 3, 24) := by kernel_rfl
theorem int_info0 : (Tryd.prog.info? 3).map (fun i => (i.zero, i.size, i.bytes)) = some (some (.int .i64 0), 1, 8) := by kernel_rfl

/-- the cells of tokens -/
def tcs (l : List (Nat × Nat × Nat)) : List Value := l.flatMap fun t => (tc t).toList
theorem tcs_snoc (l : List (Nat × Nat × Nat)) (t : Nat × Nat × Nat) : tcs (l ++ [t]) = tcs l ++ (tc t).toList := by simp [tcs]
theorem tcs_length (l : List (Nat × Nat × Nat)) : (tcs l).length = l.length * 3 := by
  induction l with
  | nil => rfl
  | cons x r ih => simp only [tcs, List.flatMap_cons, List.length_append] at ih ⊢; rw [ih]; simp [tc]; omega

theorem tok_pos {b : List Nat} {p : Nat} (hp : p < b.length) : 1 ≤ max 1 (tokAt b p).1 ∧ p + max 1 (tokAt b p).1 ≤ b.length := by
  have h := bestD_le (b := b) (i := p) (d := min p 32768)
  rw [tokAt_eq, tokD_len]
  unfold most at h
  omega
theorem toksFrom_fuel {b : List Nat} : ∀ {f f' p : Nat}, b.length - p ≤ f → b.length - p ≤ f' → toksFrom b f p = toksFrom b f' p
  | 0, 0, p, _, _ => rfl
  | 0, f' + 1, p, h, _ => by simp only [toksFrom]; rw [if_neg (by omega)]
  | f + 1, 0, p, _, h => by simp only [toksFrom]; rw [if_neg (by omega)]
  | f + 1, f' + 1, p, h, h' => by
    simp only [toksFrom]
    split
    · rename_i hp
      have := tok_pos hp
      rw [toksFrom_fuel (f := f) (f' := f') (by omega) (by omega)]
    · rfl
theorem toks_next {b : List Nat} {p : Nat} (hp : p < b.length) : toksFrom b (b.length - p) p = tokAt b p :: toksFrom b (b.length - (p + max 1 (tokAt b p).1)) (p + max 1 (tokAt b p).1) := by
  have h1 := tok_pos hp
  rw [show b.length - p = (b.length - p - 1) + 1 from by omega]
  simp only [toksFrom]
  rw [if_pos hp]
  exact congrArg _ (toksFrom_fuel (by omega) (Nat.le_refl _))

theorem WinAt.keepB {w0 w w' : World} {W A M B : Nat} {a : Option Addr} {n c ac : Nat} {b : List Nat} {p : Nat} (h : WinAt w0 w W A M a n c ac b p) (hb : Below B w w') (h0 : w0.heap.size ≤ B) (hW : W < B) (hA : A < B) (hM : M < B) : WinAt w0 w' W A M a n c ac b p := by
  obtain ⟨cur, h1, h2, h3⟩ := h.ah
  exact ⟨h.by_, h.bel.trans (hb.mono h0), h.nW, h.nA, h.nM, h.wa, h.wm, h.am, (hb.block W hW).trans h.win, h.hac, ⟨cur, (hb.block A hA).trans h1, h2, h3⟩, h.map.same (hb.block M hM)⟩
theorem own_two {w w' : World} {base n A M : Nat} {e : TypeId} {size : Nat} {v : Value} {xs : List Value} (h : w.ownsRow base e size v n xs) (ht : Two A M w w') (hA : A < base) (hM : M < base) : w'.ownsRow base e size v n xs := by
  refine ⟨h.1, ?_⟩
  rcases h.2 with hn | ⟨g, cap, cur, rfl, hb, hgg, rest⟩
  · exact .inl hn
  · exact .inr ⟨g, cap, cur, rfl, hb, (ht.block g (Array.getElem?_eq_some_iff.1 hgg).1 (by omega) (by omega)).trans hgg, rest⟩
theorem own_block {w : World} {base n : Nat} {e : TypeId} {size : Nat} {v : Value} {xs : List Value} (h : w.ownsRow base e size v n xs) : ∀ k, v.ownBlock = some k → base ≤ k := by
  rcases h.2 with ⟨rfl, _⟩ | ⟨g, cap, cur, rfl, hb, _⟩
  · intro k hk; simp [Value.ownBlock] at hk
  · intro k hk; simp [Value.ownBlock] at hk; omega
theorem Two.toBelow {A M B : Nat} {w w' : World} (h : Two A M w w') (hA : B ≤ A) (hM : B ≤ M) (hs : B ≤ w.heap.size) : Below B w w' := h.old (Below.refl B w) hA hM hs

theorem pass_at {w0 w : World} {W A M : Nat} {a : Option Addr} {n c ac : Nat} {b : List Nat} {p : Nat} (h : WinAt w0 w W A M a n c ac b p) (hp : p < n) :
    Calls Tryd.prog 61 #[.pointer (some ⟨W, 0, none⟩), .int .i64 (p : Int)] w fun e w' => e = .returned (.tuple #[]) ∧ WinAt w0 w' W A M a n c ac b (p + 1) ∧ Two A M w w' := by
  by_cases h3 : p + 3 ≤ n
  · exact pass_any h h3
  · exact pass_over h hp (by omega)
theorem tc_src (w : World) (t : Nat × Nat × Nat) (ty : TypeId) : ∀ j u, (tc t).toList[j]? = some u → (w.alloc (.cells (tc t) ty)).cell? ((⟨w.heap.size, 0, none⟩ : Addr).add j) = some u := by
  intro j u hj
  have h4 : (⟨w.heap.size, 0, none⟩ : Addr).add j = ⟨w.heap.size, 0 + j, none⟩ := by unfold Addr.add; split <;> simp_all
  rw [h4, Nat.zero_add]
  refine cell_of (heap_alloc_new w _) (u := u) ?_
  rw [← Array.getElem?_toList]
  exact hj
theorem tc_one (t : Nat × Nat × Nat) : ∀ u ∈ (tc t).toList, u.oneCell' = true := by
  intro u hu
  simp [tc] at hu
  rcases hu with rfl | rfl | rfl <;> rfl

theorem own_lt {w : World} {base n : Nat} {e : TypeId} {size : Nat} {v : Value} {xs : List Value} (h : w.ownsRow base e size v n xs) : ∀ k, v.ownBlock = some k → k < w.heap.size := by
  rcases h.2 with ⟨rfl, _⟩ | ⟨g, cap, cur, rfl, hb, hh, _⟩
  · intro k hk; simp [Value.ownBlock] at hk
  · intro k hk; simp [Value.ownBlock] at hk; subst hk; exact (Array.getElem?_eq_some_iff.1 hh).1
set_option maxRecDepth 100000 in
set_option maxHeartbeats 1000000 in
theorem tokens_long {w : World} {a : Option Addr} {n c : Nat} (hn : 65536 < n) :
    Calls Tryd.prog 43 #[.slice a n c] w fun e w' => e = .returned (.tuple #[.slice none 0 0, .int .i64 5]) ∧ Below w.heap.size w w' := by
  have hni : (65536 : Int) < (n : Int) := by omega
  go_enter Tryd.func43, Tryd.ntmps43
  go_wp2_with fail
  first | go_ret2 | go_ret
  exact ⟨rfl, Below.refl _ _⟩

set_option maxRecDepth 100000 in
set_option maxHeartbeats 4000000 in
theorem tokens_any {w : World} {a : Option Addr} {n c : Nat} {b : List Nat} (h : BytesAt w a n c b) (hn : n ≤ 65536) :
    Calls Tryd.prog 43 #[.slice a n c] w fun e w' => ∃ v, e = .returned (.tuple #[v, .int .i64 0]) ∧ w'.ownsRow w.heap.size 108 3 v (toks b).length (tcs (toks b)) ∧ Below w.heap.size w w' := by
  obtain ⟨i0, hi, hz0, hz1, hz2⟩ := info_parts tok_info
  have hcap := h.cap
  have hcm := h.capm
  have hlen := h.len
  obtain ⟨w1, hw1⟩ : ∃ w1, w1 = w.alloc (.map #[] 0) := ⟨_, rfl⟩
  have b1 : Below w.heap.size w w1 := by rw [hw1]; exact (Below.refl _ _).alloc (Nat.le_refl _) _
  have s1 : w1.heap.size = w.heap.size + 1 := by rw [hw1]; show (w.heap.push _).size = _; exact Array.size_push ..
  have hmk := run_make_row' (P := Tryd.prog) 104 3 (.int .i64 0) 8 Tryd.underlying104 int_info0 rfl .i64 .i64 n (by omega) (by omega) w1
  obtain ⟨w2, hw2⟩ : ∃ w2, w2 = w1.alloc (.cells (madeCells #[.int .i64 0] n) 3) := ⟨_, rfl⟩
  have b2 : Below w1.heap.size w1 w2 := by rw [hw2]; exact (Below.refl _ _).alloc (Nat.le_refl _) _
  have s2 : w2.heap.size = w1.heap.size + 1 := by rw [hw2]; show (w1.heap.push _).size = _; exact Array.size_push ..
  obtain ⟨w3, hw3⟩ : ∃ w3, w3 = w2.alloc (.cells #[.slice a n c, .map (some w.heap.size), .slice (some ⟨w1.heap.size, 0, none⟩) n n] 106) := ⟨_, rfl⟩
  have b3 : Below w2.heap.size w2 w3 := by rw [hw3]; exact (Below.refl _ _).alloc (Nat.le_refl _) _
  have s3 : w3.heap.size = w2.heap.size + 1 := by rw [hw3]; show (w2.heap.push _).size = _; exact Array.size_push ..
  have hb3 : Below w.heap.size w w3 := b1.trans ((b2.mono (by omega)).trans (b3.mono (by omega)))
  have hmm := MapIs.made w
  rw [← hw1] at hmm
  have hmade : ∀ i, i < n → ∃ z : Int, (madeCells #[.int .i64 0] n)[i]? = some (.int .i64 z) := fun i hi => ⟨0, by simp [madeCells, hi, Nat.mod_one]⟩
  have hwin : WinAt w w3 w2.heap.size w1.heap.size w.heap.size a n c n b 0 :=
    ⟨h, hb3, by omega, by omega, Nat.le_refl _, by omega, by omega, by omega, by rw [hw3]; exact heap_alloc_new _ _, ⟨Nat.le_refl _, by omega⟩, ⟨_, (b3.block _ (by omega)).trans (by rw [hw2]; exact heap_alloc_new _ _), hmade, fun i h0 => absurd h0 (Nat.not_lt_zero _)⟩, (hmm.same ((b3.block _ (by omega)).trans (b2.block _ (by omega)))).congr (fun k => rfl)⟩
  obtain ⟨W, hW⟩ : ∃ W, W = w2.heap.size := ⟨_, rfl⟩
  obtain ⟨A, hA⟩ : ∃ A, A = w1.heap.size := ⟨_, rfl⟩
  obtain ⟨M, hM⟩ : ∃ M, M = w.heap.size := ⟨_, rfl⟩
  have hmap := @run_makeMap Tryd.prog
  have HMK := Lib.hid hmk
  have HW1 := Lib.hid hw1
  have HW2 := Lib.hid hw2
  have HW3 := Lib.hid (show w3 = w2.alloc (.cells #[.slice a n c, .map (some w.heap.size), .slice (some ⟨w.heap.size + 1, 0, none⟩) n n] 106) from by rw [hw3, s1])
  have HWIN := Lib.hid hwin
  have HB3 := Lib.hid hb3
  have HH := Lib.hid h
  have hni : (n : Int) ≤ 65536 := by omega
  have HSZ := Lib.hid (show W = M + 2 ∧ A = M + 1 ∧ w3.heap.size = M + 3 from ⟨by omega, by omega, by omega⟩)
  rw [hw2.symm, hw1] at hmk
  clear h hwin hb3 b1 b2 b3 hmm hmade
  go_enter Tryd.func43, Tryd.ntmps43
  go_wp2_with fail
  have HWE := Lib.hid (show w.heap.size + 1 + 1 = W from by have := HSZ.out; omega)
  rw [← HW1.out, ← HW2.out, ← HW3.out, HWE.out]
  clear hmk hmap
  have hWM : M < A ∧ A < W ∧ W < M + 3 := by have := HSZ.out; omega
  have hs3 : M + 3 ≤ w3.heap.size := by have := HSZ.out; omega
  rw [← hA, ← hM, ← hW] at HWIN
  have HME := Lib.hid hM
  clear hW hA hM s1 s2 s3
  have hown0 : w3.ownsRow (M + 3) 108 3 (.slice none 0 0) 0 (tcs []) := ⟨rfl, .inl ⟨rfl, rfl⟩⟩
  go_loopw [5, 6] (fun s5 s6 wr => ∃ (p : Nat) (l : List (Nat × Nat × Nat)), p ≤ n ∧ s6 = .int .i64 p ∧ l.length ≤ p ∧ Hid (wr.ownsRow (M + 3) 108 3 s5 l.length (tcs l)) ∧ Hid (l ++ toksFrom b (n - p) p = toks b) ∧ Hid (WinAt w wr W A M a n c n b p) ∧ w3.heap.size ≤ wr.heap.size) (fun _ s6 _ => n - (intOf s6).toNat)
  case atStart => exact ⟨0, [], by omega, rfl, by simp, Lib.hid hown0, Lib.hid (by rw [Nat.sub_zero, toks, hlen]; rfl), HWIN, Nat.le_refl _⟩
  case round =>
    obtain ⟨p, l, hp, rfl, hlp, HO, HL, HK, hsz⟩ := hrel
    rename World => wr
    by_cases hpn : p < n
    · have hpi : (p : Int) < (n : Int) := by omega
      obtain ⟨⟨t1, t2, t3⟩, ht⟩ : ∃ t, t = tokAt b p := ⟨_, rfl⟩
      have HT := Lib.hid ht
      have hpos := tok_pos (b := b) (p := p) (by omega)
      rw [← ht] at hpos
      have HLG := Lib.hid (by have := longest_any HK.out (i := p) hpn; rw [← ht] at this; exact this)
      clear ht
      obtain ⟨sz, hsz2⟩ : ∃ sz, sz = max 1 t1 := ⟨_, rfl⟩
      rw [← hsz2] at hpos
      have HSS := Lib.hid hsz2
      have hszi : max 1 (t1 : Int) = (sz : Int) := by omega
      clear hsz2
      go_wp2_with fail
      try rw [HWE.out]
      refine HLG.out.mono ?_
      rintro e wa ⟨rfl, hba⟩
      obtain ⟨wb, hwb⟩ : ∃ wb, wb = wa.alloc (.cells #[.int .i64 (t1 : Int), .int .i64 (t2 : Int), .int .u8 (t3 : Int)] 108) := ⟨_, rfl⟩
      have hbb : Below wr.heap.size wr wb := by rw [hwb]; exact hba.alloc hba.size _
      have hsa := hba.size
      have hsb := hbb.size
      obtain ⟨T, hT⟩ : ∃ T, T = wa.heap.size := ⟨_, rfl⟩
      have gT : wb.heap[T]? = some (.cells #[.int .i64 (t1 : Int), .int .i64 (t2 : Int), .int .u8 (t3 : Int)] 108 (0, 0)) := by rw [hwb, hT]; exact heap_alloc_new _ _
      have lT := (Array.getElem?_eq_some_iff.1 gT).1
      have m0 := cell_of gT (i := 0) (u := .int .i64 (t1 : Int)) rfl
      have HGT := Lib.hid gT
      have HWB := Lib.hid hwb
      have HKB := Lib.hid (HK.out.keep hbb)
      have HOB := Lib.hid (own_below HO.out hbb)
      have hTge : M + 3 ≤ T := by omega
      have HTT := Lib.hid hT
      clear hbb hba gT hwb hT
      unfold tc
      go_wp2_with fail
      rw [← HTT.out, ← HWB.out]
      go_loopw [31] (fun s31 wx => ∃ k : Nat, k ≤ sz ∧ s31 = .int .i64 k ∧ Hid (WinAt w wx W A M a n c n b (p + k)) ∧ Hid (Two A M wb wx)) (fun s31 _ => sz - (intOf s31).toNat)
      case atStart => exact ⟨0, by omega, rfl, HKB, Lib.hid (Two.refl A M wb)⟩
      case round =>
        obtain ⟨k, hk, rfl, HKX, HTX⟩ := hrel
        rename World => wx
        by_cases hks : k < sz
        · have hki : (k : Int) < (sz : Int) := by omega
          have HPA := Lib.hid (by have := pass_at HKX.out (p := p + k) (by omega); rw [show ((p + k : Nat) : Int) = (p : Int) + (k : Int) from by omega] at this; exact this)
          go_wp2_with fail
          try rw [HWE.out]
          refine HPA.out.mono ?_
          rintro e wy ⟨rfl, hky, hty⟩
          have HKY := Lib.hid hky
          have HTY := Lib.hid (HTX.out.trans hty)
          clear hky hty
          go_wp2_with fail
          go_roundw
          case rel => exact ⟨k + 1, by omega, by go_num, HKY, HTY⟩
          case measure => simp [intOf]; omega
        · obtain rfl : k = sz := by omega
          have gx : wx.heap[T]? = some (.cells #[.int .i64 (t1 : Int), .int .i64 (t2 : Int), .int .u8 (t3 : Int)] 108 (0, 0)) := (HTX.out.block T lT (by omega) (by omega)).trans HGT.out
          have x0 := cell_of gx (i := 0) (u := .int .i64 (t1 : Int)) rfl
          have x1 := cell_of gx (i := 1) (u := .int .i64 (t2 : Int)) rfl
          have x2 := cell_of gx (i := 2) (u := .int .u8 (t3 : Int)) rfl
          have hox := own_two HOB.out HTX.out (by omega) (by omega)
          have hsx := HTX.out.size
          have hbz : Below wx.heap.size wx (wx.alloc (.cells #[.int .i64 (t1 : Int), .int .i64 (t2 : Int), .int .u8 (t3 : Int)] 108)) := (Below.refl _ _).alloc (Nat.le_refl _) _
          have hzs : wx.heap.size ≤ (wx.alloc (.cells #[.int .i64 (t1 : Int), .int .i64 (t2 : Int), .int .u8 (t3 : Int)] 108)).heap.size := hbz.size
          have HOZ := Lib.hid (show (wx.alloc (.cells #[.int .i64 (t1 : Int), .int .i64 (t2 : Int), .int .u8 (t3 : Int)] 108)).ownsRow (M + 3) 108 3 u5 l.length (tcs l) from own_below hox hbz)
          have HKZ := Lib.hid (show WinAt w (wx.alloc (.cells #[.int .i64 (t1 : Int), .int .i64 (t2 : Int), .int .u8 (t3 : Int)] 108)) W A M a n c n b (p + k) from HKX.out.keep hbz)
          have HSRC := Lib.hid (show ∀ j u, (tc (t1, t2, t3)).toList[j]? = some u → (wx.alloc (.cells #[.int .i64 (t1 : Int), .int .i64 (t2 : Int), .int .u8 (t3 : Int)] 108)).cell? ((⟨wx.heap.size, 0, none⟩ : Addr).add j) = some u from tc_src wx (t1, t2, t3) _)
          have HZS := Lib.hid (show M + 3 ≤ (wx.alloc (.cells #[.int .i64 (t1 : Int), .int .i64 (t2 : Int), .int .u8 (t3 : Int)] 108)).heap.size from by omega)
          have HZS2 := Lib.hid (Nat.le_trans (show w3.heap.size ≤ wx.heap.size from by omega) hzs)
          have HLL := Lib.hid (show (l ++ [(t1, t2, t3)]) ++ toksFrom b (n - (p + k)) (p + k) = toks b by
            have h1 := toks_next (b := b) (p := p) (by omega)
            rw [← HT.out, hlen] at h1
            have h2 := HSS.out
            simp only at h1
            rw [← h2] at h1
            rw [← HL.out, h1, List.append_assoc]
            rfl)
          clear gx hbz hox hzs
          go_wp2_with (at_builtin; refine wpList_append_own_at _ rfl (.tmp 43) (.tmp 45) 78 rfl (M + 3) 108 i0 _ 3 24 Tryd.underlying78 hi hz0 hz1 hz2 rfl (by decide) _ _ _ rfl HOZ.out ⟨wx.heap.size, 0, none⟩ 1 1 (tc (t1, t2, t3)).toList rfl rfl HSRC.out (tc_one _) (by unfold maxLen; omega) (by omega) HZS.out ?_)
          intro v' w5 ho5 hg5 _ hat5
          have HK5 := Lib.hid (HKZ.out.keepB (B := M + 3) ((Below.refl _ _).grown hg5 HZS.out (own_block HOZ.out)) (by rw [← HME.out]; omega) (by omega) (by omega) (by omega))
          have HO5 := Lib.hid (show w5.ownsRow (M + 3) 108 3 v' (l ++ [(t1, t2, t3)]).length (tcs (l ++ [(t1, t2, t3)])) from by rw [tcs_snoc, List.length_append]; exact ho5)
          have hs5 := hg5.size
          have HS5 := Lib.hid (show w3.heap.size ≤ w5.heap.size from Nat.le_trans HZS2.out hs5)
          clear ho5 hg5 hat5 hs5
          go_wp2_with fail
          go_roundw
          case rel => exact ⟨p + k, _, by omega, by go_num, by simp; omega, HO5, HLL, HK5, HS5.out⟩
          case measure => simp [intOf]; omega
    · have hpn' : p = n := by omega
      subst hpn'
      have hLL := HL.out
      rw [Nat.sub_self, toksFrom, List.append_nil] at hLL
      have HLL := Lib.hid hLL
      clear hLL
      have hni2 : ¬ ((p : Int) < (p : Int)) := by omega
      go_wp2_with fail
      first | go_ret2 | go_ret
      have hM := HME.out
      have hBB : Below w.heap.size w wr := HK.out.bel
      refine ⟨_, rfl, ?_, hBB⟩
      rw [← HLL.out]
      have ho := HO.out
      refine ⟨ho.1, ?_⟩
      rcases ho.2 with h0 | ⟨g, cap, cur, e1, e2, e3⟩
      · exact .inl h0
      · exact .inr ⟨g, cap, cur, e1, by omega, e3⟩
end Go.Proofs.YteggmbfhfoijoaaDoor
