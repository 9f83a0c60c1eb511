/- The walk of PrefixMakes: it returns true for all lengths and symbols. -/
import Derived.Test.YtnplkpgabdeogaaPrefMk2
import Derived.Test.YtnplkpgabdeogaaPrefRefWords
namespace Go.Proofs.Ytnplkpgabdeogaa
open Go.RowKit PrefPlain BitsPlain
set_option linter.unusedVariables false

set_option maxHeartbeats 1000000 in
theorem next_nil (p : Option Addr) (w : World) :
    Calls Try.prog 11 #[.pointer none, .pointer p] w fun e w' => e = .returned (.tuple #[.int .i64 0, .int .i64 1]) ∧ w = w' := by
  go_enter Try.func11, Try.ntmps11
  go_wp2_with fail
  go_ret2
  exact ⟨rfl, rfl⟩
set_option maxHeartbeats 1000000 in
theorem next_nor (B : Nat) (w : World) :
    Calls Try.prog 11 #[.pointer (some ⟨B, 0, none⟩), .pointer none] w fun e w' => e = .returned (.tuple #[.int .i64 0, .int .i64 1]) ∧ w = w' := by
  go_enter Try.func11, Try.ntmps11
  go_wp2_with fail
  go_ret2
  exact ⟨rfl, rfl⟩

theorem mk_zero {L : List Int} (h : mk L = 0) : fitsB (cn L) (mo L L.length) = true := by
  unfold mk at h
  split at h
  · cases h
  · split at h
    · cases h
    · split at h
      · cases h
      · rename_i hh; simpa using hh

/-- the law's own lengths, the first k of them made threes -/
structure In3 (b0 : Nat) (w3 wr : World) (L M : List Int) (v : Value) (n k : Nat) : Prop where
  own : wr.ownsRow b0 3 1 v n (iv .i64 M)
  eq : ∀ i, k ≤ i → M.getD i 0 = L.getD i 0
  grown : w3.grownBy wr v.ownBlock
theorem In3.next {b0 : Nat} {w3 wr : World} {L M : List Int} {g n c k : Nat} (h : In3 b0 w3 wr L M (.slice (some ⟨g, 0, none⟩) n c) n k) (q : Nat) :
    In3 b0 w3 ((wr.drewN q).setCell ⟨g, k, none⟩ (.int .i64 3)) L (M.set k 3) (.slice (some ⟨g, 0, none⟩) n c) n (k + 1) := by
  have h1 : (wr.drewN q).ownsRow b0 3 1 (.slice (some ⟨g, 0, none⟩) n c) n (iv .i64 M) := own_below h.own ⟨rfl, rfl, rfl, Nat.le_refl _, fun _ _ => rfl⟩
  have h2 := h1.stored k (.int .i64 3)
  rw [iv_set] at h2
  refine ⟨h2.1, fun i hi => ?_, h.grown.trans' ((grown_drewN wr q _).trans' h2.2)⟩
  rw [← h.eq i (by omega)]
  simp [List.getD_eq_getElem?_getD, show k ≠ i by omega]

theorem hasW_nat2 {L : List Int} {x : Int} (h : hasW L x) (hok : okL L L.length) : ∃ s n : Nat, x = (s : Int) ∧ s < L.length ∧ 0 < n ∧ n ≤ 15 ∧ L.getD s 0 = (n : Int) := by
  obtain ⟨h1, h2, h3⟩ := h
  have := hok x.toNat (by omega)
  exact ⟨x.toNat, (L.getD x.toNat 0).toNat, by omega, by omega, by omega, by omega, by omega⟩
/-- a word of the row, as a text -/
theorem tx_none {L : List Int} {s : Nat} (hok : okL L L.length) (hs : s < L.length) (h : L.getD s 0 = 0) : bs (wt L 16 0 s) = { data := #[] } := by
  rw [wt_end hok s hs, if_neg (by omega), bs_nil]
theorem tx_some {L : List Int} {s n : Nat} (hok : okL L L.length) (hs : s < L.length) (hn : 0 < n) (h : L.getD s 0 = (n : Int)) : bs (wt L 16 0 s) = bs (txt (fw (cn L) n + pl L s) n) := by
  rw [wt_end hok s hs, if_pos (by omega), wof, h, Int.toNat_natCast]
theorem tx_ne {V n : Nat} (hn : 0 < n) : ((bs (txt V n)).toList == ({ data := #[] } : ByteArray).toList) = false := by
  rw [← bs_nil, bs_eq (txt_byte V n) (fun y hy => by cases hy), beq_eq_false_iff_ne]
  intro e
  have := txt_len V n
  rw [e] at this
  simp at this
  omega

set_option maxRecDepth 100000 in
set_option maxHeartbeats 8000000 in
theorem prefixMakes_walk (a0 : Option Addr) (len0 cap0 : Nat) (z0 : List Int) (a1 : Int) (w : World) (w0 : IsRow .i64 8 w a0 len0 cap0 z0) (w1 : (Lit.int .i64 a1).wf = true) :
    Calls Try.prog 3 #[.slice a0 len0 cap0, .int .i64 a1] w fun e w' => e = .returned (.bool true) ∧ Below w.heap.size w w' := by
  have hz := w0.ints
  obtain ⟨L, hL⟩ : ∃ L, L = z0.take len0 := ⟨_, rfl⟩
  rw [← hL] at hz
  have HL := Lib.hid (lives5_any w)
  have HH := Lib.hid hz
  have HLEN := Lib.hid hz.len
  have hcap := hz.cap
  have hcm := hz.capm
  clear w0 w1 hz hL
  by_cases hb : (400 : Int) < (len0 : Int)
  · go_enter Try.func3, Try.ntmps3
    go_wp2_with fail
    refine HL.out.mono ?_
    rintro e w1 ⟨rfl, hb1⟩
    have HB1 := Lib.hid hb1
    have HL1 := Lib.hid (lives5_any w1)
    clear hb1
    go_wp2_with fail
    refine HL1.out.mono ?_
    rintro e w2 ⟨rfl, hb2⟩
    have HB2 := Lib.hid (HB1.out.trans (hb2.mono HB1.out.size))
    clear hb2
    go_wp2_with fail
    go_ret
    exact ⟨rfl, HB2.out⟩
  · have hb' : (len0 : Int) ≤ 400 := by omega
    clear hb
    go_enter Try.func3, Try.ntmps3
    go_wp2_with fail
    refine HL.out.mono ?_
    rintro e w1 ⟨rfl, hb1⟩
    have HB1 := Lib.hid hb1
    have HO0 := Lib.hid (World.ownsRow_lit (base := w1.heap.size) (e := 3) (size := 1) w1 #[] 0 (Nat.le_refl _) (by unfold maxLen; omega) rfl)
    have HX := Lib.hid ((HH.out.kept hb1).alloc (.cells #[] 3))
    clear hb1
    go_wp2_with (at_builtin; refine wpList_append_ints Try.underlying22 info_int rfl (.tmp 32) (.tmp 33) rfl w1.heap.size _ _ [] rfl HO0.out _ _ _ _ rfl HX.out (by omega) (by omega) (by simp) ?_)
    intro v2 w2 hown2 hg2
    have hown3 : w2.ownsRow w1.heap.size 3 1 v2 len0 (iv .i64 L) := by simpa using hown2
    have hb2 : Below w1.heap.size w1 w2 := ((Below.refl _ _).alloc (Nat.le_refl _) _).grown hg2 (by simp) (fun k hk => by simp [Value.ownBlock] at hk; omega)
    obtain ⟨av, cv, rfl, hiv, _⟩ := IntsAt.ofOwn hown3 HH.out.wf
    have HB2 := Lib.hid (HB1.out.trans (hb2.mono HB1.out.size))
    have HO2 := Lib.hid hown3
    have HM := Lib.hid (make2_any hiv)
    have hs12 := HB1.out.size
    have hs12' := hb2.size
    clear hown2 hg2 hown3 hb2 hiv
    obtain ⟨q, hq⟩ : ∃ q, q = mk L := ⟨_, rfl⟩
    rw [← hq] at HM
    have HQ := Lib.hid hq
    clear hq
    go_wp2_with fail
    refine HM.out.mono ?_
    rintro e w3 ⟨p, rfl, hb3, hp0, hp⟩
    have HB3 := Lib.hid (HB2.out.trans (hb3.mono HB2.out.size))
    have HO3 := Lib.hid (own_below HO2.out hb3)
    have HP0 := Lib.hid hp0
    have HP := Lib.hid hp
    have hs3 := hb3.size
    clear hb3 hp hp0
    go_wp2_with fail
    go_loopw [42] (fun s42 wr => ∃ (k : Nat) (M : List Int), k ≤ len0 ∧ s42 = .int .i64 k ∧ Hid (In3 w1.heap.size w3 wr L M (.slice av len0 cv) len0 k)) (fun s42 _ => len0 - (intOf s42).toNat)
    case atStart => exact ⟨0, L, by omega, rfl, Lib.hid ⟨HO3.out, fun _ _ => rfl, World.grownBy.refl _ _⟩⟩
    case round =>
      obtain ⟨k, M, hk, rfl, HI⟩ := hrel
      rename World => wr
      have hbr : Below w.heap.size w wr := HB3.out.grown HI.out.grown HB3.out.size (fun j hj => by have := (HO2.out.lt j hj).1; omega)
      have HBR := Lib.hid hbr
      clear hbr
      by_cases hkn : k < len0
      · obtain ⟨g, c, he⟩ := own_some HI.out.own (by omega)
        simp only [Value.slice.injEq, true_and] at he
        obtain ⟨rfl, rfl⟩ := he
        obtain ⟨b, off, rfl, hlt, hcell⟩ := (HH.out.kept HBR.out).cells (by omega)
        have hck := hcell k hkn
        obtain ⟨x, hx⟩ : ∃ x, x = L.getD k 0 := ⟨_, rfl⟩
        rw [← hx] at hck
        have hMl : M.length = len0 := by have := HI.out.own.1; rw [iv_length] at this; omega
        have c1 : wr.cell? ⟨g, k, none⟩ = some (.int .i64 x) := by
          rw [HI.out.own.cellAt k (by omega), iv_get _ _ _ (by omega), HI.out.eq k (Nat.le_refl _), hx]
        have f1 := HI.out.own.frozenAt k
        have hne : (x != x) = false := by simp
        have hkl : (k : Int) < (len0 : Int) := by omega
        clear hcell hx hMl
        go_wp2_with fail
        go_quiet (fail)
        rename Nat => nq
        go_wp2_with fail
        go_roundw
        case rel => exact ⟨k + 1, M.set k 3, by omega, by go_num, Lib.hid (HI.out.next nq)⟩
        case measure => simp [intOf]; omega
      · obtain rfl : k = len0 := by omega
        have hupd : ∀ i, w2.heap.size ≤ i → i < w3.heap.size → wr.heap[i]? = w3.heap[i]? := fun i h1 h2 => HI.out.grown.block i h2 (fun e => by have := (HO2.out.lt i e.symm).2; omega)
        have hsr := HI.out.grown.size
        have HUP := Lib.hid hupd
        have HCK := Lib.hid (check_any (HH.out.kept HBR.out))
        rw [← HQ.out] at HCK
        clear hupd
        by_cases hq0 : q = 0
        · subst hq0
          have hz : ((0 : Int) != 0) = false := by decide
          obtain ⟨B, rfl, hBw, hT⟩ := HP.out rfl
          have hTr := hT wr hsr HUP.out
          have HT := Lib.hid hTr
          have HF := Lib.hid (mk_zero HQ.out.symm)
          have HOK := Lib.hid hTr.ok
          have HSH := Lib.hid hTr.short
          have HWD := Lib.hid (words_any (HH.out.kept HBR.out) hTr.ok HF.out hTr.short)
          clear hT hTr hBw
          go_wp2_with fail
          refine HCK.out.mono ?_
          rintro e w4 ⟨rfl, rfl⟩
          go_wp2_with fail
          refine HWD.out.mono ?_
          rintro e w5 ⟨rfl, hwr⟩
          have HT5 := Lib.hid (HT.out.kept hwr.below)
          have HB5 := Lib.hid (HBR.out.trans (hwr.below.mono HBR.out.size))
          have HR5 := Lib.hid hwr
          obtain ⟨g, hg⟩ : ∃ g, g = wr.heap.size := ⟨_, rfl⟩
          rw [← hg]
          have HR6 : Hid (WR wr w5 g L 16 0) := by rw [hg]; exact HR5
          clear hwr hg HR5
          go_wp2_with fail
          go_loop [93] (fun s93 => ∃ s : Nat, s ≤ k ∧ s93 = .int .i64 s) (fun s93 => k - (intOf s93).toNat)
          case atStart => exact ⟨0, by omega, rfl⟩
          case round =>
            obtain ⟨s, hs, rfl⟩ := hrel
            by_cases hsn : s < k
            · have hsL : s < L.length := by rw [HLEN.out]; exact hsn
              have hc := HR6.out.cell s hsL
              have h15 := HOK.out s hsL
              obtain ⟨n, hn⟩ : ∃ n : Nat, L.getD s 0 = (n : Int) := ⟨(L.getD s 0).toNat, by omega⟩
              by_cases hn0 : n = 0
              · subst hn0
                have hx0 : L.getD s 0 = 0 := hn
                rw [tx_none HOK.out hsL hx0] at hc
                have HW := Lib.hid (word_no HT5.out (s : Int) (fun h => h.2.2 (by rw [Int.toNat_natCast]; exact hx0)))
                clear hsL h15 hn hx0
                go_wp2_with fail
                refine HW.out.mono ?_
                rintro e w6 ⟨rfl, rfl⟩
                go_wp2_with fail
                go_round
                case rel => exact ⟨s + 1, by omega, by go_num⟩
                case measure => simp [intOf]; omega
              · have hn1 : 0 < n := by omega
                have hn15 : n ≤ 15 := by omega
                rw [tx_some HOK.out hsL hn1 hn] at hc
                have hw := word_fits HF.out hn1 hn15 hsL hn
                have HW := Lib.hid (word_yes HT5.out s n hsL hn1 hn)
                obtain ⟨V, hV⟩ : ∃ V, V = fw (cn L) n + pl L s := ⟨_, rfl⟩
                rw [← hV] at hc hw HW
                have HN := Lib.hid (number_any w5 V n hn15 hw)
                have ht1 := tx_ne (V := V) hn1
                have hsz : (bs (txt V n)).size = n := by rw [bs_size, txt_len]
                obtain ⟨tx, htx⟩ : ∃ tx, tx = bs (txt V n) := ⟨_, rfl⟩
                rw [← htx] at hc HN ht1 hsz
                have ht2 : ¬ tx.toList = [] := fun e => by
                  rw [e, show (({ data := #[] } : ByteArray).toList : List UInt8) = [] from by rw [ByteArray.toList_eq]] at ht1
                  simp at ht1
                have ht3 : (tx.toList == []) = false := by rw [beq_eq_false_iff_ne]; exact ht2
                have hnn : ((n : Int) != (n : Int)) = false := by simp
                have hvv : ((V : Int) != (V : Int)) = false := by simp
                clear hsL h15 hn hn0 hw hV htx
                go_wp2_with fail
                refine HW.out.mono ?_
                rintro e w6 ⟨rfl, rfl⟩
                go_wp2_with fail
                refine HN.out.mono ?_
                rintro e w7 ⟨rfl, rfl⟩
                go_wp2_with fail
                go_round
                case rel => exact ⟨s + 1, by omega, by go_num⟩
                case measure => simp [intOf]; omega
            · obtain rfl : s = k := by omega
              have HNN := Lib.hid (next_nor B w5)
              by_cases hsym : hasW L a1
              · obtain ⟨t, n, rfl, ht, hn, hn15, hLt⟩ := hasW_nat2 hsym HOK.out
                have HW := Lib.hid (word_yes HT5.out t n ht hn hLt)
                have hts : (t : Int) < (s : Int) := by have := HLEN.out; omega
                clear hsym hLt ht
                go_wp2_with fail
                refine HW.out.mono ?_
                rintro e w6 ⟨rfl, rfl⟩
                go_wp2_with fail
                refine HNN.out.mono ?_
                rintro e w7 ⟨rfl, rfl⟩
                go_wp2_with fail
                go_ret
                exact ⟨rfl, HB5.out⟩
              · have HW := Lib.hid (word_no HT5.out a1 hsym)
                clear hsym
                by_cases h0 : 0 ≤ a1
                · by_cases h1 : a1 < (s : Int)
                  all_goals
                    go_wp2_with fail
                    refine HW.out.mono ?_
                    rintro e w6 ⟨rfl, rfl⟩
                    go_wp2_with fail
                    refine HNN.out.mono ?_
                    rintro e w7 ⟨rfl, rfl⟩
                    go_wp2_with fail
                    go_ret
                    exact ⟨rfl, HB5.out⟩
                · have h0' : a1 < 0 := by omega
                  go_wp2_with fail
                  refine HW.out.mono ?_
                  rintro e w6 ⟨rfl, rfl⟩
                  go_wp2_with fail
                  refine HNN.out.mono ?_
                  rintro e w7 ⟨rfl, rfl⟩
                  go_wp2_with fail
                  go_ret
                  exact ⟨rfl, HB5.out⟩
        · have hq1 : ((q : Int) != 0) = true := by rw [bne_iff_ne]; omega
          have hqq : ((q : Int) != (q : Int)) = false := by simp
          obtain rfl := HP0.out hq0
          have HWN := Lib.hid (word_nil 0 wr)
          have HRN := Lib.hid (rnew_any (w := wr) (BytesAt.empty wr none 0 (by omega) (fun _ => rfl)))
          clear hq0
          go_wp2_with fail
          refine HCK.out.mono ?_
          rintro e w4 ⟨rfl, rfl⟩
          go_wp2_with fail
          refine HWN.out.mono ?_
          rintro e w5 ⟨rfl, rfl⟩
          go_wp2_with fail
          refine HRN.out.mono ?_
          rintro e w6 ⟨R, a', c', rfl, _, hb6, _, _⟩
          have HB6 := Lib.hid (HBR.out.trans (hb6.mono HBR.out.size))
          have HNN := Lib.hid (next_nil (some ⟨R, 0, none⟩) w6)
          clear hb6
          go_wp2_with fail
          refine HNN.out.mono ?_
          rintro e w7 ⟨rfl, rfl⟩
          go_wp2_with fail
          go_ret
          exact ⟨rfl, HB6.out⟩
end Go.Proofs.Ytnplkpgabdeogaa
