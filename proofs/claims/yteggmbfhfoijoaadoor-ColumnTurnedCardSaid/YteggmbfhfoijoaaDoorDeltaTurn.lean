/- Package delta's Turn and what it calls, walked. -/
import Derived.Test.YteggmbfhfoijoaaDoorDeltaPlain
import Derived.Test.YteggmbfhfoijoaaDoorInts
import Derived.BigRegion
namespace Go.Proofs.YteggmbfhfoijoaaDoor
open Go.RowKit NumsPlain DeltaPlain
set_option linter.unusedVariables false

theorem info_i64 : (Tryd.prog.info? 2).map (fun i => (i.zero, i.size, i.bytes)) = some (some (.int .i64 0), 1, 8) := by kernel_rfl

theorem wf_i64 {n : Int} (h : -9223372036854775808 ≤ n ∧ n ≤ 9223372036854775807) : (Lit.int .i64 n).wf = true := by
  simpa [Lit.wf, IntKind.min, IntKind.max, IntKind.signed, IntKind.bits] using h

set_option maxHeartbeats 400000 in
theorem known_any (way : Int) (w : World) :
    Calls Tryd.prog 53 #[.int .i64 way] w fun e w' => e = .returned (.bool (known way)) ∧ w = w' := by
  by_cases h0 : 0 ≤ way
  · by_cases h2 : way ≤ 2
    · have h : known way = true := (known_iff way).2 ⟨h0, h2⟩
      have H := Lib.hid h
      clear h
      go_enter Tryd.func53, Tryd.ntmps53
      go_wp2_with fail
      go_ret
      rw [H.out]
      exact ⟨rfl, rfl⟩
    · have h : known way = false := (known_no way).2 (.inr (by omega))
      have h2' : (2 : Int) < way := by omega
      have H := Lib.hid h
      have d2 : decide (way ≤ 2) = false := by simp; omega
      clear h h2
      go_enter Tryd.func53, Tryd.ntmps53
      go_wp2_with fail
      go_ret
      rw [H.out]
      exact ⟨rfl, rfl⟩
  · have h : known way = false := (known_no way).2 (.inl (by omega))
    have H := Lib.hid h
    have h0' : way < 0 := by omega
    have d0 : decide (0 ≤ way) = false := by simp; omega
    clear h h0
    go_enter Tryd.func53, Tryd.ntmps53
    go_wp2_with fail
    go_ret
    rw [H.out]
    exact ⟨rfl, rfl⟩

theorem all_take {l : List Int} {k : Nat} (hk : k < l.length) (h : (l.take k).all inB = true) : (l.take (k + 1)).all inB = inB (l.getD k 0) := by
  rw [← take_next hk, List.all_append, h]; simp
theorem all_no {l : List Int} {k : Nat} (hk : k < l.length) (h : inB (l.getD k 0) = false) : l.all inB = false := by
  rw [← Bool.not_eq_true, List.all_eq_true]
  intro hall
  have : l.getD k 0 = l[k] := by simp [hk]
  rw [this] at h
  have := hall _ (List.getElem_mem hk)
  rw [h] at this; cases this

set_option maxRecDepth 100000 in
set_option maxHeartbeats 1000000 in
theorem check_any {w : World} {a : Option Addr} {n c : Nat} {zs : List Int} (h : IntsAt .i64 w a n c zs) (way : Int) :
    Calls Tryd.prog 69 #[.slice a n c, .int .i64 way] w fun e w' => e = .returned (.int .i64 ((chk zs way : Nat) : Int)) ∧ w = w' := by
  have hlen := h.len
  have hcap := h.cap
  have hcm := h.capm
  have HH := Lib.hid h
  have HL := Lib.hid hlen
  clear h hlen
  cases hk : known way with
  | false =>
    have HC := Lib.hid (show chk zs way = 1 by unfold chk; rw [if_pos hk])
    have HK := Lib.hid hk
    clear hk
    go_enter Tryd.func69, Tryd.ntmps69
    go_wp2_with fail
    refine (known_any way w).mono ?_
    rintro e w1 ⟨rfl, rfl⟩
    rw [HK.out]
    go_wp2_with fail
    go_ret
    rw [HC.out]
    exact ⟨rfl, rfl⟩
  | true =>
    have HK := Lib.hid hk
    by_cases hbig : (2048 : Int) < (n : Int)
    · have HC := Lib.hid (show chk zs way = 5 by unfold chk; rw [if_neg (by rw [hk]; simp), if_pos (by rw [HL.out]; omega)])
      clear hk
      go_enter Tryd.func69, Tryd.ntmps69
      go_wp2_with fail
      refine (known_any way w).mono ?_
      rintro e w1 ⟨rfl, rfl⟩
      rw [HK.out]
      go_wp2_with fail
      go_ret
      rw [HC.out]
      exact ⟨rfl, rfl⟩
    · have hc : chk zs way = if zs.all inB then 0 else 2 := by
        unfold chk; rw [if_neg (by rw [hk]; simp), if_neg (by rw [HL.out]; omega)]
      have HC := Lib.hid hc
      have hbig2 : (n : Int) ≤ 2048 := by omega
      clear hk hc hbig
      go_enter Tryd.func69, Tryd.ntmps69
      go_wp2_with fail
      refine (known_any way w).mono ?_
      rintro e w1 ⟨rfl, rfl⟩
      rw [HK.out]
      go_wp2_with fail
      go_loop [15] (fun s15 => ∃ k : Nat, k ≤ n ∧ s15 = .int .i64 k ∧ Hid ((zs.take k).all inB = true)) (fun s15 => n - (intOf s15).toNat)
      case atStart => exact ⟨0, by omega, rfl, Lib.hid (by simp)⟩
      case round =>
        obtain ⟨k, hk, rfl, HA⟩ := hrel
        by_cases hkn : k < n
        · obtain ⟨b, off, rfl, hlt, hcell⟩ := HH.out.cells (by omega)
          have hck := hcell k hkn
          obtain ⟨x, hx⟩ : ∃ x, x = zs.getD k 0 := ⟨_, rfl⟩
          rw [← hx] at hck
          have hkl : k < zs.length := by rw [HL.out]; exact hkn
          have HX := Lib.hid hx
          have hkl2 := Lib.hid hkl
          clear hcell hx hkl
          by_cases h1 : x < -1152921504606846976
          · have HN := Lib.hid (all_no hkl2.out (by rw [← HX.out]; exact (inB_no x).2 (.inl h1)))
            go_wp2_with fail
            go_ret
            rw [HC.out, HN.out]
            exact ⟨rfl, rfl⟩
          · by_cases h2 : 1152921504606846976 < x
            · have HN := Lib.hid (all_no hkl2.out (by rw [← HX.out]; exact (inB_no x).2 (.inr h2)))
              have h1' : -1152921504606846976 ≤ x := by omega
              clear h1
              go_wp2_with fail
              go_ret
              rw [HC.out, HN.out]
              exact ⟨rfl, rfl⟩
            · have HN := Lib.hid (show (zs.take (k + 1)).all inB = true by
                rw [all_take hkl2.out HA.out, ← HX.out]; exact (inB_iff x).2 ⟨by omega, by omega⟩)
              have h1' : -1152921504606846976 ≤ x := by omega
              have h2' : x ≤ 1152921504606846976 := by omega
              clear h1 h2
              go_wp2_with fail
              go_round
              case rel => exact ⟨k + 1, by omega, by go_num, HN⟩
              case measure => simp [intOf]; omega
        · have hkn2 : k = n := by omega
          have HN := Lib.hid (show zs.all inB = true by
            have := HA.out
            rw [List.take_of_length_le (by rw [HL.out]; omega)] at this
            exact this)
          clear hkn2
          go_wp2_with fail
          go_ret
          rw [HC.out, HN.out]
          exact ⟨rfl, rfl⟩

set_option maxRecDepth 100000 in
set_option maxHeartbeats 1000000 in
theorem clone64 {w : World} {a : Option Addr} {n c : Nat} {zs : List Int} (h : IntsAt .i64 w a n c zs) (hn : n ≤ 100000) :
    Calls Tryd.prog 70 #[.slice a n c] w fun e w' => ∃ v, e = .returned v ∧ w'.ownsRow w.heap.size 2 1 v n (iv .i64 zs) ∧ Below w.heap.size w w' := by
  have q : ∀ (w : World) (a : Option Addr) (n c n' c' : Nat), (binOp .eql 22 (.slice a n c) (.slice none n' c')).run Tryd.prog w = .ok (.bool a.isNone) w := fun w a n c n' c' => Lib.run_eql_slice_nil w _ _ a n c n' c' Tryd.underlying22
  have hown0 := World.ownsRow_lit (base := w.heap.size) (e := 2) (size := 1) w #[] 0 (Nat.le_refl _) (by unfold maxLen; omega) rfl
  have hlen := h.len
  rcases a with _ | ad
  · have hc0 := h.nl rfl
    have hn0 : n = 0 := by have := h.cap; omega
    subst hn0
    subst hc0
    obtain rfl : zs = [] := List.eq_nil_of_length_eq_zero hlen
    clear h hlen hown0
    go_enter Tryd.func70, Tryd.ntmps70
    go_wp2_with fail
    go_ret
    exact ⟨_, rfl, World.ownsRow_nil _ _ _ _, Below.refl _ _⟩
  · have ha := h.alloc (.cells #[] 2)
    have HA := Lib.hid ha
    clear h ha hlen
    go_enter Tryd.func70, Tryd.ntmps70
    go_wp2_with (at_builtin; refine wpList_append_ints Tryd.underlying22 info_i64 rfl (.tmp 5) (.tmp 6) rfl w.heap.size _ _ [] rfl hown0 _ _ _ _ rfl HA.out (by omega) (by omega) (by simp) ?_)
    intro v' w1 hown' hgrow
    have hown2 : w1.ownsRow w.heap.size 2 1 v' n (iv .i64 zs) := by simpa using hown'
    clear hown'
    have hb : Below w.heap.size w w1 := ((Below.refl _ _).alloc (Nat.le_refl _) _).grown hgrow (by simp) (fun k hk => by simp [Value.ownBlock] at hk; omega)
    go_wp2_with fail
    go_ret
    exact ⟨v', rfl, hown2, hb⟩

set_option maxHeartbeats 400000 in
theorem subtract_small {w : World} {a : Option Addr} {n c : Nat} (hn : n ≤ 1) :
    Calls Tryd.prog 71 #[.slice a n c] w fun e w' => e = .returned (.tuple #[]) ∧ w = w' := by
  have h : n = 0 ∨ n = 1 := by omega
  clear hn
  rcases h with rfl | rfl
  · go_enter Tryd.func71, Tryd.ntmps71
    go_wp2_with fail
    go_loop [2] (fun s2 => s2 = .int .i64 (-1)) (fun _ => 0)
    case atStart => rfl
    case round =>
      obtain rfl := hrel
      go_wp2_with fail
      go_end0
      exact ⟨rfl, rfl⟩
  · go_enter Tryd.func71, Tryd.ntmps71
    go_wp2_with fail
    go_loop [2] (fun s2 => s2 = .int .i64 0) (fun _ => 0)
    case atStart => rfl
    case round =>
      obtain rfl := hrel
      go_wp2_with fail
      go_end0
      exact ⟨rfl, rfl⟩

/-- from behind place m on: the differences -/
def sub1 (zs : List Int) (m : Int) : List Int := (List.range zs.length).map fun (j : Nat) => if m < (j : Int) then zs.getD j 0 - zs.getD (j - 1) 0 else zs.getD j 0
theorem sub1_len (zs : List Int) (m : Int) : (sub1 zs m).length = zs.length := by simp [sub1]
theorem sub1_get (zs : List Int) (m : Int) (j : Nat) (h : j < zs.length) : (sub1 zs m).getD j 0 = if m < (j : Int) then zs.getD j 0 - zs.getD (j - 1) 0 else zs.getD j 0 := by
  simp [sub1, h]
theorem sub1_same (zs : List Int) (m : Int) (h : (zs.length : Int) ≤ m + 1) : sub1 zs m = zs := by
  apply List.ext_getElem
  · simp [sub1]
  · intro i h1 h2
    have := sub1_get zs m i h2
    rw [if_neg (by omega)] at this
    simpa [h1, h2] using this
theorem sub1_set (zs : List Int) (m : Nat) (h : m + 1 < zs.length) : (sub1 zs ((m : Int) + 1)).set (m + 1) (zs.getD (m + 1) 0 - zs.getD m 0) = sub1 zs (m : Int) := by
  apply List.ext_getElem
  · simp [sub1]
  · intro i h1 h2
    have hi : i < zs.length := by simpa [sub1] using h2
    have e1 := sub1_get zs (m : Int) i hi
    have e0 := sub1_get zs ((m : Int) + 1) i hi
    have e1' : (sub1 zs (m : Int))[i] = (sub1 zs (m : Int)).getD i 0 := by simp [h2]
    rw [e1', e1, List.getElem_set]
    by_cases hm : m + 1 = i
    · subst hm
      rw [if_pos rfl, if_pos (by omega)]
      rfl
    · rw [if_neg hm]
      have e0' : (sub1 zs ((m : Int) + 1))[i]'(by simpa [sub1] using hi) = (sub1 zs ((m : Int) + 1)).getD i 0 := by
        have : i < (sub1 zs ((m : Int) + 1)).length := by simpa [sub1] using hi
        simp [this]
      rw [e0', e0]
      by_cases hg : (m : Int) + 1 < (i : Int)
      · rw [if_pos hg, if_pos (by omega)]
      · rw [if_neg hg, if_neg (by omega)]

set_option maxRecDepth 100000 in
set_option maxHeartbeats 2000000 in
theorem subtract_any {w : World} {base g n c : Nat} {zs : List Int} (hown : w.ownsRow base 2 1 (.slice (some ⟨g, 0, none⟩) n c) n (iv .i64 zs)) (o : Nat) (ho : o < n) (hn : n ≤ 100000)
    (hb : ∀ z ∈ zs, -2305843009213693952 ≤ z ∧ z ≤ 2305843009213693952) (m d : Nat) (hm : m + o = n) :
    Calls Tryd.prog 71 #[.slice (some ⟨g, o, none⟩) m d] w fun e w' => e = .returned (.tuple #[]) ∧ w'.ownsRow base 2 1 (.slice (some ⟨g, 0, none⟩) n c) n (iv .i64 (sub1 zs (o : Int))) ∧ w.grownBy w' (some g) := by
  have hlen : zs.length = n := by have := hown.1; simpa [iv_length] using this
  have HO := Lib.hid hown
  have HB := Lib.hid hb
  have HL := Lib.hid hlen
  have HM := Lib.hid hm
  have hm1 : 1 ≤ m := by omega
  have hm2 : m ≤ 100000 := by omega
  clear hown hb hlen hm
  go_enter Tryd.func71, Tryd.ntmps71
  go_wp2_with fail
  go_loopw [2] (fun s2 wr => ∃ p : Nat, p < m ∧ s2 = .int .i64 (p : Int) ∧ Hid (wr.ownsRow base 2 1 (.slice (some ⟨g, 0, none⟩) n c) n (iv .i64 (sub1 zs ((o + p : Nat) : Int)))) ∧ Hid (w.grownBy wr (some g))) (fun s2 _ => (intOf s2).toNat)
  case atStart =>
    refine ⟨m - 1, by omega, by rw [show ((m - 1 : Nat) : Int) = (m : Int) - 1 from by omega], Lib.hid ?_, Lib.hid (World.grownBy.refl _ _)⟩
    rw [sub1_same zs _ (by rw [HL.out]; have := HM.out; omega)]
    exact HO.out
  case round =>
    obtain ⟨p, hp, rfl, HO1, HG⟩ := hrel
    rename World => wr
    rcases Nat.eq_zero_or_pos p with hp0 | hpp
    · subst hp0
      go_wp2_with fail
      go_end0
      exact ⟨rfl, HO1.out, HG.out⟩
    · obtain ⟨i, rfl⟩ : ∃ i, p = i + 1 := ⟨p - 1, by omega⟩
      have hoi : o + i + 1 < n := by have := HM.out; omega
      obtain ⟨x, hx⟩ : ∃ x, x = zs.getD (o + i + 1) 0 := ⟨_, rfl⟩
      obtain ⟨y, hy⟩ : ∃ y, y = zs.getD (o + i) 0 := ⟨_, rfl⟩
      have hxb : -2305843009213693952 ≤ x ∧ x ≤ 2305843009213693952 := by rw [hx]; exact getD_mem_or HB.out (by omega) _
      have hyb : -2305843009213693952 ≤ y ∧ y ≤ 2305843009213693952 := by rw [hy]; exact getD_mem_or HB.out (by omega) _
      have c1 : wr.cell? ⟨g, o + (i + 1), none⟩ = some (.int .i64 x) := by
        rw [HO1.out.cellAt (o + (i + 1)) (by omega), iv_get _ _ _ (by rw [sub1_len, HL.out]; omega), sub1_get _ _ _ (by rw [HL.out]; omega), if_neg (by omega), hx]; rfl
      have c2 : wr.cell? ⟨g, o + i, none⟩ = some (.int .i64 y) := by
        rw [HO1.out.cellAt (o + i) (by omega), iv_get _ _ _ (by rw [sub1_len, HL.out]; omega), sub1_get _ _ _ (by rw [HL.out]; omega), if_neg (by omega), hy]
      have f1 := HO1.out.frozenAt (o + (i + 1))
      have hst := HO1.out.stored (o + (i + 1)) (.int .i64 (x - y))
      rw [iv_set, show ((o + (i + 1) : Nat) : Int) = ((o + i : Nat) : Int) + 1 from by omega, show o + (i + 1) = o + i + 1 from rfl, hx, hy, sub1_set zs (o + i) (by rw [HL.out]; omega), ← hx, ← hy] at hst
      have HST := Lib.hid hst
      clear hx hy hst
      obtain ⟨hx1, hx2⟩ := hxb
      obtain ⟨hy1, hy2⟩ := hyb
      go_wp2_with fail
      go_region
      go_wp2_with fail
      go_roundw
      case rel =>
        exact ⟨i, by omega, by go_num, Lib.hid HST.out.1.drew, Lib.hid (HG.out.trans' (HST.out.2.trans' ⟨rfl, rfl, rfl, Nat.le_refl _, fun _ _ _ => rfl⟩))⟩
      case measure => simp [intOf]

theorem sub1_one (l : List Int) : sub1 l ((0 : Nat) : Int) = tl l 1 := by
  unfold sub1 tl
  apply List.map_congr_left
  intro j hj
  unfold tn
  rcases Nat.eq_zero_or_pos j with rfl | hp
  · simp
  · rw [if_pos (by omega), if_neg (by omega), if_pos (.inl rfl)]
theorem sub1_two (l : List Int) : sub1 (tl l 1) ((1 : Nat) : Int) = tl l 2 := by
  unfold sub1
  rw [tl_length]
  unfold tl
  apply List.map_congr_left
  intro j hj
  have hjl : j < l.length := by simpa using hj
  have g : ∀ i, i < l.length → ((List.range l.length).map (tn l 1)).getD i 0 = tn l 1 i := fun i hi => tl_get l 1 i hi
  rw [g j hjl, g (j - 1) (by omega)]
  by_cases h1 : 1 < j
  · have t1 : tn l 1 j = l.getD j 0 - l.getD (j - 1) 0 := by unfold tn; rw [if_neg (by omega), if_pos (.inl rfl)]
    have t2 : tn l 1 (j - 1) = l.getD (j - 1) 0 - l.getD (j - 2) 0 := by
      unfold tn; rw [if_neg (by omega), if_pos (.inl rfl), show j - 1 - 1 = j - 2 from by omega]
    have t3 : tn l 2 j = l.getD j 0 - 2 * l.getD (j - 1) 0 + l.getD (j - 2) 0 := by unfold tn; rw [if_neg (by omega), if_neg (by omega)]
    rw [if_pos (by omega), t1, t2, t3]
    omega
  · rw [if_neg (by omega)]
    rcases Nat.eq_zero_or_pos j with rfl | hp
    · simp [tn]
    · obtain rfl : j = 1 := by omega
      simp [tn]
theorem tl_one_bound {l : List Int} (h : ∀ x ∈ l, -1152921504606846976 ≤ x ∧ x ≤ 1152921504606846976) : ∀ z ∈ tl l 1, -2305843009213693952 ≤ z ∧ z ≤ 2305843009213693952 := by
  intro x hx
  simp only [tl, List.mem_map] at hx
  obtain ⟨i, _, rfl⟩ := hx
  have h0 := getD_mem_or h (by omega) i
  have h1 := getD_mem_or h (by omega) (i - 1)
  unfold tn
  split
  · omega
  · rw [if_pos (.inl rfl)]; omega
theorem tl_zero (l : List Int) {way : Int} (h : way ≤ 0) : tl l way = l := by
  apply List.ext_getElem
  · simp [tl]
  · intro i h1 h2
    have := tl_get l way i h2
    unfold tn at this
    rw [if_pos (.inl h)] at this
    simpa [h1, h2] using this

theorem tl_wf {l : List Int} (h : ∀ x ∈ l, -1152921504606846976 ≤ x ∧ x ≤ 1152921504606846976) (way : Int) : ∀ z ∈ tl l way, (Lit.int .i64 z).wf = true := fun z hz => by
  have := tl_bound h way z hz
  exact wf_i64 ⟨by omega, by omega⟩

/-- what Turn answers -/
def tu (l : List Int) (way : Int) : List Int := if chk l way = 0 then tl l way else []
theorem tu_ok {l : List Int} {way : Int} (h : chk l way = 0) : tu l way = tl l way := by unfold tu; rw [if_pos h]
theorem tu_no {l : List Int} {way : Int} (h : chk l way ≠ 0) : tu l way = [] := by unfold tu; rw [if_neg h]

set_option maxRecDepth 100000 in
set_option maxHeartbeats 2000000 in
theorem turn_any {w : World} {a : Option Addr} {n c : Nat} {zs : List Int} (h : IntsAt .i64 w a n c zs) (way : Int) :
    Calls Tryd.prog 47 #[.slice a n c, .int .i64 way] w fun e w' => ∃ a' n' c', e = .returned (.tuple #[.slice a' n' c', .int .i64 ((chk zs way : Nat) : Int)]) ∧ IntsAt .i64 w' a' n' c' (tu zs way) ∧ Below w.heap.size w w' := by
  have HC := Lib.hid (check_any h way)
  obtain ⟨q, hq⟩ : ∃ q, q = chk zs way := ⟨_, rfl⟩
  rw [← hq] at HC ⊢
  by_cases hq0 : q = 0
  · subst hq0
    obtain ⟨h0, h2, hl, hb⟩ := chk_ok hq.symm
    have htu := tu_ok hq.symm
    have hlen := h.len
    have HL := Lib.hid hlen
    have hn : n ≤ 2048 := by omega
    have HCL := Lib.hid (clone64 h (by omega))
    have HTU := Lib.hid htu
    have HB := Lib.hid hb
    clear h hq htu hlen hb
    have hw : way = 0 ∨ way = 1 ∨ way = 2 := by omega
    rcases hw with rfl | rfl | rfl
    · clear h0 h2
      go_enter Tryd.func47, Tryd.ntmps47
      go_wp2_with fail
      refine HC.out.mono ?_
      rintro e w1 ⟨rfl, rfl⟩
      go_wp2_with fail
      refine HCL.out.mono ?_
      rintro e w1 ⟨v, rfl, hown, hb1⟩
      obtain ⟨a1, c1, rfl, hi, _⟩ := IntsAt.ofOwn hown (fun z hz => wf_i64 (by have := HB.out z hz; omega))
      have HI := Lib.hid hi
      have HB1 := Lib.hid hb1
      clear hown hi hb1
      go_wp2_with fail
      go_ret2
      exact ⟨a1, n, c1, rfl, by rw [HTU.out, tl_zero zs (by omega)]; exact HI.out, HB1.out⟩
    · clear h0 h2
      go_enter Tryd.func47, Tryd.ntmps47
      go_wp2_with fail
      refine HC.out.mono ?_
      rintro e w1 ⟨rfl, rfl⟩
      go_wp2_with fail
      refine HCL.out.mono ?_
      rintro e w1 ⟨v, rfl, hown, hb1⟩
      have HO := Lib.hid hown
      have HB1 := Lib.hid hb1
      obtain ⟨a1, c1, rfl, _, _⟩ := IntsAt.ofOwn hown (fun z hz => wf_i64 (by have := HB.out z hz; omega))
      clear hown hb1
      by_cases hn1 : n ≤ 1
      · have hs : zs = tl zs 1 := by
          rw [← sub1_one, sub1_same zs _ (by rw [HL.out]; omega)]
        have HS := Lib.hid hs
        clear hs
        go_wp2_with fail
        refine (subtract_small hn1).mono ?_
        rintro e w2 ⟨rfl, rfl⟩
        go_wp2_with fail
        go_ret2
        exact ⟨a1, n, c1, rfl, by rw [HTU.out, ← HS.out]; exact IntsAt.own HO.out (fun z hz => wf_i64 (by have := HB.out z hz; omega)), HB1.out⟩
      · obtain ⟨g, rfl⟩ : ∃ g, a1 = some ⟨g, 0, none⟩ := by
          rcases HO.out.2 with ⟨_, h0⟩ | ⟨g, cap, cur, he, _⟩
          · omega
          · simp only [Value.slice.injEq] at he
            exact ⟨g, he.1⟩
        have hsub := subtract_any HO.out 0 (by omega) (by omega) (fun z hz => by have := HB.out z hz; omega) n c1 (by omega)
        have hwg := (HO.out.lt g rfl).1
        have HSB := Lib.hid hsub
        clear hsub
        go_wp2_with fail
        refine HSB.out.mono ?_
        rintro e w2 ⟨rfl, hown2, hg2⟩
        have HO2 := Lib.hid hown2
        have HB2 := Lib.hid (HB1.out.grown hg2 HB1.out.size (fun k hk => by cases hk; exact hwg))
        clear hown2 hg2
        go_wp2_with fail
        go_ret2
        refine ⟨some ⟨g, 0, none⟩, n, c1, rfl, ?_, HB2.out⟩
        have hh := HO2.out
        rw [sub1_one] at hh
        rw [HTU.out]
        exact IntsAt.own hh (tl_wf HB.out 1)
    · clear h0 h2
      go_enter Tryd.func47, Tryd.ntmps47
      go_wp2_with fail
      refine HC.out.mono ?_
      rintro e w1 ⟨rfl, rfl⟩
      go_wp2_with fail
      refine HCL.out.mono ?_
      rintro e w1 ⟨v, rfl, hown, hb1⟩
      have HO := Lib.hid hown
      have HB1 := Lib.hid hb1
      obtain ⟨a1, c1, rfl, _, _⟩ := IntsAt.ofOwn hown (fun z hz => wf_i64 (by have := HB.out z hz; omega))
      clear hown hb1
      by_cases hn1 : n ≤ 1
      · have hs : zs = tl zs 1 := by
          rw [← sub1_one, sub1_same zs _ (by rw [HL.out]; omega)]
        have hs2 : zs = tl zs 2 := by
          rw [← sub1_two, ← hs, sub1_same zs _ (by rw [HL.out]; omega)]
        have HS := Lib.hid hs2
        clear hs hs2
        by_cases hn0 : n = 0
        · subst hn0
          go_wp2_with fail
          refine (subtract_small (by omega)).mono ?_
          rintro e w2 ⟨rfl, rfl⟩
          go_wp2_with fail
          go_ret2
          exact ⟨a1, 0, c1, rfl, by rw [HTU.out, ← HS.out]; exact IntsAt.own HO.out (fun z hz => wf_i64 (by have := HB.out z hz; omega)), HB1.out⟩
        · obtain rfl : n = 1 := by omega
          have hcc : 1 ≤ c1 := (IntsAt.own HO.out (fun z hz => wf_i64 (by have := HB.out z hz; omega))).cap
          clear hn0
          by_cases hc1 : c1 = 1
          · subst hc1
            go_wp2_with fail
            refine (subtract_small (by omega)).mono ?_
            rintro e w2 ⟨rfl, rfl⟩
            go_wp2_with fail
            refine (subtract_small (by omega)).mono ?_
            rintro e w2 ⟨rfl, rfl⟩
            go_wp2_with fail
            go_ret2
            exact ⟨a1, 1, 1, rfl, by rw [HTU.out, ← HS.out]; exact IntsAt.own HO.out (fun z hz => wf_i64 (by have := HB.out z hz; omega)), HB1.out⟩
          · go_wp2_with fail
            refine (subtract_small (by omega)).mono ?_
            rintro e w2 ⟨rfl, rfl⟩
            go_wp2_with fail
            refine (subtract_small (by omega)).mono ?_
            rintro e w2 ⟨rfl, rfl⟩
            go_wp2_with fail
            go_ret2
            exact ⟨a1, 1, c1, rfl, by rw [HTU.out, ← HS.out]; exact IntsAt.own HO.out (fun z hz => wf_i64 (by have := HB.out z hz; omega)), HB1.out⟩
      · obtain ⟨g, rfl⟩ : ∃ g, a1 = some ⟨g, 0, none⟩ := by
          rcases HO.out.2 with ⟨_, h0⟩ | ⟨g, cap, cur, he, _⟩
          · omega
          · simp only [Value.slice.injEq] at he
            exact ⟨g, he.1⟩
        have hsub := subtract_any HO.out 0 (by omega) (by omega) (fun z hz => by have := HB.out z hz; omega) n c1 (by omega)
        have hwg := (HO.out.lt g rfl).1
        have hcc := (IntsAt.own HO.out (fun z hz => wf_i64 (by have := HB.out z hz; omega))).cap
        have HSB := Lib.hid hsub
        have hc1 : ((c1 : Int) == 1) = false := by rw [beq_eq_false_iff_ne]; omega
        have hc2 : ¬ c1 = 1 := by omega
        clear hsub
        go_wp2_with fail
        refine HSB.out.mono ?_
        rintro e w2 ⟨rfl, hown2, hg2⟩
        rw [sub1_one] at hown2
        have HO2 := Lib.hid hown2
        have HB2 := Lib.hid (HB1.out.grown hg2 HB1.out.size (fun k hk => by cases hk; exact hwg))
        have hsub2 := subtract_any hown2 1 (by omega) (by omega) (tl_one_bound HB.out) (n - 1) (c1 - 1) (by omega)
        rw [sub1_two] at hsub2
        have HSB2 := Lib.hid hsub2
        clear hown2 hg2 hsub2
        go_wp2_with fail
        refine HSB2.out.mono ?_
        rintro e w3 ⟨rfl, hown3, hg3⟩
        have HO3 := Lib.hid hown3
        have HB3 := Lib.hid (HB2.out.grown hg3 HB2.out.size (fun k hk => by cases hk; exact hwg))
        clear hown3 hg3
        go_wp2_with fail
        go_ret2
        refine ⟨some ⟨g, 0, none⟩, n, c1, rfl, ?_, HB3.out⟩
        rw [HTU.out]
        exact IntsAt.own HO3.out (tl_wf HB.out 2)
  · have hno := tu_no (l := zs) (way := way) (by rw [← hq]; exact hq0)
    have HN := Lib.hid hno
    have hq1 : ((q : Int) != 0) = true := by rw [bne_iff_ne]; omega
    clear hq hno hq0 h
    go_enter Tryd.func47, Tryd.ntmps47
    go_wp2_with fail
    refine HC.out.mono ?_
    rintro e w1 ⟨rfl, rfl⟩
    go_wp2_with fail
    go_ret2
    exact ⟨none, 0, 0, rfl, by rw [HN.out]; exact IntsAt.empty _ _ _ _ (by omega) (fun _ => rfl), Below.refl _ _⟩
end Go.Proofs.YteggmbfhfoijoaaDoor
