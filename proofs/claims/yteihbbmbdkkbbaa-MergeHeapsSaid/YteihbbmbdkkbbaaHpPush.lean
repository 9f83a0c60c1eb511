/- merge.Heap[int]: Push, Len, NewHeap. -/
import Derived.Test.YteihbbmbdkkbbaaHpSink
namespace Go.Proofs.Yteihbbmbdkkbbaa
open Go.ChangeShapes Go.WideShapes Go.Deep Go.RowKit Hp
set_option linter.unusedVariables false

set_option maxRecDepth 100000 in
theorem push_none (x : Int) (w : World) : Calls Try.prog 13 #[.pointer none, .int .i64 x] w fun e w' => e = .returned (.tuple #[]) ∧ Below w.heap.size w w' := by
  go_enter Try.func13, Try.ntmps13
  go_wp2_with fail
  first | go_end0 | go_ret | refine bodyPost_ret (results_none rfl _ _ _) rfl ?_
  exact ⟨rfl, Below.refl _ _⟩
set_option maxRecDepth 100000 in
theorem len_none (w : World) : Calls Try.prog 14 #[.pointer none] w fun e w' => e = .returned (.int .i64 0) ∧ Below w.heap.size w w' := by
  go_enter Try.func14, Try.ntmps14
  go_wp2_with fail
  go_ret
  exact ⟨rfl, Below.refl _ _⟩
set_option maxRecDepth 100000 in
theorem len_own {w : World} {base p n : Nat} {og : Option Nat} {z : Nat → Int} (h : HpO w base p og n z) : Calls Try.prog 14 #[.pointer (some ⟨p, 0, none⟩)] w fun e w' => e = .returned (.int .i64 (n : Int)) ∧ Below w.heap.size w w' := by
  obtain ⟨s, hs, hown, _, a, c, rfl⟩ := h.own
  have c1 : w.cell? ⟨p, 1, none⟩ = some (.slice a n c) := cell_blk hs rfl
  clear h hs hown
  go_enter Try.func14, Try.ntmps14
  go_wp2_with fail
  go_ret
  exact ⟨rfl, Below.refl _ _⟩
set_option maxRecDepth 100000 in
theorem new_own (w : World) : Calls Try.prog 9 #[.func (.func 10) #[] #[]] w fun e w' => e = .returned (.pointer (some ⟨w.heap.size, 0, none⟩)) ∧ Below w.heap.size w w' ∧ HpO w' w.heap.size w.heap.size none 0 (fun _ => 0) := by
  have HB := Lib.hid (show Below w.heap.size w (w.alloc (.cells #[.func (.func 10) #[] #[], .slice none 0 0] 64)) from (Below.refl _ _).alloc (Nat.le_refl _) _)
  have HH := Lib.hid (show HpO (w.alloc (.cells #[.func (.func 10) #[] #[], .slice none 0 0] 64)) w.heap.size w.heap.size none 0 (fun _ => 0) from ⟨Nat.le_refl _, .inl ⟨rfl, rfl, heap_alloc_new w _⟩⟩)
  go_enter Try.func9, Try.ntmps9
  go_wp2_with fail
  go_ret
  exact ⟨rfl, HB.out, HH.out⟩

set_option maxRecDepth 100000 in
set_option maxHeartbeats 4000000 in
theorem push_own {w : World} {base p n : Nat} {og : Option Nat} {z : Nat → Int} (x : Int) (h : HpO w base p og n z) (hz : Ok z n) (hn : n < 1000000000) :
    Calls Try.prog 13 #[.pointer (some ⟨p, 0, none⟩), .int .i64 x] w fun e w' => e = .returned (.tuple #[]) ∧ (∃ og' y, HpO w' base p og' (n + 1) y ∧ Ok y (n + 1) ∧ (∀ v, cnt y v (n + 1) = cnt z v n + if x = v then 1 else 0) ∧ (og' = og ∨ ∃ g, og' = some g ∧ w.heap.size ≤ g)) ∧ HpKept w w' p og := by
  obtain ⟨i0, hi, hz0, hz1, hz2⟩ := info_parts int_info
  obtain ⟨s, hs, hown, hob, a, c, rfl⟩ := h.own
  have hlt := h.lt
  have hpb := hlt.1
  have hpl := hlt.2
  have hglt := h.glt
  have c1 : w.cell? ⟨p, 1, none⟩ = some (.slice a n c) := cell_blk hs rfl
  have f1 : w.frozen? ⟨p, 1, none⟩ = false := by simp [World.frozen?, hs]
  have HO1 := Lib.hid (hown.alloc (.cells #[.int .i64 x] 3))
  have HB1 := Lib.hid (show Below w.heap.size w (w.alloc (.cells #[.int .i64 x] 3)) from (Below.refl _ _).alloc (Nat.le_refl _) _)
  have HS := Lib.hid hs
  have HZ := Lib.hid hz
  have HOB := Lib.hid hob
  have HGL := Lib.hid hglt
  clear h hs hown hz hob hglt hlt
  go_enter Try.func13, Try.ntmps13
  go_wp2_with (at_builtin; refine wpList_append_own_at _ rfl (.tmp 12) (.tmp 14) 27 rfl base 3 i0 (.int .i64 0) 1 8 Try.underlying27 hi hz0 hz1 hz2 rfl (by decide) _ _ _ rfl HO1.out ⟨w.heap.size, 0, none⟩ 1 1 [.int .i64 x] rfl rfl (one_src _ _ _) (iv_one [x]) (by unfold maxLen; omega) (by omega) (by simp; omega) ?_)
  intro v4 w4 ho4 hg4 _ hat4
  obtain ⟨g4, c4, rfl⟩ := own_some2 ho4 (by omega)
  have hp4 : w4.heap[p]? = some (.cells #[.func (.func 10) #[] #[], .slice a n c] 64 (0, 0)) := by
    rw [hg4.block p (by simp; omega) (fun e => by have := (HGL.out p (by rw [← HOB.out]; exact e.symm)).2.2; exact this rfl), heap_alloc_old w _ hpl]
    exact HS.out
  have c4' : w4.cell? ⟨p, 1, none⟩ = some (.slice a n c) := cell_blk hp4 rfl
  have f4 : w4.frozen? ⟨p, 1, none⟩ = false := by simp [World.frozen?, hp4]
  have hg4p : g4 ≠ p := by
    rcases hat4 with e | e
    · rw [HOB.out] at e
      exact (HGL.out g4 e.symm).2.2
    · have : g4 = w.heap.size + 1 := by simpa [Value.ownBlock] using e
      omega
  have hw5 : ((w4.setCell ⟨p, 1, none⟩ (.slice (some ⟨g4, 0, none⟩) (n + 1) c4))).heap[p]? = some (.cells #[.func (.func 10) #[] #[], .slice (some ⟨g4, 0, none⟩) (n + 1) c4] 64 (0, 0)) := heap_setCell_same w4 p 1 _ _ _ hp4
  obtain ⟨z1, hz1⟩ : ∃ z1 : Nat → Int, z1 = fun k => if k = n then x else z k := ⟨_, rfl⟩
  have hz1n : z1 n = x := by rw [hz1]; exact if_pos rfl
  have hz1k : ∀ k, k < n → z1 k = z k := fun k hk => by rw [hz1]; exact if_neg (by omega)
  have hl1 : iv ((List.range (n + 1)).map z1) = iv ((List.range n).map z) ++ [.int .i64 x] := by
    rw [List.range_succ, List.map_append, iv_append, show iv ((List.range n).map z1) = iv ((List.range n).map z) from congrArg iv (List.map_congr_left (fun k hk => hz1k k (List.mem_range.1 hk)))]
    simp [iv, hz1n]
  have ho5 : ((w4.setCell ⟨p, 1, none⟩ (.slice (some ⟨g4, 0, none⟩) (n + 1) c4))).ownsRow base 3 1 (.slice (some ⟨g4, 0, none⟩) (n + 1) c4) (n + 1) (iv ((List.range (n + 1)).map z1)) := by
    rw [hl1]
    exact ho4.kept (grown_set w4 p 1 _) (.inr (fun e => hg4p (Option.some.inj e)))
  obtain ⟨g5, c5, hge, hgb, hcm, hat5⟩ : ∃ g c, (some g4 : Option Nat) = some g ∧ base ≤ g ∧ c ≤ maxLen ∧ HpAt ((w4.setCell ⟨p, 1, none⟩ (.slice (some ⟨g4, 0, none⟩) (n + 1) c4))) p g c (n + 1) z1 := by
    rcases (HpO.ofOwn hpb hw5 ho5).2 with ⟨e, _⟩ | ⟨g, c, e, e1, e2, e3⟩
    · cases e
    · exact ⟨g, c, e, e1, e2, e3⟩
  obtain rfl : g4 = g5 := Option.some.inj hge
  obtain rfl : c4 = c5 := by
    have := hw5.symm.trans hat5.hd
    simpa using this
  have HC := Lib.hid (show ∀ v, cnt z1 v (n + 1) = cnt z v n + if x = v then 1 else 0 from fun v => by rw [cnt, cnt_congr n hz1k, hz1n])
  have HU := Lib.hid (show Up z1 (n + 1) n from ⟨fun k h0 hk hne => by rw [hz1k _ (by omega), hz1k k (by omega)]; exact HZ.out k h0 (by omega), fun k h0 hk he _ => by omega⟩)
  have HG := Lib.hid (show g4 < w.heap.size → og = some g4 from fun hl => by
    rcases hat4 with e | e
    · rw [HOB.out] at e; exact e.symm
    · have : g4 = w.heap.size + 1 := by simpa [Value.ownBlock] using e
      omega)
  have HK := Lib.hid (show HpKept w (w4.setCell ⟨p, 1, none⟩ (.slice (some ⟨g4, 0, none⟩) (n + 1) c4)) p og from
    (((HpKept.ofBelow HB1.out p og).trans (o2 := og) (HpKept.ofGrown (by rw [← HOB.out]; exact hg4) p) (fun _ e => .inl e)).trans (o2 := og) (HpKept.ofGrownP (grown_set w4 p 1 _) og) (fun _ e => .inl e)))
  obtain ⟨w5, hw5e⟩ : ∃ w5, w5 = w4.setCell ⟨p, 1, none⟩ (.slice (some ⟨g4, 0, none⟩) (n + 1) c4) := ⟨_, rfl⟩
  rw [← hw5e] at hat5 HK
  have c5' := hat5.bound
  have HA := Lib.hid hat5
  have HW := Lib.hid hw5e
  have HGE := Lib.hid hgb
  have HCM := Lib.hid hcm
  clear ho4 hg4 hat4 hw5 hz1 hz1n hz1k hl1 ho5 hat5 hge hgb hcm hg4p hw5e hi hz0 hz2 HO1 HB1 HS HGL HOB c1 f1 hp4 HZ
  have wn : IntKind.i64.wrap ((n : Int) + 1 - 1) = (n : Int) := by rw [IntWalk.i64_in _ (by omega)]; omega
  go_wp2_with (rw [← HW.out])
  go_loopw [4, 5] (fun s4 s5 wr => ∃ (a : Nat) (y : Nat → Int), s4 = .int .i64 (a : Int) ∧ a ≤ n ∧ Hid (HpAt wr p g4 c4 (n + 1) y) ∧ Hid (Up y (n + 1) a) ∧ Hid (∀ v, cnt y v (n + 1) = cnt z1 v (n + 1)) ∧ Hid (w5.grownBy wr (some g4))) (fun s4 _ _ => (intOf s4).toNat)
  case atStart => exact ⟨n, z1, by go_num, Nat.le_refl _, HA, HU, Lib.hid (fun _ => rfl), Lib.hid (World.grownBy.refl _ _)⟩
  case round =>
    clear HA HU
    obtain ⟨a, y, rfl, han, HA, HU, HC2, HG2⟩ := hrel
    rename World => wr
    have HEND := Lib.hid (show Ok y (n + 1) → (∃ og' y, HpO wr base p og' (n + 1) y ∧ Ok y (n + 1) ∧ (∀ v, cnt y v (n + 1) = cnt z v n + if x = v then 1 else 0) ∧ (og' = og ∨ ∃ g, og' = some g ∧ w.heap.size ≤ g)) ∧ HpKept w wr p og from fun hok => by
      refine ⟨⟨some g4, y, ⟨hpb, .inr ⟨g4, c4, rfl, HGE.out, HCM.out, HA.out⟩⟩, hok, fun v => (HC2.out v).trans (HC.out v), ?_⟩, HK.out.trans (HpKept.ofGrown HG2.out p) (fun g e => ?_)⟩
      · rcases Nat.lt_or_ge g4 w.heap.size with hg | hg
        · exact .inl (HG.out hg).symm
        · exact .inr ⟨g4, rfl, hg⟩
      · cases e
        rcases Nat.lt_or_ge g4 w.heap.size with hg | hg
        · exact .inl (HG.out hg)
        · exact .inr hg)
    by_cases ha0 : 0 < a
    case neg =>
      have za : ¬ (0 : Int) < (a : Int) := by omega
      have HE := Lib.hid (HEND.out (HU.out.done (.inl (by omega))))
      go_wp2_with fail
      first | go_end0 | go_ret | refine bodyPost_ret (results_none rfl _ _ _) rfl ?_
      exact ⟨rfl, HE.out⟩
    case pos =>
      have za : (0 : Int) < (a : Int) := by omega
      obtain ⟨q, hq⟩ : ∃ q, q = (a - 1) / 2 := ⟨_, rfl⟩
      have wa : IntKind.i64.wrap ((a : Int) - 1) = (a : Int) - 1 := IntWalk.i64_in _ (by omega)
      have wq : Int.tdiv ((a : Int) - 1) 2 = (q : Int) := by rw [Int.tdiv_eq_ediv_of_nonneg (by omega)]; omega
      have wq2 : IntKind.i64.wrap (q : Int) = (q : Int) := IntWalk.i64_in _ (by omega)
      have HQ := Lib.hid hq
      clear hq
      go_wp2_with fail
      refine (before_at HA.out (i := a) (k := q) (by omega) (by have := HQ.out; omega)).mono ?_
      rintro e w6 ⟨rfl, ha6, hb6⟩
      have HA6 := Lib.hid ha6
      have HG6 := Lib.hid (grown_below HG2.out hb6)
      clear ha6
      by_cases hz : y a < y q
      case pos =>
        have HU6 := Lib.hid (show Up (sw y a q) (n + 1) q by have := HU.out.step ha0 (by omega) (by rw [← HQ.out]; exact hz); rwa [← HQ.out] at this)
        have HC6 := Lib.hid (show ∀ v, cnt (sw y a q) v (n + 1) = cnt z1 v (n + 1) from fun v => (cnt_sw (by omega) (by have := HQ.out; omega)).trans (HC2.out v))
        rw [decide_eq_true hz]
        clear hz hb6
        go_wp2_with fail
        refine (swap_at HA6.out (i := a) (k := q) (by omega) (by have := HQ.out; omega)).mono ?_
        rintro e w7 ⟨rfl, ha7, hg7⟩
        have HA7 := Lib.hid ha7
        have HG7 := Lib.hid (grown_over HG6.out hg7 (fun _ e => .inr e))
        have hqa : q < a := by have := HQ.out; omega
        clear ha7 hg7
        go_wp2_with fail
        go_roundw
        case rel => exact ⟨q, sw y a q, rfl, by omega, HA7, HU6, HC6, HG7⟩
        case measure => simp [intOf]; omega
      case neg =>
        have HE := Lib.hid (show (∃ og' y, HpO w6 base p og' (n + 1) y ∧ Ok y (n + 1) ∧ (∀ v, cnt y v (n + 1) = cnt z v n + if x = v then 1 else 0) ∧ (og' = og ∨ ∃ g, og' = some g ∧ w.heap.size ≤ g)) ∧ HpKept w w6 p og by
          obtain ⟨⟨og', y', h1, h2⟩, h3⟩ := HEND.out (HU.out.done (.inr (by rw [← HQ.out]; omega)))
          exact ⟨⟨og', y', h1.kept hb6, h2⟩, h3.trans (o2 := none) (HpKept.ofBelow hb6 p none) (fun g e => by cases e)⟩)
        rw [decide_eq_false hz]
        clear hz hb6
        go_wp2_with fail
        first | go_end0 | go_ret | refine bodyPost_ret (results_none rfl _ _ _) rfl ?_
        exact ⟨rfl, HE.out⟩
end Go.Proofs.Yteihbbmbdkkbbaa
