/- A heap of lists of rows in memory (LhAt), before, swap, sink; a heap that a call owns (LhO). -/
import Derived.Test.YtpcgjladooijmaaLhSwap
namespace Go.Proofs.Ytpcgjladooijmaa
open Go.ChangeShapes Go.WideShapes Go.Deep Go.RowKit LabPlain RecPlain Hp
set_option linter.unusedVariables false

def ky (z : Nat → LsV) : Nat → Int := fun k => (z k).key
theorem ky_sw (z : Nat → LsV) (i k : Nat) : ky (Lh.sw z i k) = Hp.sw (ky z) i k := Lh.sw_map LsV.key z i k
theorem LsOk.keep {W w : World} {x : LsV} (h : LsOk W x) (hb : Below W.heap.size W w) : LsOk w x := ⟨h.at'.keep hb (Nat.le_refl _), h.pos⟩
structure LhAt (W w : World) (p g q c n : Nat) (z : Nat → LsV) : Prop where
  hd : w.heap[p]? = some (.cells #[.func (.func 77) #[] #[.pointer (some ⟨q, 0, none⟩)], .slice (some ⟨g, 0, none⟩) n c] 109 (0, 0))
  bk : ∃ cur, w.heap[g]? = some (.cells cur 47 (0, 0)) ∧ cur.size = c ∧ ∀ k, k < n → cur[k]? = some (.slice (z k).a (z k).n (z k).c)
  nc : n ≤ c
  ne : g ≠ p
  ok : ∀ k, k < n → LsOk W (z k)
  bel : Below W.heap.size W w
  pb : W.heap.size ≤ p
  gb : W.heap.size ≤ g
  bq : w.cell? ⟨q, 0, none⟩ = some (.func (.func 35) #[] #[]) ∧ q ≠ p ∧ q ≠ g
theorem LhAt.kept {W w w' : World} {p g q c n : Nat} {z : Nat → LsV} (h : LhAt W w p g q c n z) (hb : Below w.heap.size w w') : LhAt W w' p g q c n z := by
  obtain ⟨cur, h1, h2, h3⟩ := h.bk
  exact ⟨(hb.block p (Array.getElem?_eq_some_iff.1 h.hd).1).trans h.hd, ⟨cur, (hb.block g (Array.getElem?_eq_some_iff.1 h1).1).trans h1, h2, h3⟩, h.nc, h.ne, h.ok, h.bel.trans (hb.mono h.bel.size), h.pb, h.gb, (hb.cell (p := ⟨q, 0, none⟩) (World.block_lt_of_cell? w _ h.bq.1)).trans h.bq.1, h.bq.2⟩
theorem LhAt.bound {W w : World} {p g q c n : Nat} {z : Nat → LsV} (h : LhAt W w p g q c n z) : w.cell? ⟨p, 1, none⟩ = some (.slice (some ⟨g, 0, none⟩) n c) := cell_blk h.hd rfl
theorem lbefore_at {W w : World} {p g q c n : Nat} {z : Nat → LsV} (h : LhAt W w p g q c n z) {i k : Nat} (hi : i < n) (hk : k < n) :
    Calls Try.prog 87 #[.pointer (some ⟨p, 0, none⟩), .int .i64 (i : Int), .int .i64 (k : Int)] w fun e w' => e = .returned (.bool (decide (ky z i < ky z k))) ∧ LhAt W w' p g q c n z ∧ Below w.heap.size w w' := by
  obtain ⟨cur, h1, h2, h3⟩ := h.bk
  have ci : w.cell? ⟨g, 0 + i, none⟩ = some (.slice (z i).a (z i).n (z i).c) := by rw [Nat.zero_add]; exact cell_blk h1 (h3 i hi)
  have ck : w.cell? ⟨g, 0 + k, none⟩ = some (.slice (z k).a (z k).n (z k).c) := by rw [Nat.zero_add]; exact cell_blk h1 (h3 k hk)
  exact (lbefore_any p g 0 n c q (z i) (z k) (decide (ky z i < ky z k)) i k w (cell_blk h.hd rfl) (cell_blk h.hd rfl) hi hk (Array.getElem?_eq_some_iff.1 h.hd).1 (Array.getElem?_eq_some_iff.1 h1).1
    (fun w7 h7 => lless_any ((h.ok i hi).keep (h.bel.trans (h7.mono h.bel.size))) ((h.ok k hk).keep (h.bel.trans (h7.mono h.bel.size))) ((h7.cell (p := ⟨q, 0, none⟩) (World.block_lt_of_cell? w _ h.bq.1)).trans h.bq.1)) ci ck).mono fun e w' ⟨he, hb⟩ => ⟨he, h.kept hb, hb⟩
/-- one way on -/
theorem grown_over {a b c : World} {r r2 : Option Nat} (h : a.grownBy b r) (k : b.grownBy c r2) (hr2 : ∀ g, r2 = some g → a.heap.size ≤ g ∨ r = some g) : a.grownBy c r :=
  ⟨k.os.trans h.os, k.tape.trans h.tape, k.output.trans h.output, Nat.le_trans h.size k.size, fun i hi hr => (k.block i (Nat.lt_of_lt_of_le hi h.size) (fun e => by rcases hr2 i e.symm with g | g; omega; exact hr g.symm)).trans (h.block i hi hr)⟩
theorem grown_below {a b c : World} {r : Option Nat} (h : a.grownBy b r) (k : Below b.heap.size b c) : a.grownBy c r :=
  grown_over (r2 := none) h ⟨k.os, k.tape, k.output, k.size, fun i hi _ => k.block i hi⟩ (fun g e => by cases e)
theorem grown_set (w : World) (g j : Nat) (u : Value) : w.grownBy (w.setCell ⟨g, j, none⟩ u) (some g) :=
  ⟨rfl, rfl, rfl, by simp, fun k _ hk => heap_setCell_other w ⟨g, j, none⟩ k u (fun e => hk (by simp [e]))⟩
theorem cell_set_other {w : World} {a b : Addr} {v u : Value} (h : w.cell? a = some v) (hne : a.block ≠ b.block) : (w.setCell b u).cell? a = some v := (World.cell?_of_block (w := w) (heap_setCell_other w b a.block u hne)).trans h
theorem lswap_at {W w : World} {p g q c n : Nat} {z : Nat → LsV} (h : LhAt W w p g q c n z) {i k : Nat} (hi : i < n) (hk : k < n) :
    Calls Try.prog 88 #[.pointer (some ⟨p, 0, none⟩), .int .i64 (i : Int), .int .i64 (k : Int)] w fun e w' => e = .returned (.tuple #[]) ∧ LhAt W w' p g q c n (Lh.sw z i k) ∧ w.grownBy w' (some g) := by
  obtain ⟨cur, h1, h2, h3⟩ := h.bk
  have ci := h3 i hi
  have ck := h3 k hk
  refine (lswap_any p g 0 n c (z i) (z k) i k w (cur := cur) (cell_blk h.hd rfl) hi hk h1 (by rw [Nat.zero_add]; exact ci) (by rw [Nat.zero_add]; exact ck)).mono ?_
  rintro e w' ⟨he, hw⟩
  rw [Nat.zero_add, Nat.zero_add] at hw
  have hg0 : w.drew.heap[g]? = some (.cells cur 47 (0, 0)) := h1
  have hg1 := heap_setCell_same w.drew g i cur 47 (.slice (z k).a (z k).n (z k).c) hg0
  have hg2 := heap_setCell_same _ g k _ 47 (.slice (z i).a (z i).n (z i).c) hg1
  have hp0 : w.drew.heap[p]? = _ := h.hd
  have hp2 : w'.heap[p]? = w.drew.heap[p]? := by
    rw [hw, heap_setCell_other _ ⟨g, k, none⟩ p _ (fun e => h.ne (by simpa using e.symm)), heap_setCell_other _ ⟨g, i, none⟩ p _ (fun e => h.ne (by simpa using e.symm))]
  have hgr : w.grownBy w' (some g) := by rw [hw]; exact grown_over (grown_over (r2 := some g) (r := some g) (b := w.drew) ⟨rfl, rfl, rfl, Nat.le_refl _, fun _ _ _ => rfl⟩ (grown_set w.drew g i _) (fun _ e => .inr e)) (grown_set _ g k _) (fun _ e => .inr e)
  refine ⟨he, ⟨hp2.trans hp0, ⟨_, by rw [hw]; exact hg2, by rw [Array.size_setIfInBounds, Array.size_setIfInBounds]; exact h2, fun j hj => ?_⟩, h.nc, h.ne, fun j hj => ?_, h.bel.grown hgr h.bel.size (fun k hk => by cases hk; exact h.gb), h.pb, h.gb, hgr.cell h.bq.1 (fun e => h.bq.2.2 (Option.some.inj e)), h.bq.2⟩, hgr⟩
  · have hic : i < cur.size := (Array.getElem?_eq_some_iff.1 ci).1
    have hkc : k < cur.size := (Array.getElem?_eq_some_iff.1 ck).1
    unfold Lh.sw
    by_cases e1 : j = k
    · subst e1
      rw [if_pos rfl, Array.getElem?_setIfInBounds_self_of_lt (by rw [Array.size_setIfInBounds]; exact hkc)]
    · rw [if_neg e1, Array.getElem?_setIfInBounds_ne (fun e => e1 e.symm)]
      by_cases e2 : j = i
      · subst e2
        rw [if_pos rfl, Array.getElem?_setIfInBounds_self_of_lt hic]
      · rw [if_neg e2, Array.getElem?_setIfInBounds_ne (fun e => e2 e.symm)]
        exact h3 j hj
  · unfold Lh.sw
    split
    · exact h.ok i hi
    · split
      · exact h.ok k hk
      · exact h.ok j hj

/-- the least of a place and what is right below it, as far as seen -/
structure Lst (z : Nat → Int) (n a l b : Nat) : Prop where
  lo : 2 * a + 1 ≤ b
  hi : b ≤ 2 * a + 3
  bn : b = 2 * a + 1 ∨ b ≤ n
  wh : l = a ∨ (2 * a + 1 ≤ l ∧ l < b ∧ z l < z a)
  le : ∀ k, 2 * a + 1 ≤ k → k < b → z l ≤ z k
  la : z l ≤ z a
theorem Lst.start (z : Nat → Int) (n a : Nat) : Lst z n a a (2 * a + 1) := ⟨Nat.le_refl _, by omega, .inl rfl, .inl rfl, fun k h1 h2 => by omega, Int.le_refl _⟩
theorem Lst.yes {z : Nat → Int} {n a l b : Nat} (h : Lst z n a l b) (hb : b ≤ 2 * a + 2) (hn : b < n) (hz : z b < z l) : Lst z n a b (b + 1) := by
  have h1 := h.lo
  have h2 := h.la
  refine ⟨by omega, by omega, .inr (by omega), .inr ⟨by omega, by omega, by omega⟩, fun k hk1 hk2 => ?_, by omega⟩
  rcases Nat.lt_or_ge k b with g | g
  · have := h.le k hk1 g; omega
  · obtain rfl : k = b := by omega
    exact Int.le_refl _
theorem Lst.no {z : Nat → Int} {n a l b : Nat} (h : Lst z n a l b) (hb : b ≤ 2 * a + 2) (hn : b < n) (hz : ¬ z b < z l) : Lst z n a l (b + 1) := by
  have h1 := h.lo
  refine ⟨by omega, by omega, .inr (by omega), ?_, fun k hk1 hk2 => ?_, h.la⟩
  · rcases h.wh with e | ⟨e1, e2, e3⟩
    · exact .inl e
    · exact .inr ⟨e1, by omega, e3⟩
  · rcases Nat.lt_or_ge k b with g | g
    · exact h.le k hk1 g
    · obtain rfl : k = b := by omega
      omega

set_option maxRecDepth 100000 in
set_option maxHeartbeats 4000000 in
theorem lsink_at {W w : World} {p g q c n : Nat} {z : Nat → LsV} (h : LhAt W w p g q c n z) (hd : Dn (ky z) n 0) (hn : n ≤ 1000000000) :
    Calls Try.prog 90 #[.pointer (some ⟨p, 0, none⟩)] w fun e w' => e = .returned (.tuple #[]) ∧ (∃ y, LhAt W w' p g q c n y ∧ Ok (ky y) n ∧ (Lh.hl n y).Perm (Lh.hl n z)) ∧ w.grownBy w' (some g) := by
  have H := Lib.hid h
  have HD := Lib.hid hd
  clear h hd
  go_enter Try.func90, Try.ntmps90
  go_wp2_with fail
  go_loopw [2, 3, 4] (fun s2 s3 s4 wr => ∃ (a : Nat) (y : Nat → LsV), s2 = .int .i64 (a : Int) ∧ (a = 0 ∨ a < n) ∧ Hid (LhAt W wr p g q c n y) ∧ Hid (Dn (ky y) n a) ∧ Hid ((Lh.hl n y).Perm (Lh.hl n z)) ∧ Hid (w.grownBy wr (some g))) (fun s2 _ _ _ => n - (intOf s2).toNat)
  case atStart => exact ⟨0, z, rfl, .inl rfl, H, HD, Lib.hid (List.Perm.refl _), Lib.hid (World.grownBy.refl _ _)⟩
  case round =>
    obtain ⟨a, y, rfl, han, HY, HN, HC, HG⟩ := hrel
    rename World => wr
    have w1 : IntKind.i64.wrap (2 * (a : Int)) = 2 * (a : Int) := IntWalk.i64_in _ (by omega)
    have w2 : IntKind.i64.wrap (2 * (a : Int) + 1) = 2 * (a : Int) + 1 := IntWalk.i64_in _ (by omega)
    have w3 : IntKind.i64.wrap (2 * (a : Int) + 2) = 2 * (a : Int) + 2 := IntWalk.i64_in _ (by omega)
    go_wp2_with fail
    go_loopw [3, 4] (fun s3 s4 wq => ∃ l b : Nat, s3 = .int .i64 (l : Int) ∧ s4 = .int .i64 (b : Int) ∧ Hid (Lst (ky y) n a l b) ∧ Hid (LhAt W wq p g q c n y) ∧ Hid (w.grownBy wq (some g))) (fun _ s4 _ => 2 * a + 3 - (intOf s4).toNat)
    case atStart => exact ⟨a, 2 * a + 1, rfl, by go_num, Lib.hid (Lst.start (ky y) n a), HY, HG⟩
    case round =>
      clear HY HG
      obtain ⟨l, b, rfl, rfl, HL, HQ, HU⟩ := hrel
      rename World => wq
      have c1 := HQ.out.bound
      have hb1 := HL.out.lo
      have hb2 := HL.out.hi
      by_cases hc1 : b ≤ 2 * a + 2
      case neg =>
        have z1 : ¬ (b : Int) ≤ 2 * (a : Int) + 2 := by omega
        have hbe := HL.out.bn
        by_cases hla : l = a
        case pos =>
          have HOK := Lib.hid (show Ok (ky y) n from HN.out.done fun k h0 hk hka => by
            have h2 := HL.out.le k (by omega) (by omega)
            rw [hla] at h2
            exact h2)
          have HCC := Lib.hid HC.out
          subst hla
          go_wp2_with fail
          first | go_end0 | go_ret | refine bodyPost_ret (results_none rfl _ _ _) rfl ?_
          exact ⟨rfl, ⟨y, HQ.out, HOK.out, HCC.out⟩, HU.out⟩
        case neg =>
          have hlw : 2 * a + 1 ≤ l ∧ l < b ∧ ky y l < ky y a := by rcases HL.out.wh with e | e; exact absurd e hla; exact e
          have hl1 := hlw.1
          have hl2 := hlw.2.1
          have hln : l < n := by omega
          have hDN := Lib.hid (show Dn (ky (Lh.sw y a l)) n l by rw [ky_sw]; exact HN.out.step (c := l) (by omega) hln (by omega) hlw.2.2 (fun k h0 hk hka => HL.out.le k (by omega) (by omega)))
          have zne : ((l : Int) == (a : Int)) = false := by rw [beq_eq_false_iff_ne]; omega
          have HCN := Lib.hid (show (Lh.hl n (Lh.sw y a l)).Perm (Lh.hl n z) from (Lh.hl_sw (by omega) hln).trans HC.out)
          clear hlw hla
          go_wp2_with fail
          refine (lswap_at HQ.out (i := a) (k := l) (by omega) hln).mono ?_
          rintro e w6 ⟨rfl, hq6, hg6⟩
          have HQ6 := Lib.hid hq6
          have HU6 := Lib.hid (grown_over HU.out hg6 (fun _ e => .inr e))
          clear hq6 hg6
          go_wp2_with fail
          go_roundw
          case rel => exact ⟨l, Lh.sw y a l, rfl, .inr hln, HQ6, hDN, HCN, HU6⟩
          case measure => simp [intOf]; omega
      case pos =>
        by_cases hc2 : b < n
        case neg =>
          have z1 : (b : Int) ≤ 2 * (a : Int) + 2 := by omega
          have z2 : ¬ (b : Int) < (n : Int) := by omega
          have hbe := HL.out.bn
          by_cases hla : l = a
          case pos =>
            have HOK := Lib.hid (show Ok (ky y) n from HN.out.done fun k h0 hk hka => by
              have h2 := HL.out.le k (by omega) (by omega)
              rw [hla] at h2
              exact h2)
            have HCC := Lib.hid HC.out
            subst hla
            go_wp2_with fail
            first | go_end0 | go_ret | refine bodyPost_ret (results_none rfl _ _ _) rfl ?_
            exact ⟨rfl, ⟨y, HQ.out, HOK.out, HCC.out⟩, HU.out⟩
          case neg =>
            have hlw : 2 * a + 1 ≤ l ∧ l < b ∧ ky y l < ky y a := by rcases HL.out.wh with e | e; exact absurd e hla; exact e
            have hl1 := hlw.1
            have hl2 := hlw.2.1
            have hln : l < n := by omega
            have hDN := Lib.hid (show Dn (ky (Lh.sw y a l)) n l by rw [ky_sw]; exact HN.out.step (c := l) (by omega) hln (by omega) hlw.2.2 (fun k h0 hk hka => HL.out.le k (by omega) (by omega)))
            have zne : ((l : Int) == (a : Int)) = false := by rw [beq_eq_false_iff_ne]; omega
            have HCN := Lib.hid (show (Lh.hl n (Lh.sw y a l)).Perm (Lh.hl n z) from (Lh.hl_sw (by omega) hln).trans HC.out)
            clear hlw hla
            go_wp2_with fail
            refine (lswap_at HQ.out (i := a) (k := l) (by omega) hln).mono ?_
            rintro e w6 ⟨rfl, hq6, hg6⟩
            have HQ6 := Lib.hid hq6
            have HU6 := Lib.hid (grown_over HU.out hg6 (fun _ e => .inr e))
            clear hq6 hg6
            go_wp2_with fail
            go_roundw
            case rel => exact ⟨l, Lh.sw y a l, rfl, .inr hln, HQ6, hDN, HCN, HU6⟩
            case measure => simp [intOf]; omega
        case pos =>
          have z1 : (b : Int) ≤ 2 * (a : Int) + 2 := by omega
          have z2 : (b : Int) < (n : Int) := by omega
          have hln : l < n := by rcases HL.out.wh with e | e <;> omega
          go_wp2_with fail
          refine (lbefore_at HQ.out hc2 hln).mono ?_
          rintro e w5 ⟨rfl, hq5, hb5⟩
          have HQ5 := Lib.hid hq5
          have HU5 := Lib.hid (grown_below HU.out hb5)
          clear hq5 hb5
          have w4 : IntKind.i64.wrap ((b : Int) + 1) = (b : Int) + 1 := IntWalk.i64_in _ (by omega)
          by_cases hz : ky y b < ky y l
          case pos =>
            have HL5 := Lib.hid (HL.out.yes hc1 hc2 hz)
            rw [decide_eq_true hz]
            clear hz
            go_wp2_with fail
            go_roundw
            case rel => exact ⟨b, b + 1, rfl, by go_num, HL5, HQ5, HU5⟩
            case measure => simp [intOf]; omega
          case neg =>
            have HL5 := Lib.hid (HL.out.no hc1 hc2 hz)
            rw [decide_eq_false hz]
            clear hz
            go_wp2_with fail
            go_roundw
            case rel => exact ⟨l, b + 1, rfl, by go_num, HL5, HQ5, HU5⟩
            case measure => simp [intOf]; omega
end Go.Proofs.Ytpcgjladooijmaa
