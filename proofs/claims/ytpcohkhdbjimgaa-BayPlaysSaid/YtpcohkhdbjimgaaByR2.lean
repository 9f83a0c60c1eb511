/- The document's bay: its Put and Most, walked. Written by genbyr2.py. -/
import Derived.Test.YtpcohkhdbjimgaaByR
namespace Go.Proofs.Ytpcohkhdbjimgaa
open Go.RowKit Go.Conc
set_option linter.unusedVariables false

theorem info_rkd : (Try.prog.info? 61).map (fun i => (i.zero, i.size, i.bytes)) = some (some (.agg #[.string ByteArray.empty, .int .i64 0]), 2, 24) := by kernel_rfl
theorem wpList_append_kd {w : World} {ops : Array Oper} {rest : List Oper} {o : Oper} {a : Act} {Q : Exit → Act → World → Prop} (hgd : o.guard = none) (s x : Operand)
    (ho : o.op = .call { callee := .builtin .append, args := #[s, x], argTypes := #[51, 51] })
    (base : Nat) (v : Value) (n : Nat) (xs : List (ByteArray × Int)) (hs : a.eval s = v) (hown : w.ownsRow base 61 2 v n (KdS.flat xs))
    (src : Option Addr) (m c : Nat) (ys : List (ByteArray × Int)) (hx : a.eval x = .slice src m c) (hb : VecAt KdS w src m c ys)
    (h63 : (n + m) * 24 ≤ 140737488355328) (hbase : base ≤ w.heap.size)
    (h : ∀ v' w', w'.ownsRow base 61 2 v' (n + m) (KdS.flat (xs ++ ys)) → w.grownBy w' v.ownBlock → wpList Try.prog ops Q rest (a.put o.dst v') w') : wpList Try.prog ops Q (o :: rest) a w := by
  obtain ⟨i0, hi, hz0, hz1, hz2⟩ := info_parts info_rkd
  rcases src with _ | ad
  · have hc := hb.nl rfl
    have hm : m = 0 := by have := hb.cap; omega
    subst hm
    subst hc
    have hy : ys = [] := List.eq_nil_of_length_eq_zero hb.len
    subst hy
    refine wpList_append_own_none hgd s x 51 ho base 61 i0 2 Try.underlying51 hi v n (KdS.flat xs) hs hown hx ?_
    exact h v w (by simpa using hown) (World.grownBy.refl _ _)
  · have hfl : KdS.flat (xs ++ ys) = KdS.flat xs ++ KdS.flat ys := by unfold Sty.flat; rw [List.flatMap_append]
    refine wpList_append_own_at w hgd s x 51 ho base 61 i0 _ 2 24 Try.underlying51 hi hz0 hz1 hz2 rfl (by decide) v n (KdS.flat xs) hs hown ad m c (KdS.flat ys) hx (by rw [KdS.flat_len, hb.len]; rfl) hb.src (KdS.flat_one _) (by unfold maxLen; omega) h63 hbase ?_
    intro v' w' h1 h2 _ _
    exact h v' w' (by rw [hfl]; exact h1) h2
theorem own_base {w : World} {base base' : Nat} {e : TypeId} {size : Nat} {v : Value} {n : Nat} {xs : List Value} (h : w.ownsRow base e size v n xs) (hb : base' ≤ base) : w.ownsRow base' e size v n xs := by
  refine ⟨h.1, ?_⟩
  rcases h.2 with h0 | ⟨g, cap, cur, h1, h2, h3⟩
  · exact .inl h0
  · exact .inr ⟨g, cap, cur, h1, Nat.le_trans hb h2, h3⟩
/-- the document's bay -/
def DBay (w : World) (D base room : Nat) (L : List (ByteArray × Int)) : Prop := ∃ a n c, w.heap[D]? = some (.cells #[.slice a n c, .int .i64 (room : Int)] 53 (0, 0)) ∧ w.ownsRow base 61 2 (.slice a n c) n (KdS.flat L) ∧ L.length = n ∧ ∀ x ∈ L, x.1.size ≤ 1000000000000000
theorem DBay.lt {w : World} {D base room : Nat} {L : List (ByteArray × Int)} (h : DBay w D base room L) : D < w.heap.size := by
  obtain ⟨a, n, c, h1, _⟩ := h
  exact (Array.getElem?_eq_some_iff.1 h1).1
/-- it stays where only blocks of other types turn -/
theorem DBay.same {w w' : World} {D base room : Nat} {L : List (ByteArray × Int)} (h : DBay w D base room L) (hk : ∀ (b : Nat) cs fr t, (t = 53 ∨ t = 61) → w.heap[b]? = some (.cells cs t fr) → w'.heap[b]? = w.heap[b]?) : DBay w' D base room L := by
  obtain ⟨a, n, c, h1, h2, h3, h4⟩ := h
  refine ⟨a, n, c, (hk D _ _ _ (.inl rfl) h1).trans h1, ⟨h2.1, ?_⟩, h3, h4⟩
  rcases h2.2 with h0 | ⟨g, cap, cur, g1, g2, g3, g4⟩
  · exact .inl h0
  · exact .inr ⟨g, cap, cur, g1, g2, (hk g _ _ _ (.inr rfl) g3).trans g3, g4⟩
theorem DBay.below {w w' : World} {D base room : Nat} {L : List (ByteArray × Int)} (h : DBay w D base room L) (hb : Below w.heap.size w w') : DBay w' D base room L :=
  h.same fun b cs fr t _ hh => hb.block b (Array.getElem?_eq_some_iff.1 hh).1
theorem DBay.frm {w w' : World} {D base room Y M : Nat} {L : List (ByteArray × Int)} {l : List (ByteArray × BoxV)} (h : DBay w D base room L) (hy : BayAt w Y M room l) (hF : Frm (BayF Y M l) w w') : DBay w' D base room L :=
  h.same fun b cs fr t ht hh => hF.block b (Array.getElem?_eq_some_iff.1 hh).1 (hy.notT hh (by rcases ht with e | e <;> (rw [e]; decide)))
/-- the program's bay stays where only the document's turns -/
theorem Holds.frm {w w' : World} {D base room Y M : Nat} {L L' : List (ByteArray × Int)} {l : List (ByteArray × BoxV)} (h : Holds w Y M room l L') (hd : DBay w D base room L) (hF : Frm (fun i => i = D) w w') : Holds w' Y M room l L' := by
  obtain ⟨a, n, c, h1, _⟩ := hd
  have hne := h.bay.notT h1 (by decide)
  refine ⟨h.bay.same (fun b hb => hF.block b (h.bay.lt hb) (fun e => hne (by rw [← e]; exact hb))) (fun p hp => hF.block _ (h.bay.box p hp).ltB fun e => ?_), h.says, h.full, h.keys, h.len⟩
  have := (h.bay.box p hp).blk
  rw [e, h1] at this
  simp at this
/-- another list laid into it -/
theorem DBay.laid {w : World} {D base room n m : Nat} {a a' : Option Addr} {c c' : Nat} {L : List (ByteArray × Int)} (h : w.heap[D]? = some (.cells #[.slice a n c, .int .i64 (room : Int)] 53 (0, 0))) (hr : w.ownsRow base 61 2 (.slice a' m c') m (KdS.flat L)) (hl : L.length = m) (hk : ∀ x ∈ L, x.1.size ≤ 1000000000000000) : DBay (w.setCell ⟨D, 0, none⟩ (.slice a' m c')) D base room L := by
  have hs := heap_setCell_same w D 0 _ _ (.slice a' m c') h
  refine ⟨a', m, c', by rw [hs]; simp, ⟨hr.1, ?_⟩, hl, hk⟩
  rcases hr.2 with h0 | ⟨g, cap, cur, g1, g2, g3, g4⟩
  · exact .inl h0
  · refine .inr ⟨g, cap, cur, g1, g2, (heap_setCell_other w ⟨D, 0, none⟩ g _ (fun e => ?_)).trans g3, g4⟩
    rw [e, h] at g3
    simp at g3
theorem frm_set (w : World) (D : Nat) (u : Value) : Frm (fun i => i = D) w (w.setCell ⟨D, 0, none⟩ u) := (Frm.refl (fun i => i = D) w).set (p := D) (.inl rfl) 0 u
/-- does it fit, as the document asks -/
def fitsR (room : Nat) (L ks : List (ByteArray × Int)) : Bool := (List.range ks.length).all fun i => decide (cntK (L ++ ks) (ks.getD i KdS.z).1 ≤ room)
theorem fitsR_yes {room : Nat} {L ks : List (ByteArray × Int)} (h : ∀ i, i < ks.length → cntK (L ++ ks) (ks.getD i KdS.z).1 ≤ room) : fitsR room L ks = true := by
  unfold fitsR
  rw [List.all_eq_true]
  exact fun i hi => decide_eq_true (h i (List.mem_range.1 hi))
theorem fitsR_no {room : Nat} {L ks : List (ByteArray × Int)} {i : Nat} (hi : i < ks.length) (h : ¬ cntK (L ++ ks) (ks.getD i KdS.z).1 ≤ room) : fitsR room L ks = false := by
  rw [Bool.eq_false_iff]
  intro e
  unfold fitsR at e
  rw [List.all_eq_true] at e
  exact h (by simpa using e i (List.mem_range.2 hi))
def RPutP (w : World) (D base room : Nat) (L ks : List (ByteArray × Int)) (e : Ending) (w' : World) : Prop :=
  e = .returned (.bool (fitsR room L ks)) ∧ DBay w' D base room (if fitsR room L ks = true then L ++ ks else L) ∧ Frm (fun i => i = D) w w'
theorem RPutP.no {w w' : World} {D base room : Nat} {L ks : List (ByteArray × Int)} (hf : fitsR room L ks = false) (hd : DBay w D base room L) (hb : Below w.heap.size w w') : RPutP w D base room L ks (.returned (.bool false)) w' := by
  unfold RPutP
  rw [hf]
  exact ⟨rfl, hd.below hb, Frm.ofBelow hb⟩
theorem RPutP.yes {w w' : World} {D base room : Nat} {L ks : List (ByteArray × Int)} (hf : fitsR room L ks = true) (hd : DBay w' D base room (L ++ ks)) (hb : Frm (fun i => i = D) w w') : RPutP w D base room L ks (.returned (.bool true)) w' := by
  unfold RPutP
  rw [hf]
  exact ⟨rfl, hd, hb⟩
set_option maxRecDepth 100000 in
set_option maxHeartbeats 8000000 in
theorem rbput_any {w : World} {D base room : Nat} {L : List (ByteArray × Int)} (h : DBay w D base room L) {a : Option Addr} {n c : Nat} {ks : List (ByteArray × Int)} (hk : VecAt KdS w a n c ks) (hn : n ≤ 40) (hL : L.length ≤ 9000) (hr : room ≤ 2048) (hbs : base ≤ w.heap.size) :
    Calls Try.prog 26 #[.pointer (some ⟨D, 0, none⟩), .slice a n c] w (RPutP w D base room L ks) := by
  have HD := Lib.hid h
  have HV := Lib.hid hk
  have hcp := hk.cap
  have hcm := hk.capm
  have hDl := h.lt
  obtain ⟨la, ln, lc, hblk, hrow, hll, hlk⟩ := h
  have c0 := cell_blk2 hblk (i := 0) (u := .slice la ln lc) rfl
  have c1 := cell_blk2 hblk (i := 1) (u := .int .i64 (room : Int)) rfl
  have HBLK := Lib.hid hblk
  have HLK := Lib.hid hlk
  have HLL := Lib.hid hll
  have hln : ln ≤ 9000 := by omega
  have hvL : VecAt KdS w la ln lc L := VecAt.ofOwn hrow hll hlk
  obtain ⟨W1, hW1⟩ : ∃ W1, W1 = w.alloc (.cells #[] 61) := ⟨_, rfl⟩
  have hb1 : Below w.heap.size w W1 := by rw [hW1]; exact (Below.refl _ _).alloc (Nat.le_refl _) _
  have HO1 := Lib.hid (show W1.ownsRow w.heap.size 61 2 (.slice (some ⟨w.heap.size, 0, none⟩) 0 0) 0 (KdS.flat []) from by rw [hW1]; exact World.ownsRow_lit (base := w.heap.size) (e := 61) (size := 2) w #[] 0 (Nat.le_refl _) (by unfold maxLen; omega) rfl)
  have HB1 := Lib.hid hb1
  have HVL := Lib.hid hvL
  have HW1 := Lib.hid hW1
  have HRW := Lib.hid hrow
  clear hk hblk hrow hll hlk hvL hW1 hb1 c1
  go_enter Try.func26, Try.ntmps26
  have dw : (w.alloc (.cells #[] 61)).cell? ⟨D, 0, none⟩ = some (.slice la ln lc) := (((Below.refl w.heap.size w).alloc (Nat.le_refl _) _).cell (p := ⟨D, 0, none⟩) hDl).trans c0
  go_wp2_with (at_builtin; rw [← HW1.out]; refine wpList_append_kd rfl (.tmp 8) (.tmp 12) rfl w.heap.size _ _ [] rfl HO1.out _ _ _ L rfl (HVL.out.kept HB1.out) (by omega) HB1.out.size ?_)
  intro v2 w2 ho2 hg2
  have HB2 := Lib.hid (show Below w.heap.size w w2 from HB1.out.grown hg2 HB1.out.size (fun k hk => (HO1.out.lt k hk).1))
  have HO2 := Lib.hid (show w2.ownsRow w.heap.size 61 2 v2 ln (KdS.flat L) by simpa using ho2)
  clear ho2 hg2 dw c0
  go_wp2_with (at_builtin; refine wpList_append_kd rfl (.tmp 13) (.tmp 14) rfl w.heap.size _ _ L rfl HO2.out _ _ _ ks rfl (HV.out.kept HB2.out) (by omega) HB2.out.size ?_)
  intro v3 w3 ho3 hg3
  have HB3 := Lib.hid (show Below w.heap.size w w3 from HB2.out.grown hg3 HB2.out.size (fun k hk => (HO2.out.lt k hk).1))
  obtain ⟨na, nc, rfl⟩ : ∃ na nc, v3 = .slice na (ln + n) nc := by
    rcases ho3.2 with ⟨h0, hz⟩ | ⟨g, cap, cu, h0, _⟩
    · exact ⟨none, 0, by rw [h0, hz]⟩
    · exact ⟨_, _, h0⟩
  obtain ⟨nn, hnn⟩ : ∃ nn, nn = ln + n := ⟨_, rfl⟩
  rw [← hnn] at ho3
  rw [← hnn]
  have HO3 := Lib.hid ho3
  have HNN := Lib.hid (show (L ++ ks).length = nn from by rw [List.length_append, HLL.out, HV.out.len, hnn])
  have HLK2 := Lib.hid (show ∀ x ∈ L ++ ks, x.1.size ≤ 1000000000000000 from fun x hx => by
    rcases List.mem_append.1 hx with g | g
    · exact HLK.out x g
    · exact HV.out.all x g)
  have hnl : nn ≤ 10000 := by omega
  clear ho3 hg3 hnn HO1 HO2 HB1 HB2 HW1
  go_wp2_with fail
  go_loopw [18] (fun s18 wr => ∃ (i : Nat), i ≤ n ∧ s18 = .int .i64 i ∧ Hid (∀ j, j < i → cntK (L ++ ks) (ks.getD j KdS.z).1 ≤ room) ∧ Hid (wr.ownsRow w.heap.size 61 2 (.slice na nn nc) nn (KdS.flat (L ++ ks))) ∧ Hid (Below w.heap.size w wr)) (fun s18 _ => n - (intOf s18).toNat)
  case atStart => exact ⟨0, by omega, rfl, Lib.hid (fun j hj => by omega), HO3, HB3⟩
  case round =>
    clear HO3 HB3
    obtain ⟨i, hi, rfl, HA, HO, HB⟩ := hrel
    rename World => wr
    by_cases hin : i < n
    · obtain ⟨b, off, rfl, _, _, hc⟩ := (HV.out.kept HB.out).get hin
      obtain ⟨x, hx⟩ : ∃ x, x = ks.getD i KdS.z := ⟨_, rfl⟩
      rw [← hx] at hc
      have HXX := Lib.hid hx
      obtain ⟨q, u⟩ := x
      have k0 : wr.cell? ⟨b, off + i * 2, none⟩ = some (.string q) := hc 0 _ rfl
      have k1 : wr.cell? ⟨b, off + i * 2 + 1, none⟩ = some (.int .i64 u) := hc 1 _ rfl
      obtain ⟨bx, hbx⟩ : ∃ bx, bx = wr.heap.size := ⟨_, rfl⟩
      obtain ⟨W3, hW3⟩ : ∃ W3, W3 = wr.alloc (.cells #[.string q, .int .i64 u] 61) := ⟨_, rfl⟩
      have hb3 : Below wr.heap.size wr W3 := by rw [hW3]; exact (Below.refl _ _).alloc (Nat.le_refl _) _
      have hk3 : W3.heap[bx]? = some (.cells #[.string q, .int .i64 u] 61 (0, 0)) := by rw [hW3, hbx]; exact heap_new wr _
      have d0 := cell_blk2 hk3 (i := 0) (u := .string q) rfl
      have hlb : bx < W3.heap.size := (Array.getElem?_eq_some_iff.1 hk3).1
      have HB3 := Lib.hid (HB.out.trans (hb3.mono HB.out.size))
      have HO3 := Lib.hid (own_below HO.out hb3)
      have e1 : W3.cell? ⟨D, 1, none⟩ = some (.int .i64 (room : Int)) := cell_blk2 ((HB3.out.block D hDl).trans HBLK.out) (i := 1) rfl
      have hDl2 : D < W3.heap.size := Nat.lt_of_lt_of_le hDl HB3.out.size
      have HVN := Lib.hid (VecAt.ofOwn HO3.out HNN.out HLK2.out)
      obtain ⟨cc, hcc⟩ : ∃ cc, cc = cntK (L ++ ks) q := ⟨_, rfl⟩
      have HCC := Lib.hid hcc
      have HCN := Lib.hid (show ∀ W, Below W3.heap.size W3 W → Calls Try.prog 32 #[.slice na nn nc, .string q] W fun e w' => e = .returned (.int .i64 (cc : Int)) ∧ Below W.heap.size W w' from fun W hW => by rw [hcc]; exact count_any (HVN.out.kept hW) q hnl)
      have HW3 := Lib.hid hW3
      have HBX := Lib.hid hbx
      have zi : (i : Int) < (n : Int) := by omega
      have zi0 : (0 : Int) ≤ (i : Int) := by omega
      have wi : IntKind.i64.wrap ((i : Int) + 1) = (i : Int) + 1 := IntWalk.i64_in _ (by omega)
      clear hc hx hbx hW3 hb3 hk3 HB hcc HO hDl
      rename D < W3.heap.size => hDl
      go_upto_region 5 with fail
      rw [← HW3.out, ← HBX.out]
      clear k0 k1
      refine wp_region_fill (by kernel_rfl) (by kernel_rfl) (by kernel_rfl) (Below W3.heap.size W3) (FV2 (fun j_9 => match j_9 with | 0 => some (.slice na nn nc) | 1 => some (.pointer (some ⟨bx, 0, none⟩)) | 2 => some (.string q) | 3 => some (.int .i64 (cc : Int)) | 4 => some (.pointer (some ⟨D, 0, none⟩)) | 5 => some (.pointer (some ⟨D, 0, none⟩)) | 6 => some (.pointer (some ⟨D, 1, none⟩)) | 7 => some (.int .i64 (room : Int)) | 8 => some (.bool (decide (room < cc))) | _ => none) (fun (j : Nat) (u : Value) (w : World) => True)) (Below.refl _ _).drew ?_ ?_
      · intro i9 o ho V w9 K hJ hdep hK
        have HJ := Lib.hid hJ
        simp only [fill, slotOf, List.size_toArray, List.length_cons, List.length_nil, Nat.reduceAdd, List.getElem?_toArray, List.getElem?_cons_zero, List.getElem?_cons_succ, Option.bind_some, Act.put, List.setIfInBounds_toArray, List.set_cons_zero, List.set_cons_succ] at hK ⊢
        have hin : i9 < 9 := (Array.getElem?_eq_some_iff.1 ho).1
        have hcs : i9 = 0 ∨ i9 = 1 ∨ i9 = 2 ∨ i9 = 3 ∨ i9 = 4 ∨ i9 = 5 ∨ i9 = 6 ∨ i9 = 7 ∨ i9 = 8 := by omega
        clear hin
        rcases hcs with rfl | rfl | rfl | rfl | rfl | rfl | rfl | rfl | rfl
        · obtain rfl := Option.some.inj ho.symm
          clear hdep ho hJ
          try simp only [fill, slotOf, List.size_toArray, List.length_cons, List.length_nil, Nat.reduceAdd, List.getElem?_toArray, List.getElem?_cons_zero, List.getElem?_cons_succ, Option.bind_some, Act.put, List.setIfInBounds_toArray, List.set_cons_zero, List.set_cons_succ] at hK ⊢
          go_simp
          exact hK (.slice na nn nc) _ HJ.out rfl (fun j y h => h) _ rfl
        · obtain rfl := Option.some.inj ho.symm
          clear hdep ho hJ
          try simp only [fill, slotOf, List.size_toArray, List.length_cons, List.length_nil, Nat.reduceAdd, List.getElem?_toArray, List.getElem?_cons_zero, List.getElem?_cons_succ, Option.bind_some, Act.put, List.setIfInBounds_toArray, List.set_cons_zero, List.set_cons_succ] at hK ⊢
          go_simp
          exact hK (.pointer (some ⟨bx, 0, none⟩)) _ HJ.out rfl (fun j y h => h) _ rfl
        · obtain rfl := Option.some.inj ho.symm
          have d1 : V 1 = .pointer (some ⟨bx, 0, none⟩) := hdep ⟨1, .data⟩ (by simp) rfl
          have u1 : w9.cell? ⟨bx, 0, none⟩ = some (.string q) := (hJ.cell (p := ⟨bx, 0, none⟩) hlb).trans d0
          clear hdep ho hJ
          try simp only [fill, slotOf, List.size_toArray, List.length_cons, List.length_nil, Nat.reduceAdd, List.getElem?_toArray, List.getElem?_cons_zero, List.getElem?_cons_succ, Option.bind_some, Act.put, List.setIfInBounds_toArray, List.set_cons_zero, List.set_cons_succ] at hK ⊢
          rw [d1] at hK ⊢
          go_simp
          exact hK (.string q) _ HJ.out rfl (fun j y h => h) _ rfl
        · obtain rfl := Option.some.inj ho.symm
          have d0 : V 0 = .slice na nn nc := hdep ⟨0, .data⟩ (by simp) rfl
          have d2 : V 2 = .string q := hdep ⟨2, .data⟩ (by simp) rfl
          clear hdep ho hJ
          try simp only [fill, slotOf, List.size_toArray, List.length_cons, List.length_nil, Nat.reduceAdd, List.getElem?_toArray, List.getElem?_cons_zero, List.getElem?_cons_succ, Option.bind_some, Act.put, List.setIfInBounds_toArray, List.set_cons_zero, List.set_cons_succ] at hK ⊢
          rw [d0, d2] at hK ⊢
          go_simp
          refine (HCN.out w9 HJ.out).mono ?_
          rintro e w8 ⟨rfl, hb8⟩
          exact hK (.int .i64 (cc : Int)) _ (HJ.out.trans (hb8.mono HJ.out.size)) rfl (FV2.mono ((fun (_ : Below _ _ _) j u (hh : True) => hh) hb8)) _ rfl
        · obtain rfl := Option.some.inj ho.symm
          clear hdep ho hJ
          try simp only [fill, slotOf, List.size_toArray, List.length_cons, List.length_nil, Nat.reduceAdd, List.getElem?_toArray, List.getElem?_cons_zero, List.getElem?_cons_succ, Option.bind_some, Act.put, List.setIfInBounds_toArray, List.set_cons_zero, List.set_cons_succ] at hK ⊢
          go_simp
          exact hK (.pointer (some ⟨D, 0, none⟩)) _ HJ.out rfl (fun j y h => h) _ rfl
        · obtain rfl := Option.some.inj ho.symm
          have d4 : V 4 = .pointer (some ⟨D, 0, none⟩) := hdep ⟨4, .data⟩ (by simp) rfl
          clear hdep ho hJ
          try simp only [fill, slotOf, List.size_toArray, List.length_cons, List.length_nil, Nat.reduceAdd, List.getElem?_toArray, List.getElem?_cons_zero, List.getElem?_cons_succ, Option.bind_some, Act.put, List.setIfInBounds_toArray, List.set_cons_zero, List.set_cons_succ] at hK ⊢
          rw [d4] at hK ⊢
          go_simp
          exact hK (.pointer (some ⟨D, 0, none⟩)) _ HJ.out rfl (fun j y h => h) _ rfl
        · obtain rfl := Option.some.inj ho.symm
          have d5 : V 5 = .pointer (some ⟨D, 0, none⟩) := hdep ⟨5, .data⟩ (by simp) rfl
          clear hdep ho hJ
          try simp only [fill, slotOf, List.size_toArray, List.length_cons, List.length_nil, Nat.reduceAdd, List.getElem?_toArray, List.getElem?_cons_zero, List.getElem?_cons_succ, Option.bind_some, Act.put, List.setIfInBounds_toArray, List.set_cons_zero, List.set_cons_succ] at hK ⊢
          rw [d5] at hK ⊢
          go_simp
          exact hK (.pointer (some ⟨D, 1, none⟩)) _ HJ.out rfl (fun j y h => h) _ rfl
        · obtain rfl := Option.some.inj ho.symm
          have d6 : V 6 = .pointer (some ⟨D, 1, none⟩) := hdep ⟨6, .data⟩ (by simp) rfl
          have u1 : w9.cell? ⟨D, 1, none⟩ = some (.int .i64 (room : Int)) := (hJ.cell (p := ⟨D, 1, none⟩) hDl).trans e1
          clear hdep ho hJ
          try simp only [fill, slotOf, List.size_toArray, List.length_cons, List.length_nil, Nat.reduceAdd, List.getElem?_toArray, List.getElem?_cons_zero, List.getElem?_cons_succ, Option.bind_some, Act.put, List.setIfInBounds_toArray, List.set_cons_zero, List.set_cons_succ] at hK ⊢
          rw [d6] at hK ⊢
          go_simp
          exact hK (.int .i64 (room : Int)) _ HJ.out rfl (fun j y h => h) _ rfl
        · obtain rfl := Option.some.inj ho.symm
          have d3 : V 3 = .int .i64 (cc : Int) := hdep ⟨3, .data⟩ (by simp) rfl
          have d7 : V 7 = .int .i64 (room : Int) := hdep ⟨7, .data⟩ (by simp) rfl
          clear hdep ho hJ
          try simp only [fill, slotOf, List.size_toArray, List.length_cons, List.length_nil, Nat.reduceAdd, List.getElem?_toArray, List.getElem?_cons_zero, List.getElem?_cons_succ, Option.bind_some, Act.put, List.setIfInBounds_toArray, List.set_cons_zero, List.set_cons_succ] at hK ⊢
          rw [d3, d7] at hK ⊢
          go_simp
          exact hK (.bool (decide (room < cc))) _ HJ.out rfl (fun j y h => h) _ rfl
      · intro V w9 hJ hall
        have dL : V 8 = .bool (decide (room < cc)) := hall 8 (by decide)
        have HJ9 := Lib.hid hJ
        clear hall hJ
        simp only [fill, slotOf, List.size_toArray, List.length_cons, List.length_nil, Nat.reduceAdd, List.getElem?_toArray, List.getElem?_cons_zero, List.getElem?_cons_succ, Option.bind_some, Act.put, List.setIfInBounds_toArray, List.set_cons_zero, List.set_cons_succ]
        rw [dL]
        clear dL
        have HB9 := Lib.hid (HB3.out.trans (HJ9.out.mono HB3.out.size))
        have HO9 := Lib.hid (own_below HO3.out HJ9.out)
        clear HJ9 HCN
        by_cases hg : cc ≤ room
        · have hd0 : decide (room < cc) = false := decide_eq_false (by omega)
          rw [hd0]
          have HOK := Lib.hid (show ∀ j, j < i + 1 → cntK (L ++ ks) (ks.getD j KdS.z).1 ≤ room from fun j hj => by
            rcases Nat.lt_or_ge j i with g | g
            · exact HA.out j g
            · obtain rfl : j = i := by omega
              rw [← HXX.out]; show cntK (L ++ ks) q ≤ room; rw [← HCC.out]; exact hg)
          clear hg hd0
          go_wp2_with fail
          go_roundw
          case rel => exact ⟨i + 1, by omega, by push_cast; rfl, HOK, HO9, HB9⟩
          case measure => simp only [intOf]; omega
        · have hd0 : decide (room < cc) = true := decide_eq_true (by omega)
          rw [hd0]
          have HNO := Lib.hid (fitsR_no (room := room) (L := L) (ks := ks) (i := i) (by rw [HV.out.len]; exact hin) (fun g => hg (by rw [← HXX.out] at g; rw [HCC.out]; exact g)))
          clear hg hd0
          go_wp2_with fail
          first | go_ret2 | go_ret
          exact RPutP.no HNO.out HD.out HB9.out
    · obtain rfl : i = n := by omega
      have HF := Lib.hid (fitsR_yes (room := room) (L := L) (ks := ks) (fun j hj => HA.out j (by rw [HV.out.len] at hj; exact hj)))
      have hblk := (HB.out.block D hDl).trans HBLK.out
      have hf0 := fro_blk2 hblk 0
      have hc0 := cell_blk2 hblk (i := 0) (u := .slice la ln lc) rfl
      have HLAID := Lib.hid (DBay.laid hblk (own_base HO.out hbs) HNN.out HLK2.out)
      have HFR := Lib.hid (show Frm (fun i => i = D) w (wr.setCell ⟨D, 0, none⟩ (.slice na nn nc)) from (Frm.ofBelow (F := fun i => i = D) HB.out).set (p := D) (.inl rfl) 0 _)
      clear hblk
      go_wp2_with fail
      first | go_ret2 | go_ret
      exact RPutP.yes HF.out HLAID.out HFR.out
end Go.Proofs.Ytpcohkhdbjimgaa
