/- Texts put together by packtpl2.py: SdDoO, SdSi2, SdDoN, SdDoU, SdDoC, SdDoD, SdSi3, StoTick, StoKst, StoStp. -/
import Derived.Test.YtjafagfhkpaciaaGreatPkSP2
import Derived.Test.YtjafagfhkpaciaaGreatPkSP5
import Derived.Test.YtjafagfhkpaciaaGreatPkSP6
section PkSP7_0
/- The document's Do: opened. Written by gensddo.py. -/
namespace Go.Proofs.YtjafagfhkpaciaaGreat
open Go.RowKit
set_option linter.unusedVariables false
set_option linter.unusedSimpArgs false

set_option maxRecDepth 100000 in
set_option maxHeartbeats 16000000 in
theorem ddo_11 {w : World} {S base : Nat} {σ : DSto} (h : DStAt w S base σ) {vr at_ nn id : Int} {ky : ByteArray} {a : Option Addr} {n c : Nat}  :
    Calls Tryz.prog 13 #[.pointer (some ⟨S, 0, none⟩), .agg #[.int .i64 11, .string ky, .slice a n c, .int .i64 vr, .int .i64 at_, .int .i64 nn, .int .i64 id]] w (LstDo w S base σ (pageL (fun k => decide (id < k)) itemU (upsK σ.ups))) := by
  have HE := Lib.hid (dent_mk h #[.int .i64 11, .string ky, .slice a n c, .int .i64 vr, .int .i64 at_, .int .i64 nn, .int .i64 id])
  have hSl : S < w.heap.size := (Array.getElem?_eq_some_iff.1 h.blk).1
  clear h
  go_enter Tryz.func13, Tryz.ntmps13
  go_upto_region 1 with fail
  obtain ⟨W0, hW0⟩ : ∃ W0, W0 = (w.alloc (.cells #[.int .i64 11, .string ky, .slice a n c, .int .i64 vr, .int .i64 at_, .int .i64 nn, .int .i64 id] 34)).alloc (.cells zrep 43) := ⟨_, rfl⟩
  rw [← hW0] at HE
  unfold zrep at hW0
  rw [← hW0]
  clear hW0
  obtain ⟨ai, hai⟩ : ∃ ai, ai = atK σ.objs ky := ⟨_, rfl⟩
  obtain ⟨oi, hoi⟩ : ∃ oi, oi = openK σ.ups id := ⟨_, rfl⟩
  have HAT := Lib.hid (fun k => dat_any (HE.out.st.drewN k) ky)
  have HOP := Lib.hid (fun k => dopen_any (HE.out.st.drewN k) id)
  rw [← hai] at HAT
  rw [← hoi] at HOP
  have k1 := cell_blkD HE.out.cb (i := 1) (u := .string ky) rfl
  have k6 := cell_blkD HE.out.cb (i := 6) (u := .int .i64 id) rfl
  go_quiet ((first | (go_at_call 26; exact Calls.quiet_of_same (HAT.out _)) | (go_at_call 27; exact Calls.quiet_of_same (HOP.out _))))
  rename Nat => nq
  clear k1 k6 HAT HOP
  have HE1 := Lib.hid (HE.out.drewN nq)
  obtain ⟨W1, hW1⟩ : ∃ W1, W1 = W0.drewN nq := ⟨_, rfl⟩
  rw [← hW1] at HE1
  rw [← hW1]
  clear HE hW1
  have HE := HE1
  clear HE1
  have hz0 := HE.out.sz
  have hk0 : w.heap.size < W1.heap.size := by omega
  have hr0 : w.heap.size + 1 < W1.heap.size := by omega
  have hS0 : S < W1.heap.size := by omega
  have HZ0 := Lib.hid hz0
  clear hz0
  have HR0 := Lib.hid (Below.refl W1.heap.size W1)
  have k0 := cell_blkD HE.out.cb (i := 0) (u := .int .i64 11) rfl
  have HAI := Lib.hid hai
  have HOI := Lib.hid hoi
  clear hai hoi
  have hlf := HE.out.st.uf
  obtain ⟨R9, hR9⟩ : ∃ R9, R9 = W1.heap.size := ⟨_, rfl⟩
  obtain ⟨W2, hW2⟩ : ∃ W2, W2 = W1.alloc (.cells zrep 43) := ⟨_, rfl⟩
  have HB2 := Lib.hid (show Below W1.heap.size W1 W2 from by rw [hW2]; exact (Below.refl _ _).alloc (Nat.le_refl _) _)
  have hk9 : W2.heap[R9]? = some (.cells zrep 43 (0, 0)) := by rw [hW2, hR9]; exact heap_alloc_newD W1 _
  have HP0 : Hid (PgAt W2 W2 W2.heap.size R9 (.slice none 0 0) 0 [] false) := Lib.hid ⟨Frm.refl _ _, hk9, World.ownsRow_nil W2 _ _ _, rfl⟩
  have HR9 := Lib.hid (Nat.le_of_eq hR9.symm)
  have hR2 : R9 < W2.heap.size := (Array.getElem?_eq_some_iff.1 hk9).1
  have HW2 := Lib.hid hW2
  have HRE := Lib.hid hR9
  obtain ⟨l, hl⟩ : ∃ l, l = upsK σ.ups := ⟨_, rfl⟩
  have hll : l.length = σ.ups.length := by rw [hl]; unfold upsK; exact List.length_map _
  obtain ⟨m9, hm9⟩ : ∃ m9, m9 = σ.ups.length := ⟨_, rfl⟩
  have HL := Lib.hid hl
  have HM9 := Lib.hid hm9
  rw [← hm9] at hll hlf
  have HLL := Lib.hid hll
  obtain ⟨oa, hoa⟩ : ∃ oa, oa = σ.ua := ⟨_, rfl⟩
  obtain ⟨oc, hoc⟩ : ∃ oc, oc = σ.uc := ⟨_, rfl⟩
  have HV := Lib.hid (show VecAt DUplS W1 oa m9 oc σ.ups from by rw [hm9, hoa, hoc]; exact HE.out.st.ups)
  have c0 : W2.cell? ⟨S, 1, none⟩ = some (.slice oa m9 oc) := by rw [hm9, hoa, hoc]; exact cell_blkD (HE.out.st.below HB2.out).blk (i := 1) rfl
  have hcp := HV.out.cap
  have hcm := HV.out.capm
  clear hW2 hk9 hR9 hl hll hm9 hoa hoc
  go_upto_region 65 with fail
  go_upto_region 66 with fail
  have hw2 := HW2.out
  unfold zrep at hw2
  rw [← hw2, ← HRE.out]
  clear hw2
  clear k0
  go_wp2_with fail
  go_loopw [334] (fun s14 wr => ∃ (i m cc : Nat) (aa : Option Addr), i ≤ m9 ∧ m ≤ 16 ∧ s14 = .int .i64 (i : Int) ∧ Hid (PgAt W2 wr W2.heap.size R9 (.slice aa m cc) m (pageL (fun k => decide (id < k)) itemU (l.take i)) false)) (fun s14 _ => m9 - (intOf s14).toNat)
  case atStart => exact ⟨0, 0, 0, none, by omega, by omega, rfl, HP0⟩
  case round =>
    clear HP0 c0
    obtain ⟨i, m, cc, aa, hil, hm, rfl, HP⟩ := hrel
    rename World => wr
    by_cases hk : i < m9
    · have HBW := Lib.hid (HB2.out.trans (HP.out.frm.toBelow HB2.out.size (fun i e => by rw [e]; exact HR9.out)))
      obtain ⟨b, off, rfl, _, _, hc⟩ := (HV.out.kept HBW.out).get hk
      have hgl := getD_some (d := DUplS.z) (show i < σ.ups.length by rw [← HM9.out]; exact hk)
      obtain ⟨x, hxx⟩ : ∃ x, x = σ.ups.getD i DUplS.z := ⟨_, rfl⟩
      rw [← hxx] at hc hgl
      have huok := HE.out.st.upl x (List.mem_of_getElem? hgl)
      have HPI := Lib.hid (show l[i]? = some (x.id, x) from by rw [HL.out]; exact map_at hgl)
      obtain ⟨yi, yb, yk, ya, yn, yc, yps⟩ := x
      have HUO := Lib.hid huok
      have v0 : wr.cell? ⟨b, off + i * 4, none⟩ = some (.int .i64 yi) := hc 0 _ rfl
      have v1 : wr.cell? ⟨b, off + i * 4 + 1, none⟩ = some (.int .i64 yb) := hc 1 _ rfl
      have v2 : wr.cell? ⟨b, off + i * 4 + 2, none⟩ = some (.string yk) := hc 2 _ rfl
      have v3 : wr.cell? ⟨b, off + i * 4 + 3, none⟩ = some (.slice ya yn yc) := hc 3 _ rfl
      clear huok
      obtain ⟨bx, hbx⟩ : ∃ bx, bx = wr.heap.size := ⟨_, rfl⟩
      obtain ⟨W3, hW3⟩ : ∃ W3, W3 = wr.alloc (.cells #[.int .i64 yi, .int .i64 yb, .string yk, .slice ya yn yc] 65) := ⟨_, rfl⟩
      have hb3 : Below wr.heap.size wr W3 := by rw [hW3]; exact (Below.refl _ _).alloc (Nat.le_refl _) _
      have hk3 : W3.heap[bx]? = some (.cells #[.int .i64 yi, .int .i64 yb, .string yk, .slice ya yn yc] 65 (0, 0)) := by rw [hW3, hbx]; exact heap_alloc_newD wr _
      have HP3 := Lib.hid (HP.out.below hb3)
      have HBW3 := Lib.hid (HBW.out.trans (hb3.mono HBW.out.size))
      have HK3 := Lib.hid hk3
      have HW3 := Lib.hid hW3
      have HBX := Lib.hid hbx
      have zj : (i : Int) < (m9 : Int) := by omega
      have zj0 : (0 : Int) ≤ (i : Int) := by omega
      have wj : IntKind.i64.wrap ((i : Int) + 1) = (i : Int) + 1 := IntWalk.i64_in _ (by omega)
      have HSU := Lib.hid (show pageL (fun k => decide (id < k)) itemU (l.take (i + 1)) = pageL (fun k => decide (id < k)) itemU (l.take i) ++ (if (fun k => decide (id < k)) yi = true then [(⟨yk, yi, ((psum yps : Nat) : Int), yb⟩ : ItemV)] else []) from pageL_succ HPI.out)
      have hyn : 0 ≤ yn := Nat.zero_le _
      clear hc hxx hgl hbx hW3 hb3 hk3
      go_upto_region 69 with fail
      rw [← HW3.out, ← HBX.out]
      clear v0 v1 v2 v3
      have HQ := Lib.hid HP3.out
      clear HP
      have HP := HQ
      clear HQ HP3
      have d0 := cell_blkD HK3.out (i := 0) (u := .int .i64 yi) rfl
      have d1 := cell_blkD HK3.out (i := 1) (u := .int .i64 yb) rfl
      have d2 := cell_blkD HK3.out (i := 2) (u := .string yk) rfl
      have d3 := cell_blkD HK3.out (i := 3) (u := .slice ya yn yc) rfl
      have e6 := cell_blkD (cells_of_below HBW3.out HE.out.cb) (i := 6) (u := .int .i64 id) rfl
      have x5 := cell_blkD HP.out.rb (i := 5) (u := .slice aa m cc) rfl
      have x6 := cell_blkD HP.out.rb (i := 6) (u := .bool false) rfl
      have f5 := frz_blkD HP.out.rb 5
      have f6 := frz_blkD HP.out.rb 6
      by_cases hid : id < yi
      · have HWT1 := Lib.hid (show (fun k => decide (id < k)) yi = true from decide_eq_true hid)
        have HSU2 := Lib.hid (show pageL (fun k => decide (id < k)) itemU (l.take (i + 1)) = pageL (fun k => decide (id < k)) itemU (l.take i) ++ [(⟨yk, yi, ((psum yps : Nat) : Int), yb⟩ : ItemV)] from by rw [HSU.out, if_pos HWT1.out])
        by_cases hm16 : m = 16
        · subst hm16
          have HLN := Lib.hid (show 16 < (pageL (fun k => decide (id < k)) itemU l).length from by
            rw [pageL_split (P := (fun k => decide (id < k))) (f := itemU) (l := l) i, List.length_append, HP.out.len]
            have := pageL_drop (P := (fun k => decide (id < k))) (f := itemU) HPI.out HWT1.out
            omega)
          have HTK := Lib.hid (show (pageL (fun k => decide (id < k)) itemU l).take 16 = pageL (fun k => decide (id < k)) itemU (l.take i) from by
            rw [pageL_split (P := (fun k => decide (id < k))) (f := itemU) (l := l) i, List.take_append_of_le_length (by rw [HP.out.len]; omega), List.take_of_length_le (by rw [HP.out.len]; omega)])
          go_upto_region 74 with fail
          have HPM2 := Lib.hid HP.out.more
          clear x5 x6 f5 f6 d0 d1 d2 d3 e6
          obtain ⟨wm, hwm⟩ : ∃ wm, wm = W3.setCell ⟨R9, 6, none⟩ (.bool true) := ⟨_, rfl⟩
          rw [← hwm] at HPM2
          rw [← hwm]
          clear hwm HP
          have HP := HPM2
          clear HPM2
          have HB1 := Lib.hid (HB2.out.trans (HP.out.frm.toBelow HB2.out.size (fun i e => by rw [e]; exact HR9.out)))
          have HRB := Lib.hid (cells_of_below HB1.out HE.out.rb)
          have x0 := cell_blkD HP.out.rb (i := 0) (u := .int .i64 0) rfl
          have x1 := cell_blkD HP.out.rb (i := 1) (u := .slice none 0 0) rfl
          have x2 := cell_blkD HP.out.rb (i := 2) (u := .int .i64 0) rfl
          have x3 := cell_blkD HP.out.rb (i := 3) (u := .int .i64 0) rfl
          have x4 := cell_blkD HP.out.rb (i := 4) (u := .int .i64 0) rfl
          have x5 := cell_blkD HP.out.rb (i := 5) (u := .slice aa 16 cc) rfl
          have x6 := cell_blkD HP.out.rb (i := 6) (u := .bool true) rfl
          obtain ⟨⟨q0, q1, q2, q3, q4, q5, q6⟩, r0, r1, r2, r3, r4, r5, r6⟩ := rb_cells HRB.out
          go_wp2_with fail
          clear x0 x1 x2 x3 x4 x5 x6 q0 q1 q2 q3 q4 q5 q6 r0 r1 r2 r3 r4 r5 r6
          obtain ⟨W5, hW5⟩ : ∃ W5, W5 = setR wm (w.heap.size + 1) (.int .i64 0) (.slice none 0 0) (.int .i64 0) (.int .i64 0) (.int .i64 0) (.slice aa 16 cc) (.bool true) := ⟨_, rfl⟩
          have hr5 := setR_at0 HRB.out (.int .i64 0) (.slice none 0 0) (.int .i64 0) (.int .i64 0) (.int .i64 0) (.slice aa 16 cc) (.bool true)
          have hF5 := (Frm.refl (fun b => b = w.heap.size + 1) wm).setR (R := w.heap.size + 1) (.inl rfl) (.int .i64 0) (.slice none 0 0) (.int .i64 0) (.int .i64 0) (.int .i64 0) (.slice aa 16 cc) (.bool true)
          rw [← hW5] at hr5 hF5
          unfold setR at hW5
          rw [← hW5]
          exact bodyPost_ret (ret_rep rfl _ _ (w.heap.size + 1) rfl hr5) rfl (pgD_fin HE.out HB2.out HP.out HR9.out hm (by rw [← HL.out]; exact HTK.out) (decide_eq_true (by rw [← HL.out]; exact HLN.out)) hF5)
        · have hm15 : m < 16 := by omega
          have hne16 : ¬ (m : Int) = 16 := by omega
          have HI9 := Lib.hid (Below.refl W3.heap.size W3).drew
          have hbl : bx < W3.heap.size ∧ R9 < W3.heap.size := ⟨(Array.getElem?_eq_some_iff.1 HK3.out).1, (Array.getElem?_eq_some_iff.1 HP.out.rb).1⟩
          have hnb : (Value.slice aa m cc).ownBlock ≠ some bx ∧ (Value.slice aa m cc).ownBlock ≠ some R9 := ⟨own_ne HP.out.own HK3.out (by decide), own_ne HP.out.own HP.out.rb (by decide)⟩
          go_upto_region 72 with fail
          rw [show ((m : Int) == 16) = false from beq_eq_false_iff_ne.2 hne16]
          clear d0 d1 d2 d3 e6 x5 x6 f5 f6 hne16
          refine wp_region_chain (by kernel_rfl) (by kernel_rfl) (by kernel_rfl) [7, 11, 12, 14] false (by kernel_rfl) (fun k u y => match k with
              | 0 => Below W3.heap.size W3 y
              | 1 => Below W3.heap.size W3 y ∧ True
              | 2 => Below W3.heap.size W3 y ∧ ∃ g, u 1 = .slice (some ⟨g, 0, none⟩) 1 1 ∧ VecAt ItemS y (some ⟨g, 0, none⟩) 1 1 [(⟨yk, yi, ((psum yps : Nat) : Int), yb⟩ : ItemV)]
              | 3 => ∃ WA, Below W3.heap.size W3 WA ∧ WA.grownBy y (Value.slice aa m cc).ownBlock ∧ ∃ aD cD, u 2 = .slice aD (m + 1) cD ∧ y.ownsRow W2.heap.size 54 4 (.slice aD (m + 1) cD) (m + 1) (ItemS.flat ((pageL (fun k => decide (id < k)) itemU (l.take i)) ++ [(⟨yk, yi, ((psum yps : Nat) : Int), yb⟩ : ItemV)]))
              | _ => ∃ aD cD, PgAt W2 y W2.heap.size R9 (.slice aD (m + 1) cD) (m + 1) ((pageL (fun k => decide (id < k)) itemU (l.take i)) ++ [(⟨yk, yi, ((psum yps : Nat) : Int), yb⟩ : ItemV)]) false) (fun y => y.heap[bx]? = W3.heap[bx]? ∧ y.heap[R9]? = W3.heap[R9]?) (fun j_9 => match j_9 with | 0 => some ((.pointer (some ⟨R9, 5, none⟩))) | 1 => some (.slice aa m cc) | 2 => some ((.pointer (some ⟨bx, 2, none⟩))) | 3 => some (.string yk) | 4 => some ((.pointer (some ⟨bx, 0, none⟩))) | 5 => some (.int .i64 yi) | 6 => some (.agg #[.int .i64 yi, .int .i64 yb, .string yk, .slice ya yn yc]) | 7 => some (.int .i64 ((psum yps : Nat) : Int)) | 8 => some ((.pointer (some ⟨bx, 1, none⟩))) | 9 => some (.int .i64 yb) | 10 => some (.agg #[.string yk, .int .i64 yi, .int .i64 ((psum yps : Nat) : Int), .int .i64 yb]) | 11 => none | 12 => none | 13 => some ((.pointer (some ⟨R9, 5, none⟩))) | 14 => none | _ => none) (by rfl) (fun u => HI9.out) (fun k u y hk9 _ hs => by
              have hk : k < 4 := hk9 rfl
              clear hk9
              match k, hk, hs with
              | 0, _, hs => exact ⟨hs.block bx hbl.1, hs.block R9 hbl.2⟩
              | 1, _, hs => exact ⟨hs.1.block bx hbl.1, hs.1.block R9 hbl.2⟩
              | 2, _, hs => exact ⟨hs.1.block bx hbl.1, hs.1.block R9 hbl.2⟩
              | 3, _, hs =>
                obtain ⟨WA, hbA, hgA, _⟩ := hs
                exact ⟨(hgA.block bx (Nat.lt_of_lt_of_le hbl.1 hbA.size) (fun e => hnb.1 e.symm)).trans (hbA.block bx hbl.1), (hgA.block R9 (Nat.lt_of_lt_of_le hbl.2 hbA.size) (fun e => hnb.2 e.symm)).trans (hbA.block R9 hbl.2)⟩) ?_ ?_ ?_
          · intro i9 o ho hc9 V w9 K hR9 hdep hK
            have HR9 := Lib.hid hR9
            simp only [fill, slotOf, List.size_toArray, List.length_cons, List.length_nil, Nat.reduceAdd, List.getElem?_toArray, List.getElem?_cons_zero, List.getElem?_cons_succ, Option.bind_some, Act.put, List.setIfInBounds_toArray, List.set_cons_zero, List.set_cons_succ] at hK ⊢
            have hin9 : i9 < 15 := (Array.getElem?_eq_some_iff.1 ho).1
            have hcs : i9 = 0 ∨ i9 = 1 ∨ i9 = 2 ∨ i9 = 3 ∨ i9 = 4 ∨ i9 = 5 ∨ i9 = 6 ∨ i9 = 7 ∨ i9 = 8 ∨ i9 = 9 ∨ i9 = 10 ∨ i9 = 11 ∨ i9 = 12 ∨ i9 = 13 ∨ i9 = 14 := by omega
            clear hin9
            rcases hcs with rfl | rfl | rfl | rfl | rfl | rfl | rfl | rfl | rfl | rfl | rfl | rfl | rfl | rfl | rfl
            · obtain rfl := Option.some.inj ho.symm
              clear hdep ho hR9 hc9
              try simp only [fill, slotOf, List.size_toArray, List.length_cons, List.length_nil, Nat.reduceAdd, List.getElem?_toArray, List.getElem?_cons_zero, List.getElem?_cons_succ, Option.bind_some, Act.put, List.setIfInBounds_toArray, List.set_cons_zero, List.set_cons_succ] at hK ⊢
              go_simp
              exact hK ((.pointer (some ⟨R9, 5, none⟩))) rfl _ rfl
            · obtain rfl := Option.some.inj ho.symm
              have d0 : V 0 = (.pointer (some ⟨R9, 5, none⟩)) := hdep ⟨0, .data⟩ (by simp) rfl _ rfl
              have u0 := cell_blkD (HR9.out.2.trans HP.out.rb) (i := 5) (u := .slice aa m cc) rfl
              clear hdep ho hR9 hc9
              try simp only [fill, slotOf, List.size_toArray, List.length_cons, List.length_nil, Nat.reduceAdd, List.getElem?_toArray, List.getElem?_cons_zero, List.getElem?_cons_succ, Option.bind_some, Act.put, List.setIfInBounds_toArray, List.set_cons_zero, List.set_cons_succ] at hK ⊢
              rw [d0] at hK ⊢
              go_simp
              exact hK (.slice aa m cc) rfl _ rfl
            · obtain rfl := Option.some.inj ho.symm
              clear hdep ho hR9 hc9
              try simp only [fill, slotOf, List.size_toArray, List.length_cons, List.length_nil, Nat.reduceAdd, List.getElem?_toArray, List.getElem?_cons_zero, List.getElem?_cons_succ, Option.bind_some, Act.put, List.setIfInBounds_toArray, List.set_cons_zero, List.set_cons_succ] at hK ⊢
              go_simp
              exact hK ((.pointer (some ⟨bx, 2, none⟩))) rfl _ rfl
            · obtain rfl := Option.some.inj ho.symm
              have d2 : V 2 = (.pointer (some ⟨bx, 2, none⟩)) := hdep ⟨2, .data⟩ (by simp) rfl _ rfl
              have u0 := cell_blkD (HR9.out.1.trans HK3.out) (i := 2) (u := .string yk) rfl
              clear hdep ho hR9 hc9
              try simp only [fill, slotOf, List.size_toArray, List.length_cons, List.length_nil, Nat.reduceAdd, List.getElem?_toArray, List.getElem?_cons_zero, List.getElem?_cons_succ, Option.bind_some, Act.put, List.setIfInBounds_toArray, List.set_cons_zero, List.set_cons_succ] at hK ⊢
              rw [d2] at hK ⊢
              go_simp
              exact hK (.string yk) rfl _ rfl
            · obtain rfl := Option.some.inj ho.symm
              clear hdep ho hR9 hc9
              try simp only [fill, slotOf, List.size_toArray, List.length_cons, List.length_nil, Nat.reduceAdd, List.getElem?_toArray, List.getElem?_cons_zero, List.getElem?_cons_succ, Option.bind_some, Act.put, List.setIfInBounds_toArray, List.set_cons_zero, List.set_cons_succ] at hK ⊢
              go_simp
              exact hK ((.pointer (some ⟨bx, 0, none⟩))) rfl _ rfl
            · obtain rfl := Option.some.inj ho.symm
              have d4 : V 4 = (.pointer (some ⟨bx, 0, none⟩)) := hdep ⟨4, .data⟩ (by simp) rfl _ rfl
              have u0 := cell_blkD (HR9.out.1.trans HK3.out) (i := 0) (u := .int .i64 yi) rfl
              clear hdep ho hR9 hc9
              try simp only [fill, slotOf, List.size_toArray, List.length_cons, List.length_nil, Nat.reduceAdd, List.getElem?_toArray, List.getElem?_cons_zero, List.getElem?_cons_succ, Option.bind_some, Act.put, List.setIfInBounds_toArray, List.set_cons_zero, List.set_cons_succ] at hK ⊢
              rw [d4] at hK ⊢
              go_simp
              exact hK (.int .i64 yi) rfl _ rfl
            · obtain rfl := Option.some.inj ho.symm
              have u0 := cell_blkD (HR9.out.1.trans HK3.out) (i := 0) (u := .int .i64 yi) rfl
              have u1 := cell_blkD (HR9.out.1.trans HK3.out) (i := 1) (u := .int .i64 yb) rfl
              have u2 := cell_blkD (HR9.out.1.trans HK3.out) (i := 2) (u := .string yk) rfl
              have u3 := cell_blkD (HR9.out.1.trans HK3.out) (i := 3) (u := .slice ya yn yc) rfl
              clear hdep ho hR9 hc9
              try simp only [fill, slotOf, List.size_toArray, List.length_cons, List.length_nil, Nat.reduceAdd, List.getElem?_toArray, List.getElem?_cons_zero, List.getElem?_cons_succ, Option.bind_some, Act.put, List.setIfInBounds_toArray, List.set_cons_zero, List.set_cons_succ] at hK ⊢
              go_simp
              exact hK (.agg #[.int .i64 yi, .int .i64 yb, .string yk, .slice ya yn yc]) rfl _ rfl
            · cases hc9
            · obtain rfl := Option.some.inj ho.symm
              clear hdep ho hR9 hc9
              try simp only [fill, slotOf, List.size_toArray, List.length_cons, List.length_nil, Nat.reduceAdd, List.getElem?_toArray, List.getElem?_cons_zero, List.getElem?_cons_succ, Option.bind_some, Act.put, List.setIfInBounds_toArray, List.set_cons_zero, List.set_cons_succ] at hK ⊢
              go_simp
              exact hK ((.pointer (some ⟨bx, 1, none⟩))) rfl _ rfl
            · obtain rfl := Option.some.inj ho.symm
              have d8 : V 8 = (.pointer (some ⟨bx, 1, none⟩)) := hdep ⟨8, .data⟩ (by simp) rfl _ rfl
              have u0 := cell_blkD (HR9.out.1.trans HK3.out) (i := 1) (u := .int .i64 yb) rfl
              clear hdep ho hR9 hc9
              try simp only [fill, slotOf, List.size_toArray, List.length_cons, List.length_nil, Nat.reduceAdd, List.getElem?_toArray, List.getElem?_cons_zero, List.getElem?_cons_succ, Option.bind_some, Act.put, List.setIfInBounds_toArray, List.set_cons_zero, List.set_cons_succ] at hK ⊢
              rw [d8] at hK ⊢
              go_simp
              exact hK (.int .i64 yb) rfl _ rfl
            · obtain rfl := Option.some.inj ho.symm
              have d3 : V 3 = .string yk := hdep ⟨3, .data⟩ (by simp) rfl _ rfl
              have d5 : V 5 = .int .i64 yi := hdep ⟨5, .data⟩ (by simp) rfl _ rfl
              have d7 : V 7 = .int .i64 ((psum yps : Nat) : Int) := hdep ⟨7, .data⟩ (by simp) rfl _ rfl
              have d9 : V 9 = .int .i64 yb := hdep ⟨9, .data⟩ (by simp) rfl _ rfl
              clear hdep ho hR9 hc9
              try simp only [fill, slotOf, List.size_toArray, List.length_cons, List.length_nil, Nat.reduceAdd, List.getElem?_toArray, List.getElem?_cons_zero, List.getElem?_cons_succ, Option.bind_some, Act.put, List.setIfInBounds_toArray, List.set_cons_zero, List.set_cons_succ] at hK ⊢
              rw [d3, d5, d7, d9] at hK ⊢
              go_simp
              exact hK (.agg #[.string yk, .int .i64 yi, .int .i64 ((psum yps : Nat) : Int), .int .i64 yb]) rfl _ rfl
            · cases hc9
            · cases hc9
            · obtain rfl := Option.some.inj ho.symm
              clear hdep ho hR9 hc9
              try simp only [fill, slotOf, List.size_toArray, List.length_cons, List.length_nil, Nat.reduceAdd, List.getElem?_toArray, List.getElem?_cons_zero, List.getElem?_cons_succ, Option.bind_some, Act.put, List.setIfInBounds_toArray, List.set_cons_zero, List.set_cons_succ] at hK ⊢
              go_simp
              exact hK ((.pointer (some ⟨R9, 5, none⟩))) rfl _ rfl
            · cases hc9
          · intro i9 j9 o he9 ho V w9 K hS9 hdep hK
            simp only [fill, slotOf, List.size_toArray, List.length_cons, List.length_nil, Nat.reduceAdd, List.getElem?_toArray, List.getElem?_cons_zero, List.getElem?_cons_succ, Option.bind_some, Act.put, List.setIfInBounds_toArray, List.set_cons_zero, List.set_cons_succ] at hK ⊢
            have hin9 : i9 < 4 := (List.getElem?_eq_some_iff.1 he9).1
            have hcs : i9 = 0 ∨ i9 = 1 ∨ i9 = 2 ∨ i9 = 3 := by omega
            clear hin9
            rcases hcs with rfl | rfl | rfl | rfl
            · obtain rfl := Option.some.inj he9.symm
              obtain rfl := Option.some.inj ho.symm
              have d6 : V 6 = .agg #[.int .i64 yi, .int .i64 yb, .string yk, .slice ya yn yc] := hdep ⟨6, .data⟩ (by simp) rfl _ rfl
              have hs : Below W3.heap.size W3 w9 := hS9
              have HSZ := Lib.hid (dsize1_any (w := w9) (parts := yps) ((VecAt.ofOwn HUO.out.row HUO.out.len (fun _ _ => trivial)).kept (HBW3.out.trans (hs.mono HBW3.out.size))) (fun p hp => (HUO.out.prt p hp).small) HUO.out.few yi yb yk)
              have HS9 := Lib.hid hs
              clear hdep ho he9 hS9 hs
              try simp only [fill, slotOf, List.size_toArray, List.length_cons, List.length_nil, Nat.reduceAdd, List.getElem?_toArray, List.getElem?_cons_zero, List.getElem?_cons_succ, Option.bind_some, Act.put, List.setIfInBounds_toArray, List.set_cons_zero, List.set_cons_succ] at hK ⊢
              rw [d6] at hK ⊢
              go_simp
              refine HSZ.out.mono ?_
              rintro e w8 ⟨rfl, hb8⟩
              exact hK _ w8 ⟨HS9.out.trans (hb8.mono HS9.out.size), trivial⟩ (fun y h => Option.some.inj h) _ rfl
            · obtain rfl := Option.some.inj he9.symm
              obtain rfl := Option.some.inj ho.symm
              have d10 : V 10 = .agg #[.string yk, .int .i64 yi, .int .i64 ((psum yps : Nat) : Int), .int .i64 yb] := hdep ⟨10, .data⟩ (by simp) rfl _ rfl
              have hs : Below W3.heap.size W3 w9 := hS9.1
              have HVA := Lib.hid (vec_oneS ItemS w9 (⟨yk, yi, ((psum yps : Nat) : Int), yb⟩ : ItemV) (fun _ => trivial) 54 (cs := #[.string yk, .int .i64 yi, .int .i64 ((psum yps : Nat) : Int), .int .i64 yb]) rfl)
              have HS9 := Lib.hid hs
              clear hdep ho he9 hS9 hs
              try simp only [fill, slotOf, List.size_toArray, List.length_cons, List.length_nil, Nat.reduceAdd, List.getElem?_toArray, List.getElem?_cons_zero, List.getElem?_cons_succ, Option.bind_some, Act.put, List.setIfInBounds_toArray, List.set_cons_zero, List.set_cons_succ] at hK ⊢
              rw [d10] at hK ⊢
              go_simp
              exact hK (.slice (some ⟨w9.heap.size, 0, none⟩) 1 1) _ ⟨HS9.out.alloc HS9.out.size _, _, rfl, HVA.out⟩ (fun y h => by cases h) _ rfl
            · obtain rfl := Option.some.inj he9.symm
              obtain rfl := Option.some.inj ho.symm
              have d1 : V 1 = .slice aa m cc := hdep ⟨1, .data⟩ (by simp) rfl _ rfl
              have hs : Below W3.heap.size W3 w9 ∧ ∃ g, V 11 = .slice (some ⟨g, 0, none⟩) 1 1 ∧ VecAt ItemS w9 (some ⟨g, 0, none⟩) 1 1 [(⟨yk, yi, ((psum yps : Nat) : Int), yb⟩ : ItemV)] := hS9
              obtain ⟨hb9, g9, e9, hv9⟩ := hs
              have hp9 := HP.out.below hb9
              clear hdep ho he9 hS9
              try simp only [fill, slotOf, List.size_toArray, List.length_cons, List.length_nil, Nat.reduceAdd, List.getElem?_toArray, List.getElem?_cons_zero, List.getElem?_cons_succ, Option.bind_some, Act.put, List.setIfInBounds_toArray, List.set_cons_zero, List.set_cons_succ] at hK ⊢
              refine step_append_itm (by first | rfl | kernel_rfl) (.tmp 349) (.tmp 359) rfl W2.heap.size (.slice aa m cc) m (pageL (fun k => decide (id < k)) itemU (l.take i)) (by exact d1) hp9.own (some ⟨g9, 0, none⟩) 1 1 [(⟨yk, yi, ((psum yps : Nat) : Int), yb⟩ : ItemV)] (by exact e9) hv9 (by omega) (Nat.le_trans HP.out.frm.size hb9.size) (fun v' w' h1 h2 => ?_)
              obtain ⟨aD, cD, rfl⟩ := own_sliceD h1
              exact hK _ w' ⟨w9, hb9, h2, aD, cD, rfl, h1⟩ (fun y h => by cases h) _ rfl
            · obtain rfl := Option.some.inj he9.symm
              obtain rfl := Option.some.inj ho.symm
              have d13 : V 13 = (.pointer (some ⟨R9, 5, none⟩)) := hdep ⟨13, .data⟩ (by simp) rfl _ rfl
              have hs : ∃ WA, Below W3.heap.size W3 WA ∧ WA.grownBy w9 (Value.slice aa m cc).ownBlock ∧ ∃ aD cD, V 12 = .slice aD (m + 1) cD ∧ w9.ownsRow W2.heap.size 54 4 (.slice aD (m + 1) cD) (m + 1) (ItemS.flat ((pageL (fun k => decide (id < k)) itemU (l.take i)) ++ [(⟨yk, yi, ((psum yps : Nat) : Int), yb⟩ : ItemV)])) := hS9
              obtain ⟨WA, hbA, hgA, aD, cD, e17, hoD⟩ := hs
              have hpA := HP.out.below hbA
              obtain ⟨hf8, hr8⟩ := PgAt.grow (v' := .slice aD (m + 1) cD) (m' := m + 1) (xs' := []) hpA (Nat.le_refl _) hgA
              have s5 := cell_blkD hr8 (i := 5) (u := .slice aa m cc) rfl
              have s5f := frz_blkD hr8 5
              have HPN := Lib.hid (PgAt.set (xs := (pageL (fun k => decide (id < k)) itemU (l.take i)) ++ [(⟨yk, yi, ((psum yps : Nat) : Int), yb⟩ : ItemV)]) hf8 hr8 hoD (by rw [List.length_append, HP.out.len]; rfl) (own_ne hoD hr8 (by decide)))
              clear hdep ho he9 hS9 hpA hbA hgA hoD hf8 hr8
              try simp only [fill, slotOf, List.size_toArray, List.length_cons, List.length_nil, Nat.reduceAdd, List.getElem?_toArray, List.getElem?_cons_zero, List.getElem?_cons_succ, Option.bind_some, Act.put, List.setIfInBounds_toArray, List.set_cons_zero, List.set_cons_succ] at hK ⊢
              rw [e17, d13] at hK ⊢
              go_simp
              exact hK undef _ ⟨_, _, HPN.out⟩ (fun y h => by cases h) _ rfl
          · intro V wN hS9 hv9
            have HS9 := Lib.hid (show ∃ aD cD, PgAt W2 wN W2.heap.size R9 (.slice aD (m + 1) cD) (m + 1) ((pageL (fun k => decide (id < k)) itemU (l.take i)) ++ [(⟨yk, yi, ((psum yps : Nat) : Int), yb⟩ : ItemV)]) false from hS9)
            clear hS9 hv9
            simp only [fill, slotOf, List.size_toArray, List.length_cons, List.length_nil, Nat.reduceAdd, List.getElem?_toArray, List.getElem?_cons_zero, List.getElem?_cons_succ, Option.bind_some, Act.put, List.setIfInBounds_toArray, List.set_cons_zero, List.set_cons_succ]
            obtain ⟨a8, c8, hpn⟩ := HS9.out
            have HPN := Lib.hid (show PgAt W2 wN W2.heap.size R9 (.slice a8 (m + 1) c8) (m + 1) (pageL (fun k => decide (id < k)) itemU (l.take (i + 1))) false from by rw [HSU2.out]; exact hpn)
            clear hpn HS9
            go_wp2_with fail
            go_roundw
            case rel => exact ⟨i + 1, m + 1, c8, a8, by omega, by omega, by push_cast; rfl, HPN⟩
            case measure => simp only [intOf]; omega
      · have HSU2 := Lib.hid (show pageL (fun k => decide (id < k)) itemU (l.take (i + 1)) = pageL (fun k => decide (id < k)) itemU (l.take i) from by rw [HSU.out, if_neg (by simpa using hid), List.append_nil])
        go_wp2_with fail
        go_roundw
        case rel => exact ⟨i + 1, m, cc, aa, by omega, hm, by push_cast; rfl, Lib.hid (by rw [HSU2.out]; exact HP.out)⟩
        case measure => simp only [intOf]; omega
    · have e : i = m9 := by omega
      have hx9 : pageL (fun k => decide (id < k)) itemU (l.take i) = pageL (fun k => decide (id < k)) itemU l := by rw [e, ← HLL.out, List.take_length]
      rw [hx9] at HP
      have HLN := Lib.hid (show ¬ 16 < (pageL (fun k => decide (id < k)) itemU l).length from by rw [HP.out.len]; omega)
      have HTK := Lib.hid (show (pageL (fun k => decide (id < k)) itemU l).take 16 = pageL (fun k => decide (id < k)) itemU l from List.take_of_length_le (by rw [HP.out.len]; omega))
      clear hx9
      go_upto_region 74 with fail
      have HB1 := Lib.hid (HB2.out.trans (HP.out.frm.toBelow HB2.out.size (fun i e => by rw [e]; exact HR9.out)))
      have HRB := Lib.hid (cells_of_below HB1.out HE.out.rb)
      have x0 := cell_blkD HP.out.rb (i := 0) (u := .int .i64 0) rfl
      have x1 := cell_blkD HP.out.rb (i := 1) (u := .slice none 0 0) rfl
      have x2 := cell_blkD HP.out.rb (i := 2) (u := .int .i64 0) rfl
      have x3 := cell_blkD HP.out.rb (i := 3) (u := .int .i64 0) rfl
      have x4 := cell_blkD HP.out.rb (i := 4) (u := .int .i64 0) rfl
      have x5 := cell_blkD HP.out.rb (i := 5) (u := .slice aa m cc) rfl
      have x6 := cell_blkD HP.out.rb (i := 6) (u := .bool false) rfl
      obtain ⟨⟨q0, q1, q2, q3, q4, q5, q6⟩, r0, r1, r2, r3, r4, r5, r6⟩ := rb_cells HRB.out
      go_wp2_with fail
      clear x0 x1 x2 x3 x4 x5 x6 q0 q1 q2 q3 q4 q5 q6 r0 r1 r2 r3 r4 r5 r6
      obtain ⟨W5, hW5⟩ : ∃ W5, W5 = setR wr (w.heap.size + 1) (.int .i64 0) (.slice none 0 0) (.int .i64 0) (.int .i64 0) (.int .i64 0) (.slice aa m cc) (.bool false) := ⟨_, rfl⟩
      have hr5 := setR_at0 HRB.out (.int .i64 0) (.slice none 0 0) (.int .i64 0) (.int .i64 0) (.int .i64 0) (.slice aa m cc) (.bool false)
      have hF5 := (Frm.refl (fun b => b = w.heap.size + 1) wr).setR (R := w.heap.size + 1) (.inl rfl) (.int .i64 0) (.slice none 0 0) (.int .i64 0) (.int .i64 0) (.int .i64 0) (.slice aa m cc) (.bool false)
      rw [← hW5] at hr5 hF5
      unfold setR at hW5
      rw [← hW5]
      exact bodyPost_ret (ret_rep rfl _ _ (w.heap.size + 1) rfl hr5) rfl (pgD_fin HE.out HB2.out HP.out HR9.out hm (by rw [← HL.out]; exact HTK.out) (decide_eq_false (by rw [← HL.out]; exact HLN.out)) hF5)
end Go.Proofs.YtjafagfhkpaciaaGreat
end PkSP7_0
section PkSP7_1
/- Calls of both stores that only look: get, range, list, opened. -/
namespace Go.Proofs.YtjafagfhkpaciaaGreat
open Go.RowKit
set_option linter.unusedVariables false

theorem Unf.frm {w w' : World} {g n R : Nat} (h : Unf w g n) (hf : Frm (fun b => b = R) w w') (hR : g ≠ R) : Unf w' g n := by
  obtain ⟨cs, fr, hg, hn⟩ := h
  exact ⟨cs, fr, hf.at hg hR, hn⟩
section
variable {base base' : Nat} {W : World} {s S : Nat} {σ : Sto} {δ : DSto} {vr at_ nn id : Int} {ky : ByteArray} {a : Option Addr} {n c : Nat} {xs : List Nat} {Mo Mu : Nat}
theorem doGet2 (h : SAt W s Mo Mu σ) (hk : ky.size ≤ 1000000000000000) (hok : OkS σ) {a : Option Addr} {n c : Nat} :
    Calls Tryz.prog 11 #[.pointer (some ⟨s, 0, none⟩), .agg #[.int .i64 3, .string ky, .slice a n c, .int .i64 vr, .int .i64 at_, .int .i64 nn, .int .i64 id]] W fun e w' => Frm (StF s Mo Mu σ) W w' ∧ StAt w' s Mo Mu σ ∧ match objOf σ ky with
      | none => e = .returned (rep0 7)
      | some o => ∃ g c, e = .returned (rep 0 (.slice (some ⟨g, 0, none⟩) o.data.size c) o.ver o.born 0 (.slice none 0 0) false) ∧ W.heap.size ≤ g ∧ BytesAt w' (some ⟨g, 0, none⟩) o.data.size c (numsOf o.data) ∧ Unf w' g o.data.size := by
  refine (do_3 h (Q := fun W0 e w1 => GetSays W0 s Mo Mu σ ky e w1) (fun W0 h0 hF hz => (get_any h0 hk (hok.old ky)).mono fun e w1 hq => ⟨?_, hq, ?_⟩)).mono fun e w5 ho => ?_
  · unfold GetSays at hq
    cases hg : objOf σ ky with
    | none => rw [hg] at hq; rw [hq.1]; exact rep0_shape _
    | some o => rw [hg] at hq; obtain ⟨g, c, he, _⟩ := hq; rw [he]; exact rep_shape _ _ _ _ _ _ _ _ _ _ _
  · unfold GetSays at hq
    cases hg : objOf σ ky with
    | none => rw [hg] at hq; exact Frm.ofBelow hq.2.2
    | some o => rw [hg] at hq; obtain ⟨g, c, he, _, _, _, hb, _⟩ := hq; exact Frm.ofBelow hb
  · obtain ⟨W0, w1, h1, h2, h3, hq, h5, h6⟩ := ho
    refine ⟨out_frm h2 h5 h6, ?_⟩
    unfold GetSays at hq
    cases hg : objOf σ ky with
    | none =>
      rw [hg] at hq
      exact ⟨out_st h h3 hq.2.1 (fun b hb => .inl hb) h6, hq.1⟩
    | some o =>
      rw [hg] at hq
      obtain ⟨g, c, he, hgg, hby, hst, hb, hun⟩ := hq
      exact ⟨out_st h h3 hst (fun b hb => .inl hb) h6, g, c, he, by omega, bytes_frm hby h6 (fun b off e _ => by cases e; omega), hun.frm h6 (by omega)⟩
theorem doPiece2 (h : SAt W s Mo Mu σ) (hk : ky.size ≤ 1000000000000000) (hok : OkS σ) {a : Option Addr} {n c : Nat} :
    Calls Tryz.prog 11 #[.pointer (some ⟨s, 0, none⟩), .agg #[.int .i64 4, .string ky, .slice a n c, .int .i64 vr, .int .i64 at_, .int .i64 nn, .int .i64 id]] W fun e w' => Frm (StF s Mo Mu σ) W w' ∧ StAt w' s Mo Mu σ ∧ (pieE σ ky at_ nn ≠ 0 → e = .returned (rep0 (pieE σ ky at_ nn))) ∧
      (pieE σ ky at_ nn = 0 → ∃ o g m c, objOf σ ky = some o ∧ e = .returned (rep 0 (.slice (some ⟨g, 0, none⟩) m c) o.ver o.born 0 (.slice none 0 0) false) ∧ W.heap.size ≤ g ∧ (m : Int) = nn ∧ BytesAt w' (some ⟨g, 0, none⟩) m c (numsOf (subP o at_ nn)) ∧ Unf w' g m) := by
  refine (do_4 h (Q := fun W0 e w1 => PieSays W0 s Mo Mu σ ky at_ nn e w1) (fun W0 h0 hF hz => (piece_any h0 hk (hok.old ky)).mono fun e w1 hq => ⟨?_, hq, Frm.ofBelow hq.2.1⟩)).mono fun e w5 ho => ?_
  · rcases Classical.em (pieE σ ky at_ nn = 0) with g | g
    · obtain ⟨o, g, m, c, _, he, _⟩ := hq.2.2.2 g; rw [he]; exact rep_shape _ _ _ _ _ _ _ _ _ _ _
    · rw [hq.2.2.1 g]; exact rep0_shape _
  · obtain ⟨W0, w1, g1, g2, g3, hq, g5, g6⟩ := ho
    refine ⟨out_frm g2 g5 g6, out_st h g3 hq.1 (fun b hb => .inl hb) g6, hq.2.2.1, fun e0 => ?_⟩
    obtain ⟨o, g, m, c, ho, he, hgg, hm, hby, hun⟩ := hq.2.2.2 e0
    exact ⟨o, g, m, c, ho, he, by omega, hm, bytes_frm hby g6 (fun b off e _ => by cases e; omega), hun.frm g6 (by omega)⟩
theorem nums_extract {d : List Nat} (hd : ∀ x ∈ d, x < 256) (i m : Nat) : numsOf ((bs d).extract i (i + m)) = (d.drop i).take m := by
  have h1 := nums_bs hd
  unfold numsOf at h1 ⊢
  rw [ByteArray.data_extract, Array.toList_extract, List.extract_eq_take_drop, List.map_take, List.map_drop, h1]
  congr 1
  omega
theorem sim_get (h : Both base base' W s σ δ) {a1 : Option Addr} {c1 : Nat} (hk : ky.size ≤ 1000000000000000) :
    Calls Tryz.prog 11 #[.pointer (some ⟨s, 0, none⟩), .agg #[.int .i64 3, .string ky, .slice a1 n c1, .int .i64 vr, .int .i64 at_, .int .i64 nn, .int .i64 id]] W (SimD base W s S base' σ δ #[.int .i64 3, .string ky, .slice a n c, .int .i64 vr, .int .i64 at_, .int .i64 nn, .int .i64 id] a n c xs) := by
  obtain ⟨Mo, Mu, hs, hF⟩ := h.st.sat h.hb
  refine (doGet2 hs hk (h.inv.ok h.v h.i)).mono fun e W' ⟨hf, hst, hq⟩ => ?_
  rw [h.tie.obj ky] at hq
  cases ho : δ.objs.findIdx? (fun o => decide (o.key = ky)) with
  | none =>
    have hn : objD δ ky = none := by unfold objD; rw [ho]
    rw [hn] at hq
    exact sim_err h.st h.hb hs hF h.inv h.tie hq hst hf (fun W1 g1 g2 g3 => (ddo_3 g1).mono fun e2 W2 hr => by unfold Do3 at hr; rw [ho] at hr; exact hr)
  | some j =>
    obtain ⟨o, hu, _, _⟩ := find_at ho
    have hn : objD δ ky = some o := by unfold objD; rw [ho]; exact hu
    rw [hn] at hq
    obtain ⟨g, c9, he, hg, hby, hun⟩ := hq
    have hok := h.ok.obj o (objD_mem hn).1
    have e1 : ((oP o).2).data.size = o.dn := by show (bs o.data).size = _; rw [bs_sizeS]; exact hok.1
    have e2 : numsOf ((oP o).2).data = o.data := nums_bs hok.2
    rw [e1] at he hun
    rw [e1, e2] at hby
    exact ⟨0, _, _, 0, false, o.dn, o.data, [], σ, pres_mk h.st h.hb hs hF hst hf (fun b hb => .inl hb) ⟨_, ⟨c9, none, 0, he, hby, VecAt.empty _ _ _ (by omega) (fun _ => rfl), (fun k off s e => by cases e), Nat.zero_le _⟩, fun _ => ⟨g, rfl, hg, hun⟩⟩, h.inv, rfl, by omega, by omega,
      fun W1 g1 g2 g3 => (ddo_3 g1).mono fun e2 W2 hr => by
        unfold Do3 at hr
        rw [ho] at hr
        obtain ⟨da, dc, he2, hb2, hst2, hf2⟩ := hr o hu
        exact ⟨δ, ⟨⟨da, dc, none, 0, he2, hb2, VecAt.empty _ _ _ (by omega) (fun _ => rfl), (fun k off s e => by cases e), Nat.zero_le _⟩, hst2, hf2, fun k hk => .inl hk⟩, h.tie⟩⟩
theorem sim_piece (h : Both base base' W s σ δ) {a1 : Option Addr} {c1 : Nat} (hk : ky.size ≤ 1000000000000000) :
    Calls Tryz.prog 11 #[.pointer (some ⟨s, 0, none⟩), .agg #[.int .i64 4, .string ky, .slice a1 n c1, .int .i64 vr, .int .i64 at_, .int .i64 nn, .int .i64 id]] W (SimD base W s S base' σ δ #[.int .i64 4, .string ky, .slice a n c, .int .i64 vr, .int .i64 at_, .int .i64 nn, .int .i64 id] a n c xs) := by
  obtain ⟨Mo, Mu, hs, hF⟩ := h.st.sat h.hb
  refine (doPiece2 hs hk (h.inv.ok h.v h.i)).mono fun e W' ⟨hf, hst, h1, h2⟩ => ?_
  cases ho : δ.objs.findIdx? (fun o => decide (o.key = ky)) with
  | none =>
    have hn : objD δ ky = none := by unfold objD; rw [ho]
    have hp : pieE σ ky at_ nn = 7 := by unfold pieE; rw [h.tie.obj ky, hn]; rfl
    have he := h1 (by rw [hp]; decide)
    rw [hp] at he
    exact sim_err h.st h.hb hs hF h.inv h.tie he hst hf (fun W1 g1 g2 g3 => (ddo_4 g1).mono fun e2 W2 hr => by unfold Do4 at hr; rw [ho] at hr; exact hr)
  | some j =>
    obtain ⟨o, hu, _, _⟩ := find_at ho
    have hn : objD δ ky = some o := by unfold objD; rw [ho]; exact hu
    have hok := h.ok.obj o (objD_mem hn).1
    have e1 : ((oP o).2).data.size = o.dn := by show (bs o.data).size = _; rw [bs_sizeS]; exact hok.1
    have hp : pieE σ ky at_ nn = pieDE o.dn at_ nn := by
      unfold pieE pieDE
      rw [h.tie.obj ky, hn]
      show (if at_ < 0 ∨ nn < 0 ∨ (((oP o).2).data.size : Int) < at_ ∨ (((oP o).2).data.size : Int) - at_ < nn then (2 : Int) else 0) = _
      rw [e1]
    rcases Classical.em (pieDE o.dn at_ nn = 0) with g | g
    · obtain ⟨o', g9, m, c9, ho', he, hg, hm, hby, hun⟩ := h2 (by rw [hp]; exact g)
      rw [h.tie.obj ky, hn] at ho'
      obtain rfl : (oP o).2 = o' := Option.some.inj ho'
      have hat : 0 ≤ at_ ∧ 0 ≤ nn := by
        unfold pieDE at g
        by_cases hc : at_ < 0 ∨ nn < 0 ∨ (o.dn : Int) < at_ ∨ (o.dn : Int) - at_ < nn
        · rw [if_pos hc] at g; cases g
        · omega
      have hmn : m = nn.toNat := by omega
      have e2 : numsOf (subP (oP o).2 at_ nn) = (o.data.drop at_.toNat).take nn.toNat := by
        unfold subP
        rw [show (at_ + nn).toNat = at_.toNat + nn.toNat from by omega]
        exact nums_extract hok.2 _ _
      rw [e2] at hby
      subst hmn
      exact ⟨0, _, _, 0, false, nn.toNat, _, [], σ, pres_mk h.st h.hb hs hF hst hf (fun b hb => .inl hb) ⟨_, ⟨c9, none, 0, he, hby, VecAt.empty _ _ _ (by omega) (fun _ => rfl), (fun k off s e => by cases e), Nat.zero_le _⟩, fun _ => ⟨g9, rfl, hg, hun⟩⟩, h.inv, rfl, by omega, by omega,
        fun W1 g1 g2 g3 => (ddo_4 g1).mono fun e2 W2 hr => by
          unfold Do4 at hr
          rw [ho] at hr
          obtain ⟨da, dc, he2, hb2, hst2, hf2⟩ := (hr o hu).2 g
          exact ⟨δ, ⟨⟨da, dc, none, 0, he2, hb2, VecAt.empty _ _ _ (by omega) (fun _ => rfl), (fun k off s e => by cases e), Nat.zero_le _⟩, hst2, hf2, fun k hk => .inl hk⟩, h.tie⟩⟩
    · have hp2 : pieDE o.dn at_ nn = 2 := by
        unfold pieDE at g ⊢
        split at g
        · rename_i hc; rw [if_pos hc]
        · exact absurd rfl g
      have he := h1 (by rw [hp]; exact g)
      rw [hp, hp2] at he
      exact sim_err h.st h.hb hs hF h.inv h.tie he hst hf (fun W1 g1 g2 g3 => (ddo_4 g1).mono fun e2 W2 hr => by unfold Do4 at hr; rw [ho] at hr; exact (hr o hu).1 g)
theorem page_own {w1 w5 : World} {B R n c : Nat} {a : Option Addr} {its : List ItemV} (ho : w1.ownsRow B 54 4 (.slice a n c) n (ItemS.flat its)) (hR : R < B) (h6 : Frm (fun b => b = R) w1 w5) : n = its.length ∧ VecAt ItemS w5 a its.length c its := by
  have hl : n = its.length := by
    have h1 := ho.1
    rw [ItemS.flat_len] at h1
    have : ItemS.K = 4 := rfl
    rw [this] at h1
    omega
  subst hl
  exact ⟨rfl, VecAt.ofOwn (S := ItemS) (own_same ho fun b hb => h6.block b (own_blk_lt ho hb).2 (fun e => by have := (own_blk_lt ho hb).1; omega)) rfl (fun _ _ => trivial)⟩
theorem filt_key {κ α β : Type} {P : κ → Bool} {f : κ × α → ItemV} {g : κ × β → ItemV} {l : List (κ × α)} {r : List (κ × β)} (h : l.map (fun p => (p.1, f p)) = r.map (fun q => (q.1, g q))) : pageL P f l = pageL P g r := by
  have e : ∀ {δ : Type} (k : κ × δ → ItemV) (m : List (κ × δ)), pageL P k m = ((m.map fun p => (p.1, k p)).filter fun q => P q.1).map (·.2) := fun k m => by
    unfold pageL
    rw [List.filter_map, List.map_map]
    rfl
  rw [e, e, h]
theorem sim_lst {L : List ItemV} (h : Both base base' W s σ δ) {cs1 : Array Value} (hs : SAt W s Mo Mu σ) (hF : ∀ b, StF s Mo Mu σ b → base ≤ b) (hc : Calls Tryz.prog 11 #[.pointer (some ⟨s, 0, none⟩), .agg cs1] W (LstD W s Mo Mu σ L)) {cs : Array Value}
    (href : ∀ W1, DStAt W1 S base' δ → BytesAt W1 a n c xs → base' ≤ W1.heap.size → Calls Tryz.prog 13 #[.pointer (some ⟨S, 0, none⟩), .agg cs] W1 (LstDo W1 S base' δ L)) :
    Calls Tryz.prog 11 #[.pointer (some ⟨s, 0, none⟩), .agg cs1] W (SimD base W s S base' σ δ cs a n c xs) := by
  refine hc.mono fun e W' ⟨W0, w1, g2, g3, ⟨hst, _, la, ln, lc, he, ho, hn⟩, g5, g6⟩ => ?_
  obtain ⟨hl, hv⟩ := page_own ho (by omega) g6
  have hlo : ∀ k off s, la = some ⟨k, off, s⟩ → W.heap.size ≤ k := fun k off s e => by have := (own_blk_lt ho (b := k) (by rw [e]; rfl)).1; omega
  subst hl
  refine ⟨0, 0, 0, 0, _, 0, [], L.take 16, σ, pres_mk h.st h.hb hs hF (out_st hs g3 hst (fun b hb => .inl hb) g6) (out_frm g2 g5 g6) (fun b hb => .inl hb) ⟨none, ⟨0, la, lc, he, BytesAt.empty _ _ _ (by omega) (fun _ => rfl), hv, hlo, by rw [List.length_take]; omega⟩, fun g => by omega⟩, h.inv, rfl, by omega, by omega, fun W1 q1 q2 q3 => (href W1 q1 q2 q3).mono fun e2 W2 ⟨la2, n2, lc2, he2, hv2, _, hst2, hf2⟩ => ⟨δ, ⟨⟨none, 0, la2, lc2, ?_, BytesAt.empty _ _ _ (by omega) (fun _ => rfl), by rw [hv2.len]; exact hv2, (fun _ _ _ _ => Nat.zero_le _), by rw [List.length_take]; omega⟩, hst2, hf2, fun k hk => .inl hk⟩, h.tie⟩⟩
  rw [he2, hv2.len]
theorem sim_list (h : Both base base' W s σ δ) {a1 : Option Addr} {c1 : Nat} (hx : BytesAt W a1 n c1 xs) (hk : ky.size ≤ 1000000000000000) :
    Calls Tryz.prog 11 #[.pointer (some ⟨s, 0, none⟩), .agg #[.int .i64 5, .string ky, .slice a1 n c1, .int .i64 vr, .int .i64 at_, .int .i64 nn, .int .i64 id]] W (SimD base W s S base' σ δ #[.int .i64 5, .string ky, .slice a n c, .int .i64 vr, .int .i64 at_, .int .i64 nn, .int .i64 id] a n c xs) := by
  obtain ⟨Mo, Mu, hs, hF⟩ := h.st.sat h.hb
  have hL : pageL (wantK ky (bs xs)) (fun p => itemO p.1 p.2) σ.objs = pageL (wantK ky (bs xs)) itemD (objsK δ.objs) := by
    refine filt_key (P := wantK ky (bs xs)) ?_
    rw [h.tie.objs]
    unfold objsK
    rw [List.map_map, List.map_map]
    apply List.map_congr_left
    intro o ho
    show (o.key, itemO o.key (oP o).2) = (o.key, itemD (o.key, o))
    unfold itemO itemD
    rw [show ((oP o).2).data.size = o.dn from by show (bs o.data).size = _; rw [bs_sizeS]; exact (h.ok.obj o ho).1]
    rfl
  have hc := doList (vr := vr) (at_ := at_) (nn := nn) (id := id) (ky := ky) hs h.inv hx
  rw [hL] at hc
  exact sim_lst h hs hF hc (fun W1 g1 g2 g3 => ddo_5 g1 g2 hk (h.tie.keys h.inv))
theorem sim_opened (h : Both base base' W s σ δ) {a1 : Option Addr} {c1 : Nat} :
    Calls Tryz.prog 11 #[.pointer (some ⟨s, 0, none⟩), .agg #[.int .i64 11, .string ky, .slice a1 n c1, .int .i64 vr, .int .i64 at_, .int .i64 nn, .int .i64 id]] W (SimD base W s S base' σ δ #[.int .i64 11, .string ky, .slice a n c, .int .i64 vr, .int .i64 at_, .int .i64 nn, .int .i64 id] a n c xs) := by
  obtain ⟨Mo, Mu, hs, hF⟩ := h.st.sat h.hb
  have hL : pageL (fun k => decide (id < k)) (fun p => (⟨p.2.key, p.1, ((psz p.2.parts : Nat) : Int), p.2.born⟩ : ItemV)) σ.ups = pageL (fun k => decide (id < k)) itemU (upsK δ.ups) := by
    refine filt_key (P := fun k => decide (id < k)) ?_
    apply List.ext_getElem?
    intro i
    unfold upsK
    rw [List.getElem?_map, List.getElem?_map, List.getElem?_map]
    cases hp : σ.ups[i]? with
    | none =>
      rw [List.getElem?_eq_none_iff, h.tie.ulen, ← List.getElem?_eq_none_iff] at hp
      rw [hp]; rfl
    | some p =>
      have hl : i < δ.ups.length := by rw [← h.tie.ulen]; exact (List.getElem?_eq_some_iff.1 hp).1
      obtain ⟨u, hu⟩ : ∃ u, δ.ups[i]? = some u := ⟨_, List.getElem?_eq_getElem hl⟩
      rw [hu]
      have hut := h.tie.upl i p u hp hu
      show some (p.1, (⟨p.2.key, p.1, ((psz p.2.parts : Nat) : Int), p.2.born⟩ : ItemV)) = some (u.id, itemU (u.id, u))
      unfold itemU
      rw [hut.id, hut.key, hut.born, hut.psz (fun x hx => (h.ok.prt u (List.mem_of_getElem? hu) x hx).1)]
  have hc := doOpened (vr := vr) (at_ := at_) (nn := nn) (id := id) (ky := ky) (a := a1) (n := n) (c := c1) hs h.inv h.i
  rw [hL] at hc
  exact sim_lst h hs hF hc (fun W1 g1 g2 g3 => ddo_11 g1)
end
end Go.Proofs.YtjafagfhkpaciaaGreat
end PkSP7_1
section PkSP7_2
/- The document's Do: no kind. Written by gensddo.py. -/
namespace Go.Proofs.YtjafagfhkpaciaaGreat
open Go.RowKit
set_option linter.unusedVariables false
set_option linter.unusedSimpArgs false

set_option maxRecDepth 100000 in
set_option maxHeartbeats 16000000 in
theorem ddo_no {w : World} {S base : Nat} {σ : DSto} (h : DStAt w S base σ) {ki vr at_ nn id : Int} {ky : ByteArray} {a : Option Addr} {n c : Nat} (hki : ¬ (1 ≤ ki ∧ ki ≤ 11)) :
    Calls Tryz.prog 13 #[.pointer (some ⟨S, 0, none⟩), .agg #[.int .i64 ki, .string ky, .slice a n c, .int .i64 vr, .int .i64 at_, .int .i64 nn, .int .i64 id]] w (NoD w S base σ 1) := by
  have HE := Lib.hid (dent_mk h #[.int .i64 ki, .string ky, .slice a n c, .int .i64 vr, .int .i64 at_, .int .i64 nn, .int .i64 id])
  have hSl : S < w.heap.size := (Array.getElem?_eq_some_iff.1 h.blk).1
  clear h
  go_enter Tryz.func13, Tryz.ntmps13
  go_upto_region 1 with fail
  obtain ⟨W0, hW0⟩ : ∃ W0, W0 = (w.alloc (.cells #[.int .i64 ki, .string ky, .slice a n c, .int .i64 vr, .int .i64 at_, .int .i64 nn, .int .i64 id] 34)).alloc (.cells zrep 43) := ⟨_, rfl⟩
  rw [← hW0] at HE
  unfold zrep at hW0
  rw [← hW0]
  clear hW0
  obtain ⟨ai, hai⟩ : ∃ ai, ai = atK σ.objs ky := ⟨_, rfl⟩
  obtain ⟨oi, hoi⟩ : ∃ oi, oi = openK σ.ups id := ⟨_, rfl⟩
  have HAT := Lib.hid (fun k => dat_any (HE.out.st.drewN k) ky)
  have HOP := Lib.hid (fun k => dopen_any (HE.out.st.drewN k) id)
  rw [← hai] at HAT
  rw [← hoi] at HOP
  have k1 := cell_blkD HE.out.cb (i := 1) (u := .string ky) rfl
  have k6 := cell_blkD HE.out.cb (i := 6) (u := .int .i64 id) rfl
  go_quiet ((first | (go_at_call 26; exact Calls.quiet_of_same (HAT.out _)) | (go_at_call 27; exact Calls.quiet_of_same (HOP.out _))))
  rename Nat => nq
  clear k1 k6 HAT HOP
  have HE1 := Lib.hid (HE.out.drewN nq)
  obtain ⟨W1, hW1⟩ : ∃ W1, W1 = W0.drewN nq := ⟨_, rfl⟩
  rw [← hW1] at HE1
  rw [← hW1]
  clear HE hW1
  have HE := HE1
  clear HE1
  have hz0 := HE.out.sz
  have hk0 : w.heap.size < W1.heap.size := by omega
  have hr0 : w.heap.size + 1 < W1.heap.size := by omega
  have hS0 : S < W1.heap.size := by omega
  have HZ0 := Lib.hid hz0
  clear hz0
  have HR0 := Lib.hid (Below.refl W1.heap.size W1)
  have k0 := cell_blkD HE.out.cb (i := 0) (u := .int .i64 ki) rfl
  have HAI := Lib.hid hai
  have HOI := Lib.hid hoi
  clear hai hoi
  have e1 : (ki == 1) = false := beq_eq_false_iff_ne.2 (fun e => hki (by omega))
  have e2 : (ki == 2) = false := beq_eq_false_iff_ne.2 (fun e => hki (by omega))
  have e3 : (ki == 3) = false := beq_eq_false_iff_ne.2 (fun e => hki (by omega))
  have e4 : (ki == 4) = false := beq_eq_false_iff_ne.2 (fun e => hki (by omega))
  have e5 : (ki == 5) = false := beq_eq_false_iff_ne.2 (fun e => hki (by omega))
  have e6 : (ki == 6) = false := beq_eq_false_iff_ne.2 (fun e => hki (by omega))
  have e7 : (ki == 7) = false := beq_eq_false_iff_ne.2 (fun e => hki (by omega))
  have e8 : (ki == 8) = false := beq_eq_false_iff_ne.2 (fun e => hki (by omega))
  have e9 : (ki == 9) = false := beq_eq_false_iff_ne.2 (fun e => hki (by omega))
  have e10 : (ki == 10) = false := beq_eq_false_iff_ne.2 (fun e => hki (by omega))
  have e11 : (ki == 11) = false := beq_eq_false_iff_ne.2 (fun e => hki (by omega))
  go_wp2_with fail
  refine (dbad_any 1 W1).mono ?_
  rintro e wE ⟨rfl, hbE⟩
  unfold repA
  have hbe := HR0.out.trans (hbE.mono HR0.out.size)
  have HRB := Lib.hid ((hbe.block (w.heap.size + 1) hr0).trans HE.out.rb)
  have HST := Lib.hid (HE.out.st.below hbe)
  have HFR := Lib.hid (show Frm (DF S σ) w wE from Frm.ofBelow (HE.out.bel.trans (hbe.mono HE.out.bel.size)))
  obtain ⟨⟨q0, q1, q2, q3, q4, q5, q6⟩, r0, r1, r2, r3, r4, r5, r6⟩ := rb_cells HRB.out
  clear hbE hbe
  go_wp2_with fail
  clear q0 q1 q2 q3 q4 q5 q6 r0 r1 r2 r3 r4 r5 r6
  obtain ⟨W5, hW5⟩ : ∃ W5, W5 = setR wE (w.heap.size + 1) (.int .i64 1) (.slice none 0 0) (.int .i64 0) (.int .i64 0) (.int .i64 0) (.slice none 0 0) (.bool false) := ⟨_, rfl⟩
  have hr5 := setR_at0 HRB.out (.int .i64 1) (.slice none 0 0) (.int .i64 0) (.int .i64 0) (.int .i64 0) (.slice none 0 0) (.bool false)
  have hF5 := (Frm.refl (fun b => b = w.heap.size + 1) wE).setR (R := w.heap.size + 1) (.inl rfl) (.int .i64 1) (.slice none 0 0) (.int .i64 0) (.int .i64 0) (.int .i64 0) (.slice none 0 0) (.bool false)
  rw [← hW5] at hr5 hF5
  unfold setR at hW5
  rw [← hW5]
  have hfin := put_done HST.out HRB.out (Nat.le_succ _) HFR.out hF5
  exact bodyPost_ret (ret_rep rfl _ _ (w.heap.size + 1) rfl hr5) rfl ⟨rfl, hfin⟩
end Go.Proofs.YtjafagfhkpaciaaGreat
end PkSP7_2
section PkSP7_3
/- The document's Do: part, complete, abort. Written by gensddo.py. -/
namespace Go.Proofs.YtjafagfhkpaciaaGreat
open Go.RowKit
set_option linter.unusedVariables false
set_option linter.unusedSimpArgs false

set_option maxRecDepth 100000 in
set_option maxHeartbeats 16000000 in
theorem ddo_8 {w : World} {S base : Nat} {σ : DSto} (h : DStAt w S base σ) {vr at_ nn id : Int} {ky : ByteArray} {a : Option Addr} {n c : Nat} {xs : List Nat} (hx : BytesAt w a n c xs) (hbs : base ≤ w.heap.size) (hfew : ∀ j u, σ.ups.findIdx? (fun u => decide (u.id = id)) = some j → σ.ups[j]? = some u → 1 ≤ nn → nn ≤ 32 → (prtF u.parts nn).length < 32) :
    Calls Tryz.prog 13 #[.pointer (some ⟨S, 0, none⟩), .agg #[.int .i64 8, .string ky, .slice a n c, .int .i64 vr, .int .i64 at_, .int .i64 nn, .int .i64 id]] w (Do8 w S base σ id nn n xs) := by
  have HE := Lib.hid (dent_mk h #[.int .i64 8, .string ky, .slice a n c, .int .i64 vr, .int .i64 at_, .int .i64 nn, .int .i64 id])
  have hSl : S < w.heap.size := (Array.getElem?_eq_some_iff.1 h.blk).1
  clear h
  go_enter Tryz.func13, Tryz.ntmps13
  go_upto_region 1 with fail
  obtain ⟨W0, hW0⟩ : ∃ W0, W0 = (w.alloc (.cells #[.int .i64 8, .string ky, .slice a n c, .int .i64 vr, .int .i64 at_, .int .i64 nn, .int .i64 id] 34)).alloc (.cells zrep 43) := ⟨_, rfl⟩
  rw [← hW0] at HE
  unfold zrep at hW0
  rw [← hW0]
  clear hW0
  obtain ⟨ai, hai⟩ : ∃ ai, ai = atK σ.objs ky := ⟨_, rfl⟩
  obtain ⟨oi, hoi⟩ : ∃ oi, oi = openK σ.ups id := ⟨_, rfl⟩
  have HAT := Lib.hid (fun k => dat_any (HE.out.st.drewN k) ky)
  have HOP := Lib.hid (fun k => dopen_any (HE.out.st.drewN k) id)
  rw [← hai] at HAT
  rw [← hoi] at HOP
  have k1 := cell_blkD HE.out.cb (i := 1) (u := .string ky) rfl
  have k6 := cell_blkD HE.out.cb (i := 6) (u := .int .i64 id) rfl
  go_quiet ((first | (go_at_call 26; exact Calls.quiet_of_same (HAT.out _)) | (go_at_call 27; exact Calls.quiet_of_same (HOP.out _))))
  rename Nat => nq
  clear k1 k6 HAT HOP
  have HE1 := Lib.hid (HE.out.drewN nq)
  obtain ⟨W1, hW1⟩ : ∃ W1, W1 = W0.drewN nq := ⟨_, rfl⟩
  rw [← hW1] at HE1
  rw [← hW1]
  clear HE hW1
  have HE := HE1
  clear HE1
  have hz0 := HE.out.sz
  have hk0 : w.heap.size < W1.heap.size := by omega
  have hr0 : w.heap.size + 1 < W1.heap.size := by omega
  have hS0 : S < W1.heap.size := by omega
  have HZ0 := Lib.hid hz0
  clear hz0
  have HR0 := Lib.hid (Below.refl W1.heap.size W1)
  have k0 := cell_blkD HE.out.cb (i := 0) (u := .int .i64 8) rfl
  have HAI := Lib.hid hai
  have HOI := Lib.hid hoi
  clear hai hoi
  rcases openK_neg (l := σ.ups) (k := id) with ⟨ho1, ho2⟩ | ⟨jo, ho1, ho2⟩
  · have hoi := HOI.out
    rw [ho1] at hoi
    clear HOI
    subst hoi
    have HNO := Lib.hid (show ∀ e w', NoD w S base σ 7 e w' → Do8 w S base σ id nn n xs e w' from fun e w' h => by unfold Do8; rw [ho2]; exact h)
    clear ho1 ho2
    go_wp2_with fail
    refine (dbad_any 7 W1).mono ?_
    rintro e wE ⟨rfl, hbE⟩
    unfold repA
    have hbe := HR0.out.trans (hbE.mono HR0.out.size)
    have HRB := Lib.hid ((hbe.block (w.heap.size + 1) hr0).trans HE.out.rb)
    have HST := Lib.hid (HE.out.st.below hbe)
    have HFR := Lib.hid (show Frm (DF S σ) w wE from Frm.ofBelow (HE.out.bel.trans (hbe.mono HE.out.bel.size)))
    obtain ⟨⟨q0, q1, q2, q3, q4, q5, q6⟩, r0, r1, r2, r3, r4, r5, r6⟩ := rb_cells HRB.out
    clear hbE hbe
    go_wp2_with fail
    clear q0 q1 q2 q3 q4 q5 q6 r0 r1 r2 r3 r4 r5 r6
    obtain ⟨W5, hW5⟩ : ∃ W5, W5 = setR wE (w.heap.size + 1) (.int .i64 7) (.slice none 0 0) (.int .i64 0) (.int .i64 0) (.int .i64 0) (.slice none 0 0) (.bool false) := ⟨_, rfl⟩
    have hr5 := setR_at0 HRB.out (.int .i64 7) (.slice none 0 0) (.int .i64 0) (.int .i64 0) (.int .i64 0) (.slice none 0 0) (.bool false)
    have hF5 := (Frm.refl (fun b => b = w.heap.size + 1) wE).setR (R := w.heap.size + 1) (.inl rfl) (.int .i64 7) (.slice none 0 0) (.int .i64 0) (.int .i64 0) (.int .i64 0) (.slice none 0 0) (.bool false)
    rw [← hW5] at hr5 hF5
    unfold setR at hW5
    rw [← hW5]
    have hfin := put_done HST.out HRB.out (Nat.le_succ _) HFR.out hF5
    exact bodyPost_ret (ret_rep rfl _ _ (w.heap.size + 1) rfl hr5) rfl (HNO.out _ _ ⟨rfl, hfin⟩)
  · have hoi := HOI.out
    rw [ho1] at hoi
    clear HOI
    subst hoi
    obtain ⟨u, hu, _, hul⟩ := find_at ho2
    have HO2 := Lib.hid ho2
    have HU := Lib.hid hu
    have zjo : ¬ (jo : Int) < 0 := by omega
    clear ho1 ho2 hu
    have k1 := cell_blkD HE.out.cb (i := 1) (u := .string ky) rfl
    have k2 := cell_blkD HE.out.cb (i := 2) (u := .slice a n c) rfl
    have k3 := cell_blkD HE.out.cb (i := 3) (u := .int .i64 vr) rfl
    have k4 := cell_blkD HE.out.cb (i := 4) (u := .int .i64 at_) rfl
    have k5 := cell_blkD HE.out.cb (i := 5) (u := .int .i64 nn) rfl
    have k6 := cell_blkD HE.out.cb (i := 6) (u := .int .i64 id) rfl
    have HP := Lib.hid (dpart_any (ki := 8) (ky := ky) (vr := vr) (at_ := at_) (nn := nn) (id := id) HE.out.st HU.out (hx.kept HE.out.bel) (Nat.le_trans hbs HE.out.bel.size) (hfew jo u HO2.out HU.out))
    go_wp2_with fail
    refine HP.out.mono ?_
    rintro e w1 hq
    obtain ⟨er, rfl⟩ := hq.shape
    have HQ := Lib.hid hq
    have HRB := Lib.hid (rb_kept HE.out.st HE.out.rb hq.1)
    obtain ⟨⟨q0, q1, q2, q3, q4, q5, q6⟩, r0, r1, r2, r3, r4, r5, r6⟩ := rb_cells HRB.out
    clear hq k0 k1 k2 k3 k4 k5 k6
    unfold rep0
    go_wp2_with fail
    clear q0 q1 q2 q3 q4 q5 q6 r0 r1 r2 r3 r4 r5 r6
    obtain ⟨W5, hW5⟩ : ∃ W5, W5 = setR w1 (w.heap.size + 1) (.int .i64 er) (.slice none 0 0) (.int .i64 0) (.int .i64 0) (.int .i64 0) (.slice none 0 0) (.bool false) := ⟨_, rfl⟩
    have hr5 := setR_at0 HRB.out (.int .i64 er) (.slice none 0 0) (.int .i64 0) (.int .i64 0) (.int .i64 0) (.slice none 0 0) (.bool false)
    have hF5 := (Frm.refl (fun b => b = w.heap.size + 1) w1).setR (R := w.heap.size + 1) (.inl rfl) (.int .i64 er) (.slice none 0 0) (.int .i64 0) (.int .i64 0) (.int .i64 0) (.slice none 0 0) (.bool false)
    rw [← hW5] at hr5 hF5
    unfold setR at hW5
    rw [← hW5]
    exact bodyPost_ret (ret_rep rfl _ _ (w.heap.size + 1) rfl hr5) rfl (by
      unfold Do8
      rw [HO2.out]
      intro u' hu'
      rw [HU.out] at hu'
      cases hu'
      exact HQ.out.out HE.out.bel HE.out.st HE.out.rb (Nat.le_succ _) hF5)
set_option maxRecDepth 100000 in
set_option maxHeartbeats 16000000 in
theorem ddo_9 {w : World} {S base : Nat} {σ : DSto} (h : DStAt w S base σ) {vr at_ nn id : Int} {ky : ByteArray} {a : Option Addr} {n c : Nat} (hbs : base ≤ w.heap.size) (hver : 0 ≤ σ.ver ∧ σ.ver ≤ 1000000000) :
    Calls Tryz.prog 13 #[.pointer (some ⟨S, 0, none⟩), .agg #[.int .i64 9, .string ky, .slice a n c, .int .i64 vr, .int .i64 at_, .int .i64 nn, .int .i64 id]] w (Do9 w S base σ id nn) := by
  have HE := Lib.hid (dent_mk h #[.int .i64 9, .string ky, .slice a n c, .int .i64 vr, .int .i64 at_, .int .i64 nn, .int .i64 id])
  have hSl : S < w.heap.size := (Array.getElem?_eq_some_iff.1 h.blk).1
  clear h
  go_enter Tryz.func13, Tryz.ntmps13
  go_upto_region 1 with fail
  obtain ⟨W0, hW0⟩ : ∃ W0, W0 = (w.alloc (.cells #[.int .i64 9, .string ky, .slice a n c, .int .i64 vr, .int .i64 at_, .int .i64 nn, .int .i64 id] 34)).alloc (.cells zrep 43) := ⟨_, rfl⟩
  rw [← hW0] at HE
  unfold zrep at hW0
  rw [← hW0]
  clear hW0
  obtain ⟨ai, hai⟩ : ∃ ai, ai = atK σ.objs ky := ⟨_, rfl⟩
  obtain ⟨oi, hoi⟩ : ∃ oi, oi = openK σ.ups id := ⟨_, rfl⟩
  have HAT := Lib.hid (fun k => dat_any (HE.out.st.drewN k) ky)
  have HOP := Lib.hid (fun k => dopen_any (HE.out.st.drewN k) id)
  rw [← hai] at HAT
  rw [← hoi] at HOP
  have k1 := cell_blkD HE.out.cb (i := 1) (u := .string ky) rfl
  have k6 := cell_blkD HE.out.cb (i := 6) (u := .int .i64 id) rfl
  go_quiet ((first | (go_at_call 26; exact Calls.quiet_of_same (HAT.out _)) | (go_at_call 27; exact Calls.quiet_of_same (HOP.out _))))
  rename Nat => nq
  clear k1 k6 HAT HOP
  have HE1 := Lib.hid (HE.out.drewN nq)
  obtain ⟨W1, hW1⟩ : ∃ W1, W1 = W0.drewN nq := ⟨_, rfl⟩
  rw [← hW1] at HE1
  rw [← hW1]
  clear HE hW1
  have HE := HE1
  clear HE1
  have hz0 := HE.out.sz
  have hk0 : w.heap.size < W1.heap.size := by omega
  have hr0 : w.heap.size + 1 < W1.heap.size := by omega
  have hS0 : S < W1.heap.size := by omega
  have HZ0 := Lib.hid hz0
  clear hz0
  have HR0 := Lib.hid (Below.refl W1.heap.size W1)
  have k0 := cell_blkD HE.out.cb (i := 0) (u := .int .i64 9) rfl
  have HAI := Lib.hid hai
  have HOI := Lib.hid hoi
  clear hai hoi
  rcases openK_neg (l := σ.ups) (k := id) with ⟨ho1, ho2⟩ | ⟨jo, ho1, ho2⟩
  · have hoi := HOI.out
    rw [ho1] at hoi
    clear HOI
    subst hoi
    have HNO := Lib.hid (show ∀ e w', NoD w S base σ 7 e w' → Do9 w S base σ id nn e w' from fun e w' h => by unfold Do9; rw [ho2]; exact h)
    clear ho1 ho2
    go_wp2_with fail
    refine (dbad_any 7 W1).mono ?_
    rintro e wE ⟨rfl, hbE⟩
    unfold repA
    have hbe := HR0.out.trans (hbE.mono HR0.out.size)
    have HRB := Lib.hid ((hbe.block (w.heap.size + 1) hr0).trans HE.out.rb)
    have HST := Lib.hid (HE.out.st.below hbe)
    have HFR := Lib.hid (show Frm (DF S σ) w wE from Frm.ofBelow (HE.out.bel.trans (hbe.mono HE.out.bel.size)))
    obtain ⟨⟨q0, q1, q2, q3, q4, q5, q6⟩, r0, r1, r2, r3, r4, r5, r6⟩ := rb_cells HRB.out
    clear hbE hbe
    go_wp2_with fail
    clear q0 q1 q2 q3 q4 q5 q6 r0 r1 r2 r3 r4 r5 r6
    obtain ⟨W5, hW5⟩ : ∃ W5, W5 = setR wE (w.heap.size + 1) (.int .i64 7) (.slice none 0 0) (.int .i64 0) (.int .i64 0) (.int .i64 0) (.slice none 0 0) (.bool false) := ⟨_, rfl⟩
    have hr5 := setR_at0 HRB.out (.int .i64 7) (.slice none 0 0) (.int .i64 0) (.int .i64 0) (.int .i64 0) (.slice none 0 0) (.bool false)
    have hF5 := (Frm.refl (fun b => b = w.heap.size + 1) wE).setR (R := w.heap.size + 1) (.inl rfl) (.int .i64 7) (.slice none 0 0) (.int .i64 0) (.int .i64 0) (.int .i64 0) (.slice none 0 0) (.bool false)
    rw [← hW5] at hr5 hF5
    unfold setR at hW5
    rw [← hW5]
    have hfin := put_done HST.out HRB.out (Nat.le_succ _) HFR.out hF5
    exact bodyPost_ret (ret_rep rfl _ _ (w.heap.size + 1) rfl hr5) rfl (HNO.out _ _ ⟨rfl, hfin⟩)
  · have hoi := HOI.out
    rw [ho1] at hoi
    clear HOI
    subst hoi
    obtain ⟨u, hu, _, hul⟩ := find_at ho2
    have HO2 := Lib.hid ho2
    have HU := Lib.hid hu
    have zjo : ¬ (jo : Int) < 0 := by omega
    clear ho1 ho2 hu
    have k1 := cell_blkD HE.out.cb (i := 1) (u := .string ky) rfl
    have k2 := cell_blkD HE.out.cb (i := 2) (u := .slice a n c) rfl
    have k3 := cell_blkD HE.out.cb (i := 3) (u := .int .i64 vr) rfl
    have k4 := cell_blkD HE.out.cb (i := 4) (u := .int .i64 at_) rfl
    have k5 := cell_blkD HE.out.cb (i := 5) (u := .int .i64 nn) rfl
    have k6 := cell_blkD HE.out.cb (i := 6) (u := .int .i64 id) rfl
    have HP := Lib.hid (dcom_any (ki := 9) (ky := ky) (vr := vr) (at_ := at_) (nn := nn) (id := id) (a := a) (n := n) (c := c) HE.out.st HU.out (Nat.le_trans hbs HE.out.bel.size) hver)
    go_wp2_with fail
    refine HP.out.mono ?_
    rintro e w1 hq
    obtain ⟨er, v9, b9, rfl⟩ := hq.shape
    have HQ := Lib.hid hq
    have HRB := Lib.hid (rb_kept HE.out.st HE.out.rb hq.1)
    obtain ⟨⟨q0, q1, q2, q3, q4, q5, q6⟩, r0, r1, r2, r3, r4, r5, r6⟩ := rb_cells HRB.out
    clear hq k0 k1 k2 k3 k4 k5 k6
    unfold rep
    go_wp2_with fail
    clear q0 q1 q2 q3 q4 q5 q6 r0 r1 r2 r3 r4 r5 r6
    obtain ⟨W5, hW5⟩ : ∃ W5, W5 = setR w1 (w.heap.size + 1) (.int .i64 er) (.slice none 0 0) (.int .i64 v9) (.int .i64 b9) (.int .i64 0) (.slice none 0 0) (.bool false) := ⟨_, rfl⟩
    have hr5 := setR_at0 HRB.out (.int .i64 er) (.slice none 0 0) (.int .i64 v9) (.int .i64 b9) (.int .i64 0) (.slice none 0 0) (.bool false)
    have hF5 := (Frm.refl (fun b => b = w.heap.size + 1) w1).setR (R := w.heap.size + 1) (.inl rfl) (.int .i64 er) (.slice none 0 0) (.int .i64 v9) (.int .i64 b9) (.int .i64 0) (.slice none 0 0) (.bool false)
    rw [← hW5] at hr5 hF5
    unfold setR at hW5
    rw [← hW5]
    exact bodyPost_ret (ret_rep rfl _ _ (w.heap.size + 1) rfl hr5) rfl (by
      unfold Do9
      rw [HO2.out]
      intro u' hu'
      rw [HU.out] at hu'
      cases hu'
      exact HQ.out.out HE.out.bel HE.out.st HE.out.rb (Nat.le_succ _) hF5)
set_option maxRecDepth 100000 in
set_option maxHeartbeats 16000000 in
theorem ddo_10 {w : World} {S base : Nat} {σ : DSto} (h : DStAt w S base σ) {vr at_ nn id : Int} {ky : ByteArray} {a : Option Addr} {n c : Nat} (hbs : base ≤ w.heap.size) :
    Calls Tryz.prog 13 #[.pointer (some ⟨S, 0, none⟩), .agg #[.int .i64 10, .string ky, .slice a n c, .int .i64 vr, .int .i64 at_, .int .i64 nn, .int .i64 id]] w (Do10 w S base σ id) := by
  have HE := Lib.hid (dent_mk h #[.int .i64 10, .string ky, .slice a n c, .int .i64 vr, .int .i64 at_, .int .i64 nn, .int .i64 id])
  have hSl : S < w.heap.size := (Array.getElem?_eq_some_iff.1 h.blk).1
  clear h
  go_enter Tryz.func13, Tryz.ntmps13
  go_upto_region 1 with fail
  obtain ⟨W0, hW0⟩ : ∃ W0, W0 = (w.alloc (.cells #[.int .i64 10, .string ky, .slice a n c, .int .i64 vr, .int .i64 at_, .int .i64 nn, .int .i64 id] 34)).alloc (.cells zrep 43) := ⟨_, rfl⟩
  rw [← hW0] at HE
  unfold zrep at hW0
  rw [← hW0]
  clear hW0
  obtain ⟨ai, hai⟩ : ∃ ai, ai = atK σ.objs ky := ⟨_, rfl⟩
  obtain ⟨oi, hoi⟩ : ∃ oi, oi = openK σ.ups id := ⟨_, rfl⟩
  have HAT := Lib.hid (fun k => dat_any (HE.out.st.drewN k) ky)
  have HOP := Lib.hid (fun k => dopen_any (HE.out.st.drewN k) id)
  rw [← hai] at HAT
  rw [← hoi] at HOP
  have k1 := cell_blkD HE.out.cb (i := 1) (u := .string ky) rfl
  have k6 := cell_blkD HE.out.cb (i := 6) (u := .int .i64 id) rfl
  go_quiet ((first | (go_at_call 26; exact Calls.quiet_of_same (HAT.out _)) | (go_at_call 27; exact Calls.quiet_of_same (HOP.out _))))
  rename Nat => nq
  clear k1 k6 HAT HOP
  have HE1 := Lib.hid (HE.out.drewN nq)
  obtain ⟨W1, hW1⟩ : ∃ W1, W1 = W0.drewN nq := ⟨_, rfl⟩
  rw [← hW1] at HE1
  rw [← hW1]
  clear HE hW1
  have HE := HE1
  clear HE1
  have hz0 := HE.out.sz
  have hk0 : w.heap.size < W1.heap.size := by omega
  have hr0 : w.heap.size + 1 < W1.heap.size := by omega
  have hS0 : S < W1.heap.size := by omega
  have HZ0 := Lib.hid hz0
  clear hz0
  have HR0 := Lib.hid (Below.refl W1.heap.size W1)
  have k0 := cell_blkD HE.out.cb (i := 0) (u := .int .i64 10) rfl
  have HAI := Lib.hid hai
  have HOI := Lib.hid hoi
  clear hai hoi
  rcases openK_neg (l := σ.ups) (k := id) with ⟨ho1, ho2⟩ | ⟨jo, ho1, ho2⟩
  · have hoi := HOI.out
    rw [ho1] at hoi
    clear HOI
    subst hoi
    have HNO := Lib.hid (show ∀ e w', NoD w S base σ 7 e w' → Do10 w S base σ id e w' from fun e w' h => by unfold Do10; rw [ho2]; exact h)
    clear ho1 ho2
    go_wp2_with fail
    refine (dbad_any 7 W1).mono ?_
    rintro e wE ⟨rfl, hbE⟩
    unfold repA
    have hbe := HR0.out.trans (hbE.mono HR0.out.size)
    have HRB := Lib.hid ((hbe.block (w.heap.size + 1) hr0).trans HE.out.rb)
    have HST := Lib.hid (HE.out.st.below hbe)
    have HFR := Lib.hid (show Frm (DF S σ) w wE from Frm.ofBelow (HE.out.bel.trans (hbe.mono HE.out.bel.size)))
    obtain ⟨⟨q0, q1, q2, q3, q4, q5, q6⟩, r0, r1, r2, r3, r4, r5, r6⟩ := rb_cells HRB.out
    clear hbE hbe
    go_wp2_with fail
    clear q0 q1 q2 q3 q4 q5 q6 r0 r1 r2 r3 r4 r5 r6
    obtain ⟨W5, hW5⟩ : ∃ W5, W5 = setR wE (w.heap.size + 1) (.int .i64 7) (.slice none 0 0) (.int .i64 0) (.int .i64 0) (.int .i64 0) (.slice none 0 0) (.bool false) := ⟨_, rfl⟩
    have hr5 := setR_at0 HRB.out (.int .i64 7) (.slice none 0 0) (.int .i64 0) (.int .i64 0) (.int .i64 0) (.slice none 0 0) (.bool false)
    have hF5 := (Frm.refl (fun b => b = w.heap.size + 1) wE).setR (R := w.heap.size + 1) (.inl rfl) (.int .i64 7) (.slice none 0 0) (.int .i64 0) (.int .i64 0) (.int .i64 0) (.slice none 0 0) (.bool false)
    rw [← hW5] at hr5 hF5
    unfold setR at hW5
    rw [← hW5]
    have hfin := put_done HST.out HRB.out (Nat.le_succ _) HFR.out hF5
    exact bodyPost_ret (ret_rep rfl _ _ (w.heap.size + 1) rfl hr5) rfl (HNO.out _ _ ⟨rfl, hfin⟩)
  · have hoi := HOI.out
    rw [ho1] at hoi
    clear HOI
    subst hoi
    obtain ⟨u, hu, _, hul⟩ := find_at ho2
    have HO2 := Lib.hid ho2
    have HU := Lib.hid hu
    have zjo : ¬ (jo : Int) < 0 := by omega
    clear ho1 ho2 hu
    have HP := Lib.hid (ddrop_any HE.out.st hul (Nat.le_trans hbs HE.out.bel.size))
    go_wp2_with fail
    refine HP.out.mono ?_
    rintro e w1 ⟨rfl, ⟨ua', uc', hdst⟩, hgd⟩
    have hf1 : Frm (DF S σ) W1 w1 := ⟨hgd.os, hgd.tape, hgd.output, hgd.size, fun b hb hf => hgd.block b hb (fun e => hf (.inl (Option.some.inj e)))⟩
    have HRB := Lib.hid (rb_kept HE.out.st HE.out.rb hf1)
    have HF1 := Lib.hid hf1
    have HST := Lib.hid hdst
    obtain ⟨⟨q0, q1, q2, q3, q4, q5, q6⟩, r0, r1, r2, r3, r4, r5, r6⟩ := rb_cells HRB.out
    clear hdst hgd hf1
    go_wp2_with fail
    clear q0 q1 q2 q3 q4 q5 q6 r0 r1 r2 r3 r4 r5 r6
    obtain ⟨W5, hW5⟩ : ∃ W5, W5 = setR w1 (w.heap.size + 1) (.int .i64 0) (.slice none 0 0) (.int .i64 0) (.int .i64 0) (.int .i64 0) (.slice none 0 0) (.bool false) := ⟨_, rfl⟩
    have hr5 := setR_at0 HRB.out (.int .i64 0) (.slice none 0 0) (.int .i64 0) (.int .i64 0) (.int .i64 0) (.slice none 0 0) (.bool false)
    have hF5 := (Frm.refl (fun b => b = w.heap.size + 1) w1).setR (R := w.heap.size + 1) (.inl rfl) (.int .i64 0) (.slice none 0 0) (.int .i64 0) (.int .i64 0) (.int .i64 0) (.slice none 0 0) (.bool false)
    rw [← hW5] at hr5 hF5
    unfold setR at hW5
    rw [← hW5]
    have hfin := done9 HE.out.bel HE.out.st HE.out.rb (Nat.le_succ _) HF1.out HST.out hF5
    exact bodyPost_ret (ret_rep rfl _ _ (w.heap.size + 1) rfl hr5) rfl (by
      unfold Do10
      rw [HO2.out]
      exact ⟨rfl, ⟨ua', uc', hfin.1⟩, hfin.2⟩)
end Go.Proofs.YtjafagfhkpaciaaGreat
end PkSP7_3
section PkSP7_4
/- The document's Do: create. Written by gensddo.py. -/
namespace Go.Proofs.YtjafagfhkpaciaaGreat
open Go.RowKit
set_option linter.unusedVariables false
set_option linter.unusedSimpArgs false

set_option maxRecDepth 100000 in
set_option maxHeartbeats 16000000 in
theorem ddo_7 {w : World} {S base : Nat} {σ : DSto} (h : DStAt w S base σ) {vr at_ nn id : Int} {ky : ByteArray} {a : Option Addr} {n c : Nat} (hbs : base ≤ w.heap.size) (hidb : 0 ≤ σ.id ∧ σ.id ≤ 1000000000) :
    Calls Tryz.prog 13 #[.pointer (some ⟨S, 0, none⟩), .agg #[.int .i64 7, .string ky, .slice a n c, .int .i64 vr, .int .i64 at_, .int .i64 nn, .int .i64 id]] w (Do7 w S base σ ky) := by
  have HE := Lib.hid (dent_mk h #[.int .i64 7, .string ky, .slice a n c, .int .i64 vr, .int .i64 at_, .int .i64 nn, .int .i64 id])
  have hSl : S < w.heap.size := (Array.getElem?_eq_some_iff.1 h.blk).1
  clear h
  go_enter Tryz.func13, Tryz.ntmps13
  go_upto_region 1 with fail
  obtain ⟨W0, hW0⟩ : ∃ W0, W0 = (w.alloc (.cells #[.int .i64 7, .string ky, .slice a n c, .int .i64 vr, .int .i64 at_, .int .i64 nn, .int .i64 id] 34)).alloc (.cells zrep 43) := ⟨_, rfl⟩
  rw [← hW0] at HE
  unfold zrep at hW0
  rw [← hW0]
  clear hW0
  obtain ⟨ai, hai⟩ : ∃ ai, ai = atK σ.objs ky := ⟨_, rfl⟩
  obtain ⟨oi, hoi⟩ : ∃ oi, oi = openK σ.ups id := ⟨_, rfl⟩
  have HAT := Lib.hid (fun k => dat_any (HE.out.st.drewN k) ky)
  have HOP := Lib.hid (fun k => dopen_any (HE.out.st.drewN k) id)
  rw [← hai] at HAT
  rw [← hoi] at HOP
  have k1 := cell_blkD HE.out.cb (i := 1) (u := .string ky) rfl
  have k6 := cell_blkD HE.out.cb (i := 6) (u := .int .i64 id) rfl
  go_quiet ((first | (go_at_call 26; exact Calls.quiet_of_same (HAT.out _)) | (go_at_call 27; exact Calls.quiet_of_same (HOP.out _))))
  rename Nat => nq
  clear k1 k6 HAT HOP
  have HE1 := Lib.hid (HE.out.drewN nq)
  obtain ⟨W1, hW1⟩ : ∃ W1, W1 = W0.drewN nq := ⟨_, rfl⟩
  rw [← hW1] at HE1
  rw [← hW1]
  clear HE hW1
  have HE := HE1
  clear HE1
  have hz0 := HE.out.sz
  have hk0 : w.heap.size < W1.heap.size := by omega
  have hr0 : w.heap.size + 1 < W1.heap.size := by omega
  have hS0 : S < W1.heap.size := by omega
  have HZ0 := Lib.hid hz0
  clear hz0
  have HR0 := Lib.hid (Below.refl W1.heap.size W1)
  have k0 := cell_blkD HE.out.cb (i := 0) (u := .int .i64 7) rfl
  have HAI := Lib.hid hai
  have HOI := Lib.hid hoi
  clear hai hoi
  by_cases hkey : isKeyB ky = false
  case pos =>
    have k1 := cell_blkD HE.out.cb (i := 1) (u := .string ky) rfl
    go_wp2_with fail
    refine (dkey_any ky W1).mono ?_
    rintro e wk ⟨rfl, rfl⟩
    rw [hkey]
    go_wp2_with fail
    refine (dbad_any 1 wk).mono ?_
    rintro e wE ⟨rfl, hbE⟩
    unfold repA
    have hbe := HR0.out.trans (hbE.mono HR0.out.size)
    have HRB := Lib.hid ((hbe.block (w.heap.size + 1) hr0).trans HE.out.rb)
    have HST := Lib.hid (HE.out.st.below hbe)
    have HFR := Lib.hid (show Frm (DF S σ) w wE from Frm.ofBelow (HE.out.bel.trans (hbe.mono HE.out.bel.size)))
    obtain ⟨⟨q0, q1, q2, q3, q4, q5, q6⟩, r0, r1, r2, r3, r4, r5, r6⟩ := rb_cells HRB.out
    clear hbE hbe
    go_wp2_with fail
    clear q0 q1 q2 q3 q4 q5 q6 r0 r1 r2 r3 r4 r5 r6
    obtain ⟨W5, hW5⟩ : ∃ W5, W5 = setR wE (w.heap.size + 1) (.int .i64 1) (.slice none 0 0) (.int .i64 0) (.int .i64 0) (.int .i64 0) (.slice none 0 0) (.bool false) := ⟨_, rfl⟩
    have hr5 := setR_at0 HRB.out (.int .i64 1) (.slice none 0 0) (.int .i64 0) (.int .i64 0) (.int .i64 0) (.slice none 0 0) (.bool false)
    have hF5 := (Frm.refl (fun b => b = w.heap.size + 1) wE).setR (R := w.heap.size + 1) (.inl rfl) (.int .i64 1) (.slice none 0 0) (.int .i64 0) (.int .i64 0) (.int .i64 0) (.slice none 0 0) (.bool false)
    rw [← hW5] at hr5 hF5
    unfold setR at hW5
    rw [← hW5]
    have hfin := put_done HST.out HRB.out (Nat.le_succ _) HFR.out hF5
    exact bodyPost_ret (ret_rep rfl _ _ (w.heap.size + 1) rfl hr5) rfl ⟨fun _ => ⟨rfl, hfin⟩, fun e0 => absurd hkey (by rw [e0]; decide), fun e0 => absurd hkey (by rw [e0]; decide)⟩
  have hkey' : isKeyB ky = true := by simpa using hkey
  have k1 := cell_blkD HE.out.cb (i := 1) (u := .string ky) rfl
  have c1 := cell_blkD HE.out.st.blk (i := 1) (u := .slice σ.ua σ.ups.length σ.uc) rfl
  have huf := HE.out.st.uf
  by_cases hful : 512 ≤ σ.ups.length
  case pos =>
    have hful' : (512 : Int) ≤ (σ.ups.length : Int) := by omega
    go_wp2_with fail
    refine (dkey_any ky W1).mono ?_
    rintro e wk ⟨rfl, rfl⟩
    rw [hkey']
    go_wp2_with fail
    refine (dbad_any 9 wk).mono ?_
    rintro e wE ⟨rfl, hbE⟩
    unfold repA
    have hbe := HR0.out.trans (hbE.mono HR0.out.size)
    have HRB := Lib.hid ((hbe.block (w.heap.size + 1) hr0).trans HE.out.rb)
    have HST := Lib.hid (HE.out.st.below hbe)
    have HFR := Lib.hid (show Frm (DF S σ) w wE from Frm.ofBelow (HE.out.bel.trans (hbe.mono HE.out.bel.size)))
    obtain ⟨⟨q0, q1, q2, q3, q4, q5, q6⟩, r0, r1, r2, r3, r4, r5, r6⟩ := rb_cells HRB.out
    clear hbE hbe
    go_wp2_with fail
    clear q0 q1 q2 q3 q4 q5 q6 r0 r1 r2 r3 r4 r5 r6
    obtain ⟨W5, hW5⟩ : ∃ W5, W5 = setR wE (w.heap.size + 1) (.int .i64 9) (.slice none 0 0) (.int .i64 0) (.int .i64 0) (.int .i64 0) (.slice none 0 0) (.bool false) := ⟨_, rfl⟩
    have hr5 := setR_at0 HRB.out (.int .i64 9) (.slice none 0 0) (.int .i64 0) (.int .i64 0) (.int .i64 0) (.slice none 0 0) (.bool false)
    have hF5 := (Frm.refl (fun b => b = w.heap.size + 1) wE).setR (R := w.heap.size + 1) (.inl rfl) (.int .i64 9) (.slice none 0 0) (.int .i64 0) (.int .i64 0) (.int .i64 0) (.slice none 0 0) (.bool false)
    rw [← hW5] at hr5 hF5
    unfold setR at hW5
    rw [← hW5]
    have hfin := put_done HST.out HRB.out (Nat.le_succ _) HFR.out hF5
    exact bodyPost_ret (ret_rep rfl _ _ (w.heap.size + 1) rfl hr5) rfl ⟨fun e0 => absurd e0 hkey, fun _ _ => ⟨rfl, hfin⟩, fun _ e0 => by omega⟩
  have hful' : ¬ (512 : Int) ≤ (σ.ups.length : Int) := by omega
  obtain ⟨i1, hi1⟩ : ∃ i1, i1 = σ.id + 1 := ⟨_, rfl⟩
  obtain ⟨now, hnow⟩ : ∃ now, now = σ.now := ⟨_, rfl⟩
  have c3 : W1.cell? ⟨S, 3, none⟩ = some (.int .i64 σ.id) := cell_blkD HE.out.st.blk (i := 3) rfl
  have f3 := frz_blkD HE.out.st.blk 3
  have wid : IntKind.i64.wrap (σ.id + 1) = i1 := by rw [hi1]; exact IntWalk.i64_in _ (by omega)
  obtain ⟨W2, hW2⟩ : ∃ W2, W2 = W1.setCell ⟨S, 3, none⟩ (.int .i64 i1) := ⟨_, rfl⟩
  have HS2 := Lib.hid (show DStAt W2 S base { σ with id := i1 } from by rw [hW2]; exact HE.out.st.idLaid i1)
  have HF2 := Lib.hid (show Frm (fun b => b = S) W1 W2 from by rw [hW2]; exact (Frm.refl (fun b => b = S) W1).set (.inl rfl) _ _)
  have HB2 := Lib.hid (HF2.out.at HE.out.cb (fun e => by have h1 := HE.out.cb; rw [e, HE.out.st.blk] at h1; simp at h1))
  have HR2 := Lib.hid (HF2.out.at HE.out.rb (fun e => by have h1 := HE.out.rb; rw [e, HE.out.st.blk] at h1; simp at h1))
  have HW2 := Lib.hid hW2
  have HII := Lib.hid (And.intro hi1 hnow)
  have hz2 : base ≤ W2.heap.size := Nat.le_trans hbs (Nat.le_trans HE.out.bel.size HF2.out.size)
  clear hW2 hi1
  go_wp2_with fail
  refine (dkey_any ky W1).mono ?_
  rintro e wk ⟨rfl, hwk⟩
  rw [hwk, hkey']
  clear hwk wk
  go_upto_region 49 with fail
  rw [← HW2.out]
  clear c1 c3 f3 k1 k0
  have hS2 : S < W2.heap.size := (Array.getElem?_eq_some_iff.1 HS2.out.blk).1
  have hB2 : w.heap.size < W2.heap.size := (Array.getElem?_eq_some_iff.1 HB2.out).1
  have HI0 := Lib.hid (Below.refl W2.heap.size W2).drew
  have HNOW := Lib.hid hnow
  have hnSB : blkOf σ.ua ≠ some S ∧ blkOf σ.ua ≠ some w.heap.size := ⟨fun e => by
    obtain ⟨cu, g2⟩ := own_blk_ty HS2.out.urow e
    rw [HS2.out.blk] at g2; simp at g2, fun e => by
    obtain ⟨cu, g2⟩ := own_blk_ty HS2.out.urow e
    rw [HB2.out] at g2; simp at g2⟩
  clear hnow
  refine wp_region_chain (by kernel_rfl) (by kernel_rfl) (by kernel_rfl) [16, 17, 20] false (by kernel_rfl) (fun k u y => match k with
      | 0 => Below W2.heap.size W2 y
      | 1 => Below W2.heap.size W2 y ∧ ∃ g, u 0 = .slice (some ⟨g, 0, none⟩) 1 1 ∧ VecAt DUplS y (some ⟨g, 0, none⟩) 1 1 [(⟨i1, now, ky, none, 0, 0, []⟩ : DUpl)]
      | 2 => ∃ WA, Below W2.heap.size W2 WA ∧ WA.grownBy y (blkOf σ.ua) ∧ ∃ aD cD, u 1 = .slice aD (σ.ups.length + 1) cD ∧ y.ownsRow base 65 4 (.slice aD (σ.ups.length + 1) cD) (σ.ups.length + 1) (DUplS.flat (σ.ups ++ [(⟨i1, now, ky, none, 0, 0, []⟩ : DUpl)]))
      | _ => (∃ a c, DStAt y S base { σ with id := i1, ua := a, uc := c, ups := σ.ups ++ [(⟨i1, now, ky, none, 0, 0, []⟩ : DUpl)] }) ∧ Frm (DF S σ) W1 y) (fun y => y.heap[S]? = W2.heap[S]? ∧ y.heap[w.heap.size]? = W2.heap[w.heap.size]?) (fun j_9 => match j_9 with | 0 => some ((.pointer (some ⟨S, 0, none⟩))) | 1 => some ((.pointer (some ⟨S, 0, none⟩))) | 2 => some ((.pointer (some ⟨S, 0, none⟩))) | 3 => some ((.pointer (some ⟨S, 1, none⟩))) | 4 => some (.slice σ.ua σ.ups.length σ.uc) | 5 => some ((.pointer (some ⟨S, 0, none⟩))) | 6 => some ((.pointer (some ⟨S, 0, none⟩))) | 7 => some ((.pointer (some ⟨S, 3, none⟩))) | 8 => some (.int .i64 i1) | 9 => some ((.pointer (some ⟨S, 0, none⟩))) | 10 => some ((.pointer (some ⟨S, 0, none⟩))) | 11 => some ((.pointer (some ⟨S, 4, none⟩))) | 12 => some (.int .i64 now) | 13 => some ((.pointer (some ⟨w.heap.size, 1, none⟩))) | 14 => some (.string ky) | 15 => some (.agg #[.int .i64 i1, .int .i64 now, .string ky, .slice none 0 0]) | 16 => none | 17 => none | 18 => some ((.pointer (some ⟨S, 0, none⟩))) | 19 => some ((.pointer (some ⟨S, 1, none⟩))) | 20 => none | _ => none) (by rfl) (fun u => HI0.out) (fun k u y hk9 _ hs => by
      have hk : k < 3 := hk9 rfl
      clear hk9
      match k, hk, hs with
      | 0, _, hs => exact ⟨hs.block S hS2, hs.block _ hB2⟩
      | 1, _, hs => exact ⟨hs.1.block S hS2, hs.1.block _ hB2⟩
      | 2, _, hs =>
        obtain ⟨WA, hbA, hgA, _⟩ := hs
        exact ⟨(hgA.block S (Nat.lt_of_lt_of_le hS2 hbA.size) (fun e => hnSB.1 e.symm)).trans (hbA.block S hS2), (hgA.block _ (Nat.lt_of_lt_of_le hB2 hbA.size) (fun e => hnSB.2 e.symm)).trans (hbA.block _ hB2)⟩) ?_ ?_ ?_
  · intro i9 o ho hc9 V w9 K hR9 hdep hK
    have HR9 := Lib.hid hR9
    simp only [fill, slotOf, List.size_toArray, List.length_cons, List.length_nil, Nat.reduceAdd, List.getElem?_toArray, List.getElem?_cons_zero, List.getElem?_cons_succ, Option.bind_some, Act.put, List.setIfInBounds_toArray, List.set_cons_zero, List.set_cons_succ] at hK ⊢
    have hin9 : i9 < 21 := (Array.getElem?_eq_some_iff.1 ho).1
    have hcs : i9 = 0 ∨ i9 = 1 ∨ i9 = 2 ∨ i9 = 3 ∨ i9 = 4 ∨ i9 = 5 ∨ i9 = 6 ∨ i9 = 7 ∨ i9 = 8 ∨ i9 = 9 ∨ i9 = 10 ∨ i9 = 11 ∨ i9 = 12 ∨ i9 = 13 ∨ i9 = 14 ∨ i9 = 15 ∨ i9 = 16 ∨ i9 = 17 ∨ i9 = 18 ∨ i9 = 19 ∨ i9 = 20 := by omega
    clear hin9
    rcases hcs with rfl | rfl | rfl | rfl | rfl | rfl | rfl | rfl | rfl | rfl | rfl | rfl | rfl | rfl | rfl | rfl | rfl | rfl | rfl | rfl | rfl
    · obtain rfl := Option.some.inj ho.symm
      clear hdep ho hR9 hc9
      try simp only [fill, slotOf, List.size_toArray, List.length_cons, List.length_nil, Nat.reduceAdd, List.getElem?_toArray, List.getElem?_cons_zero, List.getElem?_cons_succ, Option.bind_some, Act.put, List.setIfInBounds_toArray, List.set_cons_zero, List.set_cons_succ] at hK ⊢
      go_simp
      exact hK ((.pointer (some ⟨S, 0, none⟩))) rfl _ rfl
    · obtain rfl := Option.some.inj ho.symm
      clear hdep ho hR9 hc9
      try simp only [fill, slotOf, List.size_toArray, List.length_cons, List.length_nil, Nat.reduceAdd, List.getElem?_toArray, List.getElem?_cons_zero, List.getElem?_cons_succ, Option.bind_some, Act.put, List.setIfInBounds_toArray, List.set_cons_zero, List.set_cons_succ] at hK ⊢
      go_simp
      exact hK ((.pointer (some ⟨S, 0, none⟩))) rfl _ rfl
    · obtain rfl := Option.some.inj ho.symm
      have d1 : V 1 = (.pointer (some ⟨S, 0, none⟩)) := hdep ⟨1, .data⟩ (by simp) rfl _ rfl
      clear hdep ho hR9 hc9
      try simp only [fill, slotOf, List.size_toArray, List.length_cons, List.length_nil, Nat.reduceAdd, List.getElem?_toArray, List.getElem?_cons_zero, List.getElem?_cons_succ, Option.bind_some, Act.put, List.setIfInBounds_toArray, List.set_cons_zero, List.set_cons_succ] at hK ⊢
      rw [d1] at hK ⊢
      go_simp
      exact hK ((.pointer (some ⟨S, 0, none⟩))) rfl _ rfl
    · obtain rfl := Option.some.inj ho.symm
      have d2 : V 2 = (.pointer (some ⟨S, 0, none⟩)) := hdep ⟨2, .data⟩ (by simp) rfl _ rfl
      clear hdep ho hR9 hc9
      try simp only [fill, slotOf, List.size_toArray, List.length_cons, List.length_nil, Nat.reduceAdd, List.getElem?_toArray, List.getElem?_cons_zero, List.getElem?_cons_succ, Option.bind_some, Act.put, List.setIfInBounds_toArray, List.set_cons_zero, List.set_cons_succ] at hK ⊢
      rw [d2] at hK ⊢
      go_simp
      exact hK ((.pointer (some ⟨S, 1, none⟩))) rfl _ rfl
    · obtain rfl := Option.some.inj ho.symm
      have d3 : V 3 = (.pointer (some ⟨S, 1, none⟩)) := hdep ⟨3, .data⟩ (by simp) rfl _ rfl
      have u0 := cell_blkD (HR9.out.1.trans HS2.out.blk) (i := 1) (u := .slice σ.ua σ.ups.length σ.uc) rfl
      clear hdep ho hR9 hc9
      try simp only [fill, slotOf, List.size_toArray, List.length_cons, List.length_nil, Nat.reduceAdd, List.getElem?_toArray, List.getElem?_cons_zero, List.getElem?_cons_succ, Option.bind_some, Act.put, List.setIfInBounds_toArray, List.set_cons_zero, List.set_cons_succ] at hK ⊢
      rw [d3] at hK ⊢
      go_simp
      exact hK (.slice σ.ua σ.ups.length σ.uc) rfl _ rfl
    · obtain rfl := Option.some.inj ho.symm
      clear hdep ho hR9 hc9
      try simp only [fill, slotOf, List.size_toArray, List.length_cons, List.length_nil, Nat.reduceAdd, List.getElem?_toArray, List.getElem?_cons_zero, List.getElem?_cons_succ, Option.bind_some, Act.put, List.setIfInBounds_toArray, List.set_cons_zero, List.set_cons_succ] at hK ⊢
      go_simp
      exact hK ((.pointer (some ⟨S, 0, none⟩))) rfl _ rfl
    · obtain rfl := Option.some.inj ho.symm
      have d5 : V 5 = (.pointer (some ⟨S, 0, none⟩)) := hdep ⟨5, .data⟩ (by simp) rfl _ rfl
      clear hdep ho hR9 hc9
      try simp only [fill, slotOf, List.size_toArray, List.length_cons, List.length_nil, Nat.reduceAdd, List.getElem?_toArray, List.getElem?_cons_zero, List.getElem?_cons_succ, Option.bind_some, Act.put, List.setIfInBounds_toArray, List.set_cons_zero, List.set_cons_succ] at hK ⊢
      rw [d5] at hK ⊢
      go_simp
      exact hK ((.pointer (some ⟨S, 0, none⟩))) rfl _ rfl
    · obtain rfl := Option.some.inj ho.symm
      have d6 : V 6 = (.pointer (some ⟨S, 0, none⟩)) := hdep ⟨6, .data⟩ (by simp) rfl _ rfl
      clear hdep ho hR9 hc9
      try simp only [fill, slotOf, List.size_toArray, List.length_cons, List.length_nil, Nat.reduceAdd, List.getElem?_toArray, List.getElem?_cons_zero, List.getElem?_cons_succ, Option.bind_some, Act.put, List.setIfInBounds_toArray, List.set_cons_zero, List.set_cons_succ] at hK ⊢
      rw [d6] at hK ⊢
      go_simp
      exact hK ((.pointer (some ⟨S, 3, none⟩))) rfl _ rfl
    · obtain rfl := Option.some.inj ho.symm
      have d7 : V 7 = (.pointer (some ⟨S, 3, none⟩)) := hdep ⟨7, .data⟩ (by simp) rfl _ rfl
      have u0 := cell_blkD (HR9.out.1.trans HS2.out.blk) (i := 3) (u := .int .i64 i1) rfl
      clear hdep ho hR9 hc9
      try simp only [fill, slotOf, List.size_toArray, List.length_cons, List.length_nil, Nat.reduceAdd, List.getElem?_toArray, List.getElem?_cons_zero, List.getElem?_cons_succ, Option.bind_some, Act.put, List.setIfInBounds_toArray, List.set_cons_zero, List.set_cons_succ] at hK ⊢
      rw [d7] at hK ⊢
      go_simp
      exact hK (.int .i64 i1) rfl _ rfl
    · obtain rfl := Option.some.inj ho.symm
      clear hdep ho hR9 hc9
      try simp only [fill, slotOf, List.size_toArray, List.length_cons, List.length_nil, Nat.reduceAdd, List.getElem?_toArray, List.getElem?_cons_zero, List.getElem?_cons_succ, Option.bind_some, Act.put, List.setIfInBounds_toArray, List.set_cons_zero, List.set_cons_succ] at hK ⊢
      go_simp
      exact hK ((.pointer (some ⟨S, 0, none⟩))) rfl _ rfl
    · obtain rfl := Option.some.inj ho.symm
      have d9 : V 9 = (.pointer (some ⟨S, 0, none⟩)) := hdep ⟨9, .data⟩ (by simp) rfl _ rfl
      clear hdep ho hR9 hc9
      try simp only [fill, slotOf, List.size_toArray, List.length_cons, List.length_nil, Nat.reduceAdd, List.getElem?_toArray, List.getElem?_cons_zero, List.getElem?_cons_succ, Option.bind_some, Act.put, List.setIfInBounds_toArray, List.set_cons_zero, List.set_cons_succ] at hK ⊢
      rw [d9] at hK ⊢
      go_simp
      exact hK ((.pointer (some ⟨S, 0, none⟩))) rfl _ rfl
    · obtain rfl := Option.some.inj ho.symm
      have d10 : V 10 = (.pointer (some ⟨S, 0, none⟩)) := hdep ⟨10, .data⟩ (by simp) rfl _ rfl
      clear hdep ho hR9 hc9
      try simp only [fill, slotOf, List.size_toArray, List.length_cons, List.length_nil, Nat.reduceAdd, List.getElem?_toArray, List.getElem?_cons_zero, List.getElem?_cons_succ, Option.bind_some, Act.put, List.setIfInBounds_toArray, List.set_cons_zero, List.set_cons_succ] at hK ⊢
      rw [d10] at hK ⊢
      go_simp
      exact hK ((.pointer (some ⟨S, 4, none⟩))) rfl _ rfl
    · obtain rfl := Option.some.inj ho.symm
      have d11 : V 11 = (.pointer (some ⟨S, 4, none⟩)) := hdep ⟨11, .data⟩ (by simp) rfl _ rfl
      have u0 : w9.cell? ⟨S, 4, none⟩ = some (.int .i64 now) := by rw [HNOW.out]; exact cell_blkD (HR9.out.1.trans HS2.out.blk) (i := 4) rfl
      clear hdep ho hR9 hc9
      try simp only [fill, slotOf, List.size_toArray, List.length_cons, List.length_nil, Nat.reduceAdd, List.getElem?_toArray, List.getElem?_cons_zero, List.getElem?_cons_succ, Option.bind_some, Act.put, List.setIfInBounds_toArray, List.set_cons_zero, List.set_cons_succ] at hK ⊢
      rw [d11] at hK ⊢
      go_simp
      exact hK (.int .i64 now) rfl _ rfl
    · obtain rfl := Option.some.inj ho.symm
      clear hdep ho hR9 hc9
      try simp only [fill, slotOf, List.size_toArray, List.length_cons, List.length_nil, Nat.reduceAdd, List.getElem?_toArray, List.getElem?_cons_zero, List.getElem?_cons_succ, Option.bind_some, Act.put, List.setIfInBounds_toArray, List.set_cons_zero, List.set_cons_succ] at hK ⊢
      go_simp
      exact hK ((.pointer (some ⟨w.heap.size, 1, none⟩))) rfl _ rfl
    · obtain rfl := Option.some.inj ho.symm
      have d13 : V 13 = (.pointer (some ⟨w.heap.size, 1, none⟩)) := hdep ⟨13, .data⟩ (by simp) rfl _ rfl
      have u0 := cell_blkD (HR9.out.2.trans HB2.out) (i := 1) (u := .string ky) rfl
      clear hdep ho hR9 hc9
      try simp only [fill, slotOf, List.size_toArray, List.length_cons, List.length_nil, Nat.reduceAdd, List.getElem?_toArray, List.getElem?_cons_zero, List.getElem?_cons_succ, Option.bind_some, Act.put, List.setIfInBounds_toArray, List.set_cons_zero, List.set_cons_succ] at hK ⊢
      rw [d13] at hK ⊢
      go_simp
      exact hK (.string ky) rfl _ rfl
    · obtain rfl := Option.some.inj ho.symm
      have d8 : V 8 = .int .i64 i1 := hdep ⟨8, .data⟩ (by simp) rfl _ rfl
      have d12 : V 12 = .int .i64 now := hdep ⟨12, .data⟩ (by simp) rfl _ rfl
      have d14 : V 14 = .string ky := hdep ⟨14, .data⟩ (by simp) rfl _ rfl
      clear hdep ho hR9 hc9
      try simp only [fill, slotOf, List.size_toArray, List.length_cons, List.length_nil, Nat.reduceAdd, List.getElem?_toArray, List.getElem?_cons_zero, List.getElem?_cons_succ, Option.bind_some, Act.put, List.setIfInBounds_toArray, List.set_cons_zero, List.set_cons_succ] at hK ⊢
      rw [d8, d12, d14] at hK ⊢
      go_simp
      exact hK (.agg #[.int .i64 i1, .int .i64 now, .string ky, .slice none 0 0]) rfl _ rfl
    · cases hc9
    · cases hc9
    · obtain rfl := Option.some.inj ho.symm
      have d0 : V 0 = (.pointer (some ⟨S, 0, none⟩)) := hdep ⟨0, .data⟩ (by simp) rfl _ rfl
      clear hdep ho hR9 hc9
      try simp only [fill, slotOf, List.size_toArray, List.length_cons, List.length_nil, Nat.reduceAdd, List.getElem?_toArray, List.getElem?_cons_zero, List.getElem?_cons_succ, Option.bind_some, Act.put, List.setIfInBounds_toArray, List.set_cons_zero, List.set_cons_succ] at hK ⊢
      rw [d0] at hK ⊢
      go_simp
      exact hK ((.pointer (some ⟨S, 0, none⟩))) rfl _ rfl
    · obtain rfl := Option.some.inj ho.symm
      have d18 : V 18 = (.pointer (some ⟨S, 0, none⟩)) := hdep ⟨18, .data⟩ (by simp) rfl _ rfl
      clear hdep ho hR9 hc9
      try simp only [fill, slotOf, List.size_toArray, List.length_cons, List.length_nil, Nat.reduceAdd, List.getElem?_toArray, List.getElem?_cons_zero, List.getElem?_cons_succ, Option.bind_some, Act.put, List.setIfInBounds_toArray, List.set_cons_zero, List.set_cons_succ] at hK ⊢
      rw [d18] at hK ⊢
      go_simp
      exact hK ((.pointer (some ⟨S, 1, none⟩))) rfl _ rfl
    · cases hc9
  · intro i9 j9 o he9 ho V w9 K hS9 hdep hK
    simp only [fill, slotOf, List.size_toArray, List.length_cons, List.length_nil, Nat.reduceAdd, List.getElem?_toArray, List.getElem?_cons_zero, List.getElem?_cons_succ, Option.bind_some, Act.put, List.setIfInBounds_toArray, List.set_cons_zero, List.set_cons_succ] at hK ⊢
    have hin9 : i9 < 3 := (List.getElem?_eq_some_iff.1 he9).1
    have hcs : i9 = 0 ∨ i9 = 1 ∨ i9 = 2 := by omega
    clear hin9
    rcases hcs with rfl | rfl | rfl
    · obtain rfl := Option.some.inj he9.symm
      obtain rfl := Option.some.inj ho.symm
      have d15 : V 15 = .agg #[.int .i64 i1, .int .i64 now, .string ky, .slice none 0 0] := hdep ⟨15, .data⟩ (by simp) rfl _ rfl
      have hs : Below W2.heap.size W2 w9 := hS9
      have HVA := Lib.hid (vec_oneS DUplS w9 (⟨i1, now, ky, none, 0, 0, []⟩ : DUpl) (fun _ => trivial) 65 (cs := #[.int .i64 i1, .int .i64 now, .string ky, .slice none 0 0]) rfl)
      have HS9 := Lib.hid hs
      clear hdep ho he9 hS9 hs
      try simp only [fill, slotOf, List.size_toArray, List.length_cons, List.length_nil, Nat.reduceAdd, List.getElem?_toArray, List.getElem?_cons_zero, List.getElem?_cons_succ, Option.bind_some, Act.put, List.setIfInBounds_toArray, List.set_cons_zero, List.set_cons_succ] at hK ⊢
      rw [d15] at hK ⊢
      go_simp
      exact hK (.slice (some ⟨w9.heap.size, 0, none⟩) 1 1) _ ⟨HS9.out.alloc HS9.out.size _, _, rfl, HVA.out⟩ (fun y h => by cases h) _ rfl
    · obtain rfl := Option.some.inj he9.symm
      obtain rfl := Option.some.inj ho.symm
      have d4 : V 4 = .slice σ.ua σ.ups.length σ.uc := hdep ⟨4, .data⟩ (by simp) rfl _ rfl
      have hs : Below W2.heap.size W2 w9 ∧ ∃ g, V 16 = .slice (some ⟨g, 0, none⟩) 1 1 ∧ VecAt DUplS w9 (some ⟨g, 0, none⟩) 1 1 [(⟨i1, now, ky, none, 0, 0, []⟩ : DUpl)] := hS9
      obtain ⟨hb9, g9, e9, hv9⟩ := hs
      have hu9 := (HS2.out.below hb9).urow
      clear hdep ho he9 hS9
      try simp only [fill, slotOf, List.size_toArray, List.length_cons, List.length_nil, Nat.reduceAdd, List.getElem?_toArray, List.getElem?_cons_zero, List.getElem?_cons_succ, Option.bind_some, Act.put, List.setIfInBounds_toArray, List.set_cons_zero, List.set_cons_succ] at hK ⊢
      refine step_append_dup (by first | rfl | kernel_rfl) (.tmp 274) (.tmp 286) rfl base (.slice σ.ua σ.ups.length σ.uc) σ.ups.length σ.ups (by exact d4) hu9 (some ⟨g9, 0, none⟩) 1 1 [(⟨i1, now, ky, none, 0, 0, []⟩ : DUpl)] (by exact e9) hv9 (by omega) (Nat.le_trans hz2 hb9.size) (fun v' w' h1 h2 => ?_)
      obtain ⟨aD, cD, rfl⟩ := own_sliceD h1
      rw [ownBlk] at h2
      exact hK _ w' ⟨w9, hb9, h2, aD, cD, rfl, h1⟩ (fun y h => by cases h) _ rfl
    · obtain rfl := Option.some.inj he9.symm
      obtain rfl := Option.some.inj ho.symm
      have d19 : V 19 = (.pointer (some ⟨S, 1, none⟩)) := hdep ⟨19, .data⟩ (by simp) rfl _ rfl
      have HR9 := Lib.hid (show w9.heap[S]? = W2.heap[S]? from by
        obtain ⟨WA, hbA, hgA, _⟩ := (show ∃ WA, Below W2.heap.size W2 WA ∧ WA.grownBy w9 (blkOf σ.ua) ∧ ∃ aD cD, V 17 = .slice aD (σ.ups.length + 1) cD ∧ w9.ownsRow base 65 4 (.slice aD (σ.ups.length + 1) cD) (σ.ups.length + 1) (DUplS.flat (σ.ups ++ [(⟨i1, now, ky, none, 0, 0, []⟩ : DUpl)])) from hS9)
        exact (hgA.block S (Nat.lt_of_lt_of_le hS2 hbA.size) (fun e => hnSB.1 e.symm)).trans (hbA.block S hS2))
      have hs : ∃ WA, Below W2.heap.size W2 WA ∧ WA.grownBy w9 (blkOf σ.ua) ∧ ∃ aD cD, V 17 = .slice aD (σ.ups.length + 1) cD ∧ w9.ownsRow base 65 4 (.slice aD (σ.ups.length + 1) cD) (σ.ups.length + 1) (DUplS.flat (σ.ups ++ [(⟨i1, now, ky, none, 0, 0, []⟩ : DUpl)])) := hS9
      obtain ⟨WA, hbA, hgA, aD, cD, e17, hoD⟩ := hs
      have hsA := HS2.out.below hbA
      have hDN := hsA.upsNew (us := σ.ups ++ [(⟨i1, now, ky, none, 0, 0, []⟩ : DUpl)]) hgA hoD (by rw [List.length_append]; rfl) (fun u hu => (List.mem_append.1 hu).imp (fun g => g) (fun g => by rw [List.mem_singleton.1 g]; exact ⟨rfl, rfl, rfl, rfl⟩)) (by rw [List.length_append, List.length_singleton]; omega)
      have HDN := Lib.hid hDN
      have HFN := Lib.hid (show Frm (DF S σ) W1 (w9.setCell ⟨S, 1, none⟩ (.slice aD (σ.ups.length + 1) cD)) from Frm.set (p := S) (F := DF S σ) (((HF2.out.imp (fun b e => .inl e)).below hbA).trans (F' := fun b => blkOf σ.ua = some b) ⟨hgA.os, hgA.tape, hgA.output, hgA.size, fun b hb hf => hgA.block b hb (fun e => hf e.symm)⟩ (fun b hb => .inl (.inr (.inr (.inl hb))))) (.inl (.inl rfl)) _ _)
      have u1 := cell_blkD (HR9.out.trans HS2.out.blk) (i := 1) (u := .slice σ.ua σ.ups.length σ.uc) rfl
      have f1 := frz_blkD (HR9.out.trans HS2.out.blk) 1
      clear hdep ho he9 hS9 hDN hsA hbA hgA hoD
      try simp only [fill, slotOf, List.size_toArray, List.length_cons, List.length_nil, Nat.reduceAdd, List.getElem?_toArray, List.getElem?_cons_zero, List.getElem?_cons_succ, Option.bind_some, Act.put, List.setIfInBounds_toArray, List.set_cons_zero, List.set_cons_succ] at hK ⊢
      rw [e17, d19] at hK ⊢
      go_simp
      exact hK undef _ ⟨⟨_, _, HDN.out⟩, HFN.out⟩ (fun y h => by cases h) _ rfl
  · intro V WN hS9 hv9
    have HS9 := Lib.hid (show (∃ a c, DStAt WN S base { σ with id := i1, ua := a, uc := c, ups := σ.ups ++ [(⟨i1, now, ky, none, 0, 0, []⟩ : DUpl)] }) ∧ Frm (DF S σ) W1 WN from hS9)
    clear hS9 hv9
    simp only [fill, slotOf, List.size_toArray, List.length_cons, List.length_nil, Nat.reduceAdd, List.getElem?_toArray, List.getElem?_cons_zero, List.getElem?_cons_succ, Option.bind_some, Act.put, List.setIfInBounds_toArray, List.set_cons_zero, List.set_cons_succ]
    obtain ⟨ua', uc', hdst⟩ := HS9.out.1
    have HFN := Lib.hid HS9.out.2
    have HSTN := Lib.hid hdst
    clear hdst HS9
    go_upto_region 50 with fail
    have c3 := cell_blkD HSTN.out.blk (i := 3) (u := .int .i64 i1) rfl
    have c4 : WN.cell? ⟨S, 4, none⟩ = some (.int .i64 now) := by rw [HII.out.2]; exact cell_blkD HSTN.out.blk (i := 4) rfl
    have HRB := Lib.hid (rb_kept HE.out.st HE.out.rb HFN.out)
    obtain ⟨⟨q0, q1, q2, q3, q4, q5, q6⟩, r0, r1, r2, r3, r4, r5, r6⟩ := rb_cells HRB.out
    go_region
    clear c3 c4 q0 q1 q2 q3 q4 q5 q6 r0 r1 r2 r3 r4 r5 r6
    go_wp2_with fail
    obtain ⟨W5, hW5⟩ : ∃ W5, W5 = setR WN (w.heap.size + 1) (.int .i64 0) (.slice none 0 0) (.int .i64 0) (.int .i64 now) (.int .i64 i1) (.slice none 0 0) (.bool false) := ⟨_, rfl⟩
    have hr5 := setR_at0 HRB.out (.int .i64 0) (.slice none 0 0) (.int .i64 0) (.int .i64 now) (.int .i64 i1) (.slice none 0 0) (.bool false)
    have hF5 := (Frm.refl (fun b => b = w.heap.size + 1) WN).setR (R := w.heap.size + 1) (.inl rfl) (.int .i64 0) (.slice none 0 0) (.int .i64 0) (.int .i64 now) (.int .i64 i1) (.slice none 0 0) (.bool false)
    rw [← hW5] at hr5 hF5
    unfold setR at hW5
    rw [← hW5]
    have hfin := done9 HE.out.bel HE.out.st HE.out.rb (Nat.le_succ _) HFN.out HSTN.out hF5.drew
    obtain ⟨hi1, hnow⟩ := HII.out
    subst hi1 hnow
    exact bodyPost_ret (ret_rep rfl _ _ (w.heap.size + 1) rfl (show W5.drew.heap[w.heap.size + 1]? = _ from hr5)) rfl ⟨fun e0 => absurd e0 hkey, fun _ e0 => absurd e0 hful, fun _ _ => ⟨rfl, ⟨_, _, hfin.1⟩, hfin.2⟩⟩
end Go.Proofs.YtjafagfhkpaciaaGreat
end PkSP7_4
section PkSP7_5
/- The document's Do: delete. Written by gensddo.py. -/
namespace Go.Proofs.YtjafagfhkpaciaaGreat
open Go.RowKit
set_option linter.unusedVariables false
set_option linter.unusedSimpArgs false

set_option maxRecDepth 100000 in
set_option maxHeartbeats 16000000 in
theorem ddo_6 {w : World} {S base : Nat} {σ : DSto} (h : DStAt w S base σ) {vr at_ nn id : Int} {ky : ByteArray} {a : Option Addr} {n c : Nat} (hbs : base ≤ w.heap.size) :
    Calls Tryz.prog 13 #[.pointer (some ⟨S, 0, none⟩), .agg #[.int .i64 6, .string ky, .slice a n c, .int .i64 vr, .int .i64 at_, .int .i64 nn, .int .i64 id]] w (Do6 w S base σ ky) := by
  have HE := Lib.hid (dent_mk h #[.int .i64 6, .string ky, .slice a n c, .int .i64 vr, .int .i64 at_, .int .i64 nn, .int .i64 id])
  have hSl : S < w.heap.size := (Array.getElem?_eq_some_iff.1 h.blk).1
  clear h
  go_enter Tryz.func13, Tryz.ntmps13
  go_upto_region 1 with fail
  obtain ⟨W0, hW0⟩ : ∃ W0, W0 = (w.alloc (.cells #[.int .i64 6, .string ky, .slice a n c, .int .i64 vr, .int .i64 at_, .int .i64 nn, .int .i64 id] 34)).alloc (.cells zrep 43) := ⟨_, rfl⟩
  rw [← hW0] at HE
  unfold zrep at hW0
  rw [← hW0]
  clear hW0
  obtain ⟨ai, hai⟩ : ∃ ai, ai = atK σ.objs ky := ⟨_, rfl⟩
  obtain ⟨oi, hoi⟩ : ∃ oi, oi = openK σ.ups id := ⟨_, rfl⟩
  have HAT := Lib.hid (fun k => dat_any (HE.out.st.drewN k) ky)
  have HOP := Lib.hid (fun k => dopen_any (HE.out.st.drewN k) id)
  rw [← hai] at HAT
  rw [← hoi] at HOP
  have k1 := cell_blkD HE.out.cb (i := 1) (u := .string ky) rfl
  have k6 := cell_blkD HE.out.cb (i := 6) (u := .int .i64 id) rfl
  go_quiet ((first | (go_at_call 26; exact Calls.quiet_of_same (HAT.out _)) | (go_at_call 27; exact Calls.quiet_of_same (HOP.out _))))
  rename Nat => nq
  clear k1 k6 HAT HOP
  have HE1 := Lib.hid (HE.out.drewN nq)
  obtain ⟨W1, hW1⟩ : ∃ W1, W1 = W0.drewN nq := ⟨_, rfl⟩
  rw [← hW1] at HE1
  rw [← hW1]
  clear HE hW1
  have HE := HE1
  clear HE1
  have hz0 := HE.out.sz
  have hk0 : w.heap.size < W1.heap.size := by omega
  have hr0 : w.heap.size + 1 < W1.heap.size := by omega
  have hS0 : S < W1.heap.size := by omega
  have HZ0 := Lib.hid hz0
  clear hz0
  have HR0 := Lib.hid (Below.refl W1.heap.size W1)
  have k0 := cell_blkD HE.out.cb (i := 0) (u := .int .i64 6) rfl
  have HAI := Lib.hid hai
  have HOI := Lib.hid hoi
  clear hai hoi
  rcases atK_neg (l := σ.objs) (k := ky) with ⟨ho1, ho2⟩ | ⟨jo, ho1, ho2⟩
  · have hai := HAI.out
    rw [ho1] at hai
    clear HAI
    subst hai
    have HNO := Lib.hid (show ∀ e w', NoD w S base σ 7 e w' → Do6 w S base σ ky e w' from fun e w' h => by unfold Do6; rw [ho2]; exact h)
    clear ho1 ho2
    go_wp2_with fail
    refine (dbad_any 7 W1).mono ?_
    rintro e wE ⟨rfl, hbE⟩
    unfold repA
    have hbe := HR0.out.trans (hbE.mono HR0.out.size)
    have HRB := Lib.hid ((hbe.block (w.heap.size + 1) hr0).trans HE.out.rb)
    have HST := Lib.hid (HE.out.st.below hbe)
    have HFR := Lib.hid (show Frm (DF S σ) w wE from Frm.ofBelow (HE.out.bel.trans (hbe.mono HE.out.bel.size)))
    obtain ⟨⟨q0, q1, q2, q3, q4, q5, q6⟩, r0, r1, r2, r3, r4, r5, r6⟩ := rb_cells HRB.out
    clear hbE hbe
    go_wp2_with fail
    clear q0 q1 q2 q3 q4 q5 q6 r0 r1 r2 r3 r4 r5 r6
    obtain ⟨W5, hW5⟩ : ∃ W5, W5 = setR wE (w.heap.size + 1) (.int .i64 7) (.slice none 0 0) (.int .i64 0) (.int .i64 0) (.int .i64 0) (.slice none 0 0) (.bool false) := ⟨_, rfl⟩
    have hr5 := setR_at0 HRB.out (.int .i64 7) (.slice none 0 0) (.int .i64 0) (.int .i64 0) (.int .i64 0) (.slice none 0 0) (.bool false)
    have hF5 := (Frm.refl (fun b => b = w.heap.size + 1) wE).setR (R := w.heap.size + 1) (.inl rfl) (.int .i64 7) (.slice none 0 0) (.int .i64 0) (.int .i64 0) (.int .i64 0) (.slice none 0 0) (.bool false)
    rw [← hW5] at hr5 hF5
    unfold setR at hW5
    rw [← hW5]
    have hfin := put_done HST.out HRB.out (Nat.le_succ _) HFR.out hF5
    exact bodyPost_ret (ret_rep rfl _ _ (w.heap.size + 1) rfl hr5) rfl (HNO.out _ _ ⟨rfl, hfin⟩)
  · have hai := HAI.out
    rw [ho1] at hai
    clear HAI
    subst hai
    obtain ⟨o, hu, _, hul⟩ := find_at ho2
    have HO2 := Lib.hid ho2
    have HU := Lib.hid hu
    have zjo : ¬ (jo : Int) < 0 := by omega
    clear ho1 ho2 hu
    have hof := HE.out.st.of
    obtain ⟨m9, hm9⟩ : ∃ m9, m9 = σ.objs.length := ⟨_, rfl⟩
    obtain ⟨oa, hoa⟩ : ∃ oa, oa = σ.oa := ⟨_, rfl⟩
    obtain ⟨oc, hoc⟩ : ∃ oc, oc = σ.oc := ⟨_, rfl⟩
    have c0 : W1.cell? ⟨S, 0, none⟩ = some (.slice oa m9 oc) := by rw [hm9, hoa, hoc]; exact cell_blkD HE.out.st.blk (i := 0) rfl
    have HV := Lib.hid (show VecAt DObjS W1 oa m9 oc σ.objs from by rw [hm9, hoa, hoc]; exact HE.out.st.objs)
    have hcp := HV.out.cap
    have hcm := HV.out.capm
    rw [← hm9] at hul hof
    have HM9 := Lib.hid (And.intro hm9 (And.intro hoa hoc))
    have hst := to_dob oa m9 oc jo (by omega)
    have hsf := from_dob oa m9 oc (jo + 1) (by omega)
    obtain ⟨a5, ha5⟩ : ∃ a5, a5 = (if oc = jo + 1 then oa else oa.map (·.add ((jo + 1) * 4))) := ⟨_, rfl⟩
    rw [← ha5] at hsf
    have HA5 := Lib.hid ha5
    have hsf2 : ∀ W, (Instr.slice 26 (.slice oa m9 oc) (some (.int .i64 ((jo : Int) + 1))) none none).run Tryz.prog W = .ok (.slice a5 (m9 - (jo + 1)) (oc - (jo + 1))) W := fun W => by have := hsf W; push_cast at this; exact this
    have wi : IntKind.i64.wrap ((jo : Int) + 1) = (jo : Int) + 1 := IntWalk.i64_in _ (by omega)
    have HI0 := Lib.hid (Below.refl W1.heap.size W1).drew
    clear hm9 hoa hoc ha5 hsf
    go_upto_region 41 with fail
    clear k0
    refine wp_region_chain (by kernel_rfl) (by kernel_rfl) (by kernel_rfl) [1, 8, 16, 19] false (by kernel_rfl) (fun k u w => match k with
        | 0 => Below W1.heap.size W1 w
        | 1 => Below W1.heap.size W1 w ∧ w.ownsRow W1.heap.size 59 4 (u 0) 0 (DObjS.flat [])
        | 2 => Below W1.heap.size W1 w ∧ w.ownsRow W1.heap.size 59 4 (u 1) jo (DObjS.flat (σ.objs.take jo))
        | 3 => Below W1.heap.size W1 w ∧ w.ownsRow W1.heap.size 59 4 (u 2) (jo + (m9 - (jo + 1))) (DObjS.flat (outK σ.objs jo))
        | _ => (∃ a c, DStAt w S base { σ with oa := a, oc := c, objs := outK σ.objs jo }) ∧ Frm (DF S σ) W1 w) (fun w => Below W1.heap.size W1 w) (fun j_9 => match j_9 with | 0 => some ((.pointer (some ⟨S, 0, none⟩))) | 1 => none | 2 => some ((.pointer (some ⟨S, 0, none⟩))) | 3 => some ((.pointer (some ⟨S, 0, none⟩))) | 4 => some ((.pointer (some ⟨S, 0, none⟩))) | 5 => some (.slice oa m9 oc) | 6 => some (.int .i64 (jo : Int)) | 7 => some (.slice oa jo oc) | 8 => none | 9 => some ((.pointer (some ⟨S, 0, none⟩))) | 10 => some ((.pointer (some ⟨S, 0, none⟩))) | 11 => some ((.pointer (some ⟨S, 0, none⟩))) | 12 => some (.slice oa m9 oc) | 13 => some (.int .i64 (jo : Int)) | 14 => some (.int .i64 ((jo : Int) + 1)) | 15 => some (.slice a5 (m9 - (jo + 1)) (oc - (jo + 1))) | 16 => none | 17 => some ((.pointer (some ⟨S, 0, none⟩))) | 18 => some ((.pointer (some ⟨S, 0, none⟩))) | 19 => none | _ => none) (by rfl) (fun u => HI0.out) (fun k u w1 hk9 _ hs => by
        have hk : k < 4 := hk9 rfl
        clear hk9
        match k, hk, hs with
        | 0, _, hs => exact hs
        | 1, _, hs => exact hs.1
        | 2, _, hs => exact hs.1
        | 3, _, hs => exact hs.1) ?_ ?_ ?_
    · intro i9 o ho hc9 V w9 K hR9 hdep hK
      have HR9 := Lib.hid hR9
      simp only [fill, slotOf, List.size_toArray, List.length_cons, List.length_nil, Nat.reduceAdd, List.getElem?_toArray, List.getElem?_cons_zero, List.getElem?_cons_succ, Option.bind_some, Act.put, List.setIfInBounds_toArray, List.set_cons_zero, List.set_cons_succ] at hK ⊢
      have hin9 : i9 < 20 := (Array.getElem?_eq_some_iff.1 ho).1
      have hcs : i9 = 0 ∨ i9 = 1 ∨ i9 = 2 ∨ i9 = 3 ∨ i9 = 4 ∨ i9 = 5 ∨ i9 = 6 ∨ i9 = 7 ∨ i9 = 8 ∨ i9 = 9 ∨ i9 = 10 ∨ i9 = 11 ∨ i9 = 12 ∨ i9 = 13 ∨ i9 = 14 ∨ i9 = 15 ∨ i9 = 16 ∨ i9 = 17 ∨ i9 = 18 ∨ i9 = 19 := by omega
      clear hin9
      rcases hcs with rfl | rfl | rfl | rfl | rfl | rfl | rfl | rfl | rfl | rfl | rfl | rfl | rfl | rfl | rfl | rfl | rfl | rfl | rfl | rfl
      · obtain rfl := Option.some.inj ho.symm
        clear hdep ho hR9 hc9
        try simp only [fill, slotOf, List.size_toArray, List.length_cons, List.length_nil, Nat.reduceAdd, List.getElem?_toArray, List.getElem?_cons_zero, List.getElem?_cons_succ, Option.bind_some, Act.put, List.setIfInBounds_toArray, List.set_cons_zero, List.set_cons_succ] at hK ⊢
        go_simp
        exact hK ((.pointer (some ⟨S, 0, none⟩))) rfl _ rfl
      · cases hc9
      · obtain rfl := Option.some.inj ho.symm
        clear hdep ho hR9 hc9
        try simp only [fill, slotOf, List.size_toArray, List.length_cons, List.length_nil, Nat.reduceAdd, List.getElem?_toArray, List.getElem?_cons_zero, List.getElem?_cons_succ, Option.bind_some, Act.put, List.setIfInBounds_toArray, List.set_cons_zero, List.set_cons_succ] at hK ⊢
        go_simp
        exact hK ((.pointer (some ⟨S, 0, none⟩))) rfl _ rfl
      · obtain rfl := Option.some.inj ho.symm
        have d2 : V 2 = (.pointer (some ⟨S, 0, none⟩)) := hdep ⟨2, .data⟩ (by simp) rfl _ rfl
        clear hdep ho hR9 hc9
        try simp only [fill, slotOf, List.size_toArray, List.length_cons, List.length_nil, Nat.reduceAdd, List.getElem?_toArray, List.getElem?_cons_zero, List.getElem?_cons_succ, Option.bind_some, Act.put, List.setIfInBounds_toArray, List.set_cons_zero, List.set_cons_succ] at hK ⊢
        rw [d2] at hK ⊢
        go_simp
        exact hK ((.pointer (some ⟨S, 0, none⟩))) rfl _ rfl
      · obtain rfl := Option.some.inj ho.symm
        have d3 : V 3 = (.pointer (some ⟨S, 0, none⟩)) := hdep ⟨3, .data⟩ (by simp) rfl _ rfl
        clear hdep ho hR9 hc9
        try simp only [fill, slotOf, List.size_toArray, List.length_cons, List.length_nil, Nat.reduceAdd, List.getElem?_toArray, List.getElem?_cons_zero, List.getElem?_cons_succ, Option.bind_some, Act.put, List.setIfInBounds_toArray, List.set_cons_zero, List.set_cons_succ] at hK ⊢
        rw [d3] at hK ⊢
        go_simp
        exact hK ((.pointer (some ⟨S, 0, none⟩))) rfl _ rfl
      · obtain rfl := Option.some.inj ho.symm
        have d4 : V 4 = (.pointer (some ⟨S, 0, none⟩)) := hdep ⟨4, .data⟩ (by simp) rfl _ rfl
        have u0 : w9.cell? ⟨S, 0, none⟩ = some (.slice oa m9 oc) := (HR9.out.cell (p := ⟨S, 0, none⟩) hS0).trans c0
        clear hdep ho hR9 hc9
        try simp only [fill, slotOf, List.size_toArray, List.length_cons, List.length_nil, Nat.reduceAdd, List.getElem?_toArray, List.getElem?_cons_zero, List.getElem?_cons_succ, Option.bind_some, Act.put, List.setIfInBounds_toArray, List.set_cons_zero, List.set_cons_succ] at hK ⊢
        rw [d4] at hK ⊢
        go_simp
        exact hK (.slice oa m9 oc) rfl _ rfl
      · obtain rfl := Option.some.inj ho.symm
        clear hdep ho hR9 hc9
        try simp only [fill, slotOf, List.size_toArray, List.length_cons, List.length_nil, Nat.reduceAdd, List.getElem?_toArray, List.getElem?_cons_zero, List.getElem?_cons_succ, Option.bind_some, Act.put, List.setIfInBounds_toArray, List.set_cons_zero, List.set_cons_succ] at hK ⊢
        go_simp
        exact hK (.int .i64 (jo : Int)) rfl _ rfl
      · obtain rfl := Option.some.inj ho.symm
        have d5 : V 5 = .slice oa m9 oc := hdep ⟨5, .data⟩ (by simp) rfl _ rfl
        have d6 : V 6 = .int .i64 (jo : Int) := hdep ⟨6, .data⟩ (by simp) rfl _ rfl
        clear hdep ho hR9 hc9
        try simp only [fill, slotOf, List.size_toArray, List.length_cons, List.length_nil, Nat.reduceAdd, List.getElem?_toArray, List.getElem?_cons_zero, List.getElem?_cons_succ, Option.bind_some, Act.put, List.setIfInBounds_toArray, List.set_cons_zero, List.set_cons_succ] at hK ⊢
        rw [d5, d6] at hK ⊢
        go_simp
        exact hK (.slice oa jo oc) rfl _ rfl
      · cases hc9
      · obtain rfl := Option.some.inj ho.symm
        clear hdep ho hR9 hc9
        try simp only [fill, slotOf, List.size_toArray, List.length_cons, List.length_nil, Nat.reduceAdd, List.getElem?_toArray, List.getElem?_cons_zero, List.getElem?_cons_succ, Option.bind_some, Act.put, List.setIfInBounds_toArray, List.set_cons_zero, List.set_cons_succ] at hK ⊢
        go_simp
        exact hK ((.pointer (some ⟨S, 0, none⟩))) rfl _ rfl
      · obtain rfl := Option.some.inj ho.symm
        have d9 : V 9 = (.pointer (some ⟨S, 0, none⟩)) := hdep ⟨9, .data⟩ (by simp) rfl _ rfl
        clear hdep ho hR9 hc9
        try simp only [fill, slotOf, List.size_toArray, List.length_cons, List.length_nil, Nat.reduceAdd, List.getElem?_toArray, List.getElem?_cons_zero, List.getElem?_cons_succ, Option.bind_some, Act.put, List.setIfInBounds_toArray, List.set_cons_zero, List.set_cons_succ] at hK ⊢
        rw [d9] at hK ⊢
        go_simp
        exact hK ((.pointer (some ⟨S, 0, none⟩))) rfl _ rfl
      · obtain rfl := Option.some.inj ho.symm
        have d10 : V 10 = (.pointer (some ⟨S, 0, none⟩)) := hdep ⟨10, .data⟩ (by simp) rfl _ rfl
        clear hdep ho hR9 hc9
        try simp only [fill, slotOf, List.size_toArray, List.length_cons, List.length_nil, Nat.reduceAdd, List.getElem?_toArray, List.getElem?_cons_zero, List.getElem?_cons_succ, Option.bind_some, Act.put, List.setIfInBounds_toArray, List.set_cons_zero, List.set_cons_succ] at hK ⊢
        rw [d10] at hK ⊢
        go_simp
        exact hK ((.pointer (some ⟨S, 0, none⟩))) rfl _ rfl
      · obtain rfl := Option.some.inj ho.symm
        have d11 : V 11 = (.pointer (some ⟨S, 0, none⟩)) := hdep ⟨11, .data⟩ (by simp) rfl _ rfl
        have u0 : w9.cell? ⟨S, 0, none⟩ = some (.slice oa m9 oc) := (HR9.out.cell (p := ⟨S, 0, none⟩) hS0).trans c0
        clear hdep ho hR9 hc9
        try simp only [fill, slotOf, List.size_toArray, List.length_cons, List.length_nil, Nat.reduceAdd, List.getElem?_toArray, List.getElem?_cons_zero, List.getElem?_cons_succ, Option.bind_some, Act.put, List.setIfInBounds_toArray, List.set_cons_zero, List.set_cons_succ] at hK ⊢
        rw [d11] at hK ⊢
        go_simp
        exact hK (.slice oa m9 oc) rfl _ rfl
      · obtain rfl := Option.some.inj ho.symm
        clear hdep ho hR9 hc9
        try simp only [fill, slotOf, List.size_toArray, List.length_cons, List.length_nil, Nat.reduceAdd, List.getElem?_toArray, List.getElem?_cons_zero, List.getElem?_cons_succ, Option.bind_some, Act.put, List.setIfInBounds_toArray, List.set_cons_zero, List.set_cons_succ] at hK ⊢
        go_simp
        exact hK (.int .i64 (jo : Int)) rfl _ rfl
      · obtain rfl := Option.some.inj ho.symm
        have d13 : V 13 = .int .i64 (jo : Int) := hdep ⟨13, .data⟩ (by simp) rfl _ rfl
        clear hdep ho hR9 hc9
        try simp only [fill, slotOf, List.size_toArray, List.length_cons, List.length_nil, Nat.reduceAdd, List.getElem?_toArray, List.getElem?_cons_zero, List.getElem?_cons_succ, Option.bind_some, Act.put, List.setIfInBounds_toArray, List.set_cons_zero, List.set_cons_succ] at hK ⊢
        rw [d13] at hK ⊢
        go_simp
        exact hK (.int .i64 ((jo : Int) + 1)) rfl _ rfl
      · obtain rfl := Option.some.inj ho.symm
        have d12 : V 12 = .slice oa m9 oc := hdep ⟨12, .data⟩ (by simp) rfl _ rfl
        have d14 : V 14 = .int .i64 ((jo : Int) + 1) := hdep ⟨14, .data⟩ (by simp) rfl _ rfl
        clear hdep ho hR9 hc9
        try simp only [fill, slotOf, List.size_toArray, List.length_cons, List.length_nil, Nat.reduceAdd, List.getElem?_toArray, List.getElem?_cons_zero, List.getElem?_cons_succ, Option.bind_some, Act.put, List.setIfInBounds_toArray, List.set_cons_zero, List.set_cons_succ] at hK ⊢
        rw [d12, d14] at hK ⊢
        go_simp
        exact hK (.slice a5 (m9 - (jo + 1)) (oc - (jo + 1))) rfl _ rfl
      · cases hc9
      · obtain rfl := Option.some.inj ho.symm
        have d0 : V 0 = (.pointer (some ⟨S, 0, none⟩)) := hdep ⟨0, .data⟩ (by simp) rfl _ rfl
        clear hdep ho hR9 hc9
        try simp only [fill, slotOf, List.size_toArray, List.length_cons, List.length_nil, Nat.reduceAdd, List.getElem?_toArray, List.getElem?_cons_zero, List.getElem?_cons_succ, Option.bind_some, Act.put, List.setIfInBounds_toArray, List.set_cons_zero, List.set_cons_succ] at hK ⊢
        rw [d0] at hK ⊢
        go_simp
        exact hK ((.pointer (some ⟨S, 0, none⟩))) rfl _ rfl
      · obtain rfl := Option.some.inj ho.symm
        have d17 : V 17 = (.pointer (some ⟨S, 0, none⟩)) := hdep ⟨17, .data⟩ (by simp) rfl _ rfl
        clear hdep ho hR9 hc9
        try simp only [fill, slotOf, List.size_toArray, List.length_cons, List.length_nil, Nat.reduceAdd, List.getElem?_toArray, List.getElem?_cons_zero, List.getElem?_cons_succ, Option.bind_some, Act.put, List.setIfInBounds_toArray, List.set_cons_zero, List.set_cons_succ] at hK ⊢
        rw [d17] at hK ⊢
        go_simp
        exact hK ((.pointer (some ⟨S, 0, none⟩))) rfl _ rfl
      · cases hc9
    · intro i9 j9 o he9 ho V w9 K hS9 hdep hK
      simp only [fill, slotOf, List.size_toArray, List.length_cons, List.length_nil, Nat.reduceAdd, List.getElem?_toArray, List.getElem?_cons_zero, List.getElem?_cons_succ, Option.bind_some, Act.put, List.setIfInBounds_toArray, List.set_cons_zero, List.set_cons_succ] at hK ⊢
      have hin9 : i9 < 4 := (List.getElem?_eq_some_iff.1 he9).1
      have hcs : i9 = 0 ∨ i9 = 1 ∨ i9 = 2 ∨ i9 = 3 := by omega
      clear hin9
      rcases hcs with rfl | rfl | rfl | rfl
      · obtain rfl := Option.some.inj he9.symm
        obtain rfl := Option.some.inj ho.symm
        have hs : Below W1.heap.size W1 w9 := hS9
        have HO9 := Lib.hid (show (w9.alloc (.cells #[] 59)).ownsRow W1.heap.size 59 4 (.slice (some ⟨w9.heap.size, 0, none⟩) 0 0) 0 (DObjS.flat []) from World.ownsRow_lit (base := W1.heap.size) (e := 59) (size := 4) w9 #[] 0 hs.size (by unfold maxLen; omega) rfl)
        have HS9 := Lib.hid hs
        clear hdep ho he9 hS9 hs
        try simp only [fill, slotOf, List.size_toArray, List.length_cons, List.length_nil, Nat.reduceAdd, List.getElem?_toArray, List.getElem?_cons_zero, List.getElem?_cons_succ, Option.bind_some, Act.put, List.setIfInBounds_toArray, List.set_cons_zero, List.set_cons_succ] at hK ⊢
        go_simp
        exact hK (.slice (some ⟨w9.heap.size, 0, none⟩) 0 0) _ ⟨HS9.out.alloc HS9.out.size _, HO9.out⟩ (fun y h => by cases h) _ rfl
      · obtain rfl := Option.some.inj he9.symm
        obtain rfl := Option.some.inj ho.symm
        have d7 : V 7 = .slice oa jo oc := hdep ⟨7, .data⟩ (by simp) rfl _ rfl
        have hs : Below W1.heap.size W1 w9 ∧ w9.ownsRow W1.heap.size 59 4 (V 1) 0 (DObjS.flat []) := hS9
        clear hdep ho he9 hS9
        try simp only [fill, slotOf, List.size_toArray, List.length_cons, List.length_nil, Nat.reduceAdd, List.getElem?_toArray, List.getElem?_cons_zero, List.getElem?_cons_succ, Option.bind_some, Act.put, List.setIfInBounds_toArray, List.set_cons_zero, List.set_cons_succ] at hK ⊢
        refine step_append_dob (by first | rfl | kernel_rfl) (.tmp 229) (.tmp 235) rfl W1.heap.size (V 1) 0 [] (by rfl) hs.2 oa jo oc (σ.objs.take jo) (by exact d7) (vec_takeS (HV.out.kept hs.1) (by omega)) (by omega) hs.1.size (fun v' w' h1 h2 => ?_)
        exact hK v' w' ⟨hs.1.grown h2 hs.1.size (fun k hk => (hs.2.lt k hk).1), by simpa using h1⟩ (fun y h => by cases h) _ rfl
      · obtain rfl := Option.some.inj he9.symm
        obtain rfl := Option.some.inj ho.symm
        have d15 : V 15 = .slice a5 (m9 - (jo + 1)) (oc - (jo + 1)) := hdep ⟨15, .data⟩ (by simp) rfl _ rfl
        have hs : Below W1.heap.size W1 w9 ∧ w9.ownsRow W1.heap.size 59 4 (V 8) jo (DObjS.flat (σ.objs.take jo)) := hS9
        have hv9 : VecAt DObjS w9 a5 (m9 - (jo + 1)) (oc - (jo + 1)) (σ.objs.drop (jo + 1)) := by rw [HA5.out]; exact vec_dropS (S := DObjS) (HV.out.kept hs.1) (by omega)
        clear hdep ho he9 hS9
        try simp only [fill, slotOf, List.size_toArray, List.length_cons, List.length_nil, Nat.reduceAdd, List.getElem?_toArray, List.getElem?_cons_zero, List.getElem?_cons_succ, Option.bind_some, Act.put, List.setIfInBounds_toArray, List.set_cons_zero, List.set_cons_succ] at hK ⊢
        refine step_append_dob (by first | rfl | kernel_rfl) (.tmp 236) (.tmp 243) rfl W1.heap.size (V 8) jo (σ.objs.take jo) (by rfl) hs.2 a5 (m9 - (jo + 1)) (oc - (jo + 1)) (σ.objs.drop (jo + 1)) (by exact d15) hv9 (by omega) hs.1.size (fun v' w' h1 h2 => ?_)
        exact hK v' w' ⟨hs.1.grown h2 hs.1.size (fun k hk => (hs.2.lt k hk).1), h1⟩ (fun y h => by cases h) _ rfl
      · obtain rfl := Option.some.inj he9.symm
        obtain rfl := Option.some.inj ho.symm
        have d18 : V 18 = (.pointer (some ⟨S, 0, none⟩)) := hdep ⟨18, .data⟩ (by simp) rfl _ rfl
        have hs : Below W1.heap.size W1 w9 ∧ w9.ownsRow W1.heap.size 59 4 (V 16) (jo + (m9 - (jo + 1))) (DObjS.flat (outK σ.objs jo)) := hS9
        obtain ⟨a9, c9, d16⟩ := own_sliceD hs.2
        have hrow := hs.2
        rw [d16] at hrow
        have hst9 := HE.out.st.below hs.1
        have HL := Lib.hid (hst9.objsLaid (os := outK σ.objs jo) (own_baseD hrow (Nat.le_trans hbs HE.out.bel.size)) (by rw [outK_len (by rw [← HM9.out.1]; exact hul), HM9.out.1]) (fun o ho => hst9.obj o (outK_mem ho)) (by rw [outK_len (by rw [← HM9.out.1]; exact hul)]; have := hst9.of; have := HM9.out.1; omega))
        have HF := Lib.hid (show Frm (DF S σ) W1 (w9.setCell ⟨S, 0, none⟩ (.slice a9 (jo + (m9 - (jo + 1))) c9)) from (Frm.ofBelow hs.1).set (.inl (.inl rfl)) _ _)
        have f1 := frz_blkD hst9.blk 0
        have u1 : w9.cell? ⟨S, 0, none⟩ = some (.slice oa m9 oc) := (hs.1.cell (p := ⟨S, 0, none⟩) hS0).trans c0
        clear hdep ho he9 hS9 hs hrow hst9
        try simp only [fill, slotOf, List.size_toArray, List.length_cons, List.length_nil, Nat.reduceAdd, List.getElem?_toArray, List.getElem?_cons_zero, List.getElem?_cons_succ, Option.bind_some, Act.put, List.setIfInBounds_toArray, List.set_cons_zero, List.set_cons_succ] at hK ⊢
        rw [d16, d18] at hK ⊢
        go_simp
        exact hK undef _ ⟨⟨_, _, HL.out⟩, HF.out⟩ (fun y h => by cases h) _ rfl
    · intro V w9 hS9 hv9
      have HS9 := Lib.hid (show (∃ a c, DStAt w9 S base { σ with oa := a, oc := c, objs := outK σ.objs jo }) ∧ Frm (DF S σ) W1 w9 from hS9)
      clear hS9 hv9
      simp only [fill, slotOf, List.size_toArray, List.length_cons, List.length_nil, Nat.reduceAdd, List.getElem?_toArray, List.getElem?_cons_zero, List.getElem?_cons_succ, Option.bind_some, Act.put, List.setIfInBounds_toArray, List.set_cons_zero, List.set_cons_succ]
      obtain ⟨oa', oc', hdst⟩ := HS9.out.1
      have HF1 := Lib.hid HS9.out.2
      have HST := Lib.hid hdst
      have HRB := Lib.hid (rb_kept HE.out.st HE.out.rb HF1.out)
      obtain ⟨⟨q0, q1, q2, q3, q4, q5, q6⟩, r0, r1, r2, r3, r4, r5, r6⟩ := rb_cells HRB.out
      clear hdst HS9
      go_wp2_with fail
      clear q0 q1 q2 q3 q4 q5 q6 r0 r1 r2 r3 r4 r5 r6
      obtain ⟨W5, hW5⟩ : ∃ W5, W5 = setR w9 (w.heap.size + 1) (.int .i64 0) (.slice none 0 0) (.int .i64 0) (.int .i64 0) (.int .i64 0) (.slice none 0 0) (.bool false) := ⟨_, rfl⟩
      have hr5 := setR_at0 HRB.out (.int .i64 0) (.slice none 0 0) (.int .i64 0) (.int .i64 0) (.int .i64 0) (.slice none 0 0) (.bool false)
      have hF5 := (Frm.refl (fun b => b = w.heap.size + 1) w9).setR (R := w.heap.size + 1) (.inl rfl) (.int .i64 0) (.slice none 0 0) (.int .i64 0) (.int .i64 0) (.int .i64 0) (.slice none 0 0) (.bool false)
      rw [← hW5] at hr5 hF5
      unfold setR at hW5
      rw [← hW5]
      have hfin := done9 HE.out.bel HE.out.st HE.out.rb (Nat.le_succ _) HF1.out HST.out hF5
      exact bodyPost_ret (ret_rep rfl _ _ (w.heap.size + 1) rfl hr5) rfl (by
        unfold Do6
        rw [HO2.out]
        exact ⟨rfl, ⟨oa', oc', hfin.1⟩, hfin.2⟩)
end Go.Proofs.YtjafagfhkpaciaaGreat
end PkSP7_5
section PkSP7_6
/- Calls of both stores that turn them: delete, create, part, complete, abort; no kind; any call. -/
namespace Go.Proofs.YtjafagfhkpaciaaGreat
open Go.RowKit
set_option linter.unusedVariables false

theorem Tie.drop {σ : Sto} {δ : DSto} (ht : Tie σ δ) (ha : Apt σ) {i : Int} {m j : Nat} {v : UplS} (hp : σ.ups[j]? = some (i, v)) {ua : Option Addr} {uc : Nat} : Tie (dropS σ i m) { δ with ua := ua, uc := uc, ups := outK δ.ups j } := by
  have hj : j < σ.ups.length := (List.getElem?_eq_some_iff.1 hp).1
  have hj' : j < δ.ups.length := by rw [← ht.ulen]; exact hj
  have hd : dropK ilit i σ.ups = outK σ.ups j := drop_out litI ha.upl hp
  refine ⟨ht.objs, ?_, ?_, ht.ver, ht.id, ht.now⟩
  · show (dropK ilit i σ.ups).length = (outK δ.ups j).length
    rw [hd, outK_length _ _ hj, outK_length _ _ hj', ht.ulen]
  · intro k p u hk hu
    have hk' : (outK σ.ups j)[k]? = some p := by rw [← hd]; exact hk
    have hu' : (outK δ.ups j)[k]? = some u := hu
    rw [outK_get _ _ _ hj] at hk'
    rw [outK_get _ _ _ hj'] at hu'
    by_cases g : k < j
    · rw [if_pos g] at hk' hu'; exact ht.upl k p u hk' hu'
    · rw [if_neg g] at hk' hu'; exact ht.upl (k + 1) p u hk' hu'
theorem prtF_perm {l : List DPrt} {ps : List (Int × ByteArray)} (h : (l.map pP).Perm ps) (n : Int) : ((prtF l n).map pP).Perm (dropK ilit n ps) := by
  unfold dropK prtF
  have : (l.filter fun q => !decide (q.n = n)).map pP = (l.map pP).filter fun q => !(ilit q.1).sameKey (ilit n) := by
    rw [List.filter_map]
    congr 1
    apply List.filter_congr
    intro q _
    show (!decide (q.n = n)) = !(ilit q.n).sameKey (ilit n)
    congr 1
    rw [Bool.eq_iff_iff, decide_eq_true_eq]
    exact (litI.iff q.n n).symm
  rw [this]
  exact h.filter _
theorem few_parts {ps : List (Int × ByteArray)} (hr : ps.Pairwise fun x y => (ilit x.1).before (ilit y.1) = true) (hb : ∀ x ∈ ps, 1 ≤ x.1 ∧ x.1 ≤ 32) {n : Int} (hn : 1 ≤ n ∧ n ≤ 32) : (dropK ilit n ps).length < 32 := by
  have h1 : (putK ilit n ByteArray.empty ps).Pairwise fun p q => (ilit p.1).before (ilit q.1) = true := put_rise hr
  have h2 := rise_len _ 1 (rise_ints h1) (fun x hx => by
    obtain ⟨p, hp, rfl⟩ := List.mem_map.1 hx
    have hp' : p ∈ insK ilit (n, ByteArray.empty) (dropK ilit n ps) := hp
    rcases List.mem_cons.1 ((ins_perm (lit := ilit) (n, ByteArray.empty) (dropK ilit n ps)).mem_iff.1 hp') with g | g
    · rw [g]; exact hn
    · exact hb p (mem_drop g))
  have h3 : (putK ilit n ByteArray.empty ps).length = (dropK ilit n ps).length + 1 := ins_len _ _
  rw [List.length_map, h3] at h2
  push_cast at h2
  omega
section
variable {base base' : Nat} {W : World} {s S : Nat} {σ : Sto} {δ : DSto} {vr at_ nn id : Int} {ky : ByteArray} {a : Option Addr} {n c : Nat} {xs : List Nat} {Mo Mu : Nat}
theorem rem_out (h : SAt W s Mo Mu σ) (hk : ky.size ≤ 1000000000000000) (hok : OkS σ) {a : Option Addr} {n c : Nat} :
    Calls Tryz.prog 11 #[.pointer (some ⟨s, 0, none⟩), .agg #[.int .i64 6, .string ky, .slice a n c, .int .i64 vr, .int .i64 at_, .int .i64 nn, .int .i64 id]] W fun e w' => Frm (StF s Mo Mu σ) W w' ∧ match objOf σ ky with
      | none => e = .returned (rep0 7) ∧ StAt w' s Mo Mu σ
      | some o => e = .returned (rep0 0) ∧ StAt w' s Mo Mu (remS σ ky) := by
  refine (do_6 h (Q := fun W0 e w1 => RemSays W0 s Mo Mu σ ky e w1) (fun W0 h0 hF hz => (remove_any h0 hk (hok.old ky) hok.siz).mono fun e w1 hq => ⟨?_, hq, ?_⟩)).mono fun e w5 ho => ?_
  · unfold RemSays at hq
    cases hg : objOf σ ky with
    | none => rw [hg] at hq; rw [hq.1]; exact rep0_shape _
    | some o => rw [hg] at hq; rw [hq.1]; exact rep0_shape _
  · unfold RemSays at hq
    cases hg : objOf σ ky with
    | none => rw [hg] at hq; exact Frm.ofBelow hq.2.2
    | some o => rw [hg] at hq; exact hq.2.2
  · obtain ⟨W0, w1, g1, g2, g3, hq, g5, g6⟩ := ho
    unfold RemSays at hq
    refine ⟨out_frm g2 g5 g6, ?_⟩
    cases hg : objOf σ ky with
    | none => rw [hg] at hq; exact ⟨hq.1, out_st h g3 hq.2.1 (fun b hb => .inl hb) g6⟩
    | some o => rw [hg] at hq; exact ⟨hq.1, out_st h g3 hq.2.1 (fun b hb => .inl hb) g6⟩
theorem sim_rem (h : Both base base' W s σ δ) {a1 : Option Addr} {c1 : Nat} (hk : ky.size ≤ 1000000000000000) :
    Calls Tryz.prog 11 #[.pointer (some ⟨s, 0, none⟩), .agg #[.int .i64 6, .string ky, .slice a1 n c1, .int .i64 vr, .int .i64 at_, .int .i64 nn, .int .i64 id]] W (SimD base W s S base' σ δ #[.int .i64 6, .string ky, .slice a n c, .int .i64 vr, .int .i64 at_, .int .i64 nn, .int .i64 id] a n c xs) := by
  obtain ⟨Mo, Mu, hs, hF⟩ := h.st.sat h.hb
  refine (rem_out hs hk (h.inv.ok h.v h.i)).mono fun e W' ⟨hf, hq⟩ => ?_
  rw [h.tie.obj ky] at hq
  cases ho : δ.objs.findIdx? (fun o => decide (o.key = ky)) with
  | none =>
    have hn : objD δ ky = none := by unfold objD; rw [ho]
    rw [hn] at hq
    exact sim_err h.st h.hb hs hF h.inv h.tie hq.1 hq.2 hf (fun W1 g1 g2 g3 => (ddo_6 g1 g3).mono fun e2 W2 hr => by unfold Do6 at hr; rw [ho] at hr; exact hr)
  | some j =>
    obtain ⟨o, hu, hok, hj⟩ := find_at ho
    have hkey : o.key = ky := of_decide_eq_true hok
    have hn : objD δ ky = some o := by unfold objD; rw [ho]; exact hu
    rw [hn] at hq
    obtain ⟨he, hst⟩ := hq
    have hob : objOf σ ky = some (oP o).2 := by rw [h.tie.obj ky, hn]; rfl
    have hget : σ.objs[j]? = some (ky, (oP o).2) := by rw [h.tie.objs, List.getElem?_map, hu, ← hkey]; rfl
    refine ⟨0, 0, 0, 0, false, 0, [], [], remS σ ky, pres_mk h.st h.hb hs hF hst hf (fun b hb => .inl hb) ⟨none, by rw [he]; exact ans_none _ _ _ _ _ _, fun g => by omega⟩, h.inv.rem (Apt.of hs) hob, rfl, by show σ.ver ≤ σ.ver + 1; omega, by show σ.id ≤ σ.id + 1; omega, fun W1 g1 g2 g3 => (ddo_6 g1 g3).mono fun e2 W2 hr => ?_⟩
    unfold Do6 at hr
    rw [ho] at hr
    obtain ⟨he2, ⟨oa, oc, hst2⟩, hf2⟩ := hr
    refine ⟨_, ⟨⟨none, by rw [he2]; exact ans_none _ _ _ _ _ _⟩, hst2, hf2, fun k hk => .inl ?_⟩, ⟨?_, h.tie.ulen, h.tie.upl, h.tie.ver, h.tie.id, h.tie.now⟩⟩
    · rcases hk with ⟨x, hx, e⟩ | g
      · exact .inl ⟨x, outK_mem hx, e⟩
      · exact .inr g
    · show dropK slit ky σ.objs = (outK δ.objs j).map oP
      rw [drop_out litS (Apt.of hs).obj hget, h.tie.objs, outK_map]
theorem sim_cre (h : Both base base' W s σ δ) {a1 : Option Addr} {c1 : Nat} :
    Calls Tryz.prog 11 #[.pointer (some ⟨s, 0, none⟩), .agg #[.int .i64 7, .string ky, .slice a1 n c1, .int .i64 vr, .int .i64 at_, .int .i64 nn, .int .i64 id]] W (SimD base W s S base' σ δ #[.int .i64 7, .string ky, .slice a n c, .int .i64 vr, .int .i64 at_, .int .i64 nn, .int .i64 id] a n c xs) := by
  obtain ⟨Mo, Mu, hs, hF⟩ := h.st.sat h.hb
  have hid : 0 ≤ δ.id ∧ δ.id ≤ 1000000000 := by rw [← h.tie.id]; exact ⟨h.inv.id, h.i⟩
  have href := fun W1 (g1 : DStAt W1 S base' δ) (g2 : BytesAt W1 a n c xs) (g3 : base' ≤ W1.heap.size) => ddo_7 (ky := ky) (vr := vr) (at_ := at_) (nn := nn) (id := id) (a := a) (n := n) (c := c) g1 g3 hid
  refine (doCreate hs (h.inv.ok h.v h.i)).mono fun e W' ⟨hf, h1, h2, h3⟩ => ?_
  cases hk : isKeyB ky with
  | false => exact sim_err h.st h.hb hs hF h.inv h.tie (h1 hk).1 (h1 hk).2 hf (fun W1 g1 g2 g3 => (href W1 g1 g2 g3).mono fun e2 W2 hr => hr.1 hk)
  | true =>
    rcases Nat.lt_or_ge σ.ups.length 512 with g | g
    · obtain ⟨pb, he, hpb, hst⟩ := h3 hk g
      have hlt : ∀ p ∈ σ.ups, p.1 < σ.id + 1 := fun p hp => by have := (h.inv.upl p hp).2.1; omega
      refine ⟨0, 0, _, _, false, 0, [], [], createS σ ky pb, pres_mk h.st h.hb hs hF hst hf (fun b hb => (cre_blk hb).elim .inl (fun e => .inr (by rw [e]; exact hpb))) ⟨none, by rw [he]; exact ans_none _ _ _ _ _ _, fun g => by omega⟩, h.inv.create (Apt.of hs) hk g, rfl, by show σ.ver ≤ σ.ver + 1; omega, Int.le_refl _, fun W1 g1 g2 g3 => (href W1 g1 g2 g3).mono fun e2 W2 hr => ?_⟩
      obtain ⟨he2, ⟨ua, uc, hst2⟩, hf2⟩ := hr.2.2 hk (by rw [← h.tie.ulen]; exact g)
      refine ⟨_, ⟨⟨none, by rw [he2, h.tie.id, h.tie.now]; exact ans_none _ _ _ _ _ _⟩, hst2, hf2, fun k hk => .inl ?_⟩, ⟨h.tie.objs, ?_, ?_, h.tie.ver, by show σ.id + 1 = δ.id + 1; rw [h.tie.id], h.tie.now⟩⟩
      · rcases hk with g | ⟨u, hu, p, hp, e⟩
        · exact .inl g
        · rcases List.mem_append.1 hu with g | g
          · exact .inr ⟨u, g, p, hp, e⟩
          · rw [List.mem_singleton.1 g] at hp; cases hp
      · show (putK ilit (σ.id + 1) _ σ.ups).length = _
        rw [put_end_ hlt, List.length_append, List.length_append, h.tie.ulen]; rfl
      · intro k p u hp hu
        have hp' : (putK ilit (σ.id + 1) (⟨ky, σ.now, pb, []⟩ : UplS) σ.ups)[k]? = some p := hp
        have hu' : (δ.ups ++ [(⟨δ.id + 1, δ.now, ky, none, 0, 0, []⟩ : DUpl)])[k]? = some u := hu
        rw [put_end_ hlt] at hp'
        rcases Nat.lt_or_ge k σ.ups.length with g1 | g1
        · rw [List.getElem?_append_left g1] at hp'
          rw [List.getElem?_append_left (by rw [← h.tie.ulen]; exact g1)] at hu'
          exact h.tie.upl k p u hp' hu'
        · rw [List.getElem?_append_right g1] at hp'
          rw [List.getElem?_append_right (by rw [← h.tie.ulen]; exact g1), ← h.tie.ulen] at hu'
          obtain ⟨z, hz⟩ : ∃ z, z = k - σ.ups.length := ⟨_, rfl⟩
          rw [← hz] at hp' hu'
          cases z with
          | zero =>
            simp at hp' hu'
            subst hp' hu'
            exact ⟨by show σ.id + 1 = δ.id + 1; rw [h.tie.id], rfl, h.tie.now, .refl _⟩
          | succ z => simp at hp'
    · exact sim_err h.st h.hb hs hF h.inv h.tie (h2 hk g).1 (h2 hk g).2 hf (fun W1 g1 g2 g3 => (href W1 g1 g2 g3).mono fun e2 W2 hr => hr.2.1 hk (by rw [← h.tie.ulen]; exact g))
theorem had_tie {v : UplS} {u : DUpl} {i : Int} (hu : UTie (i, v) u) (hr : v.parts.Pairwise fun x y => (ilit x.1).before (ilit y.1) = true) (hd : ∀ p ∈ u.parts, p.data.length = p.dn) (m : Int) : hadP u.parts m = oldP v m := by
  have h1 := had_fold (n := m) 0 (hu.apart (p := (i, v)) hr) hd
  unfold hadP oldP
  rw [h1, ← hu.get (p := (i, v)) hr m]
  show (match getK ilit m v.parts with | none => 0 | some d => d.size) = _
  cases getK ilit m v.parts <;> rfl
theorem sim_prt (h : Both base base' W s σ δ) {a1 : Option Addr} {c1 : Nat} (hx : BytesAt W a1 n c1 xs) (hid : (Lit.int .i64 id).wf = true) :
    Calls Tryz.prog 11 #[.pointer (some ⟨s, 0, none⟩), .agg #[.int .i64 8, .string ky, .slice a1 n c1, .int .i64 vr, .int .i64 at_, .int .i64 nn, .int .i64 id]] W (SimD base W s S base' σ δ #[.int .i64 8, .string ky, .slice a n c, .int .i64 vr, .int .i64 at_, .int .i64 nn, .int .i64 id] a n c xs) := by
  obtain ⟨Mo, Mu, hs, hF⟩ := h.st.sat h.hb
  have hn : (bs xs).size = n := by rw [bs_sizeS]; exact hx.len
  have hap := Apt.of hs
  refine (doPart hs hx hid (h.inv.ok h.v h.i)).mono fun e W' ⟨hf, h1, h2⟩ => ?_
  rcases h.tie.up id with ⟨hu0, hf0⟩ | ⟨j, v, u, hu0, hf0, hp, hu, hut⟩
  · have hpe : partE σ id nn n = 7 := by unfold partE; rw [hu0]
    have h1' := h1 (by rw [hpe]; decide)
    rw [hpe] at h1'
    exact sim_err h.st h.hb hs hF h.inv h.tie h1'.1 h1'.2 hf (fun W1 g1 g2 g3 => (ddo_8 g1 g2 g3 (fun j u hj => by rw [hf0] at hj; cases hj)).mono fun e2 W2 hr => by unfold Do8 at hr; rw [hf0] at hr; exact hr)
  · have hpr := hap.prt (id, v) (List.mem_of_getElem? hp)
    have hpb := h.inv.prt (id, v) (List.mem_of_getElem? hp)
    have hdl : ∀ p ∈ u.parts, p.data.length = p.dn := fun p hq => (h.ok.prt u (List.mem_of_getElem? hu) p hq).1
    have hpe : partE σ id nn n = prtDE δ u nn n := by
      unfold partE prtDE
      rw [hu0]
      show (if nn < 1 ∨ 32 < nn then (1 : Int) else if 262144 < n then 5 else if 4194304 < σ.size + ((n : Int) - (oldP v nn : Int)) then 9 else 0) = _
      rw [h.tie.size h.ok h.inv, ← had_tie hut hpr hdl nn]
      split
      · rfl
      · split
        · rfl
        · congr 1
          apply propext
          constructor <;> intro g <;> omega
    have href := fun W1 (g1 : DStAt W1 S base' δ) (g2 : BytesAt W1 a n c xs) (g3 : base' ≤ W1.heap.size) => ddo_8 (ky := ky) (vr := vr) (at_ := at_) (nn := nn) (id := id) g1 g2 g3 (fun j' u' hj hu' l1 l2 => by
      rw [hf0] at hj
      cases hj
      rw [hu] at hu'
      cases hu'
      rw [← List.length_map (f := pP), (prtF_perm hut.prt nn).length_eq]
      exact few_parts hpr (fun x hx => ⟨(hpb x hx).1, (hpb x hx).2.1⟩) ⟨l1, l2⟩)
    rcases Classical.em (partE σ id nn n = 0) with g | g
    · obtain ⟨v', hv', he, hst⟩ := h2 g
      rw [hu0] at hv'
      obtain rfl : v = v' := Option.some.inj hv'
      obtain ⟨q1, q2, q3⟩ := prt_ok hu0 g
      refine ⟨0, 0, 0, 0, false, 0, [], [], _, pres_mk h.st h.hb hs hF hst hf (fun b hb => .inl (part_blk hb)) ⟨none, by rw [he]; exact ans_none _ _ _ _ _ _, fun g => by omega⟩, h.inv.part hap hu0 q1 (by rw [hn]; exact q2) (by rw [hn]; exact q3), rfl, by show σ.ver ≤ σ.ver + 1; omega, by show σ.id ≤ σ.id + 1; omega, fun W1 g1 g2 g3 => (href W1 g1 g2 g3).mono fun e2 W2 hr => ?_⟩
      unfold Do8 at hr
      rw [hf0] at hr
      obtain ⟨hf2, _, hok2⟩ := hr u hu
      obtain ⟨he2, ua, uc, pa, pn, pc, da, dc, hst2, hfr⟩ := hok2 (by rw [← hpe]; exact g)
      have hju : j < δ.ups.length := (List.getElem?_eq_some_iff.1 hu).1
      refine ⟨_, ⟨⟨none, by rw [he2]; exact ans_none _ _ _ _ _ _⟩, hst2, hf2, fun k hk => ?_⟩, ⟨h.tie.objs, ?_, ?_, h.tie.ver, h.tie.id, h.tie.now⟩⟩
      · rcases hk with g9 | ⟨y, hy, p, hq, e⟩
        · exact .inl (.inl g9)
        · rcases List.mem_or_eq_of_mem_set hy with g9 | g9
          · exact .inl (.inr ⟨y, g9, p, hq, e⟩)
          · rw [g9] at hq
            rcases List.mem_append.1 hq with g8 | g8
            · exact .inl (.inr ⟨u, List.mem_of_getElem? hu, p, (List.mem_filter.1 g8).1, e⟩)
            · rw [List.mem_singleton.1 g8] at e; exact .inr (hfr k e)
      · show (setParts id _ σ.ups).length = (δ.ups.set j _).length
        unfold setParts
        rw [List.length_map, List.length_set, h.tie.ulen]
      · intro k p y hk hy
        have hk' : (setParts id (putK ilit nn (bs xs) v.parts) σ.ups)[k]? = some p := hk
        have hy' : (δ.ups.set j { u with pa := pa, pn := pn, pc := pc, parts := prtF u.parts nn ++ [⟨nn, da, n, dc, xs⟩] })[k]? = some y := hy
        unfold setParts at hk'
        rw [List.getElem?_map] at hk'
        by_cases hkj : k = j
        · subst hkj
          rw [hp] at hk'
          rw [List.getElem?_set_self hju] at hy'
          simp at hk' hy'
          subst hk' hy'
          exact ⟨hut.id, hut.key, hut.born, parts_tie hut.prt ⟨nn, da, n, dc, xs⟩⟩
        · rw [List.getElem?_set_ne (fun e => hkj e.symm)] at hy'
          cases hq : σ.ups[k]? with
          | none => rw [hq] at hk'; cases hk'
          | some q =>
            rw [hq] at hk'
            have hne : ¬ q.1 = id := fun e => by
              obtain ⟨l1, e1⟩ := List.getElem?_eq_some_iff.1 hq
              obtain ⟨l2, e2⟩ := List.getElem?_eq_some_iff.1 hp
              have hpw := List.pairwise_iff_getElem.1 hap.upl
              rcases Nat.lt_or_ge k j with g9 | g9
              · exact hpw k j l1 l2 g9 (by rw [e1, e2, e])
              · exact hpw j k l2 l1 (by omega) (by rw [e1, e2, e])
            have hpq : p = q := by
              have h7 : (if q.1 = id then (q.1, { q.2 with parts := putK ilit nn (bs xs) v.parts }) else q) = p := Option.some.inj hk'
              rw [if_neg hne] at h7
              exact h7.symm
            rw [hpq]
            exact h.tie.upl k q y hq hy'
    · obtain ⟨he, hst⟩ := h1 g
      refine sim_err h.st h.hb hs hF h.inv h.tie he hst hf (fun W1 g1 g2 g3 => (href W1 g1 g2 g3).mono fun e2 W2 hr => ?_)
      unfold Do8 at hr
      rw [hf0] at hr
      obtain ⟨hf2, hno, _⟩ := hr u hu
      obtain ⟨he2, hst2⟩ := hno (by rw [← hpe]; exact g)
      exact ⟨by rw [hpe]; exact he2, hst2, hf2⟩
theorem sim_com (h : Both base base' W s σ δ) {a1 : Option Addr} {c1 : Nat} (hid : (Lit.int .i64 id).wf = true) :
    Calls Tryz.prog 11 #[.pointer (some ⟨s, 0, none⟩), .agg #[.int .i64 9, .string ky, .slice a1 n c1, .int .i64 vr, .int .i64 at_, .int .i64 nn, .int .i64 id]] W (SimD base W s S base' σ δ #[.int .i64 9, .string ky, .slice a n c, .int .i64 vr, .int .i64 at_, .int .i64 nn, .int .i64 id] a n c xs) := by
  obtain ⟨Mo, Mu, hs, hF⟩ := h.st.sat h.hb
  have hap := Apt.of hs
  have hv0 : 0 ≤ δ.ver ∧ δ.ver ≤ 1000000000 := by rw [← h.tie.ver]; exact ⟨h.inv.ver, h.v⟩
  have href := fun W1 (g1 : DStAt W1 S base' δ) (g2 : BytesAt W1 a n c xs) (g3 : base' ≤ W1.heap.size) => ddo_9 (ky := ky) (vr := vr) (at_ := at_) (nn := nn) (id := id) (a := a) (n := n) (c := c) g1 g3 hv0
  refine (doComplete hs hid (h.inv.ok h.v h.i)).mono fun e W' ⟨hf, h1, h2⟩ => ?_
  rcases h.tie.up id with ⟨hu0, hf0⟩ | ⟨j, v, u, hu0, hf0, hp, hu, hut⟩
  · have hpe : comE σ id nn = 7 := by unfold comE; rw [hu0]
    have h1' := h1 (by rw [hpe]; decide)
    rw [hpe] at h1'
    exact sim_err h.st h.hb hs hF h.inv h.tie h1'.1 h1'.2 hf (fun W1 g1 g2 g3 => (href W1 g1 g2 g3).mono fun e2 W2 hr => by unfold Do9 at hr; rw [hf0] at hr; exact hr)
  · have hpr := hap.prt (id, v) (List.mem_of_getElem? hp)
    have hct := cat_tie hut hpr (fun q hq => (h.ok.prt u (List.mem_of_getElem? hu) q hq).2)
    have hlen : v.parts.length = u.parts.length := by rw [← List.length_map (f := pP), hut.prt.length_eq]
    have hpe : comE σ id nn = comDE δ u nn := by
      unfold comE comDE
      rw [hu0]
      show (if nn < 1 ∨ nn ≠ (v.parts.length : Int) then (4 : Int) else match catP v.parts nn.toNat with
        | none => 4
        | some d => if 262144 < d.length then 5 else if (objOf σ v.key).isNone = true ∧ 512 ≤ σ.objs.length then 9 else 0) = _
      rw [hlen]
      split
      · rfl
      · have hc := hct nn.toNat
        rw [← hc]
        cases catP v.parts nn.toNat with
        | none => rfl
        | some d =>
          show (if 262144 < d.length then (5 : Int) else if (objOf σ v.key).isNone = true ∧ 512 ≤ σ.objs.length then 9 else 0) = if 262144 < (d.map UInt8.toNat).length then (5 : Int) else if atK δ.objs u.key = -1 ∧ 512 ≤ δ.objs.length then 9 else 0
          rw [List.length_map, h.tie.olen, h.tie.obj, show v.key = u.key from hut.key]
          split
          · rfl
          · congr 1
            apply propext
            have : ((objD δ u.key).map fun o => (oP o).2).isNone = true ↔ atK δ.objs u.key = -1 := by
              rcases atK_neg (l := δ.objs) (k := u.key) with ⟨e1, e2⟩ | ⟨k, e1, e2⟩
              · have : objD δ u.key = none := by unfold objD; rw [e2]
                rw [this, e1]; simp
              · obtain ⟨o, ho, _, _⟩ := find_at e2
                have : objD δ u.key = some o := by unfold objD; rw [e2]; exact ho
                rw [this, e1]
                constructor
                · intro g; cases g
                · intro g; omega
            rw [this]
    rcases Classical.em (comE σ id nn = 0) with g | g
    · obtain ⟨v', d, hv', hd, he, hst⟩ := h2 g
      rw [hu0] at hv'
      obtain rfl : v = v' := Option.some.inj hv'
      refine ⟨0, _, _, 0, false, 0, [], [], _, pres_mk h.st h.hb hs hF hst hf (fun b hb => .inl (StF.drop (StF.make hb))) ⟨none, by rw [he]; exact ans_none _ _ _ _ _ _, fun g => by omega⟩, h.inv.com hap hu0 hd g, rfl, Int.le_refl _, by show σ.id ≤ σ.id + 1; omega, fun W1 g1 g2 g3 => (href W1 g1 g2 g3).mono fun e2 W2 hr => ?_⟩
      unfold Do9 at hr
      rw [hf0] at hr
      obtain ⟨hf2, _, hok2⟩ := hr u hu
      obtain ⟨d', hd', he2, ua, uc, oa, oc, da, dc, hst2, hfr⟩ := hok2 (by rw [← hpe]; exact g)
      have hdd : d' = d.map UInt8.toNat := by
        have := hct nn.toNat
        rw [show catP (id, v).2.parts nn.toNat = some d from hd, hd'] at this
        exact (Option.some.inj this).symm
      have hbs : bs d' = ⟨d.toArray⟩ := by
        have h9 := bs_numsOf (⟨d.toArray⟩ : ByteArray)
        unfold numsOf at h9
        rw [hdd]
        exact h9
      have ht2 : Tie (dropS σ id (psz v.parts)) { δ with ua := ua, uc := uc, ups := outK δ.ups j } := h.tie.drop hap hp
      have ht3 := ht2.put (ky := u.key) (xs := d') hs.rise (oa := oa) (oc := oc) (da := da) (dn := d'.length) (dc := dc)
      rw [hbs, ← show v.key = u.key from hut.key] at ht3
      refine ⟨_, ⟨⟨none, by rw [he2, h.tie.ver, h.tie.now]; exact ans_none _ _ _ _ _ _⟩, hst2, hf2, fun k hk => ?_⟩, by rw [← show v.key = u.key from hut.key]; exact ht3⟩
      rcases db_put (δ := { δ with ua := ua, uc := uc, ups := outK δ.ups j }) (o := ⟨u.key, da, d'.length, dc, d', δ.ver + 1, δ.now⟩) (oa := oa) (oc := oc) (v := δ.ver + 1) hfr k hk with g9 | g9
      · rcases g9 with g8 | ⟨y, hy, p, hq, e⟩
        · exact .inl (.inl g8)
        · exact .inl (.inr ⟨y, outK_mem hy, p, hq, e⟩)
      · exact .inr g9
    · obtain ⟨he, hst⟩ := h1 g
      refine sim_err h.st h.hb hs hF h.inv h.tie he hst hf (fun W1 g1 g2 g3 => (href W1 g1 g2 g3).mono fun e2 W2 hr => ?_)
      unfold Do9 at hr
      rw [hf0] at hr
      obtain ⟨hf2, hno, _⟩ := hr u hu
      obtain ⟨he2, hst2⟩ := hno (by rw [← hpe]; exact g)
      exact ⟨by rw [hpe]; exact he2, hst2, hf2⟩
theorem sim_abt (h : Both base base' W s σ δ) {a1 : Option Addr} {c1 : Nat} (hid : (Lit.int .i64 id).wf = true) :
    Calls Tryz.prog 11 #[.pointer (some ⟨s, 0, none⟩), .agg #[.int .i64 10, .string ky, .slice a1 n c1, .int .i64 vr, .int .i64 at_, .int .i64 nn, .int .i64 id]] W (SimD base W s S base' σ δ #[.int .i64 10, .string ky, .slice a n c, .int .i64 vr, .int .i64 at_, .int .i64 nn, .int .i64 id] a n c xs) := by
  obtain ⟨Mo, Mu, hs, hF⟩ := h.st.sat h.hb
  have hap := Apt.of hs
  have href := fun W1 (g1 : DStAt W1 S base' δ) (g2 : BytesAt W1 a n c xs) (g3 : base' ≤ W1.heap.size) => ddo_10 (ky := ky) (vr := vr) (at_ := at_) (nn := nn) (id := id) (a := a) (n := n) (c := c) g1 g3
  refine (doAbort hs hid (h.inv.ok h.v h.i)).mono fun e W' ⟨hf, hq⟩ => ?_
  rcases h.tie.up id with ⟨hu0, hf0⟩ | ⟨j, v, u, hu0, hf0, hp, hu, hut⟩
  · rw [hu0] at hq
    exact sim_err h.st h.hb hs hF h.inv h.tie hq.1 hq.2 hf (fun W1 g1 g2 g3 => (href W1 g1 g2 g3).mono fun e2 W2 hr => by unfold Do10 at hr; rw [hf0] at hr; exact hr)
  · rw [hu0] at hq
    obtain ⟨he, hst⟩ := hq
    refine ⟨0, 0, 0, 0, false, 0, [], [], _, pres_mk h.st h.hb hs hF hst hf (fun b hb => .inl hb.drop) ⟨none, by rw [he]; exact ans_none _ _ _ _ _ _, fun g => by omega⟩, h.inv.drop hap hu0, rfl, by show σ.ver ≤ σ.ver + 1; omega, by show σ.id ≤ σ.id + 1; omega, fun W1 g1 g2 g3 => (href W1 g1 g2 g3).mono fun e2 W2 hr => ?_⟩
    unfold Do10 at hr
    rw [hf0] at hr
    obtain ⟨he2, ⟨ua, uc, hst2⟩, hf2⟩ := hr
    refine ⟨_, ⟨⟨none, by rw [he2]; exact ans_none _ _ _ _ _ _⟩, hst2, hf2, fun k hk => .inl ?_⟩, h.tie.drop hap hp⟩
    rcases hk with g8 | ⟨y, hy, p, hq, e⟩
    · exact .inl g8
    · exact .inr ⟨y, outK_mem hy, p, hq, e⟩
theorem sim_any {ki : Int} (h : Both base base' W s σ δ) {a1 : Option Addr} {c1 : Nat} (hx : BytesAt W a1 n c1 xs) (hk : ky.size ≤ 1000000000000000) (hid : (Lit.int .i64 id).wf = true) :
    Calls Tryz.prog 11 #[.pointer (some ⟨s, 0, none⟩), .agg #[.int .i64 ki, .string ky, .slice a1 n c1, .int .i64 vr, .int .i64 at_, .int .i64 nn, .int .i64 id]] W (SimD base W s S base' σ δ #[.int .i64 ki, .string ky, .slice a n c, .int .i64 vr, .int .i64 at_, .int .i64 nn, .int .i64 id] a n c xs) := by
  by_cases hb : 1 ≤ ki ∧ ki ≤ 11
  · have hcs : ki = 1 ∨ ki = 2 ∨ ki = 3 ∨ ki = 4 ∨ ki = 5 ∨ ki = 6 ∨ ki = 7 ∨ ki = 8 ∨ ki = 9 ∨ ki = 10 ∨ ki = 11 := by omega
    rcases hcs with rfl | rfl | rfl | rfl | rfl | rfl | rfl | rfl | rfl | rfl | rfl
    · exact sim_put (.inl rfl) h hx hk
    · exact sim_put (.inr rfl) h hx hk
    · exact sim_get h hk
    · exact sim_piece h hk
    · exact sim_list h hx hk
    · exact sim_rem h hk
    · exact sim_cre h
    · exact sim_prt h hx hid
    · exact sim_com h hid
    · exact sim_abt h hid
    · exact sim_opened h
  · obtain ⟨Mo, Mu, hs, hF⟩ := h.st.sat h.hb
    exact (do_no hs hb).mono fun e w5 ⟨W0, w1, g1, g2, g3, hq, g5, g6⟩ => sim_err h.st h.hb hs hF h.inv h.tie hq.1 (out_st hs g3 hq.2 (fun b hb => .inl hb) g6) (out_frm g2 g5 g6) (fun W1 q1 q2 q3 => ddo_no q1 hb)
end
end Go.Proofs.YtjafagfhkpaciaaGreat
end PkSP7_6
section PkSP7_7
/- The clock, and the keys, over a law's own store. -/
namespace Go.Proofs.YtjafagfhkpaciaaGreat
open Go.RowKit Go.Shelf Go.Maps Go.Sort
set_option linter.unusedVariables false

def tickE (now n : Int) : Int := if n < 0 ∨ 1099511627776 < n then 1 else if 1099511627775 < now + n then 2 else 0
def tickS (σ : Sto) (n : Int) : Sto := if tickE σ.now n = 0 then { σ with now := σ.now + n } else σ
theorem StIn.now {base : Nat} {W : World} {s : Nat} {σ : Sto} (h : StIn base W s σ) : W.cell? ⟨s, 5, none⟩ = some (.int .i64 σ.now) ∧ W.frozen? ⟨s, 5, none⟩ = false := by
  obtain ⟨_, ⟨Mo, Mu, h1, _⟩ | ⟨h1, _⟩⟩ := h
  · exact ⟨cell_blk2 h1.blk rfl, fro_blk2 h1.blk 5⟩
  · exact ⟨h1.cell5, h1.fro 5⟩
theorem StIn.set_now {base : Nat} {W : World} {s : Nat} {σ : Sto} (h : StIn base W s σ) (z : Int) : StIn base (W.setCell ⟨s, 5, none⟩ (.int .i64 z)) s { σ with now := z } := by
  obtain ⟨h0, ⟨Mo, Mu, h1, h2⟩ | ⟨h1, h2⟩⟩ := h
  · refine ⟨h0, .inl ⟨Mo, Mu, ?_, h2⟩⟩
    exact h1.num' ((Frm.refl (fun b => b = s) W).set (p := s) (.inl rfl) 5 _) ((heap_setCell_same W s 5 _ _ _ h1.blk).trans rfl) rfl rfl
  · refine ⟨h0, .inr ⟨h1.set5 z, ?_⟩⟩
    rw [h2]
    rfl
theorem StIn.set_below {base : Nat} {W : World} {s : Nat} {σ : Sto} (h : StIn base W s σ) (hb : base ≤ W.heap.size) (z : Int) : RowKit.Below base W (W.setCell ⟨s, 5, none⟩ (.int .i64 z)) :=
  ((Frm.refl (fun b => b = s) W).set (p := s) (.inl rfl) 5 (.int .i64 z)).toBelow hb (fun i e => by rw [e]; exact h.1)
theorem StIn.set_keep {base : Nat} {W : World} {s : Nat} {σ : Sto} (h : StIn base W s σ) (z : Int) : KeepC W (W.setCell ⟨s, 5, none⟩ (.int .i64 z)) := fun b cs t fr hb ht =>
  ((Frm.refl (fun b => b = s) W).set (p := s) (.inl rfl) 5 (.int .i64 z)).at hb fun e => by
    subst e
    obtain ⟨_, ⟨Mo, Mu, h1, _⟩ | ⟨h1, _⟩⟩ := h
    · have := h1.blk
      rw [hb] at this
      cases this; exact ht rfl
    · exact ht (h1.notStore hb)
set_option maxRecDepth 100000 in
set_option maxHeartbeats 2000000 in
theorem tick_any {base : Nat} {W : World} {s : Nat} {σ : Sto} (h : StIn base W s σ) (hb : base ≤ W.heap.size) (hn : 0 ≤ σ.now ∧ σ.now ≤ 1099511627775) (n : Int) :
    Calls Tryz.prog 7 #[.pointer (some ⟨s, 0, none⟩), .int .i64 n] W fun e W' => e = .returned (.int .i64 (tickE σ.now n)) ∧ StIn base W' s (tickS σ n) ∧ RowKit.Below base W W' ∧ KeepC W W' := by
  obtain ⟨c5, f5⟩ := h.now
  have HH := Lib.hid h
  clear h
  by_cases h1 : n < 0 ∨ 1099511627776 < n
  · have HE := Lib.hid (show tickE σ.now n = 1 by unfold tickE; rw [if_pos h1])
    have HS := Lib.hid (show tickS σ n = σ by unfold tickS; rw [HE.out, if_neg (by decide)])
    rcases (by omega : n < 0 ∨ (0 ≤ n ∧ 1099511627776 < n)) with g | ⟨g, g2⟩
    all_goals
      clear h1
      go_enter Tryz.func7, Tryz.ntmps7
      go_wp2_with fail
      first | go_ret2 | go_ret
      exact ⟨by rw [HE.out]; rfl, by rw [HS.out]; exact HH.out, RowKit.Below.refl _ _, fun b cs t fr g _ => g⟩
  · have g : 0 ≤ n := by omega
    have g2 : n ≤ 1099511627776 := by omega
    have wa : IntKind.i64.wrap (σ.now + n) = σ.now + n := IntWalk.i64_in _ (by omega)
    by_cases h2 : 1099511627775 < σ.now + n
    · have HE := Lib.hid (show tickE σ.now n = 2 by unfold tickE; rw [if_neg h1, if_pos h2])
      have HS := Lib.hid (show tickS σ n = σ by unfold tickS; rw [HE.out, if_neg (by decide)])
      clear h1
      go_enter Tryz.func7, Tryz.ntmps7
      go_wp2_with fail
      first | go_ret2 | go_ret
      exact ⟨by rw [HE.out]; rfl, by rw [HS.out]; exact HH.out, RowKit.Below.refl _ _, fun b cs t fr g _ => g⟩
    · have g3 : σ.now + n ≤ 1099511627775 := by omega
      have HE := Lib.hid (show tickE σ.now n = 0 by unfold tickE; rw [if_neg h1, if_neg h2])
      have HS := Lib.hid (show tickS σ n = { σ with now := σ.now + n } by unfold tickS; rw [HE.out, if_pos rfl])
      clear h1 h2
      go_enter Tryz.func7, Tryz.ntmps7
      go_wp2_with fail
      first | go_ret2 | go_ret
      exact ⟨by rw [HE.out]; rfl, by rw [HS.out]; exact HH.out.set_now _, HH.out.set_below hb _, HH.out.set_keep _⟩
set_option maxRecDepth 100000 in
theorem now_any {base : Nat} {W : World} {s : Nat} {σ : Sto} (h : StIn base W s σ) :
    Calls Tryz.prog 40 #[.pointer (some ⟨s, 0, none⟩)] W fun e W' => e = .returned (.int .i64 σ.now) ∧ W' = W := by
  obtain ⟨c5, f5⟩ := h.now
  clear h
  go_enter Tryz.func40, Tryz.ntmps40
  go_wp2_with fail
  first | go_ret2 | go_ret
  exact ⟨rfl, rfl⟩
theorem Inv.tick {σ : Sto} (h : Inv σ) (n : Int) : Inv (tickS σ n) ∧ (tickS σ n).ver = σ.ver ∧ (tickS σ n).id = σ.id ∧ (tickS σ n).objs = σ.objs ∧ σ.now ≤ (tickS σ n).now ∧ ((tickS σ n).now = σ.now ∨ (tickS σ n).now ≤ 1099511627775) := by
  unfold tickS
  split
  · rename_i he
    have hn : 0 ≤ n ∧ σ.now + n ≤ 1099511627775 := by
      unfold tickE at he
      split at he
      · cases he
      · split at he
        · cases he
        · omega
    refine ⟨⟨h.ver, h.id, by have := h.now; show 0 ≤ σ.now + n; omega, h.siz, h.tot, h.nob, h.nup, fun p hp => ?_, fun p hp => ?_, h.prt⟩, rfl, rfl, rfl, by show σ.now ≤ σ.now + n; omega, .inr hn.2⟩
    · obtain ⟨q1, q2, q3, q4, q5, q6⟩ := h.obj p hp
      exact ⟨q1, q2, q3, q4, q5, by show p.2.born ≤ σ.now + n; omega⟩
    · obtain ⟨q1, q2, q3, q4, q5, q6⟩ := h.upl p hp
      exact ⟨q1, q2, q3, q4, by show p.2.born ≤ σ.now + n; omega, q6⟩
  · exact ⟨h, rfl, rfl, rfl, Int.le_refl _, .inl rfl⟩
/-- of two objects the one with the greater version is no older -/
def BornI (σ : Sto) : Prop := ∀ p ∈ σ.objs, ∀ q ∈ σ.objs, (p.2.ver = q.2.ver → p.1 = q.1) ∧ (p.2.ver < q.2.ver → p.2.born ≤ q.2.born)
theorem born0 : BornI (sto0 0) := fun p hp => by cases hp
theorem BornI.step {σ σ' : Sto} {ki x v : Int} (h : BornI σ) (hi : Inv σ) (hd : DoRes σ σ' ki x v) : BornI σ' := by
  rcases hd.objs with e | ⟨k, e⟩ | ⟨k, d, e, _⟩
  · intro p hp q hq
    rw [e] at hp hq
    exact h p hp q hq
  · intro p hp q hq
    rw [e] at hp hq
    exact h p (mem_drop hp) q (mem_drop hq)
  · intro p hp q hq
    rw [e] at hp hq
    rcases mem_put hp with rfl | hp
    · rcases mem_put hq with rfl | hq
      · exact ⟨fun _ => rfl, fun _ => Int.le_refl _⟩
      · have h1 := (hi.obj q hq).2.2.2.1
        exact ⟨fun e1 => by simp only at e1; omega, fun e1 => by simp only at e1; omega⟩
    · rcases mem_put hq with rfl | hq
      · have h1 := (hi.obj p hp).2.2.2.1
        exact ⟨fun e1 => by simp only at e1; omega, fun _ => (hi.obj p hp).2.2.2.2.2⟩
      · exact h p hp q hq
theorem BornI.tick {σ : Sto} (h : BornI σ) (hi : Inv σ) (n : Int) : BornI (tickS σ n) := by
  have e := (hi.tick n).2.2.2.1
  intro p hp q hq
  rw [e] at hp hq
  exact h p hp q hq
end Go.Proofs.YtjafagfhkpaciaaGreat
end PkSP7_7
section PkSP7_8
/- The keys of a law's own store, its maps made or not; a row of replies. -/
namespace Go.Proofs.YtjafagfhkpaciaaGreat
open Go.RowKit Go.Shelf Go.Maps Go.Sort
set_option linter.unusedVariables false

set_option maxHeartbeats 1000000 in
theorem sortedO_nil (w : World) :
    Calls Tryz.prog 56 #[.func (.func 64) #[] #[.pointer (some ⟨w.heap.size, 0, none⟩)]] (w.alloc (.cells #[.map none] 48)) fun e w' => ∃ v, e = .returned v ∧
      w'.ownsRow (w.heap.size + 1) 9 1 v 0 [] ∧ RowKit.Below (w.heap.size + 1) (w.alloc (.cells #[.map none] 48)) w' := by
  have hmx : maxLen = 9223372036854775807 := rfl
  have hseq : SeqGives Fence.wide 2 Tryz.prog 64 #[.pointer (some ⟨w.heap.size, 0, none⟩)] encStr (fun ss : List (List UInt8) => ss = []) 0 (w.alloc (.cells #[.map none] 48)) :=
    AnyZ.keys_gives_nil (ρ := sh_keys37_ren) { sh_keys37 with } Fence.wide _ trivial rfl w.heap.size _ (by simp) (by simp)
  refine (callsIn_wide.1 (AnyZ.sorted_in sh_sorted36 Fence.wide 5 trivial trivial trivial trivial rfl (by omega) (sortsS _) (enters_of Tryz.func63 (by kernel_rfl) rfl) 64 #[.pointer (some ⟨w.heap.size, 0, none⟩)] trivial (enters_of Tryz.func64 (by kernel_rfl) rfl) _ 0 (Nat.zero_le _) (by omega) _ hseq)).mono ?_
  rintro e w' ⟨v, ss, rfl, rfl, hrow, hnil, hb⟩
  have hh : (w.alloc (.cells #[.map none] 48)).heap.size = w.heap.size + 1 := by simp
  rw [hh] at hrow hb
  have hr2 : w'.ownsRow (w.heap.size + 1) 9 1 v 0 [] := by
    have h1 : w'.ownsRow (w.heap.size + 1) (sh_sorted36_ren.t 26) 1 v 0 [] := by simpa using hrow
    exact h1
  exact ⟨v, rfl, hr2, hb⟩
set_option maxRecDepth 100000 in
set_option maxHeartbeats 2000000 in
theorem keys_nil {w : World} {s : Nat} (h : w.cell? ⟨s, 0, none⟩ = some (.map none)) :
    Calls Tryz.prog 37 #[.pointer (some ⟨s, 0, none⟩)] w fun e w' => ∃ v, e = .returned v ∧ w'.ownsRow (w.heap.size + 1) 9 1 v 0 [] ∧ RowKit.Below w.heap.size w w' := by
  have H1 := Lib.hid (keysO_any none w)
  have H2 := Lib.hid (sortedO_nil w)
  go_enter Tryz.func37, Tryz.ntmps37
  go_wp2_with fail
  refine H1.out.mono ?_
  rintro e w1 ⟨rfl, rfl⟩
  go_wp2_with fail
  refine H2.out.mono ?_
  rintro e w2 ⟨v, rfl, hrow, hb⟩
  go_wp2_with fail
  first | go_ret2 | go_ret
  exact ⟨v, rfl, hrow, below_two hb⟩
theorem keys_st {base : Nat} {W : World} {s : Nat} {σ : Sto} (h : StIn base W s σ) (hl : σ.objs.length ≤ 100000) :
    Calls Tryz.prog 37 #[.pointer (some ⟨s, 0, none⟩)] W fun e w' => ∃ v, e = .returned v ∧ w'.ownsRow (W.heap.size + 1) 9 1 v σ.objs.length (KeyS.flat (σ.objs.map (·.1))) ∧ RowKit.Below W.heap.size W w' := by
  obtain ⟨_, ⟨Mo, Mu, h1, _⟩ | ⟨h1, h2⟩⟩ := h
  · refine (skeys_any h1 hl).mono ?_
    rintro e w' ⟨v, rfl, hr, hb⟩
    rw [kys_flat] at hr
    exact ⟨v, rfl, hr, hb⟩
  · refine (keys_nil h1.cell0).mono ?_
    rintro e w' ⟨v, rfl, hr, hb⟩
    have e0 : σ.objs = [] := by rw [h2]; rfl
    rw [e0]
    exact ⟨v, rfl, hr, hb⟩
structure RepV where
  ga : Option Addr
  gn : Nat
  gc : Nat
  ver : Int
  born : Int
def repC (x : RepV) : Array Value := #[.int .i64 0, .slice x.ga x.gn x.gc, .int .i64 x.ver, .int .i64 x.born, .int .i64 0, .slice none 0 0, .bool false]
def RepS : Sty RepV := ⟨fun x => [.int .i64 0, .slice x.ga x.gn x.gc, .int .i64 x.ver, .int .i64 x.born, .int .i64 0, .slice none 0 0, .bool false], 7, ⟨none, 0, 0, 0, 0⟩, fun _ _ => True, by decide, fun _ => rfl, (fun x u hu => by
  simp only [List.mem_cons, List.not_mem_nil, or_false] at hu
  rcases hu with rfl | rfl | rfl | rfl | rfl | rfl | rfl <;> rfl), fun _ h => h⟩
theorem info_rep : (Tryz.prog.info? 43).map (fun i => (i.zero, i.size, i.bytes)) = some (some (.agg #[.int .i64 0, .slice none 0 0, .int .i64 0, .int .i64 0, .int .i64 0, .slice none 0 0, .bool false]), 7, 88) := by kernel_rfl
theorem born_pair {σ : Sto} (hB : BornI σ) (ha : Apt σ) {i j : Nat} {p q : ByteArray × ObjS} (hi : σ.objs[i]? = some p) (hj : σ.objs[j]? = some q) (hne : i ≠ j) : p.2.ver ≠ q.2.ver ∧ (p.2.ver < q.2.ver → p.2.born ≤ q.2.born) ∧ (q.2.ver < p.2.ver → q.2.born ≤ p.2.born) := by
  have hp := List.mem_of_getElem? hi
  have hq := List.mem_of_getElem? hj
  refine ⟨fun e => ?_, (hB p hp q hq).2, (hB q hq p hp).2⟩
  have hk := (hB p hp q hq).1 e
  obtain ⟨hi1, rfl⟩ := List.getElem?_eq_some_iff.1 hi
  obtain ⟨hj1, rfl⟩ := List.getElem?_eq_some_iff.1 hj
  rcases Nat.lt_or_ge i j with g | g
  · exact List.pairwise_iff_getElem.1 ha.obj i j hi1 hj1 g (by rw [hk])
  · exact List.pairwise_iff_getElem.1 ha.obj j i hj1 hi1 (by omega) (by rw [hk])
end Go.Proofs.YtjafagfhkpaciaaGreat
end PkSP7_8
section PkSP7_9
/- A law's own store: its lists, its uploads, its size. -/
namespace Go.Proofs.YtjafagfhkpaciaaGreat
open Go.RowKit Go.Shelf Go.Maps Go.Sort
set_option linter.unusedVariables false

section
variable {base : Nat} {W : World} {s : Nat} {σ : Sto} {vr at_ nn id : Int} {ky : ByteArray} {a : Option Addr} {n c : Nat} {xs : List Nat}
theorem lst_row {w W0 w1 w5 : World} {L : List ItemV} {la : Option Addr} {ln lc : Nat} (g3 : w.heap.size + 2 ≤ W0.heap.size) (hr : w1.ownsRow W0.heap.size 54 4 (.slice la ln lc) ln (ItemS.flat L)) (g6 : Frm (fun b => b = w.heap.size + 1) w1 w5) : w5.ownsRow w.heap.size 54 4 (.slice la ln lc) ln (ItemS.flat L) := by
  refine ⟨hr.1, ?_⟩
  rcases hr.2 with g | ⟨g, cap, cu, h1, h2, h3, h4⟩
  · exact .inl g
  · refine .inr ⟨g, cap, cu, h1, by omega, ?_, h4⟩
    exact (g6.block g (Array.getElem?_eq_some_iff.1 h3).1 (by omega)).trans h3
def SeesD (base : Nat) (W : World) (s : Nat) (σ : Sto) (L : List ItemV) (e : Ending) (W' : World) : Prop :=
  Below base W W' ∧ KeepC W W' ∧ StIn base W' s σ ∧ ∃ la ln lc, e = .returned (repV 0 0 0 0 (.slice none 0 0) (.slice la ln lc) (decide (16 < L.length))) ∧ ln ≤ 16 ∧ ln = (L.take 16).length ∧ W'.ownsRow W.heap.size 54 4 (.slice la ln lc) ln (ItemS.flat (L.take 16))
theorem sees_of {Mo Mu : Nat} {L : List ItemV} {e : Ending} {w5 : World} (h : StIn base W s σ) (hb : base ≤ W.heap.size) (hs : SAt W s Mo Mu σ) (hF : ∀ b, StF s Mo Mu σ b → base ≤ b) (hq : LstD W s Mo Mu σ L e w5) : SeesD base W s σ L e w5 := by
  obtain ⟨W0, w1, g2, g3, ⟨q1, q2, la, ln, lc, he, hr, hn⟩, g5, g6⟩ := hq
  have hf := out_frm g2 g5 g6
  have hst := out_st hs g3 q1 (fun b hb => .inl hb) g6
  refine ⟨hf.toBelow hb hF, keepC_of hs hf, ⟨h.1, .inl ⟨Mo, Mu, hst, hF⟩⟩, la, ln, lc, he, hn, ?_, lst_row g3 hr g6⟩
  have h1 := hr.1
  have h2 := ItemS.flat_len (L.take 16)
  have h3 : ItemS.K = 4 := rfl
  rw [h3] at h2
  omega
theorem step_list (h : StIn base W s σ) (hb : base ≤ W.heap.size) (hi : Inv σ) (hx : BytesAt W a n c xs) :
    Calls Tryz.prog 11 #[.pointer (some ⟨s, 0, none⟩), .agg #[.int .i64 5, .string ky, .slice a n c, .int .i64 vr, .int .i64 at_, .int .i64 nn, .int .i64 id]] W (SeesD base W s σ (pageL (wantK ky (bs xs)) (fun p => itemO p.1 p.2) σ.objs)) := by
  obtain ⟨Mo, Mu, hs, hF⟩ := h.sat hb
  exact (doList hs hi hx).mono fun e w5 hq => sees_of h hb hs hF hq
theorem step_opened (h : StIn base W s σ) (hb : base ≤ W.heap.size) (hi : Inv σ) (hidb : σ.id ≤ 1000000000) :
    Calls Tryz.prog 11 #[.pointer (some ⟨s, 0, none⟩), .agg #[.int .i64 11, .string ky, .slice a n c, .int .i64 vr, .int .i64 at_, .int .i64 nn, .int .i64 id]] W (SeesD base W s σ (pageL (fun k => decide (id < k)) (fun p => (⟨p.2.key, p.1, ((psz p.2.parts : Nat) : Int), p.2.born⟩ : ItemV)) σ.ups)) := by
  obtain ⟨Mo, Mu, hs, hF⟩ := h.sat hb
  exact (doOpened hs hi hidb).mono fun e w5 hq => sees_of h hb hs hF hq
end
set_option maxHeartbeats 1000000 in
theorem sortedU_nil (w : World) :
    Calls Tryz.prog 58 #[.func (.func 67) #[] #[.pointer (some ⟨w.heap.size, 0, none⟩)]] (w.alloc (.cells #[.map none] 49)) fun e w' => ∃ v, e = .returned v ∧
      w'.ownsRow (w.heap.size + 1) 3 1 v 0 [] ∧ RowKit.Below (w.heap.size + 1) (w.alloc (.cells #[.map none] 49)) w' := by
  have hmx : maxLen = 9223372036854775807 := rfl
  have hseq : SeqGives Fence.wide 2 Tryz.prog 67 #[.pointer (some ⟨w.heap.size, 0, none⟩)] encZ (fun ss : List Int => ss = []) 0 (w.alloc (.cells #[.map none] 49)) :=
    AnyZI.keys_gives_nil (ρ := sh_keys39_ren) { sh_keys39 with } Fence.wide _ trivial rfl w.heap.size _ (by simp) (by simp)
  refine (callsIn_wide.1 (AnyZI.sorted_in sh_sorted38 Fence.wide 5 trivial trivial trivial trivial rfl (by omega) (sortsI _) (enters_of Tryz.func66 (by kernel_rfl) rfl) 67 #[.pointer (some ⟨w.heap.size, 0, none⟩)] trivial (enters_of Tryz.func67 (by kernel_rfl) rfl) _ 0 (Nat.zero_le _) (by omega) _ hseq)).mono ?_
  rintro e w' ⟨v, ss, rfl, rfl, hrow, hnil, hb⟩
  have hh : (w.alloc (.cells #[.map none] 49)).heap.size = w.heap.size + 1 := by simp
  rw [hh] at hrow hb
  have hr2 : w'.ownsRow (w.heap.size + 1) 3 1 v 0 [] := by
    have h1 : w'.ownsRow (w.heap.size + 1) (sh_sorted38_ren.t 26) 1 v 0 [] := by simpa using hrow
    exact h1
  exact ⟨v, rfl, hr2, hb⟩
set_option maxRecDepth 100000 in
set_option maxHeartbeats 2000000 in
theorem uploads_nil {w : World} {s : Nat} (h : w.cell? ⟨s, 1, none⟩ = some (.map none)) :
    Calls Tryz.prog 38 #[.pointer (some ⟨s, 0, none⟩)] w fun e w' => ∃ v, e = .returned v ∧ w'.ownsRow (w.heap.size + 1) 3 1 v 0 [] ∧ RowKit.Below w.heap.size w w' := by
  have H1 := Lib.hid (keysU_any none w)
  have H2 := Lib.hid (sortedU_nil w)
  go_enter Tryz.func38, Tryz.ntmps38
  go_wp2_with fail
  refine H1.out.mono ?_
  rintro e w1 ⟨rfl, rfl⟩
  go_wp2_with fail
  refine H2.out.mono ?_
  rintro e w2 ⟨v, rfl, hrow, hb⟩
  go_wp2_with fail
  first | go_ret2 | go_ret
  exact ⟨v, rfl, hrow, below_two hb⟩
set_option maxRecDepth 100000 in
set_option maxHeartbeats 2000000 in
theorem uploads_map {w : World} {s Mu : Nat} {l : List (Int × UplS)} (c1 : w.cell? ⟨s, 1, none⟩ = some (.map (some Mu))) (h : GM TU ilit uplC w Mu l) (hl : l.length ≤ 100000) :
    Calls Tryz.prog 38 #[.pointer (some ⟨s, 0, none⟩)] w fun e w' => ∃ v, e = .returned v ∧ w'.ownsRow (w.heap.size + 1) 3 1 v l.length ((idsOf l).map encZ) ∧ RowKit.Below w.heap.size w w' := by
  have H1 := Lib.hid (keysU_any (some Mu) w)
  have H2 := Lib.hid (sortedU_any h hl)
  clear h
  go_enter Tryz.func38, Tryz.ntmps38
  go_wp2_with fail
  refine H1.out.mono ?_
  rintro e w1 ⟨rfl, rfl⟩
  go_wp2_with fail
  refine H2.out.mono ?_
  rintro e w2 ⟨v, rfl, hrow, hb⟩
  go_wp2_with fail
  first | go_ret2 | go_ret
  exact ⟨v, rfl, hrow, below_two hb⟩
theorem uploads_st {base : Nat} {W : World} {s : Nat} {σ : Sto} (h : StIn base W s σ) (hl : σ.ups.length ≤ 100000) :
    Calls Tryz.prog 38 #[.pointer (some ⟨s, 0, none⟩)] W fun e w' => ∃ v, e = .returned v ∧ w'.ownsRow (W.heap.size + 1) 3 1 v σ.ups.length (IntS.flat (σ.ups.map (·.1))) ∧ RowKit.Below W.heap.size W w' := by
  obtain ⟨_, ⟨Mo, Mu, h1, _⟩ | ⟨h1, h2⟩⟩ := h
  · refine (uploads_any h1 hl).mono ?_
    rintro e w' ⟨v, rfl, hr, hb⟩
    rw [ids_flat] at hr
    exact ⟨v, rfl, hr, hb⟩
  · have e0 : σ.ups = [] := by rw [h2]; rfl
    rw [e0]
    obtain ⟨mu, h1, rfl | ⟨m, rfl, hm⟩⟩ := h1
    · refine (uploads_nil (cell_blk2 h1 (i := 1) (u := .map none) rfl)).mono ?_
      rintro e w' ⟨v, rfl, hr, hb⟩
      exact ⟨v, rfl, hr, hb⟩
    · refine (uploads_map (cell_blk2 h1 (i := 1) (u := .map (some m)) rfl) hm (by simp)).mono ?_
      rintro e w' ⟨v, rfl, hr, hb⟩
      exact ⟨v, rfl, hr, hb⟩
theorem StIn.size {base : Nat} {W : World} {s : Nat} {σ : Sto} (h : StIn base W s σ) : W.cell? ⟨s, 4, none⟩ = some (.int .i64 σ.size) := by
  obtain ⟨_, ⟨Mo, Mu, h1, _⟩ | ⟨h1, h2⟩⟩ := h
  · exact cell_blk2 h1.blk rfl
  · rw [h2]
    exact h1.cell4
theorem size_st {base : Nat} {W : World} {s : Nat} {σ : Sto} (h : StIn base W s σ) :
    Calls Tryz.prog 39 #[.pointer (some ⟨s, 0, none⟩)] W fun e W' => e = .returned (.int .i64 σ.size) ∧ W' = W := size_of h.size
end Go.Proofs.YtjafagfhkpaciaaGreat
end PkSP7_9
