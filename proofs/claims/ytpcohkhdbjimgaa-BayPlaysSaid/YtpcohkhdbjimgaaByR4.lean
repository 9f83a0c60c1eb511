/- The document's Drain, walked. -/
import Derived.Test.YtpcohkhdbjimgaaByP
namespace Go.Proofs.Ytpcohkhdbjimgaa
open Go.RowKit Go.Conc
set_option linter.unusedVariables false

theorem kd_size (w : World) : (Go.sizeOf 61).run Try.prog w = .ok 2 w := by kernel_rfl
set_option maxRecDepth 100000 in
theorem kslice_from (a : Option Addr) (n c i : Nat) (hi : i ≤ n) (w : World) :
    (Instr.slice 51 (.slice a n c) (some (.int .i64 (i : Int))) none none).run Try.prog w = .ok (.slice (if c = i then a else a.map (·.add (i * 2))) (n - i) (c - i)) w := by
  have ht' : Try.prog.underlying 51 = some (.slice (Try.prog.elem 51)) := by simp [Program.elem, Try.underlying51]
  have he : Try.prog.elem 51 = 61 := by simp [Program.elem, Try.underlying51]
  rw [run_slice_l w 51 _ _ _ ht' .i64 _ (by omega) (by omega), he, kd_size]
  simp only [Result.andThen, sliced, Int.toNat_natCast]
theorem kslice_to (a : Option Addr) (n c i : Nat) (hi : i ≤ c) (w : World) :
    (Instr.slice 51 (.slice a n c) none (some (.int .i64 (i : Int))) none).run Try.prog w = .ok (.slice a i c) w := by
  have ht' : Try.prog.underlying 51 = some (.slice (Try.prog.elem 51)) := by simp [Program.elem, Try.underlying51]
  have he : Try.prog.elem 51 = 61 := by simp [Program.elem, Try.underlying51]
  rw [run_slice_h w 51 _ _ _ ht' .i64 _ (by omega) (by omega), he, kd_size]
  have hz : a.map (·.add 0) = a := by
    cases a with
    | none => rfl
    | some x =>
      have : x.add 0 = x := by cases x; unfold Addr.add; split <;> simp_all
      simp [this]
  simp only [Result.andThen, sliced, Int.toNat_natCast, Nat.zero_mul, Nat.sub_zero]
  simp [hz]
theorem vec_dropD {w : World} {a : Option Addr} {n c i : Nat} {l : List (ByteArray × Int)} (h : VecAt KdS w a n c l) (hi : i ≤ n) : VecAt KdS w (if c = i then a else a.map (·.add (i * 2))) (n - i) (c - i) (l.drop i) := by
  have h1 := h.cap
  have h2 := h.capm
  have h3 := h.len
  refine ⟨by rw [List.length_drop, h3], by omega, by omega, fun e => ?_, fun x hx => h.all x (List.mem_of_mem_drop hx), fun hp => ?_⟩
  · by_cases hc : c = i
    · omega
    · rw [if_neg hc] at e
      have ha : a = none := by cases a <;> simp_all
      have := h.nl ha
      omega
  · obtain ⟨b, off, rfl, hlt, hc⟩ := h.cells (by omega)
    rw [if_neg (by omega)]
    refine ⟨b, off + i * 2, by simp [Addr.add], hlt, fun k hk j u hu => ?_⟩
    have hg : (l.drop i).getD k KdS.z = l.getD (i + k) KdS.z := by rw [List.getD_eq_getElem?_getD, List.getD_eq_getElem?_getD, List.getElem?_drop]
    rw [hg] at hu
    have h4 := hc (i + k) (by omega) j u hu
    rw [show off + (i + k) * KdS.K + j = off + i * 2 + k * KdS.K + j from by show off + (i + k) * 2 + j = off + i * 2 + k * 2 + j; omega] at h4
    exact h4
theorem vec_takeD {w : World} {a : Option Addr} {n c i : Nat} {l : List (ByteArray × Int)} (h : VecAt KdS w a n c l) (hi : i ≤ n) : VecAt KdS w a i c (l.take i) := by
  have h1 := h.cap
  have h2 := h.capm
  have h3 := h.len
  refine ⟨by rw [List.length_take, h3]; omega, by omega, h2, h.nl, fun x hx => h.all x (List.mem_of_mem_take hx), fun hp => ?_⟩
  obtain ⟨b, off, rfl, hlt, hc⟩ := h.cells (by omega)
  refine ⟨b, off, rfl, hlt, fun k hk j u hu => ?_⟩
  have hg : (l.take i).getD k KdS.z = l.getD k KdS.z := by rw [List.getD_eq_getElem?_getD, List.getD_eq_getElem?_getD, List.getElem?_take_of_lt hk]
  rw [hg] at hu
  exact hc k (by omega) j u hu
theorem vec_oneD (w : World) (q : ByteArray) (u : Int) (hq : q.size ≤ 1000000000000000) : VecAt KdS (w.alloc (.cells #[.string q, .int .i64 u] 61)) (some ⟨w.heap.size, 0, none⟩) 1 1 [(q, u)] := by
  refine ⟨rfl, Nat.le_refl _, by omega, (fun e => by cases e), (fun x hx => by rw [List.mem_singleton.1 hx]; exact hq), fun _ => ⟨w.heap.size, 0, rfl, by simp, fun i hi j v hv => ?_⟩⟩
  obtain rfl : i = 0 := by omega
  have := KdS.src w (q, u) 61 (cs := #[.string q, .int .i64 u]) rfl j v hv
  rw [show (⟨w.heap.size, 0, none⟩ : Addr).add j = ⟨w.heap.size, 0 + 0 * KdS.K + j, none⟩ from by unfold Addr.add; split <;> simp_all] at this
  exact this
theorem grown_set5 (w : World) (g j : Nat) (u : Value) : w.grownBy (w.setCell ⟨g, j, none⟩ u) (some g) :=
  ⟨rfl, rfl, rfl, by simp, fun k _ hk => heap_setCell_other w ⟨g, j, none⟩ k u (fun e => hk (by simp [e]))⟩
theorem own_slice3 {w : World} {base n : Nat} {e : TypeId} {size : Nat} {v : Value} {xs : List Value} (h : w.ownsRow base e size v n xs) : ∃ a c, v = .slice a n c := by
  rcases h.2 with ⟨h0, hz⟩ | ⟨g, cap, cu, h0, _⟩
  · exact ⟨none, 0, by rw [h0, hz]⟩
  · exact ⟨_, _, h0⟩
def RDrnP (w : World) (D base room : Nat) (L : List (ByteArray × Int)) (e : Ending) (w' : World) : Prop :=
  ∃ a N c R, e = .returned (.slice a N c) ∧ VecAt KdS w' a N c R ∧ KSort R ∧ (∀ k, xsOf R k = xsOf L k) ∧ DBay w' D base room [] ∧ Frm (fun i => i = D) w w'
/-- the round's end: a thing put in -/
theorem drn_step {L R : List (ByteArray × Int)} {i m on : Nat} {q : ByteArray} {u : Int} (hx : L[i]? = some (q, u)) (hs : KSort R) (hxs : ∀ k, xsOf R k = xsOf (L.take i) k) (hl : R.length = on) (hm : m ≤ on) (h1 : ∀ y ∈ R.drop m, kL q < kL y.1) (h2 : m = 0 ∨ kL (R.getD (m - 1) KdS.z).1 ≤ kL q) :
    KSort (R.take m ++ [(q, u)] ++ R.drop m) ∧ (∀ k, xsOf (R.take m ++ [(q, u)] ++ R.drop m) k = xsOf (L.take (i + 1)) k) := by
  refine ⟨ins_sort hs (by omega) h1 (take_le hs (by omega) h2), fun k => ?_⟩
  rw [ins_xs (x := (q, u)) h1, hxs, List.take_add_one, hx, Option.toList_some, xsOf_append]
set_option maxRecDepth 100000 in
set_option maxHeartbeats 8000000 in
theorem rbdrain_any {w : World} {D base room : Nat} {L : List (ByteArray × Int)} (h : DBay w D base room L) (hL : L.length ≤ 9000) (hbs : base ≤ w.heap.size) :
    Calls Try.prog 24 #[.pointer (some ⟨D, 0, none⟩)] w (RDrnP w D base room L) := by
  have hDl := h.lt
  obtain ⟨la, ln, lc, hblk, hrow, hll, hlk⟩ := h
  have c0 := cell_blk2 hblk (i := 0) (u := .slice la ln lc) rfl
  have HBLK := Lib.hid hblk
  have HLK := Lib.hid hlk
  have hln : ln ≤ 9000 := by omega
  have hvL : VecAt KdS w la ln lc L := VecAt.ofOwn hrow hll hlk
  have HV := Lib.hid hvL
  have hcp := hvL.cap
  have hcm := hvL.capm
  obtain ⟨b1, hb1e⟩ : ∃ b1, b1 = w.heap.size := ⟨_, rfl⟩
  obtain ⟨W1, hW1⟩ : ∃ W1, W1 = w.alloc (.cells #[] 61) := ⟨_, rfl⟩
  have HB1 := Lib.hid (show Below w.heap.size w W1 from by rw [hW1]; exact (Below.refl _ _).alloc (Nat.le_refl _) _)
  have HO1 := Lib.hid (show W1.ownsRow w.heap.size 61 2 (.slice (some ⟨b1, 0, none⟩) 0 0) 0 (KdS.flat []) from by rw [hW1, hb1e]; exact World.ownsRow_lit (base := w.heap.size) (e := 61) (size := 2) w #[] 0 (Nat.le_refl _) (by unfold maxLen; omega) rfl)
  have e0 : W1.cell? ⟨D, 0, none⟩ = some (.slice la ln lc) := cell_blk2 ((HB1.out.block D hDl).trans hblk) (i := 0) rfl
  have HW1 := Lib.hid hW1
  have HBE := Lib.hid hb1e
  clear hblk hrow hll hlk hvL hW1 hb1e c0
  go_enter Try.func24, Try.ntmps24
  go_upto_region 2 with fail
  rw [← HW1.out, ← HBE.out]
  go_wp2_with fail
  go_loopw [3, 14] (fun s3 s14 wr => ∃ (i oc : Nat) (oa : Option Addr) (R : List (ByteArray × Int)), i ≤ ln ∧ s14 = .int .i64 i ∧ s3 = .slice oa i oc ∧ Hid (R.length = i) ∧ Hid (KSort R) ∧ Hid (∀ k, xsOf R k = xsOf (L.take i) k) ∧ Hid (∀ x ∈ R, x.1.size ≤ 1000000000000000) ∧ Hid (wr.ownsRow w.heap.size 61 2 (.slice oa i oc) i (KdS.flat R)) ∧ Hid (Below w.heap.size w wr)) (fun _ s14 _ => ln - (intOf s14).toNat)
  case atStart => exact ⟨0, 0, _, [], by omega, rfl, rfl, Lib.hid rfl, Lib.hid .nil, Lib.hid (fun k => rfl), Lib.hid (fun x hx => by cases hx), HO1, HB1⟩
  case round =>
    clear HO1 HB1 e0
    obtain ⟨i, oc, oa, R, hi, rfl, rfl, HRL, HS, HX, HRK, HO, HB⟩ := hrel
    rename World => wr
    by_cases hin : i < ln
    · obtain ⟨b, off, rfl, _, hok, hc⟩ := (HV.out.kept HB.out).get hin
      obtain ⟨x, hx⟩ : ∃ x, x = L.getD i KdS.z := ⟨_, rfl⟩
      rw [← hx] at hc hok
      obtain ⟨q, u⟩ := x
      have hqs : q.size ≤ 1000000000000000 := hok
      have HXI := Lib.hid (show L[i]? = some (q, u) from by
        have hl : i < L.length := by rw [HV.out.len]; exact hin
        rw [List.getElem?_eq_getElem hl, hx, List.getD_eq_getElem?_getD, List.getElem?_eq_getElem hl]; rfl)
      have k0 : wr.cell? ⟨b, off + i * 2, none⟩ = some (.string q) := hc 0 _ rfl
      have k1 : wr.cell? ⟨b, off + i * 2 + 1, none⟩ = some (.int .i64 u) := hc 1 _ rfl
      obtain ⟨bx, hbx⟩ : ∃ bx, bx = wr.heap.size := ⟨_, rfl⟩
      obtain ⟨W3, hW3⟩ : ∃ W3, W3 = wr.alloc (.cells #[.string q, .int .i64 u] 61) := ⟨_, rfl⟩
      have hb3 : Below wr.heap.size wr W3 := by rw [hW3]; exact (Below.refl _ _).alloc (Nat.le_refl _) _
      have hk3 : W3.heap[bx]? = some (.cells #[.string q, .int .i64 u] 61 (0, 0)) := by rw [hW3, hbx]; exact heap_new wr _
      have HK3 := Lib.hid hk3
      have HO3 := Lib.hid (own_below HO.out hb3)
      have HV3 := Lib.hid (VecAt.ofOwn HO3.out HRL.out HRK.out)
      have hoc1 := HV3.out.cap
      have hoc2 := HV3.out.capm
      have HB3 := Lib.hid (HB.out.trans (hb3.mono HB.out.size))
      have HW3 := Lib.hid hW3
      have HBX := Lib.hid hbx
      have HBR := Lib.hid (Below.refl W3.heap.size W3)
      have HDE := Lib.hid (show ∀ y ∈ R.drop i, kL q < kL y.1 from fun y hy => by rw [List.drop_of_length_le (by rw [HRL.out]; exact Nat.le_refl _)] at hy; cases hy)
      have zi : (i : Int) < (ln : Int) := by omega
      have zi0 : (0 : Int) ≤ (i : Int) := by omega
      have wi : IntKind.i64.wrap ((i : Int) + 1) = (i : Int) + 1 := IntWalk.i64_in _ (by omega)
      clear hc hx hok hbx hW3 hb3 hk3 HO HB
      go_upto_region 5 with fail
      rw [← HW3.out, ← HBX.out]
      clear k0 k1
      go_wp2_with fail
      go_loopw [6] (fun s6 wq => ∃ (m : Nat), m ≤ i ∧ s6 = .int .i64 m ∧ Hid (∀ y ∈ R.drop m, kL q < kL y.1) ∧ Hid (Below W3.heap.size W3 wq)) (fun s6 _ => (intOf s6).toNat)
      case atStart => exact ⟨i, Nat.le_refl _, rfl, HDE, HBR⟩
      case round =>
        clear HDE HBR
        obtain ⟨m, hm, rfl, HDE, HBR⟩ := hrel
        rename World => wq
        by_cases hm0 : m = 0
        · have HEND := Lib.hid (show m = 0 ∨ kL (R.getD (m - 1) KdS.z).1 ≤ kL q from .inl hm0)
          have hmf : ¬ 0 < m := by omega
          have hmd : decide (0 < m) = false := decide_eq_false hmf
          have hmi : decide ((0 : Int) < (m : Int)) = false := decide_eq_false (by omega)
          clear hm0
          go_wp2_with fail
          go_quiet (fail)
          go_upto_region 8 with fail
          rename Nat => nq
          obtain ⟨WQ, hWQ⟩ : ∃ WQ, WQ = wq.drewN nq := ⟨_, rfl⟩
          have HBQ := Lib.hid (show Below W3.heap.size W3 WQ from by rw [hWQ]; exact below_drewN HBR.out nq)
          rw [← hWQ]
          have HVQ := Lib.hid (HV3.out.kept HBQ.out)
          have HBK := Lib.hid ((HBQ.out.block bx (Array.getElem?_eq_some_iff.1 HK3.out).1).trans HK3.out)
          have HNEW := Lib.hid (drn_step HXI.out HS.out HX.out HRL.out hm HDE.out HEND.out)
          have hst := kslice_to oa i oc m (by omega)
          have hsf := kslice_from oa i oc m (by omega)
          obtain ⟨a5, ha5⟩ : ∃ a5, a5 = (if oc = m then (oa : Option Addr) else (oa : Option Addr).map (·.add (m * 2))) := ⟨_, rfl⟩
          rw [← ha5] at hsf
          have HA5 := Lib.hid ha5
          clear ha5
          have HB5 := Lib.hid (show Below WQ.heap.size WQ (WQ.alloc (.cells #[] 61)) from (Below.refl _ _).alloc (Nat.le_refl _) _)
          have HO5 := Lib.hid (show (WQ.alloc (.cells #[] 61)).ownsRow WQ.heap.size 61 2 (.slice (some ⟨WQ.heap.size, 0, none⟩) 0 0) 0 (KdS.flat []) from World.ownsRow_lit (base := WQ.heap.size) (e := 61) (size := 2) WQ #[] 0 (Nat.le_refl _) (by unfold maxLen; omega) rfl)
          have HV5 := Lib.hid (vec_takeD (HVQ.out.kept HB5.out) hm)
          clear hWQ HDE HEND HBR
          go_wp2_with (at_builtin; refine wpList_append_kd rfl (.tmp 35) (.tmp 38) rfl WQ.heap.size _ _ [] rfl HO5.out _ _ _ (R.take m) rfl HV5.out (by omega) HB5.out.size ?_)
          intro v6 w6 ho6 hg6
          have HB6 := Lib.hid (HB5.out.grown hg6 HB5.out.size (fun k hk => (HO5.out.lt k hk).1))
          have HO6 := Lib.hid (show w6.ownsRow WQ.heap.size 61 2 v6 m (KdS.flat (R.take m)) by simpa using ho6)
          have hk6 := (HB6.out.block bx (Array.getElem?_eq_some_iff.1 HBK.out).1).trans HBK.out
          have k0 := cell_blk2 hk6 (i := 0) (u := .string q) rfl
          have k1 := cell_blk2 hk6 (i := 1) (u := .int .i64 u) rfl
          have hb7 : Below w6.heap.size w6 (w6.alloc (.cells #[.string q, .int .i64 u] 61)) := (Below.refl _ _).alloc (Nat.le_refl _) _
          have HO7 := Lib.hid (own_below HO6.out hb7)
          have HB7 := Lib.hid (HB6.out.trans (hb7.mono HB6.out.size))
          have HV7 := Lib.hid (vec_oneD w6 q u hqs)
          clear ho6 hg6 hk6 hb7 HO5 HB5 HV5
          go_wp2_with (at_builtin; refine wpList_append_kd rfl (.tmp 40) (.tmp 42) rfl WQ.heap.size _ _ (R.take m) rfl HO7.out _ _ _ [(q, u)] rfl HV7.out (by omega) HB7.out.size ?_)
          intro v8 w8 ho8 hg8
          have HB8 := Lib.hid (HB7.out.grown hg8 HB7.out.size (fun k hk => (HO7.out.lt k hk).1))
          have HO8 := Lib.hid ho8
          have HV8 := Lib.hid (show VecAt KdS w8 a5 (i - m) (oc - m) (R.drop m) from by rw [HA5.out]; exact vec_dropD (HVQ.out.kept HB8.out) hm)
          clear ho8 hg8 k0 k1 HO7 HB7 HV7 HO6 HB6
          go_wp2_with (at_builtin; refine wpList_append_kd rfl (.tmp 44) (.tmp 47) rfl WQ.heap.size _ _ (R.take m ++ [(q, u)]) rfl HO8.out _ _ _ (R.drop m) rfl HV8.out (by omega) HB8.out.size ?_)
          intro v9 w9 ho9 hg9
          have HB9 := Lib.hid (HB8.out.grown hg9 HB8.out.size (fun k hk => (HO8.out.lt k hk).1))
          obtain ⟨a9, c9, rfl⟩ := own_slice3 ho9
          rw [show m + 1 + (i - m) = i + 1 from by omega] at ho9
          rw [show m + 1 + (i - m) = i + 1 from by omega]
          have HBW := Lib.hid (HB3.out.trans ((HBQ.out.trans (HB9.out.mono HBQ.out.size)).mono HB3.out.size))
          have HO9 := Lib.hid (own_base (show w9.ownsRow WQ.heap.size 61 2 (.slice a9 (i + 1) c9) (i + 1) (KdS.flat (R.take m ++ [(q, u)] ++ R.drop m)) from by simpa using ho9) (show w.heap.size ≤ WQ.heap.size from Nat.le_trans HB3.out.size HBQ.out.size))
          have HRL9 := Lib.hid (show (R.take m ++ [(q, u)] ++ R.drop m).length = i + 1 from by
            rw [List.length_append, List.length_append, List.length_take, List.length_drop, HRL.out, List.length_singleton]; omega)
          have HRK9 := Lib.hid (show ∀ x ∈ R.take m ++ [(q, u)] ++ R.drop m, x.1.size ≤ 1000000000000000 from fun x hx => by
            rcases List.mem_append.1 hx with g | g
            · rcases List.mem_append.1 g with g | g
              · exact HRK.out x (List.mem_of_mem_take g)
              · rw [List.mem_singleton.1 g]; exact hqs
            · exact HRK.out x (List.mem_of_mem_drop g))
          have HS9 := Lib.hid HNEW.out.1
          have HX9 := Lib.hid HNEW.out.2
          obtain ⟨R9, hR9⟩ : ∃ R9, R9 = R.take m ++ [(q, u)] ++ R.drop m := ⟨_, rfl⟩
          rw [← hR9] at HO9 HRL9 HRK9 HS9 HX9
          clear ho9 hg9 hst hsf hR9 HB8 HO8 HV8 HB9 HNEW
          go_wp2_with fail
          go_roundw
          case rel => exact ⟨i + 1, c9, a9, R9, by omega, by push_cast; rfl, rfl, HRL9, HS9, HX9, HRK9, HO9, HBW⟩
          case measure => simp only [intOf]; omega
        · obtain ⟨p, hp⟩ : ∃ p, m = p + 1 := ⟨m - 1, by omega⟩
          have HVQ0 := HV3.out.kept HBR.out
          obtain ⟨g9, o9, ha9, _, _, hc9⟩ := HVQ0.get (show p < i by omega)
          obtain ⟨y, hy⟩ : ∃ y, y = R.getD p KdS.z := ⟨_, rfl⟩
          rw [← hy] at hc9
          obtain ⟨yk, yu⟩ := y
          have y0 : wq.cell? ⟨g9, o9 + p * 2, none⟩ = some (.string yk) := hc9 0 _ rfl
          have d0 : wq.cell? ⟨bx, 0, none⟩ = some (.string q) := cell_blk2 ((HBR.out.block bx (Array.getElem?_eq_some_iff.1 HK3.out).1).trans HK3.out) (i := 0) rfl
          have hmf : 0 < m := by omega
          have hmd : decide (0 < m) = true := decide_eq_true hmf
          have hmi : (0 : Int) < (m : Int) := by omega
          have wm : IntKind.i64.wrap ((m : Int) - 1) = (p : Int) := by rw [hp]; push_cast; rw [show (p : Int) + 1 - 1 = (p : Int) by omega]; exact IntWalk.i64_in _ (by omega)
          have zp : (p : Int) < (i : Int) := by omega
          have zp0 : (0 : Int) ≤ (p : Int) := by omega
          have HP := Lib.hid hp
          have HY := Lib.hid hy
          clear hc9 hy hp hm0 HVQ0
          subst ha9
          by_cases hgt : kGt yk q = true
          · have HG := Lib.hid ((kGt_iff yk q).1 hgt)
            have hg2 : (!Op.bytesLess yk.toList q.toList && !yk.toList == q.toList) = true := hgt
            rw [Bool.and_eq_true, Bool.not_eq_true', Bool.not_eq_true'] at hg2
            obtain ⟨hg3, hg4⟩ := hg2
            have HDE2 := Lib.hid (show ∀ y ∈ R.drop p, kL q < kL y.1 from drop_gt (x := (q, 0)) (by rw [HRL.out]; omega) (by rw [← HP.out]; exact HDE.out) (by rw [← HY.out]; exact HG.out))
            clear hgt
            go_wp2_with fail
            go_quiet (fail)
            rename Nat => nq
            have HBR2 := Lib.hid (below_drewN HBR.out nq)
            clear y0 d0 hg3 hg4
            go_wp2_with fail
            go_roundw
            case rel => exact ⟨p, by omega, rfl, HDE2, HBR2⟩
            case measure => have := HP.out; simp only [intOf]; omega
          · have hg2 : (!Op.bytesLess yk.toList q.toList && !yk.toList == q.toList) = false := by rw [← Bool.not_eq_true]; exact hgt
            have HEND := Lib.hid (show m = 0 ∨ kL (R.getD (m - 1) KdS.z).1 ≤ kL q from .inr (by
              rw [HP.out, Nat.add_sub_cancel, ← HY.out]
              exact List.not_lt.1 (fun g => hgt ((kGt_iff yk q).2 g))))
            clear hgt
            go_wp2_with fail
            go_quiet (fail)
            clear y0 d0 hg2
            go_upto_region 8 with fail
            rename Nat => nq
            obtain ⟨WQ, hWQ⟩ : ∃ WQ, WQ = wq.drewN nq := ⟨_, rfl⟩
            have HBQ := Lib.hid (show Below W3.heap.size W3 WQ from by rw [hWQ]; exact below_drewN HBR.out nq)
            rw [← hWQ]
            have HVQ := Lib.hid (HV3.out.kept HBQ.out)
            have HBK := Lib.hid ((HBQ.out.block bx (Array.getElem?_eq_some_iff.1 HK3.out).1).trans HK3.out)
            have HNEW := Lib.hid (drn_step HXI.out HS.out HX.out HRL.out hm HDE.out HEND.out)
            have hst := kslice_to (some ⟨g9, o9, none⟩) i oc m (by omega)
            have hsf := kslice_from (some ⟨g9, o9, none⟩) i oc m (by omega)
            obtain ⟨a5, ha5⟩ : ∃ a5, a5 = (if oc = m then ((some ⟨g9, o9, none⟩) : Option Addr) else ((some ⟨g9, o9, none⟩) : Option Addr).map (·.add (m * 2))) := ⟨_, rfl⟩
            rw [← ha5] at hsf
            have HA5 := Lib.hid ha5
            clear ha5
            have HB5 := Lib.hid (show Below WQ.heap.size WQ (WQ.alloc (.cells #[] 61)) from (Below.refl _ _).alloc (Nat.le_refl _) _)
            have HO5 := Lib.hid (show (WQ.alloc (.cells #[] 61)).ownsRow WQ.heap.size 61 2 (.slice (some ⟨WQ.heap.size, 0, none⟩) 0 0) 0 (KdS.flat []) from World.ownsRow_lit (base := WQ.heap.size) (e := 61) (size := 2) WQ #[] 0 (Nat.le_refl _) (by unfold maxLen; omega) rfl)
            have HV5 := Lib.hid (vec_takeD (HVQ.out.kept HB5.out) hm)
            clear hWQ HDE HEND HBR
            go_wp2_with (at_builtin; refine wpList_append_kd rfl (.tmp 35) (.tmp 38) rfl WQ.heap.size _ _ [] rfl HO5.out _ _ _ (R.take m) rfl HV5.out (by omega) HB5.out.size ?_)
            intro v6 w6 ho6 hg6
            have HB6 := Lib.hid (HB5.out.grown hg6 HB5.out.size (fun k hk => (HO5.out.lt k hk).1))
            have HO6 := Lib.hid (show w6.ownsRow WQ.heap.size 61 2 v6 m (KdS.flat (R.take m)) by simpa using ho6)
            have hk6 := (HB6.out.block bx (Array.getElem?_eq_some_iff.1 HBK.out).1).trans HBK.out
            have k0 := cell_blk2 hk6 (i := 0) (u := .string q) rfl
            have k1 := cell_blk2 hk6 (i := 1) (u := .int .i64 u) rfl
            have hb7 : Below w6.heap.size w6 (w6.alloc (.cells #[.string q, .int .i64 u] 61)) := (Below.refl _ _).alloc (Nat.le_refl _) _
            have HO7 := Lib.hid (own_below HO6.out hb7)
            have HB7 := Lib.hid (HB6.out.trans (hb7.mono HB6.out.size))
            have HV7 := Lib.hid (vec_oneD w6 q u hqs)
            clear ho6 hg6 hk6 hb7 HO5 HB5 HV5
            go_wp2_with (at_builtin; refine wpList_append_kd rfl (.tmp 40) (.tmp 42) rfl WQ.heap.size _ _ (R.take m) rfl HO7.out _ _ _ [(q, u)] rfl HV7.out (by omega) HB7.out.size ?_)
            intro v8 w8 ho8 hg8
            have HB8 := Lib.hid (HB7.out.grown hg8 HB7.out.size (fun k hk => (HO7.out.lt k hk).1))
            have HO8 := Lib.hid ho8
            have HV8 := Lib.hid (show VecAt KdS w8 a5 (i - m) (oc - m) (R.drop m) from by rw [HA5.out]; exact vec_dropD (HVQ.out.kept HB8.out) hm)
            clear ho8 hg8 k0 k1 HO7 HB7 HV7 HO6 HB6
            go_wp2_with (at_builtin; refine wpList_append_kd rfl (.tmp 44) (.tmp 47) rfl WQ.heap.size _ _ (R.take m ++ [(q, u)]) rfl HO8.out _ _ _ (R.drop m) rfl HV8.out (by omega) HB8.out.size ?_)
            intro v9 w9 ho9 hg9
            have HB9 := Lib.hid (HB8.out.grown hg9 HB8.out.size (fun k hk => (HO8.out.lt k hk).1))
            obtain ⟨a9, c9, rfl⟩ := own_slice3 ho9
            rw [show m + 1 + (i - m) = i + 1 from by omega] at ho9
            rw [show m + 1 + (i - m) = i + 1 from by omega]
            have HBW := Lib.hid (HB3.out.trans ((HBQ.out.trans (HB9.out.mono HBQ.out.size)).mono HB3.out.size))
            have HO9 := Lib.hid (own_base (show w9.ownsRow WQ.heap.size 61 2 (.slice a9 (i + 1) c9) (i + 1) (KdS.flat (R.take m ++ [(q, u)] ++ R.drop m)) from by simpa using ho9) (show w.heap.size ≤ WQ.heap.size from Nat.le_trans HB3.out.size HBQ.out.size))
            have HRL9 := Lib.hid (show (R.take m ++ [(q, u)] ++ R.drop m).length = i + 1 from by
              rw [List.length_append, List.length_append, List.length_take, List.length_drop, HRL.out, List.length_singleton]; omega)
            have HRK9 := Lib.hid (show ∀ x ∈ R.take m ++ [(q, u)] ++ R.drop m, x.1.size ≤ 1000000000000000 from fun x hx => by
              rcases List.mem_append.1 hx with g | g
              · rcases List.mem_append.1 g with g | g
                · exact HRK.out x (List.mem_of_mem_take g)
                · rw [List.mem_singleton.1 g]; exact hqs
              · exact HRK.out x (List.mem_of_mem_drop g))
            have HS9 := Lib.hid HNEW.out.1
            have HX9 := Lib.hid HNEW.out.2
            obtain ⟨R9, hR9⟩ : ∃ R9, R9 = R.take m ++ [(q, u)] ++ R.drop m := ⟨_, rfl⟩
            rw [← hR9] at HO9 HRL9 HRK9 HS9 HX9
            clear ho9 hg9 hst hsf hR9 HB8 HO8 HV8 HB9 HNEW
            go_wp2_with fail
            go_roundw
            case rel => exact ⟨i + 1, c9, a9, R9, by omega, by push_cast; rfl, rfl, HRL9, HS9, HX9, HRK9, HO9, HBW⟩
            case measure => simp only [intOf]; omega
    · have e : i = ln := by omega
      have hblk := (HB.out.block D hDl).trans HBLK.out
      have hf0 := fro_blk2 hblk 0
      have hc0 := cell_blk2 hblk (i := 0) (u := .slice la ln lc) rfl
      have HLAID := Lib.hid (DBay.laid (L := []) (a' := none) (m := 0) (c' := 0) hblk (World.ownsRow_nil wr base 61 2) rfl (fun x hx => by cases hx))
      have HFR := Lib.hid (show Frm (fun i => i = D) w (wr.setCell ⟨D, 0, none⟩ (.slice none 0 0)) from (Frm.ofBelow (F := fun i => i = D) HB.out).set (p := D) (.inl rfl) 0 _)
      have HOE := Lib.hid (HO.out.kept (grown_set5 wr D 0 (.slice none 0 0)) (.inr (own_neB HO.out hblk (by decide))))
      have HVE := Lib.hid (VecAt.ofOwn HOE.out HRL.out HRK.out)
      have HXE := Lib.hid (show ∀ k, xsOf R k = xsOf L k from fun k => by rw [HX.out, List.take_of_length_le (by rw [HV.out.len, e]; exact Nat.le_refl _)])
      clear hblk HOE
      go_wp2_with fail
      first | go_ret2 | go_ret
      exact ⟨_, _, _, R, rfl, HVE.out, HS.out, HXE.out, HLAID.out, HFR.out⟩
end Go.Proofs.Ytpcohkhdbjimgaa
