/- Texts put together by packtpl2.py: SdS, SdT, AnyOrd, AnyOrd0, SdA, SdDr, SdPt, SdL, VecSet, SdPu, Gm. -/
import Derived.Test.YtodoklnohedolaaPkUC1
import Derived.Deep.RegionHeld3
import Derived.Deep.MidRow
import Derived.Test.YtodoklnohedolaaRows
import Derived.WalkKit
import Derived.Lib.Hide
import Derived.Maps.OwnSet
import Derived.Maps.Range
import Derived.Maps.Ext
section PkUC2_0
/- The document's store: Size, Tick, begins, bad, walked. -/
namespace Go.Proofs.Ytodoklnohedolaa
open Go.RowKit
set_option linter.unusedVariables false

theorem cells_of_below {w w' : World} (hb : Below w.heap.size w w') {b : Nat} {o : Obj} (h : w.heap[b]? = some o) : w'.heap[b]? = some o := (hb.block b (Array.getElem?_eq_some_iff.1 h).1).trans h
theorem psum_le {w : World} {base : Nat} {u : DUpl} (h : UplOk w base u) : psum u.parts ≤ 8388608 := by
  have h1 := sum_bound (fun p : DPrt => p.dn) (B := 262144) (l := u.parts) (fun p hp => (h.prt p hp).small)
  have h2 := h.len
  have h3 := h.few
  unfold psum
  have h4 : 262144 * u.parts.length ≤ 262144 * 32 := Nat.mul_le_mul_left _ (by omega)
  omega
set_option maxRecDepth 100000 in
set_option maxHeartbeats 4000000 in
theorem dsize_any {w : World} {S base : Nat} {σ : DSto} (h : DStAt w S base σ) :
    Calls Try.prog 43 #[.pointer (some ⟨S, 0, none⟩)] w fun e w' => e = .returned (.int .i64 ((osum σ.objs + usum σ.ups : Nat) : Int)) ∧ Below w.heap.size w w' := by
  have c0 := cell_blkD h.blk (i := 0) (u := .slice σ.oa σ.objs.length σ.oc) rfl
  have HH := Lib.hid h
  have hof := h.of
  have huf := h.uf
  obtain ⟨n, hn⟩ : ∃ n, n = σ.objs.length := ⟨_, rfl⟩
  obtain ⟨m, hm⟩ : ∃ m, m = σ.ups.length := ⟨_, rfl⟩
  obtain ⟨oa, hoa⟩ : ∃ oa, oa = σ.oa := ⟨_, rfl⟩
  obtain ⟨ua, hua⟩ : ∃ ua, ua = σ.ua := ⟨_, rfl⟩
  have HV : Hid (VecAt DObjS w oa n σ.oc σ.objs) := Lib.hid (by rw [hn, hoa]; exact h.objs)
  have HU : Hid (VecAt DUplS w ua m σ.uc σ.ups) := Lib.hid (by rw [hm, hua]; exact h.ups)
  have hcp := HV.out.cap
  have hcm := HV.out.capm
  have hup := HU.out.cap
  have hum := HU.out.capm
  have HB0 := Lib.hid (Below.refl w.heap.size w)
  have HBL := Lib.hid h.blk
  rw [← hn, ← hoa] at c0
  rw [← hn] at hof
  rw [← hm] at huf
  have HNM := Lib.hid (And.intro hua hm)
  clear h hn hm hoa hua
  go_enter Try.func43, Try.ntmps43
  go_wp2_with fail
  go_loopw [3, 13] (fun s3 s13 wr => ∃ (i z : Nat), i ≤ n ∧ z ≤ 262144 * i ∧ s13 = .int .i64 i ∧ s3 = .int .i64 z ∧ Hid (z = osum (σ.objs.take i)) ∧ Hid (Below w.heap.size w wr)) (fun _ s13 _ => n - (intOf s13).toNat)
  case atStart => exact ⟨0, 0, by omega, by omega, rfl, rfl, Lib.hid rfl, HB0⟩
  case round =>
    clear HB0 c0
    obtain ⟨i, z, hi, hz, rfl, rfl, HZ, HB⟩ := hrel
    rename World => wr
    by_cases hin : i < n
    · obtain ⟨b, off, rfl, _, _, hc⟩ := (HV.out.kept HB.out).get hin
      have hgl := getD_some (d := DObjS.z) (show i < σ.objs.length by rw [HV.out.len]; exact hin)
      obtain ⟨x, hx⟩ : ∃ x, x = σ.objs.getD i DObjS.z := ⟨_, rfl⟩
      rw [← hx] at hc hgl
      have hsm := (HH.out.obj x (List.mem_of_getElem? hgl)).small
      have HZ2 := Lib.hid (show osum (σ.objs.take (i + 1)) = z + x.dn from by rw [HZ.out]; exact sum_take (·.dn) hgl)
      obtain ⟨xk, xa, xd, xc, xs, xv, xb⟩ := x
      have k0 : wr.cell? ⟨b, off + i * 4, none⟩ = some (.string xk) := hc 0 _ rfl
      have k1 : wr.cell? ⟨b, off + i * 4 + 1, none⟩ = some (.slice xa xd xc) := hc 1 _ rfl
      have k2 : wr.cell? ⟨b, off + i * 4 + 2, none⟩ = some (.int .i64 xv) := hc 2 _ rfl
      have k3 : wr.cell? ⟨b, off + i * 4 + 3, none⟩ = some (.int .i64 xb) := hc 3 _ rfl
      have hxd : xd ≤ 262144 := hsm
      obtain ⟨bx, hbx⟩ : ∃ bx, bx = wr.heap.size := ⟨_, rfl⟩
      obtain ⟨W3, hW3⟩ : ∃ W3, W3 = wr.alloc (.cells #[.string xk, .slice xa xd xc, .int .i64 xv, .int .i64 xb] 56) := ⟨_, rfl⟩
      have hb3 : Below wr.heap.size wr W3 := by rw [hW3]; exact (Below.refl _ _).alloc (Nat.le_refl _) _
      have hk3 : W3.heap[bx]? = some (.cells #[.string xk, .slice xa xd xc, .int .i64 xv, .int .i64 xb] 56 (0, 0)) := by rw [hW3, hbx]; exact heap_alloc_newD wr _
      have d1 := cell_blkD hk3 (i := 1) (u := .slice xa xd xc) rfl
      have HB3 := Lib.hid (HB.out.trans (hb3.mono HB.out.size))
      have HW3 := Lib.hid hW3
      have HBX := Lib.hid hbx
      have zi : (i : Int) < (n : Int) := by omega
      have zi0 : (0 : Int) ≤ (i : Int) := by omega
      have wi : IntKind.i64.wrap ((i : Int) + 1) = (i : Int) + 1 := IntWalk.i64_in _ (by omega)
      have wz : IntKind.i64.wrap ((z : Int) + (xd : Int)) = (z : Int) + (xd : Int) := IntWalk.i64_in _ (by omega)
      clear hc hx hgl hsm hbx hW3 hb3 hk3 HB
      go_upto_region 5 with fail
      rw [← HW3.out, ← HBX.out]
      clear k0 k1 k2 k3
      go_wp2_with fail
      go_roundw
      case rel => exact ⟨i + 1, z + xd, by omega, by omega, by push_cast; rfl, by push_cast; rfl, Lib.hid HZ2.out.symm, HB3⟩
      case measure => simp only [intOf]; omega
    · obtain rfl : i = n := by omega
      have HE := Lib.hid (show osum σ.objs = z from by rw [HZ.out, List.take_of_length_le (by rw [HV.out.len]; omega)])
      have hbl := cells_of_below HB.out HBL.out
      have c1 := cell_blkD hbl (i := 1) (u := .slice ua m σ.uc) (by rw [HNM.out.1, HNM.out.2]; rfl)
      have hzb : z ≤ 134217728 := by omega
      clear hbl hz
      go_wp2_with fail
      go_loopw [3, 28] (fun s3 s28 wq => ∃ (j y : Nat), j ≤ m ∧ y ≤ 134217728 + 8388608 * j ∧ s28 = .int .i64 j ∧ s3 = .int .i64 (y : Int) ∧ Hid (y = z + usum (σ.ups.take j)) ∧ Hid (Below w.heap.size w wq)) (fun _ s28 _ => m - (intOf s28).toNat)
      case atStart => exact ⟨0, z, by omega, by omega, rfl, rfl, Lib.hid rfl, HB⟩
      case round =>
        clear HB c1
        obtain ⟨j, y, hj, hy, rfl, rfl, HY, HB⟩ := hrel
        rename World => wq
        by_cases hjm : j < m
        · obtain ⟨b, off, rfl, _, _, hc⟩ := (HU.out.kept HB.out).get hjm
          have hgl := getD_some (d := DUplS.z) (show j < σ.ups.length by rw [HU.out.len]; exact hjm)
          obtain ⟨x, hx⟩ : ∃ x, x = σ.ups.getD j DUplS.z := ⟨_, rfl⟩
          rw [← hx] at hc hgl
          have hok := HH.out.upl x (List.mem_of_getElem? hgl)
          have hps := psum_le hok
          have hpv : VecAt DPrtS w x.pa x.pn x.pc x.parts := VecAt.ofOwn hok.row hok.len (fun _ _ => trivial)
          have HPS := Lib.hid (show ∀ p ∈ x.parts, p.dn ≤ 262144 from fun p hp => (hok.prt p hp).small)
          have hfew := hok.few
          have HY2 := Lib.hid (show z + usum (σ.ups.take (j + 1)) = y + psum x.parts from by rw [HY.out, Nat.add_assoc]; exact congrArg (z + ·) (sum_take (fun u : DUpl => psum u.parts) hgl))
          obtain ⟨xi, xb, xk, xa, xn, xc, xp⟩ := x
          have k0 : wq.cell? ⟨b, off + j * 4, none⟩ = some (.int .i64 xi) := hc 0 _ rfl
          have k1 : wq.cell? ⟨b, off + j * 4 + 1, none⟩ = some (.int .i64 xb) := hc 1 _ rfl
          have k2 : wq.cell? ⟨b, off + j * 4 + 2, none⟩ = some (.string xk) := hc 2 _ rfl
          have k3 : wq.cell? ⟨b, off + j * 4 + 3, none⟩ = some (.slice xa xn xc) := hc 3 _ rfl
          obtain ⟨bx, hbx⟩ : ∃ bx, bx = wq.heap.size := ⟨_, rfl⟩
          obtain ⟨W3, hW3⟩ : ∃ W3, W3 = wq.alloc (.cells #[.int .i64 xi, .int .i64 xb, .string xk, .slice xa xn xc] 85) := ⟨_, rfl⟩
          have hb3 : Below wq.heap.size wq W3 := by rw [hW3]; exact (Below.refl _ _).alloc (Nat.le_refl _) _
          have hk3 : W3.heap[bx]? = some (.cells #[.int .i64 xi, .int .i64 xb, .string xk, .slice xa xn xc] 85 (0, 0)) := by rw [hW3, hbx]; exact heap_alloc_newD wq _
          have d0 := cell_blkD hk3 (i := 0) (u := .int .i64 xi) rfl
          have d1 := cell_blkD hk3 (i := 1) (u := .int .i64 xb) rfl
          have d2 := cell_blkD hk3 (i := 2) (u := .string xk) rfl
          have d3 := cell_blkD hk3 (i := 3) (u := .slice xa xn xc) rfl
          have HB3 := Lib.hid (HB.out.trans (hb3.mono HB.out.size))
          have HSZ := Lib.hid (dsize1_any (hpv.kept HB3.out) HPS.out hfew xi xb xk)
          obtain ⟨q, hq⟩ : ∃ q, q = psum xp := ⟨_, rfl⟩
          have hq2 : q ≤ 8388608 := by rw [hq]; exact hps
          have HQ := Lib.hid hq
          have HSZ2 := Lib.hid (show Calls Try.prog 50 #[.agg #[.int .i64 xi, .int .i64 xb, .string xk, .slice xa xn xc]] W3 fun e w' => e = .returned (.int .i64 (q : Int)) ∧ Below W3.heap.size W3 w' from by rw [hq]; exact HSZ.out)
          have HW3 := Lib.hid hW3
          have HBX := Lib.hid hbx
          have zi : (j : Int) < (m : Int) := by omega
          have zi0 : (0 : Int) ≤ (j : Int) := by omega
          have wi : IntKind.i64.wrap ((j : Int) + 1) = (j : Int) + 1 := IntWalk.i64_in _ (by omega)
          have wz : IntKind.i64.wrap ((y : Int) + (q : Int)) = (y : Int) + (q : Int) := IntWalk.i64_in _ (by omega)
          clear hc hx hgl hok hps hpv hbx hW3 hb3 hk3 HB HSZ hq
          go_upto_region 10 with fail
          rw [← HW3.out, ← HBX.out]
          clear k0 k1 k2 k3
          go_wp2_with fail
          refine HSZ2.out.mono ?_
          rintro e w9 ⟨rfl, hb9⟩
          have HB9 := Lib.hid (HB3.out.trans (hb9.mono HB3.out.size))
          clear hb9 HSZ2
          go_wp2_with fail
          go_roundw
          case rel => exact ⟨j + 1, y + q, by omega, by omega, by push_cast; rfl, by push_cast; rfl, Lib.hid (by rw [HY2.out, HQ.out]), HB9⟩
          case measure => simp only [intOf]; omega
        · have HE2 := Lib.hid (show osum σ.objs + usum σ.ups = y from by rw [HY.out, HE.out, List.take_of_length_le (by rw [HU.out.len]; omega)])
          go_wp2_with fail
          first | go_ret2 | go_ret
          exact ⟨by rw [HE2.out]; rfl, HB.out⟩
end Go.Proofs.Ytodoklnohedolaa
end PkUC2_0
section PkUC2_1
/- The document's store: Tick, begins, bad, walked. -/
namespace Go.Proofs.Ytodoklnohedolaa
open Go.RowKit
set_option linter.unusedVariables false

/-- what a tick answers -/
def dtickE (now t : Int) : Int := if t < 0 then 1 else if 1099511627776 < t then 1 else if 1099511627775 - now < t then 2 else 0
/-- the clock's cell laid anew -/
theorem DStAt.tick {w : World} {S base : Nat} {σ : DSto} (h : DStAt w S base σ) (x : Int) : DStAt (w.setCell ⟨S, 4, none⟩ (.int .i64 x)) S base { σ with now := x } := by
  have hs := heap_setCell_same w S 4 _ _ (.int .i64 x) h.blk
  have hne : ∀ b, DF S σ b → b ≠ S → (w.setCell ⟨S, 4, none⟩ (.int .i64 x)).heap[b]? = w.heap[b]? := fun b _ e => heap_setCell_other w ⟨S, 4, none⟩ b _ e
  have hty : ∀ {n c N k : Nat} {e : TypeId} {a : Option Addr} {xs : List Value}, w.ownsRow base e k (.slice a n c) N xs → e ≠ 50 → (w.setCell ⟨S, 4, none⟩ (.int .i64 x)).ownsRow base e k (.slice a n c) N xs := fun {n c N k e a xs} ho he => own_same ho fun b hb => heap_setCell_other w ⟨S, 4, none⟩ b _ (fun g => by
    rcases ho.2 with ⟨h0, _⟩ | ⟨q, cap, cur, h1, _, h3, _⟩
    · cases h0; cases hb
    · cases h1
      cases hb
      rw [show q = S from g, h.blk] at h3
      simp at h3
      exact he h3.2.symm)
  exact ⟨by rw [hs]; simp, hty h.orow (by decide), hty h.urow (by decide), fun o ho => ⟨hty (h.obj o ho).row (by decide), (h.obj o ho).byte, (h.obj o ho).len, (h.obj o ho).small⟩,
    fun u hu => ⟨hty (h.upl u hu).row (by decide), (h.upl u hu).len, (h.upl u hu).few, fun p hp => ⟨hty ((h.upl u hu).prt p hp).row (by decide), ((h.upl u hu).prt p hp).byte, ((h.upl u hu).prt p hp).len, ((h.upl u hu).prt p hp).small⟩⟩, h.of, h.uf⟩
theorem grown_setD (w : World) (g j : Nat) (u : Value) : w.grownBy (w.setCell ⟨g, j, none⟩ u) (some g) :=
  ⟨rfl, rfl, rfl, by simp, fun k _ hk => heap_setCell_other w ⟨g, j, none⟩ k u (fun e => hk (by simp [e]))⟩
theorem frz_blkD {w : World} {b : Nat} {cs : Array Value} {t : TypeId} (g : w.heap[b]? = some (.cells cs t (0, 0))) (i : Nat) : w.frozen? ⟨b, i, none⟩ = false := frozen_of_row w b i _ _ g
def DTickP (w : World) (S base : Nat) (σ : DSto) (t : Int) (e : Ending) (w' : World) : Prop := e = .returned (.int .i64 (dtickE σ.now t)) ∧ DStAt w' S base { σ with now := if dtickE σ.now t = 0 then σ.now + t else σ.now } ∧ w.grownBy w' (some S)
theorem DTickP.no {w : World} {S base : Nat} {σ : DSto} {t x : Int} (h : DStAt w S base σ) (he : dtickE σ.now t = x) (hx : x ≠ 0) : DTickP w S base σ t (.returned (.int .i64 x)) w := by
  unfold DTickP
  rw [he, if_neg hx]
  exact ⟨rfl, h, World.grownBy.refl _ _⟩
theorem DTickP.yes {w : World} {S base : Nat} {σ : DSto} {t : Int} (h : DStAt w S base σ) (he : dtickE σ.now t = 0) : DTickP w S base σ t (.returned (.int .i64 0)) (w.setCell ⟨S, 4, none⟩ (.int .i64 (σ.now + t))) := by
  unfold DTickP
  rw [he, if_pos rfl]
  exact ⟨rfl, h.tick _, grown_setD _ _ _ _⟩
set_option maxRecDepth 100000 in
set_option maxHeartbeats 2000000 in
theorem dtick_any {w : World} {S base : Nat} {σ : DSto} (h : DStAt w S base σ) (hn : 0 ≤ σ.now ∧ σ.now ≤ 1099511627775) (t : Int) :
    Calls Try.prog 39 #[.pointer (some ⟨S, 0, none⟩), .int .i64 t] w (DTickP w S base σ t) := by
  have HH := Lib.hid h
  have hf := frz_blkD h.blk 4
  obtain ⟨now, hnow⟩ : ∃ now, now = σ.now := ⟨_, rfl⟩
  have c4 : w.cell? ⟨S, 4, none⟩ = some (.int .i64 now) := by rw [hnow]; exact cell_blkD h.blk (i := 4) rfl
  rw [← hnow] at hn
  have hn1 := hn.1
  have hn2 := hn.2
  have HNW := Lib.hid hnow
  have w1 : IntKind.i64.wrap (1099511627775 - now) = 1099511627775 - now := IntWalk.i64_in _ (by omega)
  clear h hnow hn
  by_cases g1 : t < 0
  · have HE := Lib.hid (DTickP.no (t := t) HH.out (show dtickE σ.now t = 1 from by unfold dtickE; rw [if_pos g1]) (by decide))
    go_enter Try.func39, Try.ntmps39
    go_wp2_with fail
    first | go_ret2 | go_ret
    exact HE.out
  by_cases g2 : 1099511627776 < t
  · have HE := Lib.hid (DTickP.no (t := t) HH.out (show dtickE σ.now t = 1 from by unfold dtickE; rw [if_neg g1, if_pos g2]) (by decide))
    go_enter Try.func39, Try.ntmps39
    go_wp2_with fail
    first | go_ret2 | go_ret
    exact HE.out
  by_cases g3 : 1099511627775 - now < t
  · have HE := Lib.hid (DTickP.no (t := t) HH.out (show dtickE σ.now t = 2 from by unfold dtickE; rw [← HNW.out, if_neg g1, if_neg g2, if_pos g3]) (by decide))
    go_enter Try.func39, Try.ntmps39
    go_wp2_with fail
    first | go_ret2 | go_ret
    exact HE.out
  · have HE := Lib.hid (DTickP.yes (t := t) HH.out (show dtickE σ.now t = 0 from by unfold dtickE; rw [← HNW.out, if_neg g1, if_neg g2, if_neg g3]))
    rw [← HNW.out] at HE
    have w2 : IntKind.i64.wrap (now + t) = now + t := IntWalk.i64_in _ (by omega)
    go_enter Try.func39, Try.ntmps39
    go_wp2_with fail
    first | go_ret2 | go_ret
    exact HE.out
end Go.Proofs.Ytodoklnohedolaa
end PkUC2_1
section PkUC2_2
/- A region whose operations come up in any order: walked once for each operation, not once for each order. -/
namespace Go.Proofs.Ytodoklnohedolaa
open Go.RowKit
set_option linter.unusedVariables false

def slotOf (ops : Array Oper) (i : Nat) : Option Tmp := (ops[i]?).bind (·.dst)
def upd (v : Nat → Value) (i : Nat) (x : Value) : Nat → Value := fun j => if j = i then x else v j
/-- a state in which the first k operations have left these values -/
def fill (ops : Array Oper) (a : Act) (v : Nat → Value) : Nat → Act
  | 0 => a
  | k + 1 => (fill ops a v k).put (slotOf ops k) (v k)
theorem put_put (a : Act) (d : Option Tmp) (x y : Value) : (a.put d x).put d y = a.put d y := by
  cases d with
  | none => rfl
  | some d => simp [Act.put]
theorem put_self (a : Act) (d : Tmp) : a.put (some d) (a.tmps.getD d undef) = a := by
  obtain ⟨t, f⟩ := a
  show (⟨t.setIfInBounds d (t.getD d undef), f⟩ : Act) = ⟨t, f⟩
  congr 1
  apply Array.ext
  · simp
  · intro i h1 h2
    rw [Array.getElem_setIfInBounds]
    split
    · rename_i e; subst e; simp [h2]
    · rfl
theorem fill_ext {ops : Array Oper} {a : Act} {v u : Nat → Value} : ∀ k, (∀ j, j < k → v j = u j) → fill ops a v k = fill ops a u k
  | 0, _ => rfl
  | k + 1, h => by rw [fill, fill, fill_ext k (fun j hj => h j (by omega)), h k (by omega)]
theorem fill_self {ops : Array Oper} {a : Act} : ∀ k, fill ops a (fun i => match slotOf ops i with | some d => a.tmps.getD d undef | none => undef) k = a
  | 0 => rfl
  | k + 1 => by
    rw [fill, fill_self k]
    cases h : slotOf ops k with
    | none => rfl
    | some d => exact put_self a d
theorem fill_upd {ops : Array Oper} {a : Act} {v : Nat → Value} {n : Nat} (hne : ∀ i j d, i < n → j < n → slotOf ops i = some d → slotOf ops j = some d → i = j) {i : Nat} (x : Value) :
    ∀ k, i < k → k ≤ n → (fill ops a v k).put (slotOf ops i) x = fill ops a (upd v i x) k
  | 0, h, _ => by omega
  | k + 1, h, hk => by
    rcases Nat.lt_or_ge i k with g | g
    · have hx : upd v i x k = v k := by unfold upd; rw [if_neg (by omega)]
      rw [fill, fill, ← fill_upd hne x k g (by omega), hx, Act.put_comm _ _ _ (fun d hd hd2 => by have := hne i k d (by omega) (by omega) hd2 hd; omega)]
    · obtain rfl : i = k := by omega
      have hx : upd v i x i = x := by unfold upd; rw [if_pos rfl]
      rw [fill, fill, put_put, hx, show fill ops a (upd v i x) i = fill ops a v i from fill_ext i (fun j hj => by unfold upd; rw [if_neg (by omega)])]

theorem filter_less {α : Type} {p q : α → Bool} (h : ∀ x, q x = true → p x = true) {y : α} (hy : p y = true) (hn : q y = false) : ∀ l : List α, y ∈ l → (l.filter q).length < (l.filter p).length
  | [], hm => by cases hm
  | x :: l, hm => by
    have hle : (l.filter q).length ≤ (l.filter p).length := by
      clear hm
      induction l with
      | nil => exact Nat.le_refl _
      | cons z l ih =>
        cases hq : q z with
        | true => rw [List.filter_cons_of_pos hq, List.filter_cons_of_pos (h z hq)]; simpa using ih
        | false =>
          rw [List.filter_cons_of_neg (by simp [hq])]
          cases hp : p z with
          | true => rw [List.filter_cons_of_pos hp, List.length_cons]; omega
          | false => rw [List.filter_cons_of_neg (by simp [hp])]; exact ih
    rcases List.mem_cons.1 hm with rfl | hm
    · rw [List.filter_cons_of_neg (by simp [hn]), List.filter_cons_of_pos hy, List.length_cons]; omega
    · have ih := filter_less h hy hn l hm
      cases hq : q x with
      | true => rw [List.filter_cons_of_pos hq, List.filter_cons_of_pos (h x hq), List.length_cons, List.length_cons]; omega
      | false =>
        rw [List.filter_cons_of_neg (by simp [hq])]
        cases hp : p x with
        | true => rw [List.filter_cons_of_pos hp, List.length_cons]; omega
        | false => rw [List.filter_cons_of_neg (by simp [hp])]; exact ih

/-- The law. J: what is held of the world all along; F i x w: what is known of operation i's value once it has come up. -/
theorem wp_region_fill {P : Program} {ops : Array Oper} {Q : Exit → Act → World → Prop} {id : Nat} {a : Act} {w : World} (hm : P.follows .mixedOrders = true)
    (hne : ((List.range ops.size).all fun i => (List.range ops.size).all fun j => decide (i = j) || (slotOf ops i == none) || !(slotOf ops i == slotOf ops j)) = true)
    (hac : ((List.range ops.size).all fun i => (ops[i]?).all fun (o : Oper) => o.after.all fun (e : Edge) => !Region.binds .any e || decide (e.on < i)) = true)
    (J : World → Prop) (F : Nat → Value → World → Prop) (hJ : J w.drew)
    (step : ∀ (i : Nat) (o : Oper), ops[i]? = some o → ∀ (v : Nat → Value) (w1 : World) (K : Act → World → Prop), J w1 → (∀ e : Edge, e ∈ o.after → Region.binds .any e = true → F e.on (v e.on) w1) →
      (∀ x w2, J w2 → F i x w2 → (∀ j y, F j y w1 → F j y w2) → ∀ a2, a2 = (fill ops a v ops.size).put o.dst x → K a2 w2) →
      if Region.wanted o (yielded ops (fill ops a v ops.size).tmps) = true then Oper.wp P o (fill ops a v ops.size) w1 K Q else K ((fill ops a v ops.size).put o.dst undef) w1)
    (last : ∀ (v : Nat → Value) (w1 : World), J w1 → (∀ i, i < ops.size → F i (v i) w1) → Q .normal (fill ops a v ops.size) w1) : (Code.region id ops true).wp P Q a w := by
  have hne2 : ∀ i j d, i < ops.size → j < ops.size → slotOf ops i = some d → slotOf ops j = some d → i = j := by
    intro i j d hi hj h1 h2
    have := List.all_eq_true.1 (List.all_eq_true.1 hne i (List.mem_range.2 hi)) j (List.mem_range.2 hj)
    rw [h1, h2] at this
    simpa using this
  have hac2 : ∀ (i : Nat) (o : Oper), ops[i]? = some o → ∀ e : Edge, e ∈ o.after → Region.binds .any e = true → e.on < i := by
    intro i o ho e he hb
    have hlt := (Array.getElem?_eq_some_iff.1 ho).1
    have := List.all_eq_true.1 hac i (List.mem_range.2 hlt)
    rw [ho] at this
    have h3 : (o.after.all fun (e : Edge) => !Region.binds .any e || decide (e.on < i)) = true := this
    have h2 := Array.all_eq_true_iff_forall_mem.1 h3 e he
    rw [hb] at h2
    simpa using h2
  refine wp_region_any hm ?_
  have key : ∀ (fuel : Nat) (listed : Array Bool) (v : Nat → Value) (w1 : World), listed.size = ops.size → J w1 → (∀ i, listed.getD i false = true → F i (v i) w1) →
      ((List.range ops.size).filter fun i => !listed.getD i true).length ≤ fuel → wpAny P .any ops Q fuel listed (fill ops a v ops.size) w1 := by
    intro fuel
    induction fuel with
    | zero =>
      intro listed v w1 hsz hj hf hc
      have hall : ∀ i, i < ops.size → listed.getD i true = true := by
        intro i hi
        cases hl : listed.getD i true with
        | true => rfl
        | false =>
          have : i ∈ (List.range ops.size).filter fun i => !listed.getD i true := List.mem_filter.2 ⟨List.mem_range.2 hi, by rw [hl]; rfl⟩
          rw [List.eq_nil_of_length_eq_zero (by omega : ((List.range ops.size).filter fun i => !listed.getD i true).length = 0)] at this
          cases this
      have hr : Region.ready .any ops listed = [] := by
        rw [List.eq_nil_iff_forall_not_mem]
        intro i hi
        obtain ⟨h1, o, ho, _⟩ := mem_ready.1 hi
        rw [hall i (Array.getElem?_eq_some_iff.1 ho).1] at h1
        cases h1
      refine ⟨hr, last v w1 hj fun i hi => hf i ?_⟩
      have := hall i hi
      simpa [hsz, hi] using this
    | succ fuel ih =>
      intro listed v w1 hsz hj hf hc
      refine ⟨fun hr => last v w1 hj fun i hi => hf i ?_, fun i hi => ?_⟩
      · have : ∀ k, k < ops.size → listed.getD k false = true := by
          intro k
          induction k using Nat.strongRecOn with
          | _ k ihk =>
            intro hk
            cases hl : listed.getD k false with
            | true => rfl
            | false =>
              exfalso
              have hmem : k ∈ Region.ready .any ops listed := mem_ready.2 ⟨by simpa [hsz, hk] using hl, ops[k], by simp [hk], fun e he hb => ihk e.on (hac2 k _ (by simp [hk]) e he hb) (by have := hac2 k _ (by simp [hk] : ops[k]? = some ops[k]) e he hb; omega)⟩
              rw [hr] at hmem
              cases hmem
        exact this i hi
      · obtain ⟨h1, o, ho, h2⟩ := mem_ready.1 hi
        have hlt : i < ops.size := (Array.getElem?_eq_some_iff.1 ho).1
        have hst := step i o ho v w1 (wpAny P .any ops Q fuel (listed.setIfInBounds i true)) hj (fun e he hb => hf e.on (h2 e he hb)) (fun x w2 hj2 hF hmono a2 ha2 => by
          have hso : slotOf ops i = o.dst := by unfold slotOf; rw [ho]; rfl
          rw [ha2, ← hso, fill_upd hne2 x ops.size hlt (Nat.le_refl _)]
          refine ih (listed.setIfInBounds i true) (upd v i x) w2 (by simpa using hsz) hj2 (fun j hjl => ?_) ?_
          · unfold upd
            by_cases e : j = i
            · rw [if_pos e, e]; exact hF
            · rw [if_neg e]
              refine hmono j _ (hf j ?_)
              have hji : ¬ i = j := fun h => e h.symm
              simpa [Array.getD_eq_getD_getElem?, Array.getElem?_setIfInBounds, hji] using hjl
          · have hlt3 := filter_less (p := fun i => !listed.getD i true) (q := fun j => !(listed.setIfInBounds i true).getD j true) (y := i) (fun j hjq => by
              by_cases e : i = j
              · subst e; simpa using h1
              · simpa [Array.getD_eq_getD_getElem?, Array.getElem?_setIfInBounds, e] using hjq) (by simpa using h1) (by simp [Array.getD_eq_getD_getElem?, hsz, hlt]) (List.range ops.size) (List.mem_range.2 hlt)
            omega)
        unfold wpOp
        rw [ho]
        show if Region.wanted o (yielded ops (fill ops a v ops.size).tmps) = true then _ else _
        split at hst
        · rename_i hw; rw [if_pos hw]; exact .inl hst
        · rename_i hw; rw [if_neg hw]; exact hst
  have h0 := key ops.size (Array.replicate ops.size false) (fun i => match slotOf ops i with | some d => a.tmps.getD d undef | none => undef) w.drew (by simp) hJ (fun i hi => by
    exfalso
    by_cases hlt : i < ops.size <;> simp [Array.getD_eq_getD_getElem?, hlt] at hi) (Nat.le_trans (List.length_filter_le _ _) (by simp))
  rw [fill_self] at h0
  exact h0

/-- The law at its widest: I L v w: what holds when the operations of L have come up and left the values v. -/
theorem wp_region_inv {P : Program} {ops : Array Oper} {Q : Exit → Act → World → Prop} {id : Nat} {a : Act} {w : World} (hm : P.follows .mixedOrders = true)
    (hne : ((List.range ops.size).all fun i => (List.range ops.size).all fun j => decide (i = j) || (slotOf ops i == none) || !(slotOf ops i == slotOf ops j)) = true)
    (hac : ((List.range ops.size).all fun i => (ops[i]?).all fun (o : Oper) => o.after.all fun (e : Edge) => !Region.binds .any e || decide (e.on < i)) = true)
    (I : (Nat → Bool) → (Nat → Value) → World → Prop) (h0 : ∀ v, I (fun _ => false) v w.drew)
    (step : ∀ (i : Nat) (o : Oper), ops[i]? = some o → ∀ (L : Nat → Bool) (v : Nat → Value) (w1 : World) (K : Act → World → Prop), I L v w1 → L i = false → (∀ e : Edge, e ∈ o.after → Region.binds .any e = true → L e.on = true) →
      (∀ x w2, I (fun j => L j || decide (j = i)) (upd v i x) w2 → ∀ a2, a2 = (fill ops a v ops.size).put o.dst x → K a2 w2) →
      if Region.wanted o (yielded ops (fill ops a v ops.size).tmps) = true then Oper.wp P o (fill ops a v ops.size) w1 K Q else K ((fill ops a v ops.size).put o.dst undef) w1)
    (last : ∀ (L : Nat → Bool) (v : Nat → Value) (w1 : World), I L v w1 → (∀ i, i < ops.size → L i = true) → Q .normal (fill ops a v ops.size) w1) : (Code.region id ops true).wp P Q a w := by
  have hne2 : ∀ i j d, i < ops.size → j < ops.size → slotOf ops i = some d → slotOf ops j = some d → i = j := by
    intro i j d hi hj h1 h2
    have := List.all_eq_true.1 (List.all_eq_true.1 hne i (List.mem_range.2 hi)) j (List.mem_range.2 hj)
    rw [h1, h2] at this
    simpa using this
  have hac2 : ∀ (i : Nat) (o : Oper), ops[i]? = some o → ∀ e : Edge, e ∈ o.after → Region.binds .any e = true → e.on < i := by
    intro i o ho e he hb
    have hlt := (Array.getElem?_eq_some_iff.1 ho).1
    have := List.all_eq_true.1 hac i (List.mem_range.2 hlt)
    rw [ho] at this
    have h3 : (o.after.all fun (e : Edge) => !Region.binds .any e || decide (e.on < i)) = true := this
    have h2 := Array.all_eq_true_iff_forall_mem.1 h3 e he
    rw [hb] at h2
    simpa using h2
  refine wp_region_any hm ?_
  have key : ∀ (fuel : Nat) (listed : Array Bool) (v : Nat → Value) (w1 : World), listed.size = ops.size → I (fun i => listed.getD i false) v w1 →
      ((List.range ops.size).filter fun i => !listed.getD i true).length ≤ fuel → wpAny P .any ops Q fuel listed (fill ops a v ops.size) w1 := by
    intro fuel
    induction fuel with
    | zero =>
      intro listed v w1 hsz hI hc
      have hall : ∀ i, i < ops.size → listed.getD i true = true := by
        intro i hi
        cases hl : listed.getD i true with
        | true => rfl
        | false =>
          have : i ∈ (List.range ops.size).filter fun i => !listed.getD i true := List.mem_filter.2 ⟨List.mem_range.2 hi, by rw [hl]; rfl⟩
          rw [List.eq_nil_of_length_eq_zero (by omega : ((List.range ops.size).filter fun i => !listed.getD i true).length = 0)] at this
          cases this
      have hr : Region.ready .any ops listed = [] := by
        rw [List.eq_nil_iff_forall_not_mem]
        intro i hi
        obtain ⟨h1, o, ho, _⟩ := mem_ready.1 hi
        rw [hall i (Array.getElem?_eq_some_iff.1 ho).1] at h1
        cases h1
      refine ⟨hr, last _ v w1 hI fun i hi => ?_⟩
      have := hall i hi
      simpa [hsz, hi] using this
    | succ fuel ih =>
      intro listed v w1 hsz hI hc
      refine ⟨fun hr => last _ v w1 hI fun i hi => ?_, fun i hi => ?_⟩
      · have : ∀ k, k < ops.size → listed.getD k false = true := by
          intro k
          induction k using Nat.strongRecOn with
          | _ k ihk =>
            intro hk
            cases hl : listed.getD k false with
            | true => rfl
            | false =>
              exfalso
              have hmem : k ∈ Region.ready .any ops listed := mem_ready.2 ⟨by simpa [hsz, hk] using hl, ops[k], by simp [hk], fun e he hb => ihk e.on (hac2 k _ (by simp [hk]) e he hb) (by have := hac2 k _ (by simp [hk] : ops[k]? = some ops[k]) e he hb; omega)⟩
              rw [hr] at hmem
              cases hmem
        exact this i hi
      · obtain ⟨h1, o, ho, h2⟩ := mem_ready.1 hi
        have hlt : i < ops.size := (Array.getElem?_eq_some_iff.1 ho).1
        have hst := step i o ho (fun i => listed.getD i false) v w1 (wpAny P .any ops Q fuel (listed.setIfInBounds i true)) hI (by simpa [hsz, hlt] using h1) h2 (fun x w2 hI2 a2 ha2 => by
          have hso : slotOf ops i = o.dst := by unfold slotOf; rw [ho]; rfl
          rw [ha2, ← hso, fill_upd hne2 x ops.size hlt (Nat.le_refl _)]
          refine ih (listed.setIfInBounds i true) (upd v i x) w2 (by simpa using hsz) ?_ ?_
          · have he : (fun j => (listed.setIfInBounds i true).getD j false) = fun j => listed.getD j false || decide (j = i) := by
              funext j
              by_cases e : j = i
              · subst e; simp [Array.getD_eq_getD_getElem?, hsz, hlt]
              · have e2 : ¬ i = j := fun h => e h.symm
                simp [Array.getD_eq_getD_getElem?, e, e2]
            rw [he]; exact hI2
          · have hlt3 := filter_less (p := fun i => !listed.getD i true) (q := fun j => !(listed.setIfInBounds i true).getD j true) (y := i) (fun j hjq => by
              by_cases e : i = j
              · subst e; simpa using h1
              · simpa [Array.getD_eq_getD_getElem?, Array.getElem?_setIfInBounds, e] using hjq) (by simpa using h1) (by simp [Array.getD_eq_getD_getElem?, hsz, hlt]) (List.range ops.size) (List.mem_range.2 hlt)
            omega)
        unfold wpOp
        rw [ho]
        show if Region.wanted o (yielded ops (fill ops a v ops.size).tmps) = true then _ else _
        split at hst
        · rename_i hw; rw [if_pos hw]; exact .inl hst
        · rename_i hw; rw [if_neg hw]; exact hst
  have hk := key ops.size (Array.replicate ops.size false) (fun i => match slotOf ops i with | some d => a.tmps.getD d undef | none => undef) w.drew (by simp) (by
    have he : (fun i => (Array.replicate ops.size false).getD i false) = fun _ => false := by
      funext i
      by_cases hlt : i < ops.size <;> simp [Array.getD_eq_getD_getElem?, hlt]
    rw [he]; exact h0 _) (Nat.le_trans (List.length_filter_le _ _) (by simp))
  rw [fill_self] at hk
  exact hk
end Go.Proofs.Ytodoklnohedolaa
end PkUC2_2
section PkUC2_3
/- A region whose operations come up in any order, as wp_region_inv, and told of the values at its start (XHpOrd, for seats with XAnyOrd). -/
namespace Go.Proofs.Ytodoklnohedolaa
open Go.RowKit
set_option linter.unusedVariables false

/-- the values at the start -/
def was (ops : Array Oper) (a : Act) (i : Nat) : Value := match slotOf ops i with | some d => a.tmps.getD d undef | none => undef
theorem fill_was {ops : Array Oper} {a : Act} : ∀ k, fill ops a (was ops a) k = a
  | 0 => rfl
  | k + 1 => by
    rw [fill, fill_was k]
    unfold was
    cases h : slotOf ops k with
    | none => rfl
    | some d => exact put_self a d
theorem wp_region_inv0 {P : Program} {ops : Array Oper} {Q : Exit → Act → World → Prop} {id : Nat} {a : Act} {w : World} (hm : P.follows .mixedOrders = true)
    (hne : ((List.range ops.size).all fun i => (List.range ops.size).all fun j => decide (i = j) || (slotOf ops i == none) || !(slotOf ops i == slotOf ops j)) = true)
    (hac : ((List.range ops.size).all fun i => (ops[i]?).all fun (o : Oper) => o.after.all fun (e : Edge) => !Region.binds .any e || decide (e.on < i)) = true)
    (I : (Nat → Bool) → (Nat → Value) → World → Prop) (h0 : I (fun _ => false) (was ops a) w.drew)
    (step : ∀ (i : Nat) (o : Oper), ops[i]? = some o → ∀ (L : Nat → Bool) (v : Nat → Value) (w1 : World) (K : Act → World → Prop), I L v w1 → L i = false → (∀ e : Edge, e ∈ o.after → Region.binds .any e = true → L e.on = true) →
      (∀ x w2, I (fun j => L j || decide (j = i)) (upd v i x) w2 → ∀ a2, a2 = (fill ops a v ops.size).put o.dst x → K a2 w2) →
      if Region.wanted o (yielded ops (fill ops a v ops.size).tmps) = true then Oper.wp P o (fill ops a v ops.size) w1 K Q else K ((fill ops a v ops.size).put o.dst undef) w1)
    (last : ∀ (L : Nat → Bool) (v : Nat → Value) (w1 : World), I L v w1 → (∀ i, i < ops.size → L i = true) → Q .normal (fill ops a v ops.size) w1) : (Code.region id ops true).wp P Q a w := by
  have hne2 : ∀ i j d, i < ops.size → j < ops.size → slotOf ops i = some d → slotOf ops j = some d → i = j := by
    intro i j d hi hj h1 h2
    have := List.all_eq_true.1 (List.all_eq_true.1 hne i (List.mem_range.2 hi)) j (List.mem_range.2 hj)
    rw [h1, h2] at this
    simpa using this
  have hac2 : ∀ (i : Nat) (o : Oper), ops[i]? = some o → ∀ e : Edge, e ∈ o.after → Region.binds .any e = true → e.on < i := by
    intro i o ho e he hb
    have hlt := (Array.getElem?_eq_some_iff.1 ho).1
    have := List.all_eq_true.1 hac i (List.mem_range.2 hlt)
    rw [ho] at this
    have h3 : (o.after.all fun (e : Edge) => !Region.binds .any e || decide (e.on < i)) = true := this
    have h2 := Array.all_eq_true_iff_forall_mem.1 h3 e he
    rw [hb] at h2
    simpa using h2
  refine wp_region_any hm ?_
  have key : ∀ (fuel : Nat) (listed : Array Bool) (v : Nat → Value) (w1 : World), listed.size = ops.size → I (fun i => listed.getD i false) v w1 →
      ((List.range ops.size).filter fun i => !listed.getD i true).length ≤ fuel → wpAny P .any ops Q fuel listed (fill ops a v ops.size) w1 := by
    intro fuel
    induction fuel with
    | zero =>
      intro listed v w1 hsz hI hc
      have hall : ∀ i, i < ops.size → listed.getD i true = true := by
        intro i hi
        cases hl : listed.getD i true with
        | true => rfl
        | false =>
          have : i ∈ (List.range ops.size).filter fun i => !listed.getD i true := List.mem_filter.2 ⟨List.mem_range.2 hi, by rw [hl]; rfl⟩
          rw [List.eq_nil_of_length_eq_zero (by omega : ((List.range ops.size).filter fun i => !listed.getD i true).length = 0)] at this
          cases this
      have hr : Region.ready .any ops listed = [] := by
        rw [List.eq_nil_iff_forall_not_mem]
        intro i hi
        obtain ⟨h1, o, ho, _⟩ := mem_ready.1 hi
        rw [hall i (Array.getElem?_eq_some_iff.1 ho).1] at h1
        cases h1
      refine ⟨hr, last _ v w1 hI fun i hi => ?_⟩
      have := hall i hi
      simpa [hsz, hi] using this
    | succ fuel ih =>
      intro listed v w1 hsz hI hc
      refine ⟨fun hr => last _ v w1 hI fun i hi => ?_, fun i hi => ?_⟩
      · have : ∀ k, k < ops.size → listed.getD k false = true := by
          intro k
          induction k using Nat.strongRecOn with
          | _ k ihk =>
            intro hk
            cases hl : listed.getD k false with
            | true => rfl
            | false =>
              exfalso
              have hmem : k ∈ Region.ready .any ops listed := mem_ready.2 ⟨by simpa [hsz, hk] using hl, ops[k], by simp [hk], fun e he hb => ihk e.on (hac2 k _ (by simp [hk]) e he hb) (by have := hac2 k _ (by simp [hk] : ops[k]? = some ops[k]) e he hb; omega)⟩
              rw [hr] at hmem
              cases hmem
        exact this i hi
      · obtain ⟨h1, o, ho, h2⟩ := mem_ready.1 hi
        have hlt : i < ops.size := (Array.getElem?_eq_some_iff.1 ho).1
        have hst := step i o ho (fun i => listed.getD i false) v w1 (wpAny P .any ops Q fuel (listed.setIfInBounds i true)) hI (by simpa [hsz, hlt] using h1) h2 (fun x w2 hI2 a2 ha2 => by
          have hso : slotOf ops i = o.dst := by unfold slotOf; rw [ho]; rfl
          rw [ha2, ← hso, fill_upd hne2 x ops.size hlt (Nat.le_refl _)]
          refine ih (listed.setIfInBounds i true) (upd v i x) w2 (by simpa using hsz) ?_ ?_
          · have he : (fun j => (listed.setIfInBounds i true).getD j false) = fun j => listed.getD j false || decide (j = i) := by
              funext j
              by_cases e : j = i
              · subst e; simp [Array.getD_eq_getD_getElem?, hsz, hlt]
              · have e2 : ¬ i = j := fun h => e h.symm
                simp [Array.getD_eq_getD_getElem?, e, e2]
            rw [he]; exact hI2
          · have hlt3 := filter_less (p := fun i => !listed.getD i true) (q := fun j => !(listed.setIfInBounds i true).getD j true) (y := i) (fun j hjq => by
              by_cases e : i = j
              · subst e; simpa using h1
              · simpa [Array.getD_eq_getD_getElem?, Array.getElem?_setIfInBounds, e] using hjq) (by simpa using h1) (by simp [Array.getD_eq_getD_getElem?, hsz, hlt]) (List.range ops.size) (List.mem_range.2 hlt)
            omega)
        unfold wpOp
        rw [ho]
        show if Region.wanted o (yielded ops (fill ops a v ops.size).tmps) = true then _ else _
        split at hst
        · rename_i hw; rw [if_pos hw]; exact .inl hst
        · rename_i hw; rw [if_neg hw]; exact hst
  have hk := key ops.size (Array.replicate ops.size false) (was ops a) w.drew (by simp) (by
    have he : (fun i => (Array.replicate ops.size false).getD i false) = fun _ => false := by
      funext i
      by_cases hlt : i < ops.size <;> simp [Array.getD_eq_getD_getElem?, hlt]
    rw [he]; exact h0) (Nat.le_trans (List.length_filter_le _ _) (by simp))
  rw [fill_was] at hk
  exact hk
end Go.Proofs.Ytodoklnohedolaa
end PkUC2_3
section PkUC2_4
/- Append and slices of the document's objects, uploads and parts. Written by gensda.py. -/
namespace Go.Proofs.Ytodoklnohedolaa
open Go.RowKit
set_option linter.unusedVariables false

theorem own_baseD {w : World} {base base' : Nat} {e : TypeId} {size : Nat} {v : Value} {n : Nat} {xs : List Value} (h : w.ownsRow base e size v n xs) (hb : base' ≤ base) : w.ownsRow base' e size v n xs := by
  refine ⟨h.1, ?_⟩
  rcases h.2 with h0 | ⟨g, cap, cur, h1, h2, h3⟩
  · exact .inl h0
  · exact .inr ⟨g, cap, cur, h1, Nat.le_trans hb h2, h3⟩
theorem own_sliceD {w : World} {base n : Nat} {e : TypeId} {size : Nat} {v : Value} {xs : List Value} (h : w.ownsRow base e size v n xs) : ∃ a c, v = .slice a n c := by
  rcases h.2 with ⟨h0, hz⟩ | ⟨g, cap, cu, h0, _⟩
  · exact ⟨none, 0, by rw [h0, hz]⟩
  · exact ⟨_, _, h0⟩
theorem vec_takeS {α : Type} {S : Sty α} {w : World} {a : Option Addr} {n c i : Nat} {l : List α} (h : VecAt S w a n c l) (hi : i ≤ n) : VecAt S w a i c (l.take i) := by
  have h1 := h.cap
  have h2 := h.capm
  have h3 := h.len
  refine ⟨by rw [List.length_take, h3]; omega, by omega, h2, h.nl, fun x hx => h.all x (List.mem_of_mem_take hx), fun hp => ?_⟩
  obtain ⟨b, off, rfl, hlt, hc⟩ := h.cells (by omega)
  refine ⟨b, off, rfl, hlt, fun k hk j u hu => ?_⟩
  have hg : (l.take i).getD k S.z = l.getD k S.z := by rw [List.getD_eq_getElem?_getD, List.getD_eq_getElem?_getD, List.getElem?_take_of_lt hk]
  rw [hg] at hu
  exact hc k (by omega) j u hu
theorem vec_dropS {α : Type} {S : Sty α} {w : World} {a : Option Addr} {n c i : Nat} {l : List α} (h : VecAt S w a n c l) (hi : i ≤ n) : VecAt S w (if c = i then a else a.map (·.add (i * S.K))) (n - i) (c - i) (l.drop i) := by
  have h1 := h.cap
  have h2 := h.capm
  have h3 := h.len
  refine ⟨by rw [List.length_drop, h3], by omega, by omega, fun e => ?_, fun x hx => h.all x (List.mem_of_mem_drop hx), fun hp => ?_⟩
  · by_cases hc : c = i
    · omega
    · rw [if_neg hc] at e
      have ha : a = none := by cases a <;> simp_all
      have := h.nl ha
      omega
  · obtain ⟨b, off, rfl, hlt, hc⟩ := h.cells (by omega)
    rw [if_neg (by omega)]
    refine ⟨b, off + i * S.K, by simp [Addr.add], hlt, fun k hk j u hu => ?_⟩
    have hg : (l.drop i).getD k S.z = l.getD (i + k) S.z := by rw [List.getD_eq_getElem?_getD, List.getD_eq_getElem?_getD, List.getElem?_drop]
    rw [hg] at hu
    have h4 := hc (i + k) (by omega) j u hu
    rw [show off + (i + k) * S.K + j = off + i * S.K + k * S.K + j from by rw [Nat.add_mul]; omega] at h4
    exact h4
theorem info_dob : (Try.prog.info? 56).map (fun i => (i.zero, i.size, i.bytes)) = some (some (.agg #[.string ByteArray.empty, .slice none 0 0, .int .i64 0, .int .i64 0]), 4, 56) := by kernel_rfl
theorem size_dob (w : World) : (Go.sizeOf 56).run Try.prog w = .ok 4 w := by kernel_rfl
theorem wpList_append_dob {w : World} {ops : Array Oper} {rest : List Oper} {o : Oper} {a : Act} {Q : Exit → Act → World → Prop} (hgd : o.guard = none) (s x : Operand)
    (ho : o.op = .call { callee := .builtin .append, args := #[s, x], argTypes := #[47, 47] })
    (base : Nat) (v : Value) (n : Nat) (xs : List DObj) (hs : a.eval s = v) (hown : w.ownsRow base 56 4 v n (DObjS.flat xs))
    (src : Option Addr) (m c : Nat) (ys : List DObj) (hx : a.eval x = .slice src m c) (hb : VecAt DObjS w src m c ys)
    (h63 : (n + m) * 56 ≤ 140737488355328) (hbase : base ≤ w.heap.size)
    (h : ∀ v' w', w'.ownsRow base 56 4 v' (n + m) (DObjS.flat (xs ++ ys)) → w.grownBy w' v.ownBlock → wpList Try.prog ops Q rest (a.put o.dst v') w') : wpList Try.prog ops Q (o :: rest) a w := by
  obtain ⟨i0, hi, hz0, hz1, hz2⟩ := info_parts info_dob
  rcases src with _ | ad
  · have hc := hb.nl rfl
    have hm : m = 0 := by have := hb.cap; omega
    subst hm
    subst hc
    have hy : ys = [] := List.eq_nil_of_length_eq_zero hb.len
    subst hy
    refine wpList_append_own_none hgd s x 47 ho base 56 i0 4 Try.underlying47 hi v n (DObjS.flat xs) hs hown hx ?_
    exact h v w (by simpa using hown) (World.grownBy.refl _ _)
  · have hfl : DObjS.flat (xs ++ ys) = DObjS.flat xs ++ DObjS.flat ys := by unfold Sty.flat; rw [List.flatMap_append]
    refine wpList_append_own_at w hgd s x 47 ho base 56 i0 _ 4 56 Try.underlying47 hi hz0 hz1 hz2 rfl (by decide) v n (DObjS.flat xs) hs hown ad m c (DObjS.flat ys) hx (by rw [DObjS.flat_len, hb.len]; rfl) hb.src (DObjS.flat_one _) (by unfold maxLen; omega) h63 hbase ?_
    intro v' w' h1 h2 _ _
    exact h v' w' (by rw [hfl]; exact h1) h2
theorem step_append_dob {w : World} {b : Bool} {o : Oper} {a : Act} {K : Act → World → Prop} {Q : Exit → Act → World → Prop} {E : Prop} (hw : b = true) (s x : Operand)
    (ho : o.op = .call { callee := .builtin .append, args := #[s, x], argTypes := #[47, 47] })
    (base : Nat) (v : Value) (n : Nat) (xs : List DObj) (hs : a.eval s = v) (hown : w.ownsRow base 56 4 v n (DObjS.flat xs))
    (src : Option Addr) (m c : Nat) (ys : List DObj) (hx : a.eval x = .slice src m c) (hb : VecAt DObjS w src m c ys)
    (h63 : (n + m) * 56 ≤ 140737488355328) (hbase : base ≤ w.heap.size)
    (h : ∀ v' w', w'.ownsRow base 56 4 v' (n + m) (DObjS.flat (xs ++ ys)) → w.grownBy w' v.ownBlock → K (a.put o.dst v') w') : if b = true then Oper.wp Try.prog o a w K Q else E := by
  rw [if_pos hw]
  obtain ⟨i0, hi, hz0, hz1, hz2⟩ := info_parts info_dob
  rcases src with _ | ad
  · have hc := hb.nl rfl
    have hm : m = 0 := by have := hb.cap; omega
    subst hm
    subst hc
    have hy : ys = [] := List.eq_nil_of_length_eq_zero hb.len
    subst hy
    have hrun := run_append_owned_none (P := Try.prog) (w := w) base 47 o.type 56 i0 4 Try.underlying47 hi v n (DObjS.flat xs) hown
    unfold Oper.wp
    simp [execOp, ho, resolve, invoke, builtin, hs, hx, hrun, Result.andThen]
    exact h v w (by simpa using hown) (World.grownBy.refl _ _)
  · have hfl : DObjS.flat (xs ++ ys) = DObjS.flat xs ++ DObjS.flat ys := by unfold Sty.flat; rw [List.flatMap_append]
    obtain ⟨v', w', hr, h2, h3, _, _⟩ := run_append_own_at (P := Try.prog) w base 47 o.type 56 i0 _ 4 56 Try.underlying47 hi hz0 hz1 hz2 rfl (by decide) v n (DObjS.flat xs) hown ad m c (DObjS.flat ys) (by rw [DObjS.flat_len, hb.len]; rfl) hb.src (DObjS.flat_one _) (by unfold maxLen; omega) h63 hbase
    unfold Oper.wp execOp
    simp only [ho, resolve, invoke, builtin, Sem.run_bind, Sem.run_pure, Result.andThen_ok, List.map_toArray, List.map_cons, List.map_nil, hs, hx, hr]
    exact h v' w' (by rw [hfl]; exact h2) h3
set_option maxRecDepth 100000 in
theorem from_dob (a : Option Addr) (n c i : Nat) (hi : i ≤ n) (w : World) :
    (Instr.slice 47 (.slice a n c) (some (.int .i64 (i : Int))) none none).run Try.prog w = .ok (.slice (if c = i then a else a.map (·.add (i * 4))) (n - i) (c - i)) w := by
  have ht' : Try.prog.underlying 47 = some (.slice (Try.prog.elem 47)) := by simp [Program.elem, Try.underlying47]
  have he : Try.prog.elem 47 = 56 := by simp [Program.elem, Try.underlying47]
  rw [run_slice_l w 47 _ _ _ ht' .i64 _ (by omega) (by omega), he, size_dob]
  simp only [Result.andThen, sliced, Int.toNat_natCast]
theorem to_dob (a : Option Addr) (n c i : Nat) (hi : i ≤ c) (w : World) :
    (Instr.slice 47 (.slice a n c) none (some (.int .i64 (i : Int))) none).run Try.prog w = .ok (.slice a i c) w := by
  have ht' : Try.prog.underlying 47 = some (.slice (Try.prog.elem 47)) := by simp [Program.elem, Try.underlying47]
  have he : Try.prog.elem 47 = 56 := by simp [Program.elem, Try.underlying47]
  rw [run_slice_h w 47 _ _ _ ht' .i64 _ (by omega) (by omega), he, size_dob]
  have hz : a.map (·.add 0) = a := by
    cases a with
    | none => rfl
    | some x =>
      have : x.add 0 = x := by cases x; unfold Addr.add; split <;> simp_all
      simp [this]
  simp only [Result.andThen, sliced, Int.toNat_natCast, Nat.zero_mul, Nat.sub_zero]
  simp [hz]
theorem info_dup : (Try.prog.info? 85).map (fun i => (i.zero, i.size, i.bytes)) = some (some (.agg #[.int .i64 0, .int .i64 0, .string ByteArray.empty, .slice none 0 0]), 4, 56) := by kernel_rfl
theorem size_dup (w : World) : (Go.sizeOf 85).run Try.prog w = .ok 4 w := by kernel_rfl
theorem wpList_append_dup {w : World} {ops : Array Oper} {rest : List Oper} {o : Oper} {a : Act} {Q : Exit → Act → World → Prop} (hgd : o.guard = none) (s x : Operand)
    (ho : o.op = .call { callee := .builtin .append, args := #[s, x], argTypes := #[48, 48] })
    (base : Nat) (v : Value) (n : Nat) (xs : List DUpl) (hs : a.eval s = v) (hown : w.ownsRow base 85 4 v n (DUplS.flat xs))
    (src : Option Addr) (m c : Nat) (ys : List DUpl) (hx : a.eval x = .slice src m c) (hb : VecAt DUplS w src m c ys)
    (h63 : (n + m) * 56 ≤ 140737488355328) (hbase : base ≤ w.heap.size)
    (h : ∀ v' w', w'.ownsRow base 85 4 v' (n + m) (DUplS.flat (xs ++ ys)) → w.grownBy w' v.ownBlock → wpList Try.prog ops Q rest (a.put o.dst v') w') : wpList Try.prog ops Q (o :: rest) a w := by
  obtain ⟨i0, hi, hz0, hz1, hz2⟩ := info_parts info_dup
  rcases src with _ | ad
  · have hc := hb.nl rfl
    have hm : m = 0 := by have := hb.cap; omega
    subst hm
    subst hc
    have hy : ys = [] := List.eq_nil_of_length_eq_zero hb.len
    subst hy
    refine wpList_append_own_none hgd s x 48 ho base 85 i0 4 Try.underlying48 hi v n (DUplS.flat xs) hs hown hx ?_
    exact h v w (by simpa using hown) (World.grownBy.refl _ _)
  · have hfl : DUplS.flat (xs ++ ys) = DUplS.flat xs ++ DUplS.flat ys := by unfold Sty.flat; rw [List.flatMap_append]
    refine wpList_append_own_at w hgd s x 48 ho base 85 i0 _ 4 56 Try.underlying48 hi hz0 hz1 hz2 rfl (by decide) v n (DUplS.flat xs) hs hown ad m c (DUplS.flat ys) hx (by rw [DUplS.flat_len, hb.len]; rfl) hb.src (DUplS.flat_one _) (by unfold maxLen; omega) h63 hbase ?_
    intro v' w' h1 h2 _ _
    exact h v' w' (by rw [hfl]; exact h1) h2
theorem step_append_dup {w : World} {b : Bool} {o : Oper} {a : Act} {K : Act → World → Prop} {Q : Exit → Act → World → Prop} {E : Prop} (hw : b = true) (s x : Operand)
    (ho : o.op = .call { callee := .builtin .append, args := #[s, x], argTypes := #[48, 48] })
    (base : Nat) (v : Value) (n : Nat) (xs : List DUpl) (hs : a.eval s = v) (hown : w.ownsRow base 85 4 v n (DUplS.flat xs))
    (src : Option Addr) (m c : Nat) (ys : List DUpl) (hx : a.eval x = .slice src m c) (hb : VecAt DUplS w src m c ys)
    (h63 : (n + m) * 56 ≤ 140737488355328) (hbase : base ≤ w.heap.size)
    (h : ∀ v' w', w'.ownsRow base 85 4 v' (n + m) (DUplS.flat (xs ++ ys)) → w.grownBy w' v.ownBlock → K (a.put o.dst v') w') : if b = true then Oper.wp Try.prog o a w K Q else E := by
  rw [if_pos hw]
  obtain ⟨i0, hi, hz0, hz1, hz2⟩ := info_parts info_dup
  rcases src with _ | ad
  · have hc := hb.nl rfl
    have hm : m = 0 := by have := hb.cap; omega
    subst hm
    subst hc
    have hy : ys = [] := List.eq_nil_of_length_eq_zero hb.len
    subst hy
    have hrun := run_append_owned_none (P := Try.prog) (w := w) base 48 o.type 85 i0 4 Try.underlying48 hi v n (DUplS.flat xs) hown
    unfold Oper.wp
    simp [execOp, ho, resolve, invoke, builtin, hs, hx, hrun, Result.andThen]
    exact h v w (by simpa using hown) (World.grownBy.refl _ _)
  · have hfl : DUplS.flat (xs ++ ys) = DUplS.flat xs ++ DUplS.flat ys := by unfold Sty.flat; rw [List.flatMap_append]
    obtain ⟨v', w', hr, h2, h3, _, _⟩ := run_append_own_at (P := Try.prog) w base 48 o.type 85 i0 _ 4 56 Try.underlying48 hi hz0 hz1 hz2 rfl (by decide) v n (DUplS.flat xs) hown ad m c (DUplS.flat ys) (by rw [DUplS.flat_len, hb.len]; rfl) hb.src (DUplS.flat_one _) (by unfold maxLen; omega) h63 hbase
    unfold Oper.wp execOp
    simp only [ho, resolve, invoke, builtin, Sem.run_bind, Sem.run_pure, Result.andThen_ok, List.map_toArray, List.map_cons, List.map_nil, hs, hx, hr]
    exact h v' w' (by rw [hfl]; exact h2) h3
set_option maxRecDepth 100000 in
theorem from_dup (a : Option Addr) (n c i : Nat) (hi : i ≤ n) (w : World) :
    (Instr.slice 48 (.slice a n c) (some (.int .i64 (i : Int))) none none).run Try.prog w = .ok (.slice (if c = i then a else a.map (·.add (i * 4))) (n - i) (c - i)) w := by
  have ht' : Try.prog.underlying 48 = some (.slice (Try.prog.elem 48)) := by simp [Program.elem, Try.underlying48]
  have he : Try.prog.elem 48 = 85 := by simp [Program.elem, Try.underlying48]
  rw [run_slice_l w 48 _ _ _ ht' .i64 _ (by omega) (by omega), he, size_dup]
  simp only [Result.andThen, sliced, Int.toNat_natCast]
theorem to_dup (a : Option Addr) (n c i : Nat) (hi : i ≤ c) (w : World) :
    (Instr.slice 48 (.slice a n c) none (some (.int .i64 (i : Int))) none).run Try.prog w = .ok (.slice a i c) w := by
  have ht' : Try.prog.underlying 48 = some (.slice (Try.prog.elem 48)) := by simp [Program.elem, Try.underlying48]
  have he : Try.prog.elem 48 = 85 := by simp [Program.elem, Try.underlying48]
  rw [run_slice_h w 48 _ _ _ ht' .i64 _ (by omega) (by omega), he, size_dup]
  have hz : a.map (·.add 0) = a := by
    cases a with
    | none => rfl
    | some x =>
      have : x.add 0 = x := by cases x; unfold Addr.add; split <;> simp_all
      simp [this]
  simp only [Result.andThen, sliced, Int.toNat_natCast, Nat.zero_mul, Nat.sub_zero]
  simp [hz]
theorem info_dpr : (Try.prog.info? 115).map (fun i => (i.zero, i.size, i.bytes)) = some (some (.agg #[.int .i64 0, .slice none 0 0]), 2, 32) := by kernel_rfl
theorem size_dpr (w : World) : (Go.sizeOf 115).run Try.prog w = .ok 2 w := by kernel_rfl
theorem wpList_append_dpr {w : World} {ops : Array Oper} {rest : List Oper} {o : Oper} {a : Act} {Q : Exit → Act → World → Prop} (hgd : o.guard = none) (s x : Operand)
    (ho : o.op = .call { callee := .builtin .append, args := #[s, x], argTypes := #[83, 83] })
    (base : Nat) (v : Value) (n : Nat) (xs : List DPrt) (hs : a.eval s = v) (hown : w.ownsRow base 115 2 v n (DPrtS.flat xs))
    (src : Option Addr) (m c : Nat) (ys : List DPrt) (hx : a.eval x = .slice src m c) (hb : VecAt DPrtS w src m c ys)
    (h63 : (n + m) * 32 ≤ 140737488355328) (hbase : base ≤ w.heap.size)
    (h : ∀ v' w', w'.ownsRow base 115 2 v' (n + m) (DPrtS.flat (xs ++ ys)) → w.grownBy w' v.ownBlock → wpList Try.prog ops Q rest (a.put o.dst v') w') : wpList Try.prog ops Q (o :: rest) a w := by
  obtain ⟨i0, hi, hz0, hz1, hz2⟩ := info_parts info_dpr
  rcases src with _ | ad
  · have hc := hb.nl rfl
    have hm : m = 0 := by have := hb.cap; omega
    subst hm
    subst hc
    have hy : ys = [] := List.eq_nil_of_length_eq_zero hb.len
    subst hy
    refine wpList_append_own_none hgd s x 83 ho base 115 i0 2 Try.underlying83 hi v n (DPrtS.flat xs) hs hown hx ?_
    exact h v w (by simpa using hown) (World.grownBy.refl _ _)
  · have hfl : DPrtS.flat (xs ++ ys) = DPrtS.flat xs ++ DPrtS.flat ys := by unfold Sty.flat; rw [List.flatMap_append]
    refine wpList_append_own_at w hgd s x 83 ho base 115 i0 _ 2 32 Try.underlying83 hi hz0 hz1 hz2 rfl (by decide) v n (DPrtS.flat xs) hs hown ad m c (DPrtS.flat ys) hx (by rw [DPrtS.flat_len, hb.len]; rfl) hb.src (DPrtS.flat_one _) (by unfold maxLen; omega) h63 hbase ?_
    intro v' w' h1 h2 _ _
    exact h v' w' (by rw [hfl]; exact h1) h2
theorem step_append_dpr {w : World} {b : Bool} {o : Oper} {a : Act} {K : Act → World → Prop} {Q : Exit → Act → World → Prop} {E : Prop} (hw : b = true) (s x : Operand)
    (ho : o.op = .call { callee := .builtin .append, args := #[s, x], argTypes := #[83, 83] })
    (base : Nat) (v : Value) (n : Nat) (xs : List DPrt) (hs : a.eval s = v) (hown : w.ownsRow base 115 2 v n (DPrtS.flat xs))
    (src : Option Addr) (m c : Nat) (ys : List DPrt) (hx : a.eval x = .slice src m c) (hb : VecAt DPrtS w src m c ys)
    (h63 : (n + m) * 32 ≤ 140737488355328) (hbase : base ≤ w.heap.size)
    (h : ∀ v' w', w'.ownsRow base 115 2 v' (n + m) (DPrtS.flat (xs ++ ys)) → w.grownBy w' v.ownBlock → K (a.put o.dst v') w') : if b = true then Oper.wp Try.prog o a w K Q else E := by
  rw [if_pos hw]
  obtain ⟨i0, hi, hz0, hz1, hz2⟩ := info_parts info_dpr
  rcases src with _ | ad
  · have hc := hb.nl rfl
    have hm : m = 0 := by have := hb.cap; omega
    subst hm
    subst hc
    have hy : ys = [] := List.eq_nil_of_length_eq_zero hb.len
    subst hy
    have hrun := run_append_owned_none (P := Try.prog) (w := w) base 83 o.type 115 i0 2 Try.underlying83 hi v n (DPrtS.flat xs) hown
    unfold Oper.wp
    simp [execOp, ho, resolve, invoke, builtin, hs, hx, hrun, Result.andThen]
    exact h v w (by simpa using hown) (World.grownBy.refl _ _)
  · have hfl : DPrtS.flat (xs ++ ys) = DPrtS.flat xs ++ DPrtS.flat ys := by unfold Sty.flat; rw [List.flatMap_append]
    obtain ⟨v', w', hr, h2, h3, _, _⟩ := run_append_own_at (P := Try.prog) w base 83 o.type 115 i0 _ 2 32 Try.underlying83 hi hz0 hz1 hz2 rfl (by decide) v n (DPrtS.flat xs) hown ad m c (DPrtS.flat ys) (by rw [DPrtS.flat_len, hb.len]; rfl) hb.src (DPrtS.flat_one _) (by unfold maxLen; omega) h63 hbase
    unfold Oper.wp execOp
    simp only [ho, resolve, invoke, builtin, Sem.run_bind, Sem.run_pure, Result.andThen_ok, List.map_toArray, List.map_cons, List.map_nil, hs, hx, hr]
    exact h v' w' (by rw [hfl]; exact h2) h3
set_option maxRecDepth 100000 in
theorem from_dpr (a : Option Addr) (n c i : Nat) (hi : i ≤ n) (w : World) :
    (Instr.slice 83 (.slice a n c) (some (.int .i64 (i : Int))) none none).run Try.prog w = .ok (.slice (if c = i then a else a.map (·.add (i * 2))) (n - i) (c - i)) w := by
  have ht' : Try.prog.underlying 83 = some (.slice (Try.prog.elem 83)) := by simp [Program.elem, Try.underlying83]
  have he : Try.prog.elem 83 = 115 := by simp [Program.elem, Try.underlying83]
  rw [run_slice_l w 83 _ _ _ ht' .i64 _ (by omega) (by omega), he, size_dpr]
  simp only [Result.andThen, sliced, Int.toNat_natCast]
theorem to_dpr (a : Option Addr) (n c i : Nat) (hi : i ≤ c) (w : World) :
    (Instr.slice 83 (.slice a n c) none (some (.int .i64 (i : Int))) none).run Try.prog w = .ok (.slice a i c) w := by
  have ht' : Try.prog.underlying 83 = some (.slice (Try.prog.elem 83)) := by simp [Program.elem, Try.underlying83]
  have he : Try.prog.elem 83 = 115 := by simp [Program.elem, Try.underlying83]
  rw [run_slice_h w 83 _ _ _ ht' .i64 _ (by omega) (by omega), he, size_dpr]
  have hz : a.map (·.add 0) = a := by
    cases a with
    | none => rfl
    | some x =>
      have : x.add 0 = x := by cases x; unfold Addr.add; split <;> simp_all
      simp [this]
  simp only [Result.andThen, sliced, Int.toNat_natCast, Nat.zero_mul, Nat.sub_zero]
  simp [hz]
end Go.Proofs.Ytodoklnohedolaa
end PkUC2_4
section PkUC2_5
/- The document's drop, walked. Written by gensddr.py. -/
namespace Go.Proofs.Ytodoklnohedolaa
open Go.RowKit
set_option linter.unusedVariables false

/-- the list of a drop -/
def outK {α : Type} (l : List α) (i : Nat) : List α := l.take i ++ l.drop (i + 1)
theorem outK_mem {α : Type} {l : List α} {i : Nat} {x : α} (h : x ∈ outK l i) : x ∈ l := by
  rcases List.mem_append.1 h with g | g
  · exact List.mem_of_mem_take g
  · exact List.mem_of_mem_drop g
theorem outK_len {α : Type} {l : List α} {i : Nat} (h : i < l.length) : (outK l i).length = i + (l.length - (i + 1)) := by
  unfold outK
  rw [List.length_append, List.length_take, List.length_drop]
  omega
/-- the uploads laid anew -/
theorem DStAt.upsLaid {w : World} {S base : Nat} {σ : DSto} (h : DStAt w S base σ) {a : Option Addr} {c N : Nat} {us : List DUpl} (hr : w.ownsRow base 85 4 (.slice a N c) N (DUplS.flat us)) (hN : N = us.length) (hu : ∀ u ∈ us, UplOk w base u) (hl : us.length ≤ 512) : DStAt (w.setCell ⟨S, 1, none⟩ (.slice a N c)) S base { σ with ua := a, uc := c, ups := us } := by
  subst hN
  have hs := heap_setCell_same w S 1 _ _ (.slice a us.length c) h.blk
  have hty : ∀ {n c' N' k : Nat} {e : TypeId} {a' : Option Addr} {xs : List Value}, w.ownsRow base e k (.slice a' n c') N' xs → e ≠ 50 → (w.setCell ⟨S, 1, none⟩ (.slice a us.length c)).ownsRow base e k (.slice a' n c') N' xs := fun {n c' N' k e a' xs} ho he => own_same ho fun b hb => heap_setCell_other w ⟨S, 1, none⟩ b _ (fun g => by
    rcases ho.2 with ⟨h0, _⟩ | ⟨q, cap, cur, h1, _, h3, _⟩
    · cases h0; cases hb
    · cases h1
      cases hb
      rw [show q = S from g, h.blk] at h3
      simp at h3
      exact he h3.2.symm)
  exact ⟨by rw [hs]; simp, hty h.orow (by decide), hty hr (by decide), fun o ho => ⟨hty (h.obj o ho).row (by decide), (h.obj o ho).byte, (h.obj o ho).len, (h.obj o ho).small⟩,
    fun u hu' => ⟨hty (hu u hu').row (by decide), (hu u hu').len, (hu u hu').few, fun p hp => ⟨hty ((hu u hu').prt p hp).row (by decide), ((hu u hu').prt p hp).byte, ((hu u hu').prt p hp).len, ((hu u hu').prt p hp).small⟩⟩, h.of, hl⟩
def DrpP (w : World) (S base : Nat) (σ : DSto) (i : Nat) (w' : World) : Prop := (∃ a c, DStAt w' S base { σ with ua := a, uc := c, ups := outK σ.ups i }) ∧ w.grownBy w' (some S)
/-- the region's invariant -/
structure DrI (w : World) (S base : Nat) (σ : DSto) (i m : Nat) (vals : Nat → Option Value) (T : Nat → Bool) (v : Nat → Value) (w1 : World) : Prop where
  st : T 19 = false → Below w.heap.size w w1
  fin : T 19 = true → DrpP w S base σ i w1
  k1 : T 1 = true → T 8 = false → w1.ownsRow w.heap.size 85 4 (v 1) 0 (DUplS.flat [])
  k8 : T 8 = true → T 16 = false → w1.ownsRow w.heap.size 85 4 (v 8) i (DUplS.flat (σ.ups.take i))
  k16 : T 16 = true → T 19 = false → w1.ownsRow w.heap.size 85 4 (v 16) (i + (m - (i + 1))) (DUplS.flat (outK σ.ups i))
  c8 : T 8 = true → T 1 = true ∧ T 5 = true
  c16 : T 16 = true → T 8 = true ∧ T 12 = true
  c19 : T 19 = true → T 16 = true
  c7 : T 7 = true → T 5 = true
  c15 : T 15 = true → T 12 = true
  vs : ∀ j u, T j = true → vals j = some u → v j = u
theorem updD_ne {v : Nat → Value} {i j : Nat} {x : Value} (h : j ≠ i) : upd v i x j = v j := by unfold upd; rw [if_neg h]
theorem updD_eq {v : Nat → Value} {i : Nat} {x : Value} : upd v i x i = x := by unfold upd; rw [if_pos rfl]
theorem TD_ne {T : Nat → Bool} {i j : Nat} (h : j ≠ i) : (T j || decide (j = i)) = T j := by rw [decide_eq_false h, Bool.or_false]
theorem TD_eq {T : Nat → Bool} {i : Nat} : (T i || decide (i = i)) = true := by simp
theorem TD_up {T : Nat → Bool} {i j : Nat} (h : T j = true) : (T j || decide (j = i)) = true := by rw [h, Bool.true_or]
section
variable {w w1 : World} {S base : Nat} {σ : DSto} {i m : Nat} {vals : Nat → Option Value} {T : Nat → Bool} {v : Nat → Value}
theorem DrI.not19 (h : DrI w S base σ i m vals T v w1) {j : Nat} (hj : T j = false) (hc : j = 1 ∨ j = 5 ∨ j = 8 ∨ j = 12 ∨ j = 16 ∨ j = 19) : T 19 = false := by
  cases e : T 19 with
  | false => rfl
  | true =>
    have a := h.c19 e
    obtain ⟨b, c⟩ := h.c16 a
    obtain ⟨d, f⟩ := h.c8 b
    rcases hc with rfl | rfl | rfl | rfl | rfl | rfl <;> simp_all
theorem DrI.vsu (h : DrI w S base σ i m vals T v w1) {j : Nat} {x : Value} (hv : vals j = some x ∨ vals j = none) : ∀ i u, (T i || decide (i = j)) = true → vals i = some u → upd v j x i = u := by
  intro i u h1 h2
  by_cases e : i = j
  · subst e
    rw [updD_eq]
    rcases hv with g | g
    · rw [g] at h2; cases h2; rfl
    · rw [g] at h2; cases h2
  · rw [updD_ne e]
    rw [TD_ne e] at h1
    exact h.vs i u h1 h2
theorem DrI.val (h : DrI w S base σ i m vals T v w1) (j : Nat) (x : Value) (hv : vals j = some x) (h1 : 1 ≠ j) (h8 : 8 ≠ j) (h16 : 16 ≠ j) (h19 : 19 ≠ j) (hc : (j = 7 → T 5 = true) ∧ (j = 15 → T 12 = true)) : DrI w S base σ i m vals (fun k => T k || decide (k = j)) (upd v j x) w1 := by
  refine ⟨?_, ?_, ?_, ?_, ?_, ?_, ?_, ?_, ?_, ?_, h.vsu (.inl hv)⟩
  · show (T 19 || decide (19 = j)) = false → _; rw [TD_ne h19]; exact h.st
  · show (T 19 || decide (19 = j)) = true → _; rw [TD_ne h19]; exact h.fin
  · show (T 1 || decide (1 = j)) = true → (T 8 || decide (8 = j)) = false → _; rw [TD_ne h1, TD_ne h8, updD_ne h1]; exact h.k1
  · show (T 8 || decide (8 = j)) = true → (T 16 || decide (16 = j)) = false → _; rw [TD_ne h8, TD_ne h16, updD_ne h8]; exact h.k8
  · show (T 16 || decide (16 = j)) = true → (T 19 || decide (19 = j)) = false → _; rw [TD_ne h16, TD_ne h19, updD_ne h16]; exact h.k16
  · show (T 8 || decide (8 = j)) = true → (T 1 || decide (1 = j)) = true ∧ (T 5 || decide (5 = j)) = true; rw [TD_ne h8]; exact fun g => ⟨TD_up (h.c8 g).1, TD_up (h.c8 g).2⟩
  · show (T 16 || decide (16 = j)) = true → (T 8 || decide (8 = j)) = true ∧ (T 12 || decide (12 = j)) = true; rw [TD_ne h16]; exact fun g => ⟨TD_up (h.c16 g).1, TD_up (h.c16 g).2⟩
  · show (T 19 || decide (19 = j)) = true → (T 16 || decide (16 = j)) = true; rw [TD_ne h19]; exact fun g => TD_up (h.c19 g)
  · show (T 7 || decide (7 = j)) = true → (T 5 || decide (5 = j)) = true
    intro g
    by_cases e : 7 = j
    · exact TD_up (hc.1 e.symm)
    · rw [TD_ne e] at g; exact TD_up (h.c7 g)
  · show (T 15 || decide (15 = j)) = true → (T 12 || decide (12 = j)) = true
    intro g
    by_cases e : 15 = j
    · exact TD_up (hc.2 e.symm)
    · rw [TD_ne e] at g; exact TD_up (h.c15 g)
/-- a row made or grown: operation q (1, 8 or 16) -/
theorem DrI.c7u (h : DrI w S base σ i m vals T v w1) {j : Nat} (hj : 7 ≠ j) : (T 7 || decide (7 = j)) = true → (T 5 || decide (5 = j)) = true := by rw [TD_ne hj]; exact fun g => TD_up (h.c7 g)
theorem DrI.c15u (h : DrI w S base σ i m vals T v w1) {j : Nat} (hj : 15 ≠ j) : (T 15 || decide (15 = j)) = true → (T 12 || decide (12 = j)) = true := by rw [TD_ne hj]; exact fun g => TD_up (h.c15 g)
theorem DrI.c8u (h : DrI w S base σ i m vals T v w1) {j : Nat} (hj : 8 ≠ j) : (T 8 || decide (8 = j)) = true → (T 1 || decide (1 = j)) = true ∧ (T 5 || decide (5 = j)) = true := by rw [TD_ne hj]; exact fun g => ⟨TD_up (h.c8 g).1, TD_up (h.c8 g).2⟩
theorem DrI.c16u (h : DrI w S base σ i m vals T v w1) {j : Nat} (hj : 16 ≠ j) : (T 16 || decide (16 = j)) = true → (T 8 || decide (8 = j)) = true ∧ (T 12 || decide (12 = j)) = true := by rw [TD_ne hj]; exact fun g => ⟨TD_up (h.c16 g).1, TD_up (h.c16 g).2⟩
theorem DrI.c19u (h : DrI w S base σ i m vals T v w1) {j : Nat} (hj : 19 ≠ j) : (T 19 || decide (19 = j)) = true → (T 16 || decide (16 = j)) = true := by rw [TD_ne hj]; exact fun g => TD_up (h.c19 g)
theorem DrI.op1 (h : DrI w S base σ i m vals T v w1) (hT : T 1 = false) {w2 : World} {x : Value} (hv : vals 1 = none) (hb : Below w1.heap.size w1 w2) (ho : w2.ownsRow w.heap.size 85 4 x 0 (DUplS.flat [])) : DrI w S base σ i m vals (fun k => T k || decide (k = 1)) (upd v 1 x) w2 := by
  have h19 := h.not19 hT (.inl rfl)
  have n8 : T 8 = false := by cases e : T 8 with | false => rfl | true => rw [(h.c8 e).1] at hT; cases hT
  have n16 : T 16 = false := by cases e : T 16 with | false => rfl | true => rw [(h.c16 e).1] at n8; cases n8
  refine ⟨fun _ => (h.st h19).trans (hb.mono (h.st h19).size), ?_, ?_, ?_, ?_, h.c8u (by decide), h.c16u (by decide), h.c19u (by decide), h.c7u (by decide), h.c15u (by decide), h.vsu (.inr hv)⟩
  · show (T 19 || decide (19 = 1)) = true → _; rw [TD_ne (by decide), h19]; intro g; cases g
  · intro _ _; rw [updD_eq]; exact ho
  · show (T 8 || decide (8 = 1)) = true → _; rw [TD_ne (by decide), n8]; intro g; cases g
  · show (T 16 || decide (16 = 1)) = true → _; rw [TD_ne (by decide), n16]; intro g; cases g
theorem DrI.op8 (h : DrI w S base σ i m vals T v w1) (hT : T 8 = false) (t1 : T 1 = true) (t7 : T 7 = true) {w2 : World} {x : Value} (hv : vals 8 = none) (hg : w1.grownBy w2 (v 1).ownBlock) (ho : w2.ownsRow w.heap.size 85 4 x i (DUplS.flat (σ.ups.take i))) : DrI w S base σ i m vals (fun k => T k || decide (k = 8)) (upd v 8 x) w2 := by
  have h19 := h.not19 hT (by simp)
  have n16 : T 16 = false := by cases e : T 16 with | false => rfl | true => rw [(h.c16 e).1] at hT; cases hT
  have hk := h.k1 t1 hT
  refine ⟨fun _ => (h.st h19).grown hg (h.st h19).size (fun q hq => (hk.lt q hq).1), ?_, ?_, ?_, ?_, ?_, h.c16u (by decide), h.c19u (by decide), h.c7u (by decide), h.c15u (by decide), h.vsu (.inr hv)⟩
  · show (T 19 || decide (19 = 8)) = true → _; rw [TD_ne (by decide), h19]; intro g; cases g
  · show _ → (T 8 || decide (8 = 8)) = false → _; rw [TD_eq]; intro _ g; cases g
  · intro _ _; rw [updD_eq]; exact ho
  · show (T 16 || decide (16 = 8)) = true → _; rw [TD_ne (by decide), n16]; intro g; cases g
  · intro _; exact ⟨TD_up t1, TD_up (h.c7 t7)⟩
theorem DrI.op16 (h : DrI w S base σ i m vals T v w1) (hT : T 16 = false) (t8 : T 8 = true) (t15 : T 15 = true) {w2 : World} {x : Value} (hv : vals 16 = none) (hg : w1.grownBy w2 (v 8).ownBlock) (ho : w2.ownsRow w.heap.size 85 4 x (i + (m - (i + 1))) (DUplS.flat (outK σ.ups i))) : DrI w S base σ i m vals (fun k => T k || decide (k = 16)) (upd v 16 x) w2 := by
  have h19 := h.not19 hT (by simp)
  have hk := h.k8 t8 hT
  refine ⟨fun _ => (h.st h19).grown hg (h.st h19).size (fun q hq => (hk.lt q hq).1), ?_, ?_, ?_, ?_, h.c8u (by decide), ?_, h.c19u (by decide), h.c7u (by decide), h.c15u (by decide), h.vsu (.inr hv)⟩
  · show (T 19 || decide (19 = 16)) = true → _; rw [TD_ne (by decide), h19]; intro g; cases g
  · show _ → (T 8 || decide (8 = 16)) = false → _; rw [TD_ne (by decide), t8]; intro _ g; cases g
  · show _ → (T 16 || decide (16 = 16)) = false → _; rw [TD_eq]; intro _ g; cases g
  · intro _ _; rw [updD_eq]; exact ho
  · intro _; exact ⟨TD_up t8, TD_up (h.c15 t15)⟩
theorem DrI.op19 (h : DrI w S base σ i m vals T v w1) (hT : T 19 = false) (t16 : T 16 = true) {w2 : World} {x : Value} (hv : vals 19 = none) (hd : DrpP w S base σ i w2) : DrI w S base σ i m vals (fun k => T k || decide (k = 19)) (upd v 19 x) w2 := by
  obtain ⟨t8, t12⟩ := h.c16 t16
  refine ⟨?_, fun _ => hd, ?_, ?_, ?_, h.c8u (by decide), h.c16u (by decide), ?_, h.c7u (by decide), h.c15u (by decide), h.vsu (.inr hv)⟩
  · show (T 19 || decide (19 = 19)) = false → _; rw [TD_eq]; intro g; cases g
  · show _ → (T 8 || decide (8 = 19)) = false → _; rw [TD_ne (by decide), t8]; intro _ g; cases g
  · show _ → (T 16 || decide (16 = 19)) = false → _; rw [TD_ne (by decide), t16]; intro _ g; cases g
  · show _ → (T 19 || decide (19 = 19)) = false → _; rw [TD_eq]; intro _ g; cases g
  · intro _; exact TD_up t16
/-- the store laid -/
theorem DrI.laid (h : DrI w S base σ i m vals T v w1) (hd : DStAt w S base σ) (hm : m = σ.ups.length) (hi : i < m) (hbs : base ≤ w.heap.size) (hT : T 19 = false) (t16 : T 16 = true) {a : Option Addr} {c : Nat} (hv : v 16 = .slice a (i + (m - (i + 1))) c) : DrpP w S base σ i (w1.setCell ⟨S, 1, none⟩ (.slice a (i + (m - (i + 1))) c)) := by
  have hb := h.st hT
  have h1 := hd.below hb
  have hr := own_baseD (h.k16 t16 hT) hbs
  rw [hv] at hr
  refine ⟨⟨a, c, h1.upsLaid hr (by rw [outK_len (by omega), hm]) (fun u hu => h1.upl u (outK_mem hu)) (by rw [outK_len (by omega)]; have := hd.uf; omega)⟩, ?_⟩
  have g1 := grown_setD w1 S 1 (.slice a (i + (m - (i + 1))) c)
  exact ⟨g1.os.trans hb.os, g1.tape.trans hb.tape, g1.output.trans hb.output, Nat.le_trans hb.size g1.size, fun k hk hn => (g1.block k (Nat.lt_of_lt_of_le hk hb.size) hn).trans (hb.block k hk)⟩
end
set_option maxRecDepth 100000 in
set_option maxHeartbeats 8000000 in
theorem ddrop_any {w : World} {S base : Nat} {σ : DSto} (h : DStAt w S base σ) {i : Nat} (hi : i < σ.ups.length) (hbs : base ≤ w.heap.size) :
    Calls Try.prog 49 #[.pointer (some ⟨S, 0, none⟩), .int .i64 (i : Int)] w fun e w' => e = .returned (.tuple #[]) ∧ DrpP w S base σ i w' := by
  have HH := Lib.hid h
  have hSl : S < w.heap.size := (Array.getElem?_eq_some_iff.1 h.blk).1
  have huf := h.uf
  obtain ⟨m, hm⟩ : ∃ m, m = σ.ups.length := ⟨_, rfl⟩
  obtain ⟨ua, hua⟩ : ∃ ua, ua = σ.ua := ⟨_, rfl⟩
  obtain ⟨uc, huc⟩ : ∃ uc, uc = σ.uc := ⟨_, rfl⟩
  have c1 : w.cell? ⟨S, 1, none⟩ = some (.slice ua m uc) := by rw [hm, hua, huc]; exact cell_blkD h.blk (i := 1) rfl
  have HV : Hid (VecAt DUplS w ua m uc σ.ups) := Lib.hid (by rw [hm, hua, huc]; exact h.ups)
  have hcp := HV.out.cap
  have hcm := HV.out.capm
  rw [← hm] at hi huf
  have HM := Lib.hid hm
  have hst := to_dup ua m uc i (by omega)
  have hsf := from_dup ua m uc (i + 1) (by omega)
  obtain ⟨a5, ha5⟩ : ∃ a5, a5 = (if uc = i + 1 then ua else ua.map (·.add ((i + 1) * 4))) := ⟨_, rfl⟩
  rw [← ha5] at hsf
  have HA5 := Lib.hid ha5
  have hsf2 : ∀ W, (Instr.slice 48 (.slice ua m uc) (some (.int .i64 ((i : Int) + 1))) none none).run Try.prog W = .ok (.slice a5 (m - (i + 1)) (uc - (i + 1))) W := fun W => by have := hsf W; push_cast at this; exact this
  have wi : IntKind.i64.wrap ((i : Int) + 1) = (i : Int) + 1 := IntWalk.i64_in _ (by omega)
  have HI0 := Lib.hid (Below.refl w.heap.size w).drew
  clear h hm hua huc ha5 hsf
  go_enter Try.func49, Try.ntmps49
  go_wp2_with fail
  refine wp_region_inv (by kernel_rfl) (by kernel_rfl) (by kernel_rfl) (DrI w S base σ i m (fun j_9 => match j_9 with | 0 => some (.pointer (some ⟨S, 0, none⟩)) | 1 => none | 2 => some (.pointer (some ⟨S, 0, none⟩)) | 3 => some (.pointer (some ⟨S, 0, none⟩)) | 4 => some (.pointer (some ⟨S, 1, none⟩)) | 5 => some (.slice ua m uc) | 6 => some (.int .i64 (i : Int)) | 7 => some (.slice ua i uc) | 8 => none | 9 => some (.pointer (some ⟨S, 0, none⟩)) | 10 => some (.pointer (some ⟨S, 0, none⟩)) | 11 => some (.pointer (some ⟨S, 1, none⟩)) | 12 => some (.slice ua m uc) | 13 => some (.int .i64 (i : Int)) | 14 => some (.int .i64 ((i : Int) + 1)) | 15 => some (.slice a5 (m - (i + 1)) (uc - (i + 1))) | 16 => none | 17 => some (.pointer (some ⟨S, 0, none⟩)) | 18 => some (.pointer (some ⟨S, 1, none⟩)) | 19 => none | _ => none)) (fun V => ⟨fun _ => HI0.out, (fun h => by cases h), (fun h => by cases h), (fun h => by cases h), (fun h => by cases h), (fun h => by cases h), (fun h => by cases h), (fun h => by cases h), (fun h => by cases h), (fun h => by cases h), (fun j u h => by cases h)⟩) ?_ ?_
  · intro i9 o ho T V w9 K hI hT hdep hK
    have HI := Lib.hid hI
    simp only [fill, slotOf, List.size_toArray, List.length_cons, List.length_nil, Nat.reduceAdd, List.getElem?_toArray, List.getElem?_cons_zero, List.getElem?_cons_succ, Option.bind_some, Act.put, List.setIfInBounds_toArray, List.set_cons_zero, List.set_cons_succ] at hK ⊢
    have hin9 : i9 < 20 := (Array.getElem?_eq_some_iff.1 ho).1
    have hcs : i9 = 0 ∨ i9 = 1 ∨ i9 = 2 ∨ i9 = 3 ∨ i9 = 4 ∨ i9 = 5 ∨ i9 = 6 ∨ i9 = 7 ∨ i9 = 8 ∨ i9 = 9 ∨ i9 = 10 ∨ i9 = 11 ∨ i9 = 12 ∨ i9 = 13 ∨ i9 = 14 ∨ i9 = 15 ∨ i9 = 16 ∨ i9 = 17 ∨ i9 = 18 ∨ i9 = 19 := by omega
    clear hin9
    rcases hcs with rfl | rfl | rfl | rfl | rfl | rfl | rfl | rfl | rfl | rfl | rfl | rfl | rfl | rfl | rfl | rfl | rfl | rfl | rfl | rfl
    · obtain rfl := Option.some.inj ho.symm
      clear hdep ho hI
      try simp only [fill, slotOf, List.size_toArray, List.length_cons, List.length_nil, Nat.reduceAdd, List.getElem?_toArray, List.getElem?_cons_zero, List.getElem?_cons_succ, Option.bind_some, Act.put, List.setIfInBounds_toArray, List.set_cons_zero, List.set_cons_succ] at hK ⊢
      go_simp
      exact hK (.pointer (some ⟨S, 0, none⟩)) _ (HI.out.val 0 _ rfl (by decide) (by decide) (by decide) (by decide) ⟨by omega, by omega⟩) _ rfl
    · obtain rfl := Option.some.inj ho.symm
      have HB9 := Lib.hid (HI.out.st (HI.out.not19 hT (by simp)))
      have HO9 := Lib.hid (show (w9.alloc (.cells #[] 85)).ownsRow w.heap.size 85 4 (.slice (some ⟨w9.heap.size, 0, none⟩) 0 0) 0 (DUplS.flat []) from World.ownsRow_lit (base := w.heap.size) (e := 85) (size := 4) w9 #[] 0 HB9.out.size (by unfold maxLen; omega) rfl)
      clear hdep ho hI
      try simp only [fill, slotOf, List.size_toArray, List.length_cons, List.length_nil, Nat.reduceAdd, List.getElem?_toArray, List.getElem?_cons_zero, List.getElem?_cons_succ, Option.bind_some, Act.put, List.setIfInBounds_toArray, List.set_cons_zero, List.set_cons_succ] at hK ⊢
      go_simp
      exact hK (.slice (some ⟨w9.heap.size, 0, none⟩) 0 0) _ (HI.out.op1 hT rfl ((Below.refl _ _).alloc (Nat.le_refl _) _) HO9.out) _ rfl
    · obtain rfl := Option.some.inj ho.symm
      clear hdep ho hI
      try simp only [fill, slotOf, List.size_toArray, List.length_cons, List.length_nil, Nat.reduceAdd, List.getElem?_toArray, List.getElem?_cons_zero, List.getElem?_cons_succ, Option.bind_some, Act.put, List.setIfInBounds_toArray, List.set_cons_zero, List.set_cons_succ] at hK ⊢
      go_simp
      exact hK (.pointer (some ⟨S, 0, none⟩)) _ (HI.out.val 2 _ rfl (by decide) (by decide) (by decide) (by decide) ⟨by omega, by omega⟩) _ rfl
    · obtain rfl := Option.some.inj ho.symm
      have d2 : V 2 = .pointer (some ⟨S, 0, none⟩) := HI.out.vs 2 _ (hdep ⟨2, .data⟩ (by simp) rfl) rfl
      clear hdep ho hI
      try simp only [fill, slotOf, List.size_toArray, List.length_cons, List.length_nil, Nat.reduceAdd, List.getElem?_toArray, List.getElem?_cons_zero, List.getElem?_cons_succ, Option.bind_some, Act.put, List.setIfInBounds_toArray, List.set_cons_zero, List.set_cons_succ] at hK ⊢
      rw [d2] at hK ⊢
      go_simp
      exact hK (.pointer (some ⟨S, 0, none⟩)) _ (HI.out.val 3 _ rfl (by decide) (by decide) (by decide) (by decide) ⟨by omega, by omega⟩) _ rfl
    · obtain rfl := Option.some.inj ho.symm
      have d3 : V 3 = .pointer (some ⟨S, 0, none⟩) := HI.out.vs 3 _ (hdep ⟨3, .data⟩ (by simp) rfl) rfl
      clear hdep ho hI
      try simp only [fill, slotOf, List.size_toArray, List.length_cons, List.length_nil, Nat.reduceAdd, List.getElem?_toArray, List.getElem?_cons_zero, List.getElem?_cons_succ, Option.bind_some, Act.put, List.setIfInBounds_toArray, List.set_cons_zero, List.set_cons_succ] at hK ⊢
      rw [d3] at hK ⊢
      go_simp
      exact hK (.pointer (some ⟨S, 1, none⟩)) _ (HI.out.val 4 _ rfl (by decide) (by decide) (by decide) (by decide) ⟨by omega, by omega⟩) _ rfl
    · obtain rfl := Option.some.inj ho.symm
      have d4 : V 4 = .pointer (some ⟨S, 1, none⟩) := HI.out.vs 4 _ (hdep ⟨4, .data⟩ (by simp) rfl) rfl
      have hb9 := HI.out.st (HI.out.not19 hT (by simp))
      have u1 : w9.cell? ⟨S, 1, none⟩ = some (.slice ua m uc) := (hb9.cell (p := ⟨S, 1, none⟩) hSl).trans c1
      clear hdep ho hI
      try simp only [fill, slotOf, List.size_toArray, List.length_cons, List.length_nil, Nat.reduceAdd, List.getElem?_toArray, List.getElem?_cons_zero, List.getElem?_cons_succ, Option.bind_some, Act.put, List.setIfInBounds_toArray, List.set_cons_zero, List.set_cons_succ] at hK ⊢
      rw [d4] at hK ⊢
      go_simp
      exact hK (.slice ua m uc) _ (HI.out.val 5 _ rfl (by decide) (by decide) (by decide) (by decide) ⟨by omega, by omega⟩) _ rfl
    · obtain rfl := Option.some.inj ho.symm
      clear hdep ho hI
      try simp only [fill, slotOf, List.size_toArray, List.length_cons, List.length_nil, Nat.reduceAdd, List.getElem?_toArray, List.getElem?_cons_zero, List.getElem?_cons_succ, Option.bind_some, Act.put, List.setIfInBounds_toArray, List.set_cons_zero, List.set_cons_succ] at hK ⊢
      go_simp
      exact hK (.int .i64 (i : Int)) _ (HI.out.val 6 _ rfl (by decide) (by decide) (by decide) (by decide) ⟨by omega, by omega⟩) _ rfl
    · obtain rfl := Option.some.inj ho.symm
      have d5 : V 5 = .slice ua m uc := HI.out.vs 5 _ (hdep ⟨5, .data⟩ (by simp) rfl) rfl
      have d6 : V 6 = .int .i64 (i : Int) := HI.out.vs 6 _ (hdep ⟨6, .data⟩ (by simp) rfl) rfl
      have t5 : T 5 = true := hdep ⟨5, .data⟩ (by simp) rfl
      clear hdep ho hI
      try simp only [fill, slotOf, List.size_toArray, List.length_cons, List.length_nil, Nat.reduceAdd, List.getElem?_toArray, List.getElem?_cons_zero, List.getElem?_cons_succ, Option.bind_some, Act.put, List.setIfInBounds_toArray, List.set_cons_zero, List.set_cons_succ] at hK ⊢
      rw [d5, d6] at hK ⊢
      go_simp
      exact hK (.slice ua i uc) _ (HI.out.val 7 _ rfl (by decide) (by decide) (by decide) (by decide) ⟨fun _ => t5, by omega⟩) _ rfl
    · obtain rfl := Option.some.inj ho.symm
      have t1 : T 1 = true := hdep ⟨1, .data⟩ (by simp) rfl
      have t7 : T 7 = true := hdep ⟨7, .data⟩ (by simp) rfl
      have d7 : V 7 = .slice ua i uc := HI.out.vs 7 _ t7 rfl
      have hb9 := HI.out.st (HI.out.not19 hT (by simp))
      have ho9 := HI.out.k1 t1 hT
      clear hdep ho hI
      try simp only [fill, slotOf, List.size_toArray, List.length_cons, List.length_nil, Nat.reduceAdd, List.getElem?_toArray, List.getElem?_cons_zero, List.getElem?_cons_succ, Option.bind_some, Act.put, List.setIfInBounds_toArray, List.set_cons_zero, List.set_cons_succ] at hK ⊢
      refine step_append_dup (by first | rfl | kernel_rfl) (.tmp 5) (.tmp 11) rfl w.heap.size (V 1) 0 [] (by rfl) ho9 ua i uc (σ.ups.take i) (by exact d7) (vec_takeS (HV.out.kept hb9) (by omega)) (by omega) hb9.size (fun v' w' h1 h2 => ?_)
      exact hK v' _ (HI.out.op8 hT t1 t7 rfl h2 (by simpa using h1)) _ rfl
    · obtain rfl := Option.some.inj ho.symm
      clear hdep ho hI
      try simp only [fill, slotOf, List.size_toArray, List.length_cons, List.length_nil, Nat.reduceAdd, List.getElem?_toArray, List.getElem?_cons_zero, List.getElem?_cons_succ, Option.bind_some, Act.put, List.setIfInBounds_toArray, List.set_cons_zero, List.set_cons_succ] at hK ⊢
      go_simp
      exact hK (.pointer (some ⟨S, 0, none⟩)) _ (HI.out.val 9 _ rfl (by decide) (by decide) (by decide) (by decide) ⟨by omega, by omega⟩) _ rfl
    · obtain rfl := Option.some.inj ho.symm
      have d9 : V 9 = .pointer (some ⟨S, 0, none⟩) := HI.out.vs 9 _ (hdep ⟨9, .data⟩ (by simp) rfl) rfl
      clear hdep ho hI
      try simp only [fill, slotOf, List.size_toArray, List.length_cons, List.length_nil, Nat.reduceAdd, List.getElem?_toArray, List.getElem?_cons_zero, List.getElem?_cons_succ, Option.bind_some, Act.put, List.setIfInBounds_toArray, List.set_cons_zero, List.set_cons_succ] at hK ⊢
      rw [d9] at hK ⊢
      go_simp
      exact hK (.pointer (some ⟨S, 0, none⟩)) _ (HI.out.val 10 _ rfl (by decide) (by decide) (by decide) (by decide) ⟨by omega, by omega⟩) _ rfl
    · obtain rfl := Option.some.inj ho.symm
      have d10 : V 10 = .pointer (some ⟨S, 0, none⟩) := HI.out.vs 10 _ (hdep ⟨10, .data⟩ (by simp) rfl) rfl
      clear hdep ho hI
      try simp only [fill, slotOf, List.size_toArray, List.length_cons, List.length_nil, Nat.reduceAdd, List.getElem?_toArray, List.getElem?_cons_zero, List.getElem?_cons_succ, Option.bind_some, Act.put, List.setIfInBounds_toArray, List.set_cons_zero, List.set_cons_succ] at hK ⊢
      rw [d10] at hK ⊢
      go_simp
      exact hK (.pointer (some ⟨S, 1, none⟩)) _ (HI.out.val 11 _ rfl (by decide) (by decide) (by decide) (by decide) ⟨by omega, by omega⟩) _ rfl
    · obtain rfl := Option.some.inj ho.symm
      have d11 : V 11 = .pointer (some ⟨S, 1, none⟩) := HI.out.vs 11 _ (hdep ⟨11, .data⟩ (by simp) rfl) rfl
      have hb9 := HI.out.st (HI.out.not19 hT (by simp))
      have u1 : w9.cell? ⟨S, 1, none⟩ = some (.slice ua m uc) := (hb9.cell (p := ⟨S, 1, none⟩) hSl).trans c1
      clear hdep ho hI
      try simp only [fill, slotOf, List.size_toArray, List.length_cons, List.length_nil, Nat.reduceAdd, List.getElem?_toArray, List.getElem?_cons_zero, List.getElem?_cons_succ, Option.bind_some, Act.put, List.setIfInBounds_toArray, List.set_cons_zero, List.set_cons_succ] at hK ⊢
      rw [d11] at hK ⊢
      go_simp
      exact hK (.slice ua m uc) _ (HI.out.val 12 _ rfl (by decide) (by decide) (by decide) (by decide) ⟨by omega, by omega⟩) _ rfl
    · obtain rfl := Option.some.inj ho.symm
      clear hdep ho hI
      try simp only [fill, slotOf, List.size_toArray, List.length_cons, List.length_nil, Nat.reduceAdd, List.getElem?_toArray, List.getElem?_cons_zero, List.getElem?_cons_succ, Option.bind_some, Act.put, List.setIfInBounds_toArray, List.set_cons_zero, List.set_cons_succ] at hK ⊢
      go_simp
      exact hK (.int .i64 (i : Int)) _ (HI.out.val 13 _ rfl (by decide) (by decide) (by decide) (by decide) ⟨by omega, by omega⟩) _ rfl
    · obtain rfl := Option.some.inj ho.symm
      have d13 : V 13 = .int .i64 (i : Int) := HI.out.vs 13 _ (hdep ⟨13, .data⟩ (by simp) rfl) rfl
      clear hdep ho hI
      try simp only [fill, slotOf, List.size_toArray, List.length_cons, List.length_nil, Nat.reduceAdd, List.getElem?_toArray, List.getElem?_cons_zero, List.getElem?_cons_succ, Option.bind_some, Act.put, List.setIfInBounds_toArray, List.set_cons_zero, List.set_cons_succ] at hK ⊢
      rw [d13] at hK ⊢
      go_simp
      exact hK (.int .i64 ((i : Int) + 1)) _ (HI.out.val 14 _ rfl (by decide) (by decide) (by decide) (by decide) ⟨by omega, by omega⟩) _ rfl
    · obtain rfl := Option.some.inj ho.symm
      have d12 : V 12 = .slice ua m uc := HI.out.vs 12 _ (hdep ⟨12, .data⟩ (by simp) rfl) rfl
      have d14 : V 14 = .int .i64 ((i : Int) + 1) := HI.out.vs 14 _ (hdep ⟨14, .data⟩ (by simp) rfl) rfl
      have t12 : T 12 = true := hdep ⟨12, .data⟩ (by simp) rfl
      clear hdep ho hI
      try simp only [fill, slotOf, List.size_toArray, List.length_cons, List.length_nil, Nat.reduceAdd, List.getElem?_toArray, List.getElem?_cons_zero, List.getElem?_cons_succ, Option.bind_some, Act.put, List.setIfInBounds_toArray, List.set_cons_zero, List.set_cons_succ] at hK ⊢
      rw [d12, d14] at hK ⊢
      go_simp
      exact hK (.slice a5 (m - (i + 1)) (uc - (i + 1))) _ (HI.out.val 15 _ rfl (by decide) (by decide) (by decide) (by decide) ⟨by omega, fun _ => t12⟩) _ rfl
    · obtain rfl := Option.some.inj ho.symm
      have t8 : T 8 = true := hdep ⟨8, .data⟩ (by simp) rfl
      have t15 : T 15 = true := hdep ⟨15, .data⟩ (by simp) rfl
      have d15 : V 15 = .slice a5 (m - (i + 1)) (uc - (i + 1)) := HI.out.vs 15 _ t15 rfl
      have hb9 := HI.out.st (HI.out.not19 hT (by simp))
      have ho9 := HI.out.k8 t8 hT
      have hv9 : VecAt DUplS w9 a5 (m - (i + 1)) (uc - (i + 1)) (σ.ups.drop (i + 1)) := by rw [HA5.out]; exact vec_dropS (S := DUplS) (HV.out.kept hb9) (by omega)
      clear hdep ho hI
      try simp only [fill, slotOf, List.size_toArray, List.length_cons, List.length_nil, Nat.reduceAdd, List.getElem?_toArray, List.getElem?_cons_zero, List.getElem?_cons_succ, Option.bind_some, Act.put, List.setIfInBounds_toArray, List.set_cons_zero, List.set_cons_succ] at hK ⊢
      refine step_append_dup (by first | rfl | kernel_rfl) (.tmp 12) (.tmp 19) rfl w.heap.size (V 8) i (σ.ups.take i) (by rfl) ho9 a5 (m - (i + 1)) (uc - (i + 1)) (σ.ups.drop (i + 1)) (by exact d15) hv9 (by omega) hb9.size (fun v' w' h1 h2 => ?_)
      exact hK v' _ (HI.out.op16 hT t8 t15 rfl h2 h1) _ rfl
    · obtain rfl := Option.some.inj ho.symm
      have d0 : V 0 = .pointer (some ⟨S, 0, none⟩) := HI.out.vs 0 _ (hdep ⟨0, .data⟩ (by simp) rfl) rfl
      clear hdep ho hI
      try simp only [fill, slotOf, List.size_toArray, List.length_cons, List.length_nil, Nat.reduceAdd, List.getElem?_toArray, List.getElem?_cons_zero, List.getElem?_cons_succ, Option.bind_some, Act.put, List.setIfInBounds_toArray, List.set_cons_zero, List.set_cons_succ] at hK ⊢
      rw [d0] at hK ⊢
      go_simp
      exact hK (.pointer (some ⟨S, 0, none⟩)) _ (HI.out.val 17 _ rfl (by decide) (by decide) (by decide) (by decide) ⟨by omega, by omega⟩) _ rfl
    · obtain rfl := Option.some.inj ho.symm
      have d17 : V 17 = .pointer (some ⟨S, 0, none⟩) := HI.out.vs 17 _ (hdep ⟨17, .data⟩ (by simp) rfl) rfl
      clear hdep ho hI
      try simp only [fill, slotOf, List.size_toArray, List.length_cons, List.length_nil, Nat.reduceAdd, List.getElem?_toArray, List.getElem?_cons_zero, List.getElem?_cons_succ, Option.bind_some, Act.put, List.setIfInBounds_toArray, List.set_cons_zero, List.set_cons_succ] at hK ⊢
      rw [d17] at hK ⊢
      go_simp
      exact hK (.pointer (some ⟨S, 1, none⟩)) _ (HI.out.val 18 _ rfl (by decide) (by decide) (by decide) (by decide) ⟨by omega, by omega⟩) _ rfl
    · obtain rfl := Option.some.inj ho.symm
      have t16 : T 16 = true := hdep ⟨16, .data⟩ (by simp) rfl
      have d18 : V 18 = .pointer (some ⟨S, 1, none⟩) := HI.out.vs 18 _ (hdep ⟨18, .data⟩ (by simp) rfl) rfl
      obtain ⟨a9, c9, d16⟩ := own_sliceD (HI.out.k16 t16 hT)
      have HL := Lib.hid (HI.out.laid HH.out HM.out hi hbs hT t16 d16)
      have hb9 := HI.out.st hT
      have hbk := (hb9.block S hSl).trans HH.out.blk
      have f1 := frz_blkD hbk 1
      have u1 : w9.cell? ⟨S, 1, none⟩ = some (.slice ua m uc) := (hb9.cell (p := ⟨S, 1, none⟩) hSl).trans c1
      clear hdep ho hI hbk
      try simp only [fill, slotOf, List.size_toArray, List.length_cons, List.length_nil, Nat.reduceAdd, List.getElem?_toArray, List.getElem?_cons_zero, List.getElem?_cons_succ, Option.bind_some, Act.put, List.setIfInBounds_toArray, List.set_cons_zero, List.set_cons_succ] at hK ⊢
      rw [d16, d18] at hK ⊢
      go_simp
      exact hK undef _ (HI.out.op19 hT t16 rfl HL.out) _ rfl
  · intro T V w9 hI hall
    have HF := Lib.hid (hI.fin (hall 19 (by decide)))
    clear hI hall
    simp only [fill, slotOf, List.size_toArray, List.length_cons, List.length_nil, Nat.reduceAdd, List.getElem?_toArray, List.getElem?_cons_zero, List.getElem?_cons_succ, Option.bind_some, Act.put, List.setIfInBounds_toArray, List.set_cons_zero, List.set_cons_succ]
    go_wp2_with fail
    go_end0
    exact ⟨rfl, HF.out⟩
end Go.Proofs.Ytodoklnohedolaa
end PkUC2_5
section PkUC2_6
/- The document's put: what is held while its new object is made (its drawn region 2), and the object laid in its place. -/
namespace Go.Proofs.Ytodoklnohedolaa
open Go.RowKit
set_option linter.unusedVariables false

def objZv : Array Value := #[.string ByteArray.empty, .slice none 0 0, .int .i64 0, .int .i64 0]
/-- the box of the new object -/
def BxI (W0 w : World) (k : ByteArray) (ver now : Int) (t : Bool) (p x : Value) : Prop := ∃ b, p = .pointer (some ⟨b, 0, none⟩) ∧ W0.heap.size ≤ b ∧ w.heap[b]? = some (Obj.cells (if t = true then #[.string k, x, .int .i64 ver, .int .i64 now] else objZv) 56 (0, 0))
/-- the region's invariant: operations 2 (Twin), 11 (the value), 12 (the box), 13 (the box filled) -/
structure PtI (W0 : World) (k : ByteArray) (n : Nat) (data : List Nat) (ver now : Int) (vals : Nat → Option Value) (T : Nat → Bool) (v : Nat → Value) (w : World) : Prop where
  bel : Below W0.heap.size W0 w
  row : T 2 = true → w.ownsRow W0.heap.size 5 1 (v 2) n (bv data)
  bld : T 11 = true → T 2 = true ∧ v 11 = .agg #[.string k, v 2, .int .i64 ver, .int .i64 now]
  box : T 12 = true → BxI W0 w k ver now (T 13) (v 12) (v 2)
  c13 : T 13 = true → T 11 = true ∧ T 12 = true
  vs : ∀ j u, T j = true → vals j = some u → v j = u
section
variable {W0 w : World} {k : ByteArray} {n : Nat} {data : List Nat} {ver now : Int} {vals : Nat → Option Value} {T : Nat → Bool} {v : Nat → Value}
theorem PtI.below (h : PtI W0 k n data ver now vals T v w) {w' : World} (hb : Below w.heap.size w w') : PtI W0 k n data ver now vals T v w' :=
  ⟨h.bel.trans (hb.mono h.bel.size), fun t => own_below (h.row t) hb, h.bld, fun t => by
    obtain ⟨b, h1, h2, h3⟩ := h.box t
    exact ⟨b, h1, h2, cells_of_below hb h3⟩, h.c13, h.vs⟩
theorem PtI.vsu (h : PtI W0 k n data ver now vals T v w) {j : Nat} {x : Value} (hv : vals j = some x ∨ vals j = none) : ∀ i u, (T i || decide (i = j)) = true → vals i = some u → upd v j x i = u := by
  intro i u h1 h2
  by_cases e : i = j
  · subst e
    rw [updD_eq]
    rcases hv with g | g
    · rw [g] at h2; cases h2; rfl
    · rw [g] at h2; cases h2
  · rw [updD_ne e]
    rw [TD_ne e] at h1
    exact h.vs i u h1 h2
/-- a value that is known -/
theorem PtI.val (h : PtI W0 k n data ver now vals T v w) (j : Nat) (x : Value) (hv : vals j = some x) (h2 : 2 ≠ j) (h11 : 11 ≠ j) (h12 : 12 ≠ j) (h13 : 13 ≠ j) : PtI W0 k n data ver now vals (fun i => T i || decide (i = j)) (upd v j x) w := by
  refine ⟨h.bel, ?_, ?_, ?_, ?_, h.vsu (.inl hv)⟩
  · show (T 2 || decide (2 = j)) = true → _; rw [TD_ne h2, updD_ne h2]; exact h.row
  · show (T 11 || decide (11 = j)) = true → (T 2 || decide (2 = j)) = true ∧ _; rw [TD_ne h11, TD_ne h2, updD_ne h11, updD_ne h2]; exact h.bld
  · show (T 12 || decide (12 = j)) = true → BxI W0 w k ver now (T 13 || decide (13 = j)) (upd v j x 12) (upd v j x 2)
    rw [TD_ne h12, TD_ne h13, updD_ne h12, updD_ne h2]; exact h.box
  · show (T 13 || decide (13 = j)) = true → (T 11 || decide (11 = j)) = true ∧ (T 12 || decide (12 = j)) = true; rw [TD_ne h13]; exact fun g => ⟨TD_up (h.c13 g).1, TD_up (h.c13 g).2⟩
theorem PtI.not13 (h : PtI W0 k n data ver now vals T v w) {j : Nat} (hj : T j = false) (hc : j = 2 ∨ j = 11 ∨ j = 12 ∨ j = 13) : T 13 = false := by
  cases e : T 13 with
  | false => rfl
  | true =>
    obtain ⟨a, b⟩ := h.c13 e
    have c := (h.bld a).1
    rcases hc with rfl | rfl | rfl | rfl <;> simp_all
/-- Twin's row -/
theorem PtI.op2 (h : PtI W0 k n data ver now vals T v w) (hT : T 2 = false) {w' : World} {x : Value} (hv : vals 2 = none) (hb : Below w.heap.size w w') (ho : w'.ownsRow w.heap.size 5 1 x n (bv data)) : PtI W0 k n data ver now vals (fun i => T i || decide (i = 2)) (upd v 2 x) w' := by
  have h' := h.below hb
  have n13 := h.not13 hT (.inl rfl)
  have n11 : T 11 = false := by cases e : T 11 with | false => rfl | true => rw [(h.bld e).1] at hT; cases hT
  refine ⟨h'.bel, ?_, ?_, ?_, ?_, h'.vsu (.inr hv)⟩
  · intro _; rw [updD_eq]; exact own_baseD ho h.bel.size
  · show (T 11 || decide (11 = 2)) = true → _; rw [TD_ne (by decide), n11]; intro g; cases g
  · show (T 12 || decide (12 = 2)) = true → BxI W0 w' k ver now (T 13 || decide (13 = 2)) (upd v 2 x 12) (upd v 2 x 2)
    rw [TD_ne (by decide), TD_ne (by decide), updD_ne (by decide), n13]
    intro t
    have hx := h'.box t
    rw [n13] at hx
    obtain ⟨b, h1, h2, h3⟩ := hx
    exact ⟨b, h1, h2, h3⟩
  · show (T 13 || decide (13 = 2)) = true → _; rw [TD_ne (by decide), n13]; intro g; cases g
/-- the object's value -/
theorem PtI.op11 (h : PtI W0 k n data ver now vals T v w) (hT : T 11 = false) (t2 : T 2 = true) (hv : vals 11 = none) : PtI W0 k n data ver now vals (fun i => T i || decide (i = 11)) (upd v 11 (.agg #[.string k, v 2, .int .i64 ver, .int .i64 now])) w := by
  have n13 := h.not13 hT (by simp)
  refine ⟨h.bel, ?_, ?_, ?_, ?_, h.vsu (.inr hv)⟩
  · show (T 2 || decide (2 = 11)) = true → _; rw [TD_ne (by decide), updD_ne (by decide)]; exact h.row
  · intro _; rw [updD_eq, updD_ne (by decide)]; exact ⟨TD_up t2, rfl⟩
  · show (T 12 || decide (12 = 11)) = true → BxI W0 w k ver now (T 13 || decide (13 = 11)) (upd v 11 _ 12) (upd v 11 _ 2)
    rw [TD_ne (by decide), TD_ne (by decide), updD_ne (by decide), updD_ne (by decide)]; exact h.box
  · show (T 13 || decide (13 = 11)) = true → _; rw [TD_ne (by decide), n13]; intro g; cases g
/-- the box -/
theorem PtI.op12 (h : PtI W0 k n data ver now vals T v w) (hT : T 12 = false) (hv : vals 12 = none) : PtI W0 k n data ver now vals (fun i => T i || decide (i = 12)) (upd v 12 (.pointer (some ⟨w.heap.size, 0, none⟩))) (w.alloc (.cells objZv 56)) := by
  have n13 := h.not13 hT (by simp)
  have h' := h.below (w' := w.alloc (.cells objZv 56)) ((Below.refl _ _).alloc (Nat.le_refl _) _)
  refine ⟨h'.bel, ?_, ?_, ?_, ?_, h'.vsu (.inr hv)⟩
  · show (T 2 || decide (2 = 12)) = true → _; rw [TD_ne (by decide), updD_ne (by decide)]; exact h'.row
  · show (T 11 || decide (11 = 12)) = true → (T 2 || decide (2 = 12)) = true ∧ _; rw [TD_ne (by decide), TD_ne (by decide), updD_ne (by decide), updD_ne (by decide)]; exact h'.bld
  · intro _
    show BxI W0 _ k ver now (T 13 || decide (13 = 12)) (upd v 12 _ 12) (upd v 12 _ 2)
    rw [TD_ne (by decide), n13, updD_eq]
    exact ⟨w.heap.size, rfl, h.bel.size, heap_alloc_newD w _⟩
  · show (T 13 || decide (13 = 12)) = true → _; rw [TD_ne (by decide), n13]; intro g; cases g
/-- the box filled: only its block turns -/
theorem PtI.op13 (h : PtI W0 k n data ver now vals T v w) (hT : T 13 = false) (t11 : T 11 = true) (t12 : T 12 = true) {w' : World} {b : Nat} (hvb : v 12 = .pointer (some ⟨b, 0, none⟩)) (hv : vals 13 = none) (hg : w.grownBy w' (some b)) (hn : w'.heap[b]? = some (.cells #[.string k, v 2, .int .i64 ver, .int .i64 now] 56 (0, 0))) (x : Value) : PtI W0 k n data ver now vals (fun i => T i || decide (i = 13)) (upd v 13 x) w' := by
  obtain ⟨b', h1, h2, h3⟩ := h.box t12
  rw [hvb] at h1
  obtain rfl : b = b' := by simpa using h1
  refine ⟨h.bel.grown hg h.bel.size (fun q hq => by cases hq; exact h2), ?_, ?_, ?_, ?_, h.vsu (.inr hv)⟩
  · show (T 2 || decide (2 = 13)) = true → _
    rw [TD_ne (by decide), updD_ne (by decide)]
    intro t
    obtain ⟨a, c, e⟩ := own_sliceD (h.row t)
    have hr := h.row t
    rw [e] at hr ⊢
    refine own_same hr fun q hq => hg.block q (own_blk_lt hr hq).2 fun g => ?_
    cases g
    rcases hr.2 with ⟨h0, _⟩ | ⟨q2, cap, cur, g1, _, g3, _⟩
    · cases h0; cases hq
    · cases g1
      cases hq
      rw [h3] at g3
      simp at g3
  · show (T 11 || decide (11 = 13)) = true → (T 2 || decide (2 = 13)) = true ∧ _; rw [TD_ne (by decide), TD_ne (by decide), updD_ne (by decide), updD_ne (by decide)]; exact h.bld
  · intro _
    show BxI W0 w' k ver now (T 13 || decide (13 = 13)) (upd v 13 x 12) (upd v 13 x 2)
    rw [TD_eq, updD_ne (by decide), updD_ne (by decide)]
    exact ⟨b, hvb, h2, hn⟩
  · intro _; exact ⟨TD_up t11, TD_up t12⟩
end
/-- an object laid in its place -/
def laidK (l : List DObj) (i : Nat) (o : DObj) : List DObj := l.set i o
end Go.Proofs.Ytodoklnohedolaa
end PkUC2_6
section PkUC2_7
/- The document's store with one of its cells laid anew: its objects, its version, its last id. -/
namespace Go.Proofs.Ytodoklnohedolaa
open Go.RowKit
set_option linter.unusedVariables false

theorem store_row_same {w : World} {S base j : Nat} {σ : DSto} (h : DStAt w S base σ) (x : Value) {n c N k : Nat} {e : TypeId} {a : Option Addr} {xs : List Value} {base' : Nat} (ho : w.ownsRow base' e k (.slice a n c) N xs) (he : e ≠ 50) : (w.setCell ⟨S, j, none⟩ x).ownsRow base' e k (.slice a n c) N xs :=
  own_same ho fun b hb => heap_setCell_other w ⟨S, j, none⟩ b _ (fun g => by
    rcases ho.2 with ⟨h0, _⟩ | ⟨q, cap, cur, h1, _, h3, _⟩
    · cases h0; cases hb
    · cases h1
      cases hb
      rw [show q = S from g, h.blk] at h3
      simp at h3
      exact he h3.2.symm)
theorem ObjOk.laid {w : World} {S base j : Nat} {σ : DSto} (h : DStAt w S base σ) (x : Value) {o : DObj} (ho : ObjOk w base o) : ObjOk (w.setCell ⟨S, j, none⟩ x) base o := ⟨store_row_same h x ho.row (by decide), ho.byte, ho.len, ho.small⟩
theorem UplOk.laid {w : World} {S base j : Nat} {σ : DSto} (h : DStAt w S base σ) (x : Value) {u : DUpl} (hu : UplOk w base u) : UplOk (w.setCell ⟨S, j, none⟩ x) base u :=
  ⟨store_row_same h x hu.row (by decide), hu.len, hu.few, fun p hp => ⟨store_row_same h x (hu.prt p hp).row (by decide), (hu.prt p hp).byte, (hu.prt p hp).len, (hu.prt p hp).small⟩⟩
/-- the objects laid anew -/
theorem DStAt.objsLaid {w : World} {S base : Nat} {σ : DSto} (h : DStAt w S base σ) {a : Option Addr} {c N : Nat} {os : List DObj} (hr : w.ownsRow base 56 4 (.slice a N c) N (DObjS.flat os)) (hN : N = os.length) (ho : ∀ o ∈ os, ObjOk w base o) (hl : os.length ≤ 512) : DStAt (w.setCell ⟨S, 0, none⟩ (.slice a N c)) S base { σ with oa := a, oc := c, objs := os } := by
  subst hN
  have hs := heap_setCell_same w S 0 _ _ (.slice a os.length c) h.blk
  exact ⟨by rw [hs]; simp, store_row_same h _ hr (by decide), store_row_same h _ h.urow (by decide), fun o hm => (ho o hm).laid h _, fun u hm => (h.upl u hm).laid h _, hl, h.uf⟩
/-- the last version laid anew -/
theorem DStAt.verLaid {w : World} {S base : Nat} {σ : DSto} (h : DStAt w S base σ) (x : Int) : DStAt (w.setCell ⟨S, 2, none⟩ (.int .i64 x)) S base { σ with ver := x } := by
  have hs := heap_setCell_same w S 2 _ _ (.int .i64 x) h.blk
  exact ⟨by rw [hs]; simp, store_row_same h _ h.orow (by decide), store_row_same h _ h.urow (by decide), fun o hm => (h.obj o hm).laid h _, fun u hm => (h.upl u hm).laid h _, h.of, h.uf⟩
/-- the last id laid anew -/
theorem DStAt.idLaid {w : World} {S base : Nat} {σ : DSto} (h : DStAt w S base σ) (x : Int) : DStAt (w.setCell ⟨S, 3, none⟩ (.int .i64 x)) S base { σ with id := x } := by
  have hs := heap_setCell_same w S 3 _ _ (.int .i64 x) h.blk
  exact ⟨by rw [hs]; simp, store_row_same h _ h.orow (by decide), store_row_same h _ h.urow (by decide), fun o hm => (h.obj o hm).laid h _, fun u hm => (h.upl u hm).laid h _, h.of, h.uf⟩
/-- an object laid in its place: the row of the objects turned -/
theorem DStAt.objSet {w w' : World} {S base : Nat} {σ : DSto} (h : DStAt w S base σ) {i : Nat} {o : DObj} (hr : w'.ownsRow base 56 4 (.slice σ.oa σ.objs.length σ.oc) σ.objs.length (DObjS.flat (σ.objs.set i o))) (hg : ∀ b, b < w.heap.size → blkOf σ.oa ≠ some b → w'.heap[b]? = w.heap[b]?) (ho : ObjOk w' base o)
    (hty : ∀ b, blkOf σ.oa = some b → ∃ cs fr, w.heap[b]? = some (.cells cs 56 fr)) : DStAt w' S base { σ with objs := σ.objs.set i o } := by
  have hl : (σ.objs.set i o).length = σ.objs.length := List.length_set
  have hS : blkOf σ.oa ≠ some S := fun e => by
    obtain ⟨cs, fr, g⟩ := hty S e
    rw [h.blk] at g
    simp at g
  have hrow : ∀ {n c N k : Nat} {e : TypeId} {a : Option Addr} {xs : List Value}, w.ownsRow base e k (.slice a n c) N xs → e ≠ 56 → w'.ownsRow base e k (.slice a n c) N xs := fun {n c N k e a xs} hx he => own_same hx fun b hb => hg b (own_blk_lt hx hb).2 (fun g => by
    obtain ⟨cs, fr, g2⟩ := hty b g
    rcases hx.2 with ⟨h0, _⟩ | ⟨q, cap, cur, h1, _, h3, _⟩
    · cases h0; cases hb
    · cases h1
      cases hb
      rw [show q = _ from rfl, g2] at h3
      simp at h3
      exact he h3.2.1.symm)
  refine ⟨?_, ?_, hrow h.urow (by decide), fun x hx => ?_, fun u hu => ⟨hrow (h.upl u hu).row (by decide), (h.upl u hu).len, (h.upl u hu).few, fun p hp => ⟨hrow ((h.upl u hu).prt p hp).row (by decide), ((h.upl u hu).prt p hp).byte, ((h.upl u hu).prt p hp).len, ((h.upl u hu).prt p hp).small⟩⟩, by rw [hl]; exact h.of, h.uf⟩
  · rw [hl]
    exact (hg S (Array.getElem?_eq_some_iff.1 h.blk).1 hS).trans h.blk
  · rw [hl]; exact hr
  · rcases List.mem_or_eq_of_mem_set hx with g | g
    · exact ⟨hrow (h.obj x g).row (by decide), (h.obj x g).byte, (h.obj x g).len, (h.obj x g).small⟩
    · rw [g]; exact ho
end Go.Proofs.Ytodoklnohedolaa
end PkUC2_7
section PkUC2_8
/- A struct stored at an index of a row that is owned. -/
namespace Go.Proofs.Ytodoklnohedolaa
open Go.RowKit
set_option linter.unusedVariables false

def setM : Array Value → Nat → List Value → Array Value
  | c, _, [] => c
  | c, o, v :: r => setM (c.setIfInBounds o v) (o + 1) r
theorem setM_size : ∀ (vs : List Value) (c : Array Value) (o : Nat), (setM c o vs).size = c.size
  | [], _, _ => rfl
  | v :: r, c, o => by rw [setM, setM_size r]; simp
theorem setM_get : ∀ (vs : List Value) (c : Array Value) (o k : Nat), o + vs.length ≤ c.size → (setM c o vs)[k]? = if o ≤ k ∧ k < o + vs.length then vs[k - o]? else c[k]?
  | [], c, o, k, _ => by rw [setM, if_neg (by rw [List.length_nil]; omega)]
  | v :: r, c, o, k, h => by
    rw [List.length_cons] at h
    rw [setM, setM_get r _ _ _ (by simp; omega), List.length_cons]
    by_cases e : k = o
    · subst e
      rw [if_neg (by omega), if_pos (by omega), Nat.sub_self, List.getElem?_cons_zero, Array.getElem?_setIfInBounds, if_pos rfl, if_pos (by omega)]
    · by_cases g : o + 1 ≤ k ∧ k < o + 1 + r.length
      · rw [if_pos g, if_pos (by omega), show k - o = (k - (o + 1)) + 1 by omega, List.getElem?_cons_succ]
      · rw [if_neg g, if_neg (by omega), Array.getElem?_setIfInBounds, if_neg (fun h => e h.symm)]
theorem setCells_blk : ∀ (vs : List Value) (w : World) (g o : Nat) (c : Array Value) (t : TypeId), w.heap[g]? = some (.cells c t (0, 0)) → (w.setCells g o vs).heap[g]? = some (.cells (setM c o vs) t (0, 0))
  | [], _, _, _, _, _, h => h
  | v :: r, w, g, o, c, t, h => by
    rw [World.setCells, setM]
    exact setCells_blk r _ g (o + 1) _ t (heap_setCell_same w g o c t v h)
theorem own_setCells {α : Type} {S : Sty α} {w : World} {base n c g : Nat} {e : TypeId} {l : List α} (h : w.ownsRow base e S.K (.slice (some ⟨g, 0, none⟩) n c) n (S.flat l)) (hl : l.length = n) {i : Nat} (hi : i < n) (x : α) :
    (w.setCells g (i * S.K) (S.f x)).ownsRow base e S.K (.slice (some ⟨g, 0, none⟩) n c) n (S.flat (l.set i x)) := by
  refine ⟨by rw [S.flat_len, List.length_set, hl], ?_⟩
  rcases h.2 with ⟨h0, _⟩ | ⟨g', cap, cur, h1, h2, h3, h4, h5, h6, h7⟩
  · cases h0
  · cases h1
    have hK := S.pos
    have hb : i * S.K + S.K ≤ n * S.K := by
      have := Nat.mul_le_mul_right S.K (show i + 1 ≤ n by omega)
      rw [Nat.add_mul, Nat.one_mul] at this
      exact this
    have hc : n * S.K ≤ cur.size := by rw [h6]; exact Nat.mul_le_mul_right _ h4
    refine .inr ⟨g, c, setM cur (i * S.K) (S.f x), rfl, h2, setCells_blk _ _ _ _ _ _ h3, h4, h5, by rw [setM_size, h6], ?_⟩
    apply List.ext_getElem?
    intro k
    by_cases hk : k < n * S.K
    · have hq : k / S.K < n := (Nat.div_lt_iff_lt_mul hK).2 hk
      have hr : k % S.K < S.K := Nat.mod_lt _ hK
      have hkk : k / S.K * S.K + k % S.K = k := by rw [Nat.mul_comm]; exact Nat.div_add_mod k S.K
      have e1 : (S.flat (l.set i x))[k]? = (S.f ((l.set i x).getD (k / S.K) S.z))[k % S.K]? := by
        have := vflat_at S.f S.K S.wid S.z (l.set i x) (k / S.K) (k % S.K) (by rw [List.length_set, hl]; exact hq) hr
        rw [hkk] at this
        exact this
      have e2 : cur[k]? = (S.f (l.getD (k / S.K) S.z))[k % S.K]? := by
        have := vflat_at S.f S.K S.wid S.z l (k / S.K) (k % S.K) (by rw [hl]; exact hq) hr
        rw [hkk] at this
        rw [← this]
        have h8 : (S.flat l)[k]? = (cur.toList.take (n * S.K))[k]? := by rw [h7]
        rw [show (l.flatMap S.f)[k]? = (S.flat l)[k]? from rfl, h8, List.getElem?_take_of_lt hk, Array.getElem?_toList]
      rw [List.getElem?_take_of_lt hk, Array.getElem?_toList, setM_get _ _ _ _ (by rw [S.wid]; omega), S.wid, e1]
      by_cases ei : k / S.K = i
      · rw [if_pos (by rw [← ei]; omega), List.getD_eq_getElem?_getD, ei, List.getElem?_set_self (by omega)]
        congr 1
        rw [← ei]
        omega
      · rw [if_neg (fun hh => ei (by
          obtain ⟨a1, a2⟩ := hh
          have b1 : i ≤ k / S.K := (Nat.le_div_iff_mul_le hK).2 a1
          have b2 : k / S.K < i + 1 := (Nat.div_lt_iff_lt_mul hK).2 (by rw [Nat.add_mul, Nat.one_mul]; exact a2)
          omega)), e2, List.getD_eq_getElem?_getD, List.getD_eq_getElem?_getD, List.getElem?_set_ne (fun h => ei h.symm)]
    · rw [List.getElem?_eq_none (by rw [List.length_take]; omega), List.getElem?_eq_none (by rw [S.flat_len, List.length_set, hl]; omega)]
end Go.Proofs.Ytodoklnohedolaa
end PkUC2_8
section PkUC2_9
/- Bytes that came in are none of the document's store's own block; a box filled. -/
namespace Go.Proofs.Ytodoklnohedolaa
open Go.RowKit
set_option linter.unusedVariables false

theorem bytes_notS {w : World} {S base : Nat} {σ : DSto} (h : DStAt w S base σ) {a : Option Addr} {n c : Nat} {xs : List Nat} (hb : BytesAt w a n c xs) : ∀ b off s, 0 < n → a = some ⟨b, off, s⟩ → b ≠ S := by
  rintro b off s hp rfl e
  obtain ⟨b', off', he, _, hc⟩ := hb.cells hp
  cases he
  have h1 := hc 0 hp
  subst e
  rw [cell_of_row w b (off + 0) _ _ (0, 0) h.blk] at h1
  rcases off with _ | _ | _ | _ | _ | off <;> simp at h1
theorem BytesAt.turnD {w w' : World} {a : Option Addr} {n c : Nat} {xs : List Nat} (h : BytesAt w a n c xs) {r : Nat} (hg : w.grownBy w' (some r)) (hne : ∀ b off s, 0 < n → a = some ⟨b, off, s⟩ → b ≠ r) : BytesAt w' a n c xs :=
  ⟨h.len, h.cap, h.byte, h.reach, h.capm, h.nl, fun hp => by
    obtain ⟨b, off, ha, hlt, hc⟩ := h.cells hp
    exact ⟨b, off, ha, Nat.lt_of_lt_of_le hlt hg.size, fun k hk => hg.cell (hc k hk) (fun e => hne b off _ hp ha (Option.some.inj e))⟩⟩
theorem setRow_atD {w : World} {g : Nat} {cs cs' : Array Value} {t : TypeId} {fr : Nat × Nat} (h : w.heap[g]? = some (.cells cs t fr)) : (w.setRow g cs').heap[g]? = some (.cells cs' t fr) := setRow_heap w g cs cs' t fr h
theorem grown_rowD (w : World) (g : Nat) (cs : Array Value) : w.grownBy (w.setRow g cs) (some g) :=
  ⟨rfl, rfl, rfl, by unfold World.setRow; simp, fun k _ hk => setRow_other w g k cs (fun e => hk (by rw [e]))⟩
end Go.Proofs.Ytodoklnohedolaa
end PkUC2_9
section PkUC2_10
/- Maps of any type, whose elements are told of as they are: an ordered list of keys and things beside them. -/
namespace Go.Proofs.Ytodoklnohedolaa
open Go.RowKit
open Go.Maps (Keyed)
set_option linter.unusedVariables false

def heldR (v : Value) : Option (DataW Value × List MemPlace) := some (.held v, [])
section
variable {κ α : Type} (lit : κ → Lit)
def insK (x : κ × α) : List (κ × α) → List (κ × α)
  | [] => [x]
  | y :: r => if (lit x.1).before (lit y.1) = true then x :: y :: r else y :: insK x r
def dropK (k : κ) (l : List (κ × α)) : List (κ × α) := l.filter fun p => !(lit p.1).sameKey (lit k)
def putK (k : κ) (a : α) (l : List (κ × α)) : List (κ × α) := insK lit (k, a) (dropK lit k l)
def getK (k : κ) (l : List (κ × α)) : Option α := (l.find? fun p => (lit p.1).sameKey (lit k)).map (·.2)
def encK (f : α → Value) (l : List (κ × α)) : List (Lit × DataW Value) := l.map fun p => (lit p.1, .held (f p.2))
variable {lit} {f : α → Value} {l : List (κ × α)} {k : κ} {a : α}
theorem enc_ins (x : κ × α) : ∀ l : List (κ × α), encK lit f (insK lit x l) = DataW.insert (lit x.1, .held (f x.2)) (encK lit f l)
  | [] => rfl
  | y :: r => by
    unfold insK encK
    rw [List.map_cons]
    unfold DataW.insert
    show List.map _ (if _ then _ else _) = if (lit x.1).before (lit y.1) = true then _ else _
    split
    · rfl
    · rw [List.map_cons]
      exact congrArg _ (enc_ins x r)
theorem enc_drop : encK lit f (dropK lit k l) = (encK lit f l).filter fun p => !p.1.sameKey (lit k) := by
  unfold encK dropK
  rw [List.filter_map]
  rfl
theorem enc_put : (DataW.map (encK lit f l)).put (lit k) (.held (f a)) = .map (encK lit f (putK lit k a l)) := by
  unfold putK
  rw [enc_ins, enc_drop]
  rfl
theorem enc_del : (DataW.map (encK lit f l)).del (lit k) = .map (encK lit f (dropK lit k l)) := by
  rw [enc_drop]; rfl
theorem enc_find : ∀ l : List (κ × α), (encK lit f l).find? (fun p => p.1.sameKey (lit k)) = (l.find? fun p => (lit p.1).sameKey (lit k)).map fun p => (lit p.1, .held (f p.2)) := by
  intro l
  unfold encK
  rw [List.find?_map]
  rfl
theorem enc_at (z : DataW Value) : (DataW.map (encK lit f l)).atKey (lit k) z = match getK lit k l with | some a => .held (f a) | none => z := by
  unfold DataW.atKey getK
  simp only [enc_find]
  cases l.find? fun p => (lit p.1).sameKey (lit k) <;> rfl
theorem enc_has : Maps.has (DataW.map (encK lit f l)) (lit k) = (getK lit k l).isSome := by
  show (encK lit f l).any _ = _
  unfold getK encK
  rw [List.any_map, Option.isSome_map, Bool.eq_iff_iff, List.any_eq_true, List.find?_isSome]
  rfl
theorem enc_size : Maps.size (DataW.map (encK lit f l)) = l.length := by
  show (encK lit f l).length = _
  unfold encK; rw [List.length_map]
end
/-- a map's type: its number, its key's, its element's; the element's zero value -/
structure MTy where
  t : TypeId
  k : TypeId
  e : TypeId
  zv : Value
  K : Keyed Try.prog k
  ht : Try.prog.underlying t = some (.map k e)
  hz : ∀ w, (zeroValue e).run Try.prog w = .ok zv w
theorem own_tight {w : World} {k : TypeId} {R : Value → Option (DataW Value × List MemPlace)} {M n : Nat} {D : DataW Value} (h : w.ownsMap Try.prog k R M n D) : w.ownsMap Try.prog k R M (Maps.size D) D := by
  obtain ⟨es, clock, hb, F, hs, rfl⟩ := h
  exact ⟨es, clock, hb, F, by simp [Maps.size, length_sorted], rfl⟩
section
variable {κ α : Type} {lit : κ → Lit} {f : α → Value} {l : List (κ × α)} {k : κ} {a : α} {T : MTy} {w w' : World} {M : Nat}
/-- block M is a map of these keys and things -/
def GM (T : MTy) (lit : κ → Lit) (f : α → Value) (w : World) (M : Nat) (l : List (κ × α)) : Prop := w.ownsMap Try.prog T.k heldR M l.length (.map (encK lit f l))
theorem GM.made (T : MTy) (lit : κ → Lit) (f : α → Value) (w : World) : GM T lit f (w.alloc (.map #[] 0)) w.heap.size [] := World.ownsMap_made _ _ _ _
theorem GM.lt (h : GM T lit f w M l) : M < w.heap.size := World.ownsMap.lt h
theorem GM.same (h : GM T lit f w M l) (e : w'.heap[M]? = w.heap[M]?) : GM T lit f w' M l := by
  obtain ⟨es, clock, hb, F⟩ := h
  exact ⟨es, clock, e.trans hb, F⟩
theorem GM.below (h : GM T lit f w M l) (hb : Below w.heap.size w w') : GM T lit f w' M l := h.same (hb.block M h.lt)
/-- 'm[k]' -/
theorem GM.look (h : GM T lit f w M l) {key : Value} (hk : keyOf Try.prog T.k key = some (lit k)) :
    (Instr.lookup T.t (.map (some M)) key false).run Try.prog w = .ok ((getK lit k l).elim T.zv f) w := by
  obtain ⟨v, ps, hrun, hv⟩ := World.ownsMap.lookup h T.K T.ht (T.hz w) (zd := .held T.zv) (zp := []) rfl hk
  rw [enc_at] at hv
  rw [hrun]
  cases hg : getK lit k l with
  | none => rw [hg] at hv; simp [heldR] at hv; rw [hv.1]; rfl
  | some a => rw [hg] at hv; simp [heldR] at hv; rw [hv.1]; rfl
/-- 'v, ok := m[k]' -/
theorem GM.look_ok (h : GM T lit f w M l) {key : Value} (hk : keyOf Try.prog T.k key = some (lit k)) :
    (Instr.lookup T.t (.map (some M)) key true).run Try.prog w = .ok (.tuple #[(getK lit k l).elim T.zv f, .bool (getK lit k l).isSome]) w := by
  obtain ⟨v, ps, hrun, hv⟩ := World.ownsMap.look_ok h T.K T.ht (T.hz w) (zd := .held T.zv) (zp := []) rfl hk
  rw [enc_at] at hv
  rw [hrun, enc_has]
  cases hg : getK lit k l with
  | none => rw [hg] at hv; simp [heldR] at hv; rw [hv.1]; rfl
  | some a => rw [hg] at hv; simp [heldR] at hv; rw [hv.1]; rfl
/-- 'm[k] = v' -/
theorem GM.store (h : GM T lit f w M l) {key val : Value} (hk : keyOf Try.prog T.k key = some (lit k)) (hv : val = f a) (hn : l.length < maxLen) :
    ∃ w', (Instr.mapUpdate T.t (.map (some M)) key val).run Try.prog w = .ok () w' ∧ GM T lit f w' M (putK lit k a l) ∧ w.mapTurned w' M := by
  obtain ⟨w', hrun, r1, r2⟩ := World.ownsMap.store h T.K T.ht hn (val := val) (d := .held (f a)) (ps := []) hk (by rw [hv]; rfl)
  rw [enc_put] at r1
  have r3 := own_tight r1
  rw [enc_size] at r3
  exact ⟨w', hrun, r3, r2⟩
/-- 'delete(m, k)' -/
theorem GM.drop (h : GM T lit f w M l) {key : Value} (hk : keyOf Try.prog T.k key = some (lit k)) (ty : TypeId) :
    ∃ w', (Builtin.delete_ #[T.t, T.k] ty #[.map (some M), key]).run Try.prog w = .ok (.tuple #[]) w' ∧ GM T lit f w' M (dropK lit k l) ∧ w.mapTurned w' M := by
  obtain ⟨w', hrun, r1, r2⟩ := World.ownsMap.drop h T.K T.ht hk ty
  rw [enc_del] at r1
  have r3 := own_tight r1
  rw [enc_size] at r3
  exact ⟨w', hrun, r3, r2⟩
/-- 'len(m)' -/
theorem GM.len (h : GM T lit f w M l) (ty : TypeId) : (Builtin.len_ #[T.t] ty #[.map (some M)]).run Try.prog w = .ok (.int .i64 l.length) w := by
  have := World.ownsMap.len h T.ht ty
  rw [enc_size] at this
  exact this
end
end Go.Proofs.Ytodoklnohedolaa
end PkUC2_10
