/- Squeezing, walked: three bytes of a window, how many bytes stand likewise; the document's answer to that. Written by gensqat.py. -/
import Derived.Test.YteggmbfhfoijoaaDoorSqPlain
import Derived.BigQuiet
import Derived.WalkArith
import Derived.Laws.Rows
import Derived.Laws.ResultCell
namespace Go.Proofs.YteggmbfhfoijoaaDoor
open Go.RowKit
set_option linter.unusedVariables false

theorem ret_cell_tmp {P : Program} {fn : Func} {p u : Tmp} {ty : TypeId} (h : fn.results = #[.cell p ty, .tmp u]) (tmps : Array Value) (w : World) (g : Nat) (t : TypeId) (cs : Array Value) (fr : Nat × Nat) (d : TypeDesc)
    (hp : tmps.getD p undef = .pointer (some ⟨g, 0, none⟩)) (hg : w.heap[g]? = some (.cells cs t fr))
    (hu : P.underlying ty = some d) (hd : (match d with | .struct _ | .array _ _ => true | _ => false) = true) (hi : (P.info? ty).map (·.size) = some cs.size) :
    (results fn tmps).run P w = .ok (.tuple #[.agg cs, tmps.getD u undef]) w := by
  rw [results_cell_tmp h]
  have hp' : tmps[p]?.getD undef = .pointer (some ⟨g, 0, none⟩) := by simpa using hp
  simp [hp', asAddr, run_loadVar_row w g t ty cs fr d hg hu hd hi, Result.andThen]

theorem array_at (w : World) (ad : Addr) (m : Nat) : (Instr.arrayAt 133 (.slice (some ad) 3 m)).run Tryd.prog w = .ok (.pointer (some ad)) w := by
  simp [Instr.arrayAt, run_underlying Tryd.underlying133, Result.andThen]

theorem bytes_at {w : World} {a : Option Addr} {n c : Nat} {b : List Nat} (h : BytesAt w a n c b) {i : Nat} (hi : i < n) : ∃ g off, a = some ⟨g, off, none⟩ ∧ g < w.heap.size ∧ ∀ j, j < n → w.cell? ⟨g, off + j, none⟩ = some (.int .u8 ((b.getD j 0 : Nat) : Int)) := h.cells (by omega)

set_option maxRecDepth 100000 in
set_option maxHeartbeats 1000000 in
theorem three_no {w : World} {W : Nat} {a : Option Addr} {n c : Nat} (c0 : w.cell? ⟨W, 0, none⟩ = some (.slice a n c)) (hn : n ≤ 140737488351232) {i : Nat} (hi : i ≤ n) (h : n < i + 3) (hW : W < w.heap.size) :
    Calls Tryd.prog 78 #[.pointer (some ⟨W, 0, none⟩), .int .i64 (i : Int)] w fun e w' => e = .returned (.tuple #[.agg #[.int .u8 0, .int .u8 0, .int .u8 0], .bool false]) ∧ Below w.heap.size w w' := by
  have hii : (n : Int) < (i : Int) + 3 := by omega
  go_enter Tryd.func78, Tryd.ntmps78
  go_wp2_with fail
  refine bodyPost_ret (ret_cell_tmp rfl _ _ w.heap.size 133 _ _ _ rfl (heap_alloc_new _ _) Tryd.underlying133 rfl (by kernel_rfl)) rfl ?_
  exact ⟨rfl, (Below.refl _ _).alloc (Nat.le_refl _) _⟩

set_option maxRecDepth 100000 in
set_option maxHeartbeats 1000000 in
theorem three_yes {w : World} {W : Nat} {a : Option Addr} {n c : Nat} {b : List Nat} (c0 : w.cell? ⟨W, 0, none⟩ = some (.slice a n c)) (hb : BytesAt w a n c b) {i : Nat} (h : i + 3 ≤ n) (hW : W < w.heap.size) :
    Calls Tryd.prog 78 #[.pointer (some ⟨W, 0, none⟩), .int .i64 (i : Int)] w fun e w' => e = .returned (.tuple #[kv (k3 b i), .bool true]) ∧ Below w.heap.size w w' := by
  obtain ⟨g, off, rfl, hlt, hc⟩ := bytes_at hb (i := i) (by omega)
  have x0 := hc i (by omega)
  have x1 : w.cell? ⟨g, off + i + 1, none⟩ = _ := hc (i + 1) (by omega)
  have x2 : w.cell? ⟨g, off + i + 2, none⟩ = _ := hc (i + 2) (by omega)
  obtain ⟨p0, hp0⟩ : ∃ x, x = b.getD i 0 := ⟨_, rfl⟩
  obtain ⟨p1, hp1⟩ : ∃ x, x = b.getD (i + 1) 0 := ⟨_, rfl⟩
  obtain ⟨p2, hp2⟩ : ∃ x, x = b.getD (i + 2) 0 := ⟨_, rfl⟩
  have HK := Lib.hid (show k3 b i = (p0, p1, p2) by rw [hp0, hp1, hp2]; rfl)
  rw [← hp0] at x0
  rw [← hp1] at x1
  rw [← hp2] at x2
  clear hp0 hp1 hp2
  have hcap := hb.cap
  have hcm := hb.capm
  have hr := hb.reach
  have hii : (i : Int) + 3 ≤ (n : Int) := by omega
  have harr := array_at
  clear hb hc
  go_enter Tryd.func78, Tryd.ntmps78
  go_wp2_with fail
  refine bodyPost_ret (ret_cell_tmp rfl _ _ w.heap.size 133 _ _ _ rfl (heap_alloc_new _ _) Tryd.underlying133 rfl (by kernel_rfl)) rfl ?_
  rw [HK.out]
  exact ⟨rfl, (Below.refl _ _).alloc (Nat.le_refl _) _⟩

set_option maxRecDepth 100000 in
set_option maxHeartbeats 2000000 in
theorem likewise_any {w : World} {W : Nat} {a : Option Addr} {n c : Nat} {b : List Nat} (c0 : w.cell? ⟨W, 0, none⟩ = some (.slice a n c)) (hb : BytesAt w a n c b) {i j m : Nat} (hi : i + m ≤ n) (hj : j + m ≤ n) :
    Calls Tryd.prog 79 #[.pointer (some ⟨W, 0, none⟩), .int .i64 (i : Int), .int .i64 (j : Int), .int .i64 (m : Int)] w fun e w' => e = .returned (.int .i64 ((like b i j m : Nat) : Int)) ∧ ∃ q, w' = w.drewN q := by

  have hcap := hb.cap
  have hcm := hb.capm
  have hr := hb.reach
  have HB := Lib.hid hb
  clear hb
  go_enter Tryd.func79, Tryd.ntmps79
  go_wp2_with fail
  go_loopw [9] (fun s7 wr => ∃ k q : Nat, k ≤ m ∧ s7 = .int .i64 k ∧ Hid (∀ t, t < k → b.getD (i + t) 0 = b.getD (j + t) 0) ∧ Hid (wr = w.drewN q)) (fun s7 _ => m - (intOf s7).toNat)
  case atStart => exact ⟨0, 0, by omega, rfl, Lib.hid (fun t ht => by omega), Lib.hid rfl⟩
  case round =>
    obtain ⟨k, q, hk, rfl, HE, HW⟩ := hrel
    rename World => wr
    have HWW := HW.out
    subst HWW
    by_cases hkm : k < m
    · obtain ⟨g, off, ha, hlt, hcell⟩ := bytes_at HB.out (i := i + k) (by omega)
      have hck := hcell (i + k) (by omega)
      have hck' := hcell (j + k) (by omega)
      obtain ⟨x, hx⟩ : ∃ x, x = b.getD (i + k) 0 := ⟨_, rfl⟩
      obtain ⟨y, hy⟩ : ∃ y, y = b.getD (j + k) 0 := ⟨_, rfl⟩
      rw [← hx] at hck
      rw [← hy] at hck'
      subst ha

      by_cases hxy : x = y
      · have HE2 := Lib.hid (show ∀ t, t < k + 1 → b.getD (i + t) 0 = b.getD (j + t) 0 from fun t ht => by
          rcases Nat.lt_or_ge t k with g | g
          · exact HE.out t g
          · obtain rfl : t = k := by omega
            rw [← hx, ← hy, hxy])
        subst hxy
        have hq : ((x : Int) == (x : Int)) = true := by simp
        clear hcell hx hy
        go_wp2_with fail
        go_quiet (fail)
        go_wp2_with fail
        go_roundw
        case rel => exact ⟨k + 1, _, by omega, by go_num, HE2, Lib.hid (by first | rfl | rw [World.drewN_drewN])⟩
        case measure => simp [intOf]; omega
      · have hq : ((x : Int) == (y : Int)) = false := by rw [beq_eq_false_iff_ne]; omega
        have HN := Lib.hid (show like b i j m = k from like_end (by omega) HE.out (by rw [← hx, ← hy]; exact hxy))
        clear hcell hx hy hxy
        go_wp2_with fail
        go_quiet (fail)
        go_wp2_with fail
        go_ret
        rw [HN.out]
        exact ⟨rfl, _, by first | rfl | rw [World.drewN_drewN]⟩
    · obtain rfl : k = m := by omega
      have HN := Lib.hid (show like b i j k = k from like_full HE.out)

      clear hkm
      go_wp2_with fail
      go_quiet (fail)
      go_wp2_with fail
      go_ret
      rw [HN.out]
      exact ⟨rfl, _, by first | rfl | rw [World.drewN_drewN]⟩


end Go.Proofs.YteggmbfhfoijoaaDoor
