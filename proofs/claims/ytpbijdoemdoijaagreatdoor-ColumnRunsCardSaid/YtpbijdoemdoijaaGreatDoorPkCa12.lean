/- Texts put together by packtpl2.py: ColTxPl, ColSeq, ColSd, ColTx. -/
import Derived.Test.YtpbijdoemdoijaaGreatDoorPkCa1
import Derived.Test.YtpbijdoemdoijaaGreatDoorPkCa11
import Derived.Lib.AppendStr
import Derived.RangeFuncBox
import Derived.RangeFuncLeaves
import Derived.RangeFuncFrom
import Derived.Shelf.Abstract
import Derived.WalkKit
import Derived.OwnWalkIn
import Derived.TacticsInMore
import Derived.LoopNIn
import Derived.LoopIn
import Derived.Maps.AppendAt
import Derived.Sort.OwnSorted
section PkCa12_0
/- A column of texts: its content, and what any content says of texts, plainly. -/
namespace Go.Proofs.YtpbijdoemdoijaaGreatDoor
open Go.RowKit BitsPlain NumsPlain
set_option linter.unusedVariables false

/-- texts, as things of one cell -/
def StrS : Sty ByteArray := ⟨fun s => [.string s], 1, ByteArray.empty, fun _ s => s.size ≤ 140737488355328, by decide, fun _ => rfl, (fun x u hu => by rw [List.mem_singleton.1 hu]; rfl), fun _ h => h⟩
/-- a text's bytes -/
def byl (s : ByteArray) : List Nat := s.data.toList.map UInt8.toNat
theorem byl_len (s : ByteArray) : (byl s).length = s.size := by unfold byl; rw [List.length_map, Array.length_toList]; rfl
theorem byl_byte (s : ByteArray) : ∀ x ∈ byl s, x < 256 := by
  intro x hx
  unfold byl at hx
  obtain ⟨y, _, rfl⟩ := List.mem_map.1 hx
  exact y.toNat_lt
theorem byl_cells (s : ByteArray) : Lib.strCells s = bv (byl s) := by
  unfold Lib.strCells bv byl
  rw [List.map_map]
  rfl
theorem bs_byl (s : ByteArray) : bs (byl s) = s := by
  apply ByteArray.ext
  apply Array.toList_inj.1
  unfold bs byl
  rw [strOfNums_data, List.map_map, List.map_map]
  conv => rhs; rw [← List.map_id s.data.toList]
  apply List.map_congr_left
  intro x _
  simp

def sz (l : List ByteArray) (k : Nat) : Nat := (l.getD k ByteArray.empty).size
def szTo (l : List ByteArray) : Nat → List Nat
  | 0 => []
  | k + 1 => szTo l k ++ pu (sz l k)
def txTo (l : List ByteArray) : Nat → List Nat
  | 0 => []
  | k + 1 => txTo l k ++ byl (l.getD k ByteArray.empty)
def textsC (l : List ByteArray) : List Nat := pu l.length ++ szTo l l.length ++ txTo l l.length
theorem szTo_len (l : List ByteArray) (h : ∀ s ∈ l, s.size ≤ 1024) : ∀ k, k ≤ l.length → (szTo l k).length ≤ k * 10
  | 0, _ => by simp [szTo]
  | k + 1, hk => by
    have h1 := szTo_len l h k (by omega)
    have h2 : sz l k ≤ 1024 := by unfold sz; rw [show l.getD k ByteArray.empty = l[k] from by simp [show k < l.length from by omega]]; exact h _ (List.getElem_mem _)
    have h3 := pu_ten (n := sz l k) (by omega)
    rw [szTo, List.length_append, Nat.succ_mul]
    omega
theorem txTo_len (l : List ByteArray) (h : ∀ s ∈ l, s.size ≤ 1024) : ∀ k, k ≤ l.length → (txTo l k).length ≤ k * 1024
  | 0, _ => by simp [txTo]
  | k + 1, hk => by
    have h1 := txTo_len l h k (by omega)
    have h2 : (l.getD k ByteArray.empty).size ≤ 1024 := by rw [show l.getD k ByteArray.empty = l[k] from by simp [show k < l.length from by omega]]; exact h _ (List.getElem_mem _)
    rw [txTo, List.length_append, byl_len, Nat.succ_mul]
    omega
theorem szTo_byte (l : List ByteArray) (h : ∀ s ∈ l, s.size ≤ 1024) : ∀ k, k ≤ l.length → ∀ x ∈ szTo l k, x < 256
  | 0, _, x, hx => by cases hx
  | k + 1, hk, x, hx => by
    rw [szTo] at hx
    have h2 : sz l k ≤ 1024 := by unfold sz; rw [show l.getD k ByteArray.empty = l[k] from by simp [show k < l.length from by omega]]; exact h _ (List.getElem_mem _)
    rcases List.mem_append.1 hx with e | e
    · exact szTo_byte l h k (by omega) x e
    · exact pu_bytes (by omega) x e
theorem txTo_byte (l : List ByteArray) : ∀ k, ∀ x ∈ txTo l k, x < 256
  | 0, x, hx => by cases hx
  | k + 1, x, hx => by
    rw [txTo] at hx
    rcases List.mem_append.1 hx with e | e
    · exact txTo_byte l k x e
    · exact byl_byte _ x e

/-! ### what any bytes say -/
/-- the first k sizes, from place i with error e on -/
def szR (xs : List Nat) (i e : Nat) : Nat → List Nat × Nat × Nat
  | 0 => ([], i, e)
  | k + 1 => ((szR xs i e k).1 ++ [(ccn xs (szR xs i e k).2.1 (szR xs i e k).2.2 1024 2).1], (ccn xs (szR xs i e k).2.1 (szR xs i e k).2.2 1024 2).2)
/-- the first k texts of these sizes -/
def txR (xs : List Nat) (ss : List Nat) (i e : Nat) : Nat → List ByteArray × Nat × Nat
  | 0 => ([], i, e)
  | k + 1 => ((txR xs ss i e k).1 ++ [bs (cb xs (txR xs ss i e k).2.1 (txR xs ss i e k).2.2 ((ss.getD k 0 : Nat) : Int)).1], (cb xs (txR xs ss i e k).2.1 (txR xs ss i e k).2.2 ((ss.getD k 0 : Nat) : Int)).2)
def rdT (xs : List Nat) : List ByteArray :=
  let c := ccn xs 0 0 2048 2
  let s := szR xs c.2.1 c.2.2 c.1
  let t := txR xs s.1 s.2.1 s.2.2 c.1
  if cend xs.length t.2.1 t.2.2 = 0 then t.1 else []
theorem szR_len (xs : List Nat) (i e : Nat) : ∀ k, (szR xs i e k).1.length = k
  | 0 => rfl
  | k + 1 => by rw [szR, List.length_append, szR_len xs i e k]; rfl
theorem txR_len (xs ss : List Nat) (i e : Nat) : ∀ k, (txR xs ss i e k).1.length = k
  | 0 => rfl
  | k + 1 => by rw [txR, List.length_append, txR_len xs ss i e k]; rfl
theorem szR_of {l : List ByteArray} (h : ∀ s ∈ l, s.size ≤ 1024) (pre rest : List Nat) : ∀ k d, k + d = l.length → szR (pre ++ (szTo l l.length ++ rest)) pre.length 0 k = ((List.range k).map (sz l), pre.length + (szTo l k).length, 0)
  | 0, d, _ => by simp [szR, szTo]
  | k + 1, d, hk => by
    rw [szR, szR_of h pre rest k (d + 1) (by omega)]
    have hz : sz l k ≤ 1024 := by unfold sz; rw [show l.getD k ByteArray.empty = l[k] from by simp [show k < l.length from by omega]]; exact h _ (List.getElem_mem _)
    obtain ⟨r, hr⟩ : ∃ r, szTo l l.length = szTo l k ++ (pu (sz l k) ++ r) := by
      have : ∀ m, ∃ r, szTo l (k + 1 + m) = szTo l k ++ (pu (sz l k) ++ r) := by
        intro m
        induction m with
        | zero => exact ⟨[], by rw [Nat.add_zero, szTo, List.append_nil]⟩
        | succ m ih =>
          obtain ⟨r, hr⟩ := ih
          exact ⟨r ++ pu (sz l (k + 1 + m)), by rw [← Nat.add_assoc, szTo, hr]; simp⟩
      have h2 := this d
      rw [show k + 1 + d = l.length from by omega] at h2
      exact h2
    have e1 : pre ++ (szTo l l.length ++ rest) = (pre ++ szTo l k) ++ (pu (sz l k) ++ (r ++ rest)) := by rw [hr]; simp
    have h1 := cn_at (pre ++ szTo l k) (r ++ rest) (n := sz l k) (most := 1024) (above := 2) (by omega) (by omega)
    rw [← e1, List.length_append] at h1
    simp only [h1]
    rw [szTo, List.length_append, List.range_succ, List.map_append, Nat.add_assoc]
    rfl
theorem cb_at (pre C r : List Nat) : cb (pre ++ (C ++ r)) pre.length 0 (C.length : Int) = (C, pre.length + C.length, 0) := by
  unfold cb
  rw [if_neg (by simp), if_neg (by simp only [List.length_append]; omega), List.drop_left, Int.toNat_natCast, List.take_left]
theorem txR_of (l : List ByteArray) (pre : List Nat) : ∀ k d, k + d = l.length → txR (pre ++ txTo l l.length) ((List.range l.length).map (sz l)) pre.length 0 k = (l.take k, pre.length + (txTo l k).length, 0)
  | 0, d, _ => by simp [txR, txTo]
  | k + 1, d, hk => by
    have hkl : k < l.length := by omega
    rw [txR, txR_of l pre k (d + 1) (by omega)]
    obtain ⟨r, hr⟩ : ∃ r, txTo l l.length = txTo l k ++ (byl (l.getD k ByteArray.empty) ++ r) := by
      have : ∀ m, ∃ r, txTo l (k + 1 + m) = txTo l k ++ (byl (l.getD k ByteArray.empty) ++ r) := by
        intro m
        induction m with
        | zero => exact ⟨[], by rw [Nat.add_zero, txTo, List.append_nil]⟩
        | succ m ih =>
          obtain ⟨r, hr⟩ := ih
          exact ⟨r ++ byl (l.getD (k + 1 + m) ByteArray.empty), by rw [← Nat.add_assoc, txTo, hr]; simp⟩
      have h2 := this d
      rw [show k + 1 + d = l.length from by omega] at h2
      exact h2
    have e1 : pre ++ txTo l l.length = (pre ++ txTo l k) ++ (byl (l.getD k ByteArray.empty) ++ r) := by rw [hr]; simp
    have h1 := cb_at (pre ++ txTo l k) (byl (l.getD k ByteArray.empty)) r
    have h2 : ((List.range l.length).map (sz l)).getD k 0 = (byl (l.getD k ByteArray.empty)).length := by
      rw [byl_len]; simp [hkl, sz]
    rw [← e1, List.length_append] at h1
    simp only [h2, h1]
    rw [bs_byl, txTo, List.length_append, Nat.add_assoc, List.take_add_one, List.getElem?_eq_getElem hkl]
    simp [hkl]
/-- what is put is read -/
theorem rdT_of {l : List ByteArray} (hl : l.length ≤ 2048) (h : ∀ s ∈ l, s.size ≤ 1024) : rdT (textsC l) = l := by
  have hc : ccn (textsC l) 0 0 2048 2 = (l.length, (pu l.length).length, 0) := by
    have h1 := cn_at [] (szTo l l.length ++ txTo l l.length) (n := l.length) (most := 2048) (above := 2) (by omega) (by omega)
    rw [List.nil_append, List.length_nil, Nat.zero_add] at h1
    unfold textsC; rw [List.append_assoc]; exact h1
  have hs := szR_of h (pu l.length) (txTo l l.length) l.length 0 rfl
  rw [← List.append_assoc] at hs
  have ht := txR_of l (pu l.length ++ szTo l l.length) l.length 0 rfl
  rw [List.length_append] at ht
  unfold rdT
  simp only [hc]
  have hs2 : szR (textsC l) (pu l.length).length 0 l.length = _ := hs
  simp only [hs2]
  have ht2 : txR (textsC l) ((List.range l.length).map (sz l)) ((pu l.length).length + (szTo l l.length).length) 0 l.length = _ := ht
  simp only [ht2]
  rw [if_pos (by
    unfold cend textsC
    rw [if_pos rfl, if_neg (by simp only [List.length_append]; omega)]), List.take_length]
end Go.Proofs.YtpbijdoemdoijaaGreatDoor
end PkCa12_0
section PkCa12_1
/- slices.Values, Collect, Sorted of texts, walked: a range over a function (inside the wide fence). -/
namespace Go.Proofs.YtpbijdoemdoijaaGreatDoor
open Go.RowKit Go.Shelf
set_option linter.unusedVariables false
attribute [local go_sem] Oper.semAt_some

theorem take_snoc (zs : List ByteArray) {k : Nat} (hk : k < zs.length) : zs.take (k + 1) = zs.take k ++ [zs[k]?.getD ByteArray.empty] := by
  rw [List.take_add_one, List.getElem?_eq_getElem hk]; rfl
theorem seq_info : (Tryz.prog.info? 9).map (fun i => (i.zero, i.size, i.bytes)) = some (some (.string ByteArray.empty), 1, 16) := by kernel_rfl

set_option maxRecDepth 100000 in
set_option maxHeartbeats 2000000 in
theorem seq_values1 (n : Nat) (hn : 1 ≤ n) (l Bs n₀ len cap : Nat) (sa : Option Addr) (zs : List ByteArray) (hlen : len ≤ 100000) (J Jx : List ByteArray → World → Prop)
    (hY : ∀ pre x W, J pre W → pre.length < len → YieldAt Fence.wide (n - 1) Tryz.prog l #[.string x] W fun e W' =>
      (e = .returned (.bool true) ∧ J (pre ++ [x]) W' ∧ Below n₀ W W') ∨ (e = .returned (.bool false) ∧ Jx (pre ++ [x]) W'))
    (W : World) (hBs : W.cell? ⟨Bs, 0, none⟩ = some (.slice sa len cap)) (hv : VecAt StrS W sa len cap zs) (hlow : ∀ b off s, 0 < len → sa = some ⟨b, off, s⟩ → b < n₀) (h0 : J [] W) :
    CallsIn Fence.wide n Tryz.prog 120 #[.func (.yield l) #[] #[], .pointer (some ⟨Bs, 0, none⟩)] W fun e W' => (∃ v, e = .returned v) ∧
      ((∃ ys, ys = zs ∧ J ys W') ∨ (∃ pre, True ∧ Jx pre W')) := by
  have hzl := hv.len
  refine callsIn_of_wp Tryz.func120 rfl trivial ?_ rfl
  simp only [Tryz.ntmps120, List.size_toArray, List.length_cons, List.length_nil, Nat.reduceAdd, Nat.reduceSub, Array.replicate_succ, Array.replicate_zero, List.push_toArray, List.append_toArray, List.nil_append, List.cons_append]
  gi_wp2
  gi_loopw [7] (fun i wr => ∃ k : Nat, k ≤ len ∧ i = .int .i64 k ∧ J (zs.take k) wr ∧ Below n₀ W wr)
    (fun i _ => len - (intOf i).toNat)
  case atStart => exact ⟨0, Nat.zero_le _, rfl, by simpa using h0, Below.refl _ _⟩
  case round =>
    obtain ⟨k, hk, rfl, hJs, hnx⟩ := hrel
    by_cases hlt : k < len
    · obtain ⟨b, off, rfl, hbw, hc⟩ := hv.cells (by omega)
      have hb := hlow b off none (by omega) rfl
      have hcx' : World.cell? _ ⟨b, off + k, none⟩ = some (.string (zs[k]?.getD ByteArray.empty)) := (hnx.cell (p := ⟨b, off + k, none⟩) hb).trans (by
        have h3 := hc k hlt 0 (.string (zs.getD k StrS.z)) rfl
        rw [show off + k * StrS.K + 0 = off + k from by show off + k * 1 + 0 = off + k; omega, List.getD_eq_getElem?_getD] at h3
        exact h3)
      obtain ⟨x, hx⟩ : ∃ x, x = zs[k]?.getD ByteArray.empty := ⟨_, rfl⟩
      have hts : zs.take (k + 1) = zs.take k ++ [x] := by rw [hx]; exact take_snoc zs (by omega)
      rw [← hx] at hcx'
      obtain ⟨fn, tmps, assign, body, hy, hR⟩ := hY _ x _ hJs (by rw [List.length_take]; omega)
      have HTS := Lib.hid hts
      clear hc hlow hx hts
      gi_wp2
      refine hR.mono ?_
      rintro e W3 (⟨rfl, hJ3, hk3⟩ | ⟨rfl, hJx3⟩)
      · gi_wp2
        go_roundw
        case rel => exact ⟨k + 1, by omega, by simp, by rw [HTS.out]; exact hJ3, hnx.trans hk3⟩
        case measure => simp [intOf]; omega
      · gi_wp2
        refine bodyPost_ret (results_none rfl _ _ _) rfl ?_
        exact ⟨⟨_, rfl⟩, .inr ⟨_, trivial, hJx3⟩⟩
    · obtain rfl : k = len := by omega
      gi_wp2
      go_end0
      exact ⟨⟨_, rfl⟩, .inl ⟨_, rfl, by rw [← hzl, List.take_length] at hJs; exact hJs⟩⟩

theorem values_any {w : World} (a : Option Addr) (n c : Nat) :
    Calls Tryz.prog 78 #[.slice a n c] w fun e w' => e = .returned (.func (.func 120) #[] #[.pointer (some ⟨w.heap.size, 0, none⟩)]) ∧ w' = w.alloc (.cells #[.slice a n c] 23) := by
  go_enter Tryz.func78, Tryz.ntmps78
  go_wp2_with fail
  go_ret
  exact ⟨rfl, rfl⟩

theorem seq_stops (n : Nat) (hn : 1 ≤ n) (Bs n₀ len cap : Nat) (sa : Option Addr) (zs : List ByteArray) (hlen : len ≤ 100000) (w : World) (hBs : Bs < w.heap.size) (hn₀ : n₀ ≤ w.heap.size)
    (hc : w.cell? ⟨Bs, 0, none⟩ = some (.slice sa len cap)) (hv : VecAt StrS w sa len cap zs) (hlow : ∀ b off s, 0 < len → sa = some ⟨b, off, s⟩ → b < n₀) :
    SeqStopsK Fence.wide n Tryz.prog 120 #[.pointer (some ⟨Bs, 0, none⟩)] (fun x : ByteArray => #[Value.string x]) (Below n₀) (fun ys => ys = zs) (fun _ => True) len w := fun l J Jx W hW _ _ hY h0 =>
  seq_values1 n hn l Bs n₀ len cap sa zs hlen J Jx hY W ((hW.cell (p := ⟨Bs, 0, none⟩) hBs).trans hc) (hv.kept hW) hlow h0

set_option maxRecDepth 100000 in
set_option maxHeartbeats 2000000 in
theorem append_seq (n : Nat) (hn : 3 ≤ n) {w : World} {gf : Nat} {lb : Array Value} (eg : ∀ args w, (callFunc gf args).run Tryz.prog w = .ok (.enter gf args) w) {l : List ByteArray} (hl : l.length ≤ 100000)
    (hseq : ∀ m, 1 ≤ m → SeqStopsK Fence.wide m Tryz.prog gf lb (fun x : ByteArray => #[Value.string x]) (Below w.heap.size) (fun ys => ys = l) (fun _ => True) l.length w) :
    CallsIn Fence.wide n Tryz.prog 158 #[.slice none 0 0, .func (.func gf) #[] lb] w fun e W' => ∃ v, e = .returned v ∧ W'.ownsRow w.heap.size 9 1 v l.length (StrS.flat l) ∧ Below w.heap.size w W' := by
  have h1 : 1 ≤ n := by omega
  have hml : l.length ≤ maxLen := by unfold maxLen; omega
  obtain ⟨i0, hi, hz0, hz1, hz2⟩ := info_parts seq_info
  refine callsIn_of_wp_marks Tryz.func158 rfl trivial ?_ rfl
  simp only [Tryz.ntmps158, List.size_toArray, List.length_cons, List.length_nil, Nat.reduceAdd, Nat.reduceSub, Array.replicate_succ, Array.replicate_zero, List.push_toArray, List.append_toArray, List.nil_append, List.cons_append]
  gi_wp2
  have bO := Boxed.new w 23 (.slice none 0 0)
  have hB0 : Below w.heap.size w (w.alloc (.cells #[.slice none 0 0] 23)) := (Below.refl _ w).alloc (Nat.le_refl _) _
  refine wpIn_rangeFunc_ownF rfl h1 (gf := gf) (lb := lb) rfl trivial eg
    (hseq (n - 1) (by omega)) belowK_t (belowK_b (by simp)) hB0 (fun _ => rfl)
    (fun pre W => (∃ v, Boxed W w.heap.size 23 v ∧ W.ownsRow w.heap.size 9 1 v pre.length (StrS.flat pre) ∧ True) ∧ Below w.heap.size w W)
    (fun _ _ _ => False)
    (OwnFrom.and (Own.from (holdsRow_own w.heap.size w.heap.size 23 9 1 (fun pre : List ByteArray => pre.length) (fun pre => StrS.flat pre) (fun pre v => True)) _) (ownFrom_below (Nat.le_refl _) (by simp)))
    (fun _ _ _ _ _ hs _ _ => hs)
    ⟨⟨_, bO, World.ownsRow_nil _ _ _ _, trivial⟩, hB0⟩
    (fun x => { tmps := #[.slice none 0 0, .func (.func gf) #[] lb, .pointer (some ⟨w.heap.size, 0, none⟩), undef, .slice none 0 0, .string x, .func (.func gf) #[] lb, .string x, undef, undef, undef, undef, undef], defers := [] }) ?assign ?body ?done ?stop
  case assign =>
    intro l x W K hK
    gi_wp2
    exact hK
  case body =>
    rintro l' pre x W ⟨⟨v, hv, hrow, _⟩, hB⟩ hlt
    have hc := hv.cell
    gi_wp2_with (gi_at_builtin; refine wpListIn_append_own _ rfl _ _ 23 rfl w.heap.size 9 i0 (.string ByteArray.empty) 1 16 Tryz.underlying23 hi hz0 hz1 hz2 rfl (by decide) _ _ _ rfl (hrow.alloc _) ⟨W.heap.size, 0, none⟩ 1 1 [.string x] rfl rfl (cell_one_new _ _ _) (by simp [Value.oneCell']) (by omega) (by omega) (by have := hB.size; simp; omega) ?_; intro v' w1 hown' hgrow _; obtain ⟨g', cap', rfl⟩ := ownsRow_succ hown'; obtain ⟨hv1, hv2, hr2, hk2, hb2⟩ := hv.appended (by decide) hrow hB.size (Nat.le_refl _) hown' hgrow; have hc1 := hv1.cell; have hf1 := hv1.frozen)
    exact ⟨hk2, hb2, ⟨_, hv2, by rw [StrS.flat_snoc, List.length_append]; exact hr2, trivial⟩, hB.trans hb2⟩
  case done =>
    rintro D ys W hD rfl ⟨⟨v, hv, hrow, _⟩, hB⟩ hK
    have hc := hv.cell
    gi_wp2
    refine ⟨by simp, .inl ⟨_, _, rfl, run_takeDeferred hK, ?_⟩⟩
    exact ⟨_, results_tmp rfl _ _ _, v, rfl, ownsRow_putObj hrow _ hK rfl, hB.trans (belowK_b (w := w) (Nat.le_refl _) W D _ _ (by simp at hD; omega) hK rfl rfl)⟩
  case stop =>
    rintro D c pre W _ _ h _
    exact h.elim

theorem collect_any {w : World} {gf : Nat} {lb : Array Value} (eg : ∀ args w, (callFunc gf args).run Tryz.prog w = .ok (.enter gf args) w) {l : List ByteArray} (hl : l.length ≤ 100000)
    (hseq : ∀ m, 1 ≤ m → SeqStopsK Fence.wide m Tryz.prog gf lb (fun x : ByteArray => #[Value.string x]) (Below w.heap.size) (fun ys => ys = l) (fun _ => True) l.length w) :
    Calls Tryz.prog 118 #[.func (.func gf) #[] lb] w fun e W' => ∃ v, e = .returned v ∧ W'.ownsRow w.heap.size 9 1 v l.length (StrS.flat l) ∧ Below w.heap.size w W' := by
  have HA := Lib.hid (callsIn_wide.1 (append_seq 3 (by omega) eg hl hseq))
  clear hseq
  go_enter Tryz.func118, Tryz.ntmps118
  go_wp2_with fail
  refine HA.out.mono ?_
  rintro e w1 ⟨v, rfl, ho, hb⟩
  have HO := Lib.hid ho
  have HB := Lib.hid hb
  clear ho hb
  go_wp2_with fail
  first | go_ret2 | go_ret
  exact ⟨v, rfl, HO.out, HB.out⟩
end Go.Proofs.YtpbijdoemdoijaaGreatDoor
end PkCa12_1
section PkCa12_2
/- slices.Sorted of an iterator over texts, walked. -/
namespace Go.Proofs.YtpbijdoemdoijaaGreatDoor
open Go.RowKit Go.Sort Go.Shelf
set_option linter.unusedVariables false

def tb (s : ByteArray) : List UInt8 := s.data.toList
def fb (x : List UInt8) : ByteArray := ⟨x.toArray⟩
theorem fb_tb (s : ByteArray) : fb (tb s) = s := by unfold fb tb; simp
theorem tb_fb (x : List UInt8) : tb (fb x) = x := by unfold fb tb; simp
theorem enc_fb (x : List UInt8) : encStr x = .string (fb x) := rfl
theorem flat_enc (l : List ByteArray) : StrS.flat l = (l.map tb).map encStr := by
  induction l with
  | nil => rfl
  | cons x l ih =>
    unfold Sty.flat at ih ⊢
    rw [List.flatMap_cons, ih, List.map_cons, List.map_cons, enc_fb, fb_tb]
    rfl
/-- texts in their order -/
def srt (l : List ByteArray) : List ByteArray := ((l.map tb).mergeSort fun x y => decide (x ≤ y)).map fb
theorem srt_len (l : List ByteArray) : (srt l).length = l.length := by unfold srt; simp
theorem srt_flat (l : List ByteArray) : StrS.flat (srt l) = ((l.map tb).mergeSort fun x y => decide (x ≤ y)).map encStr := by
  rw [flat_enc]
  unfold srt
  rw [List.map_map, List.map_map]
  congr 1

set_option maxRecDepth 100000 in
set_option maxHeartbeats 2000000 in
theorem sorted_any {w : World} {gf : Nat} {lb : Array Value} (eg : ∀ args w, (callFunc gf args).run Tryz.prog w = .ok (.enter gf args) w) {l : List ByteArray} (hl : l.length ≤ 100000)
    (hseq : ∀ m, 1 ≤ m → SeqStopsK Fence.wide m Tryz.prog gf lb (fun x : ByteArray => #[Value.string x]) (Below w.heap.size) (fun ys => ys = l) (fun _ => True) l.length w) :
    Calls Tryz.prog 77 #[.func (.func gf) #[] lb] w fun e W' => ∃ v, e = .returned v ∧ W'.ownsRow w.heap.size 9 1 v l.length (StrS.flat (srt l)) ∧ Below w.heap.size w W' := by
  have HA := Lib.hid (collect_any eg hl hseq)
  clear hseq
  go_enter Tryz.func77, Tryz.ntmps77
  go_wp2_with fail
  refine HA.out.mono ?_
  rintro e W ⟨v, rfl, hrow, hb⟩
  rw [flat_enc] at hrow
  obtain ⟨ss, hss⟩ : ∃ ss, ss = l.map tb := ⟨_, rfl⟩
  have hsl : ss.length = l.length := by rw [hss]; simp
  have hfl : StrS.flat (srt l) = (ss.mergeSort fun x y => decide (x ≤ y)).map encStr := by rw [hss]; exact srt_flat l
  rw [← hss, ← hsl] at hrow
  have HFL := Lib.hid hfl
  have HB := Lib.hid hb
  rcases hrow.2 with ⟨rfl, hz⟩ | ⟨gb, cap, cur, rfl, hbase, hgb, r1, r2, r3, r4⟩
  · have hs0 : ss = [] := List.eq_nil_of_length_eq_zero hz
    have HS := Lib.hid (sh_slices_Sort_string_none none 0 W)
    have HR := Lib.hid hrow
    have HSS := Lib.hid hs0
    have HSL := Lib.hid hsl
    clear hrow hss hs0 hsl hfl hb
    go_wp2_with fail
    refine HS.out.mono ?_
    rintro e w2 ⟨rfl, rfl⟩
    go_wp2_with fail
    first | go_ret2 | go_ret
    refine ⟨_, rfl, ?_, HB.out⟩
    rw [HFL.out, HSS.out]
    have h := HR.out
    rw [HSS.out] at h
    rw [← HSL.out, HSS.out]
    simpa using h
  · have hH : Holds encStr W gb 0 ss.toArray := holds_of_block hgb (by simpa using r4)
    have hgl : gb < W.heap.size := (Array.getElem?_eq_some_iff.1 hgb).1
    have HS := Lib.hid (sh_slices_Sort_string gb 0 cap ss W hH hgl (by omega))
    have HR := Lib.hid (fun (k : Nat) (os : Array Obj) => ownsRow_sorted (w := W) (n := k) (os := os) (ss := ss) (ts := ss.mergeSort fun x y => decide (x ≤ y)) (by simp) hbase hgb r1 r2 r3)
    have HSL := Lib.hid hsl
    have HBS := Lib.hid hbase
    clear hrow hss hfl hb hgb hH r1 r2 r3 r4 hsl
    go_wp2_with fail
    with_reducible refine HS.out.mono ?_
    rintro e w2 ⟨rfl, nn, os, rfl⟩
    go_wp2_with fail
    first | go_ret2 | go_ret
    refine ⟨_, rfl, ?_, HB.out.grown (grownBy_sorted _) HB.out.size (fun j hj => by cases hj; exact HBS.out)⟩
    rw [HFL.out, ← HSL.out]
    exact HR.out nn os
end Go.Proofs.YtpbijdoemdoijaaGreatDoor
end PkCa12_2
section PkCa12_3
/- A column of texts: its content, walked. -/
namespace Go.Proofs.YtpbijdoemdoijaaGreatDoor
open Go.RowKit BitsPlain NumsPlain
set_option linter.unusedVariables false

def fitTo (l : List ByteArray) : Nat → Bool
  | 0 => true
  | k + 1 => fitTo l k && decide ((l.getD k ByteArray.empty).size ≤ 1024)
theorem fitTo_no {l : List ByteArray} {k : Nat} (h : decide ((l.getD k ByteArray.empty).size ≤ 1024) = false) : ∀ d, fitTo l (k + 1 + d) = false
  | 0 => by rw [fitTo, h, Bool.and_false]
  | d + 1 => by rw [← Nat.add_assoc, fitTo, fitTo_no h d]; rfl
theorem fitTo_get {l : List ByteArray} : ∀ {n : Nat}, fitTo l n = true → ∀ k, k < n → (l.getD k ByteArray.empty).size ≤ 1024
  | 0, _, k, hk => absurd hk (Nat.not_lt_zero k)
  | n + 1, h, k, hk => by
    rw [fitTo, Bool.and_eq_true, decide_eq_true_eq] at h
    rcases Nat.lt_or_ge k n with e | e
    · exact fitTo_get h.1 k e
    · obtain rfl : k = n := by omega
      exact h.2
theorem fit_all {l : List ByteArray} (h : fitTo l l.length = true) : ∀ s ∈ l, s.size ≤ 1024 := by
  intro s hs
  obtain ⟨i, hi, rfl⟩ := List.getElem_of_mem hs
  have := fitTo_get h i hi
  rwa [show l.getD i ByteArray.empty = l[i] from by simp [hi]] at this
theorem sf_clo (s : ByteArray) (w : World) : Calls Tryz.prog 117 #[.string s] w fun e w' => e = .returned (.bool (decide ((1024 : Int) < (s.size : Int)))) ∧ w' = w := by
  go_enter Tryz.func117, Tryz.ntmps117
  go_wp2_with fail
  go_ret
  exact ⟨rfl, rfl⟩
set_option maxRecDepth 100000 in
set_option maxHeartbeats 2000000 in
theorem sf_index {w : World} {a : Option Addr} {n c : Nat} {l : List ByteArray} (h : VecAt StrS w a n c l) :
    Calls Tryz.prog 157 #[.slice a n c, .func (.func 117) #[] #[]] w fun e w' => (∃ z : Int, e = .returned (.int .i64 z) ∧ (decide (0 ≤ z)) = !fitTo l n) ∧ Below w.heap.size w w' := by
  have hcap := h.cap
  have hcm := h.capm
  have HH := Lib.hid h
  have HL := Lib.hid h.len
  clear h
  go_enter Tryz.func157, Tryz.ntmps157
  go_wp2_with fail
  go_loopw [5, 8] (fun s5 s8 wr => ∃ k : Nat, k ≤ n ∧ s8 = .int .i64 (k : Int) ∧ Hid (fitTo l k = true) ∧ Hid (Below w.heap.size w wr)) (fun _ s8 _ => n - (intOf s8).toNat)
  case atStart => exact ⟨0, by omega, rfl, Lib.hid rfl, Lib.hid (Below.refl _ _)⟩
  case round =>
    obtain ⟨k, hk, rfl, HU, HB⟩ := hrel
    rename World => wr
    by_cases hkn : k < n
    · have hki : (k : Int) < (n : Int) := by omega
      obtain ⟨b, off, rfl, hlt, _, hc9⟩ := (HH.out.kept HB.out).get hkn
      obtain ⟨s, hs⟩ : ∃ s, s = l.getD k ByteArray.empty := ⟨_, rfl⟩
      have c0 : wr.cell? ⟨b, off + k, none⟩ = some (.string s) := by
        have h1 := hc9 0 (.string s) (by rw [hs]; rfl)
        have e : off + k * StrS.K + 0 = off + k := by show off + k * 1 + 0 = _; omega
        rw [e] at h1; exact h1
      have HS := Lib.hid hs
      have HC := Lib.hid (fun w => sf_clo s w)
      clear hs hc9 hlt
      by_cases hf : s.size ≤ 1024
      · have z1 : decide ((1024 : Int) < (s.size : Int)) = false := decide_eq_false (by omega)
        have HU2 := Lib.hid (show fitTo l (k + 1) = true by rw [fitTo, HU.out, ← HS.out, decide_eq_true hf]; rfl)
        clear hf
        go_wp2_with fail
        refine (HC.out _).mono ?_
        rintro e w2 ⟨rfl, rfl⟩
        go_wp2_with fail
        go_roundw
        case rel => exact ⟨k + 1, by omega, by go_num, HU2, HB⟩
        case measure => simp [intOf]; omega
      · have z1 : decide ((1024 : Int) < (s.size : Int)) = true := decide_eq_true (by omega)
        have HF := Lib.hid (show fitTo l n = false by
          have := fitTo_no (l := l) (k := k) (by rw [← HS.out]; exact decide_eq_false hf) (n - (k + 1))
          rw [show k + 1 + (n - (k + 1)) = n from by omega] at this
          exact this)
        clear hf
        go_wp2_with fail
        refine (HC.out _).mono ?_
        rintro e w2 ⟨rfl, rfl⟩
        go_wp2_with fail
        go_ret
        exact ⟨⟨_, rfl, by rw [HF.out]; simp⟩, HB.out⟩
    · obtain rfl : k = n := by omega
      clear hkn
      go_wp2_with fail
      go_ret
      exact ⟨⟨_, rfl, by rw [HU.out]; rfl⟩, HB.out⟩
set_option maxRecDepth 100000 in
theorem sizesfit_any {w : World} {a : Option Addr} {n c : Nat} {l : List ByteArray} (h : VecAt StrS w a n c l) :
    Calls Tryz.prog 75 #[.slice a n c] w fun e w' => e = .returned (.bool (fitTo l n)) ∧ Below w.heap.size w w' := by
  have HI := Lib.hid (sf_index h)
  clear h
  have HC : Calls Tryz.prog 116 #[.slice a n c, .func (.func 117) #[] #[]] w fun e w' => e = .returned (.bool (!fitTo l n)) ∧ Below w.heap.size w w' := by
    go_enter Tryz.func116, Tryz.ntmps116
    go_wp2_with fail
    refine HI.out.mono ?_
    rintro e w2 ⟨⟨z, rfl, hz⟩, hb2⟩
    have HZ := Lib.hid hz
    have HB2 := Lib.hid hb2
    clear hz hb2
    go_wp2_with fail
    go_ret
    rw [← HZ.out]
    exact ⟨rfl, HB2.out⟩
  have HC := Lib.hid HC
  go_enter Tryz.func75, Tryz.ntmps75
  go_wp2_with fail
  refine HC.out.mono ?_
  rintro e w2 ⟨rfl, hb2⟩
  have HB2 := Lib.hid hb2
  clear hb2
  go_wp2_with fail
  go_ret
  exact ⟨rfl, HB2.out⟩

/-- a number behind bytes that the caller owns -/
theorem number_any {w : World} {base n k : Nat} {v : Value} {xs : List Nat} (ho : w.ownsRow base 5 1 v n (bv xs)) (hbs : base ≤ w.heap.size) (hn : n ≤ 100000000) (hk : k < 9223372036854775808) :
    Calls Tryz.prog 79 #[v, .int .i64 (k : Int)] w fun e w' => ∃ v', e = .returned v' ∧ w'.ownsRow base 5 1 v' (n + (pu k).length) (bv (xs ++ pu k)) ∧ w.grownBy w' v.ownBlock := by
  have HP := Lib.hid (putu k (by omega) w)
  have h10 := pu_ten (n := k) (by omega)
  have HO := Lib.hid ho
  clear ho
  go_enter Tryz.func79, Tryz.ntmps79
  go_wp2_with fail
  refine HP.out.mono ?_
  rintro e w1 ⟨g, c, rfl, hg, hb1, hbel⟩
  have HB1 := Lib.hid hbel
  have H1 := Lib.hid hb1
  have HS := Lib.hid (Nat.le_trans hbs hbel.size)
  have HO1 := Lib.hid (own_below HO.out hbel)
  clear hb1 hbel hg
  go_wp2_with (at_builtin; refine wpList_append_bytes rfl (.tmp 5) (.tmp 8) rfl base v n xs rfl HO1.out _ _ _ (pu k) rfl H1.out (by omega) HS.out ?_)
  intro v2 w2 ho2 hg2
  have HO2 := Lib.hid ho2
  have HG2 := Lib.hid ((below_grown HB1.out v.ownBlock).trans' hg2)
  clear ho2 hg2
  go_wp2_with fail
  go_ret
  exact ⟨_, rfl, HO2.out, HG2.out⟩

def szP (l : List ByteArray) (k : Nat) : List Nat := pu l.length ++ szTo l k
def txP (l : List ByteArray) (k : Nat) : List Nat := pu l.length ++ szTo l l.length ++ txTo l k
theorem szP_0 (l : List ByteArray) : szP l 0 = pu l.length := by unfold szP; rw [szTo, List.append_nil]
theorem szP_s (l : List ByteArray) (k : Nat) {s : ByteArray} (h : s = l.getD k ByteArray.empty) : szP l k ++ pu s.size = szP l (k + 1) := by unfold szP; rw [szTo, List.append_assoc, h]; rfl
theorem txP_0 (l : List ByteArray) : txP l 0 = szP l l.length := by unfold txP szP; rw [txTo, List.append_nil]
theorem txP_s (l : List ByteArray) (k : Nat) {s : ByteArray} (h : s = l.getD k ByteArray.empty) : txP l k ++ byl s = txP l (k + 1) := by unfold txP; rw [txTo, List.append_assoc, h]
theorem szP_len {l : List ByteArray} (h : ∀ s ∈ l, s.size ≤ 1024) (hl : l.length ≤ 2048) {k : Nat} (hk : k ≤ l.length) : (szP l k).length ≤ 100000 := by
  have h1 := szTo_len l h k hk
  have h2 := pu_ten (n := l.length) (by omega)
  unfold szP; rw [List.length_append]; omega
theorem txP_len {l : List ByteArray} (h : ∀ s ∈ l, s.size ≤ 1024) (hl : l.length ≤ 2048) {k : Nat} (hk : k ≤ l.length) : (txP l k).length ≤ 10000000 := by
  have h1 := szTo_len l h l.length (Nat.le_refl _)
  have h2 := pu_ten (n := l.length) (by omega)
  have h3 := txTo_len l h k hk
  unfold txP; rw [List.length_append, List.length_append]; omega
theorem szP_byte {l : List ByteArray} (h : ∀ s ∈ l, s.size ≤ 1024) (hl : l.length ≤ 2048) {k : Nat} (hk : k ≤ l.length) : ∀ x ∈ szP l k, x < 256 := by
  intro x hx
  rcases List.mem_append.1 hx with g | g
  · exact pu_bytes (by omega) x g
  · exact szTo_byte l h k hk x g
theorem txP_byte {l : List ByteArray} (h : ∀ s ∈ l, s.size ≤ 1024) (hl : l.length ≤ 2048) {k : Nat} : ∀ x ∈ txP l k, x < 256 := by
  intro x hx
  rcases List.mem_append.1 hx with g | g
  · rcases List.mem_append.1 g with g | g
    · exact pu_bytes (by omega) x g
    · exact szTo_byte l h l.length (Nat.le_refl _) x g
  · exact txTo_byte l k x g
/-- what textsContent answers -/
def TxSays (w : World) (l : List ByteArray) (e : Ending) (w' : World) : Prop :=
  (if fitTo l l.length = true then ∃ v, e = .returned (.tuple #[v, .int .i64 0]) ∧ w'.ownsRow w.heap.size 5 1 v (textsC l).length (bv (textsC l)) else e = .returned (.tuple #[.slice none 0 0, .int .i64 5])) ∧ Below w.heap.size w w'

set_option maxRecDepth 100000 in
set_option maxHeartbeats 4000000 in
theorem textsContent_any {w : World} {a : Option Addr} {n c : Nat} {l : List ByteArray} (h : VecAt StrS w a n c l) (hn : n ≤ 2048) :
    Calls Tryz.prog 43 #[.slice a n c] w fun e w' => TxSays w l e w' := by
  obtain ⟨i0, hi, hz0, hz1, hz2⟩ := info_parts info_u8
  have hcap := h.cap
  have hcm := h.capm
  have HH := Lib.hid h
  have HL := Lib.hid h.len
  have HL2 := Lib.hid (show l.length ≤ 2048 by rw [h.len]; exact hn)
  have HSF := Lib.hid (sizesfit_any h)
  clear h
  go_enter Tryz.func43, Tryz.ntmps43
  go_wp2_with fail
  refine HSF.out.mono ?_
  rintro e w1 ⟨rfl, hb1⟩
  have HB1 := Lib.hid hb1
  clear hb1
  cases hf : fitTo l n with
  | false =>
    have HNF := Lib.hid (show fitTo l l.length = false by rw [HL.out]; exact hf)
    clear hf
    go_wp2_with fail
    go_ret2
    unfold TxSays
    rw [if_neg (by rw [HNF.out]; simp)]
    exact ⟨rfl, HB1.out⟩
  | true =>
    have HFT := Lib.hid (show fitTo l l.length = true by rw [HL.out]; exact hf)
    have HF := Lib.hid (show ∀ s ∈ l, s.size ≤ 1024 from fit_all HFT.out)
    have HNN := Lib.hid (number_nil (w := w1) (k := n) (by omega))
    clear hf
    go_wp2_with fail
    refine HNN.out.mono ?_
    rintro e w2 ⟨v2, rfl, ho2, hb2⟩
    have HB2 := Lib.hid (HB1.out.trans (hb2.mono HB1.out.size))
    obtain ⟨a2, c2, rfl, _, _⟩ := BytesAt.ofOwn ho2 (pu_bytes (by omega)) (by have := pu_ten (n := n) (by omega); omega)
    have HO2 := Lib.hid (show w2.ownsRow w.heap.size 5 1 (.slice a2 (pu n).length c2) (pu n).length (bv (szP l 0)) from by rw [szP_0, HL.out]; exact own_lower ho2 HB1.out.size)
    have HPL := Lib.hid (show (pu n).length = (szP l 0).length from by rw [szP_0, HL.out])
    clear ho2 hb2
    go_wp2_with fail
    go_loopw [4, 6, 17] (fun s4 s6 s17 wr => ∃ (k m c9 : Nat) (a9 : Option Addr), k ≤ n ∧ s17 = .int .i64 (k : Int) ∧ s4 = .slice a9 m c9 ∧ Hid (m = (szP l k).length) ∧ Hid (wr.ownsRow w.heap.size 5 1 (.slice a9 m c9) m (bv (szP l k))) ∧ Hid (Below w.heap.size w wr)) (fun _ _ s17 _ => n - (intOf s17).toNat)
    case atStart => exact ⟨0, _, _, _, by omega, rfl, rfl, HPL, HO2, HB2⟩
    case round =>
      clear HPL HO2
      obtain ⟨k, m, c9, a9, hk, rfl, rfl, HM, HO, HB⟩ := hrel
      rename World => wr
      by_cases hkn : k < n
      · have hki : (k : Int) < (n : Int) := by omega
        obtain ⟨b, off, rfl, hlt, hok, hc9⟩ := (HH.out.kept HB.out).get hkn
        obtain ⟨s, hs⟩ : ∃ s, s = l.getD k ByteArray.empty := ⟨_, rfl⟩
        have hs2 : l.getD k StrS.z = s := hs.symm
        rw [hs2] at hok hc9
        have c0 : wr.cell? ⟨b, off + k, none⟩ = some (.string s) := by
          have h1 := hc9 0 (.string s) rfl
          have e : off + k * StrS.K + 0 = off + k := by show off + k * 1 + 0 = _; omega
          rw [e] at h1; exact h1
        have hm : m ≤ 100000 := by rw [HM.out]; exact szP_len HF.out HL2.out (by rw [HL.out]; omega)
        have hsm : s.size ≤ 1024 := HF.out s (by rw [hs]; exact vec_mem (S := StrS) (by rw [HL.out]; exact hkn))
        have HNU := Lib.hid (number_any HO.out HB.out.size (by omega) (k := s.size) (by omega))
        have HS := Lib.hid hs
        clear hs hs2 hok hc9 hlt
        go_wp2_with fail
        refine HNU.out.mono ?_
        rintro e w3 ⟨v3, rfl, ho3, hg3⟩
        have HB3 := Lib.hid (below_own HB.out HO.out hg3 (Nat.le_refl _) HB.out.size)
        rw [szP_s l k HS.out] at ho3
        have h10' := pu_ten (n := s.size) (by omega)
        obtain ⟨a3, c3, rfl, _, _⟩ := BytesAt.ofOwn ho3 (szP_byte HF.out HL2.out (by rw [HL.out]; omega)) (by omega)
        have HM3 := Lib.hid (show m + (pu s.size).length = (szP l (k + 1)).length from by rw [← szP_s l k HS.out, List.length_append, ← HM.out])
        have HO3 := Lib.hid ho3
        clear ho3 hg3 c0
        go_wp2_with fail
        go_roundw
        case rel => exact ⟨k + 1, _, c3, a3, by omega, by go_num, rfl, HM3, HO3, HB3⟩
        case measure => simp [intOf]; omega
      · obtain rfl : k = n := by omega
        have HM0 := Lib.hid (show m = (txP l 0).length from by rw [txP_0, HL.out]; exact HM.out)
        have HO0 := Lib.hid (show wr.ownsRow w.heap.size 5 1 (.slice a9 m c9) m (bv (txP l 0)) from by rw [txP_0, HL.out]; exact HO.out)
        clear hkn
        go_wp2_with fail
        go_loopw [4, 8, 28] (fun s4 s8 s28 wt => ∃ (j m c9 : Nat) (a9 : Option Addr), j ≤ k ∧ s28 = .int .i64 (j : Int) ∧ s4 = .slice a9 m c9 ∧ Hid (m = (txP l j).length) ∧ Hid (wt.ownsRow w.heap.size 5 1 (.slice a9 m c9) m (bv (txP l j))) ∧ Hid (Below w.heap.size w wt)) (fun _ _ s28 _ => k - (intOf s28).toNat)
        case atStart => exact ⟨0, _, _, _, by omega, rfl, rfl, HM0, HO0, HB⟩
        case round =>
          clear HM0 HO0 HM HO HB
          obtain ⟨j, m, c9, a9, hj, rfl, rfl, HM, HO, HB⟩ := hrel
          rename World => wt
          by_cases hjn : j < k
          · have hji : (j : Int) < (k : Int) := by omega
            obtain ⟨b, off, rfl, hlt, hok, hc9⟩ := (HH.out.kept HB.out).get hjn
            obtain ⟨s, hs⟩ : ∃ s, s = l.getD j ByteArray.empty := ⟨_, rfl⟩
            have hs2 : l.getD j StrS.z = s := hs.symm
            rw [hs2] at hok hc9
            have c0 : wt.cell? ⟨b, off + j, none⟩ = some (.string s) := by
              have h1 := hc9 0 (.string s) rfl
              have e : off + j * StrS.K + 0 = off + j := by show off + j * 1 + 0 = _; omega
              rw [e] at h1; exact h1
            have hm : m ≤ 10000000 := by rw [HM.out]; exact txP_len HF.out HL2.out (by rw [HL.out]; omega)
            have hsm : s.size ≤ 1024 := HF.out s (by rw [hs]; exact vec_mem (S := StrS) (by rw [HL.out]; exact hjn))
            have HS := Lib.hid hs
            have HSZ := Lib.hid HB.out.size
            clear hs hs2 hok hc9 hlt
            go_wp2_with (at_builtin; refine Lib.wpList_append_own_string _ rfl (.tmp 32) (.tmp 33) 27 9 rfl w.heap.size 5 i0 Tryz.underlying27 Tryz.underlying9 hi hz0 hz1 hz2 _ m _ rfl HO.out s rfl (by unfold maxLen; omega) (by omega) HSZ.out ?_)
            intro v3 w3 ho3 hg3 _
            have HB3 := Lib.hid (below_own HB.out HO.out hg3 (Nat.le_refl _) HB.out.size)
            rw [byl_cells, ← bv_append, txP_s l j HS.out] at ho3
            obtain ⟨a3, c3, rfl, _, _⟩ := BytesAt.ofOwn ho3 (txP_byte HF.out HL2.out) (by omega)
            have HM3 := Lib.hid (show m + s.size = (txP l (j + 1)).length from by rw [← txP_s l j HS.out, List.length_append, byl_len, ← HM.out])
            have HO3 := Lib.hid ho3
            clear ho3 hg3 c0
            go_wp2_with fail
            go_roundw
            case rel => exact ⟨j + 1, _, c3, a3, by omega, by go_num, rfl, HM3, HO3, HB3⟩
            case measure => simp [intOf]; omega
          · obtain rfl : j = k := by omega
            have e9 : txP l j = textsC l := by unfold txP textsC; rw [HL.out]
            have hm : m = (textsC l).length := by rw [HM.out, e9]
            have ho := HO.out
            rw [e9] at ho
            have HOF := Lib.hid (show wt.ownsRow w.heap.size 5 1 (.slice a9 m c9) (textsC l).length (bv (textsC l)) from by rw [← hm]; exact ho)
            clear hjn hm ho e9
            go_wp2_with fail
            go_ret2
            unfold TxSays
            rw [if_pos HFT.out]
            exact ⟨⟨_, rfl, HOF.out⟩, HB.out⟩
end Go.Proofs.YtpbijdoemdoijaaGreatDoor
end PkCa12_3
