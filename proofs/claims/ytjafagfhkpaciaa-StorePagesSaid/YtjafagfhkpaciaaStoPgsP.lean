/- Pages, plainly: the keys that begin so, in their order; what a page takes of them. -/
import Derived.Test.YtjafagfhkpaciaaStoKst
import Derived.Sort.Walk0
namespace Go.Proofs.Ytjafagfhkpaciaa
open Go.RowKit Go.Shelf Go.Maps Go.Sort
set_option linter.unusedVariables false

def prefB (pre k : ByteArray) : Bool := Lib.hasPrefix k.data.toList pre.data.toList
def fK (pre : ByteArray) (l : List (ByteArray × ObjS)) : List ByteArray := (l.filter fun p => prefB pre p.1).map (·.1)
theorem tl_data (s : ByteArray) : s.toList = s.data.toList := ByteArray.toList_eq s
theorem gtB_iff (k b : ByteArray) : gtB k b = true ↔ b.data.toList < k.data.toList := by
  unfold gtB
  rw [bytesLess_eq, tl_data, tl_data]
  simp only [Bool.and_eq_true, Bool.not_eq_true', decide_eq_false_iff_not, beq_eq_false_iff_ne]
  constructor
  · rintro ⟨h1, h2⟩
    rcases Classical.em (b.data.toList < k.data.toList) with g | g
    · exact g
    · exact absurd (List.le_antisymm (by simpa using g) (by simpa using h1)) h2
  · intro h
    exact ⟨fun g => List.lt_irrefl _ (List.lt_trans g h), fun e => List.lt_irrefl _ (by rw [e] at h; exact h)⟩
theorem fK_rise {pre : ByteArray} {l : List (ByteArray × ObjS)} (h : l.Pairwise fun p q => (slit p.1).before (slit q.1) = true) : (fK pre l).Pairwise fun a b => a.data.toList < b.data.toList := by
  unfold fK
  exact List.pairwise_map.2 ((h.filter _).imp fun {p q} hb => bb_lt _ _ (by simpa [slit, Lit.before] using hb))
theorem page_keys (pre aft : ByteArray) (l : List (ByteArray × ObjS)) : (pageL (wantK pre aft) (fun p => itemO p.1 p.2) l).map (·.key) = (fK pre l).filter fun k => gtB k aft := by
  unfold pageL fK
  rw [List.map_map, List.filter_map, List.filter_filter]
  have e : (fun p : ByteArray × ObjS => wantK pre aft p.1) = fun a => ((fun k => gtB k aft) ∘ fun x : ByteArray × ObjS => x.1) a && prefB pre a.1 := by
    funext p
    show wantK pre aft p.1 = (gtB p.1 aft && prefB pre p.1)
    unfold wantK prefB
    rw [Bool.and_comm]
  rw [e]
  rfl
/-- what is behind the last one that was seen -/
def Aft (F : List ByteArray) (m : Nat) (aft : ByteArray) : Prop := (m = 0 → ∀ k ∈ F, aft.data.toList < k.data.toList) ∧ (0 < m → F[m - 1]? = some aft)
theorem filt_drop {F : List ByteArray} (h : F.Pairwise fun a b => a.data.toList < b.data.toList) {m : Nat} (hm : m ≤ F.length) {aft : ByteArray} (ha : Aft F m aft) : F.filter (fun k => gtB k aft) = F.drop m := by
  rcases Nat.eq_zero_or_pos m with rfl | hp
  · rw [List.drop_zero, List.filter_eq_self]
    exact fun k hk => (gtB_iff k aft).2 (ha.1 rfl k hk)
  · have hq := ha.2 hp
    obtain ⟨hl, he⟩ := List.getElem?_eq_some_iff.1 hq
    have h1 : (F.take m).filter (fun k => gtB k aft) = [] := by
      rw [List.filter_eq_nil_iff]
      intro k hk
      obtain ⟨i, hi, rfl⟩ := List.mem_take_iff_getElem.1 hk
      rw [gtB_iff, ← he]
      intro g
      rcases Nat.lt_or_ge i (m - 1) with g1 | g1
      · exact List.lt_irrefl _ (List.lt_trans g (List.pairwise_iff_getElem.1 h i (m - 1) (by omega) hl g1))
      · obtain rfl : i = m - 1 := by omega
        exact List.lt_irrefl _ g
    have h2 : (F.drop m).filter (fun k => gtB k aft) = F.drop m := by
      rw [List.filter_eq_self]
      intro k hk
      obtain ⟨i, hi, rfl⟩ := List.mem_drop_iff_getElem.1 hk
      rw [gtB_iff, ← he]
      exact List.pairwise_iff_getElem.1 h (m - 1) (m + i) hl (by omega) (by omega)
    calc F.filter (fun k => gtB k aft) = (F.take m ++ F.drop m).filter (fun k => gtB k aft) := by rw [List.take_append_drop]
      _ = F.drop m := by rw [List.filter_append, h1, h2, List.nil_append]
theorem aft_next {F : List ByteArray} {m : Nat} {k : ByteArray} (h : F[m]? = some k) : Aft F (m + 1) k := ⟨fun e => by omega, fun _ => h⟩
theorem aft_less {F : List ByteArray} (h : F.Pairwise fun a b => a.data.toList < b.data.toList) {m : Nat} {aft k : ByteArray} (ha : Aft F m aft) (hk : F[m]? = some k) : aft.data.toList < k.data.toList := by
  rcases Nat.eq_zero_or_pos m with rfl | hp
  · exact ha.1 rfl k (List.mem_of_getElem? hk)
  · obtain ⟨h1, rfl⟩ := List.getElem?_eq_some_iff.1 hk
    obtain ⟨h2, rfl⟩ := List.getElem?_eq_some_iff.1 (ha.2 hp)
    exact List.pairwise_iff_getElem.1 h (m - 1) m h2 h1 (by omega)
theorem aft0 {pre : ByteArray} {l : List (ByteArray × ObjS)} (h : ∀ p ∈ l, isKeyB p.1 = true) : Aft (fK pre l) 0 { data := #[] } := by
  refine ⟨fun _ k hk => ?_, fun e => by omega⟩
  unfold fK at hk
  obtain ⟨p, hp, rfl⟩ := List.mem_map.1 hk
  have h1 := h p (List.mem_filter.1 hp).1
  unfold isKeyB at h1
  simp only [Bool.and_eq_true, decide_eq_true_eq] at h1
  have h2 : 1 ≤ p.1.data.toList.length := by rw [Array.length_toList]; exact h1.1.1
  cases hq : p.1.data.toList with
  | nil => rw [hq] at h2; simp at h2
  | cons a b => exact List.nil_lt_cons _ _
theorem page_len {pre aft : ByteArray} {l : List (ByteArray × ObjS)} {F : List ByteArray} (hF : F = fK pre l) (h : F.Pairwise fun a b => a.data.toList < b.data.toList) {m : Nat} (hm : m ≤ F.length) (ha : Aft F m aft) :
    (pageL (wantK pre aft) (fun p => itemO p.1 p.2) l).length = F.length - m ∧ ∀ j y, (pageL (wantK pre aft) (fun p => itemO p.1 p.2) l)[j]? = some y → F[m + j]? = some y.key := by
  have h1 := page_keys pre aft l
  rw [← hF, filt_drop h hm ha] at h1
  refine ⟨by rw [← List.length_drop, ← h1, List.length_map], fun j y hy => ?_⟩
  rw [← List.getElem?_drop, ← h1, List.getElem?_map, hy]
  rfl
theorem fK_cons {pre : ByteArray} {l : List (ByteArray × ObjS)} {i : Nat} {p : ByteArray × ObjS} (h : l[i]? = some p) : fK pre (l.drop i) = if prefB pre p.1 = true then p.1 :: fK pre (l.drop (i + 1)) else fK pre (l.drop (i + 1)) := by
  obtain ⟨hi, he⟩ := List.getElem?_eq_some_iff.1 h
  rw [List.drop_eq_getElem_cons hi, he]
  unfold fK
  rw [List.filter_cons]
  split <;> rfl
theorem pref_size {pre k : ByteArray} (h : prefB pre k = true) : pre.size ≤ k.size := by
  unfold prefB Lib.hasPrefix at h
  have h1 := (List.isPrefixOf_iff_prefix.1 h).length_le
  rw [Array.length_toList, Array.length_toList] at h1
  exact h1
theorem pref_cut {pre k : ByteArray} (h : pre.size ≤ k.size) : (k.extract 0 pre.size).toList = k.data.toList.take pre.size := by
  rw [tl_data]
  simp
theorem pref_iff {pre k : ByteArray} (h : pre.size ≤ k.size) : ((k.extract 0 pre.size).toList == pre.toList) = prefB pre k := by
  rw [pref_cut h, tl_data]
  unfold prefB Lib.hasPrefix
  rw [Bool.eq_iff_iff, beq_iff_eq, List.isPrefixOf_iff_prefix]
  constructor
  · intro e
    rw [← e]
    exact List.take_prefix _ _
  · intro e
    have := List.prefix_iff_eq_take.1 e
    rw [Array.length_toList] at this
    exact this.symm
set_option maxRecDepth 100000 in
theorem slice_tx (a : Option Addr) (n c i : Nat) (hi : i ≤ n) (w : World) :
    (Instr.slice 44 (.slice a n c) (some (.int .i64 (i : Int))) none none).run Try.prog w = .ok (.slice (if c = i then a else a.map (·.add i)) (n - i) (c - i)) w := by
  have ht' : Try.prog.underlying 44 = some (.slice (Try.prog.elem 44)) := by simp [Program.elem, Try.underlying44]
  have he : Try.prog.elem 44 = 9 := by simp [Program.elem, Try.underlying44]
  have hsz : ∀ w : World, (Go.sizeOf 9).run Try.prog w = .ok 1 w := fun w => by kernel_rfl
  rw [run_slice_l w 44 _ _ _ ht' .i64 _ (by omega) (by omega), he, hsz]
  simp only [Result.andThen, sliced, Int.toNat_natCast, Nat.mul_one]
theorem vec_dropK {w : World} {a : Option Addr} {n c i : Nat} {l : List ByteArray} (h : VecAt KeyS w a n c l) (hi : i ≤ n) : VecAt KeyS w (if c = i then a else a.map (·.add i)) (n - i) (c - i) (l.drop i) := by
  have h1 := h.cap
  have h2 := h.capm
  have h3 := h.len
  refine ⟨by rw [List.length_drop, h3], by omega, by omega, fun e => ?_, fun x hx => h.all x (List.mem_of_mem_drop hx), fun hp => ?_⟩
  · by_cases hc : c = i
    · omega
    · rw [if_neg hc] at e
      have ha : a = none := by cases a <;> simp_all
      have := h.nl ha
      omega
  · obtain ⟨b, off, rfl, hlt, hc⟩ := h.cells (by omega)
    rw [if_neg (by omega)]
    refine ⟨b, off + i, by simp [Addr.add], hlt, fun k hk j u hu => ?_⟩
    have hg : (l.drop i).getD k KeyS.z = l.getD (i + k) KeyS.z := by rw [List.getD_eq_getElem?_getD, List.getD_eq_getElem?_getD, List.getElem?_drop]
    rw [hg] at hu
    have h4 := hc (i + k) (by omega) j u hu
    rw [show off + (i + k) * KeyS.K + j = off + i + k * KeyS.K + j from by show off + (i + k) * 1 + j = off + i + k * 1 + j; omega] at h4
    exact h4
theorem info_str : (Try.prog.info? 9).map (fun i => (i.zero, i.size, i.bytes)) = some (some (.string ByteArray.empty), 1, 16) := by kernel_rfl
end Go.Proofs.Ytjafagfhkpaciaa
