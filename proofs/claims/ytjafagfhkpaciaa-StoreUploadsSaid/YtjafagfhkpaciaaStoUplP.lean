/- StoreUploads, plainly: all parts sent, the object is their bytes. -/
import Derived.Test.YtjafagfhkpaciaaStoUpl
import Derived.Laws.Bits64
namespace Go.Proofs.Ytjafagfhkpaciaa
open Go.RowKit
set_option linter.unusedVariables false

def flx (X : Nat → List Nat) (k : Nat) : List Nat := (List.range k).flatMap X
theorem flx_succ (X : Nat → List Nat) (k : Nat) : flx X (k + 1) = flx X k ++ X k := by simp [flx, List.range_succ]
theorem bs_app (xs ys : List Nat) : (bs (xs ++ ys)).data.toList = (bs xs).data.toList ++ (bs ys).data.toList := by
  unfold bs strOfNums
  simp
theorem catP_all {n : Nat} {X : Nat → List Nat} {B : Nat → Bool} {ps : List (Int × ByteArray)} (h : PsOk n X B ps) (hB : ∀ i, i < n → B i = true) : ∀ k, k ≤ n → catP ps k = some (bs (flx X k)).data.toList
  | 0, _ => by
    unfold catP
    congr 1
  | k + 1, hk => by
    have ih := catP_all h hB k (by omega)
    have hg := h.got k (by omega)
    rw [if_pos (hB k (by omega))] at hg
    rw [catP_succ ih (p := bs (X k)) (by rw [Int.natCast_add]; exact hg), flx_succ, bs_app]
theorem PsOk.full {n : Nat} {X : Nat → List Nat} {B : Nat → Bool} {ps : List (Int × ByteArray)} (h : PsOk n X B ps) (hB : ∀ i, i < n → B i = true) (hr : ps.Pairwise fun p q => (ilit p.1).before (ilit q.1) = true) : ps.length = n := by
  have h1 : (ps.map (·.1)).Nodup := (rise_ints hr).imp fun {a b} g => by omega
  have h2 : ((List.range n).map fun i : Nat => (i : Int) + 1).Nodup := List.pairwise_map.2 (List.nodup_range.imp fun {a b} g => by omega)
  have hp : (ps.map (·.1)).Perm ((List.range n).map fun i : Nat => (i : Int) + 1) := by
    refine (List.perm_ext_iff_of_nodup h1 h2).2 fun x => ⟨fun hx => ?_, fun hx => ?_⟩
    · obtain ⟨p, hp, rfl⟩ := List.mem_map.1 hx
      obtain ⟨j, hj, e, _⟩ := h.only p hp
      exact List.mem_map.2 ⟨j, List.mem_range.2 hj, e.symm⟩
    · obtain ⟨j, hj, rfl⟩ := List.mem_map.1 hx
      have hg := h.got j (List.mem_range.1 hj)
      rw [if_pos (hB j (List.mem_range.1 hj))] at hg
      exact List.mem_map.2 ⟨_, get_mem ilit_inj hg, rfl⟩
  have := hp.length_eq
  simpa using this
def stE : Sto := ⟨[], [], 0, 1, 0, 0⟩
def stD (d : ByteArray) : Sto := ⟨[(kS, ⟨d, 1, 0⟩)], [], 1, 1, ((d.size : Nat) : Int), 0⟩
theorem drop_stU (pb : Nat) (ps : List (Int × ByteArray)) : dropS (stU pb ps) 1 (psz ps) = stE := by
  unfold dropS stU stE
  simp only [Int.sub_self]
  congr 1
theorem com_stU (pb : Nat) (ps : List (Int × ByteArray)) (d : List UInt8) : comS (stU pb ps) 1 ⟨kS, 0, pb, ps⟩ d = stD ⟨d.toArray⟩ := by
  unfold comS
  rw [drop_stU]
  unfold makeS stE stD
  simp only [oldLen, objOf, getK, List.find?_nil, Option.map_none]
  congr 1
  simp
theorem inv_stE : Inv stE := ⟨by decide, by decide, by decide, by decide, by decide, by decide, by decide, (fun p hp => by cases hp), (fun p hp => by cases hp), (fun p hp => by cases hp)⟩
theorem inv_stD {d : ByteArray} (h : d.size ≤ 262144) : Inv (stD d) := by
  refine ⟨by show (0 : Int) ≤ 1; decide, by show (0 : Int) ≤ 1; decide, Int.le_refl 0, by show ((d.size : Nat) : Int) ≤ 4194304; omega, ?_, by show 1 ≤ 512; decide, Nat.zero_le _, fun p hp => ?_, (fun p hp => by cases hp), (fun p hp => by cases hp)⟩
  · show ((d.size : Nat) : Int) = ((totK oSz [(kS, (⟨d, 1, 0⟩ : ObjS))] : Nat) : Int) + ((totK uSz ([] : List (Int × UplS)) : Nat) : Int)
    rw [tot_cons]
    show ((d.size : Nat) : Int) = ((d.size + 0 : Nat) : Int) + ((0 : Nat) : Int)
    omega
  · rw [List.mem_singleton.1 hp]
    exact ⟨by kernel_rfl, h, by show (1 : Int) ≤ 1; decide, by show (1 : Int) ≤ 1; decide, Int.le_refl 0, Int.le_refl 0⟩
theorem flx_len {X : Nat → List Nat} : ∀ {k : Nat}, (∀ i, i < k → (X i).length ≤ 500) → (flx X k).length ≤ 500 * k
  | 0, _ => Nat.zero_le _
  | k + 1, h => by
    have ih := flx_len (X := X) (k := k) fun i hi => h i (by omega)
    have := h k (by omega)
    rw [flx_succ, List.length_append]
    omega
theorem com_all {n : Nat} {X : Nat → List Nat} {B : Nat → Bool} {ps : List (Int × ByteArray)} {pb : Nat} (h : PsOk n X B ps) (hB : ∀ i, i < n → B i = true) (hr : ps.Pairwise fun p q => (ilit p.1).before (ilit q.1) = true) (hn : 1 ≤ n ∧ n ≤ 8) (hx : ∀ i, i < n → (X i).length ≤ 500) : comE (stU pb ps) 1 (n : Int) = 0 := by
  have h1 := catP_all h hB n (Nat.le_refl _)
  have h2 := h.full hB hr
  have h3 := flx_len hx
  unfold comE
  rw [show upOf (stU pb ps) 1 = some ⟨kS, 0, pb, ps⟩ from rfl]
  simp only
  rw [if_neg (by omega), Int.toNat_natCast, h1]
  simp only
  have h4 : (bs (flx X n)).data.toList.length = (flx X n).length := by
    have := bs_sizeS (flx X n)
    simpa using this
  rw [if_neg (by omega), if_neg (fun e => by have : (stU pb ps).objs.length = 0 := rfl; omega)]
theorem mod_ok (z : Int) {n : Nat} (h : 1 ≤ (n : Int)) (h8 : (n : Int) ≤ 8) : ∃ j : Nat, j < n ∧ wrap64 ((IntKind.u64.wrap z).tmod (n : Int)) = (j : Int) := by
  have h0 : 0 ≤ IntKind.u64.wrap z := by rw [IntKind.wrap_u64]; omega
  rw [Int.tmod_eq_emod_of_nonneg h0]
  have h1 := Int.emod_nonneg (IntKind.u64.wrap z) (show (n : Int) ≠ 0 by omega)
  have h2 := Int.emod_lt_of_pos (IntKind.u64.wrap z) (show (0 : Int) < n by omega)
  refine ⟨(IntKind.u64.wrap z % (n : Int)).toNat, by omega, ?_⟩
  unfold wrap64
  omega
end Go.Proofs.Ytjafagfhkpaciaa
