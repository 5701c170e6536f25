/- What writing at a place leaves of a row of bytes; a number read byte by byte. No program is named. -/
import Derived.Test.YtpdkjgmldlpaaaaCodecSpec
import Derived.Test.YtpdkjgmldlpaaaaBytes
import Derived.Laws.CopyOwn
namespace Go.Proofs.Ytpdkjgmldlpaaaa.Codec
open Go.RowKit CrcMath CodecMath Mem Crc

/-- The row L with xs written over it from place k on. -/
def lay (L : List Nat) (k : Nat) (xs : List Nat) : List Nat := splice L k xs
theorem lay_length (L : List Nat) (k : Nat) (xs : List Nat) (h : k + xs.length ≤ L.length) : (lay L k xs).length = L.length := length_splice _ _ _ h
theorem lay_nil (L : List Nat) (k : Nat) : lay L k [] = L := by simp [lay, splice]
theorem lay_set (L : List Nat) (k : Nat) (xs : List Nat) (b : Nat) (h : k + xs.length < L.length) : (lay L k xs).set (k + xs.length) b = lay L k (xs ++ [b]) := by
  have hk : (L.take k).length = k := by rw [List.length_take]; omega
  obtain ⟨y, hy⟩ : ∃ y, L.drop (k + xs.length) = y :: L.drop (k + xs.length + 1) := ⟨_, List.drop_eq_getElem_cons h⟩
  simp only [lay, splice, List.length_append, List.length_singleton]
  rw [hy, List.set_append, if_neg (by omega), hk, show k + xs.length - k = xs.length from by omega, List.set_append, if_neg (by omega), Nat.sub_self]
  simp [Nat.add_assoc]
theorem lay_lt (L : List Nat) (k : Nat) (xs : List Nat) (hL : ∀ x ∈ L, x < 256) (hx : ∀ x ∈ xs, x < 256) : ∀ x ∈ lay L k xs, x < 256 := by
  intro x h
  simp only [lay, splice, List.mem_append] at h
  rcases h with h | h | h
  · exact hL x (List.mem_of_mem_take h)
  · exact hx x h
  · exact hL x (List.mem_of_mem_drop h)
theorem lay_fill (pre xs : List Nat) (N : Nat) : lay (fill pre N) pre.length xs = fill (pre ++ xs) N := by
  simp only [lay, splice, fill, List.length_append]
  rw [List.take_left' rfl, ← List.drop_drop, List.drop_left' rfl, List.drop_replicate, ← List.append_assoc, Nat.sub_sub]
theorem fill_more (pre : List Nat) (k N : Nat) (h : pre.length + k ≤ N) : fill (pre ++ List.replicate k 0) N = fill pre N := by
  simp only [fill, List.append_assoc, List.length_append, List.length_replicate, List.replicate_append_replicate]
  congr 2
  omega
theorem u8s_lay (L : List Nat) (k : Nat) (xs : List Nat) : u8s (lay L k xs) = splice (u8s L) k (u8s xs) := by
  simp [lay, splice, u8s, List.map_take, List.map_drop]
theorem u8s_set (L : List Nat) (i b : Nat) : (u8s L).toArray.setIfInBounds i (.int .u8 (b : Nat)) = (u8s (L.set i b)).toArray := by
  simp [u8s, List.map_set]
theorem be_take_up (k m j : Nat) (h : j < k) : (be k m).take (j + 1) = (be k m).take j ++ [m / 256 ^ (k - 1 - j) % 256] := by
  have := be_take k m (k - 1 - j) (by omega)
  rwa [show k - (k - 1 - j) = j + 1 from by omega, show k - (k - 1 - j + 1) = j from by omega] at this
theorem be_small (n : Nat) (h : n < 256) : be 1 n = [n] := by simp [be, Nat.mod_eq_of_lt h]

/-- The bits of a number that was moved up by a byte, and a byte's: their sum. -/
theorem or_byte (x : Int) (b : Nat) (hb : b < 256) : bits BinOp.or IntKind.i64 (wrap64 (x * 256)) (b : Int) = wrap64 (wrap64 (256 * x) + b) := by
  have hx : (BitVec.ofInt 64 (wrap64 (x * 256))).toNat = ((x * 256) % 18446744073709551616).toNat := by
    simp only [BitVec.toNat_ofInt]
    unfold wrap64
    congr 1
    omega
  have hbn : (BitVec.ofInt 64 (b : Int)).toNat = b := ofInt_u64 b (by omega)
  have h0 : ((x * 256) % 18446744073709551616).toNat % 2 ^ 8 = 0 := by omega
  have hk : bits BinOp.or IntKind.i64 (wrap64 (x * 256)) (b : Int) = IntKind.i64.wrap (((BitVec.ofInt 64 (wrap64 (x * 256)) ||| BitVec.ofInt 64 (b : Int)).toNat : Nat) : Int) := rfl
  rw [hk, BitVec.toNat_or, hx, hbn, nat_join 8 _ _ h0 (by omega), IntKind.wrap_i64]
  unfold wrap64
  omega
theorem wrap_mul (x : Int) : wrap64 (wrap64 x * 256) = wrap64 (x * 256) := by unfold wrap64; omega
end Go.Proofs.Ytpdkjgmldlpaaaa.Codec
