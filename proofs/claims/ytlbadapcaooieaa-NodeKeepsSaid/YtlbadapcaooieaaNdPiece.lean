/- A piece of a node, which shares its memory; pieces laid one behind the other in new memory. -/
import Derived.Test.YtlbadapcaooieaaNdFind
namespace Go.Proofs.Ytlbadapcaooieaa.Node
open Go.RowKit CrcMath Mem Crc Codec NdSpec
set_option linter.unusedVariables false
set_option linter.unusedSimpArgs false

theorem ints_cut {w : World} {b n c a z : Nat} {A : Option Addr} {l : List Int} (h : Ints w b A n l) (haz : a ≤ z) (hz : z ≤ n) (hc : n ≤ c) :
    Ints w b (if c = a then A else A.map (·.add a)) (z - a) ((l.drop a).take (z - a)) := by
  refine ⟨by rw [List.length_take, List.length_drop, h.1]; omega, fun x hx => h.2.1 x (List.mem_of_mem_drop (List.mem_of_mem_take hx)), fun h0 => ?_⟩
  obtain ⟨g, o, rfl, hlt, hne, hcell⟩ := h.2.2 (by omega)
  rw [if_neg (by omega)]
  refine ⟨g, o + a, ?_, hlt, hne, fun j hj => ?_⟩
  · simp only [Option.map_some, Option.some.injEq]
    unfold Addr.add
    split <;> simp_all
  · rw [Nat.add_assoc, hcell (a + j) (by omega)]
    congr 2
    rw [List.getD_eq_getElem?_getD, List.getD_eq_getElem?_getD, List.getElem?_take_of_lt hj, List.getElem?_drop]
theorem NdAt.cut {w : World} {A A' : Option Addr} {n n' c c' a z : Nat} {ks vs : List Int} (h : NdAt w A A' n n' c c' ks vs) (haz : a ≤ z) (hz : z ≤ n) (hz' : z ≤ n') :
    NdAt w (if c = a then A else A.map (·.add a)) (if c' = a then A' else A'.map (·.add a)) (z - a) (z - a) (c - a) (c' - a) ((ks.drop a).take (z - a)) ((vs.drop a).take (z - a)) := by
  obtain ⟨b, hb⟩ := h.k
  obtain ⟨b', hb'⟩ := h.v
  have h1 := h.nc; have h2 := h.cm; have h3 := h.nc'; have h4 := h.cm'
  exact ⟨⟨b, ints_cut hb haz hz h1⟩, ⟨b', ints_cut hb' haz hz' h3⟩, by omega, by omega, by omega, by omega⟩

theorem new2 (w : World) (o : Obj) (t : TypeId) (cs : Array Value) : Blk ((w.alloc o).alloc (.cells cs t)) (w.heap.size + 1) t cs := by
  have := Blk.new (w.alloc o) t cs
  rwa [World.size_alloc] at this
set_option maxRecDepth 100000 in
set_option maxHeartbeats 800000 in
theorem piece_call {w : World} {A A' : Option Addr} {n n' c c' : Nat} {ks vs : List Int} (lf : Bool) (a z : Nat) (h : NdAt w A A' n n' c c' ks vs) (haz : a ≤ z) (hz : z ≤ n) (hz' : z ≤ n') :
    Calls Try.prog 34 #[.agg #[.bool lf, .slice A n c, .slice A' n' c'], .int .i64 (a : Nat), .int .i64 (z : Nat)] w fun e w' => w.grownBy w' none ∧
      ∃ A1 A1', e = .returned (.agg #[.bool lf, .slice A1 (z - a) (c - a), .slice A1' (z - a) (c' - a)]) ∧ NdAt w' A1 A1' (z - a) (z - a) (c - a) (c' - a) ((ks.drop a).take (z - a)) ((vs.drop a).take (z - a)) := by
  have HG0 := Lib.hid (World.grownBy_alloc w (.cells #[.bool lf, .slice A n c, .slice A' n' c'] 24) none)
  have HB := Lib.hid ((Blk.new w 24 #[.bool lf, .slice A n c, .slice A' n' c']).alloc (.cells #[.bool false, .slice none 0 0, .slice none 0 0] 24))
  have hx := Blk.new (w.alloc (.cells #[.bool lf, .slice A n c, .slice A' n' c'] 24)) 24 #[.bool false, .slice none 0 0, .slice none 0 0]
  rw [World.size_alloc] at hx
  have HX := Lib.hid hx
  have HC := Lib.hid (h.cut haz hz hz')
  have h1 := h.nc; have h2 := h.nc'; have h3 := h.cm; have h4 := h.cm'
  simp only [maxLen] at h3 h4
  have a0 : (0 : Int) ≤ a := by omega
  have a1 : (a : Int) ≤ z := by omega
  have a2 : (z : Int) ≤ c := by omega
  have a3 : (z : Int) ≤ c' := by omega
  clear h hx
  go_enter Try.func34, Try.ntmps34
  go_wp2_with fail
  go_region
  go_wp2_with fail
  all_goals
    rename_i e1
    have q := HC.out
    simp only [e1, h, Nat.sub_self, if_true, if_false] at q
    refine ret_cell1 rfl (w.heap.size + 1) 24 _ _ rfl (new2 _ _ _ _).drew Try.underlying24 rfl (by kernel_rfl) rfl ⟨?_, _, _, rfl, q.keep ?_⟩
    all_goals exact (((World.grownBy_alloc _ _ none).trans (World.grownBy_alloc _ _ none)).trans (grown_drew _ none))
end Go.Proofs.Ytlbadapcaooieaa.Node
