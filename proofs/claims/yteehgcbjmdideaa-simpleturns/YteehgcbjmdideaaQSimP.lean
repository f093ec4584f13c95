/- Turned twice it is as it was. -/
import Derived.Test.YteehgcbjmdideaaQSimN
import Derived.Test.YteehgcbjmdideaaQTurP
namespace Go.Proofs.Yteehgcbjmdideaa
open Go.RowKit
attribute [local go_sem ↓] Go.wp_at_zero Go.wp_at_succ

theorem inv_inv (a : ArcD) : invA (invA a) = a := rfl
theorem inv_eq {a b : ArcD} (h : eqK (invA a) (invA b)) : eqK a b := ⟨h.1, h.2.2.1, h.2.1, h.2.2.2⟩

theorem sorted_eq {l : List ArcD} (ho : l.Pairwise (fun a b => aheadB a b = true)) {a b : ArcD} (ha : a ∈ l) (hb : b ∈ l) (he : eqK a b) : a = b := by
  obtain ⟨i, hi, rfl⟩ := List.getElem_of_mem ha
  obtain ⟨j, hj, rfl⟩ := List.getElem_of_mem hb
  have key := List.pairwise_iff_getElem.1 ho
  rcases Nat.lt_trichotomy i j with q | q | q
  · exact absurd he (ahead_not (key i j hi hj q)).1
  · subst q; rfl
  · exact absurd he.symm (ahead_not (key j i hj hi q)).1

theorem least_inv {l : List ArcD} (ho : l.Pairwise (fun a b => aheadB a b = true)) (a : ArcD) : a ∈ leastL (l.map invA) ↔ a ∈ l.map invA := by
  rw [(leastL_min (l.map invA)).mem a]
  refine ⟨fun h => h.1, fun h => ⟨h, fun b hb he => ?_⟩⟩
  obtain ⟨c, hc, rfl⟩ := List.mem_map.1 h
  obtain ⟨d, hd, rfl⟩ := List.mem_map.1 hb
  rw [sorted_eq ho hc hd (inv_eq he)]
  exact Int.le_refl _

theorem twice_inv {f : FstD} (hc : checkD f = 0) : mapD invA (mapD invA f) = f := by
  have k := fine_of hc
  have e : leastL ((leastL (f.arcs.map invA)).map invA) = f.arcs := by
    refine min_of k.ord (fun a => ?_)
    constructor
    · intro h
      exact List.mem_map.2 ⟨invA a, (least_inv k.ord _).2 (List.mem_map_of_mem h), inv_inv a⟩
    · intro h
      obtain ⟨b, hb, rfl⟩ := List.mem_map.1 h
      obtain ⟨c, hc', rfl⟩ := List.mem_map.1 ((least_inv k.ord _).1 hb)
      exact hc'
  unfold mapD
  dsimp only
  rw [e]

theorem inv_fine {f : FstD} (hc : checkD f = 0) : checkD (mapD invA f) = 0 := by
  have k := fine_of hc
  refine Fine.check ⟨k.s1, k.s2, k.b1, k.b2, k.len, k.fin, ?_, ?_, (leastL_min _).ord⟩
  · have h1 := least_len (f.arcs.map invA)
    rw [List.length_map] at h1
    exact Nat.le_trans h1 k.many
  · intro a ha
    obtain ⟨c, hc', rfl⟩ := List.mem_map.1 (((leastL_min (f.arcs.map invA)).mem a).1 ha).1
    have q := k.arcs c hc'
    exact ⟨q.src, q.dst, q.out, q.inp, q.wt⟩

set_option maxHeartbeats 1000000 in
theorem fstIs_badS (c : Int) (hc : (c == 0) = false) (fa : Option Addr) (fn fc : Nat) (ba : Option Addr) (bn bc : Nat) (st sta : Int) (u v : Value) (w : World) (hf : ISlice w (.slice fa fn fc) []) (ha : ASlice w (.slice ba bn bc) []) :
    Calls Try.prog 21 #[.agg #[.int .i64 0, .int .i64 0, .slice fa fn fc, .slice ba bn bc], .int .i64 c, .int .i64 c, .agg #[.int .i64 st, .int .i64 sta, u, v]] w fun e w' => e = .returned (.bool true) ∧ Below w.heap.size w w' := by
  have hb := two_up w (.cells #[.int .i64 0, .int .i64 0, .slice fa fn fc, .slice ba bn bc] 25) (.cells #[.int .i64 0, .int .i64 0, .slice none 0 0, .slice none 0 0] 25)
  have h1 := hf.below hb
  have h2 := ha.below hb
  have hcn : (c != 0) = true := by simpa using hc
  go_enter Try.func21, Try.ntmps21
  go_wp2_with (go_at_call 22; refine (same_self ⟨0, 0, [], []⟩ _ _ _ _ _ h1 h2 (nil_ints _) (nil_arcs _)).mono ?_; rintro e w1 ⟨rfl, hb1⟩)
  go_ret
  exact ⟨rfl, bel_on hb hb1⟩

theorem turnedOf_fine (f : FstD) (side : Int) (h : ArcD → ArcD) (hside : (side = 0 ∧ h = invA) ∨ (side = 1 ∧ h = inA) ∨ (side = 2 ∧ h = outA)) (fin arcs : Value) (w : World) (hf : ISlice w fin f.final) (ha : ASlice w arcs f.arcs) (hc : checkD f = 0) :
    Calls Try.prog 19 #[.agg #[.int .i64 f.states, .int .i64 f.start, fin, arcs], .int .i64 side] w fun e w' =>
      ∃ fa' fn' fc' ba bn bc, e = .returned (.agg #[.int .i64 f.states, .int .i64 f.start, .slice fa' fn' fc', .slice ba bn bc]) ∧ IFrom w.heap.size w' (.slice fa' fn' fc') f.final ∧ AFrom w.heap.size w' (.slice ba bn bc) (leastL (f.arcs.map h)) ∧ Below w.heap.size w w' := by
  obtain ⟨N, s0, hok⟩ := okF f hc
  obtain ⟨fb, fo, n, fc, aa, m, ac, rfl, rfl, hF, h1, hm⟩ := fin_of hf ha hc
  exact turnedOf_some f side h hside fb fo n fc aa m ac w h1 hF.n hF.fin hF.arc hm hF.m3 (fun a ha => (hok.arcs a ha).2.2.1)
end Go.Proofs.Yteehgcbjmdideaa
