/- What is pushed: ends and arcs, from what it costs to come to an end. -/
import Derived.Test.YteehgcbjmdideaaRelaxM
import Derived.Test.YteehgcbjmdideaaFMath
namespace Go.Proofs.Yteehgcbjmdideaa

def pf (t x : Int) : Int := if x = -1 then x else x - t
def pushF (to fin : List Int) (k : Nat) : List Int := (List.range k).map fun i => pf (gI to i) (fin.getD i 0)
theorem pushF_succ (to fin : List Int) (k : Nat) : pushF to fin (k + 1) = pushF to fin k ++ [pf (gI to k) (fin.getD k 0)] := by simp [pushF, List.range_succ]
theorem pushF_len (to fin : List Int) (k : Nat) : (pushF to fin k).length = k := by simp [pushF]

/-- does a way lead on from both ends? -/
def stayA (to : List Int) (a : ArcD) : Bool := (gI to a.src.toNat != -1) && (gI to a.dst.toNat != -1)
def pushArc (to : List Int) (a : ArcD) : ArcD := ⟨a.src, a.inp, a.out, a.dst, a.wt + (gI to a.dst.toNat - gI to a.src.toNat)⟩
def pushA (to : List Int) (l : List ArcD) : List ArcD := (l.filter (stayA to)).map (pushArc to)
theorem pushA_len (to : List Int) (l : List ArcD) : (pushA to l).length ≤ l.length := by
  unfold pushA
  rw [List.length_map]
  exact List.length_filter_le _ _
theorem pushA_take (to : List Int) (l : List ArcD) (k : Nat) (a : ArcD) (hk : k < l.length) (ha : a = l.getD k a0) : pushA to (l.take (k + 1)) = pushA to (l.take k) ++ if stayA to a = true then [pushArc to a] else [] := by
  have h : l[k]? = some a := by rw [ha]; simp [List.getD, hk]
  rw [List.take_add_one, h]
  unfold pushA
  rw [List.filter_append, List.map_append]
  congr 1
  cases hs : stayA to a <;> simp [hs]

def greatA (l : List ArcD) : Bool := l.any fun a => decide (1000000000 < a.wt)

/-- what Push answers, if it costs so much to come to an end -/
def pushD (f : FstD) (to : List Int) : FstD × Int × Int :=
  if gI to f.start.toNat = -1 then (⟨f.states, f.start, f.final, []⟩, -1, 0)
  else if greatA (pushA to f.arcs) = true then (⟨0, 0, [], []⟩, 0, 2)
  else (⟨f.states, f.start, pushF to f.final f.final.length, pushA to f.arcs⟩, gI to f.start.toNat, 0)

end Go.Proofs.Yteehgcbjmdideaa
