/- The reader of a text: 'takeArc' of package fst. -/
import Derived.Test.YteehgcbjmdideaaGreatDoorQTakeF
import Derived.Deep.AppendLies
namespace Go.Proofs.YteehgcbjmdideaaGreatDoor
open Go.RowKit
attribute [local go_sem ↓] Go.wp_at_zero Go.wp_at_succ

def arcCells (a : ArcD) : List Value := [.int .i64 a.src, .int .i64 a.inp, .int .i64 a.out, .int .i64 a.dst, .int .i64 a.wt]
def arcsV (l : List ArcD) : List Value := l.flatMap arcCells

theorem Tryz.info35 : (Tryz.prog.info? 35).map (fun i => (i.zero, i.size, i.bytes)) = some (some (.agg #[.int .i64 0, .int .i64 0, .int .i64 0, .int .i64 0, .int .i64 0]), 5, 40) := by kernel_rfl

theorem words_strs (s : ByteArray) (w : World) (hs : s.size ≤ 100000) : StrsAt (w.alloc (.cells ((wordsB s).map Value.string).toArray 9)) w.heap.size 0 (wordsB s).length (wordsB s) := by
  refine ⟨rfl, fun i hi => ?_, fun z hz => ?_⟩
  · refine new_cell _ _ _ _ _ _ rfl ?_
    simp [List.getD, hi]
  · have := wordsB_size s z hz; unfold maxLen; omega

theorem words_many (s : ByteArray) (hs : s.size ≤ 100000) : (wordsB s).length ≤ 1000000 := by
  have h := congrArg List.length (wordsB_eq s)
  rw [splitOn_length] at h
  simp only [fieldsOf, List.length_map] at h
  have := List.count_le_length (a := (32 : UInt8)) (l := listOf s)
  rw [listOf_len] at this
  omega

theorem oneCell_arc (a : ArcD) : ∀ u ∈ arcCells a, u.oneCell' = true := by
  intro u hu
  simp [arcCells] at hu
  rcases hu with rfl | rfl | rfl | rfl | rfl <;> rfl

theorem set_far {w : World} {rb i g k : Nat} {v : Value} (h : g ≠ rb) : (w.setCell ⟨rb, i, none⟩ v).cell? ⟨g, k, none⟩ = w.cell? ⟨g, k, none⟩ :=
  World.cell?_of_block (w := w) (a := ⟨g, k, none⟩) (Below.heap_setCell w ⟨rb, i, none⟩ v g h)
theorem ownsRow_other {w : World} {B e size n rb i : Nat} {v u : Value} {xs : List Value} (h : w.ownsRow B e size v n xs) (hv : v.ownBlock ≠ some rb) : (w.setCell ⟨rb, i, none⟩ u).ownsRow B e size v n xs := by
  obtain ⟨hl, h⟩ := h
  refine ⟨hl, ?_⟩
  rcases h with h | ⟨g, cap, cur, rfl, hg, hh, h1⟩
  · exact Or.inl h
  · refine Or.inr ⟨g, cap, cur, rfl, hg, ?_, h1⟩
    rw [Below.heap_setCell _ _ _ _ (by simpa [Value.ownBlock] using hv)]; exact hh
theorem five_pos : 0 < 5 := by decide
theorem one_pos : 0 < 1 := by decide
theorem ownsRow_lt {w : World} {B e size n : Nat} {v : Value} {xs : List Value} (h : w.ownsRow B e size v n xs) : ∀ g, v.ownBlock = some g → g < w.heap.size := by
  intro g hg
  obtain ⟨_, h⟩ := h
  rcases h with ⟨rfl, _⟩ | ⟨g', cap, cur, rfl, hB, hh, _⟩
  · simp [Value.ownBlock] at hg
  · simp [Value.ownBlock] at hg; subst hg; exact heap_lt hh

set_option maxHeartbeats 2000000 in
set_option maxRecDepth 100000 in
theorem takeArc_some (B rb : Nat) (st sta last : Int) (fv av : Value) (ars : List ArcD) (a : ArcD) (s : ByteArray) (w : World) (hsh : w.ShapedOpen Tryz.prog) (hs : s.size ≤ 100000)
    (hR : RBlock w rb st sta fv av last) (hown : w.ownsRow B 35 5 av ars.length (arcsV ars)) (hav : av.ownBlock ≠ some rb) (hB : B ≤ rb) (hm : ars.length ≤ 1000000)
    (hn : numsB (splitOn 32 (listOf s)) = some [a.src, a.inp, a.out, a.dst, a.wt]) :
    Calls Tryz.prog 57 #[.pointer (some ⟨rb, 0, none⟩), .string s] w fun e w' => e = .returned (.bool true) ∧
      ∃ av', RBlock w' rb st sta fv av' last ∧ w'.ownsRow B 35 5 av' (ars.length + 1) (arcsV (ars ++ [a])) ∧ av'.ownBlock ≠ some rb ∧ Below B w w' ∧ (∀ k o, w.heap[k]? = some o → k ≠ rb → some k ≠ av.ownBlock → w'.heap[k]? = some o) ∧ (∀ k, k < w.heap.size → av'.ownBlock = some k → av.ownBlock = some k) := by
  obtain ⟨i0, hi, hz0, hz1, hz2⟩ := info_parts Tryz.info35
  have hsp := split_any s w hsh hs
  have hst := words_strs s w hs
  have hmany := words_many s hs
  have HNU : Hid (numsB (fieldsOf (wordsB s)) = some [a.src, a.inp, a.out, a.dst, a.wt]) := by show numsB (fieldsOf (wordsB s)) = _; rw [wordsB_eq]; exact hn
  have h5 : (wordsB s).length = 5 := by have := numsB_length _ _ HNU.out; simpa [fieldsOf] using this.symm
  rw [h5] at hsp hst hmany
  have hBel := bel_up (bel_self w) (.cells ((wordsB s).map Value.string).toArray 9)
  generalize (wordsB s) = ss at *
  generalize hW1 : w.alloc (.cells (ss.map Value.string).toArray 9) = w1 at *
  have hrl := heap_lt hR
  clear hn h5
  go_enter Tryz.func57, Tryz.ntmps57
  go_wp2_with (first | (go_at_call 65; refine hsp.mono ?_; rintro e w' ⟨rfl, hw'⟩; obtain rfl := hw'.symm) | (go_at_call 66; refine (numbers_some w.heap.size 0 5 5 ss [a.src, a.inp, a.out, a.dst, a.wt] _ hst hmany HNU.out (by decide)).mono ?_; rintro e w2 ⟨g, o, cc, rfl, hI, hbw, hg⟩))
  have hb2 : Below w.heap.size w w2 := bel_on hBel hbw
  have hR2 : RBlock w2 rb st sta fv av last := heap_bel hb2 hR
  have hown2 := ownsRow_bel hown hb2
  have i0' : w2.cell? ⟨g, o, none⟩ = some (.int .i64 a.src) := by have := hI.cell 0 (by omega); simpa using this
  have i1' : w2.cell? ⟨g, o + 1, none⟩ = some (.int .i64 a.inp) := by have := hI.cell 1 (by omega); simpa using this
  have i2' : w2.cell? ⟨g, o + 2, none⟩ = some (.int .i64 a.out) := by have := hI.cell 2 (by omega); simpa using this
  have i3' : w2.cell? ⟨g, o + 3, none⟩ = some (.int .i64 a.dst) := by have := hI.cell 3 (by omega); simpa using this
  have i4' : w2.cell? ⟨g, o + 4, none⟩ = some (.int .i64 a.wt) := by have := hI.cell 4 (by omega); simpa using this
  have hgl : w.heap.size ≤ g := Nat.le_trans hBel.size hg
  have hgs := cell_lt i0'
  have p3 : w2.cell? ⟨rb, 3, none⟩ = some av := by have := Go.Joins.cell_of_block hR2 3; simpa using this
  have q3 := Go.Joins.unfrozen_of_block hR2 3
  have hrb2 : rb < w2.heap.size := heap_lt hR2
  have hgr : g ≠ rb := by omega
  have hgr' : rb ≠ g := by omega
  have havl : ∀ k, av.ownBlock = some k → k < w.heap.size := ownsRow_lt hown
  have hgav : some g ≠ av.ownBlock := fun h => by have := havl g h.symm; omega
  have hrav : some rb ≠ av.ownBlock := fun h => hav h.symm
  have hH : (w2.alloc (.cells #[.int .i64 a.src, .int .i64 a.inp, .int .i64 a.out, .int .i64 a.dst, .int .i64 a.wt] 35)).drew.heap.size = w2.heap.size + 1 := by simp
  have hgl2 : g < (w2.alloc (.cells #[.int .i64 a.src, .int .i64 a.inp, .int .i64 a.out, .int .i64 a.dst, .int .i64 a.wt] 35)).drew.heap.size := by rw [hH]; omega
  have hrl2 : rb < (w2.alloc (.cells #[.int .i64 a.src, .int .i64 a.inp, .int .i64 a.out, .int .i64 a.dst, .int .i64 a.wt] 35)).drew.heap.size := by rw [hH]; omega
  have p3' : (w2.alloc (.cells #[.int .i64 a.src, .int .i64 a.inp, .int .i64 a.out, .int .i64 a.dst, .int .i64 a.wt] 35)).drew.cell? ⟨rb, 3, none⟩ = some av := drew_cell (old_cell p3)
  have q3' : (w2.alloc (.cells #[.int .i64 a.src, .int .i64 a.inp, .int .i64 a.out, .int .i64 a.dst, .int .i64 a.wt] 35)).drew.frozen? ⟨rb, 3, none⟩ = false := ((bcell (bel_up (bel_self w2) _).drew).2 rb 3 hrb2).trans q3
  have h63 : ars.length + 1 ≤ maxLen := by unfold maxLen; omega
  have hby : (ars.length + 1) * 40 ≤ 140737488355328 := by omega
  have hBs : B ≤ (w2.alloc (.cells #[.int .i64 a.src, .int .i64 a.inp, .int .i64 a.out, .int .i64 a.dst, .int .i64 a.wt] 35)).drew.heap.size := by rw [hH]; omega
  have hnews := World.news_of_block (w := (w2.alloc (.cells #[.int .i64 a.src, .int .i64 a.inp, .int .i64 a.out, .int .i64 a.dst, .int .i64 a.wt] 35)).drew) (cs := #[.int .i64 a.src, .int .i64 a.inp, .int .i64 a.out, .int .i64 a.dst, .int .i64 a.wt]) (t := 35) (fr := (0, 0)) (heap_alloc_new w2 _)
  have hone := oneCell_arc a
  have hown3 : (w2.alloc (.cells #[.int .i64 a.src, .int .i64 a.inp, .int .i64 a.out, .int .i64 a.dst, .int .i64 a.wt] 35)).drew.ownsRow B 35 5 av ars.length (arcsV ars) := ownsRow_bel hown2 (bel_up (bel_self w2) _).drew
  have HNW : Hid (∀ (j : Nat) (u : Value), (arcCells a)[j]? = some u → (w2.alloc (.cells #[.int .i64 a.src, .int .i64 a.inp, .int .i64 a.out, .int .i64 a.dst, .int .i64 a.wt] 35)).drew.cell? ((⟨w2.heap.size, 0, none⟩ : Addr).add j) = some u) := hnews
  have HON : Hid (∀ u ∈ arcCells a, u.oneCell' = true) := hone
  clear hI hbw hnews hone hst hsp HNU
  obtain ⟨gg, cap, w4, hrun, hown4, hgrow, hat, hlt⟩ := run_append_lies (P := Tryz.prog) (w2.alloc (.cells #[.int .i64 a.src, .int .i64 a.inp, .int .i64 a.out, .int .i64 a.dst, .int .i64 a.wt] 35)).drew 23 23 B 35 i0 _ 5 40 Tryz.underlying23 hi hz0 hz1 hz2 rfl five_pos av ars.length (arcsV ars) hown3 ⟨w2.heap.size, 0, none⟩ 1 1 (arcCells a) rfl HNW.out HON.out one_pos h63 hby hBs (w2.heap.size + 1) hH
  have p4 := (hgrow.cell_far ⟨rb, 3, none⟩ hrl2 hrav).trans p3'
  have q4 := (hgrow.frozen_far ⟨rb, 3, none⟩ hrl2 hrav).trans q3'
  clear p3' q3' hi hz0 hz1 hz2 hgl2 hrl2 hH
  have HO4 : Hid (w4.ownsRow B 35 5 (.slice (some ⟨gg, 0, none⟩) (ars.length + 1) cap) (ars.length + 1) (arcsV ars ++ arcCells a)) := hown4
  clear hown4 hown3 hown2
  simp [go_sem] at hrun
  go_region
  go_wp2
  go_ret
  have hs2 := hb2.size
  have hgg : gg ≠ rb := by
    rcases hat with hat | hat
    · intro e; subst e; exact hav hat
    · omega
  have hW : ∀ k o, w.heap[k]? = some o → some k ≠ av.ownBlock → w4.heap[k]? = some o := by
    intro k o hk hne
    have h1 := heap_bel (bel_up (bel_self w2) (.cells #[.int .i64 a.src, .int .i64 a.inp, .int .i64 a.out, .int .i64 a.dst, .int .i64 a.wt] 35)).drew (heap_bel hb2 hk)
    rw [hgrow.block k (heap_lt h1) hne]; exact h1
  have hR4 : RBlock w4 rb st sta fv av last := hW rb _ hR hrav
  refine ⟨rfl, .slice (some ⟨gg, 0, none⟩) (ars.length + 1) cap, Go.Joins.block_setCell hR4 _, ?_, ?_, ?_, ?_, ?_⟩
  · have h := ownsRow_other HO4.out (rb := rb) (i := 3) (u := .slice (some ⟨gg, 0, none⟩) (ars.length + 1) cap) (by simpa [Value.ownBlock] using hgg)
    simpa [arcsV] using h
  · simpa [Value.ownBlock] using hgg
  · refine Below.setCell (p := ⟨rb, 3, none⟩) ?_ hB _
    exact ((hb2.mono (by omega)).alloc (by omega) _).drew.grown hgrow hBs (fun k hk => ownsRow_base hown k hk)
  · intro k o hk hne hna
    rw [Below.heap_setCell _ _ _ _ (by simpa using hne)]
    exact hW k o hk hna
  · intro k hk hav'
    simp [Value.ownBlock] at hav'
    rcases hat with hat | hat
    · rw [hat, hav']
    · omega

end Go.Proofs.YteehgcbjmdideaaGreatDoor
