/- 'Costs' of package spread: the least prices along edges, and by which arc each came. -/
import Derived.Test.YteehgcbjmdideaaQM01
import Derived.Test.YteehgcbjmdideaaQM04
import Derived.Deep.RegionHeld3
import Derived.Deep.Cut
import Derived.Test.YteehgcbjmdideaaQM00
import Derived.Test.YteehgcbjmdideaaQM03
import Derived.Test.YteehgcbjmdideaaQCheckF
namespace Go.Proofs.Yteehgcbjmdideaa
open Go.RowKit
attribute [local go_sem ↓] Go.wp_at_zero Go.wp_at_succ

/-- the edge of an arc, if its ends are so -/
def edgOf (pu pv : ArcD → Int) (a : ArcD) : Edg := ⟨(pu a).toNat, (pv a).toNat, a.wt⟩

/-- what prices there are, in memory -/
def muW (w : World) (g n : Nat) : Nat := ((List.range n).map fun i => muI (intOf ((w.cell? ⟨g, i, none⟩).getD (.int .i64 0)))).sum
theorem muW_eq {w : World} {g n : Nat} {c : List Int} (h : NumsAt w g n c) : muW w g n = muL c := by
  unfold muW muL
  congr 1
  apply List.ext_getElem
  · simp [h.len]
  · intro i h1 h2
    have hi : i < n := by simpa using h1
    have hl := h.len
    simp [h.cell i hi, intOf, gI, List.getD, show i < c.length by omega]

/-- the world of the search -/
structure CW (w wr : World) (gc gy n : Nat) (E : List Edg) (b c y : List Int) : Prop where
  rc : NumsAt wr gc n c
  ry : NumsAt wr gy n y
  ne : gc ≠ gy
  lc : w.heap.size ≤ gc
  ly : w.heap.size ≤ gy
  bel : Below w.heap.size w wr
  inv : Inv E b c y

theorem CW.below {w wr wx : World} {gc gy n : Nat} {E : List Edg} {b c y : List Int} (h : CW w wr gc gy n E b c y) (hb : Below wr.heap.size wr wx) : CW w wx gc gy n E b c y :=
  ⟨h.rc.below hb, h.ry.below hb, h.ne, h.lc, h.ly, bel_on h.bel hb, h.inv⟩

theorem NumsAt.of_row {w : World} {B e g n cap : Nat} {xs : List Int} (h : w.ownsRow B e 1 (.slice (some ⟨g, 0, none⟩) n cap) n (xs.map (Value.int .i64))) : NumsAt w g n xs ∧ B ≤ g := by
  obtain ⟨hl, h⟩ := h
  rcases h with ⟨h, _⟩ | ⟨g', cap', cur, h0, hB, hh, h1, h2, h3, h4⟩
  · cases h
  · injection h0 with h5 h6 h7
    injection h5 with h5
    injection h5 with h5
    subst h5
    have hxl : xs.length = n := by simpa using hl
    refine ⟨⟨hxl, fun i hi => ?_, fun i => Go.Joins.unfrozen_of_block hh i, heap_lt hh⟩, hB⟩
    have : (cur.toList.take (n * 1))[i]? = some (.int .i64 (gI xs i)) := by
      rw [h4]; simp [gI, List.getD, show i < xs.length by omega]
    rw [List.getElem?_take] at this
    simp only [Nat.mul_one, hi, if_true, Array.getElem?_toList] at this
    simp [World.cell?, hh, this]

theorem rep_row {w w1 : World} {n t : Nat} {o : Obj} (h : w1.heap[(w.alloc o).heap.size]? = some (.cells (rowR (-1) n n).toArray t (0, 0))) : NumsAt w1 (w.heap.size + 1) n (List.replicate n (-1)) := by
  have h1 := NumsAt.of_block (only_row h)
  simpa using h1

/-- what 'Costs' answers -/
def CostsRes (w : World) (n : Nat) (E : List Edg) (b : List Int) (e : Ending) (w' : World) : Prop :=
  ∃ gc gy c y cc cy, e = .returned (.tuple #[.slice (some ⟨gc, 0, none⟩) n cc, .slice (some ⟨gy, 0, none⟩) n cy]) ∧ CW w w' gc gy n E b c y ∧ Fix E c

def boolN : Value → Nat
  | .bool true => 1
  | _ => 0

set_option maxHeartbeats 1000000 in
set_option maxRecDepth 100000 in
theorem costs_some (pu pv : ArcD → Int) (F : Nat) (hG : ∀ args w, (callFunc F args).run Try.prog w = .ok (.enter F args) w) (hF : ∀ (a : ArcD) (w : World), Calls Try.prog F #[.agg #[.int .i64 a.src, .int .i64 a.inp, .int .i64 a.out, .int .i64 a.dst, .int .i64 a.wt]] w fun e w' => e = .returned (.tuple #[.int .i64 (pu a), .int .i64 (pv a)]) ∧ Below w.heap.size w w')
    (b : List Int) (gb ob cb n : Nat) (aa : Option Addr) (m ac : Nat) (ars : List ArcD) (w : World) (hb : IntsAt w gb ob n b) (ha : ASlice w (.slice aa m ac) ars) (hal : ars.length = m) (hm : m ≤ 3000) (hn1 : 1 ≤ n) (hn : n ≤ 200)
    (hb0 : ∀ v, gI b v = -1 ∨ 0 ≤ gI b v) (hb1 : ∀ v, gI b v ≤ 1000000000)
    (hok : ∀ a ∈ ars, (0 ≤ pu a ∧ pu a < n) ∧ (0 ≤ pv a ∧ pv a < n) ∧ (0 ≤ a.wt ∧ a.wt ≤ 1000000000)) :
    Calls Try.prog 82 #[.slice (some ⟨gb, ob, none⟩) n cb, .slice aa m ac, .func (.func F) #[] #[]] w fun e w' =>
      CostsRes w n (ars.map (edgOf pu pv)) b e w' := by
  have HOK : Hid (∀ a ∈ ars, (0 ≤ pu a ∧ pu a < n) ∧ (0 ≤ pv a ∧ pv a < n) ∧ (0 ≤ a.wt ∧ a.wt ≤ 1000000000)) := hok
  have HAL : Hid (ars.length = m) := hal
  have hbl := hb.len
  have hcl := Try.slices_Clone_int gb ob n cb b w (by omega) (by omega) (fun j hj => hb.cell j (by omega))
  clear hok hal
  go_enter Try.func82, Try.ntmps82
  go_wp2_with (first | (go_at_call 86; refine hcl.mono ?_; rintro e w1 ⟨v1, rfl, hrow, _, hb1'⟩; obtain ⟨gc, cc, rfl⟩ := Go.Joins.ownsRow_form hrow (by omega)) | (go_at_call 118; refine (repeat_any (-1) w1.heap.size 0 1 n _ (new_cell _ _ _ _ _ _ rfl rfl) hn1 hn).mono ?_; rintro e w2 ⟨rfl, hG0, hb2⟩))
  have hW : CW w w2 gc (w1.heap.size + 1) n (ars.map (edgOf pu pv)) b b (List.replicate n (-1)) := by
    obtain ⟨r1, r2⟩ := NumsAt.of_row hrow
    rw [List.take_of_length_le (by omega)] at r1
    have r1l := r1.lt
    have h12 := bel_on (bel_up (bel_self w1) (.cells #[.int .i64 (-1)] 3)) hb2
    exact ⟨r1.below h12, rep_row hG0, by omega, r2, by have := hb1'.size; omega, bel_on hb1' h12, by have := Inv.start (E := ars.map (edgOf pu pv)) hb0 hb1; rw [hbl] at this; exact this⟩
  have HB0 : Hid (∀ v, gI b v = -1 ∨ 0 ≤ gI b v) := hb0
  have HB1 : Hid (∀ v, gI b v ≤ 1000000000) := hb1
  obtain ⟨gy, hgy⟩ : ∃ gy, gy = w1.heap.size + 1 := ⟨_, rfl⟩
  rw [← hgy] at hW
  have h12 : w1.heap.size + 1 ≤ w2.heap.size := by have := hb2.size; simp at this; omega
  clear hcl hG0 hrow hb0 hb1
  rw [← hgy]
  clear hgy h12 hb1' hb2
  go_loopw [8] (fun t8 wr => ∃ f : Bool, t8 = .bool f ∧ ∃ c y, CW w wr gc gy n (ars.map (edgOf pu pv)) b c y ∧ (f = false → Fix (ars.map (edgOf pu pv)) c)) (fun t8 wr => 2 * muW wr gc n + boolN t8)
  case atStart => exact ⟨true, rfl, b, _, hW, fun h => by cases h⟩
  case round =>
    clear hW
    obtain ⟨f, rfl, c, y, hW, hfix⟩ := hrel
    cases f with
    | false =>
      have HF : Hid (Fix (ars.map (edgOf pu pv)) c) := hfix rfl
      go_wp2
      go_ret2
      exact ⟨gc, gy, c, y, cc, n, rfl, hW, HF.out⟩
    | true =>
      clear hfix
      have HMU : Hid (muW wr gc n = muL c) := muW_eq hW.rc
      go_wp2
      go_loopw [8, 23] (fun t8 t23 wr => ∃ (f : Bool) (k : Nat), t8 = .bool f ∧ k ≤ m ∧ t23 = .int .i64 k ∧ ∃ c' y', CW w wr gc gy n (ars.map (edgOf pu pv)) b c' y' ∧ ((f = false ∧ c' = c ∧ ∀ j, j < k → ∀ e, (ars.map (edgOf pu pv))[j]? = some e → betterB (plusC (gI c e.u) e.w) (gI c e.v) = false) ∨ (f = true ∧ muL c' < muL c))) (fun _ t23 _ => m - (intOf t23).toNat)
      case atStart => exact ⟨false, 0, rfl, Nat.zero_le _, rfl, c, y, hW, Or.inl ⟨rfl, rfl, fun j hj => absurd hj (Nat.not_lt_zero _)⟩⟩
      case round =>
        obtain ⟨f, k, rfl, hk, rfl, c', y', hW', hrel⟩ := hrel
        have HR : Hid ((f = false ∧ c' = c ∧ ∀ j, j < k → ∀ e, (ars.map (edgOf pu pv))[j]? = some e → betterB (plusC (gI c e.u) e.w) (gI c e.v) = false) ∨ (f = true ∧ muL c' < muL c)) := hrel
        clear hrel hW
        by_cases hlt : k < m
        · obtain ⟨ab, aoff, rfl, hx⟩ := (ha.below hW'.bel).some (by omega)
          obtain ⟨a, hak⟩ : ∃ a, a = ars.getD k a0 := ⟨_, rfl⟩
          have hkl : k < ars.length := by have := HAL.out; omega
          have hmem : a ∈ ars := by rw [hak]; simp [List.getD, hkl]
          obtain ⟨⟨q1, q2⟩, ⟨q3, q4⟩, q5, q6⟩ := HOK.out a hmem
          obtain ⟨s, hs⟩ : ∃ s : Nat, pu a = s := ⟨(pu a).toNat, by omega⟩
          obtain ⟨t, ht⟩ : ∃ t : Nat, pv a = t := ⟨(pv a).toNat, by omega⟩
          have hsN : s < n := by omega
          have htN : t < n := by omega
          have c0 := hx.c0 k hlt
          have c1 := hx.c1 k hlt
          have c2 := hx.c2 k hlt
          have c3 := hx.c3 k hlt
          have c4 := hx.c4 k hlt
          rw [← hak] at c0 c1 c2 c3 c4
          have HAK : Hid ((ars.map (edgOf pu pv))[k]? = some ⟨s, t, a.wt⟩) := by
            show (ars.map (edgOf pu pv))[k]? = some ⟨s, t, a.wt⟩
            have e1 : ars[k]? = some a := by rw [hak]; simp [List.getD, hkl]
            rw [List.getElem?_map, e1]
            simp [edgOf, hs, ht]
          clear hak hmem hkl hx
          have hlti : (k : Int) < m := by omega
          have hcall := hF a
          rw [hs, ht] at hcall
          clear hs ht q1 q2 q3 q4
          have hlo := hW'.inv.lo s
          have hhi := hW'.inv.top (by omega) s
          obtain ⟨p, hp⟩ : ∃ p, p = plusC (gI c' s) a.wt := ⟨_, rfl⟩
          have hsum := sum_any (gI c' s) a.wt
          rw [← hp] at hsum
          have hsi : (s : Int) < n := by omega
          have hti : (t : Int) < n := by omega
          have HP : Hid (p = plusC (gI c' s) a.wt) := hp
          clear hp
          cases hbt : betterB p (gI c' t) with
          | false =>
            have hless := lessP_any p (gI c' t)
            rw [hbt] at hless
            have HBT : Hid (betterB p (gI c' t) = false) := hbt
            clear hbt
            go_wp2_with (first | (refine (hcall _).mono ?_; rintro e w3 ⟨rfl, hb3⟩; have hW3 := hW'.below (bel_on (bel_up (bel_self wr) _) hb3); have x0 := hW3.rc.cell s hsN; have x1 := hW3.rc.cell t htN; have x2 := hW3.ry.cell t htN; have f1 := hW3.rc.frz t; have f2 := hW3.ry.frz t; have x4 := bel_c hb3 (new_cell wr #[.int .i64 a.src, .int .i64 a.inp, .int .i64 a.out, .int .i64 a.dst, .int .i64 a.wt] 63 wr.heap.size 4 (.int .i64 a.wt) rfl rfl); clear c0 c1 c2 c3 c4 hb3))
            go_quiet (first | (go_at_call 119; refine Calls.quiet_of_same (hsum _ hlo (by omega) (by omega) (by omega))))
            go_wp2_with (first | (go_at_call 120; refine (hless _).mono ?_; rintro e w4 ⟨rfl, rfl⟩))
            have hW4 := hW3.below (bel_drewN (bel_self w3) nq)
            go_roundw
            case rel =>
              refine ⟨f, k + 1, rfl, by omega, by go_num, c', y', hW4, ?_⟩
              rcases HR.out with ⟨h1, h2, h3⟩ | h
              · refine Or.inl ⟨h1, h2, fun j hj e he => ?_⟩
                by_cases hjk : j = k
                · subst hjk
                  rw [HAK.out] at he
                  injection he with he
                  subst he
                  have := HBT.out
                  rw [HP.out, h2] at this
                  exact this
                · exact h3 j (by omega) e he
              · exact Or.inr h
            case measure => simp [intOf]; omega
          | true =>
            have hless := lessP_any p (gI c' t)
            rw [hbt] at hless
            have HBT : Hid (betterB p (gI c' t) = true) := hbt
            clear hbt
            go_wp2_with (first | (refine (hcall _).mono ?_; rintro e w3 ⟨rfl, hb3⟩; have hW3 := hW'.below (bel_on (bel_up (bel_self wr) _) hb3); have x0 := hW3.rc.cell s hsN; have x1 := hW3.rc.cell t htN; have x2 := hW3.ry.cell t htN; have f1 := hW3.rc.frz t; have f2 := hW3.ry.frz t; have x4 := bel_c hb3 (new_cell wr #[.int .i64 a.src, .int .i64 a.inp, .int .i64 a.out, .int .i64 a.dst, .int .i64 a.wt] 63 wr.heap.size 4 (.int .i64 a.wt) rfl rfl); clear c0 c1 c2 c3 c4 hb3))
            go_quiet (first | (go_at_call 119; refine Calls.quiet_of_same (hsum _ hlo (by omega) (by omega) (by omega))))
            have hW4 := hW3.below (bel_drewN (bel_self w3) nq)
            have hne := hW4.ne
            have z1 := hW4.rc.cell t htN
            have z2 := (hW4.ry.other (k := gc) (i := t) (v := .int .i64 p) (Ne.symm hne)).cell t htN
            have z3 := (hW4.ry.other (k := gc) (i := t) (v := .int .i64 p) (Ne.symm hne)).frz t
            have z4 := hW4.rc.frz t
            go_wp2_with (first | (go_at_call 120; refine (hless _).mono ?_; rintro e w4 ⟨rfl, rfl⟩))
            go_roundw
            case rel =>
              have hst := hW4.inv.step (j := k) (by omega) HAK.out (by rw [hbl]; exact htN) q5 q6 (by show betterB (plusC (gI c' s) a.wt) (gI c' t) = true; rw [← HP.out]; exact HBT.out)
              change Inv _ _ (c'.set t (plusC (gI c' s) a.wt)) (y'.set t (k : Int)) ∧ muL (c'.set t (plusC (gI c' s) a.wt)) < muL c' at hst
              rw [← HP.out] at hst
              refine ⟨true, k + 1, rfl, by omega, by go_num, c'.set t p, y'.set t (k : Int), ⟨(hW4.rc.set t p htN).other hne, (hW4.ry.other (Ne.symm hne)).set t k htN, hne, hW4.lc, hW4.ly, (hW4.bel.setCell (p := ⟨gc, t, none⟩) hW4.lc _).setCell (p := ⟨gy, t, none⟩) hW4.ly _, hst.1⟩, Or.inr ⟨rfl, ?_⟩⟩
              have hlt2 := hst.2
              rcases HR.out with ⟨_, h2, _⟩ | ⟨_, h⟩
              · rw [← h2]; exact hlt2
              · omega
            case measure => simp [intOf]; omega
        · have hkm : k = m := by omega
          subst hkm
          go_wp2
          go_roundw
          case rel =>
            refine ⟨f, rfl, c', y', hW', fun hf => ?_⟩
            rcases HR.out with ⟨_, h2, h3⟩ | ⟨h, _⟩
            · subst h2
              refine fix_of _ _ (fun e he => ?_) hW'.inv.lo (fun e he => ?_)
              · obtain ⟨a, ha1, rfl⟩ := List.mem_map.1 he
                exact (HOK.out a ha1).2.2.1
              · obtain ⟨j, hj, hje⟩ := List.getElem_of_mem he
                exact h3 j (by have := HAL.out; simp at hj; omega) e (by rw [List.getElem?_eq_getElem hj, hje])
            · rw [hf] at h; cases h
          case measure =>
            rw [muW_eq hW'.rc, HMU.out]
            rcases HR.out with ⟨h1, h2, _⟩ | ⟨h, h2⟩
            · rw [h1, h2]; simp [boolN]
            · rw [h]; simp [boolN]; omega

end Go.Proofs.Yteehgcbjmdideaa

/- What is pushed: ends and arcs, from what it costs to come to an end. -/
namespace Go.Proofs.Yteehgcbjmdideaa

def pf (t x : Int) : Int := if x = -1 then x else x - t
def pushF (to fin : List Int) (k : Nat) : List Int := (List.range k).map fun i => pf (gI to i) (fin.getD i 0)
theorem pushF_succ (to fin : List Int) (k : Nat) : pushF to fin (k + 1) = pushF to fin k ++ [pf (gI to k) (fin.getD k 0)] := by simp [pushF, List.range_succ]
theorem pushF_len (to fin : List Int) (k : Nat) : (pushF to fin k).length = k := by simp [pushF]

/-- does a way lead on from both ends? -/
def stayA (to : List Int) (a : ArcD) : Bool := (gI to a.src.toNat != -1) && (gI to a.dst.toNat != -1)
def pushArc (to : List Int) (a : ArcD) : ArcD := ⟨a.src, a.inp, a.out, a.dst, a.wt + (gI to a.dst.toNat - gI to a.src.toNat)⟩
def pushA (to : List Int) (l : List ArcD) : List ArcD := (l.filter (stayA to)).map (pushArc to)
theorem pushA_len (to : List Int) (l : List ArcD) : (pushA to l).length ≤ l.length := by
  unfold pushA
  rw [List.length_map]
  exact List.length_filter_le _ _
theorem pushA_take (to : List Int) (l : List ArcD) (k : Nat) (a : ArcD) (hk : k < l.length) (ha : a = l.getD k a0) : pushA to (l.take (k + 1)) = pushA to (l.take k) ++ if stayA to a = true then [pushArc to a] else [] := by
  have h : l[k]? = some a := by rw [ha]; simp [List.getD, hk]
  rw [List.take_add_one, h]
  unfold pushA
  rw [List.filter_append, List.map_append]
  congr 1
  cases hs : stayA to a <;> simp [hs]

def greatA (l : List ArcD) : Bool := l.any fun a => decide (1000000000 < a.wt)

/-- what Push answers, if it costs so much to come to an end -/
def pushD (f : FstD) (to : List Int) : FstD × Int × Int :=
  if gI to f.start.toNat = -1 then (⟨f.states, f.start, f.final, []⟩, -1, 0)
  else if greatA (pushA to f.arcs) = true then (⟨0, 0, [], []⟩, 0, 2)
  else (⟨f.states, f.start, pushF to f.final f.final.length, pushA to f.arcs⟩, gI to f.start.toNat, 0)

end Go.Proofs.Yteehgcbjmdideaa

/- What it costs from the start to each state, and from each state to an end: the document's rounds. -/
namespace Go.Proofs.Yteehgcbjmdideaa

def edF (f : FstD) : List Edg := f.arcs.map (edgOf ArcD.src ArcD.dst)
def edT (f : FstD) : List Edg := f.arcs.map (edgOf ArcD.dst ArcD.src)
def fromD (f : FstD) : List Int := rounds (edF f) (begL f.start f.states.toNat) f.states.toNat
def toD (f : FstD) : List Int := rounds (edT f).reverse f.final f.states.toNat

theorem fix_rounds {E L : List Edg} {b c y : List Int} (hL : ∀ e, e ∈ L ↔ e ∈ E) (hE : ∀ e ∈ E, e.v < b.length ∧ 0 ≤ e.w) (hb : ∀ v, gI b v = -1 ∨ 0 ≤ gI b v) (hi : Inv E b c y) (hf : Fix E c) : c = rounds L b b.length :=
  least_same (by rw [hi.len, rounds_len]) (fix_least (fun e he => (hE e he).2) hi.ach hi.le hf) (rounds_are L hL hE hb)

/-- a transducer that is right, with its numbers -/
structure OkF (f : FstD) (N s0 : Nat) : Prop where
  st : f.states = N
  sta : f.start = s0
  n1 : 1 ≤ N
  n2 : N ≤ 200
  s : s0 < N
  len : f.final.length = N
  fin : ∀ x ∈ f.final, x = -1 ∨ (0 ≤ x ∧ x ≤ 1000000000)
  many : f.arcs.length ≤ 3000
  arcs : ∀ a ∈ f.arcs, (0 ≤ a.src ∧ a.src < N) ∧ (0 ≤ a.dst ∧ a.dst < N) ∧ (0 ≤ a.wt ∧ a.wt ≤ 1000000000)

theorem okF (f : FstD) (h : checkD f = 0) : ∃ N s0, OkF f N s0 := by
  have k := check_ok f h
  have k0 := k.states
  have k1 := k.start
  have k2 := k.len
  simp [inB] at k0 k1
  refine ⟨f.states.toNat, f.start.toNat, by omega, by omega, by omega, by omega, by omega, by omega, fun x hx => (finB_out (k.fin x hx)).1, k.many, fun a ha => ?_⟩
  have q := k.arcs a ha
  have e0 := q.src
  have e1 := q.dst
  have e4 := q.wt
  simp [inB] at e0 e1 e4
  refine ⟨⟨?_, ?_⟩, ⟨?_, ?_⟩, ?_, ?_⟩ <;> omega

theorem beg_set (N s0 : Nat) : (List.replicate N (-1 : Int)).set s0 0 = begL (s0 : Int) N := by
  apply List.ext_getElem
  · simp [begL]
  · intro i h1 h2
    simp only [List.getElem_set, List.getElem_replicate, begL, List.getElem_map, List.getElem_range]
    by_cases e : s0 = i
    · subst e; simp
    · have : ¬ (i : Int) = s0 := by omega
      simp [e, this]

theorem gI_of (xs : List Int) (p : Int → Prop) (h : ∀ x ∈ xs, p x) (h0 : p (-1)) (v : Nat) : p (gI xs v) := by
  unfold gI
  by_cases hv : v < xs.length
  · simp only [List.getD, List.getElem?_eq_getElem hv, Option.getD_some]
    exact h _ (List.getElem_mem hv)
  · simp only [List.getD, List.getElem?_eq_none (Nat.not_lt.1 hv), Option.getD_none]
    exact h0

theorem begL_mem (s : Int) (N : Nat) : ∀ x ∈ begL s N, x = -1 ∨ x = 0 := by
  intro x hx
  unfold begL at hx
  obtain ⟨i, _, rfl⟩ := List.mem_map.1 hx
  split
  · exact Or.inr rfl
  · exact Or.inl rfl

section
variable {f : FstD} {N s0 : Nat}
theorem OkF.bF (_h : OkF f N s0) : (∀ v, gI (begL (s0 : Int) N) v = -1 ∨ 0 ≤ gI (begL (s0 : Int) N) v) ∧ ∀ v, gI (begL (s0 : Int) N) v ≤ 1000000000 :=
  ⟨gI_of _ (fun x => x = -1 ∨ 0 ≤ x) (fun x hx => by rcases begL_mem _ _ x hx with h | h <;> omega) (Or.inl rfl), gI_of _ (fun x => x ≤ 1000000000) (fun x hx => by rcases begL_mem _ _ x hx with h | h <;> omega) (by decide)⟩
theorem OkF.bT (h : OkF f N s0) : (∀ v, gI f.final v = -1 ∨ 0 ≤ gI f.final v) ∧ ∀ v, gI f.final v ≤ 1000000000 :=
  ⟨gI_of _ (fun x => x = -1 ∨ 0 ≤ x) (fun x hx => by rcases h.fin x hx with h | h <;> omega) (Or.inl rfl), gI_of _ (fun x => x ≤ 1000000000) (fun x hx => by rcases h.fin x hx with h | h <;> omega) (by decide)⟩
theorem OkF.eF (h : OkF f N s0) : ∀ e ∈ edF f, e.v < N ∧ 0 ≤ e.w := by
  intro e he
  obtain ⟨a, ha, rfl⟩ := List.mem_map.1 he
  have := h.arcs a ha
  exact ⟨by show a.dst.toNat < N; omega, this.2.2.1⟩
theorem OkF.eT (h : OkF f N s0) : ∀ e ∈ edT f, e.v < N ∧ 0 ≤ e.w := by
  intro e he
  obtain ⟨a, ha, rfl⟩ := List.mem_map.1 he
  have := h.arcs a ha
  exact ⟨by show a.src.toNat < N; omega, this.2.2.1⟩
theorem OkF.fromD (h : OkF f N s0) {c y : List Int} (hi : Inv (edF f) (begL (s0 : Int) N) c y) (hf : Fix (edF f) c) : c = fromD f := by
  have hb : (begL (s0 : Int) N).length = N := begL_len _ _
  have := fix_rounds (L := edF f) (fun e => Iff.rfl) (by rw [hb]; exact h.eF) h.bF.1 hi hf
  rw [this, hb]
  unfold Proofs.Yteehgcbjmdideaa.fromD
  rw [h.st, h.sta, Int.toNat_natCast]
theorem OkF.toD (h : OkF f N s0) {c y : List Int} (hi : Inv (edT f) f.final c y) (hf : Fix (edT f) c) : c = toD f := by
  have := fix_rounds (L := (edT f).reverse) (fun e => List.mem_reverse) (by rw [h.len]; exact h.eT) h.bT.1 hi hf
  rw [this, h.len]
  unfold Proofs.Yteehgcbjmdideaa.toD
  rw [h.st, Int.toNat_natCast]

theorem round_bounds (L : List Edg) (b : List Int) (hL : ∀ e ∈ L, e.v < b.length ∧ 0 ≤ e.w) (hb : ∀ v, gI b v = -1 ∨ 0 ≤ gI b v) (r : Nat) (v : Nat) : gI (rounds L b r) v = -1 ∨ 0 ≤ gI (rounds L b r) v := by
  have ha0 : Ach L b b := fun v => (hb v).imp id fun h => ⟨0, rfl, h⟩
  have hach : ∀ r, Ach L b (rounds L b r) := by
    intro r
    induction r with
    | zero => exact ha0
    | succ r ih => exact (relAll_round L (rounds L b r) (fun e he => he) (by simpa [rounds_len] using hL) ih).1
  exact (hach r v).imp id fun ⟨k, hk⟩ => hk.nonneg (fun e he => (hL e he).2)
end

end Go.Proofs.Yteehgcbjmdideaa

/- 'SameInts', 'SameFst' of the document's answer; 'one', 'fstIs' of the statements. -/
namespace Go.Proofs.Yteehgcbjmdideaa
open Go.RowKit
attribute [local go_sem ↓] Go.wp_at_zero Go.wp_at_succ

theorem getD_ext {α : Type} (d : α) (xs ys : List α) (h : xs.length = ys.length) (he : ∀ j, j < xs.length → xs.getD j d = ys.getD j d) : xs = ys := by
  apply List.ext_getElem h
  intro i h1 h2
  have := he i h1
  simpa [List.getD, h1, h2] using this

set_option maxHeartbeats 1000000 in
theorem sameInts_any (u v : Value) (xs ys : List Int) (w : World) (hu : ISlice w u xs) (hv : ISlice w v ys) :
    Calls Try.prog 43 #[u, v] w fun e w' => e = .returned (.bool (decide (xs = ys))) ∧ Below w.heap.size w w' := by
  obtain ⟨ua, n, uc, rfl, hul, hum⟩ := hu.lenOf
  obtain ⟨va, m, vc, rfl, hvl, hvm⟩ := hv.lenOf
  have HU : Hid (xs.length = n) := hul
  have HV : Hid (ys.length = m) := hvl
  unfold maxLen at hum hvm
  clear hul hvl
  by_cases hnm : n = m
  · subst hnm
    go_enter Try.func43, Try.ntmps43
    go_wp2
    go_loopw [5] (fun i wr => ∃ k : Nat, k ≤ n ∧ i = .int .i64 k ∧ (∀ j, j < k → xs.getD j 0 = ys.getD j 0) ∧ Below w.heap.size w wr) (fun i _ => n - (intOf i).toNat)
    case atStart => exact ⟨0, Nat.zero_le _, rfl, fun j hj => absurd hj (Nat.not_lt_zero _), bel_self _⟩
    case round =>
      obtain ⟨k, hk, rfl, hall, hb⟩ := hrel
      have HA : Hid (∀ j, j < k → xs.getD j 0 = ys.getD j 0) := hall
      clear hall
      by_cases hlt : k < n
      · obtain ⟨b, off, rfl, hx⟩ := hu.some (by omega)
        obtain ⟨b', off', rfl, hy⟩ := hv.some (by omega)
        have c0 := (hx.below hb).cell k hlt
        have c1 := (hy.below hb).cell k hlt
        obtain ⟨x, hxk⟩ : ∃ x, x = xs.getD k 0 := ⟨_, rfl⟩
        obtain ⟨y, hyk⟩ : ∃ y, y = ys.getD k 0 := ⟨_, rfl⟩
        rw [← hxk] at c0
        rw [← hyk] at c1
        have HX : Hid (x = xs.getD k 0) := hxk
        have HY : Hid (y = ys.getD k 0) := hyk
        clear hxk hyk
        have hi : (k : Int) < n := by omega
        by_cases hxy : x = y
        · have hd : (x != y) = false := by simp [hxy]
          go_wp2
          go_quiet (fail)
          go_wp2
          go_roundw
          case rel =>
            refine ⟨k + 1, by omega, by go_num, fun j hj => ?_, bel_drewN hb _⟩
            by_cases e : j = k
            · subst e; rw [← HX.out, ← HY.out]; exact hxy
            · exact HA.out j (by omega)
          case measure => simp [intOf]; omega
        · have hd : (x == y) = false := by simpa using hxy
          have hne : decide (xs = ys) = false := by
            simp only [decide_eq_false_iff_not]
            intro h; apply hxy; rw [HX.out, HY.out, h]
          have HD : Hid (decide (xs = ys) = false) := hne
          clear hne
          go_wp2
          go_quiet (fail)
          go_wp2
          go_ret
          exact ⟨ret_bool HD.out.symm, bel_drewN hb _⟩
      · have HD : Hid (xs = ys) := getD_ext 0 xs ys (by rw [HU.out, HV.out]) (fun j hj => HA.out j (by have := HU.out; omega))
        go_wp2
        go_ret
        exact ⟨ret_bool (by simp [HD.out]), hb⟩
  · have hd : ((n : Int) == (m : Int)) = false := by rw [beq_eq_false_iff_ne]; omega
    have hd' : (n == m) = false := by simpa using hnm
    have HD : Hid (decide (xs = ys) = false) := by
      have h1 := HU.out
      have h2 := HV.out
      show decide (xs = ys) = false
      simp only [decide_eq_false_iff_not]
      intro h; subst h; omega
    go_enter Try.func43, Try.ntmps43
    go_wp2
    go_ret
    exact ⟨ret_bool HD.out.symm, bel_self _⟩

theorem arcs_neq (x y : ArcD) (w : World) : (binOp .neq 63 (.agg #[.int .i64 x.src, .int .i64 x.inp, .int .i64 x.out, .int .i64 x.dst, .int .i64 x.wt]) (.agg #[.int .i64 y.src, .int .i64 y.inp, .int .i64 y.out, .int .i64 y.dst, .int .i64 y.wt])).run Try.prog w = .ok (.bool (!@decide (x = y) (decA x y))) w := by
  rw [run_neq_struct]
  rw [run_equalIn_agg w 9999 63 _ _ (by kernel_rfl) (by kernel_rfl)]
  go_simp
  obtain ⟨x0, x1, x2, x3, x4⟩ := x
  obtain ⟨y0, y1, y2, y3, y4⟩ := y
  simp only [ArcD.mk.injEq]
  by_cases h0 : x0 = y0 <;> by_cases h1 : x1 = y1 <;> by_cases h2 : x2 = y2 <;> by_cases h3 : x3 = y3 <;> by_cases h4 : x4 = y4 <;> simp [h0, h1, h2, h3, h4]

def sameD (f g : FstD) : Bool := decide (f.states = g.states) && decide (f.start = g.start) && decide (f.final = g.final) && @decide (f.arcs = g.arcs) (decAs f.arcs g.arcs)

set_option maxHeartbeats 1000000 in
theorem sameFst_any (f g : FstD) (fin arcs fin' arcs' : Value) (w : World) (hf : ISlice w fin f.final) (ha : ASlice w arcs f.arcs) (hf' : ISlice w fin' g.final) (ha' : ASlice w arcs' g.arcs) :
    Calls Try.prog 22 #[.agg #[.int .i64 f.states, .int .i64 f.start, fin, arcs], .agg #[.int .i64 g.states, .int .i64 g.start, fin', arcs']] w fun e w' =>
      e = .returned (.bool (sameD f g)) ∧ Below w.heap.size w w' := by
  obtain ⟨aa, n, ac, rfl, hal, ham⟩ := ha.lenOf
  obtain ⟨ba, m, bc, rfl, hbl, hbm⟩ := ha'.lenOf
  have HAL : Hid (f.arcs.length = n) := hal
  have HBL : Hid (g.arcs.length = m) := hbl
  unfold maxLen at ham hbm
  clear hal hbl
  have hbF : CellsF ((w.alloc (.cells #[.int .i64 f.states, .int .i64 f.start, fin, .slice aa n ac] 25)).alloc (.cells #[.int .i64 g.states, .int .i64 g.start, fin', .slice ba m bc] 25)) w.heap.size f.states f.start fin (.slice aa n ac) := by simp [CellsF]
  have hbG : CellsF ((w.alloc (.cells #[.int .i64 f.states, .int .i64 f.start, fin, .slice aa n ac] 25)).alloc (.cells #[.int .i64 g.states, .int .i64 g.start, fin', .slice ba m bc] 25)) (w.heap.size + 1) g.states g.start fin' (.slice ba m bc) := by simp [CellsF]
  have hb0 := bel_up (bel_up (bel_self w) (.cells #[.int .i64 f.states, .int .i64 f.start, fin, .slice aa n ac] 25)) (.cells #[.int .i64 g.states, .int .i64 g.start, fin', .slice ba m bc] 25)
  have h1 := hf.below hb0
  have h2 := hf'.below hb0
  have h3 := ha.below hb0
  have h4 := ha'.below hb0
  cases d1 : (f.states != g.states)
  · cases d2 : (f.start != g.start)
    · cases d3 : decide (f.final = g.final)
      · go_enter Try.func22, Try.ntmps22
        go_wp2_with (go_at_call 43; refine (sameInts_any _ _ f.final g.final _ h1 h2).mono ?_; rintro e w' ⟨rfl, hbw⟩; have hF := hbF.below hbw; have hG := hbG.below hbw; have hB := bel_on hb0 hbw; have k3 := h3.below hbw; have k4 := h4.below hbw; clear hbw; have hF' := hF; obtain ⟨f0, f1, f2, f3⟩ := hF'; have hG' := hG; obtain ⟨g0, g1, g2, g3⟩ := hG')
        go_ret
        exact ⟨ret_bool (by simp [sameD, d3]), hB⟩
      · cases d4 : (n != m)
        · have hnm : n = m := by simpa using d4
          subst hnm
          go_enter Try.func22, Try.ntmps22
          go_wp2_with (go_at_call 43; refine (sameInts_any _ _ f.final g.final _ h1 h2).mono ?_; rintro e w' ⟨rfl, hbw⟩; have hF := hbF.below hbw; have hG := hbG.below hbw; have hB := bel_on hb0 hbw; have k3 := h3.below hbw; have k4 := h4.below hbw; clear hbw; have hF' := hF; obtain ⟨f0, f1, f2, f3⟩ := hF'; have hG' := hG; obtain ⟨g0, g1, g2, g3⟩ := hG')
          clear h1 h2 h3 h4 hbF hbG hb0 f0 f1 f2 f3 g0 g1 g2 g3
          go_loopw [5] (fun i wr => ∃ k : Nat, k ≤ n ∧ i = .int .i64 k ∧ (∀ j, j < k → f.arcs.getD j a0 = g.arcs.getD j a0) ∧ CellsF wr w.heap.size f.states f.start fin (.slice aa n ac) ∧ CellsF wr (w.heap.size + 1) g.states g.start fin' (.slice ba n bc) ∧ ASlice wr (.slice aa n ac) f.arcs ∧ ASlice wr (.slice ba n bc) g.arcs ∧ Below w.heap.size w wr) (fun i _ => n - (intOf i).toNat)
          case atStart => exact ⟨0, Nat.zero_le _, rfl, fun j hj => absurd hj (Nat.not_lt_zero _), hF, hG, k3, k4, hB⟩
          case round =>
            clear hF hG k3 k4 hB
            obtain ⟨k, hk, rfl, hall, hF, hG, k3, k4, hB⟩ := hrel
            have HA : Hid (∀ j, j < k → f.arcs.getD j a0 = g.arcs.getD j a0) := hall
            clear hall
            have hF' := hF
            have hG' := hG
            obtain ⟨f0, f1, f2, f3⟩ := hF'
            obtain ⟨g0, g1, g2, g3⟩ := hG'
            by_cases hlt : k < n
            · obtain ⟨b, off, rfl, hx⟩ := k3.some (by omega)
              obtain ⟨b', off', rfl, hy⟩ := k4.some (by omega)
              obtain ⟨x, hxk⟩ : ∃ x, x = f.arcs.getD k a0 := ⟨_, rfl⟩
              obtain ⟨y, hyk⟩ : ∃ y, y = g.arcs.getD k a0 := ⟨_, rfl⟩
              have c0 := hx.c0 k hlt
              have c1 := hx.c1 k hlt
              have c2 := hx.c2 k hlt
              have c3 := hx.c3 k hlt
              have c4 := hx.c4 k hlt
              rw [← hxk] at c0 c1 c2 c3 c4
              have e0 := hy.c0 k hlt
              have e1 := hy.c1 k hlt
              have e2 := hy.c2 k hlt
              have e3 := hy.c3 k hlt
              have e4 := hy.c4 k hlt
              rw [← hyk] at e0 e1 e2 e3 e4
              have HX : Hid (x = f.arcs.getD k a0) := hxk
              have HY : Hid (y = g.arcs.getD k a0) := hyk
              clear hxk hyk
              have hi : (k : Int) < n := by omega
              have hneq := arcs_neq x y
              have hgd : Try.prog.eqGuardType Try.prog.depth 63 = false := by kernel_rfl
              cases hxy : @decide (x = y) (decA x y)
              · have HD : Hid (@decide (f.arcs = g.arcs) (decAs f.arcs g.arcs) = false) := by
                  show @decide (f.arcs = g.arcs) (decAs f.arcs g.arcs) = false
                  simp only [decide_eq_false_iff_not] at hxy ⊢
                  intro h; apply hxy; rw [HX.out, HY.out, h]
                go_wp2
                go_quiet (fail)
                go_wp2
                go_ret
                exact ⟨ret_bool (by simp [sameD, HD.out]), bel_drewN hB _⟩
              · have HD : Hid (x = y) := (by have h := hxy; simpa using h : x = y)
                go_wp2
                go_quiet (fail)
                go_wp2
                go_roundw
                case rel =>
                  refine ⟨k + 1, by omega, by go_num, fun j hj => ?_, hF.below (bel_drewN (bel_self _) _), hG.below (bel_drewN (bel_self _) _), k3.below (bel_drewN (bel_self _) _), k4.below (bel_drewN (bel_self _) _), bel_drewN hB _⟩
                  by_cases e : j = k
                  · subst e; rw [← HX.out, ← HY.out]; exact HD.out
                  · exact HA.out j (by omega)
                case measure => simp [intOf]; omega
            · have HD : Hid (f.arcs = g.arcs) := getD_ext a0 _ _ (by rw [HAL.out, HBL.out]) (fun j hj => HA.out j (by have := HAL.out; omega))
              go_wp2
              go_ret
              exact ⟨ret_bool (by simp at d1 d2; simp [sameD, HD.out, d1, d2, d3]), hB⟩
        · have HD : Hid (@decide (f.arcs = g.arcs) (decAs f.arcs g.arcs) = false) := by
            have q1 := HAL.out
            have q2 := HBL.out
            show @decide (f.arcs = g.arcs) (decAs f.arcs g.arcs) = false
            simp only [decide_eq_false_iff_not]
            intro h
            rw [h] at q1
            simp at d4; omega
          have d4' : (n == m) = false := by simpa using d4
          go_enter Try.func22, Try.ntmps22
          go_wp2_with (go_at_call 43; refine (sameInts_any _ _ f.final g.final _ h1 h2).mono ?_; rintro e w' ⟨rfl, hbw⟩; have hF := hbF.below hbw; have hG := hbG.below hbw; have hB := bel_on hb0 hbw; have k3 := h3.below hbw; have k4 := h4.below hbw; clear hbw; have hF' := hF; obtain ⟨f0, f1, f2, f3⟩ := hF'; have hG' := hG; obtain ⟨g0, g1, g2, g3⟩ := hG')
          go_ret
          exact ⟨ret_bool (by simp [sameD, HD.out]), hB⟩
    · go_enter Try.func22, Try.ntmps22
      go_wp2
      go_ret
      exact ⟨ret_bool (by simp at d2; simp [sameD, d2]), hb0⟩
  · go_enter Try.func22, Try.ntmps22
    go_wp2
    go_ret
    exact ⟨ret_bool (by simp at d1; simp [sameD, d1]), hb0⟩

end Go.Proofs.Yteehgcbjmdideaa

/- 'All' of package sound; 'From', 'toEnd', 'To' of package short. -/
namespace Go.Proofs.Yteehgcbjmdideaa
open Go.RowKit
attribute [local go_sem ↓] Go.wp_at_zero Go.wp_at_succ

theorem goF : ∀ args w, (callFunc 84 args).run Try.prog w = .ok (.enter 84 args) w := by
  intro args w
  have h1 : (Try.f84.name == "runtime.NumGoroutine") = false := by kernel_rfl
  have h2 : Try.f84.body.isNone = false := by kernel_rfl
  have h3 : ¬ Try.f84.name = "runtime.NumGoroutine" := by simpa using h1
  have h4 : ¬ Try.f84.body = none := fun e => by rw [e] at h2; cases h2
  simp [callFunc, Try.func84, h3, h4]
theorem goT : ∀ args w, (callFunc 121 args).run Try.prog w = .ok (.enter 121 args) w := by
  intro args w
  have h1 : (Try.f121.name == "runtime.NumGoroutine") = false := by kernel_rfl
  have h2 : Try.f121.body.isNone = false := by kernel_rfl
  have h3 : ¬ Try.f121.name = "runtime.NumGoroutine" := by simpa using h1
  have h4 : ¬ Try.f121.body = none := fun e => by rw [e] at h2; cases h2
  simp [callFunc, Try.func121, h3, h4]

/-- what 'From' and 'To' answer -/
def ListRes (w : World) (l : List Int) (c : Int) (e : Ending) (w' : World) : Prop :=
  ∃ a n cap, e = .returned (.tuple #[.slice a n cap, .int .i64 c]) ∧ ISlice w' (.slice a n cap) l ∧ Below w.heap.size w w'


/-- the world behind the first two blocks -/

theorem all_at (f : FstD) (fin arcs : Value) (c : Int) (w : World) (hf : ISlice w fin f.final) (ha : ASlice w arcs f.arcs) (hc : checkD f = c) :
    Calls Try.prog 59 #[.slice (some ⟨w.heap.size + 1, 0, none⟩) 1 1] ((w.alloc (.cells #[.int .i64 f.states, .int .i64 f.start, fin, arcs] 25)).alloc (.cells #[.int .i64 f.states, .int .i64 f.start, fin, arcs] 25)) fun e w' =>
      e = .returned (.int .i64 c) ∧ Below w.heap.size w w' ∧ CellsF w' w.heap.size f.states f.start fin arcs ∧ ISlice w' fin f.final ∧ ASlice w' arcs f.arcs := by
  have hb := two_up w (.cells #[.int .i64 f.states, .int .i64 f.start, fin, arcs] 25) (.cells #[.int .i64 f.states, .int .i64 f.start, fin, arcs] 25)
  refine (all_one f fin arcs (w.heap.size + 1) c _ (cellsF_at _ _ _ _ _ _ _ (one_size _ _)) (hf.below hb) (ha.below hb) hc).mono ?_
  rintro e w' ⟨rfl, hb2⟩
  exact ⟨rfl, bel_on hb hb2, ((cellsF_new w _ _ _ _ _).below (bel_up (bel_self _) _)).below hb2, (hf.below hb).below hb2, (ha.below hb).below hb2⟩

theorem nil_ints (w : World) : ISlice w (.slice none 0 0) [] := Or.inl ⟨none, 0, rfl, rfl⟩

set_option maxHeartbeats 1000000 in
set_option maxRecDepth 100000 in
theorem from_bad (f : FstD) (fin arcs : Value) (c : Int) (w : World) (hf : ISlice w fin f.final) (ha : ASlice w arcs f.arcs) (hc : checkD f = c) (h0 : (c == 0) = false) :
    Calls Try.prog 36 #[.agg #[.int .i64 f.states, .int .i64 f.start, fin, arcs]] w fun e w' => ListRes w [] c e w' := by
  obtain ⟨fa, fn, fc, rfl, _, _⟩ := hf.lenOf
  obtain ⟨ba, bn, bc, rfl, _, _⟩ := ha.lenOf
  have hall := all_at f _ _ c w hf ha hc
  have h0n : (c != 0) = true := by simpa using h0
  clear hc
  go_enter Try.func36, Try.ntmps36
  go_wp2_with (go_at_call 59; refine hall.mono ?_; rintro e w1 ⟨rfl, hb1, _, _, _⟩)
  go_ret2
  exact ⟨_, _, _, rfl, nil_ints _, hb1⟩

set_option maxHeartbeats 1000000 in
set_option maxRecDepth 100000 in
theorem to_bad (f : FstD) (fin arcs : Value) (c : Int) (w : World) (hf : ISlice w fin f.final) (ha : ASlice w arcs f.arcs) (hc : checkD f = c) (h0 : (c == 0) = false) :
    Calls Try.prog 37 #[.agg #[.int .i64 f.states, .int .i64 f.start, fin, arcs]] w fun e w' => ListRes w [] c e w' := by
  obtain ⟨fa, fn, fc, rfl, _, _⟩ := hf.lenOf
  obtain ⟨ba, bn, bc, rfl, _, _⟩ := ha.lenOf
  have hall := all_at f _ _ c w hf ha hc
  have h0n : (c != 0) = true := by simpa using h0
  clear hc
  go_enter Try.func37, Try.ntmps37
  go_wp2_with (go_at_call 59; refine hall.mono ?_; rintro e w1 ⟨rfl, hb1, _, _, _⟩)
  go_ret2
  exact ⟨_, _, _, rfl, nil_ints _, hb1⟩

theorem NumsAt.ints {w : World} {g n : Nat} {c : List Int} (h : NumsAt w g n c) : IntsAt w g 0 n c :=
  ⟨h.len, fun i hi => by rw [Nat.zero_add, h.cell i hi, gI_getD (by rw [h.len]; exact hi)]⟩

theorem only_beg (n s : Nat) (w : World) (h1 : 1 ≤ n) (h2 : n ≤ 200) (hs : s < n) :
    Calls Try.prog 83 #[.int .i64 n, .int .i64 s] w fun e w' => ∃ G, e = .returned (.slice (some ⟨G, 0, none⟩) n n) ∧ IntsAt w' G 0 n (begL (s : Int) n) ∧ Below w.heap.size w w' := by
  refine (only_any n s w h1 h2 hs).mono ?_
  rintro e w' ⟨G, rfl, hG, _, hb⟩
  rw [beg_set] at hG
  have h := (NumsAt.of_block hG).ints
  rw [begL_len] at h
  exact ⟨G, rfl, h, hb⟩

theorem ok_src {f : FstD} {N s0 : Nat} (h : OkF f N s0) : ∀ a ∈ f.arcs, (0 ≤ a.src ∧ a.src < N) ∧ (0 ≤ a.dst ∧ a.dst < N) ∧ (0 ≤ a.wt ∧ a.wt ≤ 1000000000) := h.arcs
theorem ok_dst {f : FstD} {N s0 : Nat} (h : OkF f N s0) : ∀ a ∈ f.arcs, (0 ≤ a.dst ∧ a.dst < N) ∧ (0 ≤ a.src ∧ a.src < N) ∧ (0 ≤ a.wt ∧ a.wt ≤ 1000000000) := fun a ha => ⟨(h.arcs a ha).2.1, (h.arcs a ha).1, (h.arcs a ha).2.2⟩

set_option maxHeartbeats 1000000 in
set_option maxRecDepth 100000 in
theorem from_ok (f : FstD) (N s0 : Nat) (fin : Value) (aa : Option Addr) (m ac : Nat) (w : World) (hok : OkF f N s0) (hf : ISlice w fin f.final) (ha : ASlice w (.slice aa m ac) f.arcs) (hal : f.arcs.length = m) (hc : checkD f = 0) :
    Calls Try.prog 36 #[.agg #[.int .i64 f.states, .int .i64 f.start, fin, .slice aa m ac]] w fun e w' => ListRes w (fromD f) 0 e w' := by
  obtain ⟨fa, fn, fc, rfl, _, _⟩ := hf.lenOf
  have hall := all_at f _ _ 0 w hf ha hc
  have HOK : Hid (OkF f N s0) := hok
  have HC : Hid (checkD f = 0) := hc
  have hn1 := hok.n1
  have hn2 := hok.n2
  have hs := hok.s
  have hm := hok.many
  rw [hok.st, hok.sta] at *
  clear hc hok
  go_enter Try.func36, Try.ntmps36
  go_wp2_with (go_at_call 59; refine hall.mono ?_; rintro e w1 ⟨rfl, hb1, hC1, hf1, ha1⟩; obtain ⟨q0, q1, q2, q3⟩ := hC1)
  go_region_held3 (fun wx => wx.cell? ⟨w.heap.size, 0, none⟩ = some (.int .i64 N) ∧ wx.cell? ⟨w.heap.size, 1, none⟩ = some (.int .i64 s0) ∧ wx.cell? ⟨w.heap.size, 3, none⟩ = some (.slice aa m ac))
    (first | exact ⟨drew_cell q0, drew_cell q1, drew_cell q3⟩ | exact ⟨bel_c hb2 (drew_cell q0), bel_c hb2 (drew_cell q1), bel_c hb2 (drew_cell q3)⟩ | exact ⟨bel_c hb3 (bel_c hb2 (drew_cell q0)), bel_c hb3 (bel_c hb2 (drew_cell q1)), bel_c hb3 (bel_c hb2 (drew_cell q3))⟩)
    (first | (go_at_call 83; refine (only_beg N s0 _ hn1 hn2 hs).mono ?_; rintro e w2 ⟨G, rfl, hG, hb2⟩) | (go_at_call 82; refine (costs_some ArcD.src ArcD.dst 84 goF ahead_ends (begL (s0 : Int) N) G 0 N N aa m ac f.arcs w2 hG ((ha1.below (bel_self w1).drew).below hb2) hal (by omega) hn1 hn2 HOK.out.bF.1 HOK.out.bF.2 (ok_src HOK.out)).mono ?_; rintro e w3 ⟨gc, gy, c, y, cc, cy, rfl, hcw, hfix⟩; have hb3 := hcw.bel))
  go_wp2
  go_ret2
  have hcd : c = fromD f := HOK.out.fromD hcw.inv hfix
  rw [← hcd]
  exact ⟨_, _, _, rfl, hcw.rc.slice cc (by unfold maxLen; omega), bel_on (bel_on (bel_self _) hb1) (bel_on (bel_on (bel_self w1).drew hb2) hb3)⟩

theorem final_at {f : FstD} {N s0 : Nat} {w : World} {a : Option Addr} {n c : Nat} (h : OkF f N s0) (hf : ISlice w (.slice a n c) f.final) : ∃ b off, a = some ⟨b, off, none⟩ ∧ n = N ∧ IntsAt w b off N f.final := by
  obtain ⟨a', n', c', e, h1, _⟩ := hf.lenOf
  have hn : n = N := by
    injection e with e1 e2 e3
    have := h.len
    omega
  subst hn
  obtain ⟨b, off, rfl, hx⟩ := hf.some (by have := h.n1; omega)
  exact ⟨b, off, rfl, rfl, hx⟩

set_option maxHeartbeats 1000000 in
set_option maxRecDepth 100000 in
theorem toEnd_ok (f : FstD) (N s0 : Nat) (fin : Value) (aa : Option Addr) (m ac : Nat) (w : World) (hok : OkF f N s0) (hf : ISlice w fin f.final) (ha : ASlice w (.slice aa m ac) f.arcs) (hal : f.arcs.length = m) :
    Calls Try.prog 85 #[.agg #[.int .i64 (N : Int), .int .i64 (s0 : Int), fin, .slice aa m ac]] w fun e w' => CostsRes w N (edT f) f.final e w' := by
  obtain ⟨fa, fn, fc, rfl, _, _⟩ := hf.lenOf
  obtain ⟨fb, fo, rfl, rfl, hx⟩ := final_at hok hf
  have HOK : Hid (OkF f fn s0) := hok
  have hn1 := hok.n1
  have hn2 := hok.n2
  have hm := hok.many
  clear hok
  have hb0 := bel_up (bel_self w) (.cells #[.int .i64 (fn : Int), .int .i64 (s0 : Int), .slice (some ⟨fb, fo, none⟩) fn fc, .slice aa m ac] 25)
  go_enter Try.func85, Try.ntmps85
  go_wp2_with (go_at_call 82; refine (costs_some ArcD.dst ArcD.src 121 goT back_ends f.final fb fo fc fn aa m ac f.arcs _ (hx.below hb0) (ha.below hb0) hal (by omega) hn1 hn2 HOK.out.bT.1 HOK.out.bT.2 (ok_dst HOK.out)).mono ?_; rintro e w3 ⟨gc, gy, c, y, cc, cy, rfl, hcw, hfix⟩)
  go_ret2
  exact ⟨gc, gy, c, y, cc, cy, rfl, ⟨hcw.rc, hcw.ry, hcw.ne, by have := hcw.lc; simp at this; omega, by have := hcw.ly; simp at this; omega, bel_on hb0 hcw.bel, hcw.inv⟩, hfix⟩

set_option maxHeartbeats 1000000 in
set_option maxRecDepth 100000 in
theorem to_ok (f : FstD) (N s0 : Nat) (fin : Value) (aa : Option Addr) (m ac : Nat) (w : World) (hok : OkF f N s0) (hf : ISlice w fin f.final) (ha : ASlice w (.slice aa m ac) f.arcs) (hal : f.arcs.length = m) (hc : checkD f = 0) :
    Calls Try.prog 37 #[.agg #[.int .i64 f.states, .int .i64 f.start, fin, .slice aa m ac]] w fun e w' => ListRes w (toD f) 0 e w' := by
  obtain ⟨fa, fn, fc, rfl, _, _⟩ := hf.lenOf
  have hall := all_at f _ _ 0 w hf ha hc
  have HOK : Hid (OkF f N s0) := hok
  have HC : Hid (checkD f = 0) := hc
  have hn1 := hok.n1
  have hn2 := hok.n2
  rw [hok.st, hok.sta] at *
  clear hc hok
  go_enter Try.func37, Try.ntmps37
  go_wp2_with (first | (go_at_call 59; refine hall.mono ?_; rintro e w1 ⟨rfl, hb1, hC1, hf1, ha1⟩; obtain ⟨q0, q1, q2, q3⟩ := hC1) | (go_at_call 85; refine (toEnd_ok f N s0 _ aa m ac w1 HOK.out hf1 ha1 hal).mono ?_; rintro e w3 ⟨gc, gy, c, y, cc, cy, rfl, hcw, hfix⟩))
  go_ret2
  have hcd : c = toD f := HOK.out.toD hcw.inv hfix
  rw [← hcd]
  exact ⟨_, _, _, rfl, hcw.rc.slice cc (by unfold maxLen; omega), bel_on hb1 hcw.bel⟩

end Go.Proofs.Yteehgcbjmdideaa
