/- 'Costs' of package spread: the least prices along edges, and by which arc each came. -/
import Derived.Test.YteehgcbjmdideaaQMB
import Derived.Test.YteehgcbjmdideaaQMA
import Derived.Deep.RegionHeld3
import Derived.Deep.Cut
namespace Go.Proofs.Yteehgcbjmdideaa
open Go.RowKit
attribute [local go_sem ↓] Go.wp_at_zero Go.wp_at_succ

/-- the edge of an arc, if its ends are so -/
def edgOf (pu pv : ArcD → Int) (a : ArcD) : Edg := ⟨(pu a).toNat, (pv a).toNat, a.wt⟩

/-- what prices there are, in memory -/
def muW (w : World) (g n : Nat) : Nat := ((List.range n).map fun i => muI (intOf ((w.cell? ⟨g, i, none⟩).getD (.int .i64 0)))).sum
theorem muW_eq {w : World} {g n : Nat} {c : List Int} (h : NumsAt w g n c) : muW w g n = muL c := by
  unfold muW muL
  congr 1
  apply List.ext_getElem
  · simp [h.len]
  · intro i h1 h2
    have hi : i < n := by simpa using h1
    have hl := h.len
    simp [h.cell i hi, intOf, gI, List.getD, show i < c.length by omega]

/-- the world of the search -/
structure CW (w wr : World) (gc gy n : Nat) (E : List Edg) (b c y : List Int) : Prop where
  rc : NumsAt wr gc n c
  ry : NumsAt wr gy n y
  ne : gc ≠ gy
  lc : w.heap.size ≤ gc
  ly : w.heap.size ≤ gy
  bel : Below w.heap.size w wr
  inv : Inv E b c y

theorem CW.below {w wr wx : World} {gc gy n : Nat} {E : List Edg} {b c y : List Int} (h : CW w wr gc gy n E b c y) (hb : Below wr.heap.size wr wx) : CW w wx gc gy n E b c y :=
  ⟨h.rc.below hb, h.ry.below hb, h.ne, h.lc, h.ly, bel_on h.bel hb, h.inv⟩

theorem NumsAt.of_row {w : World} {B e g n cap : Nat} {xs : List Int} (h : w.ownsRow B e 1 (.slice (some ⟨g, 0, none⟩) n cap) n (xs.map (Value.int .i64))) : NumsAt w g n xs ∧ B ≤ g := by
  obtain ⟨hl, h⟩ := h
  rcases h with ⟨h, _⟩ | ⟨g', cap', cur, h0, hB, hh, h1, h2, h3, h4⟩
  · cases h
  · injection h0 with h5 h6 h7
    injection h5 with h5
    injection h5 with h5
    subst h5
    have hxl : xs.length = n := by simpa using hl
    refine ⟨⟨hxl, fun i hi => ?_, fun i => Go.Joins.unfrozen_of_block hh i, heap_lt hh⟩, hB⟩
    have : (cur.toList.take (n * 1))[i]? = some (.int .i64 (gI xs i)) := by
      rw [h4]; simp [gI, List.getD, show i < xs.length by omega]
    rw [List.getElem?_take] at this
    simp only [Nat.mul_one, hi, if_true, Array.getElem?_toList] at this
    simp [World.cell?, hh, this]

theorem rep_row {w w1 : World} {n t : Nat} {o : Obj} (h : w1.heap[(w.alloc o).heap.size]? = some (.cells (rowR (-1) n n).toArray t (0, 0))) : NumsAt w1 (w.heap.size + 1) n (List.replicate n (-1)) := by
  have h1 := NumsAt.of_block (only_row h)
  simpa using h1

/-- what 'Costs' answers -/
def CostsRes (w : World) (n : Nat) (E : List Edg) (b : List Int) (e : Ending) (w' : World) : Prop :=
  ∃ gc gy c y cc cy, e = .returned (.tuple #[.slice (some ⟨gc, 0, none⟩) n cc, .slice (some ⟨gy, 0, none⟩) n cy]) ∧ CW w w' gc gy n E b c y ∧ Fix E c

def boolN : Value → Nat
  | .bool true => 1
  | _ => 0

set_option maxHeartbeats 1000000 in
set_option maxRecDepth 100000 in
theorem costs_some (pu pv : ArcD → Int) (F : Nat) (hG : ∀ args w, (callFunc F args).run Try.prog w = .ok (.enter F args) w) (hF : ∀ (a : ArcD) (w : World), Calls Try.prog F #[.agg #[.int .i64 a.src, .int .i64 a.inp, .int .i64 a.out, .int .i64 a.dst, .int .i64 a.wt]] w fun e w' => e = .returned (.tuple #[.int .i64 (pu a), .int .i64 (pv a)]) ∧ Below w.heap.size w w')
    (b : List Int) (gb ob cb n : Nat) (aa : Option Addr) (m ac : Nat) (ars : List ArcD) (w : World) (hb : IntsAt w gb ob n b) (ha : ASlice w (.slice aa m ac) ars) (hal : ars.length = m) (hm : m ≤ 3000) (hn1 : 1 ≤ n) (hn : n ≤ 200)
    (hb0 : ∀ v, gI b v = -1 ∨ 0 ≤ gI b v) (hb1 : ∀ v, gI b v ≤ 1000000000)
    (hok : ∀ a ∈ ars, (0 ≤ pu a ∧ pu a < n) ∧ (0 ≤ pv a ∧ pv a < n) ∧ (0 ≤ a.wt ∧ a.wt ≤ 1000000000)) :
    Calls Try.prog 82 #[.slice (some ⟨gb, ob, none⟩) n cb, .slice aa m ac, .func (.func F) #[] #[]] w fun e w' =>
      CostsRes w n (ars.map (edgOf pu pv)) b e w' := by
  have HOK : Hid (∀ a ∈ ars, (0 ≤ pu a ∧ pu a < n) ∧ (0 ≤ pv a ∧ pv a < n) ∧ (0 ≤ a.wt ∧ a.wt ≤ 1000000000)) := hok
  have HAL : Hid (ars.length = m) := hal
  have hbl := hb.len
  have hcl := Try.slices_Clone_int gb ob n cb b w (by omega) (by omega) (fun j hj => hb.cell j (by omega))
  clear hok hal
  go_enter Try.func82, Try.ntmps82
  go_wp2_with (first | (go_at_call 86; refine hcl.mono ?_; rintro e w1 ⟨v1, rfl, hrow, _, hb1'⟩; obtain ⟨gc, cc, rfl⟩ := Go.Joins.ownsRow_form hrow (by omega)) | (go_at_call 118; refine (repeat_any (-1) w1.heap.size 0 1 n _ (new_cell _ _ _ _ _ _ rfl rfl) hn1 hn).mono ?_; rintro e w2 ⟨rfl, hG0, hb2⟩))
  have hW : CW w w2 gc (w1.heap.size + 1) n (ars.map (edgOf pu pv)) b b (List.replicate n (-1)) := by
    obtain ⟨r1, r2⟩ := NumsAt.of_row hrow
    rw [List.take_of_length_le (by omega)] at r1
    have r1l := r1.lt
    have h12 := bel_on (bel_up (bel_self w1) (.cells #[.int .i64 (-1)] 3)) hb2
    exact ⟨r1.below h12, rep_row hG0, by omega, r2, by have := hb1'.size; omega, bel_on hb1' h12, by have := Inv.start (E := ars.map (edgOf pu pv)) hb0 hb1; rw [hbl] at this; exact this⟩
  have HB0 : Hid (∀ v, gI b v = -1 ∨ 0 ≤ gI b v) := hb0
  have HB1 : Hid (∀ v, gI b v ≤ 1000000000) := hb1
  obtain ⟨gy, hgy⟩ : ∃ gy, gy = w1.heap.size + 1 := ⟨_, rfl⟩
  rw [← hgy] at hW
  have h12 : w1.heap.size + 1 ≤ w2.heap.size := by have := hb2.size; simp at this; omega
  clear hcl hG0 hrow hb0 hb1
  rw [← hgy]
  clear hgy h12 hb1' hb2
  go_loopw [8] (fun t8 wr => ∃ f : Bool, t8 = .bool f ∧ ∃ c y, CW w wr gc gy n (ars.map (edgOf pu pv)) b c y ∧ (f = false → Fix (ars.map (edgOf pu pv)) c)) (fun t8 wr => 2 * muW wr gc n + boolN t8)
  case atStart => exact ⟨true, rfl, b, _, hW, fun h => by cases h⟩
  case round =>
    clear hW
    obtain ⟨f, rfl, c, y, hW, hfix⟩ := hrel
    cases f with
    | false =>
      have HF : Hid (Fix (ars.map (edgOf pu pv)) c) := hfix rfl
      go_wp2
      go_ret2
      exact ⟨gc, gy, c, y, cc, n, rfl, hW, HF.out⟩
    | true =>
      clear hfix
      have HMU : Hid (muW wr gc n = muL c) := muW_eq hW.rc
      go_wp2
      go_loopw [8, 23] (fun t8 t23 wr => ∃ (f : Bool) (k : Nat), t8 = .bool f ∧ k ≤ m ∧ t23 = .int .i64 k ∧ ∃ c' y', CW w wr gc gy n (ars.map (edgOf pu pv)) b c' y' ∧ ((f = false ∧ c' = c ∧ ∀ j, j < k → ∀ e, (ars.map (edgOf pu pv))[j]? = some e → betterB (plusC (gI c e.u) e.w) (gI c e.v) = false) ∨ (f = true ∧ muL c' < muL c))) (fun _ t23 _ => m - (intOf t23).toNat)
      case atStart => exact ⟨false, 0, rfl, Nat.zero_le _, rfl, c, y, hW, Or.inl ⟨rfl, rfl, fun j hj => absurd hj (Nat.not_lt_zero _)⟩⟩
      case round =>
        obtain ⟨f, k, rfl, hk, rfl, c', y', hW', hrel⟩ := hrel
        have HR : Hid ((f = false ∧ c' = c ∧ ∀ j, j < k → ∀ e, (ars.map (edgOf pu pv))[j]? = some e → betterB (plusC (gI c e.u) e.w) (gI c e.v) = false) ∨ (f = true ∧ muL c' < muL c)) := hrel
        clear hrel hW
        by_cases hlt : k < m
        · obtain ⟨ab, aoff, rfl, hx⟩ := (ha.below hW'.bel).some (by omega)
          obtain ⟨a, hak⟩ : ∃ a, a = ars.getD k a0 := ⟨_, rfl⟩
          have hkl : k < ars.length := by have := HAL.out; omega
          have hmem : a ∈ ars := by rw [hak]; simp [List.getD, hkl]
          obtain ⟨⟨q1, q2⟩, ⟨q3, q4⟩, q5, q6⟩ := HOK.out a hmem
          obtain ⟨s, hs⟩ : ∃ s : Nat, pu a = s := ⟨(pu a).toNat, by omega⟩
          obtain ⟨t, ht⟩ : ∃ t : Nat, pv a = t := ⟨(pv a).toNat, by omega⟩
          have hsN : s < n := by omega
          have htN : t < n := by omega
          have c0 := hx.c0 k hlt
          have c1 := hx.c1 k hlt
          have c2 := hx.c2 k hlt
          have c3 := hx.c3 k hlt
          have c4 := hx.c4 k hlt
          rw [← hak] at c0 c1 c2 c3 c4
          have HAK : Hid ((ars.map (edgOf pu pv))[k]? = some ⟨s, t, a.wt⟩) := by
            show (ars.map (edgOf pu pv))[k]? = some ⟨s, t, a.wt⟩
            have e1 : ars[k]? = some a := by rw [hak]; simp [List.getD, hkl]
            rw [List.getElem?_map, e1]
            simp [edgOf, hs, ht]
          clear hak hmem hkl hx
          have hlti : (k : Int) < m := by omega
          have hcall := hF a
          rw [hs, ht] at hcall
          clear hs ht q1 q2 q3 q4
          have hlo := hW'.inv.lo s
          have hhi := hW'.inv.top (by omega) s
          obtain ⟨p, hp⟩ : ∃ p, p = plusC (gI c' s) a.wt := ⟨_, rfl⟩
          have hsum := sum_any (gI c' s) a.wt
          rw [← hp] at hsum
          have hsi : (s : Int) < n := by omega
          have hti : (t : Int) < n := by omega
          have HP : Hid (p = plusC (gI c' s) a.wt) := hp
          clear hp
          cases hbt : betterB p (gI c' t) with
          | false =>
            have hless := lessP_any p (gI c' t)
            rw [hbt] at hless
            have HBT : Hid (betterB p (gI c' t) = false) := hbt
            clear hbt
            go_wp2_with (first | (refine (hcall _).mono ?_; rintro e w3 ⟨rfl, hb3⟩; have hW3 := hW'.below (bel_on (bel_up (bel_self wr) _) hb3); have x0 := hW3.rc.cell s hsN; have x1 := hW3.rc.cell t htN; have x2 := hW3.ry.cell t htN; have f1 := hW3.rc.frz t; have f2 := hW3.ry.frz t; have x4 := bel_c hb3 (new_cell wr #[.int .i64 a.src, .int .i64 a.inp, .int .i64 a.out, .int .i64 a.dst, .int .i64 a.wt] 63 wr.heap.size 4 (.int .i64 a.wt) rfl rfl); clear c0 c1 c2 c3 c4 hb3))
            go_quiet (first | (go_at_call 119; refine Calls.quiet_of_same (hsum _ hlo (by omega) (by omega) (by omega))))
            go_wp2_with (first | (go_at_call 120; refine (hless _).mono ?_; rintro e w4 ⟨rfl, rfl⟩))
            have hW4 := hW3.below (bel_drewN (bel_self w3) nq)
            go_roundw
            case rel =>
              refine ⟨f, k + 1, rfl, by omega, by go_num, c', y', hW4, ?_⟩
              rcases HR.out with ⟨h1, h2, h3⟩ | h
              · refine Or.inl ⟨h1, h2, fun j hj e he => ?_⟩
                by_cases hjk : j = k
                · subst hjk
                  rw [HAK.out] at he
                  injection he with he
                  subst he
                  have := HBT.out
                  rw [HP.out, h2] at this
                  exact this
                · exact h3 j (by omega) e he
              · exact Or.inr h
            case measure => simp [intOf]; omega
          | true =>
            have hless := lessP_any p (gI c' t)
            rw [hbt] at hless
            have HBT : Hid (betterB p (gI c' t) = true) := hbt
            clear hbt
            go_wp2_with (first | (refine (hcall _).mono ?_; rintro e w3 ⟨rfl, hb3⟩; have hW3 := hW'.below (bel_on (bel_up (bel_self wr) _) hb3); have x0 := hW3.rc.cell s hsN; have x1 := hW3.rc.cell t htN; have x2 := hW3.ry.cell t htN; have f1 := hW3.rc.frz t; have f2 := hW3.ry.frz t; have x4 := bel_c hb3 (new_cell wr #[.int .i64 a.src, .int .i64 a.inp, .int .i64 a.out, .int .i64 a.dst, .int .i64 a.wt] 63 wr.heap.size 4 (.int .i64 a.wt) rfl rfl); clear c0 c1 c2 c3 c4 hb3))
            go_quiet (first | (go_at_call 119; refine Calls.quiet_of_same (hsum _ hlo (by omega) (by omega) (by omega))))
            have hW4 := hW3.below (bel_drewN (bel_self w3) nq)
            have hne := hW4.ne
            have z1 := hW4.rc.cell t htN
            have z2 := (hW4.ry.other (k := gc) (i := t) (v := .int .i64 p) (Ne.symm hne)).cell t htN
            have z3 := (hW4.ry.other (k := gc) (i := t) (v := .int .i64 p) (Ne.symm hne)).frz t
            have z4 := hW4.rc.frz t
            go_wp2_with (first | (go_at_call 120; refine (hless _).mono ?_; rintro e w4 ⟨rfl, rfl⟩))
            go_roundw
            case rel =>
              have hst := hW4.inv.step (j := k) (by omega) HAK.out (by rw [hbl]; exact htN) q5 q6 (by show betterB (plusC (gI c' s) a.wt) (gI c' t) = true; rw [← HP.out]; exact HBT.out)
              change Inv _ _ (c'.set t (plusC (gI c' s) a.wt)) (y'.set t (k : Int)) ∧ muL (c'.set t (plusC (gI c' s) a.wt)) < muL c' at hst
              rw [← HP.out] at hst
              refine ⟨true, k + 1, rfl, by omega, by go_num, c'.set t p, y'.set t (k : Int), ⟨(hW4.rc.set t p htN).other hne, (hW4.ry.other (Ne.symm hne)).set t k htN, hne, hW4.lc, hW4.ly, (hW4.bel.setCell (p := ⟨gc, t, none⟩) hW4.lc _).setCell (p := ⟨gy, t, none⟩) hW4.ly _, hst.1⟩, Or.inr ⟨rfl, ?_⟩⟩
              have hlt2 := hst.2
              rcases HR.out with ⟨_, h2, _⟩ | ⟨_, h⟩
              · rw [← h2]; exact hlt2
              · omega
            case measure => simp [intOf]; omega
        · have hkm : k = m := by omega
          subst hkm
          go_wp2
          go_roundw
          case rel =>
            refine ⟨f, rfl, c', y', hW', fun hf => ?_⟩
            rcases HR.out with ⟨_, h2, h3⟩ | ⟨h, _⟩
            · subst h2
              refine fix_of _ _ (fun e he => ?_) hW'.inv.lo (fun e he => ?_)
              · obtain ⟨a, ha1, rfl⟩ := List.mem_map.1 he
                exact (HOK.out a ha1).2.2.1
              · obtain ⟨j, hj, hje⟩ := List.getElem_of_mem he
                exact h3 j (by have := HAL.out; simp at hj; omega) e (by rw [List.getElem?_eq_getElem hj, hje])
            · rw [hf] at h; cases h
          case measure =>
            rw [muW_eq hW'.rc, HMU.out]
            rcases HR.out with ⟨h1, h2, _⟩ | ⟨h, h2⟩
            · rw [h1, h2]; simp [boolN]
            · rw [h]; simp [boolN]; omega

end Go.Proofs.Yteehgcbjmdideaa

/- What it costs from the start to each state, and from each state to an end: the document's rounds. -/
namespace Go.Proofs.Yteehgcbjmdideaa

def edF (f : FstD) : List Edg := f.arcs.map (edgOf ArcD.src ArcD.dst)
def edT (f : FstD) : List Edg := f.arcs.map (edgOf ArcD.dst ArcD.src)
def fromD (f : FstD) : List Int := rounds (edF f) (begL f.start f.states.toNat) f.states.toNat
def toD (f : FstD) : List Int := rounds (edT f).reverse f.final f.states.toNat

theorem fix_rounds {E L : List Edg} {b c y : List Int} (hL : ∀ e, e ∈ L ↔ e ∈ E) (hE : ∀ e ∈ E, e.v < b.length ∧ 0 ≤ e.w) (hb : ∀ v, gI b v = -1 ∨ 0 ≤ gI b v) (hi : Inv E b c y) (hf : Fix E c) : c = rounds L b b.length :=
  least_same (by rw [hi.len, rounds_len]) (fix_least (fun e he => (hE e he).2) hi.ach hi.le hf) (rounds_are L hL hE hb)

/-- a transducer that is right, with its numbers -/
structure OkF (f : FstD) (N s0 : Nat) : Prop where
  st : f.states = N
  sta : f.start = s0
  n1 : 1 ≤ N
  n2 : N ≤ 200
  s : s0 < N
  len : f.final.length = N
  fin : ∀ x ∈ f.final, x = -1 ∨ (0 ≤ x ∧ x ≤ 1000000000)
  many : f.arcs.length ≤ 3000
  arcs : ∀ a ∈ f.arcs, (0 ≤ a.src ∧ a.src < N) ∧ (0 ≤ a.dst ∧ a.dst < N) ∧ (0 ≤ a.wt ∧ a.wt ≤ 1000000000)

theorem okF (f : FstD) (h : checkD f = 0) : ∃ N s0, OkF f N s0 := by
  have k := check_ok f h
  have k0 := k.states
  have k1 := k.start
  have k2 := k.len
  simp [inB] at k0 k1
  refine ⟨f.states.toNat, f.start.toNat, by omega, by omega, by omega, by omega, by omega, by omega, fun x hx => (finB_out (k.fin x hx)).1, k.many, fun a ha => ?_⟩
  have q := k.arcs a ha
  have e0 := q.src
  have e1 := q.dst
  have e4 := q.wt
  simp [inB] at e0 e1 e4
  refine ⟨⟨?_, ?_⟩, ⟨?_, ?_⟩, ?_, ?_⟩ <;> omega

theorem beg_set (N s0 : Nat) : (List.replicate N (-1 : Int)).set s0 0 = begL (s0 : Int) N := by
  apply List.ext_getElem
  · simp [begL]
  · intro i h1 h2
    simp only [List.getElem_set, List.getElem_replicate, begL, List.getElem_map, List.getElem_range]
    by_cases e : s0 = i
    · subst e; simp
    · have : ¬ (i : Int) = s0 := by omega
      simp [e, this]

theorem gI_of (xs : List Int) (p : Int → Prop) (h : ∀ x ∈ xs, p x) (h0 : p (-1)) (v : Nat) : p (gI xs v) := by
  unfold gI
  by_cases hv : v < xs.length
  · simp only [List.getD, List.getElem?_eq_getElem hv, Option.getD_some]
    exact h _ (List.getElem_mem hv)
  · simp only [List.getD, List.getElem?_eq_none (Nat.not_lt.1 hv), Option.getD_none]
    exact h0

theorem begL_mem (s : Int) (N : Nat) : ∀ x ∈ begL s N, x = -1 ∨ x = 0 := by
  intro x hx
  unfold begL at hx
  obtain ⟨i, _, rfl⟩ := List.mem_map.1 hx
  split
  · exact Or.inr rfl
  · exact Or.inl rfl

section
variable {f : FstD} {N s0 : Nat}
theorem OkF.bF (_h : OkF f N s0) : (∀ v, gI (begL (s0 : Int) N) v = -1 ∨ 0 ≤ gI (begL (s0 : Int) N) v) ∧ ∀ v, gI (begL (s0 : Int) N) v ≤ 1000000000 :=
  ⟨gI_of _ (fun x => x = -1 ∨ 0 ≤ x) (fun x hx => by rcases begL_mem _ _ x hx with h | h <;> omega) (Or.inl rfl), gI_of _ (fun x => x ≤ 1000000000) (fun x hx => by rcases begL_mem _ _ x hx with h | h <;> omega) (by decide)⟩
theorem OkF.bT (h : OkF f N s0) : (∀ v, gI f.final v = -1 ∨ 0 ≤ gI f.final v) ∧ ∀ v, gI f.final v ≤ 1000000000 :=
  ⟨gI_of _ (fun x => x = -1 ∨ 0 ≤ x) (fun x hx => by rcases h.fin x hx with h | h <;> omega) (Or.inl rfl), gI_of _ (fun x => x ≤ 1000000000) (fun x hx => by rcases h.fin x hx with h | h <;> omega) (by decide)⟩
theorem OkF.eF (h : OkF f N s0) : ∀ e ∈ edF f, e.v < N ∧ 0 ≤ e.w := by
  intro e he
  obtain ⟨a, ha, rfl⟩ := List.mem_map.1 he
  have := h.arcs a ha
  exact ⟨by show a.dst.toNat < N; omega, this.2.2.1⟩
theorem OkF.eT (h : OkF f N s0) : ∀ e ∈ edT f, e.v < N ∧ 0 ≤ e.w := by
  intro e he
  obtain ⟨a, ha, rfl⟩ := List.mem_map.1 he
  have := h.arcs a ha
  exact ⟨by show a.src.toNat < N; omega, this.2.2.1⟩
theorem OkF.fromD (h : OkF f N s0) {c y : List Int} (hi : Inv (edF f) (begL (s0 : Int) N) c y) (hf : Fix (edF f) c) : c = fromD f := by
  have hb : (begL (s0 : Int) N).length = N := begL_len _ _
  have := fix_rounds (L := edF f) (fun e => Iff.rfl) (by rw [hb]; exact h.eF) h.bF.1 hi hf
  rw [this, hb]
  unfold Proofs.Yteehgcbjmdideaa.fromD
  rw [h.st, h.sta, Int.toNat_natCast]
theorem OkF.toD (h : OkF f N s0) {c y : List Int} (hi : Inv (edT f) f.final c y) (hf : Fix (edT f) c) : c = toD f := by
  have := fix_rounds (L := (edT f).reverse) (fun e => List.mem_reverse) (by rw [h.len]; exact h.eT) h.bT.1 hi hf
  rw [this, h.len]
  unfold Proofs.Yteehgcbjmdideaa.toD
  rw [h.st, Int.toNat_natCast]

theorem round_bounds (L : List Edg) (b : List Int) (hL : ∀ e ∈ L, e.v < b.length ∧ 0 ≤ e.w) (hb : ∀ v, gI b v = -1 ∨ 0 ≤ gI b v) (r : Nat) (v : Nat) : gI (rounds L b r) v = -1 ∨ 0 ≤ gI (rounds L b r) v := by
  have ha0 : Ach L b b := fun v => (hb v).imp id fun h => ⟨0, rfl, h⟩
  have hach : ∀ r, Ach L b (rounds L b r) := by
    intro r
    induction r with
    | zero => exact ha0
    | succ r ih => exact (relAll_round L (rounds L b r) (fun e he => he) (by simpa [rounds_len] using hL) ih).1
  exact (hach r v).imp id fun ⟨k, hk⟩ => hk.nonneg (fun e he => (hL e he).2)
end

end Go.Proofs.Yteehgcbjmdideaa
