/- A map of numbers; 'beginnings': how many beginnings words have, each once. -/
import Derived.Test.YteehgcbjmdideaaQOwG
import Derived.Maps.Keyed
import Derived.Laws.EntriesVeiled
import Derived.Test.YteehgcbjmdideaaQM01
import Derived.Test.YteehgcbjmdideaaQM00
import Derived.Sort.Grow
import Derived.Lib.SliceRun
import Derived.Deep.Upon
namespace Go.Proofs.Yteehgcbjmdideaa
open Go.RowKit Go.ChangeMaps
attribute [local go_sem ↓] Go.wp_at_zero Go.wp_at_succ

theorem keyN : Maps.Keyed Try.prog 3 := Maps.int_keyed Try.underlying3
theorem key_num {x : Nat} (h : x ≤ 1000000) : keyOf Try.prog 3 (.int .i64 (x : Int)) = some (.int .i64 (x : Int)) := by
  refine Maps.keyOf_int_mk Try.underlying3 ?_
  have := wf_wrap .i64 (x : Int)
  rw [wrap_in _ (by omega) (by omega)] at this
  exact this

/-- block b is a map of numbers that holds just these -/
def NumM (w : World) (b : Nat) (ps : List (Nat × Nat)) : Prop := ∃ es clock, w.heap[b]? = some (.map es clock) ∧ es.toList.map (fun e => (e.key, e.val)) = ps.map fun p => (Value.int .i64 (p.1 : Int), Value.int .i64 (p.2 : Int))

theorem NumM.lt {w : World} {b : Nat} {ps : List (Nat × Nat)} (h : NumM w b ps) : b < w.heap.size := by
  obtain ⟨es, clock, hb, _⟩ := h
  exact heap_lt hb
theorem NumM.block {w w' : World} {b : Nat} {ps : List (Nat × Nat)} (h : NumM w b ps) (hb : w'.heap[b]? = w.heap[b]?) : NumM w' b ps := by
  obtain ⟨es, clock, h1, h2⟩ := h
  exact ⟨es, clock, hb.trans h1, h2⟩

theorem numM_at {es : List MapEntry} {ps : List (Nat × Nat)} (h : es.map (fun e => (e.key, e.val)) = ps.map fun p => (Value.int .i64 (p.1 : Int), Value.int .i64 (p.2 : Int))) {j : Nat} {e : MapEntry} (he : es[j]? = some e) : ∃ p, ps[j]? = some p ∧ e.key = .int .i64 (p.1 : Int) ∧ e.val = .int .i64 (p.2 : Int) := by
  have h1 := congrArg (fun l => l[j]?) h
  simp only [List.getElem?_map, he, Option.map_some] at h1
  rcases hm : ps[j]? with _ | p
  · rw [hm] at h1; cases h1
  · rw [hm] at h1
    simp only [Option.map_some] at h1
    injection h1 with h1
    injection h1 with h2 h3
    exact ⟨p, rfl, h2, h3⟩

theorem num_find {w : World} {es : List MapEntry} {ps : List (Nat × Nat)} (h : es.map (fun e => (e.key, e.val)) = ps.map fun p => (Value.int .i64 (p.1 : Int), Value.int .i64 (p.2 : Int))) (hok : ∀ p ∈ ps, p.1 ≤ 1000000) {x : Nat} (hx : x ≤ 1000000) :
    ((Instr.findKey 3 (.int .i64 (x : Int)) es).run Try.prog w = .ok none w ∧ ∀ p ∈ ps, p.1 ≠ x) ∨ ∃ (j c : Nat), (Instr.findKey 3 (.int .i64 (x : Int)) es).run Try.prog w = .ok (some (j, .int .i64 (c : Int))) w ∧ (x, c) ∈ ps := by
  have hkeys : ∀ e ∈ es, ∃ l, keyOf Try.prog 3 e.key = some l := fun e he => by
    obtain ⟨j, hj⟩ := List.mem_iff_getElem?.1 he
    obtain ⟨p, h1, h2, _⟩ := numM_at h hj
    rw [h2]
    exact ⟨_, key_num (hok p (List.mem_of_getElem? h1))⟩
  rcases keyN.find w (key_num hx) es hkeys with ⟨h1, h2⟩ | ⟨j, e, h1, h2, h3⟩
  · left
    refine ⟨h1, fun p hp hpx => ?_⟩
    obtain ⟨j, hj⟩ := List.mem_iff_getElem?.1 hp
    have hlen : es.length = ps.length := by
      have := congrArg List.length h
      simpa using this
    have hlt : j < es.length := by rw [hlen]; exact (List.getElem?_eq_some_iff.1 hj).1
    obtain ⟨p', h4, h5, _⟩ := numM_at h (List.getElem?_eq_getElem hlt)
    rw [hj] at h4
    injection h4 with h4
    subst h4
    exact h2 _ (List.getElem_mem hlt) (by rw [h5, hpx])
  · right
    obtain ⟨p, h4, h5, h6⟩ := numM_at h h2
    rw [h3] at h5
    injection h5 with _ h5
    have hpx : p.1 = x := by omega
    refine ⟨j, p.2, by rw [h1, h6], ?_⟩
    have := List.mem_of_getElem? h4
    rw [← hpx]
    exact this

theorem num_check {x : Nat} (hx : x ≤ 1000000) (em : Bool) (w : World) : (Instr.checkKey em 10000 3 (.int .i64 (x : Int))).run Try.prog w = .ok () w := keyN.check w em (key_num hx)
theorem und_mapN : Try.prog.underlying 158 = some (.map 3 3) := by kernel_rfl

theorem num_look {w : World} {b : Nat} {ps : List (Nat × Nat)} (h : NumM w b ps) (hok : ∀ p ∈ ps, p.1 ≤ 1000000) {x : Nat} (hx : x ≤ 1000000) :
    ((∀ p ∈ ps, p.1 ≠ x) ∧ (Instr.lookup 158 (.map (some b)) (.int .i64 (x : Int)) true).run Try.prog w = .ok (.tuple #[.int .i64 0, .bool false]) w) ∨
    ∃ c : Nat, (x, c) ∈ ps ∧ (Instr.lookup 158 (.map (some b)) (.int .i64 (x : Int)) true).run Try.prog w = .ok (.tuple #[.int .i64 (c : Int), .bool true]) w ∧ (Instr.lookup 158 (.map (some b)) (.int .i64 (x : Int)) false).run Try.prog w = .ok (.int .i64 (c : Int)) w := by
  obtain ⟨es, clock, hb, hes⟩ := h
  rcases num_find (w := w) hes hok hx with ⟨r1, r2⟩ | ⟨j, c, r1, r2⟩
  · left
    refine ⟨r2, ?_⟩
    simp [Instr.lookup, run_underlying und_mapN, MapKept.run_getObj_map hb, num_check hx, r1, Result.andThen]
  · right
    refine ⟨c, r2, ?_, ?_⟩
    · simp [Instr.lookup, run_underlying und_mapN, MapKept.run_getObj_map hb, num_check hx, r1, Result.andThen]
    · simp [Instr.lookup, run_underlying und_mapN, MapKept.run_getObj_map hb, num_check hx, r1, Result.andThen]

theorem num_put {w : World} {b : Nat} {ps : List (Nat × Nat)} (h : NumM w b ps) (hok : ∀ p ∈ ps, p.1 ≤ 1000000) {x c : Nat} (hx : x ≤ 1000000) (hn : ∀ p ∈ ps, p.1 ≠ x) :
    ∃ w', (Instr.mapUpdate 158 (.map (some b)) (.int .i64 (x : Int)) (.int .i64 (c : Int))).run Try.prog w = .ok () w' ∧ NumM w' b (ps ++ [(x, c)]) ∧ w.grownBy w' (some b) := by
  obtain ⟨es, clock, hb, hes⟩ := h
  rcases num_find (w := w) hes hok hx with ⟨r1, r2⟩ | ⟨j, c', r1, r2⟩
  · refine ⟨setBlock w b (.map (es.push ⟨.int .i64 (x : Int), .int .i64 (c : Int), clock⟩) (clock + 1)), ?_, ?_, ?_⟩
    · simp [Instr.mapUpdate, run_underlying und_mapN, MapKept.run_getObj_map hb, num_check hx, r1, MapKept.run_setObj_map _ hb, Result.andThen, setBlock]
    · refine ⟨_, _, heap_setBlock_same hb _, ?_⟩
      simp [hes]
    · exact ⟨rfl, rfl, rfl, by simp [setBlock], fun k _ hne => heap_setBlock_other hb _ (fun e => hne (by rw [e]))⟩
  · exact absurd rfl (hn (x, c') r2)

/-- how many go on from a state by the first arcs -/
def sumC (cnt : Nat → Nat) (s : Nat) : List (Nat × Nat) → Nat
  | [] => 0
  | e :: E => (if e.1 = s then cnt e.2 else 0) + sumC cnt s E
theorem sumC_snoc (cnt : Nat → Nat) (s : Nat) (E : List (Nat × Nat)) (e : Nat × Nat) : sumC cnt s (E ++ [e]) = sumC cnt s E + if e.1 = s then cnt e.2 else 0 := by
  induction E with
  | nil => simp [sumC]
  | cons d E ih => rw [List.cons_append]; unfold sumC; rw [ih]; omega
theorem sumC_le {cnt : Nat → Nat} (h : ∀ s, cnt s ≤ 201) (s : Nat) (E : List (Nat × Nat)) : sumC cnt s E ≤ 201 * E.length := by
  induction E with
  | nil => simp [sumC]
  | cons e E ih =>
    unfold sumC
    have := h e.2
    rw [List.length_cons]
    split <;> omega

/-- so many beginnings there are from each state on, but no more than one too many -/
def CntOk (E : List (Nat × Nat)) (cnt : Nat → Nat) : Prop := ∀ s, cnt s = min (1 + sumC cnt s E) 201

/-- the memory of 'beginnings' -/
structure BW (w0 wr : World) (st sta : Int) (fin arcs : Value) (K F C Kb : Nat) (cnt : Nat → Nat) (ps : List (Nat × Nat)) : Prop where
  bel : Below w0.heap.size w0 wr
  cf : CellsF wr F st sta fin arcs
  ck : wr.cell? ⟨K, 0, none⟩ = some (.map (some Kb))
  cc : wr.cell? ⟨C, 0, none⟩ = some (.func (.func 158) #[] #[.pointer (some ⟨K, 0, none⟩), .pointer (some ⟨F, 0, none⟩), .pointer (some ⟨C, 0, none⟩)])
  map : NumM wr Kb ps
  ok : ∀ p ∈ ps, p.1 ≤ 1000000 ∧ p.2 = cnt p.1
  b0 : w0.heap.size ≤ Kb
  nf : F ≠ Kb
  nk : K ≠ Kb
  nc : C ≠ Kb

theorem BW.below {w0 wr wx : World} {st sta : Int} {fin arcs : Value} {K F C Kb : Nat} {cnt : Nat → Nat} {ps : List (Nat × Nat)} (h : BW w0 wr st sta fin arcs K F C Kb cnt ps) (hb : Below wr.heap.size wr wx) : BW w0 wx st sta fin arcs K F C Kb cnt ps :=
  ⟨bel_on h.bel hb, h.cf.below hb, bel_c hb h.ck, bel_c hb h.cc, h.map.block (hb.block Kb h.map.lt), h.ok, h.b0, h.nf, h.nk, h.nc⟩
theorem BW.put {w0 wr wx : World} {st sta : Int} {fin arcs : Value} {K F C Kb : Nat} {cnt : Nat → Nat} {ps : List (Nat × Nat)} {s : Nat} (h : BW w0 wr st sta fin arcs K F C Kb cnt ps) (hs : s ≤ 1000000) (hg : wr.grownBy wx (some Kb)) (hm : NumM wx Kb (ps ++ [(s, cnt s)])) : BW w0 wx st sta fin arcs K F C Kb cnt (ps ++ [(s, cnt s)]) := by
  have ne : ∀ {b : Nat}, b ≠ Kb → some b ≠ some Kb := fun h e => h (by injection e)
  have bF := hg.block F (cell_lt h.cf.1) (ne h.nf)
  refine ⟨h.bel.grown hg (by have := h.bel.size; omega) (fun k hk => by injection hk with hk; rw [← hk]; exact h.b0), ⟨cells_same bF h.cf.1, cells_same bF h.cf.2.1, cells_same bF h.cf.2.2.1, cells_same bF h.cf.2.2.2⟩, cells_same (hg.block K (cell_lt h.ck) (ne h.nk)) h.ck, cells_same (hg.block C (cell_lt h.cc) (ne h.nc)) h.cc, hm, fun p hp => ?_, h.b0, h.nf, h.nk, h.nc⟩
  rcases List.mem_append.1 hp with hp | hp
  · exact h.ok p hp
  · rw [List.mem_singleton.1 hp]
    exact ⟨hs, rfl⟩

theorem gBeg1 : ∀ args w, (callFunc 158 args).run Try.prog w = .ok (.enter 158 args) w := enters_of Try.func158 (by kernel_rfl) rfl
end Go.Proofs.Yteehgcbjmdideaa

/- 'beginnings' of the program: the closure that counts, and the whole. -/
namespace Go.Proofs.Yteehgcbjmdideaa
open Go.RowKit
attribute [local go_sem ↓] Go.wp_at_zero Go.wp_at_succ

/-- nothing but the map has changed -/
structure KStep (Kb : Nat) (w w' : World) : Prop where
  size : w.heap.size ≤ w'.heap.size
  block : ∀ b, b < w.heap.size → b ≠ Kb → w'.heap[b]? = w.heap[b]?
theorem KStep.refl (Kb : Nat) (w : World) : KStep Kb w w := ⟨Nat.le_refl _, fun _ _ _ => rfl⟩
theorem KStep.trans {Kb : Nat} {w w' w'' : World} (h : KStep Kb w w') (k : KStep Kb w' w'') : KStep Kb w w'' := ⟨Nat.le_trans h.size k.size, fun b hb hn => (k.block b (Nat.lt_of_lt_of_le hb h.size) hn).trans (h.block b hb hn)⟩
theorem KStep.bel {Kb : Nat} {w w' : World} (h : Below w.heap.size w w') : KStep Kb w w' := ⟨h.size, fun b hb _ => h.block b hb⟩
theorem KStep.put {Kb : Nat} {w w' : World} (h : w.grownBy w' (some Kb)) : KStep Kb w w' := ⟨h.size, fun b hb hn => h.block b hb (fun e => hn (by injection e))⟩

/-- what the closure answers -/
def CntRes (w0 wr : World) (st sta : Int) (fin arcs : Value) (K F C Kb : Nat) (cnt rk : Nat → Nat) (ps : List (Nat × Nat)) (s : Nat) (e : Ending) (w' : World) : Prop :=
  ∃ ps', e = .returned (.int .i64 (cnt s : Int)) ∧ BW w0 w' st sta fin arcs K F C Kb cnt ps' ∧ KStep Kb wr w' ∧ ∀ p ∈ ps', p ∈ ps ∨ rk p.1 ≤ rk s
theorem cntRes_mk {w0 wr w' : World} {st sta : Int} {fin arcs : Value} {K F C Kb : Nat} {cnt rk : Nat → Nat} {ps : List (Nat × Nat)} {s : Nat} {x : Int} (ps' : List (Nat × Nat)) (hx : x = (cnt s : Int)) (h1 : BW w0 w' st sta fin arcs K F C Kb cnt ps') (h2 : KStep Kb wr w') (h3 : ∀ p ∈ ps', p ∈ ps ∨ rk p.1 ≤ rk s) : CntRes w0 wr st sta fin arcs K F C Kb cnt rk ps s (.returned (.int .i64 x)) w' := ⟨ps', by rw [hx], h1, h2, h3⟩

set_option maxHeartbeats 1600000 in
set_option maxRecDepth 100000 in
theorem count_any (f : FstD) (N : Nat) (st sta : Int) (fin : Value) (aa : Option Addr) (m ac : Nat) (K F C Kb : Nat) (cnt rk : Nat → Nat) (w0 : World) (hN : N ≤ 1000000) (har : ∀ a ∈ f.arcs, ∃ s t : Nat, a.src = (s : Int) ∧ a.dst = (t : Int) ∧ s < N ∧ t < N) (hal : f.arcs.length = m) (hm3 : m ≤ 3000)
    (hcnt : CntOk (edgesE f.arcs) cnt) (hrk : ∀ e ∈ edgesE f.arcs, rk e.2 < rk e.1) (ha : ASlice w0 (.slice aa m ac) f.arcs) :
    ∀ (d s : Nat) (wr : World) (ps : List (Nat × Nat)), rk s < d → s < N → BW w0 wr st sta fin (.slice aa m ac) K F C Kb cnt ps →
      Calls Try.prog 158 #[.int .i64 (s : Int), .pointer (some ⟨K, 0, none⟩), .pointer (some ⟨F, 0, none⟩), .pointer (some ⟨C, 0, none⟩)] wr fun e w' => CntRes w0 wr st sta fin (.slice aa m ac) K F C Kb cnt rk ps s e w' := by
  intro d
  induction d with
  | zero => intro s wr ps h; omega
  | succ d ih =>
    intro s w ps hd hsN hB
    have HIH : Hid (∀ (s : Nat) (wr : World) (ps : List (Nat × Nat)), rk s < d → s < N → BW w0 wr st sta fin (.slice aa m ac) K F C Kb cnt ps →
      Calls Try.prog 158 #[.int .i64 (s : Int), .pointer (some ⟨K, 0, none⟩), .pointer (some ⟨F, 0, none⟩), .pointer (some ⟨C, 0, none⟩)] wr fun e w' => CntRes w0 wr st sta fin (.slice aa m ac) K F C Kb cnt rk ps s e w') := ih
    have HAR : Hid (∀ a ∈ f.arcs, ∃ s t : Nat, a.src = (s : Int) ∧ a.dst = (t : Int) ∧ s < N ∧ t < N) := har
    have HL : Hid (f.arcs.length = m) := hal
    have HCN : Hid (CntOk (edgesE f.arcs) cnt) := hcnt
    have HRK : Hid (∀ e ∈ edgesE f.arcs, rk e.2 < rk e.1) := hrk
    have HA : Hid (∀ W, Below w0.heap.size w0 W → ASlice W (.slice aa m ac) f.arcs) := fun W h => ha.below h
    have HD : Hid (rk s < d + 1) := hd
    have HC2 : Hid (∀ s, cnt s ≤ 201) := fun s => by
      have h1 := hcnt s
      rw [h1]
      exact Nat.min_le_right _ _
    have k0 := hB.ck
    have hlk := num_look hB.map (fun p hp => (hB.ok p hp).1) (x := s) (by omega)
    clear ih har hal hcnt hrk ha hd
    rcases hlk with ⟨hn, hlk⟩ | ⟨c, hc, hlk, _⟩
    · have HN : Hid (∀ p ∈ ps, p.1 ≠ s) := hn
      obtain ⟨q0, q1, q2, q3⟩ := hB.cf
      clear hn
      go_enter Try.func158, Try.ntmps158
      go_wp2
      clear q0 q1 q2 q3 hlk k0
      go_loopw [8, 10, 22] (fun t8 _ t22 wx => ∃ (k n : Nat) (ps' : List (Nat × Nat)), k ≤ m ∧ t22 = .int .i64 (k : Int) ∧ t8 = .int .i64 (n : Int) ∧ n = 1 + sumC cnt s (edgesE (f.arcs.take k)) ∧ BW w0 wx st sta fin (.slice aa m ac) K F C Kb cnt ps' ∧ KStep Kb w wx ∧ ∀ p ∈ ps', p ∈ ps ∨ rk p.1 < rk s) (fun _ _ t22 _ => m - (intOf t22).toNat)
      case atStart => exact ⟨0, 1, ps, Nat.zero_le _, rfl, rfl, by simp [edgesE, sumC], hB, KStep.refl _ _, fun p hp => Or.inl hp⟩
      case round =>
        clear hB
        obtain ⟨k, n, ps', hk, rfl, rfl, hn, hB, hK, hps⟩ := hrel
        have HNN : Hid (n = 1 + sumC cnt s (edgesE (f.arcs.take k))) := hn
        have HPS : Hid (∀ p ∈ ps', p ∈ ps ∨ rk p.1 < rk s) := hps
        have HK : Hid (KStep Kb w wr) := hK
        have hkw : IntKind.i64.wrap ((k : Int) + 1) = (k : Int) + 1 := wrap_in _ (by omega) (by omega)
        have hn9 : n ≤ 1 + 201 * 3000 := by
          have h1 := sumC_le HC2.out s (edgesE (f.arcs.take k))
          rw [edges_len, List.length_take] at h1
          have : 201 * min k f.arcs.length ≤ 201 * 3000 := Nat.mul_le_mul_left _ (by omega)
          omega
        clear hn hps hK
        by_cases hlt : k < m
        · have hki : (k : Int) < m := by omega
          obtain ⟨ab, ao, rfl, hxa⟩ := (HA.out wr hB.bel).some (by omega)
          obtain ⟨a, hak⟩ : ∃ d, f.arcs[k]? = some d := ⟨_, List.getElem?_eq_getElem (by have := HL.out; omega)⟩
          have hgd : f.arcs.getD k a0 = a := by simp [List.getD, hak]
          obtain ⟨u, t, hu, ht, huN, htN⟩ := HAR.out a (List.mem_of_getElem? hak)
          have c0 := hxa.c0 k hlt
          have c1 := hxa.c1 k hlt
          have c2 := hxa.c2 k hlt
          have c3 := hxa.c3 k hlt
          have c4 := hxa.c4 k hlt
          rw [hgd] at c0 c1 c2 c3 c4
          rw [hu] at c0
          rw [ht] at c3
          obtain ⟨ob, hob⟩ : ∃ o : Obj, o = .cells #[.int .i64 (u : Int), .int .i64 a.inp, .int .i64 a.out, .int .i64 (t : Int), .int .i64 a.wt] 63 := ⟨_, rfl⟩
          have hbA := bel_up (bel_self wr) ob
          have hBA := hB.below hbA
          have b0 : (wr.alloc ob).cell? ⟨wr.heap.size, 0, none⟩ = some (.int .i64 (u : Int)) := by rw [hob]; exact new_cell _ _ _ _ 0 _ rfl rfl
          have b3 : (wr.alloc ob).cell? ⟨wr.heap.size, 3, none⟩ = some (.int .i64 (t : Int)) := by rw [hob]; exact new_cell _ _ _ _ 3 _ rfl rfl
          have cc := hBA.cc
          have HSN : Hid (1 + sumC cnt s (edgesE (f.arcs.take (k + 1))) = n + if u = s then cnt t else 0) := by
            show _ = _
            rw [edges_at hak hu ht, sumC_snoc]
            dsimp only
            rw [HNN.out]
            exact (Nat.add_assoc _ _ _).symm
          have HMEM : Hid ((u, t) ∈ edgesE f.arcs) := by
            unfold edgesE
            rw [List.mem_map]
            exact ⟨a, List.mem_of_getElem? hak, by rw [hu, ht, Int.toNat_natCast, Int.toNat_natCast]⟩
          have HBA : Hid (BW w0 (wr.alloc ob) st sta fin (.slice (some ⟨ab, ao, none⟩) m ac) K F C Kb cnt ps' ∧ KStep Kb w (wr.alloc ob)) := ⟨hBA, HK.out.trans (KStep.bel hbA)⟩
          by_cases h1 : u = s
          · subst h1
            have hcall := HIH.out t (wr.alloc ob) ps' (by have h1 := HRK.out (u, t) HMEM.out; dsimp only at h1; have := HD.out; omega) htN hBA
            have hg1 := gBeg1
            have HRT : Hid (rk t < rk u) := HRK.out (u, t) HMEM.out
            obtain ⟨ct, hct⟩ : ∃ c, c = cnt t := ⟨_, rfl⟩
            have hct2 : ct ≤ 201 := by rw [hct]; exact HC2.out t
            have hwn : IntKind.i64.wrap ((n : Int) + (ct : Int)) = (n : Int) + (ct : Int) := wrap_in _ (by omega) (by omega)
            have HCT : Hid (ct = cnt t) := hct
            rw [hob] at hcall b0 b3 cc HBA
            clear hxa hgd hu ht hak hbA hBA hB hob hct
            go_wp2_with (go_at_call 158; refine hcall.mono ?_; rintro e w2 ⟨ps2, rfl, hB2, hK2, hp2⟩; rw [← HCT.out]; have HR2 : Hid (BW w0 w2 st sta fin (.slice (some ⟨ab, ao, none⟩) m ac) K F C Kb cnt ps2 ∧ KStep Kb w w2 ∧ ∀ p ∈ ps2, p ∈ ps ∨ rk p.1 < rk u) := ⟨hB2, HBA.out.2.trans hK2, fun p hp => (by rcases hp2 p hp with h | h; exact HPS.out p h; exact Or.inr (Nat.lt_of_le_of_lt h HRT.out))⟩; clear hB2 hK2 hp2)
            go_roundw
            case rel => exact ⟨k + 1, n + ct, ps2, by omega, by go_num, by go_num, by rw [HSN.out, HCT.out]; simp, HR2.out.1, HR2.out.2.1, HR2.out.2.2⟩
            case measure => simp [intOf]; omega
          · have h1b : (((u : Int)) == (s : Int)) = false := by
              have : ¬ (u : Int) = (s : Int) := by omega
              simpa using this
            rw [hob] at b0 b3 cc HBA
            clear hxa hgd hu ht hak hbA hBA hB hob
            go_wp2
            go_roundw
            case rel => exact ⟨k + 1, n, ps', by omega, by go_num, rfl, by rw [HSN.out, if_neg h1, Nat.add_zero], HBA.out.1, HBA.out.2, HPS.out⟩
            case measure => simp [intOf]; omega
        · obtain rfl : m = k := by omega
          have hkl : ¬ (m : Int) < m := by omega
          have hcs : cnt s = min n 201 := by
            have h1 := HCN.out s
            rw [List.take_of_length_le (by have := HL.out; omega)] at HNN
            rw [h1, HNN.out]
          have hnps : ∀ p ∈ ps', p.1 ≠ s := fun p hp e => by
            rcases HPS.out p hp with h | h
            · exact HN.out p h e
            · rw [e] at h; omega
          obtain ⟨w3, hput, hm3', hg3⟩ := num_put hB.map (fun p hp => (hB.ok p hp).1) (x := s) (c := cnt s) (by omega) hnps
          have hB3 := hB.put (s := s) (by omega) hg3 hm3'
          have k0 := hB.ck
          have k3 := hB3.ck
          have hlk3 : (Instr.lookup 158 (.map (some Kb)) (.int .i64 (s : Int)) false).run Try.prog w3 = .ok (.int .i64 (cnt s : Int)) w3 := by
            rcases num_look hB3.map (fun p hp => (hB3.ok p hp).1) (x := s) (by omega) with ⟨h1, _⟩ | ⟨c, h1, _, h2⟩
            · exact absurd rfl (h1 (s, cnt s) (by simp))
            · have h3 := (hB3.ok _ h1).2
              dsimp only at h3
              rw [← h3]
              exact h2
          have HFIN : Hid (BW w0 w3 st sta fin (.slice aa m ac) K F C Kb cnt (ps' ++ [(s, cnt s)]) ∧ KStep Kb w w3 ∧ ∀ p ∈ ps' ++ [(s, cnt s)], p ∈ ps ∨ rk p.1 ≤ rk s) := ⟨hB3, HK.out.trans (KStep.put hg3), fun p hp => by
            rcases List.mem_append.1 hp with hp | hp
            · rcases HPS.out p hp with h | h
              · exact Or.inl h
              · exact Or.inr (Nat.le_of_lt h)
            · rw [List.mem_singleton.1 hp]; exact Or.inr (Nat.le_refl _)⟩
          obtain ⟨cs, hcs'⟩ : ∃ c, c = cnt s := ⟨_, rfl⟩
          have HCS : Hid (cs = cnt s) := hcs'
          rw [← hcs'] at hput hlk3 hcs
          clear hB hB3 hm3' hg3 hnps hcs'
          by_cases hle : n ≤ 201
          · obtain rfl : cs = n := by omega
            have hmi : ¬ ((201 : Int) < (cs : Int)) := by omega
            have hmi2 : min (cs : Int) 201 = (cs : Int) := by omega
            clear hcs
            go_wp2
            go_ret
            exact cntRes_mk _ (by rw [HCS.out]) HFIN.out.1 HFIN.out.2.1 HFIN.out.2.2
          · obtain rfl : cs = 201 := by omega
            have hmi : (201 : Int) < (n : Int) := by omega
            have hmi2 : min (n : Int) 201 = 201 := by omega
            have hput' : (Instr.mapUpdate 158 (.map (some Kb)) (.int .i64 (s : Int)) (.int .i64 201)).run Try.prog wr = .ok () w3 := hput
            have hlk3' : (Instr.lookup 158 (.map (some Kb)) (.int .i64 (s : Int)) false).run Try.prog w3 = .ok (.int .i64 201) w3 := hlk3
            clear hcs hput hlk3
            go_wp2
            go_ret
            exact cntRes_mk _ (by rw [← HCS.out]; rfl) HFIN.out.1 HFIN.out.2.1 HFIN.out.2.2
    · have HC : Hid (c = cnt s) := (hB.ok _ hc).2
      have HB : Hid (BW w0 w st sta fin (.slice aa m ac) K F C Kb cnt ps) := hB
      clear hB hc
      go_enter Try.func158, Try.ntmps158
      go_wp2
      go_ret
      exact cntRes_mk ps (by rw [HC.out]) HB.out (KStep.refl _ _) (fun p hp => Or.inl hp)

set_option maxHeartbeats 1000000 in
set_option maxRecDepth 100000 in
/-- what 'beginnings' answers -/
theorem beginnings_any (f : FstD) (N s0 : Nat) (st : Int) (fa : Option Addr) (fn fc : Nat) (aa : Option Addr) (m ac : Nat) (cnt rk : Nat → Nat) (w : World) (hN : N ≤ 1000000) (hs : s0 < N) (har : ∀ a ∈ f.arcs, ∃ s t : Nat, a.src = (s : Int) ∧ a.dst = (t : Int) ∧ s < N ∧ t < N) (hal : f.arcs.length = m) (hm3 : m ≤ 3000)
    (hcnt : CntOk (edgesE f.arcs) cnt) (hrk : ∀ e ∈ edgesE f.arcs, rk e.2 < rk e.1) (ha : ASlice w (.slice aa m ac) f.arcs) :
    Calls Try.prog 128 #[.agg #[.int .i64 st, .int .i64 (s0 : Int), .slice fa fn fc, .slice aa m ac]] w fun e w' => e = .returned (.int .i64 (cnt s0 : Int)) ∧ Below w.heap.size w w' := by
  have hmm := @run_makeMap Try.prog
  have hmf : ∀ (fn : Fn) (first cap : Array Value) (w : World), (Instr.makeFunc fn first cap).run Try.prog w = .ok (.func fn first cap) w := fun _ _ _ _ => rfl
  have hg1 := gBeg1
  obtain ⟨A1, hA1⟩ : ∃ W, W = w.alloc (.cells #[.int .i64 st, .int .i64 (s0 : Int), .slice fa fn fc, .slice aa m ac] 25) := ⟨_, rfl⟩
  have s1 : A1.heap.size = w.heap.size + 1 := by rw [hA1]; exact one_size _ _
  obtain ⟨A2, hA2⟩ : ∃ W, W = A1.alloc (.map #[] 0) := ⟨_, rfl⟩
  have s2 : A2.heap.size = w.heap.size + 1 + 1 := by rw [hA2, one_size, s1]
  obtain ⟨A3, hA3⟩ : ∃ W, W = A2.alloc (.cells #[.map (some (w.heap.size + 1))] 158) := ⟨_, rfl⟩
  have s3 : A3.heap.size = w.heap.size + 1 + 1 + 1 := by rw [hA3, one_size, s2]
  obtain ⟨A4, hA4⟩ : ∃ W, W = A3.alloc (.cells #[.func (.func 158) #[] #[.pointer (some ⟨w.heap.size + 1 + 1, 0, none⟩), .pointer (some ⟨w.heap.size, 0, none⟩), .pointer (some ⟨w.heap.size + 1 + 1 + 1, 0, none⟩)]] 82) := ⟨_, rfl⟩
  have hC : A4.heap[w.heap.size + 1 + 1 + 1]? = some (.cells #[.func (.func 158) #[] #[.pointer (some ⟨w.heap.size + 1 + 1, 0, none⟩), .pointer (some ⟨w.heap.size, 0, none⟩), .pointer (some ⟨w.heap.size + 1 + 1 + 1, 0, none⟩)]] 82 (0, 0)) := by rw [hA4, ← s3]; exact heap_alloc_new A3 _
  have z0 : A4.cell? ⟨w.heap.size + 1 + 1 + 1, 0, none⟩ = some (.func (.func 158) #[] #[.pointer (some ⟨w.heap.size + 1 + 1, 0, none⟩), .pointer (some ⟨w.heap.size, 0, none⟩), .pointer (some ⟨w.heap.size + 1 + 1 + 1, 0, none⟩)]) := by rw [Go.Joins.cell_of_block hC]; rfl
  have k1 : Below w.heap.size w A1 := by rw [hA1]; exact bel_up (bel_self _) _
  have k2 : Below A1.heap.size A1 A2 := by rw [hA2]; exact bel_up (bel_self _) _
  have k3 : Below A2.heap.size A2 A3 := by rw [hA3]; exact bel_up (bel_self _) _
  have k4 : Below A3.heap.size A3 A4 := by rw [hA4]; exact bel_up (bel_self _) _
  have k14 := bel_on k1 (bel_on (bel_on k2 k3) k4)
  have cfA : CellsF A4 w.heap.size st (s0 : Int) (.slice fa fn fc) (.slice aa m ac) := by
    have h1 : CellsF A1 w.heap.size st (s0 : Int) (.slice fa fn fc) (.slice aa m ac) := by rw [hA1]; exact cellsF_new _ _ _ _ _ _
    exact h1.below (bel_on (bel_on k2 k3) k4)
  have hKb : A4.heap[w.heap.size + 1]? = some (.map #[] 0) := by
    have h1 : A2.heap[w.heap.size + 1]? = some (.map #[] 0) := by rw [hA2, ← s1]; exact heap_alloc_new A1 _
    exact heap_bel (bel_on k3 k4) h1
  have hK : A4.cell? ⟨w.heap.size + 1 + 1, 0, none⟩ = some (.map (some (w.heap.size + 1))) := by
    have h1 : A3.heap[w.heap.size + 1 + 1]? = some (.cells #[.map (some (w.heap.size + 1))] 158 (0, 0)) := by rw [hA3, ← s2]; exact heap_alloc_new A2 _
    rw [Go.Joins.cell_of_block (heap_bel k4 h1)]
    rfl
  have hBW : BW w A4 st (s0 : Int) (.slice fa fn fc) (.slice aa m ac) (w.heap.size + 1 + 1) w.heap.size (w.heap.size + 1 + 1 + 1) (w.heap.size + 1) cnt [] := by
    exact ⟨k14, cfA, hK, z0, ⟨#[], 0, hKb, rfl⟩, fun p hp => (by cases hp), by omega, by omega, by omega, by omega⟩
  have hcall := count_any f N st (s0 : Int) (.slice fa fn fc) aa m ac _ _ _ _ cnt rk w hN har hal hm3 hcnt hrk ha (rk s0 + 1) s0 A4 [] (Nat.lt_succ_self _) hs hBW
  obtain ⟨d0, d1, d2, d3⟩ := hBW.cf
  have d4 := hBW.cc
  rw [hA4, hA3, hA2, hA1] at hcall d0 d1 d2 d3 d4
  clear hA1 hA2 hA3 hA4 hBW z0 hK hKb cfA k1 k2 k3 k4 k14 hC s1 s2 s3 har hal hcnt hrk ha
  go_enter Try.func128, Try.ntmps128
  go_wp2_with fail
  refine hcall.mono ?_
  rintro e w2 ⟨ps2, rfl, hB2, _, _⟩
  go_wp2
  go_ret
  exact ⟨rfl, hB2.bel⟩
end Go.Proofs.Yteehgcbjmdideaa

/- The order by which 'order.Least' sorts: order.Compare and its two closures, in whatever world; they only lay blocks of their own. -/
namespace Go.Proofs.Yteehgcbjmdideaa
open Go.RowKit Go.Sort
attribute [local go_sem ↓] Go.wp_at_zero Go.wp_at_succ

/-- only blocks behind, and draws -/
def Gr (w w' : World) : Prop := ∃ q os, w' = grow (w.drewN q) os

theorem Gr.self (w : World) : Gr w w := ⟨0, #[], by rw [grow_empty]; rfl⟩
theorem Gr.alloc {w w' : World} (h : Gr w w') (o : Obj) : Gr w (w'.alloc o) := by
  obtain ⟨q, os, rfl⟩ := h
  exact ⟨q, os ++ #[o], by rw [alloc_eq_grow, grow_grow]⟩
theorem Gr.drew {w w' : World} (h : Gr w w') : Gr w w'.drew := by
  obtain ⟨q, os, rfl⟩ := h
  exact ⟨q + 1, os, rfl⟩
theorem Gr.trans {a b c : World} (h : Gr a b) (k : Gr b c) : Gr a c := by
  obtain ⟨q, os, rfl⟩ := h
  obtain ⟨q', os', rfl⟩ := k
  exact ⟨q + q', os ++ os', by
    show grow (grow ((a.drewN q).drewN q') os) os' = _
    rw [grow_grow]
    show grow ({ a with drawn := a.drawn + q + q' } : World) _ = _
    rw [Nat.add_assoc]
    rfl⟩
theorem Gr.below {w w' : World} (h : Gr w w') : Below w.heap.size w w' := by
  obtain ⟨q, os, rfl⟩ := h
  refine ⟨rfl, rfl, rfl, ?_, fun k hk => ?_⟩
  · rw [size_grow]
    exact Nat.le_add_right _ _
  · exact heap_grow_old _ _ hk

set_option maxHeartbeats 1000000 in
theorem compare_gr (a b : ArcD) (w : World) :
    Calls Try.prog 112 #[.agg #[.int .i64 a.src, .int .i64 a.inp, .int .i64 a.out, .int .i64 a.dst, .int .i64 a.wt], .agg #[.int .i64 b.src, .int .i64 b.inp, .int .i64 b.out, .int .i64 b.dst, .int .i64 b.wt]] w fun e w' =>
      e = .returned (.int .i64 (cmpArc a b)) ∧ Gr w w' := by
  go_enter Try.func112, Try.ntmps112
  go_wp2
  go_region_held3 (fun w' => w'.cell? ⟨w.heap.size, 0, none⟩ = some (.int .i64 a.src) ∧ w'.cell? ⟨w.heap.size, 1, none⟩ = some (.int .i64 a.inp) ∧ w'.cell? ⟨w.heap.size, 2, none⟩ = some (.int .i64 a.out) ∧ w'.cell? ⟨w.heap.size, 3, none⟩ = some (.int .i64 a.dst) ∧ w'.cell? ⟨w.heap.size + 1, 0, none⟩ = some (.int .i64 b.src) ∧ w'.cell? ⟨w.heap.size + 1, 1, none⟩ = some (.int .i64 b.inp) ∧ w'.cell? ⟨w.heap.size + 1, 2, none⟩ = some (.int .i64 b.out) ∧ w'.cell? ⟨w.heap.size + 1, 3, none⟩ = some (.int .i64 b.dst)) (go_keep)
    (first | (go_at_call 113; refine (compare_any _ _ _).mono ?_; rintro e w' ⟨rfl, rfl⟩) | (go_at_call 111; refine (or_any _ _ _ _ [cmpI a.src b.src, cmpI a.inp b.inp, cmpI a.out b.out, cmpI a.dst b.dst] _ (intsAt4 _ _ _ _ _ _ _ (by simp)) four_le).mono ?_; rintro e w' ⟨rfl, rfl⟩))
  all_goals
    go_wp2
    go_ret
    exact ⟨rfl, ((((Gr.self _).alloc _).alloc _).alloc _).drew⟩

/-- first the order of arcs, then what they cost -/
def cmpW (a b : ArcD) : Int := orI [cmpArc a b, cmpI a.wt b.wt]


theorem keep10 {w w1 : World} {a b : ArcD} {t1 t2 : Nat} (h : Gr ((w.alloc (.cells #[.int .i64 a.src, .int .i64 a.inp, .int .i64 a.out, .int .i64 a.dst, .int .i64 a.wt] t1)).alloc (.cells #[.int .i64 b.src, .int .i64 b.inp, .int .i64 b.out, .int .i64 b.dst, .int .i64 b.wt] t2)).drew w1) : (fun wx => wx.cell? ⟨w.heap.size, 0, none⟩ = some (.int .i64 a.src) ∧ wx.cell? ⟨w.heap.size, 1, none⟩ = some (.int .i64 a.inp) ∧ wx.cell? ⟨w.heap.size, 2, none⟩ = some (.int .i64 a.out) ∧ wx.cell? ⟨w.heap.size, 3, none⟩ = some (.int .i64 a.dst) ∧ wx.cell? ⟨w.heap.size, 4, none⟩ = some (.int .i64 a.wt) ∧ wx.cell? ⟨w.heap.size + 1, 0, none⟩ = some (.int .i64 b.src) ∧ wx.cell? ⟨w.heap.size + 1, 1, none⟩ = some (.int .i64 b.inp) ∧ wx.cell? ⟨w.heap.size + 1, 2, none⟩ = some (.int .i64 b.out) ∧ wx.cell? ⟨w.heap.size + 1, 3, none⟩ = some (.int .i64 b.dst) ∧ wx.cell? ⟨w.heap.size + 1, 4, none⟩ = some (.int .i64 b.wt)) w1 := by
  have hb := h.below
  refine ⟨?_, ?_, ?_, ?_, ?_, ?_, ?_, ?_, ?_, ?_⟩ <;> exact bel_c hb (drew_cell (by simp))

theorem intsAt2 (x0 x1 : Int) (w : World) (t N : Nat) (hN : w.heap.size = N) : IntsAt (w.alloc (.cells #[.int .i64 x0, .int .i64 x1] t)) N 0 2 [x0, x1] := by
  subst hN
  refine ⟨rfl, fun i hi => ?_⟩
  match i, hi with
  | 0, _ => simp
  | 1, _ => simp
theorem two_le : 2 ≤ maxLen := by decide

set_option maxHeartbeats 1000000 in
theorem least1_gr (a b : ArcD) (w : World) :
    Calls Try.prog 110 #[.agg #[.int .i64 a.src, .int .i64 a.inp, .int .i64 a.out, .int .i64 a.dst, .int .i64 a.wt], .agg #[.int .i64 b.src, .int .i64 b.inp, .int .i64 b.out, .int .i64 b.dst, .int .i64 b.wt]] w fun e w' =>
      e = .returned (.int .i64 (cmpW a b)) ∧ Gr w w' := by
  unfold cmpW
  have hc := fun W => compare_gr a b W
  generalize cmpArc a b = u at hc ⊢
  have HC : Hid (∀ W, Calls Try.prog 112 #[.agg #[.int .i64 a.src, .int .i64 a.inp, .int .i64 a.out, .int .i64 a.dst, .int .i64 a.wt], .agg #[.int .i64 b.src, .int .i64 b.inp, .int .i64 b.out, .int .i64 b.dst, .int .i64 b.wt]] W fun e w' => e = .returned (.int .i64 u) ∧ Gr W w') := hc
  clear hc
  go_enter Try.func110, Try.ntmps110
  go_wp2
  go_region_held3 (fun wx => wx.cell? ⟨w.heap.size, 0, none⟩ = some (.int .i64 a.src) ∧ wx.cell? ⟨w.heap.size, 1, none⟩ = some (.int .i64 a.inp) ∧ wx.cell? ⟨w.heap.size, 2, none⟩ = some (.int .i64 a.out) ∧ wx.cell? ⟨w.heap.size, 3, none⟩ = some (.int .i64 a.dst) ∧ wx.cell? ⟨w.heap.size, 4, none⟩ = some (.int .i64 a.wt) ∧ wx.cell? ⟨w.heap.size + 1, 0, none⟩ = some (.int .i64 b.src) ∧ wx.cell? ⟨w.heap.size + 1, 1, none⟩ = some (.int .i64 b.inp) ∧ wx.cell? ⟨w.heap.size + 1, 2, none⟩ = some (.int .i64 b.out) ∧ wx.cell? ⟨w.heap.size + 1, 3, none⟩ = some (.int .i64 b.dst) ∧ wx.cell? ⟨w.heap.size + 1, 4, none⟩ = some (.int .i64 b.wt)) (first | exact hK | go_keep)
    (first
    | (go_at_call 111; refine (or_any _ _ _ _ [u, cmpI a.wt b.wt] _ (intsAt2 _ _ _ _ _ (by first | rfl | simp)) two_le).mono ?_; rintro e w' ⟨rfl, rfl⟩)
    | (go_at_call 112; refine (HC.out _).mono ?_; rintro e w1 ⟨rfl, hg1⟩; have hK := keep10 hg1)
    | (go_at_call 113; refine (compare_any _ _ _).mono ?_; rintro e w' ⟨rfl, rfl⟩))
  all_goals
    go_wp2
    go_ret
    exact ⟨rfl, (((((Gr.self _).alloc _).alloc _).drew).trans hg1).alloc _⟩

set_option maxHeartbeats 1000000 in
theorem least2_gr (a b : ArcD) (w : World) :
    Calls Try.prog 115 #[.agg #[.int .i64 a.src, .int .i64 a.inp, .int .i64 a.out, .int .i64 a.dst, .int .i64 a.wt], .agg #[.int .i64 b.src, .int .i64 b.inp, .int .i64 b.out, .int .i64 b.dst, .int .i64 b.wt]] w fun e w' =>
      e = .returned (.bool (cmpArc a b == 0)) ∧ Gr w w' := by
  go_enter Try.func115, Try.ntmps115
  go_wp2_with (go_at_call 112; refine (compare_gr a b _).mono ?_; rintro e w1 ⟨rfl, hg⟩)
  go_ret
  exact ⟨rfl, (((Gr.self _).alloc _).alloc _).trans hg⟩
end Go.Proofs.Yteehgcbjmdideaa

/- slices.Clone and slices.CompactFunc at arcs, as 'order.Least' calls them. -/
namespace Go.Proofs.Yteehgcbjmdideaa
open Go.RowKit
attribute [local go_sem ↓] Go.wp_at_zero Go.wp_at_succ

theorem arcsV_len (ars : List ArcD) : (arcsV ars).length = ars.length * 5 := by
  induction ars with
  | nil => rfl
  | cons a l ih =>
    have : arcsV (a :: l) = arcCells a ++ arcsV l := rfl
    rw [this, List.length_append, ih]
    show 5 + l.length * 5 = (l.length + 1) * 5
    omega

theorem arcsV_one (ars : List ArcD) : ∀ u ∈ arcsV ars, u.oneCell' = true := by
  intro u hu
  obtain ⟨a, _, ha⟩ := List.mem_flatMap.1 hu
  exact oneCell_arc a u ha

/-- the cells of a row of arcs, one by one -/
theorem ArcsAt.flat {w : World} {b off n : Nat} {ars : List ArcD} (h : ArcsAt w b off n ars) : ∀ j u, (arcsV ars)[j]? = some u → w.cell? ⟨b, off + j, none⟩ = some u := by
  intro j u hj
  have hl : j < (arcsV ars).length := (List.getElem?_eq_some_iff.1 hj).1
  rw [arcsV_len] at hl
  have hi : j / 5 < ars.length := by omega
  have hn : j / 5 < n := by rw [← h.len]; exact hi
  have he : j / 5 * 5 + j % 5 = j := by omega
  have hg := arcsV_get ars (j / 5) (j % 5) hi (by omega)
  rw [he, hj] at hg
  rw [← he]
  have hm : j % 5 < 5 := by omega
  generalize j % 5 = r at hg hm ⊢
  generalize j / 5 = q at hg hn ⊢
  match r, hm with
  | 0, _ => rw [show off + (q * 5 + 0) = off + q * 5 by omega, h.c0 q hn]; exact hg.symm
  | 1, _ => rw [show off + (q * 5 + 1) = off + q * 5 + 1 by omega, h.c1 q hn]; exact hg.symm
  | 2, _ => rw [show off + (q * 5 + 2) = off + q * 5 + 2 by omega, h.c2 q hn]; exact hg.symm
  | 3, _ => rw [show off + (q * 5 + 3) = off + q * 5 + 3 by omega, h.c3 q hn]; exact hg.symm
  | 4, _ => rw [show off + (q * 5 + 4) = off + q * 5 + 4 by omega, h.c4 q hn]; exact hg.symm

theorem ArcsAt.of_flat {w : World} {b off n : Nat} {ars : List ArcD} (hl : ars.length = n) (h : ∀ j u, (arcsV ars)[j]? = some u → w.cell? ⟨b, off + j, none⟩ = some u) : ArcsAt w b off n ars := by
  have key : ∀ i r v, i < n → r < 5 → (arcCells (ars.getD i a0))[r]? = some v → w.cell? ⟨b, off + i * 5 + r, none⟩ = some v := fun i r v hi hr hv => by
    rw [show off + i * 5 + r = off + (i * 5 + r) by omega]
    exact h _ _ (by rw [arcsV_get ars i r (by omega) hr]; exact hv)
  exact ⟨hl, fun i hi => key i 0 _ hi (by omega) rfl, fun i hi => key i 1 _ hi (by omega) rfl, fun i hi => key i 2 _ hi (by omega) rfl, fun i hi => key i 3 _ hi (by omega) rfl, fun i hi => key i 4 _ hi (by omega) rfl⟩

set_option maxHeartbeats 2000000 in
set_option maxRecDepth 100000 in
theorem cloneA_some (ars : List ArcD) (b off n c : Nat) (w : World) (hx : ArcsAt w b off n ars) (hn : n ≤ 100000) :
    Calls Try.prog 108 #[.slice (some ⟨b, off, none⟩) n c] w fun e w' => ∃ v', e = .returned v' ∧ w'.ownsRow w.heap.size 63 5 v' n (arcsV ars) ∧ v' ≠ .slice none 0 0 ∧ Below w.heap.size w w' := by
  obtain ⟨i0, hi, hz0, hz1, hz2⟩ := info_parts Try.info63
  have q : ∀ (w : World) (a : Option Addr) (n c n' c' : Nat), (binOp .eql 23 (.slice a n c) (.slice none n' c')).run Try.prog w = .ok (.bool a.isNone) w := fun w a n c n' c' => Lib.run_eql_slice_nil w _ _ a n c n' c' Try.underlying23
  have HX : Hid (∀ j u, (arcsV ars)[j]? = some u → w.cell? ⟨b, off + j, none⟩ = some u) := hx.flat
  have HL : Hid (ars.length = n) := hx.len
  clear hx
  go_enter Try.func108, Try.ntmps108
  go_wp2_with (at_builtin; refine wpList_append_own _ rfl _ _ 23 rfl w.heap.size 63 i0 _ 5 40 Try.underlying23 hi hz0 hz1 hz2 rfl (by decide) _ _ _ rfl (World.ownsRow_made w #[] 0 (Nat.le_refl _) (Nat.zero_le _) rfl) ⟨b, off, none⟩ n c (arcsV ars) rfl ?qc1 ?qc2 ?qc3 ?qc4 ?qc5 ?qc6 ?_)
  case qc1 => rw [arcsV_len, HL.out]
  case qc2 =>
    intro j u hj
    rw [Addr.add_lit]
    exact Lib.cell?_alloc_some _ (HX.out j u hj)
  case qc3 => exact arcsV_one ars
  case qc4 => unfold maxLen; omega
  case qc5 => omega
  case qc6 => simp
  intro v' w1 hown hgrow hnil
  go_wp2
  go_ret
  refine ⟨v', rfl, by simpa using hown, ?_, ?_⟩
  · exact hnil
  · exact ((Below.refl _ w).alloc (Nat.le_refl _) _).grown hgrow (by simp) (by intro k hk; simp [Value.ownBlock] at hk; omega)

set_option maxHeartbeats 1000000 in
theorem cloneA_nil (n c : Nat) (w : World) :
    Calls Try.prog 108 #[.slice none n c] w fun e w' => e = .returned (.slice none 0 0) ∧ w' = w := by
  have q : ∀ (w : World) (a : Option Addr) (n c n' c' : Nat), (binOp .eql 23 (.slice a n c) (.slice none n' c')).run Try.prog w = .ok (.bool a.isNone) w := fun w a n c n' c' => Lib.run_eql_slice_nil w _ _ a n c n' c' Try.underlying23
  go_enter Try.func108, Try.ntmps108
  go_wp2
  go_ret
  exact ⟨rfl, rfl⟩

set_option maxHeartbeats 2000000 in
set_option maxRecDepth 100000 in
theorem cloneA_zero (ad : Addr) (c : Nat) (w : World) :
    Calls Try.prog 108 #[.slice (some ad) 0 c] w fun e w' => (∃ a cap, e = .returned (.slice a 0 cap)) ∧ Below w.heap.size w w' := by
  obtain ⟨i0, hi, hz0, hz1, hz2⟩ := info_parts Try.info63
  have q : ∀ (w : World) (a : Option Addr) (n c n' c' : Nat), (binOp .eql 23 (.slice a n c) (.slice none n' c')).run Try.prog w = .ok (.bool a.isNone) w := fun w a n c n' c' => Lib.run_eql_slice_nil w _ _ a n c n' c' Try.underlying23
  go_enter Try.func108, Try.ntmps108
  go_wp2_with (at_builtin; refine wpList_append_own _ rfl _ _ 23 rfl w.heap.size 63 i0 _ 5 40 Try.underlying23 hi hz0 hz1 hz2 rfl (by decide) _ _ _ rfl (World.ownsRow_made w #[] 0 (Nat.le_refl _) (Nat.zero_le _) rfl) ad 0 c [] rfl ?qc1 ?qc2 ?qc3 ?qc4 ?qc5 ?qc6 ?_)
  case qc1 => rfl
  case qc2 => intro j u hj; simp at hj
  case qc3 => intro u hu; cases hu
  case qc4 => unfold maxLen; omega
  case qc5 => omega
  case qc6 => simp
  intro v' w1 hown hgrow hnil
  go_wp2
  go_ret
  refine ⟨?_, ((Below.refl _ w).alloc (Nat.le_refl _) _).grown hgrow (by simp) (by intro k hk; simp [Value.ownBlock] at hk; omega)⟩
  have : ASlice w1 v' [] := ownsRow_arcs (ars := []) (by simpa [arcsV] using hown)
  obtain ⟨a, n, c, rfl, h1, _⟩ := this.lenOf
  simp at h1
  subst h1
  exact ⟨a, c, rfl⟩
end Go.Proofs.Yteehgcbjmdideaa

/- slices.CompactFunc at arcs, with the closure of 'order.Least': of neighbours that differ in nothing but the weight the first stays. -/
namespace Go.Proofs.Yteehgcbjmdideaa
open Go.RowKit
attribute [local go_sem ↓] Go.wp_at_zero Go.wp_at_succ

/-- what stays of the first k -/
def kepL (l : List ArcD) : Nat → List ArcD
  | 0 => []
  | k + 1 => kepL l k ++ if k = 0 ∨ cmpArc (l.getD k a0) (l.getD (k - 1) a0) ≠ 0 then [l.getD k a0] else []

section
variable {l : List ArcD} {k : Nat}
theorem kepL_le : (kepL l k).length ≤ k := by
  induction k with
  | zero => exact Nat.le_refl _
  | succ k ih =>
    unfold kepL
    rw [List.length_append]
    split
    · simp; omega
    · simp; omega
theorem kepL_skip (hk : 0 < k) (h : cmpArc (l.getD k a0) (l.getD (k - 1) a0) = 0) : kepL l (k + 1) = kepL l k := by
  show kepL l k ++ _ = _
  rw [if_neg (by omega), List.append_nil]
theorem kepL_keep (h : cmpArc (l.getD k a0) (l.getD (k - 1) a0) ≠ 0) : kepL l (k + 1) = kepL l k ++ [l.getD k a0] := by
  show kepL l k ++ _ = _
  rw [if_pos (Or.inr h)]
theorem kepL_one : kepL l 1 = [l.getD 0 a0] := rfl

/-- the row while it is worked at -/
def mixK (l : List ArcD) (k : Nat) : List ArcD := kepL l k ++ l.drop (kepL l k).length
theorem mixK_len (hk : k ≤ l.length) : (mixK l k).length = l.length := by
  have := kepL_le (l := l) (k := k)
  unfold mixK
  rw [List.length_append, List.length_drop]
  omega
theorem mixK_at {i : Nat} (hi : (kepL l k).length ≤ i) : (mixK l k).getD i a0 = l.getD i a0 := by
  unfold mixK
  simp only [List.getD_eq_getElem?_getD]
  rw [List.getElem?_append_right hi, List.getElem?_drop, Nat.add_sub_cancel' hi]
theorem mixK_skip (hk : 0 < k) (h : cmpArc (l.getD k a0) (l.getD (k - 1) a0) = 0) : mixK l (k + 1) = mixK l k := by
  unfold mixK
  rw [kepL_skip hk h]
theorem mixK_keep (hj : (kepL l k).length < l.length) (h : cmpArc (l.getD k a0) (l.getD (k - 1) a0) ≠ 0) : (mixK l k).set (kepL l k).length (l.getD k a0) = mixK l (k + 1) := by
  unfold mixK
  rw [kepL_keep h, List.set_append_right _ _ (Nat.le_refl _), Nat.sub_self, List.length_append, List.append_assoc]
  have e : (l.drop (kepL l k).length).set 0 (l.getD k a0) = [l.getD k a0] ++ l.drop ((kepL l k).length + [l.getD k a0].length) := by
    rw [List.drop_eq_getElem_cons hj]
    rfl
  rw [e]
theorem mixK_take : (mixK l k).take (kepL l k).length = kepL l k := by
  unfold mixK
  rw [List.take_left']
  rfl
theorem mixK_same (h : kepL l k = l.take k) (hk : k ≤ l.length) : mixK l k = l := by
  unfold mixK
  rw [h, List.length_take, Nat.min_eq_left hk, List.take_append_drop]
end

/-- a row of arcs at the head of a block, to be written -/
structure ARow (w : World) (g n : Nat) (xs : List ArcD) : Prop where
  len : xs.length = n
  cell : ∀ i j, i < n → j < 5 → w.cell? ⟨g, i * 5 + j, none⟩ = (arcCells (xs.getD i a0))[j]?
  frz : ∀ i, i < n * 5 → w.frozen? ⟨g, i, none⟩ = false

theorem ARow.of {w : World} {B e g n cap : Nat} {xs : List ArcD} (h : w.ownsRow B e 5 (.slice (some ⟨g, 0, none⟩) n cap) n (arcsV xs)) : ARow w g n xs ∧ n ≤ cap := by
  have hl0 := h.1
  rw [arcsV_len] at hl0
  have hl : xs.length = n := by omega
  obtain ⟨_, h⟩ := h
  rcases h with ⟨h, _⟩ | ⟨g', cap', cur, he, _, hh, h1, h2, h3, h4⟩
  · cases h
  · cases he
    refine ⟨⟨hl, fun i j hi hj => ?_, fun i _ => Go.Joins.unfrozen_of_block hh i⟩, h1⟩
    have h5 := arcsV_get xs i j (by omega) hj
    rw [← h4, List.getElem?_take, if_pos (by omega), Array.getElem?_toList] at h5
    rw [Go.Joins.cell_of_block hh]; exact h5

theorem ARow.lt {w : World} {g n : Nat} {xs : List ArcD} (h : ARow w g n xs) (hn : 0 < n) : g < w.heap.size := by
  have := h.cell 0 0 hn (by omega)
  exact cell_lt (v := .int .i64 (xs.getD 0 a0).src) (by rw [this]; rfl)

theorem ARow.below {w w' : World} {g n : Nat} {xs : List ArcD} (h : ARow w g n xs) (hb : Below w.heap.size w w') : ARow w' g n xs :=
  ⟨h.len, fun i j hi hj => (hb.cell (p := ⟨g, i * 5 + j, none⟩) (h.lt (by omega))).trans (h.cell i j hi hj), fun i hi => (hb.frozen (p := ⟨g, i, none⟩) (h.lt (by omega))).trans (h.frz i hi)⟩

theorem ARow.slice {w : World} {g n cap : Nat} {xs : List ArcD} (h : ARow w g n xs) (k : Nat) (hk : k ≤ n) (hn : n ≤ maxLen) : ASlice w (.slice (some ⟨g, 0, none⟩) k cap) (xs.take k) := by
  have hl := h.len
  have e : ∀ i, i < k → (xs.take k).getD i a0 = xs.getD i a0 := fun i hi => by simp [List.getD, hi]
  exact Or.inr ⟨g, 0, k, cap, rfl, ⟨by rw [List.length_take]; omega, fun i hi => by rw [e i hi, Nat.zero_add]; exact h.cell i 0 (by omega) (by omega), fun i hi => by rw [e i hi, Nat.zero_add]; exact h.cell i 1 (by omega) (by omega), fun i hi => by rw [e i hi, Nat.zero_add]; exact h.cell i 2 (by omega) (by omega), fun i hi => by rw [e i hi, Nat.zero_add]; exact h.cell i 3 (by omega) (by omega), fun i hi => by rw [e i hi, Nat.zero_add]; exact h.cell i 4 (by omega) (by omega)⟩, by omega⟩

theorem ARow.cleared {w : World} {g n cap : Nat} {xs : List ArcD} (h : ARow w g n xs) (k : Nat) (hk : k ≤ n) (hn : n ≤ maxLen) (vs : List Value) : ASlice (w.setCells g (k * 5) vs) (.slice (some ⟨g, 0, none⟩) k cap) (xs.take k) := by
  have hl := h.len
  have e : ∀ i, i < k → (xs.take k).getD i a0 = xs.getD i a0 := fun i hi => by simp [List.getD, hi]
  have q : ∀ i j, i < k → j < 5 → (w.setCells g (k * 5) vs).cell? ⟨g, i * 5 + j, none⟩ = (arcCells (xs.getD i a0))[j]? := fun i j hi hj => by
    rw [World.cell?_setCells_out]
    · exact h.cell i j (by omega) hj
    · intro _ _
      show i * 5 + j < k * 5 ∨ _
      omega
  exact Or.inr ⟨g, 0, k, cap, rfl, ⟨by rw [List.length_take]; omega, fun i hi => by rw [e i hi, Nat.zero_add]; exact q i 0 hi (by omega), fun i hi => by rw [e i hi, Nat.zero_add]; exact q i 1 hi (by omega), fun i hi => by rw [e i hi, Nat.zero_add]; exact q i 2 hi (by omega), fun i hi => by rw [e i hi, Nat.zero_add]; exact q i 3 hi (by omega), fun i hi => by rw [e i hi, Nat.zero_add]; exact q i 4 hi (by omega)⟩, by omega⟩

theorem ARow.set {w : World} {g n : Nat} {xs : List ArcD} (h : ARow w g n xs) (i : Nat) (hi : i < n) (a : ArcD) : ARow (w.setCells g (i * 5) (arcCells a)) g n (xs.set i a) := by
  refine ⟨by rw [List.length_set]; exact h.len, fun k c hk hc => ?_, fun k hk => ?_⟩
  · by_cases e : k = i
    · subst e
      have hg : (xs.set k a).getD k a0 = a := by simp [List.getD, h.len, hk]
      rw [hg, World.cell?_setCells_in g (arcCells a) (k * 5) w (fun j hj => by rw [h.cell k j hk hj]; simp [arcCells] at hj ⊢; exact hj) c hc]
      simp [arcCells, List.getElem?_eq_getElem (show c < ([.int .i64 a.src, .int .i64 a.inp, .int .i64 a.out, .int .i64 a.dst, .int .i64 a.wt] : List Value).length from hc)]
    · have hg : (xs.set i a).getD k a0 = xs.getD k a0 := by simp [List.getD, Ne.symm e]
      rw [hg, World.cell?_setCells_out]
      · exact h.cell k c hk hc
      · intro _ _
        show k * 5 + c < i * 5 ∨ i * 5 + 5 ≤ k * 5 + c
        omega
  · have e : ∀ (vs : List Value) (o : Nat) (w : World), (w.setCells g o vs).frozen? ⟨g, k, none⟩ = w.frozen? ⟨g, k, none⟩ := fun vs => by
      induction vs with
      | nil => intro _ _; rfl
      | cons v r ih => intro o w; show ((w.setCell ⟨g, o, none⟩ v).setCells g (o + 1) r).frozen? _ = _; rw [ih, World.frozen?_setCell]
    rw [e]
    exact h.frz k hk

/-- all blocks but one are as they were -/
def Apart (g : Nat) (w w' : World) : Prop := w.grownBy w' (some g)
theorem Apart.self {g : Nat} (w : World) : Apart g w w := ⟨rfl, rfl, rfl, Nat.le_refl _, fun _ _ _ => rfl⟩
theorem Apart.trans {g : Nat} {a b c : World} (h : Apart g a b) (k : Apart g b c) : Apart g a c := World.grownBy.trans h k
theorem Apart.of_bel {g : Nat} {w w' : World} (h : Below w.heap.size w w') : Apart g w w' := ⟨h.os, h.tape, h.output, h.size, fun k hk _ => h.block k hk⟩
theorem Apart.set {g : Nat} (w : World) (o : Nat) (vs : List Value) : Apart g w (w.setCells g o vs) := by
  have key : ∀ (vs : List Value) (o : Nat) (w : World), (w.setCells g o vs).os = w.os ∧ (w.setCells g o vs).tape = w.tape ∧ (w.setCells g o vs).output = w.output ∧ (w.setCells g o vs).heap.size = w.heap.size := fun vs => by
    induction vs with
    | nil => intro _ _; exact ⟨rfl, rfl, rfl, rfl⟩
    | cons v r ih =>
      intro o w
      obtain ⟨h1, h2, h3, h4⟩ := ih (o + 1) (w.setCell ⟨g, o, none⟩ v)
      exact ⟨h1.trans rfl, h2.trans rfl, h3.trans rfl, h4.trans (by simp [World.setCell])⟩
  obtain ⟨h1, h2, h3, h4⟩ := key vs o w
  exact ⟨h1, h2, h3, Nat.le_of_eq h4.symm, fun k hk hne => World.heap_setCells_other w g o vs hk (fun e => hne (by rw [e]))⟩
theorem Apart.below {g B : Nat} {w w' : World} (h : Apart g w w') (hB : B ≤ g) (hw : B ≤ w.heap.size) : Below B w w' :=
  ⟨h.os, h.tape, h.output, h.size, fun k hk => h.block k (by omega) (fun e => by injection e with e; omega)⟩

theorem clear_arcs (w : World) (ty g o n c : Nat) (hn : 0 < n) (hc : ∀ j, j < n * 5 → (w.cell? ⟨g, o + j, none⟩).isSome = true) (hf : ∀ j, j < n * 5 → w.frozen? ⟨g, o + j, none⟩ = false) :
    ∃ vs, (Builtin.clear_ #[23] ty #[.slice (some ⟨g, o, none⟩) n c]).run Try.prog w = .ok (.tuple #[]) (w.setCells g o vs) := by
  obtain ⟨vs, hvs⟩ : ∃ vs, vs = (Builtin.zeroCells #[.int .i64 0, .int .i64 0, .int .i64 0, .int .i64 0, .int .i64 0] n).toList := ⟨_, rfl⟩
  have hl : vs.length = n * 5 := by rw [hvs]; simp [Builtin.zeroCells]
  have h1 : ∀ v ∈ vs, v.oneCell' = true := by
    intro v hv
    rw [hvs] at hv
    simp only [Builtin.zeroCells, Array.toList_map, List.mem_map] at hv
    obtain ⟨i, _, rfl⟩ := hv
    have hm : i % 5 < 5 := by omega
    show ((#[.int .i64 0, .int .i64 0, .int .i64 0, .int .i64 0, .int .i64 0] : Array Value)[i % 5]!).oneCell' = true
    generalize i % 5 = r at hm ⊢
    match r, hm with
    | 0, _ => rfl
    | 1, _ => rfl
    | 2, _ => rfl
    | 3, _ => rfl
    | 4, _ => rfl
  have hst := run_storeCells_cells (P := Try.prog) g o vs 0 w (by rw [hl]; simpa using hc) (by rw [hl]; simpa using hf) h1
  simp only [Nat.add_zero] at hst
  obtain ⟨m, rfl⟩ : ∃ m, n = m + 1 := ⟨n - 1, by omega⟩
  refine ⟨vs, ?_⟩
  have hv := Try.zeroValue63
  have hz : (Builtin.zeroCells (Value.agg #[.int .i64 0, .int .i64 0, .int .i64 0, .int .i64 0, .int .i64 0]).cells (m + 1)).toList = vs := by rw [hvs]; rfl
  simp [Builtin.clear_, run_underlying Try.underlying23, hv, hz, hst]
end Go.Proofs.Yteehgcbjmdideaa
