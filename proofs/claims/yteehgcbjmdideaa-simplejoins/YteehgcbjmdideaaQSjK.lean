/- What the document's 'ScoreOf', 'BehindOf', 'AgainOf' say of transducers that are right: what is joined costs that. -/
import Derived.Test.YteehgcbjmdideaaQM26
namespace Go.Proofs.Yteehgcbjmdideaa
open Go.RowKit

theorem word_len {l : List Int} (h : wordD l = 0) : l.length ≤ 40 := by
  unfold wordD at h
  split at h
  · cases h
  · omega

theorem Fine.okw {f : FstD} (k : Fine f) {ins outs : List Int} (h1 : wordD ins = 0) (h2 : wordD outs = 0) : ∃ N s0 : Nat, f.states = N ∧ f.start = s0 ∧ f.final.length = N ∧ OkW f ins outs N s0 ∧ ∀ a ∈ f.arcs, (0 ≤ a.inp ∧ a.inp ≤ 9) ∧ (0 ≤ a.out ∧ a.out ≤ 9) := by
  obtain ⟨N, s0, e1, e2, hok, _⟩ := okW k.check h1 h2
  obtain ⟨_, _, _, _, _, _, _, hA⟩ := k.nums
  exact ⟨N, s0, e1, e2, hok.len, hok, fun a ha => ⟨(hA a ha).2.2.1, (hA a ha).2.2.2.1⟩⟩

theorem fin_at {w : World} {f : FstD} {a : Option Addr} {n c N : Nat} (hf : ISlice w (.slice a n c) f.final) (hl : f.final.length = N) (h1 : 1 ≤ N) : n = N ∧ ∃ fb fo, a = some ⟨fb, fo, none⟩ ∧ IntsAt w fb fo N f.final := by
  obtain ⟨_, _, _, e, h2, _⟩ := hf.lenOf
  injection e with _ e2
  have e3 : n = N := by omega
  subst e3
  obtain ⟨fb, fo, e4, hx⟩ := hf.some (by omega)
  exact ⟨rfl, fb, fo, e4, hx⟩

section
variable (f g : FstD) (ins outs : List Int) (fa : Option Addr) (fn fc : Nat) (aa : Option Addr) (an ac : Nat) (ga : Option Addr) (gn gc : Nat) (ba : Option Addr) (bn bc : Nat) (ia : Option Addr) (il ic : Nat) (oa : Option Addr) (ol oc : Nat) (w : World)

theorem scoreOf_fine (hc : checkD f = 0) (h1 : wordD ins = 0) (h2 : wordD outs = 0) (hf : ISlice w (.slice fa fn fc) f.final) (ha : ASlice w (.slice aa an ac) f.arcs) (hal : f.arcs.length = an) (hI : ISlice w (.slice ia il ic) ins) (hil : ins.length = il) (hO : ISlice w (.slice oa ol oc) outs) (hol : outs.length = ol) :
    Calls Try.prog 12 #[.agg #[.int .i64 f.states, .int .i64 f.start, .slice fa fn fc, .slice aa an ac], .slice ia il ic, .slice oa ol oc] w fun e w' => ∃ x, e = .returned (.int .i64 x) ∧ BestP f ins outs f.start.toNat x ∧ Below w.heap.size w w' := by
  obtain ⟨N, s0, e1, e2, e3, hok, hlet⟩ := (fine_of hc).okw h1 h2
  obtain ⟨rfl, fb, fo, rfl, hx⟩ := fin_at hf e3 hok.n1
  rw [e1, e2]
  refine (scoreOf_is f ins outs fn s0 fb fo fc aa an ac ia il ic oa ol oc w hok hlet hx ha hal hI hil hO hol).mono ?_
  rintro e w' ⟨x, he, hb, _, hbel⟩
  exact ⟨x, he, hb, hbel⟩

theorem behindOf_fine (hc : checkD f = 0) (hc' : checkD g = 0) (h1 : wordD ins = 0) (h2 : wordD outs = 0) (hf : ISlice w (.slice fa fn fc) f.final) (ha : ASlice w (.slice aa an ac) f.arcs) (hal : f.arcs.length = an) (hf' : ISlice w (.slice ga gn gc) g.final) (ha' : ASlice w (.slice ba bn bc) g.arcs) (hal' : g.arcs.length = bn) (hI : ISlice w (.slice ia il ic) ins) (hil : ins.length = il) (hic : il ≤ ic) (hO : ISlice w (.slice oa ol oc) outs) (hol : outs.length = ol) (hoc : ol ≤ oc) :
    Calls Try.prog 28 #[.agg #[.int .i64 f.states, .int .i64 f.start, .slice fa fn fc, .slice aa an ac], .agg #[.int .i64 g.states, .int .i64 g.start, .slice ga gn gc, .slice ba bn bc], .slice ia il ic, .slice oa ol oc] w fun e w' => ∃ x, e = .returned (.int .i64 x) ∧ BestP (behindD f g) ins outs (behindD f g).start.toNat x ∧ Below w.heap.size w w' := by
  have kf := fine_of hc
  have kg := fine_of hc'
  obtain ⟨N, s0, e1, e2, e3, hok, hlet⟩ := kf.okw h1 h2
  obtain ⟨M, t0, d1, d2, d3, hok', hlet'⟩ := kg.okw h1 h2
  obtain ⟨rfl, fb, fo, rfl, hx⟩ := fin_at hf e3 hok.n1
  obtain ⟨rfl, gb, go, rfl, hx'⟩ := fin_at hf' d3 hok'.n1
  have es : (behindD f g).start.toNat = s0 := by show f.start.toNat = s0; rw [e2]; rfl
  rw [es, e1, e2, d1, d2]
  refine (behindOf_any f g ins outs fn s0 fb fo fc aa an ac gn t0 gb go gc ba bn bc ia il ic oa ol oc w hok hlet hx ha hal hok' hlet' hx' ha' hal' hI hil hic hO hol hoc).mono ?_
  rintro e w' ⟨x, he, hb, hbel⟩
  refine ⟨x, he, best_mn.2 (hb.cong fun y => ?_), hbel⟩
  rw [BehS.all, behind_tot kf kg e1 d1 e2 d2]

theorem againOf_fine (hc : checkD f = 0) (h1 : wordD ins = 0) (h2 : wordD outs = 0) (hf : ISlice w (.slice fa fn fc) f.final) (ha : ASlice w (.slice aa an ac) f.arcs) (hal : f.arcs.length = an) (hI : ISlice w (.slice ia il ic) ins) (hil : ins.length = il) (hic : il ≤ ic) (hO : ISlice w (.slice oa ol oc) outs) (hol : outs.length = ol) (hoc : ol ≤ oc) :
    Calls Try.prog 29 #[.agg #[.int .i64 f.states, .int .i64 f.start, .slice fa fn fc, .slice aa an ac], .slice ia il ic, .slice oa ol oc] w fun e w' => ∃ x, e = .returned (.int .i64 x) ∧ BestP (againD f) ins outs (againD f).start.toNat x ∧ Below w.heap.size w w' := by
  have kf := fine_of hc
  obtain ⟨N, s0, e1, e2, e3, hok, hlet⟩ := kf.okw h1 h2
  obtain ⟨rfl, fb, fo, rfl, hx⟩ := fin_at hf e3 hok.n1
  have es : (againD f).start.toNat = fn := by show f.states.toNat = fn; rw [e1]; rfl
  rw [es, e1, e2]
  refine (againOf_any f ins outs fn s0 fb fo fc aa an ac ia il ic oa ol oc w hok hlet hx ha hal hI hil hic hO hol hoc).mono ?_
  rintro e w' ⟨x, he, hb, hbel⟩
  exact ⟨x, he, best_mn.2 (hb.cong fun y => (again_tot kf e1 e2 y).symm), hbel⟩
end

theorem either_best {f g : FstD} {ins outs : List Int} {a b : Int} (hc : checkD f = 0) (hc' : checkD g = 0) (ha : BestP f ins outs f.start.toNat a) (hb : BestP g ins outs g.start.toNat b) : BestP (eitherD f g) ins outs (eitherD f g).start.toNat (lessC a b) := by
  have kf := fine_of hc
  have kg := fine_of hc'
  obtain ⟨N, s0, e1, e2, _⟩ := kf.nums
  obtain ⟨M, t0, d1, d2, _⟩ := kg.nums
  have es : (eitherD f g).start.toNat = N + M := by show (f.states + g.states).toNat = N + M; omega
  rw [es]
  rw [e2, Int.toNat_natCast] at ha
  rw [d2, Int.toNat_natCast] at hb
  exact best_mn.2 (((best_mn.1 ha).less (best_mn.1 hb)).cong fun y => (either_tot kf kg e1 d1 e2 d2 y).symm)

theorem join_right {f g : FstD} (hc : checkD f = 0) (hc' : checkD g = 0) (h3 : f.states + g.states ≤ 198) (h4 : f.arcs.length + g.arcs.length ≤ 2500) : checkD (eitherD f g) = 0 ∧ checkD (behindD f g) = 0 := by
  have kf := fine_of hc
  have kg := fine_of hc'
  obtain ⟨N, s0, e1, e2, _⟩ := kf.nums
  obtain ⟨M, t0, d1, d2, _⟩ := kg.nums
  exact ⟨either_right kf kg e1 d1 e2 d2 h3 h4, behind_right kf kg e1 d1 e2 d2 h3 h4⟩
theorem aga_right {f : FstD} (hc : checkD f = 0) (h3 : f.states ≤ 198) (h4 : f.arcs.length ≤ 2500) : checkD (againD f) = 0 := by
  have kf := fine_of hc
  obtain ⟨N, s0, e1, e2, _⟩ := kf.nums
  exact again_right kf e1 e2 h3 h4
end Go.Proofs.Yteehgcbjmdideaa
