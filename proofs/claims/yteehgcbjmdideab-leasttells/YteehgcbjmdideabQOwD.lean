/- 'meet' of the subsets. (Made by wip/gen/owd.py.) -/
import Derived.Test.YteehgcbjmdideabQM17
import Derived.Great.BuildSlice
namespace Go.Proofs.Yteehgcbjmdideab
open Go.RowKit
attribute [local go_sem ↓] Go.wp_at_zero Go.wp_at_succ
def padL (c : List Int) : List Int:=(List.range 200).map fun s => if gI c s = -1 then -1 else gI c s - cheapD c
theorem padL_len (c : List Int) : (padL c).length = 200:=by simp [padL]
theorem padL_at (c : List Int) {s : Nat} (hs : s < 200) : gI (padL c) s = if gI c s = -1 then -1 else gI c s - cheapD c:=by
 conv => lhs; unfold gI
 simp [padL,List.getD,hs]
def PrOk (c : List Int) : Prop:=∀ x ∈ c,x = -1 \/ (0 <= x /\ x <= 302000000000)
theorem snoc_ind {P : List Int -> Prop} (h0 : P []) (h1 : ∀ l a,P l -> P (l ++ [a])) (l : List Int) : P l:=by
 rw [<- List.reverse_reverse l]
 induction l.reverse with
 | nil => exact h0
 | cons a t ih => rw [List.reverse_cons]; exact h1 _ _ ih
theorem cheapD_what : ∀ c : List Int,PrOk c -> (cheapD c = -1 /\ ∀ x ∈ c,x = -1) \/ (0 <= cheapD c /\ cheapD c ∈ c /\ ∀ x ∈ c,x = -1 \/ cheapD c <= x):=by
 refine snoc_ind ?_ ?_
 ·intro _
  exact Or.inl ⟨rfl,fun x hx => by cases hx⟩
 ·intro l a ih h
  have hl:=ih (fun x hx => h x (List.mem_append_left _ hx))
  have ha:=h a (List.mem_append_right _ (by simp))
  rw [cheapD_snoc]
  unfold betterB
  rcases hl with ⟨e1,e2⟩ | ⟨e1,e2,e3⟩
  ·rw [e1]
   rcases ha with ha | ha
   ·left
    subst ha
    refine ⟨rfl,fun x hx => ?_⟩
    rcases List.mem_append.1 hx with hx | hx
    ·exact e2 x hx
    ·simpa using hx
   ·right
    have hb : ((a != -1) && (((-1 : Int) == -1) || decide (a < -1))) = true:=by
     have : ¬ a = -1:=by omega
     simp [this]
    rw [if_pos hb]
    refine ⟨ha.1,List.mem_append_right _ (by simp),fun x hx => ?_⟩
    rcases List.mem_append.1 hx with hx | hx
    ·exact Or.inl (e2 x hx)
    ·right
     have : x = a:=by simpa using hx
     omega
  ·right
   by_cases hb : ((a != -1) && ((cheapD l == -1) || decide (a < cheapD l))) = true
   ·rw [if_pos hb]
    have hb2 : ¬ a = -1 /\ (cheapD l = -1 \/ a < cheapD l):=by simpa using hb
    refine ⟨by omega,List.mem_append_right _ (by simp),fun x hx => ?_⟩
    rcases List.mem_append.1 hx with hx | hx
    ·rcases e3 x hx with h1 | h1
     ·exact Or.inl h1
     ·right; omega
    ·right
     have : x = a:=by simpa using hx
     omega
   ·rw [if_neg hb]
    have hb2 : ¬ (¬ a = -1 /\ (cheapD l = -1 \/ a < cheapD l)):=by simpa using hb
    refine ⟨e1,List.mem_append_left _ e2,fun x hx => ?_⟩
    rcases List.mem_append.1 hx with hx | hx
    ·exact e3 x hx
    ·have : x = a:=by simpa using hx
     omega
theorem padL_ok {c : List Int} (h : PrOk c) (hc : cheapD c ≠ -1) : SubOk (padL c):=by
 refine ⟨padL_len c,fun x hx => ?_⟩
 rcases cheapD_what c h with ⟨e,_⟩ | ⟨e1,_,e3⟩
 ·exact absurd e hc
 ·unfold padL at hx
  obtain ⟨s,_,rfl⟩:=List.mem_map.1 hx
  split
  ·omega
  ·rename_i hn
   have hm : gI c s ∈ c:=by
    unfold gI at hn ⊢
    rw [List.getD_eq_getElem?_getD] at hn ⊢
    rcases e : c[s]? with _ | y
    ·rw [e] at hn; exact absurd rfl hn
    ·exact List.mem_of_getElem? e
   have h1:=h _ hm
   have h2:=e3 _ hm
   omega
theorem nodupL_get {T : List (List Int)} (hn : T.Nodup) {p q : Nat} {s : List Int} (hp : T[p]? = some s) (hq : T[q]? = some s) : p = q:=by
 obtain ⟨h1,e1⟩:=List.getElem?_eq_some_iff.1 hp
 obtain ⟨h2,e2⟩:=List.getElem?_eq_some_iff.1 hq
 have hpw:=List.pairwise_iff_getElem.1 hn
 rcases Nat.lt_trichotomy p q with h | h | h
 ·exact absurd (e1.trans e2.symm) (hpw p q h1 h2 h)
 ·exact h
 ·exact absurd (e2.trans e1.symm) (hpw q p h2 h1 h)
structure SubW (w0 wr : World) (B Mb : Nat) (v : Value) (ms : List (List Int)) : Prop where
 bel : Below w0.heap.size w0 wr
 c0 : wr.cell? ⟨B,0,none⟩ = some v
 c1 : wr.cell? ⟨B,1,none⟩ = some (.map (some Mb))
 frz : wr.frozen? ⟨B,0,none⟩ = false
 map : SubAt wr Mb ms
 own : wr.ownsRow w0.heap.size 80 200 v ms.length (ms.flatMap intsW)
 b0 : w0.heap.size <= B
 m0 : w0.heap.size <= Mb
 bm : B ≠ Mb
 vb : v.ownBlock ≠ some B
 vm : v.ownBlock ≠ some Mb
 ok : ∀ l ∈ ms,SubOk l
 nd : ms.Nodup
theorem SubW.below {w0 wr wx : World} {B Mb : Nat} {v : Value} {ms : List (List Int)} (h : SubW w0 wr B Mb v ms) (hb : Below wr.heap.size wr wx) : SubW w0 wx B Mb v ms :=
 ⟨bel_on h.bel hb,bel_c hb h.c0,bel_c hb h.c1,(hb.frozen (p:=⟨B,0,none⟩) (cell_lt h.c0)).trans h.frz,h.map.block (hb.block Mb h.map.lt),ownsRow_bel h.own hb,h.b0,h.m0,h.bm,h.vb,h.vm,h.ok,h.nd⟩
def meetL (ms : List (List Int)) (l : List Int) : List (List Int):=if l ∈ ms then ms else ms ++ [l]
def fillS (k : Nat) : List Int:=List.replicate k (-1) ++ List.replicate (200 - k) 0
theorem fillS_len {k : Nat} (h : k <= 200) : (fillS k).length = 200:=by simp [fillS]; omega
theorem fillS_set {k : Nat} (h : k < 200) : (fillS k).set k (-1) = fillS (k + 1):=by
 unfold fillS
 apply List.ext_getElem?
 intro i
 rw [List.getElem?_set]
 by_cases e : k = i
 ·subst e
  rw [if_pos rfl,if_pos (by simp; omega),List.getElem?_append_left (by simp)]
  simp
 ·rw [if_neg e]
  by_cases h1 : i < k
  ·rw [List.getElem?_append_left (by simpa using h1),List.getElem?_append_left (by simp; omega)]
   simp [h1,show i < k + 1 by omega]
  ·rw [List.getElem?_append_right (by simp; omega),List.getElem?_append_right (by simp; omega)]
   simp only [List.length_replicate,List.getElem?_replicate]
   by_cases h2 : i < 200
   ·rw [if_pos (by omega),if_pos (by omega)]
   ·rw [if_neg (by omega),if_neg (by omega)]
def padK (c : List Int) (k : Nat) : List Int:=(List.range 200).map fun s => if s < k then (if gI c s = -1 then -1 else gI c s - cheapD c) else -1
theorem padK_len (c : List Int) (k : Nat) : (padK c k).length = 200:=by simp [padK]
theorem padK_zero (c : List Int) : padK c 0 = fillS 200:=by
 unfold padK fillS
 rw [Nat.sub_self,List.replicate_zero,List.append_nil]
 have : ∀ l : List Nat,(l.map fun s => if s < 0 then (if gI c s = -1 then -1 else gI c s - cheapD c) else -1) = List.replicate l.length (-1):=by
  intro l
  induction l with
  | nil => rfl
  | cons a l ih => rw [List.map_cons,ih,if_neg (Nat.not_lt_zero _)]; rfl
 rw [this,List.length_range]
theorem padK_none (c : List Int) {k : Nat} (hc : gI c k = -1) : padK c (k + 1) = padK c k:=by
 unfold padK
 apply List.map_congr_left
 intro s _
 by_cases e : s = k
 ·subst e
  rw [if_pos (Nat.lt_succ_self s),if_pos hc,if_neg (Nat.lt_irrefl s)]
 ·by_cases h : s < k
  ·rw [if_pos (by omega),if_pos h]
  ·rw [if_neg (by omega),if_neg h]
theorem padK_some (c : List Int) {k : Nat} (hk : k < 200) (hc : ¬ gI c k = -1) : padK c (k + 1) = (padK c k).set k (gI c k - cheapD c):=by
 unfold padK
 apply List.ext_getElem?
 intro i
 rw [List.getElem?_set]
 by_cases e : k = i
 ·subst e
  rw [if_pos rfl,if_pos (by simpa using hk)]
  simp [hk,hc]
 ·rw [if_neg e]
  by_cases h : i < 200
  ·simp only [List.getElem?_map,List.getElem?_range h,Option.map_some]
   by_cases h2 : i < k
   ·rw [if_pos (by omega),if_pos h2]
   ·rw [if_neg (by omega),if_neg h2]
  ·simp [h]
theorem padK_all (c : List Int) : padK c c.length = padL c:=by
 unfold padK padL
 apply List.map_congr_left
 intro s _
 by_cases h2 : s < c.length
 ·rw [if_pos h2]
 ·rw [if_neg h2]
  have : gI c s = -1:=by unfold gI; simp [List.getD,show c.length <= s by omega]
  rw [if_pos this]
theorem exec_load {P : Program} {w : World} {o : Oper} {ev : Operand -> Value} {t : TypeId} {x : Operand} {g : Addr} {v : Value} (ho : o.op = .load t x) (hx : ev x = .pointer (some g)) (h : (loadVar t g).run P w = .ok v w) : (execOp ev o).run P w = .ok (.value v) w:=by
 unfold execOp
 simp only [ho,hx,Instr.loadAt,Instr.sureAddr,Sem.run_bind,Sem.run_pure,Result.andThen_ok,h]
theorem exec_look {P : Program} {w : World} {o : Oper} {ev : Operand -> Value} {t : TypeId} {x y : Operand} {m k v : Value} {b : Bool} (ho : o.op = .lookup t x y b) (hx : ev x = m) (hy : ev y = k) (h : (Instr.lookup t m k b).run P w = .ok v w) : (execOp ev o).run P w = .ok (.value v) w:=by
 unfold execOp
 simp only [ho,hx,hy,Sem.run_bind,Sem.run_pure,Result.andThen_ok,h]
theorem load_spots {w : World} {g : Nat} {l : List Int} (h : w.heap[g]? = some (.cells (intsW l).toArray 80 (0,0))) (hl : l.length = 200) : (loadVar 80 ⟨g,0,none⟩).run Try.prog w = .ok (subV l) w :=
 run_loadVar_row _ _ 80 80 (intsW l).toArray (0,0) _ h und_spots rfl (by
  have : (Try.prog.info? 80).map (·.size) = some 200:=by kernel_rfl
  rw [this]
  simp [intsW,hl])
theorem wp_put {P : Program} {o : Oper} {a : Act} {w w' : World} {K : Act -> World -> Prop} {Q : Exit -> Act -> World -> Prop} {t : TypeId} {x y z : Operand} {m k v : Value} (ho : o.op = .mapUpdate t x y z) (hx : a.eval x = m) (hy : a.eval y = k) (hz : a.eval z = v) (h : (Instr.mapUpdate t m k v).run P w = .ok () w') (hK : K (a.put o.dst undef) w') : o.wp P a w K Q:=by
 unfold Oper.wp execOp
 simp only [ho,hx,hy,hz,Sem.run_bind,Sem.run_pure,Result.andThen_ok,h]
 rw [Oper.upon_skip]
 exact hK
theorem infoSp : ∃ i,Try.prog.info? 80 = some i /\ i.zero = some (.agg (intsW (fillS 0)).toArray) /\ i.size = 200 /\ i.bytes = 1600:=by
 have h : (Try.prog.info? 80).map (fun i => (i.zero,i.size,i.bytes)) = some (some (.agg (intsW (fillS 0)).toArray),200,1600):=by kernel_rfl
 obtain ⟨i,hi,hz⟩:=Option.map_eq_some_iff.1 h
 simp only [Prod.mk.injEq] at hz
 exact ⟨i,hi,hz.1,hz.2.1,hz.2.2⟩
theorem und_sl : Try.prog.underlying 73 = some (.slice 80):=by kernel_rfl
theorem wp_build_spots {o : Oper} {a : Act} {w : World} {K : Act -> World -> Prop} {Q : Exit -> Act -> World -> Prop} {x : Operand} {l : List Int} (ho : o.op = .buildSlice 73 1 #[(0,x)]) (hx : a.eval x = subV l) (hl : l.length = 200)
  (h : K (a.put o.dst (.slice (some ⟨w.heap.size,0,none⟩) 1 1)) (w.alloc (.cells (intsW l).toArray 80))) : o.wp Try.prog a w K Q:=by
 obtain ⟨i,hi,hz,hs,_⟩:=infoSp
 refine wp_buildSlice 73 80 1 _ ho _ i _ und_sl hi hz (by rw [hs]; decide) (by rw [hs]; decide) ?_ h
 rw [hs]
 have hw:=Great.fill_whole (s:=200) (by decide) [subV l] ((Array.range (1 * 200)).map ((Value.agg (intsW (fillS 0)).toArray).cells[· % (Value.agg (intsW (fillS 0)).toArray).cells.size]!)) (fun v hv => by
  rw [List.mem_singleton] at hv
  subst hv
  simp [subV,Value.cells,intsW,hl]) (by simp)
 have e : ((#[(0,x)] : Array (Nat × Operand)).map fun (i,x) => (i,a.eval x)).toList = (([subV l].zipIdx 0).map fun x => (x.2,x.1)):=by simp [hx]
 rw [e,hw]
 simp [subV,Value.cells]
structure SubP (w0 wr : World) (B Mb : Nat) (v : Value) (ms : List (List Int)) (l : List Int) : Prop where
 bel : Below w0.heap.size w0 wr
 c0 : wr.cell? ⟨B,0,none⟩ = some v
 c1 : wr.cell? ⟨B,1,none⟩ = some (.map (some Mb))
 frz : wr.frozen? ⟨B,0,none⟩ = false
 map : SubAt wr Mb (ms ++ [l])
 own : wr.ownsRow w0.heap.size 80 200 v ms.length (ms.flatMap intsW)
 b0 : w0.heap.size <= B
 m0 : w0.heap.size <= Mb
 bm : B ≠ Mb
 vb : v.ownBlock ≠ some B
 vm : v.ownBlock ≠ some Mb
theorem SubP.below {w0 wr wx : World} {B Mb : Nat} {v : Value} {ms : List (List Int)} {l : List Int} (h : SubP w0 wr B Mb v ms l) (hb : Below wr.heap.size wr wx) : SubP w0 wx B Mb v ms l :=
 ⟨bel_on h.bel hb,bel_c hb h.c0,bel_c hb h.c1,(hb.frozen (p:=⟨B,0,none⟩) (cell_lt h.c0)).trans h.frz,h.map.block (hb.block Mb h.map.lt),ownsRow_bel h.own hb,h.b0,h.m0,h.bm,h.vb,h.vm⟩
theorem frz_block {w w' : World} {b k : Nat} (hb : w'.heap[b]? = w.heap[b]?) (h : w.frozen? ⟨b,k,none⟩ = false) : w'.frozen? ⟨b,k,none⟩ = false:=by
 simp only [World.frozen?] at h ⊢
 rw [hb]
 exact h
theorem SubW.put {w0 wr wx : World} {B Mb : Nat} {v : Value} {ms : List (List Int)} {l : List Int} (h : SubW w0 wr B Mb v ms) (hg : wr.grownBy wx (some Mb)) (hm : SubAt wx Mb (ms ++ [l])) : SubP w0 wx B Mb v ms l:=by
 have hB:=cell_lt h.c0
 have hne : some B ≠ some Mb:=fun e => h.bm (by injection e)
 refine ⟨h.bel.grown hg (by have:=h.bel.size; omega) (fun k hk => by injection hk with hk; rw [<- hk]; exact h.m0),(hg.cell_far ⟨B,0,none⟩ hB hne).trans h.c0,(hg.cell_far ⟨B,1,none⟩ hB hne).trans h.c1,frz_block (hg.block B hB hne) h.frz,hm,h.own.kept hg ?_,h.b0,h.m0,h.bm,h.vb,h.vm⟩
 cases hv : v.ownBlock with
 | none => exact Or.inl rfl
 | some b => exact Or.inr fun e => h.vm (by rw [hv,e])
theorem SubP.app {w0 wr wx : World} {B Mb : Nat} {v v' : Value} {ms : List (List Int)} {l : List Int} (h : SubP w0 wr B Mb v ms l) (hok : ∀ l ∈ ms,SubOk l) (hnd : ms.Nodup) (hl : SubOk l) (hn : l ∉ ms) (hg : wr.grownBy wx v.ownBlock)
  (ho : wx.ownsRow w0.heap.size 80 200 v' (ms.length + 1) (ms.flatMap intsW ++ intsW l)) (hv : v'.ownBlock = v.ownBlock \/ v'.ownBlock = some wr.heap.size) : SubW w0 (wx.setCell ⟨B,0,none⟩ v') B Mb v' (ms ++ [l]):=by
 have hB:=cell_lt h.c0
 have hM:=h.map.lt
 have hneB : some B ≠ v.ownBlock:=fun e => h.vb e.symm
 have hneM : some Mb ≠ v.ownBlock:=fun e => h.vm e.symm
 have hvB : v'.ownBlock ≠ some B:=fun e => by
  rcases hv with hv | hv
  ·rw [hv] at e; exact h.vb e
  ·rw [hv] at e; injection e with e; omega
 have hvM : v'.ownBlock ≠ some Mb:=fun e => by
  rcases hv with hv | hv
  ·rw [hv] at e; exact h.vm e
  ·rw [hv] at e; injection e with e; omega
 have c0:=(hg.cell_far ⟨B,0,none⟩ hB hneB).trans h.c0
 have c1:=(hg.cell_far ⟨B,1,none⟩ hB hneB).trans h.c1
 have hb1 : Below w0.heap.size w0 wx:=h.bel.grown hg (by have:=h.bel.size; omega) (fun k hk => own_base h.own k hk)
 refine ⟨hb1.setCell (p:=⟨B,0,none⟩) h.b0 _,World.cell?_setCell_same _ _ _ c0,?_,by rw [World.frozen?_setCell]; exact frz_block (hg.block B hB hneB) h.frz,?_,?_,h.b0,h.m0,h.bm,hvB,hvM,fun x hx => ?_,?_⟩
 ·rw [World.cell?_setCell_other _ _ _ _ (by intro e1; injection e1 with _ e2; omega)]
  exact c1
 ·refine (h.map.block (hg.block Mb hM hneM)).block ?_
  exact Below.heap_setCell wx ⟨B,0,none⟩ v' Mb (fun e => h.bm e.symm)
 ·have e1 : (ms ++ [l]).length = ms.length + 1:=by simp
  have e2 : (ms ++ [l]).flatMap intsW = ms.flatMap intsW ++ intsW l:=by simp
  rw [e1,e2]
  exact ownsRow_setCell_far ho hvB
 ·rcases List.mem_append.1 hx with hx | hx
  ·exact hok x hx
  ·rw [List.mem_singleton.1 hx]; exact hl
 ·rw [List.nodup_append]
  refine ⟨hnd,by simp,fun a ha b hb e => ?_⟩
  rw [List.mem_singleton] at hb
  exact hn (by rw [<- hb,<- e]; exact ha)
theorem MStep.app {wr wx : World} {B Mb : Nat} {v v' : Value} (hg : wr.grownBy wx v.ownBlock) (hv : v'.ownBlock = v.ownBlock \/ v'.ownBlock = some wr.heap.size) : MStep B Mb wr v (wx.setCell ⟨B,0,none⟩ v') v':=by
 refine ⟨by have:=hg.size; simpa [World.setCell] using this,fun b hb hB _ hvb => ?_,fun g hgg => ?_⟩
 ·exact (Below.heap_setCell wx ⟨B,0,none⟩ v' b hB).trans (hg.block b hb (fun e => hvb e.symm))
 ·rcases hv with hv | hv
  ·exact Or.inl (by rw [<- hv]; exact hgg)
  ·rw [hv] at hgg
   injection hgg with hgg
   exact Or.inr (by omega)
theorem zeroS : (Try.prog.info? 80).map (fun i => (i.zero,i.size)) = some (some (.agg (intsW (fillS 0)).toArray),200):=by kernel_rfl
end Go.Proofs.Yteehgcbjmdideab
