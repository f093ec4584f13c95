/- 'Joined' of the program: its loops. -/
import Derived.Test.YteehgcbjmdideabQM34
import Derived.Test.YteehgcbjmdideabQOwD
import Derived.Test.YteehgcbjmdideabQM18
set_option maxRecDepth 100000
namespace Go.Proofs.Yteehgcbjmdideab
open Go.RowKit Go.ChangeMaps
attribute [local go_sem ↓] Go.wp_at_zero Go.wp_at_succ
structure JIn (f : FstD) (N s0 : Nat) : Prop where
 n1 : 1 <= N
 n2 : N <= 200
 hs : s0 < N
 sta : f.start = (s0 : Int)
 many : f.arcs.length <= 3000
 flen : f.final.length = N
 fin : ∀ x ∈ f.final,-1 <= x /\ x <= 1000000000
 arcs : ∀ a ∈ f.arcs,∃ s t i : Nat,a.src = (s : Int) /\ a.dst = (t : Int) /\ a.inp = ((i + 1 : Nat) : Int) /\ s < N /\ t < N /\ i < 9
 wt : ∀ a ∈ f.arcs,0 <= a.wt /\ a.wt <= 1000000000
theorem gI_or {l : List Int} {s : Nat} : gI l s = -1 \/ gI l s ∈ l:=by
 unfold gI
 rcases h : l[s]? with _ | x
 ·left; rw [List.getD_eq_getElem?_getD,h]; rfl
 ·right; rw [List.getD_eq_getElem?_getD,h]; exact List.mem_of_getElem? h
theorem kindL_ok {f : FstD} {N s0 n : Nat} {cl : List Int} (hj : JIn f N s0) (hc : Cls N cl n) (hn : n <= 200) (s : Nat) : KinOk (kindL f.arcs f.final cl s):=by
 refine ⟨kindL_len _ _ _ _,fun x hx => ?_⟩
 obtain ⟨r,_,rfl⟩:=List.mem_map.1 hx
 have last : ∀ {s c : Nat} {a : ArcD},lastArc f.arcs s c = some a -> a ∈ f.arcs:=fun h => by
  unfold lastArc at h
  exact (List.mem_filter.1 (List.mem_of_getLast? h)).1
 unfold kcell
 split
 ·rcases gI_or (l:=f.final) (s:=(s * 19 + r) / 19) with h | h
  ·omega
  ·have:=hj.fin _ h; omega
 ·split
  ·unfold leapTo
   split
   ·rename_i a ha
    obtain ⟨_,t,_,_,ht,_,_,htn,_⟩:=hj.arcs a (last ha)
    have:=hc.lt t htn
    rw [ht,Int.toNat_natCast]
    omega
   ·omega
  ·unfold leapCo
   split
   ·rename_i a ha
    have:=hj.wt a (last ha)
    omega
   ·omega
structure JW (w wx : World) (N : Nat) (sta : Int) (fin arcs : Value) (cl : List Int) : Prop where
 rw : RW w wx N sta fin arcs
 zb : ZBlock wx (w.heap.size + 1)
 cl : NumsAt wx (w.heap.size + 2) N cl
section
variable {w wx wy : World} {N : Nat} {sta : Int} {fin arcs : Value} {cl : List Int}
theorem JW.below (h : JW w wx N sta fin arcs cl) (hb : Below wx.heap.size wx wy) : JW w wy N sta fin arcs cl:=⟨h.rw.below hb,heap_bel hb h.zb,h.cl.below hb⟩
theorem JW.put (h : JW w wx N sta fin arcs cl) (i : Nat) (x : Int) (hi : i < N) : JW w (wx.setCell ⟨w.heap.size + 2,i,none⟩ (.int .i64 x)) N sta fin arcs (cl.set i x):=⟨h.rw.set (by omega),heap_far h.zb (by omega),h.cl.set i x hi⟩
end
theorem JW.grown {w wx wy : World} {N M : Nat} {sta : Int} {fin arcs : Value} {cl : List Int} (h : JW w wx N sta fin arcs cl) (hg : wx.grownBy wy (some M)) (hM : w.heap.size + 2 < M) : JW w wy N sta fin arcs cl:=by
 have hl:=h.cl.lt
 have ne : ∀ b,b <= w.heap.size + 2 -> some b ≠ some M:=fun b hb e => by injection e with e; omega
 have cf:=h.rw.cf
 refine ⟨⟨⟨?_,?_,?_,?_⟩,h.rw.bel.grown hg (by have:=h.rw.bel.size; omega) (fun k hk => by injection hk with hk; omega)⟩,(hg.block _ (by omega) (ne _ (by omega))).trans h.zb,h.cl.block (hg.block _ hl (ne _ (by omega))) (Nat.lt_of_lt_of_le hl hg.size)⟩
 ·exact (hg.cell_far ⟨w.heap.size,0,none⟩ (by show w.heap.size < wx.heap.size; omega) (ne w.heap.size (by omega))).trans cf.1
 ·exact (hg.cell_far ⟨w.heap.size,1,none⟩ (by show w.heap.size < wx.heap.size; omega) (ne w.heap.size (by omega))).trans cf.2.1
 ·exact (hg.cell_far ⟨w.heap.size,2,none⟩ (by show w.heap.size < wx.heap.size; omega) (ne w.heap.size (by omega))).trans cf.2.2.1
 ·exact (hg.cell_far ⟨w.heap.size,3,none⟩ (by show w.heap.size < wx.heap.size; omega) (ne w.heap.size (by omega))).trans cf.2.2.2
def mixL (κ : Nat -> List Int) (N : Nat) (cl : List Int) (n : Nat) : List Int:=(clsK κ N).take n ++ cl.drop n
theorem mixL_zero (κ : Nat -> List Int) (N : Nat) (cl : List Int) : mixL κ N cl 0 = cl:=by simp [mixL]
theorem mixL_all {κ : Nat -> List Int} {N : Nat} {cl : List Int} (h : cl.length = N) : mixL κ N cl N = clsK κ N:=by
 unfold mixL
 rw [List.take_of_length_le (by rw [clsK_len]; exact Nat.le_refl _),List.drop_of_length_le (by omega),List.append_nil]
theorem mixL_next {κ : Nat -> List Int} {N n : Nat} {cl : List Int} (h : cl.length = N) (hn : n < N) : (mixL κ N cl n).set n (gI (clsK κ N) n) = mixL κ N cl (n + 1):=by
 have hc : (clsK κ N).length = N:=clsK_len
 apply List.ext_getElem?
 intro j
 unfold mixL
 by_cases e : j = n
 ·subst e
  rw [List.getElem?_set_self (by simp; omega),List.getElem?_append_left (by simp; omega),List.getElem?_take_of_lt (by omega),List.getElem?_eq_getElem (by omega)]
  unfold gI
  rw [List.getD_eq_getElem?_getD,List.getElem?_eq_getElem (by omega)]
  rfl
 ·rw [List.getElem?_set_ne (fun h => e h.symm)]
  by_cases h1 : j < n
  ·rw [List.getElem?_append_left (by simp; omega),List.getElem?_append_left (by simp; omega),List.getElem?_take_of_lt h1,List.getElem?_take_of_lt (by omega)]
  ·rw [List.getElem?_append_right (by simp; omega),List.getElem?_append_right (by simp; omega),List.getElem?_drop,List.getElem?_drop]
   congr 1
   simp
   omega
theorem SubAt.set {w : World} {b k i : Nat} {v : Value} {ms : List (List Int)} (h : SubAt w b ms) (hk : b ≠ k) : SubAt (w.setCell ⟨k,i,none⟩ v) b ms:=by
 obtain ⟨es,clock,h1,h2⟩:=h
 exact ⟨es,clock,heap_far h1 hk,h2⟩
theorem SubAt.below {w w' : World} {b : Nat} {ms : List (List Int)} (h : SubAt w b ms) (hb : Below w.heap.size w w') : SubAt w' b ms:=by
 obtain ⟨es,clock,h1,h2⟩:=h
 exact ⟨es,clock,heap_bel hb h1,h2⟩
theorem load_row {w : World} {g N n : Nat} {A : List ArcD} {fin cl : List Int} (h : ValsAt w g (N * 19) (intsV (kcell A fin cl))) (hn : n < N) : (loadVar 135 ⟨g,n * 19,none⟩).run Try.prog w = .ok (subV (kindL A fin cl n)) w:=by
 obtain ⟨fs,hu,_⟩:=fields_mk fields_kind
 refine run_loadVar_mid w g (n * 19) 135 (intsW (kindL A fin cl n)) _ (fun j v hv => ?_) hu rfl (by
  have : (Try.prog.info? 135).map (·.size) = some 19:=by kernel_rfl
  rw [this]
  simp [intsW,kindL_len])
 have hj : j < 19:=by
  have:=(List.getElem?_eq_some_iff.1 hv).1
  simpa [intsW,kindL_len] using this
 rw [h.cell (n * 19 + j) (by omega)]
 unfold intsW kindL at hv
 simp [List.getElem?_range hj] at hv
 rw [<- hv]
 rfl
theorem row_range {w : World} {g N n : Nat} {A : List ArcD} {fin cl : List Int} (h : ValsAt w g (N * 19) (intsV (kcell A fin cl))) (hn : n < N) : w.rangeAt g (n * 19) (intsW (kindL A fin cl n)):=fun j v hv => by
 have hj : j < 19:=by
  have:=(List.getElem?_eq_some_iff.1 hv).1
  simpa [intsW,kindL_len] using this
 rw [h.cell (n * 19 + j) (by omega)]
 unfold intsW kindL at hv
 simp [List.getElem?_range hj] at hv
 rw [<- hv]
 rfl
theorem size_kind : (Try.prog.info? 135).map (·.size) = some 19:=by kernel_rfl
theorem und_kind : ∃ d : TypeDesc,d.isRow = true /\ Try.prog.underlying 135 = some d:=by
 obtain ⟨fs,hu,_⟩:=fields_mk fields_kind
 exact ⟨_,rfl,hu⟩
theorem ints_one (l : List Int) : (intsW l).toArray.all (·.oneCell') = true:=by
 simp [intsW,Value.oneCell']
theorem blk_range {w : World} {g t : Nat} {cs : List Value} (h : w.heap[g]? = some (.cells cs.toArray t (0,0))) : w.rangeAt g 0 cs:=fun j v hv => by
 rw [Nat.zero_add,World.cell?]
 simp only [h]
 simpa using hv
theorem kin_len {w : World} {b : Nat} {ms : List (List Int)} (h : SubAt w b ms) (ty : TypeId) : (Builtin.len_ #[130] ty #[.map (some b)]).run Try.prog w = .ok (.int .i64 (ms.length : Int)) w:=by
 obtain ⟨es,clock,hb,hes⟩:=h
 have hl : es.size = ms.length:=by
  have:=congrArg List.length hes
  simpa using this
 simp [Builtin.len_,run_underlying und_kmap,MapKept.run_getObj_map hb,goInt,Result.andThen,hl]
theorem finer_stable {A : List ArcD} {fin cl : List Int} {N n : Nat} (hok : ∀ a ∈ A,∃ t : Nat,a.dst = (t : Int) /\ t < N) (hc : Cls N cl n) (hf : Finer (kindL A fin cl) N cl) (hn : (distK (kindL A fin cl) N).length = n) {s s' : Nat} (hs : s < N) (hs' : s' < N) (h : gI (clsK (kindL A fin cl) N) s = gI (clsK (kindL A fin cl) N) s') : kindL A fin (clsK (kindL A fin cl) N) s = kindL A fin (clsK (kindL A fin cl) N) s':=by
 rw [clsK_eq hs hs',kindL_eq] at h
 rw [kindL_eq]
 intro r hr
 have hh:=h r hr
 by_cases r0 : r = 0
 ·subst r0
  rw [Nat.add_zero,Nat.add_zero,kcell_end,kcell_end] at hh ⊢
  exact hh
 ·by_cases r1 : r % 2 = 1
  ·obtain ⟨i,hi,rfl⟩ : ∃ i,i < 9 /\ r = 1 + i * 2:=⟨r / 2,by omega,by omega⟩
   rw [<- Nat.add_assoc,<- Nat.add_assoc,kcell_to _ _ _ _ _ hi,kcell_to _ _ _ _ _ hi] at hh ⊢
   unfold leapTo at hh ⊢
   have dst : ∀ {s c : Nat} {a : ArcD},lastArc A s c = some a -> ∃ t : Nat,a.dst = (t : Int) /\ t < N:=fun h => by
    unfold lastArc at h
    exact hok _ (List.mem_filter.1 (List.mem_of_getLast? h)).1
   rcases e1 : lastArc A s (i + 1) with _ | a
   ·rcases e2 : lastArc A s' (i + 1) with _ | b
    ·rfl
    ·exfalso
     obtain ⟨t,ht,htn⟩:=dst e2
     simp only [e1,e2,ht,Int.toNat_natCast] at hh
     have:=(hc.lt t htn).1
     omega
   ·obtain ⟨t,ht,htn⟩:=dst e1
    rcases e2 : lastArc A s' (i + 1) with _ | b
    ·exfalso
     simp only [e1,e2,ht,Int.toNat_natCast] at hh
     have:=(hc.lt t htn).1
     omega
    ·obtain ⟨t',ht',htn'⟩:=dst e2
     simp only [e1,e2,ht,ht',Int.toNat_natCast] at hh ⊢
     exact (clsK_eq htn htn').2 (finer_same hc hf hn htn htn' hh)
  ·obtain ⟨i,hi,rfl⟩ : ∃ i,i < 9 /\ r = 1 + i * 2 + 1:=⟨r / 2 - 1,by omega,by omega⟩
   rw [show s * 19 + (1 + i * 2 + 1) = s * 19 + 1 + i * 2 + 1 by omega,show s' * 19 + (1 + i * 2 + 1) = s' * 19 + 1 + i * 2 + 1 by omega,kcell_co _ _ _ _ _ hi,kcell_co _ _ _ _ _ hi] at hh ⊢
   exact hh
end Go.Proofs.Yteehgcbjmdideab
/- 'Joined' of the program: the walk. -/
namespace Go.Proofs.Yteehgcbjmdideab
open Go.RowKit Go.ChangeMaps
attribute [local go_sem ↓] Go.wp_at_zero Go.wp_at_succ
set_option maxHeartbeats 6400000 in
theorem joined_any (f : FstD) (N s0 : Nat) (fin arcs : Value) (w : World) (hj : JIn f N s0) (hf : ISlice w fin f.final) (ha : ASlice w arcs f.arcs) (P : Int -> Value -> Value -> World -> Prop)
  (hP : ∀ K c d W,P K c d W -> P K c d ((((W.setCell ⟨w.heap.size + 1,0,none⟩ (.int .i64 K)).setCell ⟨w.heap.size + 1,1,none⟩ (.int .i64 0)).setCell ⟨w.heap.size + 1,2,none⟩ c).setCell ⟨w.heap.size + 1,3,none⟩ d))
  (hnum : ∀ (W : World) (cl : List Int) (n gk : Nat),Below w.heap.size w W -> Cls N cl n -> n <= 200 -> Finer (kindL f.arcs f.final cl) N cl -> (∀ s s',s < N -> s' < N -> gI cl s = gI cl s' -> kindL f.arcs f.final cl s = kindL f.arcs f.final cl s') -> NumsAt W (w.heap.size + 2) N cl -> ValsAt W gk (N * 19) (intsV (kcell f.arcs f.final cl)) -> Calls Try.prog 104 #[.int .i64 (s0 : Int),.slice (some ⟨w.heap.size + 2,0,none⟩) N N,.slice (some ⟨gk,0,none⟩) N N] W fun e w' => ∃ (K : Int) (ga : Option Addr) (gn gc : Nat) (ba : Option Addr) (bn bc : Nat),e = .returned (.agg #[.int .i64 K,.int .i64 0,.slice ga gn gc,.slice ba bn bc]) /\ P K (.slice ga gn gc) (.slice ba bn bc) w' /\ Below W.heap.size W w') :
  Calls Try.prog 80 #[.agg #[.int .i64 (N : Int),.int .i64 (s0 : Int),fin,arcs]] w fun e w' => ∃ (K : Int) (ga : Option Addr) (gn gc : Nat) (ba : Option Addr) (bn bc : Nat),e = .returned (.agg #[.int .i64 K,.int .i64 0,.slice ga gn gc,.slice ba bn bc]) /\ P K (.slice ga gn gc) (.slice ba bn bc) w' /\ Below w.heap.size w w':=by
 obtain ⟨fa,fn,fc,rfl,hfn,_⟩:=hf.lenOf
 obtain ⟨aa,m,ac,rfl,hal,_⟩:=ha.lenOf
 have hm3 : m <= 3000:=by have:=hj.many; omega
 obtain rfl : fn = N:=by have:=hj.flen; omega
 have HJ:=hid_of hj
 have hN1:=hj.n1
 have hN2:=hj.n2
 have HIN : Hid (∀ W,Below w.heap.size w W -> ISlice W (.slice fa fn fc) f.final /\ ASlice W (.slice aa m ac) f.arcs):=fun W h => ⟨hf.below h,ha.below h⟩
 have hmk:=run_make_row' (P:=Try.prog) 22 3 (.int .i64 0) 8 Try.underlying22 Try.info3 rfl .i64 .i64 fn (by omega) (by omega)
 have hmm:=@run_makeMap Try.prog
 obtain ⟨A1,hA1⟩ : ∃ W,W = w.alloc (.cells #[.int .i64 (fn : Int),.int .i64 (s0 : Int),.slice fa fn fc,.slice aa m ac] 25):=⟨_,rfl⟩
 have z1 : A1.heap.size = w.heap.size + 1:=by rw [hA1]; exact one_size _ _
 obtain ⟨A2,hA2⟩ : ∃ W,W = A1.alloc (.cells #[.int .i64 0,.int .i64 0,.slice none 0 0,.slice none 0 0] 25):=⟨_,rfl⟩
 have z2 : A2.heap.size = w.heap.size + 1 + 1:=by rw [hA2,one_size,z1]
 obtain ⟨A3,hA3⟩ : ∃ W,W = A2.alloc (.cells (madeCells #[.int .i64 0] fn) 3):=⟨_,rfl⟩
 have k1 : Below w.heap.size w A1:=by rw [hA1]; exact bel_up (bel_self _) _
 have k2 : Below A1.heap.size A1 A2:=by rw [hA2]; exact bel_up (bel_self _) _
 have k3 : Below A2.heap.size A2 A3:=by rw [hA3]; exact bel_up (bel_self _) _
 have hJ0 : JW w A3 fn (s0 : Int) (.slice fa fn fc) (.slice aa m ac) (List.replicate fn 0):=by
  refine ⟨⟨?_,bel_on k1 (bel_on k2 k3)⟩,?_,?_⟩
  ·have h1 : CellsF A1 w.heap.size (fn : Int) (s0 : Int) (.slice fa fn fc) (.slice aa m ac):=by rw [hA1]; exact cellsF_new _ _ _ _ _ _
   exact h1.below (bel_on k2 k3)
  ·have h1 : ZBlock A2 (w.heap.size + 1):=by unfold ZBlock; rw [hA2,<- z1]; exact heap_alloc_new A1 _
   exact heap_bel k3 h1
  ·have h1:=made_vals A2 (.int .i64 0) fn 3
   rw [<- hA3,z2] at h1
   exact ⟨by simp,fun i hi => by rw [h1.cell i hi]; simp [gI,List.getD_eq_getElem?_getD,hi],h1.frz,h1.lt⟩
 have HKI : Hid (∀ (W : World) (cl : List Int),JW w W fn (s0 : Int) (.slice fa fn fc) (.slice aa m ac) cl -> Calls Try.prog 103 #[.agg #[.int .i64 (fn : Int),.int .i64 (s0 : Int),.slice fa fn fc,.slice aa m ac],.slice (some ⟨w.heap.size + 2,0,none⟩) fn fn] W fun e w' => KindRes f fn cl W e w'):=fun W cl h => by
  have:=kindsOf_any f fn cl (.slice fa fn fc) (.slice aa m ac) (.slice (some ⟨w.heap.size + 2,0,none⟩) fn fn) W hj.n2 hj.many hj.flen h.cl.len hj.arcs (HIN.out W h.rw.bel).1 (HIN.out W h.rw.bel).2 (h.cl.slice fn (by unfold maxLen; omega))
  rw [hj.sta] at this
  exact this
 have hki:=HKI.out A3 _ hJ0
 have HA3 : Hid (A3 = ((w.alloc (.cells #[.int .i64 (fn : Int),.int .i64 (s0 : Int),.slice fa fn fc,.slice aa m ac] 25)).alloc (.cells #[.int .i64 0,.int .i64 0,.slice none 0 0,.slice none 0 0] 25)).alloc (.cells (madeCells #[.int .i64 0] fn) 3)):=by rw [<- hA1,<- hA2]; exact hA3
 have HNUM:=hid_of hnum
 have HP:=hid_of hP
 obtain ⟨q0,q1,q2,q3⟩:=hJ0.rw.cf
 rw [HA3.out] at q0 q1 q2 q3
 clear hA1 hA2 hA3 z1 z2 k1 k2 k3 hf ha hal hfn hj hnum hP
 go_enter Try.func80,Try.ntmps80
 go_wp2_with fail
 rw [<- HA3.out]
 refine hki.mono ?_
 rintro e w1 ⟨gk,rfl,hgk,hV,hb1⟩
 have hJ:=hJ0.below hb1
 have hJl:=hJ0.cl.lt
 clear hki hJ0 q0 q1 q2 q3 HA3
 have hgk2 : w.heap.size + 2 < gk:=by have:=hJl; omega
 go_wp2
 go_loopw [4,5] (fun t4 t5 wx => ∃ (cl : List Int) (cnt gk : Nat),t4 = .slice (some ⟨gk,0,none⟩) fn fn /\ t5 = .int .i64 (cnt : Int) /\ w.heap.size + 2 < gk /\ Cls fn cl cnt /\ Finer (kindL f.arcs f.final cl) fn cl /\ JW w wx fn (s0 : Int) (.slice fa fn fc) (.slice aa m ac) cl /\ ValsAt wx gk (fn * 19) (intsV (kcell f.arcs f.final cl))) (fun _ t5 _ => fn - (intOf t5).toNat)
 case atStart => exact ⟨_,1,gk,rfl,rfl,hgk2,cls_zero (by omega),finer_zero _ _,hJ,hV⟩
 case round =>
  clear hJ hV hgk hgk2 hb1
  obtain ⟨cl,cnt,gk,rfl,rfl,hgk,hcls,hfin,hJ,hV⟩:=hrel
  have HC:=hid_of (And.intro hcls hfin)
  have hcn : cnt <= fn:=Nat.le_trans (finer_more hcls hfin) (distK_len fn)
  obtain ⟨κ,hκ⟩ : ∃ κ,κ = kindL f.arcs f.final cl:=⟨_,rfl⟩
  have HK:=hid_of hκ
  obtain ⟨Mb,hMb⟩ : ∃ M,M = wr.heap.size:=⟨_,rfl⟩
  obtain ⟨Wm,hWm⟩ : ∃ W,W = wr.alloc (.map #[] 0):=⟨_,rfl⟩
  have hbm : Below wr.heap.size wr Wm:=by rw [hWm]; exact bel_up (bel_self _) _
  have hS0 : SubAt Wm Mb (distK κ 0):=⟨#[],0,by rw [hWm,hMb]; exact heap_alloc_new wr _,rfl⟩
  have hJm:=hJ.below hbm
  have hVm:=hV.below hbm
  have hMg : w.heap.size + 2 < Mb /\ gk < Mb:=by have:=hJ.cl.lt; have:=hV.lt; omega
  rw [<- mixL_zero κ fn cl] at hJm
  have HW:=hid_of (And.intro hMb hWm)
  clear hMb hWm hJ hV hκ hcls hfin
  go_wp2
  rw [<- HW.out.2,<- HW.out.1]
  clear HW
  go_loopw [20] (fun t20 wx => ∃ n : Nat,n <= fn /\ t20 = .int .i64 (n : Int) /\ JW w wx fn (s0 : Int) (.slice fa fn fc) (.slice aa m ac) (mixL κ fn cl n) /\ ValsAt wx gk (fn * 19) (intsV (kcell f.arcs f.final cl)) /\ SubAt wx Mb (distK κ n)) (fun t20 _ => fn - (intOf t20).toNat)
  case atStart => exact ⟨0,Nat.zero_le _,rfl,hJm,hVm,hS0⟩
  case round =>
   clear hJm hVm hS0 hbm
   obtain ⟨n,hn,rfl,hJ,hV,hS⟩:=hrel
   have hnw : IntKind.i64.wrap ((n : Int) + 1) = (n : Int) + 1:=wrap_in _ (by omega) (by omega)
   by_cases hlt : n < fn
   ·have hni : (n : Int) < fn:=by omega
    obtain ⟨l,hl⟩ : ∃ l,l = κ n:=⟨_,rfl⟩
    have HL:=hid_of hl
    obtain ⟨dk,hdk⟩:=und_kind
    have hll : l.length = 19:=by rw [hl,HK.out,kindL_len]
    have hrng : wr.rangeAt gk (n * 19) (intsW l):=by rw [hl,HK.out]; exact row_range hV hlt
    have HKO : Hid (KinOk l):=by rw [hl,HK.out]; exact kindL_ok HJ.out HC.out.1 (by omega) n
    have HKOS2 : Hid (∀ k ∈ distK κ (n + 1),KinOk k):=fun k hk => by
     obtain ⟨s,_,rfl⟩:=mem_distK.1 hk
     rw [HK.out]
     exact kindL_ok HJ.out HC.out.1 (by omega) s
    have HKOS : Hid (∀ k ∈ distK κ n,KinOk k):=fun k hk => by
     obtain ⟨s,_,rfl⟩:=mem_distK.1 hk
     rw [HK.out]
     exact kindL_ok HJ.out HC.out.1 (by omega) s
    clear hl
    go_upto_region 7 with fail
    refine wp_region_list ?_
    refine wpList_plain rfl (fun K hK => ?_)
    go_simp
    refine hK _ _ ?_
    clear hK K
    refine wpList_plain rfl (fun K hK => ?_)
    go_simp
    refine hK _ _ ?_
    clear hK K
    refine wpList_load_mid rfl 135 (.tmp 23) rfl gk (n * 19) rfl (intsW l) _ hrng hdk.2 hdk.1 (by rw [size_kind]; simp [intsW,hll]) ?_
    refine wpList_plain rfl (fun K hK => ?_)
    go_simp
    refine hK _ _ ?_
    clear hK K
    refine wpList_plain rfl (fun K hK => ?_)
    go_simp
    refine hK _ _ ?_
    clear hK K
    refine wpList_store_row rfl 135 (.tmp 8) (.tmp 24) rfl wr.heap.size (intsW l).toArray rfl rfl 135 _ (heap_alloc_new wr _) (by rw [size_kind]; simp [intsW,hll]) (by simp [intsW,hll]) (ints_one l) ?_
    rw [World.setRow_alloc_new]
    refine wpList_nil ?_
    obtain ⟨g,hg⟩ : ∃ g,g = wr.heap.size:=⟨_,rfl⟩
    obtain ⟨Wk,hWk⟩ : ∃ W,W = wr.alloc (.cells (intsW l).toArray 135):=⟨_,rfl⟩
    have hbk : Below wr.heap.size wr Wk:=by rw [hWk]; exact bel_up (bel_self _) _
    have hgk3 : Wk.heap[g]? = some (.cells (intsW l).toArray 135 (0,0)):=by rw [hWk,hg]; exact heap_alloc_new wr _
    have hrk : Wk.rangeAt g 0 (intsW l):=blk_range hgk3
    have hJk:=hJ.below hbk
    have hVk:=hV.below hbk
    have hSk:=hS.below hbk
    rw [<- hWk,<- hg]
    have hgM : Mb < g:=by rw [hg]; exact hS.lt
    clear hWk hg hJ hV hS hbk hrng
    by_cases hin : l ∈ distK κ n
    ·obtain ⟨j0,hj0,hlk,_⟩:=(kin_look hSk HKOS.out HKO.out).resolve_left (fun h => h.1 hin)
     have hlk : (Instr.lookup 130 (.map (some Mb)) (.agg (intsW l).toArray) true).run Try.prog Wk = .ok (.tuple #[.int .i64 (j0 : Int),.bool true]) Wk:=hlk
     go_upto_region 8 with fail
     refine wp_region_list ?_
     refine wpList_plain rfl (fun K hK => ?_)
     go_simp
     refine hK _ _ ?_
     clear hK K
     refine wpList_load_mid rfl 135 (.tmp 8) rfl g 0 rfl (intsW l) _ hrk hdk.2 hdk.1 (by rw [size_kind]; simp [intsW,hll]) ?_
     refine wpList_plain rfl (fun K hK => ?_)
     go_simp
     refine hK _ _ ?_
     clear hK K
     refine wpList_plain rfl (fun K hK => ?_)
     go_simp
     refine hK _ _ ?_
     clear hK K
     refine wpList_plain rfl (fun K hK => ?_)
     go_simp
     refine hK _ _ ?_
     clear hK K
     refine wpList_plain rfl (fun K hK => ?_)
     go_simp
     refine hK _ _ ?_
     clear hK K
     refine wpList_plain rfl (fun K hK => ?_)
     go_simp
     refine hK _ _ ?_
     clear hK K
     refine wpList_plain rfl (fun K hK => ?_)
     go_simp
     refine hK _ _ ?_
     clear hK K
     refine wpList_nil ?_
     have HD1 : Hid (distK κ (n + 1) = distK κ n):=by
      have e : κ n = l:=HL.out.symm
      show addK (distK κ n) (κ n) = _
      unfold addK
      rw [e,if_pos hin]
     have hSp:=hSk
     rw [<- HD1.out] at hSp
     have hJp:=hJk
     have hVp:=hVk
     have hrp:=hrk
     clear hlk hSk hJk hVk hrk hj0 hin
     obtain ⟨Wp,hWp⟩ : ∃ W,W = Wk:=⟨_,rfl⟩
     subst hWp
     have hlm : l ∈ distK κ (n + 1):=mem_distK.2 ⟨n,by omega,HL.out.symm⟩
     obtain ⟨j,hj1,_,hlk2⟩:=(kin_look hSp HKOS2.out HKO.out).resolve_left (fun h => h.1 hlm)
     have hlk2 : (Instr.lookup 130 (.map (some Mb)) (.agg (intsW l).toArray) false).run Try.prog Wp = .ok (.int .i64 (j : Int)) Wp:=hlk2
     have HJN : Hid (gI (clsK κ fn) n = (j : Int)):=by
      rw [clsK_at hlt,distK_at (n:=n + 1) (s:=n) (j:=j) (by omega) (by rw [hj1,HL.out])]
      exact rfl
     have hcc:=hJp.cl.cell n hlt
     have hcz:=hJp.cl.frz n
     obtain ⟨y,hy⟩ : ∃ y,y = gI (mixL κ fn cl n) n:=⟨_,rfl⟩
     rw [<- hy] at hcc
     clear hy
     have HREL : Hid (JW w (Wp.setCell ⟨w.heap.size + 2,n,none⟩ (.int .i64 (j : Int))) fn (s0 : Int) (.slice fa fn fc) (.slice aa m ac) (mixL κ fn cl (n + 1)) /\ ValsAt (Wp.setCell ⟨w.heap.size + 2,n,none⟩ (.int .i64 (j : Int))) gk (fn * 19) (intsV (kcell f.arcs f.final cl)) /\ SubAt (Wp.setCell ⟨w.heap.size + 2,n,none⟩ (.int .i64 (j : Int))) Mb (distK κ (n + 1))):=by
      have h1:=hJp.put n (j : Int) hlt
      rw [<- HJN.out,mixL_next HC.out.1.len hlt,HJN.out] at h1
      exact ⟨h1,hVp.other (by omega),hSp.set (by omega)⟩
     clear hJp hVp hSp hj1 HJN hlm
     go_upto_region 11 with fail
     refine wp_region_list ?_
     refine wpList_plain rfl (fun K hK => ?_)
     go_simp
     refine hK _ _ ?_
     clear hK K
     refine wpList_plain rfl (fun K hK => ?_)
     go_simp
     refine hK _ _ ?_
     clear hK K
     refine wpList_plain rfl (fun K hK => ?_)
     go_simp
     refine hK _ _ ?_
     clear hK K
     refine wpList_load_mid rfl 135 (.tmp 8) rfl g 0 rfl (intsW l) _ hrp hdk.2 hdk.1 (by rw [size_kind]; simp [intsW,hll]) ?_
     refine wpList_plain rfl (fun K hK => ?_)
     go_simp
     refine hK _ _ ?_
     clear hK K
     refine wpList_plain rfl (fun K hK => ?_)
     go_simp
     refine hK _ _ ?_
     clear hK K
     refine wpList_plain rfl (fun K hK => ?_)
     go_simp
     refine hK _ _ ?_
     clear hK K
     refine wpList_nil ?_
     clear hlk2 hcc hcz hrp
     go_wp2
     go_roundw
     case rel => exact ⟨n + 1,by omega,by go_num,HREL.out.1,HREL.out.2.1,HREL.out.2.2⟩
     case measure => simp [intOf]; omega
    ·obtain ⟨hlk,_⟩:=(kin_look hSk HKOS.out HKO.out).resolve_right (fun ⟨j,h1,_⟩ => hin (List.mem_of_getElem? h1)) |> fun h => And.intro h.2 trivial
     have hlk : (Instr.lookup 130 (.map (some Mb)) (.agg (intsW l).toArray) true).run Try.prog Wk = .ok (.tuple #[.int .i64 0,.bool false]) Wk:=hlk
     go_upto_region 8 with fail
     refine wp_region_list ?_
     refine wpList_plain rfl (fun K hK => ?_)
     go_simp
     refine hK _ _ ?_
     clear hK K
     refine wpList_load_mid rfl 135 (.tmp 8) rfl g 0 rfl (intsW l) _ hrk hdk.2 hdk.1 (by rw [size_kind]; simp [intsW,hll]) ?_
     refine wpList_plain rfl (fun K hK => ?_)
     go_simp
     refine hK _ _ ?_
     clear hK K
     refine wpList_plain rfl (fun K hK => ?_)
     go_simp
     refine hK _ _ ?_
     clear hK K
     refine wpList_plain rfl (fun K hK => ?_)
     go_simp
     refine hK _ _ ?_
     clear hK K
     refine wpList_plain rfl (fun K hK => ?_)
     go_simp
     refine hK _ _ ?_
     clear hK K
     refine wpList_plain rfl (fun K hK => ?_)
     go_simp
     refine hK _ _ ?_
     clear hK K
     refine wpList_plain rfl (fun K hK => ?_)
     go_simp
     refine hK _ _ ?_
     clear hK K
     refine wpList_nil ?_
     clear hlk
     have hlen:=kin_len hSk 3
     obtain ⟨Wp,hput,hSp,hgp⟩:=kin_put hSk HKOS.out HKO.out hin
     have hput : (Instr.mapUpdate 130 (.map (some Mb)) (.agg (intsW l).toArray) (.int .i64 ((distK κ n).length : Int))).run Try.prog Wk = .ok () Wp:=hput
     go_upto_region 10 with fail
     refine wp_region_list ?_
     refine wpList_plain rfl (fun K hK => ?_)
     go_simp
     refine hK _ _ ?_
     clear hK K
     refine wpList_load_mid rfl 135 (.tmp 8) rfl g 0 rfl (intsW l) _ hrk hdk.2 hdk.1 (by rw [size_kind]; simp [intsW,hll]) ?_
     refine wpList_plain rfl (fun K hK => ?_)
     go_simp
     refine hK _ _ ?_
     clear hK K
     refine wpList_plain rfl (fun K hK => ?_)
     go_simp
     refine hK _ _ ?_
     clear hK K
     refine wpList_plain rfl (fun K hK => ?_)
     go_simp
     refine hK _ _ ?_
     clear hK K
     refine wpList_nil ?_
     have hJp:=hJk.grown hgp hMg.1
     have hVp:=hVk.grown hgp (fun e => by injection e with e; omega)
     have hgp3 : Wp.heap[g]? = some (.cells (intsW l).toArray 135 (0,0)):=(hgp.block g (heap_lt hgk3) (fun e => by injection e with e; omega)).trans hgk3
     have hrp : Wp.rangeAt g 0 (intsW l):=blk_range hgp3
     have HD1 : Hid (distK κ (n + 1) = distK κ n ++ [l]):=by
      have e : κ n = l:=HL.out.symm
      show addK (distK κ n) (κ n) = _
      unfold addK
      rw [e,if_neg hin]
     rw [<- HD1.out] at hSp
     clear hput hlen hJk hVk hSk hgk3 hrk hgp hin
     have HX : Hid (∃ (Wp : World),JW w Wp fn (s0 : Int) (.slice fa fn fc) (.slice aa m ac) (mixL κ fn cl n) /\ True):=⟨Wp,hJp,trivial⟩
     clear HX
     have hlm : l ∈ distK κ (n + 1):=mem_distK.2 ⟨n,by omega,HL.out.symm⟩
     obtain ⟨j,hj1,_,hlk2⟩:=(kin_look hSp HKOS2.out HKO.out).resolve_left (fun h => h.1 hlm)
     have hlk2 : (Instr.lookup 130 (.map (some Mb)) (.agg (intsW l).toArray) false).run Try.prog Wp = .ok (.int .i64 (j : Int)) Wp:=hlk2
     have HJN : Hid (gI (clsK κ fn) n = (j : Int)):=by
      rw [clsK_at hlt,distK_at (n:=n + 1) (s:=n) (j:=j) (by omega) (by rw [hj1,HL.out])]
      exact rfl
     have hcc:=hJp.cl.cell n hlt
     have hcz:=hJp.cl.frz n
     obtain ⟨y,hy⟩ : ∃ y,y = gI (mixL κ fn cl n) n:=⟨_,rfl⟩
     rw [<- hy] at hcc
     clear hy
     have HREL : Hid (JW w (Wp.setCell ⟨w.heap.size + 2,n,none⟩ (.int .i64 (j : Int))) fn (s0 : Int) (.slice fa fn fc) (.slice aa m ac) (mixL κ fn cl (n + 1)) /\ ValsAt (Wp.setCell ⟨w.heap.size + 2,n,none⟩ (.int .i64 (j : Int))) gk (fn * 19) (intsV (kcell f.arcs f.final cl)) /\ SubAt (Wp.setCell ⟨w.heap.size + 2,n,none⟩ (.int .i64 (j : Int))) Mb (distK κ (n + 1))):=by
      have h1:=hJp.put n (j : Int) hlt
      rw [<- HJN.out,mixL_next HC.out.1.len hlt,HJN.out] at h1
      exact ⟨h1,hVp.other (by omega),hSp.set (by omega)⟩
     clear hJp hVp hSp hj1 HJN hlm
     go_upto_region 11 with fail
     refine wp_region_list ?_
     refine wpList_plain rfl (fun K hK => ?_)
     go_simp
     refine hK _ _ ?_
     clear hK K
     refine wpList_plain rfl (fun K hK => ?_)
     go_simp
     refine hK _ _ ?_
     clear hK K
     refine wpList_plain rfl (fun K hK => ?_)
     go_simp
     refine hK _ _ ?_
     clear hK K
     refine wpList_load_mid rfl 135 (.tmp 8) rfl g 0 rfl (intsW l) _ hrp hdk.2 hdk.1 (by rw [size_kind]; simp [intsW,hll]) ?_
     refine wpList_plain rfl (fun K hK => ?_)
     go_simp
     refine hK _ _ ?_
     clear hK K
     refine wpList_plain rfl (fun K hK => ?_)
     go_simp
     refine hK _ _ ?_
     clear hK K
     refine wpList_plain rfl (fun K hK => ?_)
     go_simp
     refine hK _ _ ?_
     clear hK K
     refine wpList_nil ?_
     clear hlk2 hcc hcz hrp
     go_wp2
     go_roundw
     case rel => exact ⟨n + 1,by omega,by go_num,HREL.out.1,HREL.out.2.1,HREL.out.2.2⟩
     case measure => simp [intOf]; omega
   ·obtain rfl : n = fn:=by omega
    have hnl : ¬ ((n : Int) < n):=by omega
    rw [mixL_all HC.out.1.len] at hJ
    have HFN : Hid (Finer (kindL f.arcs f.final (clsK κ n)) n (clsK κ n)):=by
     rw [HK.out]
     exact finer_next (fun a ha => by obtain ⟨_,t,_,_,h1,_,_,h2,_⟩:=HJ.out.arcs a ha; exact ⟨t,h1,h2⟩) HC.out.2
    have hki:=HKI.out wr _ hJ
    have hlen:=kin_len hS 3
    obtain ⟨q0,q1,q2,q3⟩:=hJ.rw.cf
    have HMORE:=hid_of (finer_more HC.out.1 HC.out.2)
    rw [<- HK.out] at HMORE
    obtain ⟨q,hq⟩ : ∃ q,q = (distK κ n).length:=⟨_,rfl⟩
    have hqn : q <= n:=by rw [hq]; exact distK_len n
    have HQ:=hid_of hq
    rw [<- hq] at HMORE hlen
    have hcq:=HMORE.out
    clear hq
    go_wp2_with fail
    refine hki.mono ?_
    rintro e w2 ⟨gk2,rfl,hgk2,hV2,hb2⟩
    have hJ2:=hJ.below hb2
    have hS2:=hS.below hb2
    have hlen:=kin_len hS2 3
    rw [<- HQ.out] at hlen
    have hgk4 : w.heap.size + 2 < gk2:=by have:=hJ.cl.lt; omega
    have HCL : Hid (Cls n (clsK κ n) q):=by rw [HQ.out]; exact clsK_cls κ n
    clear hki hJ hV hS q0 q1 q2 q3 hb2 hS2 hgk2
    by_cases hqc : q = cnt
    ·obtain ⟨q0,q1,q2,q3⟩:=hJ2.rw.cf
     have hnm:=HNUM.out w2 (clsK κ n) q gk2 hJ2.rw.bel HCL.out (by omega) HFN.out (fun s s' hs hs' h => by
      rw [HK.out] at h ⊢
      exact finer_stable (fun a ha => by obtain ⟨_,t,_,_,h1,_,_,h2,_⟩:=HJ.out.arcs a ha; exact ⟨t,h1,h2⟩) HC.out.1 HC.out.2 (by rw [<- HK.out,<- HQ.out,hqc]) hs hs' h) hJ2.cl hV2
     subst hqc
     go_wp2_with fail
     refine hnm.mono ?_
     rintro e w3 ⟨Kn,ga,gn,gc,ba,bn,bc,rfl,hPv,hb3⟩
     have hJ3:=hJ2.below hb3
     obtain ⟨z0,z1,z2,z3,z4,z5,z6,z7⟩:=zfacts hJ3.zb
     have HRES:=hid_of (And.intro (HP.out _ _ _ _ hPv) ((((hJ3.rw.set (g:=w.heap.size + 1) (i:=0) (v:=.int .i64 Kn) (by omega)).set (g:=w.heap.size + 1) (i:=1) (v:=.int .i64 0) (by omega)).set (g:=w.heap.size + 1) (i:=2) (v:=.slice ga gn gc) (by omega)).set (g:=w.heap.size + 1) (i:=3) (v:=.slice ba bn bc) (by omega)).bel)
     obtain ⟨r0,r1,r2,r3⟩:=set4_cells z0 z1 z2 z3 Kn 0 (.slice ga gn gc) (.slice ba bn bc)
     clear hPv hJ2 hJ3 hV2 hlen hnm hb3 q0 q1 q2 q3
     go_wp2
     exact bodyPost_ret (v:=.agg #[.int .i64 Kn,.int .i64 0,.slice ga gn gc,.slice ba bn bc]) (by simp [results,Try.results80,go_sem, *]) rfl ⟨Kn,ga,gn,gc,ba,bn,bc,rfl,HRES.out.1,HRES.out.2⟩
    ·have hqb : ((q : Int) == (cnt : Int)) = false:=by simp; omega
     go_wp2
     go_roundw
     case rel => exact ⟨clsK κ n,q,gk2,rfl,rfl,hgk4,HCL.out,HFN.out,hJ2,hV2⟩
     case measure => simp [intOf]; omega
end Go.Proofs.Yteehgcbjmdideab
/- The map of classes: its values are kinds. -/
namespace Go.Proofs.Yteehgcbjmdideab
open Go.RowKit Go.ChangeMaps
def KM (w : World) (b : Nat) (κ : Nat -> List Int) (ks : List Nat) : Prop:=∃ es clock,w.heap[b]? = some (.map es clock) /\ es.toList.map (fun e => (e.key,e.val)) = ks.map fun x : Nat => (Value.int .i64 (x : Int),subV (κ x))
section
variable {w w' : World} {b : Nat} {κ : Nat -> List Int} {ks : List Nat}
theorem KM.lt (h : KM w b κ ks) : b < w.heap.size:=by
 obtain ⟨es,clock,hb,_⟩:=h
 exact heap_lt hb
theorem KM.block (h : KM w b κ ks) (hb : w'.heap[b]? = w.heap[b]?) : KM w' b κ ks:=by
 obtain ⟨es,clock,h1,h2⟩:=h
 exact ⟨es,clock,hb.trans h1,h2⟩
theorem KM.below (h : KM w b κ ks) (hb : Below w.heap.size w w') : KM w' b κ ks:=h.block (hb.block b h.lt)
theorem km_at {es : List MapEntry} (h : es.map (fun e => (e.key,e.val)) = ks.map fun x : Nat => (Value.int .i64 (x : Int),subV (κ x))) {j : Nat} {e : MapEntry} (he : es[j]? = some e) : ∃ x,ks[j]? = some x /\ e.key = .int .i64 (x : Int) /\ e.val = subV (κ x):=by
 have h1:=congrArg (fun l => l[j]?) h
 simp only [List.getElem?_map,he,Option.map_some] at h1
 rcases hm : ks[j]? with _ | x
 ·rw [hm] at h1; cases h1
 ·rw [hm] at h1
  simp only [Option.map_some,Option.some.injEq,Prod.mk.injEq] at h1
  exact ⟨x,rfl,h1.1,h1.2⟩
theorem km_find {es : List MapEntry} (h : es.map (fun e => (e.key,e.val)) = ks.map fun x : Nat => (Value.int .i64 (x : Int),subV (κ x))) (hok : ∀ p ∈ ks,p <= 1000000) {x : Nat} (hx : x <= 1000000) :
  ((Instr.findKey 3 (.int .i64 (x : Int)) es).run Try.prog w = .ok none w /\ x ∉ ks) \/ ∃ j : Nat,(Instr.findKey 3 (.int .i64 (x : Int)) es).run Try.prog w = .ok (some (j,subV (κ x))) w /\ ks[j]? = some x:=by
 have hkeys : ∀ e ∈ es,∃ l,keyOf Try.prog 3 e.key = some l:=fun e he => by
  obtain ⟨j,hj⟩:=List.mem_iff_getElem?.1 he
  obtain ⟨p,h1,h2,_⟩:=km_at h hj
  rw [h2]
  exact ⟨_,key_num (hok p (List.mem_of_getElem? h1))⟩
 rcases keyN.find w (key_num hx) es hkeys with ⟨h1,h2⟩ | ⟨j,e,h1,h2,h3⟩
 ·left
  refine ⟨h1,fun hp => ?_⟩
  obtain ⟨j,hj⟩:=List.mem_iff_getElem?.1 hp
  have hlen : es.length = ks.length:=by
   have:=congrArg List.length h
   simpa using this
  have hlt : j < es.length:=by rw [hlen]; exact (List.getElem?_eq_some_iff.1 hj).1
  obtain ⟨p',h4,h5,_⟩:=km_at h (List.getElem?_eq_getElem hlt)
  rw [hj] at h4
  injection h4 with h4
  subst h4
  exact h2 _ (List.getElem_mem hlt) h5
 ·right
  obtain ⟨p,h4,h5,h6⟩:=km_at h h2
  rw [h3] at h5
  injection h5 with _ h5
  obtain rfl : p = x:=by omega
  exact ⟨j,by rw [h1,h6],h4⟩
theorem und_mapK : Try.prog.underlying 151 = some (.map 3 135):=by kernel_rfl
theorem km_look (h : KM w b κ ks) (hok : ∀ p ∈ ks,p <= 1000000) {x : Nat} (hx : x ∈ ks) :
  (Instr.lookup 151 (.map (some b)) (.int .i64 (x : Int)) false).run Try.prog w = .ok (subV (κ x)) w:=by
 obtain ⟨es,clock,hb,hes⟩:=h
 rcases km_find (w:=w) hes hok (hok x hx) with ⟨r1,r2⟩ | ⟨j,r1,r2⟩
 ·exact absurd hx r2
 ·simp [Instr.lookup,run_underlying und_mapK,MapKept.run_getObj_map hb,num_check (hok x hx),r1,Result.andThen]
theorem km_put (h : KM w b κ ks) (hok : ∀ p ∈ ks,p <= 1000000) {x : Nat} (hx : x <= 1000000) :
  ∃ w',(Instr.mapUpdate 151 (.map (some b)) (.int .i64 (x : Int)) (subV (κ x))).run Try.prog w = .ok () w' /\ KM w' b κ (if x ∈ ks then ks else ks ++ [x]) /\ w.grownBy w' (some b):=by
 obtain ⟨es,clock,hb,hes⟩:=h
 rcases km_find (w:=w) hes hok hx with ⟨r1,r2⟩ | ⟨j,r1,r2⟩
 ·refine ⟨setBlock w b (.map (es.push ⟨.int .i64 (x : Int),subV (κ x),clock⟩) (clock + 1)),?_,?_,?_⟩
  ·simp [Instr.mapUpdate,run_underlying und_mapK,MapKept.run_getObj_map hb,num_check hx,r1,MapKept.run_setObj_map _ hb,Result.andThen,setBlock]
  ·rw [if_neg r2]
   refine ⟨_,_,heap_setBlock_same hb _,?_⟩
   simp [hes]
  ·exact ⟨rfl,rfl,rfl,by simp [setBlock],fun k _ hne => heap_setBlock_other hb _ (fun e => hne (by rw [e]))⟩
 ·rw [if_pos (List.mem_of_getElem? r2)]
  have hjl : j < es.size:=by
   have h1:=(List.getElem?_eq_some_iff.1 r2).1
   have h2:=congrArg List.length hes
   simp at h2
   omega
  obtain ⟨x',e1,e2,e3⟩:=km_at hes (List.getElem?_eq_getElem (by simpa using hjl) : es.toList[j]? = some _)
  rw [r2] at e1
  injection e1 with e1
  subst e1
  have hk : (Option.map (fun x => x.key) es[j]?).getD (Value.int .i64 (x : Int)) = .int .i64 (x : Int):=by
   rw [Array.getElem?_eq_getElem hjl]
   simpa using e2
  have hst : (Instr.keyThatStays (.int .i64 (x : Int)) (.int .i64 (x : Int))).run Try.prog w = .ok (.int .i64 (x : Int)) w:=by
   have h : Instr.sameBits 10000 (Value.int .i64 (x : Int)) (Value.int .i64 (x : Int)) = true:=by simp [Instr.sameBits]
   simp [Instr.keyThatStays,h]
  refine ⟨setBlock w b (.map (es.modify j fun e => { key:=.int .i64 (x : Int),val:=subV (κ x),born:=e.born }) clock),?_,?_,?_⟩
  ·simp [Instr.mapUpdate,run_underlying und_mapK,MapKept.run_getObj_map hb,num_check hx,r1,MapKept.run_setObj_map _ hb,Result.andThen,setBlock,hk,hst]
  ·refine ⟨_,_,heap_setBlock_same hb _,?_⟩
   rw [<- hes]
   apply List.ext_getElem?
   intro i
   simp only [List.getElem?_map,Array.getElem?_toList,Array.getElem?_modify]
   by_cases e : j = i
   ·subst e
    rw [if_pos rfl,Array.getElem?_eq_getElem hjl]
    have e2 : es[j].key = .int .i64 (x : Int):=by simpa using e2
    have e3 : es[j].val = subV (κ x):=by simpa using e3
    simp [e2,e3]
   ·rw [if_neg e]
  ·exact ⟨rfl,rfl,rfl,by simp [setBlock],fun k _ hne => heap_setBlock_other hb _ (fun e => hne (by rw [e]))⟩
end
end Go.Proofs.Yteehgcbjmdideab
/- Mathematics of 'numbered': classes as they are first come to. -/
namespace Go.Proofs.Yteehgcbjmdideab
open Go.RowKit
def numStep (k : List Int) (n : Nat) (S : List Nat × List ArcD) (i : Nat) : List Nat × List ArcD :=
 if gI k (1 + i * 2) = -1 then S
 else
  let t:=(gI k (1 + i * 2)).toNat
  let met:=if t ∈ S.1 then S.1 else S.1 ++ [t]
  (met,S.2 ++ [⟨(n : Int),((i + 1 : Nat) : Int),((i + 1 : Nat) : Int),(met.idxOf t : Int),gI k (1 + i * 2 + 1)⟩])
def numLets (k : List Int) (n : Nat) (S : List Nat × List ArcD) : Nat -> List Nat × List ArcD
 | 0 => S
 | i + 1 => numStep k n (numLets k n S i) i
def numN (κ : Nat -> List Int) (c0 : Nat) : Nat -> List Nat × List Int × List ArcD
 | 0 => ([c0],[],[])
 | n + 1 =>
  let S:=numN κ c0 n
  let k:=κ (S.1.getD n 0)
  let T:=numLets k n (S.1,S.2.2) 9
  (T.1,S.2.1 ++ [gI k 0],T.2)
def LeapsIn (k : List Int) (m : Nat) : Prop:=∀ i,i < 9 -> gI k (1 + i * 2) = -1 \/ ∃ t : Nat,gI k (1 + i * 2) = (t : Int) /\ t < m
def MetOk (l : List Nat) (m : Nat) : Prop:=l.Nodup /\ ∀ x ∈ l,x < m
section
variable {k : List Int} {n m : Nat} {S : List Nat × List ArcD}
theorem numStep_ok (hk : LeapsIn k m) {i : Nat} (hi : i < 9) (h : MetOk S.1 m) : MetOk (numStep k n S i).1 m /\ ∃ l,(numStep k n S i).1 = S.1 ++ l:=by
 unfold numStep
 by_cases e : gI k (1 + i * 2) = -1
 ·rw [if_pos e]; exact ⟨h,[],by simp⟩
 ·rw [if_neg e]
  obtain ⟨t,ht,htm⟩:=(hk i hi).resolve_left e
  simp only [ht,Int.toNat_natCast]
  by_cases e2 : t ∈ S.1
  ·rw [if_pos e2]; exact ⟨h,[],by simp⟩
  ·rw [if_neg e2]
   refine ⟨⟨List.nodup_append.2 ⟨h.1,by simp,fun a ha b hb e => e2 (by rw [List.mem_singleton.1 hb] at e; rw [<- e]; exact ha)⟩,fun x hx => ?_⟩,[t],rfl⟩
   rcases List.mem_append.1 hx with hx | hx
   ·exact h.2 x hx
   ·rw [List.mem_singleton.1 hx]; exact htm
theorem numLets_ok (hk : LeapsIn k m) (h : MetOk S.1 m) : ∀ i,i <= 9 -> MetOk (numLets k n S i).1 m /\ ∃ l,(numLets k n S i).1 = S.1 ++ l
 | 0,_ => ⟨h,[],by simp [numLets]⟩
 | i + 1,hi => by
  obtain ⟨h1,l,hl⟩:=numLets_ok hk h i (by omega)
  obtain ⟨h2,l2,hl2⟩:=numStep_ok (n:=n) hk (by omega : i < 9) h1
  exact ⟨h2,l ++ l2,by show (numStep k n (numLets k n S i) i).1 = _; rw [hl2,hl,List.append_assoc]⟩
end
theorem numN_ok {κ : Nat → List Int} {c0 m : Nat} (hc : c0 < m) (hk : ∀ v, v < m → LeapsIn (κ v) m) : ∀ n, (∀ j, j < n → j < (numN κ c0 j).1.length) → MetOk (numN κ c0 n).1 m ∧ (numN κ c0 n).2.1.length = n
  | 0, _ => ⟨⟨by simp [numN], fun x hx => by have : x = c0 := by simpa [numN] using hx
                                             omega⟩, rfl⟩
  | n + 1, hn => by
    obtain ⟨h1, h2⟩ := numN_ok hc hk n (fun j hj => hn j (by omega))
    have hl := hn n (by omega)
    have hv : (numN κ c0 n).1.getD n 0 < m := by
      rw [List.getD_eq_getElem?_getD, List.getElem?_eq_getElem hl]
      exact h1.2 _ (List.getElem_mem hl)
    have h3 := numLets_ok (n := n) (S := ((numN κ c0 n).1, (numN κ c0 n).2.2)) (hk _ hv) h1 9 (by omega)
    exact ⟨h3.1, by show ((numN κ c0 n).2.1 ++ [_]).length = _; rw [List.length_append, h2]; rfl⟩
theorem metOk_len {l : List Nat} {m : Nat} (h : MetOk l m) : l.length <= m:=by
 have:=List.Nodup.length_le_of_subset h.1 (fun x hx => List.mem_range.2 (h.2 x hx) : l ⊆ List.range m)
 simpa using this
end Go.Proofs.Yteehgcbjmdideab
