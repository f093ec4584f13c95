/- 'numbered' of the program: the walk. (Made by wip/gen/kii.py.) -/
import Derived.Test.YteehgcbjmdideabQM36
import Derived.Test.YteehgcbjmdideabQLmC
set_option maxRecDepth 100000
namespace Go.Proofs.Yteehgcbjmdideab
open Go.RowKit Go.ChangeMaps
attribute [local go_sem ↓] Go.wp_at_zero Go.wp_at_succ
def ksN (cl : List Int) : Nat -> List Nat
 | 0 => []
 | n + 1 => if (gI cl n).toNat ∈ ksN cl n then ksN cl n else ksN cl n ++ [(gI cl n).toNat]
theorem ksN_mem {cl : List Int} {n x : Nat} : x ∈ ksN cl n ↔ ∃ s,s < n /\ (gI cl s).toNat = x:=by
 induction n with
 | zero => simp [ksN]
 | succ n ih =>
  unfold ksN
  by_cases h : (gI cl n).toNat ∈ ksN cl n
  ·rw [if_pos h,ih]
   constructor
   ·rintro ⟨s,h1,h2⟩; exact ⟨s,by omega,h2⟩
   ·rintro ⟨s,h1,h2⟩
    by_cases e : s = n
    ·subst e; exact ih.1 (by rw [<- h2]; exact h)
    ·exact ⟨s,by omega,h2⟩
  ·rw [if_neg h,List.mem_append,ih]
   constructor
   ·rintro (⟨s,h1,h2⟩ | h1)
    ·exact ⟨s,by omega,h2⟩
    ·exact ⟨n,by omega,(List.mem_singleton.1 h1).symm⟩
   ·rintro ⟨s,h1,h2⟩
    by_cases e : s = n
    ·subst e; exact Or.inr (by simp [h2])
    ·exact Or.inl ⟨s,by omega,h2⟩
theorem leaps_in {f : FstD} {N s0 n : Nat} {cl : List Int} (hj : JIn f N s0) (hc : Cls N cl n) (s : Nat) : LeapsIn (kindL f.arcs f.final cl s) n:=fun i hi => by
 have e : gI (kindL f.arcs f.final cl s) (1 + i * 2) = leapTo f.arcs cl s (i + 1):=by
  rw [<- kcell_to f.arcs f.final cl s i hi]
  unfold gI kindL
  rw [List.getD_eq_getElem?_getD,List.getElem?_map,List.getElem?_range (by omega)]
  show kcell f.arcs f.final cl (s * 19 + (1 + i * 2)) = _
  rw [<- Nat.add_assoc]
 rw [e]
 unfold leapTo
 split
 ·rename_i a ha
  right
  unfold lastArc at ha
  obtain ⟨_,t,_,_,ht,_,_,htn,_⟩:=hj.arcs a (List.mem_filter.1 (List.mem_of_getLast? ha)).1
  have:=hc.lt t htn
  rw [ht,Int.toNat_natCast]
  exact ⟨(gI cl t).toNat,by omega,by omega⟩
 ·exact Or.inl rfl
def NumRes (κ : Nat -> List Int) (c0 : Nat) (w : World) (e : Ending) (w' : World) : Prop :=
 ∃ (m : Nat) (ga : Option Addr) (gn gc : Nat) (ba : Option Addr) (bn bc : Nat),RunN κ c0 m /\ e = .returned (.agg #[.int .i64 (m : Int),.int .i64 0,.slice ga gn gc,.slice ba bn bc]) /\ ISlice w' (.slice ga gn gc) (numN κ c0 m).2.1 /\ ASlice w' (.slice ba bn bc) (numN κ c0 m).2.2 /\ (∀ b,(Value.slice ga gn gc).ownBlock = some b -> w.heap.size <= b) /\ (∀ b,(Value.slice ba bn bc).ownBlock = some b -> w.heap.size <= b) /\ Below w.heap.size w w'
structure NW (w wx : World) (N gc gk : Nat) (cl : List Int) (κ : Nat -> Int) : Prop where
 bel : Below w.heap.size w wx
 zb : ZBlock wx w.heap.size
 cl : NumsAt wx gc N cl
 ki : ValsAt wx gk (N * 19) (intsV κ)
section
variable {w wx wy : World} {N gc gk : Nat} {cl : List Int} {κ : Nat -> Int}
theorem NW.below (h : NW w wx N gc gk cl κ) (hb : Below wx.heap.size wx wy) : NW w wy N gc gk cl κ:=⟨bel_on h.bel hb,heap_bel hb h.zb,h.cl.below hb,h.ki.below hb⟩
theorem NW.grown {M : Nat} (h : NW w wx N gc gk cl κ) (hg : wx.grownBy wy (some M)) (hM : w.heap.size < M) (h1 : gc ≠ M) (h2 : gk ≠ M) : NW w wy N gc gk cl κ:=by
 have ne : ∀ {b : Nat},b ≠ M -> some b ≠ some M:=fun hb e => by injection e with e; exact hb e
 exact ⟨h.bel.grown hg (by have:=h.bel.size; omega) (fun k hk => by injection hk with hk; omega),(hg.block _ (heap_lt h.zb) (ne (by omega))).trans h.zb,h.cl.block (hg.block _ h.cl.lt (ne h1)) (Nat.lt_of_lt_of_le h.cl.lt hg.size),h.ki.grown hg (ne h2)⟩
end
set_option maxHeartbeats 6400000 in
theorem numbered_any (f : FstD) (N s0 n0 gc gk : Nat) (cl : List Int) (κ : Nat -> List Int) (w : World) (hj : JIn f N s0) (hcls : Cls N cl n0) (hn0 : n0 <= 200) (hκ : ∀ s,s < N -> κ (gI cl s).toNat = kindL f.arcs f.final cl s) (hcl : NumsAt w gc N cl) (hki : ValsAt w gk (N * 19) (intsV (kcell f.arcs f.final cl))) :
  Calls Try.prog 104 #[.int .i64 (s0 : Int),.slice (some ⟨gc,0,none⟩) N N,.slice (some ⟨gk,0,none⟩) N N] w fun e w' => NumRes κ (gI cl s0).toNat w e w':=by
 have HJ:=hid_of hj
 have HCL:=hid_of hcls
 have HKA:=hid_of hκ
 have hN1:=hj.n1
 have hN2:=hj.n2
 have hmm:=@run_makeMap Try.prog
 have hgcw:=hcl.lt
 have hgkw:=hki.lt
 obtain ⟨A1,hA1⟩ : ∃ W,W = w.alloc (.cells #[.int .i64 0,.int .i64 0,.slice none 0 0,.slice none 0 0] 25):=⟨_,rfl⟩
 obtain ⟨A2,hA2⟩ : ∃ W,W = A1.alloc (.map #[] 0):=⟨_,rfl⟩
 have z1 : A1.heap.size = w.heap.size + 1:=by rw [hA1]; exact one_size _ _
 have k1 : Below w.heap.size w A1:=by rw [hA1]; exact bel_up (bel_self _) _
 have k2 : Below A1.heap.size A1 A2:=by rw [hA2]; exact bel_up (bel_self _) _
 have hW0 : NW w A2 N gc gk cl (kcell f.arcs f.final cl):=NW.below ⟨k1,by unfold ZBlock; rw [hA1]; exact heap_alloc_new w _,hcl.below k1,hki.below k1⟩ k2
 obtain ⟨Mb,hMb⟩ : ∃ M,M = w.heap.size + 1:=⟨_,rfl⟩
 have hM0 : KM A2 Mb κ (ksN cl 0):=⟨#[],0,by rw [hA2,hMb,<- z1]; exact heap_alloc_new A1 _,rfl⟩
 have HA:=hid_of (And.intro (show A2 = (w.alloc (.cells #[.int .i64 0,.int .i64 0,.slice none 0 0,.slice none 0 0] 25)).alloc (.map #[] 0) by rw [hA2,hA1]) hMb)
 have hMw : w.heap.size < Mb:=by omega
 clear hA1 hA2 z1 k1 k2 hMb hcl hki hj hκ hcls
 go_enter Try.func104,Try.ntmps104
 go_wp2
 rw [<- HA.out.1,<- HA.out.2]
 clear HA
 go_loopw [22] (fun t22 wx => ∃ n : Nat,n <= N /\ t22 = .int .i64 (n : Int) /\ NW w wx N gc gk cl (kcell f.arcs f.final cl) /\ KM wx Mb κ (ksN cl n)) (fun t22 _ => N - (intOf t22).toNat)
 case atStart => exact ⟨0,Nat.zero_le _,rfl,hW0,hM0⟩
 case round =>
  clear hW0 hM0
  obtain ⟨n,hn,rfl,hW,hM⟩:=hrel
  have hnw : IntKind.i64.wrap ((n : Int) + 1) = (n : Int) + 1:=wrap_in _ (by omega) (by omega)
  by_cases hlt : n < N
  ·have hni : (n : Int) < N:=by omega
   have c0:=hW.cl.cell n hlt
   obtain ⟨x,hx⟩ : ∃ x,x = (gI cl n).toNat:=⟨_,rfl⟩
   have hxi : gI cl n = (x : Int):=by have:=(HCL.out.lt n hlt).1; omega
   rw [hxi] at c0
   have hx2 : x <= 1000000:=by have:=(HCL.out.lt n hlt).2; omega
   obtain ⟨l,hl⟩ : ∃ l,l = κ x:=⟨_,rfl⟩
   have hll : l.length = 19:=by rw [hl,hx,HKA.out n hlt,kindL_len]
   have hrng : wr.rangeAt gk (n * 19) (intsW l):=by rw [hl,hx,HKA.out n hlt]; exact row_range hW.ki hlt
   obtain ⟨dk,hdk⟩:=und_kind
   obtain ⟨Wp,hput,hMp,hgp⟩:=km_put hM (fun p hp => by obtain ⟨s,h1,rfl⟩:=ksN_mem.1 hp; have:=(HCL.out.lt s (by omega)).2; omega) hx2
   have hput : (Instr.mapUpdate 151 (.map (some Mb)) (.int .i64 (x : Int)) (.agg (intsW l).toArray)).run Try.prog wr = .ok () Wp:=by rw [hl]; exact hput
   have HMP : Hid (KM Wp Mb κ (ksN cl (n + 1))):=by
    show KM Wp Mb κ (if (gI cl n).toNat ∈ ksN cl n then ksN cl n else ksN cl n ++ [(gI cl n).toNat])
    rw [<- hx]
    exact hMp
   have HWP:=hid_of (hW.grown hgp hMw (by omega) (by omega))
   clear hl hx hxi hMp hgp hW hM
   go_upto_region 5 with fail
   refine wp_region_list ?_
   refine wpList_plain rfl (fun K hK => ?_)
   go_simp
   refine hK _ _ ?_
   clear hK K
   refine wpList_plain rfl (fun K hK => ?_)
   go_simp
   refine hK _ _ ?_
   clear hK K
   refine wpList_plain rfl (fun K hK => ?_)
   go_simp
   refine hK _ _ ?_
   clear hK K
   refine wpList_plain rfl (fun K hK => ?_)
   go_simp
   refine hK _ _ ?_
   clear hK K
   refine wpList_plain rfl (fun K hK => ?_)
   go_simp
   refine hK _ _ ?_
   clear hK K
   refine wpList_load_mid rfl 135 (.tmp 31) rfl gk (n * 19) rfl (intsW l) _ hrng hdk.2 hdk.1 (by rw [size_kind]; simp [intsW,hll]) ?_
   refine wpList_plain rfl (fun K hK => ?_)
   go_simp
   refine hK _ _ ?_
   clear hK K
   refine wpList_nil ?_
   clear hput hrng c0
   go_wp2
   go_roundw
   case rel => exact ⟨n + 1,by omega,by go_num,HWP.out,HMP.out⟩
   case measure => simp [intOf]; omega
  ·obtain rfl : n = N:=by omega
   have hnl : ¬ ((n : Int) < n):=by omega
   have hs0:=HJ.out.hs
   have hs0i : (s0 : Int) < n:=by omega
   have c0:=hW.cl.cell s0 hs0
   obtain ⟨x,hx⟩ : ∃ x,x = (gI cl s0).toNat:=⟨_,rfl⟩
   have hxi : gI cl s0 = (x : Int):=by have:=(HCL.out.lt s0 hs0).1; omega
   rw [hxi] at c0
   clear hxi
   have HX:=hid_of hx
   clear hx
   have b1 : Below wr.heap.size wr (wr.alloc (.cells #[.int .i64 0,.int .i64 0,.slice none 0 0,.slice none 0 0] 25)):=bel_up (bel_self _) _
   have d1:=bel_c b1 c0
   have d2:=bel_c (bel_up b1 (.cells #[.int .i64 (x : Int)] 3)) c0
   have d3:=bel_c (bel_up (bel_up b1 (.cells #[.int .i64 (x : Int)] 3)) (.map #[] 0)) c0
   have hx3 : x < n0:=by have:=(HCL.out.lt s0 hs0).1; have:=(HCL.out.lt s0 hs0).2; have:=HX.out; omega
   obtain ⟨Wq,hput,hG⟩:=NG.start hW.bel hW.zb hM hMw x (by omega)
   obtain ⟨Q,hQ⟩ : ∃ Q,Q = wr.heap.size:=⟨_,rfl⟩
   obtain ⟨Ab,hAb⟩ : ∃ Q,Q = wr.heap.size + 1 + 1:=⟨_,rfl⟩
   rw [<- hAb,<- hQ] at hG
   have HQ:=hid_of (And.intro hQ hAb)
   clear hW hM hQ hAb b1
   go_wp2
   rw [<- HQ.out.2,<- HQ.out.1]
   clear HQ d1 d2 d3 c0 hput hs0i hnl hnw
   have HLI : Hid (∀ v,v < n0 -> LeapsIn (κ v) n0):=fun v hv => by
    obtain ⟨s,hs,e⟩:=HCL.out.on v hv
    have:=HKA.out s hs
    rw [e,Int.toNat_natCast] at this
    rw [this]
    exact leaps_in HJ.out HCL.out s
   have HLL : Hid (∀ v,v < n0 -> (κ v).length = 19 /\ v ∈ ksN cl n /\ KinOk (κ v)):=fun v hv => by
    obtain ⟨s,hs,e⟩:=HCL.out.on v hv
    have:=HKA.out s hs
    rw [e,Int.toNat_natCast] at this
    rw [this]
    exact ⟨kindL_len _ _ _ _,ksN_mem.2 ⟨s,hs,by rw [e,Int.toNat_natCast]⟩,kindL_ok HJ.out HCL.out hn0 s⟩
   go_loopw [11,13] (fun t11 t13 wx => ∃ (q : Nat) (ma : Option Addr) (ml mc : Nat) (fv av : Value),t11 = .slice ma ml mc /\ t13 = .int .i64 (q : Int) /\ q <= (numN κ x q).1.length /\ (∀ j,j < q -> j < (numN κ x j).1.length) /\ NG w wx Mb Q Ab κ (ksN cl n) (.slice ma ml mc) fv av (numN κ x q).1 (numN κ x q).2.1 (numN κ x q).2.2) (fun _ t13 _ => n0 - (intOf t13).toNat)
   case atStart => exact ⟨0,_,_,_,_,_,rfl,rfl,by omega,fun j h => absurd h (Nat.not_lt_zero _),hG⟩
   case round =>
    clear hG
    obtain ⟨q,ma,ml,mc,fv,av,rfl,rfl,hq,hall,hG⟩:=hrel
    have hmok:=numN_ok hx3 HLI.out q hall
    obtain ⟨met,hmet⟩ : ∃ l,l = (numN κ x q).1:=⟨_,rfl⟩
    obtain ⟨fs,hfs⟩ : ∃ l,l = (numN κ x q).2.1:=⟨_,rfl⟩
    obtain ⟨rs,hrs⟩ : ∃ l,l = (numN κ x q).2.2:=⟨_,rfl⟩
    have HS:=hid_of (And.intro hmet (And.intro hfs (And.intro hrs hall)))
    rw [<- hmet,<- hfs,<- hrs] at hG
    rw [<- hmet] at hmok hq
    rw [<- hfs] at hmok
    obtain rfl : ml = met.length:=own_len hG.mo
    have hmn:=metOk_len hmok.1
    have HMO:=hid_of hmok
    clear hmet hfs hrs hall hmok
    have hqw : IntKind.i64.wrap ((q : Int) + 1) = (q : Int) + 1:=wrap_in _ (by omega) (by omega)
    by_cases hqm : q < met.length
    ·have hqi : (q : Int) < (met.length : Int):=by omega
     obtain ⟨gm,rfl⟩ : ∃ b,ma = some ⟨b,0,none⟩:=by
      obtain ⟨_,h1⟩:=hG.mo
      rcases h1 with ⟨h1,h2⟩ | ⟨g,cap,cur,h1,_⟩
      ·omega
      ·injection h1 with h1 _ _
       exact ⟨g,h1⟩
     obtain ⟨v,hv⟩ : ∃ v,met[q]? = some v:=⟨_,List.getElem?_eq_getElem hqm⟩
     have hvn : v < n0:=HMO.out.1.2 v (List.mem_of_getElem? hv)
     have hcm : wr.cell? ⟨gm,q,none⟩ = some (.int .i64 (v : Int)):=by
      have hown:=hG.mo
      exact own_cell hown (by unfold intsW; rw [List.map_map,List.getElem?_map,hv]; rfl)
     obtain ⟨hll,hvk,_⟩:=HLL.out v hvn
     have hlook:=km_look hG.km (fun p hp => by obtain ⟨s,h1,rfl⟩:=ksN_mem.1 hp; have:=(HCL.out.lt s (by omega)).2; omega) hvk
     obtain ⟨l,hl⟩ : ∃ l,l = κ v:=⟨_,rfl⟩
     rw [<- hl] at hlook hll
     have hlook : (Instr.lookup 151 (.map (some Mb)) (.int .i64 (v : Int)) false).run Try.prog wr = .ok (.agg (intsW l).toArray) wr:=hlook
     have HL:=hid_of (And.intro hl hv)
     obtain ⟨dk,hdk⟩:=und_kind
     clear hl hv hvk
     go_upto_region 13 with fail
     refine wp_region_list ?_
     refine wpList_plain rfl (fun K hK => ?_)
     go_simp
     refine hK _ _ ?_
     clear hK K
     refine wpList_plain rfl (fun K hK => ?_)
     go_simp
     refine hK _ _ ?_
     clear hK K
     refine wpList_plain rfl (fun K hK => ?_)
     go_simp
     refine hK _ _ ?_
     clear hK K
     refine wpList_plain rfl (fun K hK => ?_)
     go_simp
     refine hK _ _ ?_
     clear hK K
     refine wpList_plain rfl (fun K hK => ?_)
     go_simp
     refine hK _ _ ?_
     clear hK K
     refine wpList_plain rfl (fun K hK => ?_)
     go_simp
     refine hK _ _ ?_
     clear hK K
     refine wpList_plain rfl (fun K hK => ?_)
     go_simp
     refine hK _ _ ?_
     clear hK K
     refine wpList_store_row rfl 135 (.tmp 14) (.tmp 56) rfl wr.heap.size (intsW l).toArray rfl rfl 135 _ (heap_alloc_new wr _) (by rw [size_kind]; simp [intsW,hll]) (by simp [intsW,hll]) (ints_one l) ?_
     rw [World.setRow_alloc_new]
     refine wpList_nil ?_
     obtain ⟨g,hg⟩ : ∃ g,g = wr.heap.size:=⟨_,rfl⟩
     obtain ⟨Wk,hWk⟩ : ∃ W,W = wr.alloc (.cells (intsW l).toArray 135):=⟨_,rfl⟩
     have hbk : Below wr.heap.size wr Wk:=by rw [hWk]; exact bel_up (bel_self _) _
     have hgk3 : Wk.heap[g]? = some (.cells (intsW l).toArray 135 (0,0)):=by rw [hWk,hg]; exact heap_alloc_new wr _
     have hrk : Wk.rangeAt g 0 (intsW l):=blk_range hgk3
     have hGk:=hG.below hbk
     rw [<- hWk,<- hg]
     have hx0 : Wk.cell? ⟨g,0,none⟩ = some (.int .i64 (gI l 0)):=by
      have:=hrk 0 _ (ints_at (by omega))
      exact this
     obtain ⟨x0,hx0e⟩ : ∃ x,x = gI l 0:=⟨_,rfl⟩
     rw [<- hx0e] at hx0
     have HX0:=hid_of hx0e
     have hQg : Q < g:=by rw [hg]; exact cell_lt hG.q0
     have hfg : fv.ownBlock ≠ some g:=fun e => by have:=ownsRow_lt0 hG.fo g e; omega
     obtain ⟨f1,f3,rfl⟩:=own_slice hGk.fo
     obtain ⟨fl,hfl⟩ : ∃ n,n = fs.length:=⟨_,rfl⟩
     have hfl2 : fl <= 200:=by have:=HMO.out.2; omega
     rw [<- hfl] at hfg hGk
     have HFL:=hid_of hfl
     obtain ⟨ob,hob⟩ : ∃ o : Obj,o = .cells #[.int .i64 x0] 3:=⟨_,rfl⟩
     have hbE : Below Wk.heap.size Wk (Wk.alloc ob):=bel_up (bel_self _) _
     have hG5:=hGk.below hbE
     have hown:=hG5.fo
     rw [<- hfl] at hown
     have d2:=hGk.q2
     have hQl:=cell_lt hGk.q0
     have HFIN : Hid (∀ fv' w6,w6.ownsRow (Q + 1) 3 1 fv' (fl + 1) (intsW fs ++ [.int .i64 x0]) -> (Wk.alloc ob).grownBy w6 (Value.slice f1 fl f3).ownBlock -> (fv'.ownBlock = (Value.slice f1 fl f3).ownBlock \/ fv'.ownBlock = some (Wk.alloc ob).heap.size) -> NG w (w6.setCell ⟨Q,2,none⟩ fv') Mb Q Ab κ (ksN cl n) (.slice (some ⟨gm,0,none⟩) met.length mc) fv' av met (fs ++ [x0]) rs /\ w6.cell? ⟨Q,2,none⟩ = some (.slice f1 fl f3) /\ w6.frozen? ⟨Q,2,none⟩ = false /\ (w6.setCell ⟨Q,2,none⟩ fv').heap[g]? = some (.cells (intsW l).toArray 135 (0,0))):=fun fv' w6 h1 h2 h3 => by
      have hne : ∀ b,b <= Q -> some b ≠ (Value.slice f1 fl f3).ownBlock:=fun b hb e => by have:=own_base hown b e.symm; omega
      have bQ:=h2.block Q (cell_lt hG5.q0) (hne Q (Nat.le_refl _))
      refine ⟨hG5.final h2 (by rw [<- HFL.out]; exact h1) h3,cells_same bQ hG5.q2,frz_block bQ (hG5.qf 2),heap_far ((h2.block g (heap_lt (heap_bel hbE hgk3)) (fun e => hfg e.symm)).trans (heap_bel hbE hgk3)) (by omega)⟩
     obtain ⟨i0,hi,hz0,hz1,hz2⟩:=info_parts Try.info3
     rw [hob] at hown HFIN
     clear hob hbE hG5 hGk hG hWk hg hgk3 hrk hbk hx0e hfl hlook hcm
     go_upto_region 15 with (at_builtin; refine wpList_append_own_at _ rfl _ _ 22 rfl (Q + 1) 3 i0 (.int .i64 0) 1 8 Try.underlying22 hi hz0 hz1 hz2 rfl (by decide) (.slice f1 fl f3) fl _ rfl hown ⟨Wk.heap.size,0,none⟩ 1 1 [.int .i64 x0] rfl rfl (cells_new Wk #[.int .i64 x0] 3 _ rfl) (one_int _) (by unfold maxLen; omega) (by omega) (by rw [one_size]; omega) ?_; intro fv' w6 hown' hgrow _ hvv; obtain ⟨p1,p3,rfl⟩:=own_slice hown'; obtain ⟨HF,z3,z4,z5⟩:=HFIN.out _ w6 hown' hgrow hvv; clear hown' hgrow hvv hown HFIN)
     obtain ⟨Wf,hWf⟩ : ∃ W,W = w6.setCell ⟨Q,2,none⟩ (.slice p1 (fl + 1) p3):=⟨_,rfl⟩
     rw [<- hWf] at HF z5
     rw [<- hWf]
     clear hWf z3 z4 d2 hx0 hi hz0 hz1 hz2
     have hr1 : Wf.rangeAt g 1 (intsW l.tail):=by
      have h1:=range_part (k:=1) (blk_range z5)
      have e : intsW l.tail = (intsW l).drop 1:=by unfold intsW; rw [<- List.drop_one,List.map_drop]
      rw [e]
      exact h1
     refine wp_region_list ?_
     refine wpList_plain rfl (fun K hK => ?_)
     go_simp
     refine hK _ _ ?_
     clear hK K
     refine wpList_load_mid rfl 133 (.tmp 64) rfl g 1 rfl (intsW l.tail) _ hr1 und_leaps rfl (by rw [size_leaps]; simp [intsW,hll]) ?_
     refine wpList_plain rfl (fun K hK => ?_)
     go_simp
     refine hK _ _ ?_
     clear hK K
     refine wpList_nil ?_
     have HIX : Hid (∀ (i : Nat) (W : World),i < 9 -> (Instr.index 133 (.agg (intsW l.tail).toArray) (.int .i64 (i : Int))).run Try.prog W = .ok (.agg #[.int .i64 (gI l (1 + i * 2)),.int .i64 (gI l (1 + i * 2 + 1))]) W):=fun i W hi => by
      have:=index_leap hll hi W
      rw [List.drop_one] at this
      exact this
     obtain ⟨va,hva⟩ : ∃ V : Value,V = .agg (intsW l.tail).toArray:=⟨_,rfl⟩
     rw [<- hva] at HIX
     rw [<- hva]
     clear hva hr1 z5
     have HLE : Hid (LeapsIn l n0):=by rw [HL.out.1]; exact HLI.out v hvn
     have HMK : Hid (∀ i,i <= 9 -> MetOk (numLets l q (met,rs) i).1 n0):=fun i hi => (numLets_ok (n:=q) (S:=(met,rs)) HLE.out HMO.out.1 i hi).1
     have HNX : Hid (numN κ x (q + 1) = ((numLets l q (met,rs) 9).1,fs ++ [x0],(numLets l q (met,rs) 9).2)):=by
      have e1 : (numN κ x q).1.getD q 0 = v:=by rw [<- HS.out.1,List.getD_eq_getElem?_getD,HL.out.2]; rfl
      show ((numLets (κ ((numN κ x q).1.getD q 0)) q ((numN κ x q).1,(numN κ x q).2.2) 9).1,(numN κ x q).2.1 ++ [gI (κ ((numN κ x q).1.getD q 0)) 0],(numLets (κ ((numN κ x q).1.getD q 0)) q ((numN κ x q).1,(numN κ x q).2.2) 9).2) = _
      rw [e1,<- HS.out.1,<- HS.out.2.1,<- HS.out.2.2.1,<- HL.out.1,<- HX0.out]
     have HAR : Hid (∀ i,i <= 9 -> (numLets l q (met,rs) i).2.length <= 5000):=fun i hi => by
      have h1:=numLets_ars (k:=l) (n:=q) (S:=(met,rs)) i
      have h2:=numN_ars κ x q
      rw [<- HS.out.2.2.1] at h2
      dsimp only at h1
      omega
     have HST:=hid_of HF
     clear HF hfg hQg hQl hvn hdk
     go_wp2
     go_loopw [11,15,16,17,18,66] (fun t11 _ _ _ _ t66 wx => ∃ (i : Nat) (ma : Option Addr) (ml mc : Nat) (av : Value),i <= 9 /\ t11 = .slice ma ml mc /\ t66 = .int .i64 (i : Int) /\ NG w wx Mb Q Ab κ (ksN cl n) (.slice ma ml mc) (.slice p1 (fl + 1) p3) av (numLets l q (met,rs) i).1 (fs ++ [x0]) (numLets l q (met,rs) i).2) (fun _ _ _ _ _ t66 _ => 9 - (intOf t66).toNat)
     case atStart => exact ⟨0,_,_,_,_,Nat.zero_le _,rfl,rfl,HST.out⟩
     case round =>
      clear HST
      obtain ⟨i,ma,ml,mc,av,hi9,rfl,rfl,hG⟩:=hrel
      have hiw : IntKind.i64.wrap ((i : Int) + 1) = (i : Int) + 1:=wrap_in _ (by omega) (by omega)
      by_cases hli : i < 9
      ·have hii : (i : Int) < 9:=by omega
       have hix:=HIX.out i wr hli
       have hlin:=HLE.out i hli
       obtain ⟨a,hae⟩ : ∃ a,a = gI l (1 + i * 2):=⟨_,rfl⟩
       obtain ⟨c,hce⟩ : ∃ a,a = gI l (1 + i * 2 + 1):=⟨_,rfl⟩
       rw [<- hae] at hlin
       rw [<- hae,<- hce] at hix
       have HAC:=hid_of (And.intro hae hce)
       clear hae hce
       have hbL : Below wr.heap.size wr (wr.alloc (.cells #[.int .i64 a,.int .i64 c] 132)):=bel_up (bel_self _) _
       by_cases ha1 : a = -1
       ·subst ha1
        have HN : Hid (NG w (wr.alloc (.cells #[.int .i64 (-1),.int .i64 c] 132)) Mb Q Ab κ (ksN cl n) (.slice ma ml mc) (.slice p1 (fl + 1) p3) av (numLets l q (met,rs) (i + 1)).1 (fs ++ [x0]) (numLets l q (met,rs) (i + 1)).2):=by
         have e : numLets l q (met,rs) (i + 1) = numLets l q (met,rs) i:=by
          show numStep l q (numLets l q (met,rs) i) i = _
          unfold numStep
          rw [if_pos HAC.out.1.symm]
         rw [e]
         exact hG.below hbL
        clear hG hlin hbL
        go_wp2
        go_roundw
        case rel => exact ⟨i + 1,_,_,_,_,by omega,rfl,by go_num,HN.out⟩
        case measure => simp [intOf]; omega
       ·obtain ⟨t,rfl,htn⟩:=hlin.resolve_left ha1
        have hta : ((t : Int) == -1) = false:=by
         rw [beq_eq_false_iff_ne]
         omega
        obtain ⟨Wl,hWl⟩ : ∃ W,W = wr.alloc (.cells #[.int .i64 (t : Int),.int .i64 c] 132):=⟨_,rfl⟩
        obtain ⟨gl,hgl⟩ : ∃ g,g = wr.heap.size:=⟨_,rfl⟩
        rw [<- hWl] at hbL
        have hGl:=hG.below hbL
        have hlb : Wl.heap[gl]? = some (.cells #[.int .i64 (t : Int),.int .i64 c] 132 (0,0)):=by rw [hWl,hgl]; exact heap_alloc_new wr _
        obtain ⟨M,hM⟩ : ∃ M,M = (numLets l q (met,rs) i).1:=⟨_,rfl⟩
        obtain ⟨R,hR⟩ : ∃ R,R = (numLets l q (met,rs) i).2:=⟨_,rfl⟩
        have hMok : MetOk M n0:=by rw [hM]; exact HMK.out i hi9
        have HR5 : Hid (R.length <= 5000):=by rw [hR]; exact HAR.out i hi9
        have HE : Hid (numLets l q (met,rs) (i + 1) = if t ∈ M then (M,R ++ [⟨(q : Int),(i : Int) + 1,(i : Int) + 1,(M.idxOf t : Int),c⟩]) else (M ++ [t],R ++ [⟨(q : Int),(i : Int) + 1,(i : Int) + 1,(M.length : Int),c⟩])):=by
         show numStep l q (numLets l q (met,rs) i) i = _
         unfold numStep
         rw [<- HAC.out.1,<- HAC.out.2,if_neg (by omega)]
         dsimp only
         rw [Int.toNat_natCast,<- hM,<- hR,show (((i + 1 : Nat)) : Int) = (i : Int) + 1 by omega]
         by_cases e : t ∈ M
         ·rw [if_pos e,if_pos e]
         ·have e2 : (M ++ [t]).idxOf t = M.length:=by
           rw [List.idxOf_append,if_neg e]
           simp
          rw [if_neg e,if_neg e,e2]
        rw [<- hM,<- hR] at hGl
        obtain rfl : ml = M.length:=own_len hGl.mo
        have hml:=metOk_len hMok
        have hgm : ∀ b,(Value.slice ma M.length mc).ownBlock = some b -> b < gl:=fun b e => by
         have h1:=hG.mo
         rw [hgl]
         exact ownsRow_lt0 h1 b e
        have hAg : Ab < gl:=by rw [hgl]; exact hG.an.lt
        clear hG hM hR hbL
        go_upto_region 19 with fail
        rw [<- hWl,<- hgl]
        clear hWl hgl hix
        have l0 : Wl.cell? ⟨gl,0,none⟩ = some (.int .i64 (t : Int)):=by rw [Go.Joins.cell_of_block hlb]; rfl
        have l1 : Wl.cell? ⟨gl,1,none⟩ = some (.int .i64 c):=by rw [Go.Joins.cell_of_block hlb]; rfl
        rcases num_look hGl.an (zip_le hMok.2 (by omega)) (x:=t) (by omega) with ⟨hno,hlk⟩ | ⟨d,hd,hlk,hlk2⟩
        ·have hnM:=zip_not hno
         obtain ⟨Wp,hput,hnp,hgp⟩:=num_put (c:=M.length) hGl.an (zip_le hMok.2 (by omega)) (x:=t) (by omega) hno
         have blp:=hgp.block gl (heap_lt hlb) (fun e => by injection e with e; omega)
         have lp0 : Wp.cell? ⟨gl,0,none⟩ = some (.int .i64 (t : Int)):=cells_same blp l0
         obtain ⟨o1,ho1⟩ : ∃ o : Obj,o = .cells #[.int .i64 (t : Int)] 3:=⟨_,rfl⟩
         have hg1 : Wl.grownBy (Wp.alloc o1) (some Ab):=grown_alloc hgp o1
         have hb1 : Below Wp.heap.size Wp (Wp.alloc o1):=bel_up (bel_self _) _
         have hn1 : NumM (Wp.alloc o1) Ab (M.zipIdx ++ [(t,M.length)]):=hnp.block (hb1.block Ab hnp.lt)
         have hown1 : (Wp.alloc o1).ownsRow (Q + 1) 3 1 (.slice ma M.length mc) M.length (intsW (M.map fun x : Nat => (x : Int))):=own_same hGl.mo fun b e => hg1.block b (ownsRow_lt0 hGl.mo b e) (fun e2 => by injection e2 with e2; exact hGl.ma (by rw [e,e2]))
         have bl1 : (Wp.alloc o1).heap[gl]? = Wl.heap[gl]?:=hg1.block gl (heap_lt hlb) (fun e => by injection e with e; omega)
         have hQp : Q + 1 <= (Wp.alloc o1).heap.size:=by have:=cell_lt hGl.q0; have:=hg1.size; omega
         have hMt : MetOk (M ++ [t]) n0:=⟨List.nodup_append.2 ⟨hMok.1,by simp,fun a ha b hb e => hnM (by rw [List.mem_singleton.1 hb] at e; rw [<- e]; exact ha)⟩,fun y hy => by
          rcases List.mem_append.1 hy with hy | hy
          ·exact hMok.2 y hy
          ·rw [List.mem_singleton.1 hy]; exact htn⟩
         have HMT : Hid (∀ mv' w5,w5.ownsRow (Q + 1) 3 1 mv' (M.length + 1) (intsW (M.map fun x : Nat => (x : Int)) ++ [.int .i64 (t : Int)]) -> (Wp.alloc o1).grownBy w5 (Value.slice ma M.length mc).ownBlock -> (mv'.ownBlock = (Value.slice ma M.length mc).ownBlock \/ mv'.ownBlock = some (Wp.alloc o1).heap.size) -> NG w w5 Mb Q Ab κ (ksN cl n) mv' (.slice p1 (fl + 1) p3) av (M ++ [t]) (fs ++ [x0]) R /\ w5.cell? ⟨gl,0,none⟩ = some (.int .i64 (t : Int)) /\ w5.cell? ⟨gl,1,none⟩ = some (.int .i64 c) /\ ∃ d : Nat,d = M.length /\ (Instr.lookup 69 (.map (some Ab)) (.int .i64 (t : Int)) false).run Try.prog w5 = .ok (.int .i64 (d : Int)) w5):=fun mv' w5 h1 h2 h3 => by
          have h5:=hGl.meet hg1 hn1 h2 h1 h3
          have b5 : w5.heap[gl]? = Wl.heap[gl]?:=(h2.block gl (by have:=heap_lt hlb; have:=hg1.size; omega) (fun e => by have:=hgm gl e.symm; omega)).trans bl1
          refine ⟨h5,cells_same b5 l0,cells_same b5 l1,?_⟩
          rcases num_look h5.an (zip_le hMt.2 (by omega)) (x:=t) (by omega) with ⟨hx,_⟩ | ⟨d,hd,_,hl⟩
          ·exact absurd (List.mem_append.2 (Or.inr (List.mem_singleton.2 rfl))) (zip_not hx)
          ·refine ⟨d,?_,hl⟩
           rw [(zip_mem hMt.1 hd).1,List.idxOf_append,if_neg hnM]
           simp
         rw [ho1] at hown1 HMT hQp
         obtain ⟨i0,hi0,hz0,hz1,hz2⟩:=info_parts Try.info3
         have HNM:=hid_of hnM
         have hMl:=metOk_len hMok
         clear ho1 hg1 hb1 hn1 bl1 hMt hMok hnM hno hnp hgp blp hlb hGl l1
         go_upto_region 23 with (at_builtin; refine wpList_append_own_at _ rfl _ _ 22 rfl (Q + 1) 3 i0 (.int .i64 0) 1 8 Try.underlying22 hi0 hz0 hz1 hz2 rfl (by decide) (.slice ma M.length mc) M.length _ rfl hown1 ⟨Wp.heap.size,0,none⟩ 1 1 [.int .i64 (t : Int)] rfl rfl (cells_new Wp #[.int .i64 (t : Int)] 3 _ rfl) (one_int _) (by unfold maxLen; omega) (by omega) hQp ?_; intro mv' w5 hown' hgrow _ hvv; obtain ⟨m1,m3,rfl⟩:=own_slice hown'; obtain ⟨hG5,k0,k1,d,hdM,hlk5⟩:=HMT.out _ w5 hown' hgrow hvv; clear hown' hgrow hvv hown1 HMT)
         clear l0 lp0 hput hlk hQp hi0 hz0 hz1 hz2
         have HDM:=hid_of hdM
         clear hdM
         obtain ⟨r1,r3,rfl⟩:=own_slice hG5.ao
         obtain ⟨rl,hrl⟩ : ∃ n,n = R.length:=⟨_,rfl⟩
         have HRL:=hid_of hrl
         have hrl5 : rl <= 5000:=by have:=HR5.out; omega
         rw [<- hrl] at hG5
         obtain ⟨ob,hob⟩ : ∃ o : Obj,o = .cells #[.int .i64 (q : Int),.int .i64 ((i : Int) + 1),.int .i64 ((i : Int) + 1),.int .i64 (d : Int),.int .i64 c] 54:=⟨_,rfl⟩
         have hbE : Below w5.heap.size w5 (w5.alloc ob):=bel_up (bel_self _) _
         have hGE:=hG5.below hbE
         have hown:=hGE.ao
         rw [<- hrl] at hown
         have d3:=hG5.q3
         have hQ2:=cell_lt hG5.q0
         have HARM : Hid (∀ av' w4,w4.ownsRow (Q + 1) 54 5 av' (rl + 1) (arcsV R ++ [.int .i64 (q : Int),.int .i64 ((i : Int) + 1),.int .i64 ((i : Int) + 1),.int .i64 (d : Int),.int .i64 c]) -> (w5.alloc ob).grownBy w4 (Value.slice r1 rl r3).ownBlock -> (av'.ownBlock = (Value.slice r1 rl r3).ownBlock \/ av'.ownBlock = some (w5.alloc ob).heap.size) -> NG w (w4.setCell ⟨Q,3,none⟩ av') Mb Q Ab κ (ksN cl n) (.slice m1 (M.length + 1) m3) (.slice p1 (fl + 1) p3) av' (numLets l q (met,rs) (i + 1)).1 (fs ++ [x0]) (numLets l q (met,rs) (i + 1)).2 /\ w4.cell? ⟨Q,3,none⟩ = some (.slice r1 rl r3) /\ w4.frozen? ⟨Q,3,none⟩ = false):=fun av' w4 h1 h2 h3 => by
          have hne : some Q ≠ (Value.slice r1 rl r3).ownBlock:=fun e => by have:=own_base hown Q e.symm; omega
          have bQ:=h2.block Q (cell_lt hGE.q0) hne
          refine ⟨?_,cells_same bQ hGE.q3,frz_block bQ (hGE.qf 3)⟩
          have he:=HE.out
          rw [if_neg HNM.out,<- HDM.out] at he
          rw [he]
          exact hGE.arc (a:=⟨(q : Int),(i : Int) + 1,(i : Int) + 1,(d : Int),c⟩) h2 (by rw [<- HRL.out]; exact h1) h3
         rw [hob] at hown HARM
         obtain ⟨iA,hiA,hzA0,hzA1,hzA2⟩:=info_parts Try.info54
         clear hob hbE hGE hG5 hrl
         go_wp2_with (at_builtin; refine wpList_append_own_at _ rfl _ _ 23 rfl (Q + 1) 54 iA _ 5 40 Try.underlying23 hiA hzA0 hzA1 hzA2 rfl (by decide) (.slice r1 rl r3) rl _ rfl hown ⟨w5.heap.size,0,none⟩ 1 1 [.int .i64 (q : Int),.int .i64 ((i : Int) + 1),.int .i64 ((i : Int) + 1),.int .i64 (d : Int),.int .i64 c] rfl rfl (cells_new _ #[.int .i64 (q : Int),.int .i64 ((i : Int) + 1),.int .i64 ((i : Int) + 1),.int .i64 (d : Int),.int .i64 c] 54 w5.heap.size rfl) (oneCell_arc ⟨(q : Int),(i : Int) + 1,(i : Int) + 1,(d : Int),c⟩) (by unfold maxLen; omega) (by omega) (by rw [one_size]; omega) ?_; intro av' w4 hown' hgrow _ hvv; obtain ⟨s1,s3,rfl⟩:=own_slice hown'; obtain ⟨HF,z3,z4⟩:=HARM.out _ w4 hown' hgrow hvv; have HFH:=hid_of HF; clear hown' hgrow hvv hown HARM HF)
         go_roundw
         case rel => exact ⟨i + 1,_,_,_,_,by omega,rfl,by go_num,HFH.out⟩
         case measure => simp [intOf]; omega
        ·obtain ⟨hdi,htM⟩:=zip_mem hMok.1 hd
         clear hd hlb
         have HDI:=hid_of (And.intro hdi htM)
         clear hdi htM
         obtain ⟨r1,r3,rfl⟩:=own_slice hGl.ao
         obtain ⟨rl,hrl⟩ : ∃ n,n = R.length:=⟨_,rfl⟩
         have HRL:=hid_of hrl
         have hrl5 : rl <= 5000:=by have:=HR5.out; omega
         rw [<- hrl] at hGl
         obtain ⟨ob,hob⟩ : ∃ o : Obj,o = .cells #[.int .i64 (q : Int),.int .i64 ((i : Int) + 1),.int .i64 ((i : Int) + 1),.int .i64 (d : Int),.int .i64 c] 54:=⟨_,rfl⟩
         have hbE : Below Wl.heap.size Wl (Wl.alloc ob):=bel_up (bel_self _) _
         have hGE:=hGl.below hbE
         have hown:=hGE.ao
         rw [<- hrl] at hown
         have d3:=hGl.q3
         have hQ2:=cell_lt hGl.q0
         have HARM : Hid (∀ av' w4,w4.ownsRow (Q + 1) 54 5 av' (rl + 1) (arcsV R ++ [.int .i64 (q : Int),.int .i64 ((i : Int) + 1),.int .i64 ((i : Int) + 1),.int .i64 (d : Int),.int .i64 c]) -> (Wl.alloc ob).grownBy w4 (Value.slice r1 rl r3).ownBlock -> (av'.ownBlock = (Value.slice r1 rl r3).ownBlock \/ av'.ownBlock = some (Wl.alloc ob).heap.size) -> NG w (w4.setCell ⟨Q,3,none⟩ av') Mb Q Ab κ (ksN cl n) (.slice ma M.length mc) (.slice p1 (fl + 1) p3) av' (numLets l q (met,rs) (i + 1)).1 (fs ++ [x0]) (numLets l q (met,rs) (i + 1)).2 /\ w4.cell? ⟨Q,3,none⟩ = some (.slice r1 rl r3) /\ w4.frozen? ⟨Q,3,none⟩ = false):=fun av' w4 h1 h2 h3 => by
          have hne : some Q ≠ (Value.slice r1 rl r3).ownBlock:=fun e => by have:=own_base hown Q e.symm; omega
          have bQ:=h2.block Q (cell_lt hGE.q0) hne
          refine ⟨?_,cells_same bQ hGE.q3,frz_block bQ (hGE.qf 3)⟩
          have he:=HE.out
          rw [if_pos HDI.out.2,<- HDI.out.1] at he
          rw [he]
          exact hGE.arc (a:=⟨(q : Int),(i : Int) + 1,(i : Int) + 1,(d : Int),c⟩) h2 (by rw [<- HRL.out]; exact h1) h3
         rw [hob] at hown HARM
         obtain ⟨iA,hiA,hzA0,hzA1,hzA2⟩:=info_parts Try.info54
         clear hob hbE hGE hGl hrl
         go_wp2_with (at_builtin; refine wpList_append_own_at _ rfl _ _ 23 rfl (Q + 1) 54 iA _ 5 40 Try.underlying23 hiA hzA0 hzA1 hzA2 rfl (by decide) (.slice r1 rl r3) rl _ rfl hown ⟨Wl.heap.size,0,none⟩ 1 1 [.int .i64 (q : Int),.int .i64 ((i : Int) + 1),.int .i64 ((i : Int) + 1),.int .i64 (d : Int),.int .i64 c] rfl rfl (cells_new _ #[.int .i64 (q : Int),.int .i64 ((i : Int) + 1),.int .i64 ((i : Int) + 1),.int .i64 (d : Int),.int .i64 c] 54 Wl.heap.size rfl) (oneCell_arc ⟨(q : Int),(i : Int) + 1,(i : Int) + 1,(d : Int),c⟩) (by unfold maxLen; omega) (by omega) (by rw [one_size]; omega) ?_; intro av' w4 hown' hgrow _ hvv; obtain ⟨s1,s3,rfl⟩:=own_slice hown'; obtain ⟨HF,z3,z4⟩:=HARM.out _ w4 hown' hgrow hvv; have HFH:=hid_of HF; clear hown' hgrow hvv hown HARM HF)
         go_roundw
         case rel => exact ⟨i + 1,_,_,_,_,by omega,rfl,by go_num,HFH.out⟩
         case measure => simp [intOf]; omega
      ·obtain rfl : i = 9:=by omega
       have HFIN : Hid (∃ S1,S1 = numN κ x (q + 1) /\ q + 1 <= S1.1.length /\ NG w wr Mb Q Ab κ (ksN cl n) (.slice ma ml mc) (.slice p1 (fl + 1) p3) av S1.1 S1.2.1 S1.2.2):=by
        refine ⟨_,rfl,?_,?_⟩
        ·rw [HNX.out]
         obtain ⟨l2,hl2⟩:=(numLets_ok (n:=q) (S:=(met,rs)) HLE.out HMO.out.1 9 (by omega)).2
         dsimp only
         rw [hl2,List.length_append]
         dsimp only
         omega
        ·rw [HNX.out]
         exact hG
       have HALL : Hid (∀ j,j < q + 1 -> j < (numN κ x j).1.length):=fun j hj => by
        by_cases e : j = q
        ·subst e
         rw [<- HS.out.1]
         exact hqm
        ·exact HS.out.2.2.2 j (by omega)
       clear hG
       go_wp2
       go_roundw
       case rel =>
        obtain ⟨S1,e1,e2,e3⟩:=HFIN.out
        subst e1
        exact ⟨q + 1,_,_,_,_,_,rfl,by go_num,e2,HALL.out,e3⟩
       case measure => simp [intOf]; omega
    ·obtain rfl : q = met.length:=by omega
     have hqn : ¬ (met.length : Int) < met.length:=by omega
     obtain ⟨z0,z1,z2,z3,y0,y1,y2,y3⟩:=zfacts hG.res
     obtain ⟨f1,f3,rfl⟩:=own_slice hG.fo
     obtain ⟨r1,r3,rfl⟩:=own_slice hG.ao
     obtain ⟨fl,hfl⟩ : ∃ n,n = fs.length:=⟨_,rfl⟩
     obtain ⟨rl,hrl⟩ : ∃ n,n = rs.length:=⟨_,rfl⟩
     rw [<- hfl,<- hrl] at hG
     have d0:=hG.q0
     have d1:=hG.q1
     have d2:=hG.q2
     have d3:=hG.q3
     have e0:=hG.qf 0
     have hQw : Q ≠ w.heap.size:=by have:=hG.hM; have:=hG.hQ; omega
     have HG:=hid_of hG
     have HLN:=hid_of (And.intro hfl hrl)
     clear hG hfl hrl
     go_wp2
     refine bodyPost_ret (v:=.agg #[.int .i64 (met.length : Int),.int .i64 0,.slice f1 fl f3,.slice r1 rl r3]) (by simp [results,Try.results104,go_sem, *]) rfl ?_
     rw [<- HX.out]
     have hb:=HG.out.hM
     have hb2:=HG.out.hQ
     refine ⟨met.length,f1,fl,f3,r1,rl,r3,⟨HS.out.2.2.2,congrArg List.length HS.out.1.symm⟩,rfl,?_,?_,fun b e => ?_,fun b e => ?_,bel_set4 (HG.out.bel.setCell (p:=⟨Q,0,none⟩) (by show w.heap.size <= Q; omega) _) (Nat.le_refl _) _ _ _ _⟩
     ·have h1:=HG.out.fo
      have hq : (Value.slice f1 fl f3).ownBlock ≠ some Q:=fun e => by have:=own_base h1 Q e; omega
      have hx : (Value.slice f1 fl f3).ownBlock ≠ some w.heap.size:=fun e => by have:=own_base h1 _ e; omega
      have h2:=ownsRow_setCell_far (i:=3) (u:=.slice r1 rl r3) (ownsRow_setCell_far (i:=2) (u:=.slice f1 fl f3) (ownsRow_setCell_far (i:=1) (u:=.int .i64 0) (ownsRow_setCell_far (i:=0) (u:=.int .i64 (met.length : Int)) (ownsRow_setCell_far (i:=0) (u:=.int .i64 (met.length : Int)) h1 hq) hx) hx) hx) hx
      rw [<- HS.out.2.1]
      exact ownsRow_ints h2
     ·have h1:=HG.out.ao
      have hq : (Value.slice r1 rl r3).ownBlock ≠ some Q:=fun e => by have:=own_base h1 Q e; omega
      have hx : (Value.slice r1 rl r3).ownBlock ≠ some w.heap.size:=fun e => by have:=own_base h1 _ e; omega
      have h2:=ownsRow_setCell_far (i:=3) (u:=.slice r1 rl r3) (ownsRow_setCell_far (i:=2) (u:=.slice f1 fl f3) (ownsRow_setCell_far (i:=1) (u:=.int .i64 0) (ownsRow_setCell_far (i:=0) (u:=.int .i64 (met.length : Int)) (ownsRow_setCell_far (i:=0) (u:=.int .i64 (met.length : Int)) h1 hq) hx) hx) hx) hx
      rw [<- HS.out.2.2.1]
      exact ownsRow_arcs h2
     ·have:=own_base HG.out.fo b e; omega
     ·have:=own_base HG.out.ao b e; omega
end Go.Proofs.Yteehgcbjmdideab
