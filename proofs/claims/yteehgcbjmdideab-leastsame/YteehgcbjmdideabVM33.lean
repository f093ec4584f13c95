/- 'numbered' of the program: the walk. (Made by wip/gen/kii.py.) -/
import Derived.Test.YteehgcbjmdideabVM31
import Derived.Test.YteehgcbjmdideabVM32
import Derived.Test.YteehgcbjmdideabVM19
import Derived.Test.YteehgcbjmdideabVM21
import Derived.Test.YteehgcbjmdideabVM20
set_option maxRecDepth 100000
namespace Go.Proofs.Yteehgcbjmdideab
open Go.RowKit Go.ChangeMaps
attribute [local go_sem ↓] Go.wp_at_zero Go.wp_at_succ
def ksN (cl : List Int) : Nat -> List Nat
 | 0 => []
 | n + 1 => if (gI cl n).toNat ∈ ksN cl n then ksN cl n else ksN cl n ++ [(gI cl n).toNat]
theorem ksN_mem {cl : List Int} {n x : Nat} : x ∈ ksN cl n ↔ ∃ s,s < n /\ (gI cl s).toNat = x:=by
 induction n with
 | zero => simp [ksN]
 | succ n ih =>
  unfold ksN
  by_cases h : (gI cl n).toNat ∈ ksN cl n
  ·rw [if_pos h,ih]
   constructor
   ·rintro ⟨s,h1,h2⟩; exact ⟨s,by omega,h2⟩
   ·rintro ⟨s,h1,h2⟩
    by_cases e : s = n
    ·subst e; exact ih.1 (by rw [<- h2]; exact h)
    ·exact ⟨s,by omega,h2⟩
  ·rw [if_neg h,List.mem_append,ih]
   constructor
   ·rintro (⟨s,h1,h2⟩ | h1)
    ·exact ⟨s,by omega,h2⟩
    ·exact ⟨n,by omega,(List.mem_singleton.1 h1).symm⟩
   ·rintro ⟨s,h1,h2⟩
    by_cases e : s = n
    ·subst e; exact Or.inr (by simp [h2])
    ·exact Or.inl ⟨s,by omega,h2⟩
theorem leaps_in {f : FstD} {N s0 n : Nat} {cl : List Int} (hj : JIn f N s0) (hc : Cls N cl n) (s : Nat) : LeapsIn (kindL f.arcs f.final cl s) n:=fun i hi => by
 have e : gI (kindL f.arcs f.final cl s) (1 + i * 2) = leapTo f.arcs cl s (i + 1):=by
  rw [<- kcell_to f.arcs f.final cl s i hi]
  unfold gI kindL
  rw [List.getD_eq_getElem?_getD,List.getElem?_map,List.getElem?_range (by omega)]
  show kcell f.arcs f.final cl (s * 19 + (1 + i * 2)) = _
  rw [<- Nat.add_assoc]
 rw [e]
 unfold leapTo
 split
 ·rename_i a ha
  right
  unfold lastArc at ha
  obtain ⟨_,t,_,_,ht,_,_,htn,_⟩:=hj.arcs a (List.mem_filter.1 (List.mem_of_getLast? ha)).1
  have:=hc.lt t htn
  rw [ht,Int.toNat_natCast]
  exact ⟨(gI cl t).toNat,by omega,by omega⟩
 ·exact Or.inl rfl
def NumRes (κ : Nat -> List Int) (c0 : Nat) (w : World) (e : Ending) (w' : World) : Prop :=
 ∃ (m : Nat) (ga : Option Addr) (gn gc : Nat) (ba : Option Addr) (bn bc : Nat),RunN κ c0 m /\ e = .returned (.agg #[.int .i64 (m : Int),.int .i64 0,.slice ga gn gc,.slice ba bn bc]) /\ ISlice w' (.slice ga gn gc) (numN κ c0 m).2.1 /\ ASlice w' (.slice ba bn bc) (numN κ c0 m).2.2 /\ (∀ b,(Value.slice ga gn gc).ownBlock = some b -> w.heap.size <= b) /\ (∀ b,(Value.slice ba bn bc).ownBlock = some b -> w.heap.size <= b) /\ Below w.heap.size w w'
structure NW (w wx : World) (N gc gk : Nat) (cl : List Int) (κ : Nat -> Int) : Prop where
 bel : Below w.heap.size w wx
 zb : ZBlock wx w.heap.size
 cl : NumsAt wx gc N cl
 ki : ValsAt wx gk (N * 19) (intsV κ)
section
variable {w wx wy : World} {N gc gk : Nat} {cl : List Int} {κ : Nat -> Int}
theorem NW.below (h : NW w wx N gc gk cl κ) (hb : Below wx.heap.size wx wy) : NW w wy N gc gk cl κ:=⟨bel_on h.bel hb,heap_bel hb h.zb,h.cl.below hb,h.ki.below hb⟩
theorem NW.grown {M : Nat} (h : NW w wx N gc gk cl κ) (hg : wx.grownBy wy (some M)) (hM : w.heap.size < M) (h1 : gc ≠ M) (h2 : gk ≠ M) : NW w wy N gc gk cl κ:=by
 have ne : ∀ {b : Nat},b ≠ M -> some b ≠ some M:=fun hb e => by injection e with e; exact hb e
 exact ⟨h.bel.grown hg (by have:=h.bel.size; omega) (fun k hk => by injection hk with hk; omega),(hg.block _ (heap_lt h.zb) (ne (by omega))).trans h.zb,h.cl.block (hg.block _ h.cl.lt (ne h1)) (Nat.lt_of_lt_of_le h.cl.lt hg.size),h.ki.grown hg (ne h2)⟩
end
set_option maxHeartbeats 6400000 in
theorem numbered_any (f : FstD) (N s0 n0 gc gk : Nat) (cl : List Int) (κ : Nat -> List Int) (w : World) (hj : JIn f N s0) (hcls : Cls N cl n0) (hn0 : n0 <= 200) (hκ : ∀ s,s < N -> κ (gI cl s).toNat = kindL f.arcs f.final cl s) (hcl : NumsAt w gc N cl) (hki : ValsAt w gk (N * 19) (intsV (kcell f.arcs f.final cl))) :
  Calls Try.prog 104 #[.int .i64 (s0 : Int),.slice (some ⟨gc,0,none⟩) N N,.slice (some ⟨gk,0,none⟩) N N] w fun e w' => NumRes κ (gI cl s0).toNat w e w':=by
 have HJ:=hid_of hj
 have HCL:=hid_of hcls
 have HKA:=hid_of hκ
 have hN1:=hj.n1
 have hN2:=hj.n2
 have hmm:=@run_makeMap Try.prog
 have hgcw:=hcl.lt
 have hgkw:=hki.lt
 obtain ⟨A1,hA1⟩ : ∃ W,W = w.alloc (.cells #[.int .i64 0,.int .i64 0,.slice none 0 0,.slice none 0 0] 25):=⟨_,rfl⟩
 obtain ⟨A2,hA2⟩ : ∃ W,W = A1.alloc (.map #[] 0):=⟨_,rfl⟩
 have z1 : A1.heap.size = w.heap.size + 1:=by rw [hA1]; exact one_size _ _
 have k1 : Below w.heap.size w A1:=by rw [hA1]; exact bel_up (bel_self _) _
 have k2 : Below A1.heap.size A1 A2:=by rw [hA2]; exact bel_up (bel_self _) _
 have hW0 : NW w A2 N gc gk cl (kcell f.arcs f.final cl):=NW.below ⟨k1,by unfold ZBlock; rw [hA1]; exact heap_alloc_new w _,hcl.below k1,hki.below k1⟩ k2
 obtain ⟨Mb,hMb⟩ : ∃ M,M = w.heap.size + 1:=⟨_,rfl⟩
 have hM0 : KM A2 Mb κ (ksN cl 0):=⟨#[],0,by rw [hA2,hMb,<- z1]; exact heap_alloc_new A1 _,rfl⟩
 have HA:=hid_of (And.intro (show A2 = (w.alloc (.cells #[.int .i64 0,.int .i64 0,.slice none 0 0,.slice none 0 0] 25)).alloc (.map #[] 0) by rw [hA2,hA1]) hMb)
 have hMw : w.heap.size < Mb:=by omega
 clear hA1 hA2 z1 k1 k2 hMb hcl hki hj hκ hcls
 go_enter Try.func104,Try.ntmps104
 go_wp2
 rw [<- HA.out.1,<- HA.out.2]
 clear HA
 go_loopw [22] (fun t22 wx => ∃ n : Nat,n <= N /\ t22 = .int .i64 (n : Int) /\ NW w wx N gc gk cl (kcell f.arcs f.final cl) /\ KM wx Mb κ (ksN cl n)) (fun t22 _ => N - (intOf t22).toNat)
 case atStart => exact ⟨0,Nat.zero_le _,rfl,hW0,hM0⟩
 case round =>
  clear hW0 hM0
  obtain ⟨n,hn,rfl,hW,hM⟩:=hrel
  have hnw : IntKind.i64.wrap ((n : Int) + 1) = (n : Int) + 1:=wrap_in _ (by omega) (by omega)
  by_cases hlt : n < N
  ·have hni : (n : Int) < N:=by omega
   have c0:=hW.cl.cell n hlt
   obtain ⟨x,hx⟩ : ∃ x,x = (gI cl n).toNat:=⟨_,rfl⟩
   have hxi : gI cl n = (x : Int):=by have:=(HCL.out.lt n hlt).1; omega
   rw [hxi] at c0
   have hx2 : x <= 1000000:=by have:=(HCL.out.lt n hlt).2; omega
   obtain ⟨l,hl⟩ : ∃ l,l = κ x:=⟨_,rfl⟩
   have hll : l.length = 19:=by rw [hl,hx,HKA.out n hlt,kindL_len]
   have hrng : wr.rangeAt gk (n * 19) (intsW l):=by rw [hl,hx,HKA.out n hlt]; exact row_range hW.ki hlt
   obtain ⟨dk,hdk⟩:=und_kind
   obtain ⟨Wp,hput,hMp,hgp⟩:=km_put hM (fun p hp => by obtain ⟨s,h1,rfl⟩:=ksN_mem.1 hp; have:=(HCL.out.lt s (by omega)).2; omega) hx2
   have hput : (Instr.mapUpdate 151 (.map (some Mb)) (.int .i64 (x : Int)) (.agg (intsW l).toArray)).run Try.prog wr = .ok () Wp:=by rw [hl]; exact hput
   have HMP : Hid (KM Wp Mb κ (ksN cl (n + 1))):=by
    show KM Wp Mb κ (if (gI cl n).toNat ∈ ksN cl n then ksN cl n else ksN cl n ++ [(gI cl n).toNat])
    rw [<- hx]
    exact hMp
   have HWP:=hid_of (hW.grown hgp hMw (by omega) (by omega))
   clear hl hx hxi hMp hgp hW hM
   go_upto_region 5 with fail
   refine wp_region_list ?_
   refine wpList_plain rfl (fun K hK => ?_)
   go_simp
   refine hK _ _ ?_
   clear hK K
   refine wpList_plain rfl (fun K hK => ?_)
   go_simp
   refine hK _ _ ?_
   clear hK K
   refine wpList_plain rfl (fun K hK => ?_)
   go_simp
   refine hK _ _ ?_
   clear hK K
   refine wpList_plain rfl (fun K hK => ?_)
   go_simp
   refine hK _ _ ?_
   clear hK K
   refine wpList_plain rfl (fun K hK => ?_)
   go_simp
   refine hK _ _ ?_
   clear hK K
   refine wpList_load_mid rfl 135 (.tmp 31) rfl gk (n * 19) rfl (intsW l) _ hrng hdk.2 hdk.1 (by rw [size_kind]; simp [intsW,hll]) ?_
   refine wpList_plain rfl (fun K hK => ?_)
   go_simp
   refine hK _ _ ?_
   clear hK K
   refine wpList_nil ?_
   clear hput hrng c0
   go_wp2
   go_roundw
   case rel => exact ⟨n + 1,by omega,by go_num,HWP.out,HMP.out⟩
   case measure => simp [intOf]; omega
  ·obtain rfl : n = N:=by omega
   have hnl : ¬ ((n : Int) < n):=by omega
   have hs0:=HJ.out.hs
   have hs0i : (s0 : Int) < n:=by omega
   have c0:=hW.cl.cell s0 hs0
   obtain ⟨x,hx⟩ : ∃ x,x = (gI cl s0).toNat:=⟨_,rfl⟩
   have hxi : gI cl s0 = (x : Int):=by have:=(HCL.out.lt s0 hs0).1; omega
   rw [hxi] at c0
   clear hxi
   have HX:=hid_of hx
   clear hx
   have b1 : Below wr.heap.size wr (wr.alloc (.cells #[.int .i64 0,.int .i64 0,.slice none 0 0,.slice none 0 0] 25)):=bel_up (bel_self _) _
   have d1:=bel_c b1 c0
   have d2:=bel_c (bel_up b1 (.cells #[.int .i64 (x : Int)] 3)) c0
   have d3:=bel_c (bel_up (bel_up b1 (.cells #[.int .i64 (x : Int)] 3)) (.map #[] 0)) c0
   have hx3 : x < n0:=by have:=(HCL.out.lt s0 hs0).1; have:=(HCL.out.lt s0 hs0).2; have:=HX.out; omega
   obtain ⟨Wq,hput,hG⟩:=NG.start hW.bel hW.zb hM hMw x (by omega)
   obtain ⟨Q,hQ⟩ : ∃ Q,Q = wr.heap.size:=⟨_,rfl⟩
   obtain ⟨Ab,hAb⟩ : ∃ Q,Q = wr.heap.size + 1 + 1:=⟨_,rfl⟩
   rw [<- hAb,<- hQ] at hG
   have HQ:=hid_of (And.intro hQ hAb)
   clear hW hM hQ hAb b1
   go_wp2
   rw [<- HQ.out.2,<- HQ.out.1]
   clear HQ d1 d2 d3 c0 hput hs0i hnl hnw
   have HLI : Hid (∀ v,v < n0 -> LeapsIn (κ v) n0):=fun v hv => by
    obtain ⟨s,hs,e⟩:=HCL.out.on v hv
    have:=HKA.out s hs
    rw [e,Int.toNat_natCast] at this
    rw [this]
    exact leaps_in HJ.out HCL.out s
   have HLL : Hid (∀ v,v < n0 -> (κ v).length = 19 /\ v ∈ ksN cl n /\ KinOk (κ v)):=fun v hv => by
    obtain ⟨s,hs,e⟩:=HCL.out.on v hv
    have:=HKA.out s hs
    rw [e,Int.toNat_natCast] at this
    rw [this]
    exact ⟨kindL_len _ _ _ _,ksN_mem.2 ⟨s,hs,by rw [e,Int.toNat_natCast]⟩,kindL_ok HJ.out HCL.out hn0 s⟩
   go_loopw [11,13] (fun t11 t13 wx => ∃ (q : Nat) (ma : Option Addr) (ml mc : Nat) (fv av : Value),t11 = .slice ma ml mc /\ t13 = .int .i64 (q : Int) /\ q <= (numN κ x q).1.length /\ (∀ j,j < q -> j < (numN κ x j).1.length) /\ NG w wx Mb Q Ab κ (ksN cl n) (.slice ma ml mc) fv av (numN κ x q).1 (numN κ x q).2.1 (numN κ x q).2.2) (fun _ t13 _ => n0 - (intOf t13).toNat)
   case atStart => exact ⟨0,_,_,_,_,_,rfl,rfl,by omega,fun j h => absurd h (Nat.not_lt_zero _),hG⟩
   case round =>
    clear hG
    obtain ⟨q,ma,ml,mc,fv,av,rfl,rfl,hq,hall,hG⟩:=hrel
    have hmok:=numN_ok hx3 HLI.out q hall
    obtain ⟨met,hmet⟩ : ∃ l,l = (numN κ x q).1:=⟨_,rfl⟩
    obtain ⟨fs,hfs⟩ : ∃ l,l = (numN κ x q).2.1:=⟨_,rfl⟩
    obtain ⟨rs,hrs⟩ : ∃ l,l = (numN κ x q).2.2:=⟨_,rfl⟩
    have HS:=hid_of (And.intro hmet (And.intro hfs (And.intro hrs hall)))
    rw [<- hmet,<- hfs,<- hrs] at hG
    rw [<- hmet] at hmok hq
    rw [<- hfs] at hmok
    obtain rfl : ml = met.length:=own_len hG.mo
    have hmn:=metOk_len hmok.1
    have HMO:=hid_of hmok
    clear hmet hfs hrs hall hmok
    have hqw : IntKind.i64.wrap ((q : Int) + 1) = (q : Int) + 1:=wrap_in _ (by omega) (by omega)
    by_cases hqm : q < met.length
    ·have hqi : (q : Int) < (met.length : Int):=by omega
     obtain ⟨gm,rfl⟩ : ∃ b,ma = some ⟨b,0,none⟩:=by
      obtain ⟨_,h1⟩:=hG.mo
      rcases h1 with ⟨h1,h2⟩ | ⟨g,cap,cur,h1,_⟩
      ·omega
      ·injection h1 with h1 _ _
       exact ⟨g,h1⟩
     obtain ⟨v,hv⟩ : ∃ v,met[q]? = some v:=⟨_,List.getElem?_eq_getElem hqm⟩
     have hvn : v < n0:=HMO.out.1.2 v (List.mem_of_getElem? hv)
     have hcm : wr.cell? ⟨gm,q,none⟩ = some (.int .i64 (v : Int)):=by
      have hown:=hG.mo
      exact own_cell hown (by unfold intsW; rw [List.map_map,List.getElem?_map,hv]; rfl)
     obtain ⟨hll,hvk,_⟩:=HLL.out v hvn
     have hlook:=km_look hG.km (fun p hp => by obtain ⟨s,h1,rfl⟩:=ksN_mem.1 hp; have:=(HCL.out.lt s (by omega)).2; omega) hvk
     obtain ⟨l,hl⟩ : ∃ l,l = κ v:=⟨_,rfl⟩
     rw [<- hl] at hlook hll
     have hlook : (Instr.lookup 151 (.map (some Mb)) (.int .i64 (v : Int)) false).run Try.prog wr = .ok (.agg (intsW l).toArray) wr:=hlook
     have HL:=hid_of (And.intro hl hv)
     obtain ⟨dk,hdk⟩:=und_kind
     clear hl hv hvk
     go_upto_region 13 with fail
     refine wp_region_list ?_
     refine wpList_plain rfl (fun K hK => ?_)
     go_simp
     refine hK _ _ ?_
     clear hK K
     refine wpList_plain rfl (fun K hK => ?_)
     go_simp
     refine hK _ _ ?_
     clear hK K
     refine wpList_plain rfl (fun K hK => ?_)
     go_simp
     refine hK _ _ ?_
     clear hK K
     refine wpList_plain rfl (fun K hK => ?_)
     go_simp
     refine hK _ _ ?_
     clear hK K
     refine wpList_plain rfl (fun K hK => ?_)
     go_simp
     refine hK _ _ ?_
     clear hK K
     refine wpList_plain rfl (fun K hK => ?_)
     go_simp
     refine hK _ _ ?_
     clear hK K
     refine wpList_plain rfl (fun K hK => ?_)
     go_simp
     refine hK _ _ ?_
     clear hK K
     refine wpList_store_row rfl 135 (.tmp 14) (.tmp 56) rfl wr.heap.size (intsW l).toArray rfl rfl 135 _ (heap_alloc_new wr _) (by rw [size_kind]; simp [intsW,hll]) (by simp [intsW,hll]) (ints_one l) ?_
     rw [World.setRow_alloc_new]
     refine wpList_nil ?_
     obtain ⟨g,hg⟩ : ∃ g,g = wr.heap.size:=⟨_,rfl⟩
     obtain ⟨Wk,hWk⟩ : ∃ W,W = wr.alloc (.cells (intsW l).toArray 135):=⟨_,rfl⟩
     have hbk : Below wr.heap.size wr Wk:=by rw [hWk]; exact bel_up (bel_self _) _
     have hgk3 : Wk.heap[g]? = some (.cells (intsW l).toArray 135 (0,0)):=by rw [hWk,hg]; exact heap_alloc_new wr _
     have hrk : Wk.rangeAt g 0 (intsW l):=blk_range hgk3
     have hGk:=hG.below hbk
     rw [<- hWk,<- hg]
     have hx0 : Wk.cell? ⟨g,0,none⟩ = some (.int .i64 (gI l 0)):=by
      have:=hrk 0 _ (ints_at (by omega))
      exact this
     obtain ⟨x0,hx0e⟩ : ∃ x,x = gI l 0:=⟨_,rfl⟩
     rw [<- hx0e] at hx0
     have HX0:=hid_of hx0e
     have hQg : Q < g:=by rw [hg]; exact cell_lt hG.q0
     have hfg : fv.ownBlock ≠ some g:=fun e => by have:=ownsRow_lt0 hG.fo g e; omega
     obtain ⟨f1,f3,rfl⟩:=own_slice hGk.fo
     obtain ⟨fl,hfl⟩ : ∃ n,n = fs.length:=⟨_,rfl⟩
     have hfl2 : fl <= 200:=by have:=HMO.out.2; omega
     rw [<- hfl] at hfg hGk
     have HFL:=hid_of hfl
     obtain ⟨ob,hob⟩ : ∃ o : Obj,o = .cells #[.int .i64 x0] 3:=⟨_,rfl⟩
     have hbE : Below Wk.heap.size Wk (Wk.alloc ob):=bel_up (bel_self _) _
     have hG5:=hGk.below hbE
     have hown:=hG5.fo
     rw [<- hfl] at hown
     have d2:=hGk.q2
     have hQl:=cell_lt hGk.q0
     have HFIN : Hid (∀ fv' w6,w6.ownsRow (Q + 1) 3 1 fv' (fl + 1) (intsW fs ++ [.int .i64 x0]) -> (Wk.alloc ob).grownBy w6 (Value.slice f1 fl f3).ownBlock -> (fv'.ownBlock = (Value.slice f1 fl f3).ownBlock \/ fv'.ownBlock = some (Wk.alloc ob).heap.size) -> NG w (w6.setCell ⟨Q,2,none⟩ fv') Mb Q Ab κ (ksN cl n) (.slice (some ⟨gm,0,none⟩) met.length mc) fv' av met (fs ++ [x0]) rs /\ w6.cell? ⟨Q,2,none⟩ = some (.slice f1 fl f3) /\ w6.frozen? ⟨Q,2,none⟩ = false /\ (w6.setCell ⟨Q,2,none⟩ fv').heap[g]? = some (.cells (intsW l).toArray 135 (0,0))):=fun fv' w6 h1 h2 h3 => by
      have hne : ∀ b,b <= Q -> some b ≠ (Value.slice f1 fl f3).ownBlock:=fun b hb e => by have:=own_base hown b e.symm; omega
      have bQ:=h2.block Q (cell_lt hG5.q0) (hne Q (Nat.le_refl _))
      refine ⟨hG5.final h2 (by rw [<- HFL.out]; exact h1) h3,cells_same bQ hG5.q2,frz_block bQ (hG5.qf 2),heap_far ((h2.block g (heap_lt (heap_bel hbE hgk3)) (fun e => hfg e.symm)).trans (heap_bel hbE hgk3)) (by omega)⟩
     obtain ⟨i0,hi,hz0,hz1,hz2⟩:=info_parts Try.info3
     rw [hob] at hown HFIN
     clear hob hbE hG5 hGk hG hWk hg hgk3 hrk hbk hx0e hfl hlook hcm
     go_upto_region 15 with (at_builtin; refine wpList_append_own_at _ rfl _ _ 22 rfl (Q + 1) 3 i0 (.int .i64 0) 1 8 Try.underlying22 hi hz0 hz1 hz2 rfl (by decide) (.slice f1 fl f3) fl _ rfl hown ⟨Wk.heap.size,0,none⟩ 1 1 [.int .i64 x0] rfl rfl (cells_new Wk #[.int .i64 x0] 3 _ rfl) (one_int _) (by unfold maxLen; omega) (by omega) (by rw [one_size]; omega) ?_; intro fv' w6 hown' hgrow _ hvv; obtain ⟨p1,p3,rfl⟩:=own_slice hown'; obtain ⟨HF,z3,z4,z5⟩:=HFIN.out _ w6 hown' hgrow hvv; clear hown' hgrow hvv hown HFIN)
     obtain ⟨Wf,hWf⟩ : ∃ W,W = w6.setCell ⟨Q,2,none⟩ (.slice p1 (fl + 1) p3):=⟨_,rfl⟩
     rw [<- hWf] at HF z5
     rw [<- hWf]
     clear hWf z3 z4 d2 hx0 hi hz0 hz1 hz2
     have hr1 : Wf.rangeAt g 1 (intsW l.tail):=by
      have h1:=range_part (k:=1) (blk_range z5)
      have e : intsW l.tail = (intsW l).drop 1:=by unfold intsW; rw [<- List.drop_one,List.map_drop]
      rw [e]
      exact h1
     refine wp_region_list ?_
     refine wpList_plain rfl (fun K hK => ?_)
     go_simp
     refine hK _ _ ?_
     clear hK K
     refine wpList_load_mid rfl 133 (.tmp 64) rfl g 1 rfl (intsW l.tail) _ hr1 und_leaps rfl (by rw [size_leaps]; simp [intsW,hll]) ?_
     refine wpList_plain rfl (fun K hK => ?_)
     go_simp
     refine hK _ _ ?_
     clear hK K
     refine wpList_nil ?_
     have HIX : Hid (∀ (i : Nat) (W : World),i < 9 -> (Instr.index 133 (.agg (intsW l.tail).toArray) (.int .i64 (i : Int))).run Try.prog W = .ok (.agg #[.int .i64 (gI l (1 + i * 2)),.int .i64 (gI l (1 + i * 2 + 1))]) W):=fun i W hi => by
      have:=index_leap hll hi W
      rw [List.drop_one] at this
      exact this
     obtain ⟨va,hva⟩ : ∃ V : Value,V = .agg (intsW l.tail).toArray:=⟨_,rfl⟩
     rw [<- hva] at HIX
     rw [<- hva]
     clear hva hr1 z5
     have HLE : Hid (LeapsIn l n0):=by rw [HL.out.1]; exact HLI.out v hvn
     have HMK : Hid (∀ i,i <= 9 -> MetOk (numLets l q (met,rs) i).1 n0):=fun i hi => (numLets_ok (n:=q) (S:=(met,rs)) HLE.out HMO.out.1 i hi).1
     have HNX : Hid (numN κ x (q + 1) = ((numLets l q (met,rs) 9).1,fs ++ [x0],(numLets l q (met,rs) 9).2)):=by
      have e1 : (numN κ x q).1.getD q 0 = v:=by rw [<- HS.out.1,List.getD_eq_getElem?_getD,HL.out.2]; rfl
      show ((numLets (κ ((numN κ x q).1.getD q 0)) q ((numN κ x q).1,(numN κ x q).2.2) 9).1,(numN κ x q).2.1 ++ [gI (κ ((numN κ x q).1.getD q 0)) 0],(numLets (κ ((numN κ x q).1.getD q 0)) q ((numN κ x q).1,(numN κ x q).2.2) 9).2) = _
      rw [e1,<- HS.out.1,<- HS.out.2.1,<- HS.out.2.2.1,<- HL.out.1,<- HX0.out]
     have HAR : Hid (∀ i,i <= 9 -> (numLets l q (met,rs) i).2.length <= 5000):=fun i hi => by
      have h1:=numLets_ars (k:=l) (n:=q) (S:=(met,rs)) i
      have h2:=numN_ars κ x q
      rw [<- HS.out.2.2.1] at h2
      dsimp only at h1
      omega
     have HST:=hid_of HF
     clear HF hfg hQg hQl hvn hdk
     go_wp2
     go_loopw [11,15,16,17,18,66] (fun t11 _ _ _ _ t66 wx => ∃ (i : Nat) (ma : Option Addr) (ml mc : Nat) (av : Value),i <= 9 /\ t11 = .slice ma ml mc /\ t66 = .int .i64 (i : Int) /\ NG w wx Mb Q Ab κ (ksN cl n) (.slice ma ml mc) (.slice p1 (fl + 1) p3) av (numLets l q (met,rs) i).1 (fs ++ [x0]) (numLets l q (met,rs) i).2) (fun _ _ _ _ _ t66 _ => 9 - (intOf t66).toNat)
     case atStart => exact ⟨0,_,_,_,_,Nat.zero_le _,rfl,rfl,HST.out⟩
     case round =>
      clear HST
      obtain ⟨i,ma,ml,mc,av,hi9,rfl,rfl,hG⟩:=hrel
      have hiw : IntKind.i64.wrap ((i : Int) + 1) = (i : Int) + 1:=wrap_in _ (by omega) (by omega)
      by_cases hli : i < 9
      ·have hii : (i : Int) < 9:=by omega
       have hix:=HIX.out i wr hli
       have hlin:=HLE.out i hli
       obtain ⟨a,hae⟩ : ∃ a,a = gI l (1 + i * 2):=⟨_,rfl⟩
       obtain ⟨c,hce⟩ : ∃ a,a = gI l (1 + i * 2 + 1):=⟨_,rfl⟩
       rw [<- hae] at hlin
       rw [<- hae,<- hce] at hix
       have HAC:=hid_of (And.intro hae hce)
       clear hae hce
       have hbL : Below wr.heap.size wr (wr.alloc (.cells #[.int .i64 a,.int .i64 c] 132)):=bel_up (bel_self _) _
       by_cases ha1 : a = -1
       ·subst ha1
        have HN : Hid (NG w (wr.alloc (.cells #[.int .i64 (-1),.int .i64 c] 132)) Mb Q Ab κ (ksN cl n) (.slice ma ml mc) (.slice p1 (fl + 1) p3) av (numLets l q (met,rs) (i + 1)).1 (fs ++ [x0]) (numLets l q (met,rs) (i + 1)).2):=by
         have e : numLets l q (met,rs) (i + 1) = numLets l q (met,rs) i:=by
          show numStep l q (numLets l q (met,rs) i) i = _
          unfold numStep
          rw [if_pos HAC.out.1.symm]
         rw [e]
         exact hG.below hbL
        clear hG hlin hbL
        go_wp2
        go_roundw
        case rel => exact ⟨i + 1,_,_,_,_,by omega,rfl,by go_num,HN.out⟩
        case measure => simp [intOf]; omega
       ·obtain ⟨t,rfl,htn⟩:=hlin.resolve_left ha1
        have hta : ((t : Int) == -1) = false:=by
         rw [beq_eq_false_iff_ne]
         omega
        obtain ⟨Wl,hWl⟩ : ∃ W,W = wr.alloc (.cells #[.int .i64 (t : Int),.int .i64 c] 132):=⟨_,rfl⟩
        obtain ⟨gl,hgl⟩ : ∃ g,g = wr.heap.size:=⟨_,rfl⟩
        rw [<- hWl] at hbL
        have hGl:=hG.below hbL
        have hlb : Wl.heap[gl]? = some (.cells #[.int .i64 (t : Int),.int .i64 c] 132 (0,0)):=by rw [hWl,hgl]; exact heap_alloc_new wr _
        obtain ⟨M,hM⟩ : ∃ M,M = (numLets l q (met,rs) i).1:=⟨_,rfl⟩
        obtain ⟨R,hR⟩ : ∃ R,R = (numLets l q (met,rs) i).2:=⟨_,rfl⟩
        have hMok : MetOk M n0:=by rw [hM]; exact HMK.out i hi9
        have HR5 : Hid (R.length <= 5000):=by rw [hR]; exact HAR.out i hi9
        have HE : Hid (numLets l q (met,rs) (i + 1) = if t ∈ M then (M,R ++ [⟨(q : Int),(i : Int) + 1,(i : Int) + 1,(M.idxOf t : Int),c⟩]) else (M ++ [t],R ++ [⟨(q : Int),(i : Int) + 1,(i : Int) + 1,(M.length : Int),c⟩])):=by
         show numStep l q (numLets l q (met,rs) i) i = _
         unfold numStep
         rw [<- HAC.out.1,<- HAC.out.2,if_neg (by omega)]
         dsimp only
         rw [Int.toNat_natCast,<- hM,<- hR,show (((i + 1 : Nat)) : Int) = (i : Int) + 1 by omega]
         by_cases e : t ∈ M
         ·rw [if_pos e,if_pos e]
         ·have e2 : (M ++ [t]).idxOf t = M.length:=by
           rw [List.idxOf_append,if_neg e]
           simp
          rw [if_neg e,if_neg e,e2]
        rw [<- hM,<- hR] at hGl
        obtain rfl : ml = M.length:=own_len hGl.mo
        have hml:=metOk_len hMok
        have hgm : ∀ b,(Value.slice ma M.length mc).ownBlock = some b -> b < gl:=fun b e => by
         have h1:=hG.mo
         rw [hgl]
         exact ownsRow_lt0 h1 b e
        have hAg : Ab < gl:=by rw [hgl]; exact hG.an.lt
        clear hG hM hR hbL
        go_upto_region 19 with fail
        rw [<- hWl,<- hgl]
        clear hWl hgl hix
        have l0 : Wl.cell? ⟨gl,0,none⟩ = some (.int .i64 (t : Int)):=by rw [Go.Joins.cell_of_block hlb]; rfl
        have l1 : Wl.cell? ⟨gl,1,none⟩ = some (.int .i64 c):=by rw [Go.Joins.cell_of_block hlb]; rfl
        rcases num_look hGl.an (zip_le hMok.2 (by omega)) (x:=t) (by omega) with ⟨hno,hlk⟩ | ⟨d,hd,hlk,hlk2⟩
        ·have hnM:=zip_not hno
         obtain ⟨Wp,hput,hnp,hgp⟩:=num_put (c:=M.length) hGl.an (zip_le hMok.2 (by omega)) (x:=t) (by omega) hno
         have blp:=hgp.block gl (heap_lt hlb) (fun e => by injection e with e; omega)
         have lp0 : Wp.cell? ⟨gl,0,none⟩ = some (.int .i64 (t : Int)):=cells_same blp l0
         obtain ⟨o1,ho1⟩ : ∃ o : Obj,o = .cells #[.int .i64 (t : Int)] 3:=⟨_,rfl⟩
         have hg1 : Wl.grownBy (Wp.alloc o1) (some Ab):=grown_alloc hgp o1
         have hb1 : Below Wp.heap.size Wp (Wp.alloc o1):=bel_up (bel_self _) _
         have hn1 : NumM (Wp.alloc o1) Ab (M.zipIdx ++ [(t,M.length)]):=hnp.block (hb1.block Ab hnp.lt)
         have hown1 : (Wp.alloc o1).ownsRow (Q + 1) 3 1 (.slice ma M.length mc) M.length (intsW (M.map fun x : Nat => (x : Int))):=own_same hGl.mo fun b e => hg1.block b (ownsRow_lt0 hGl.mo b e) (fun e2 => by injection e2 with e2; exact hGl.ma (by rw [e,e2]))
         have bl1 : (Wp.alloc o1).heap[gl]? = Wl.heap[gl]?:=hg1.block gl (heap_lt hlb) (fun e => by injection e with e; omega)
         have hQp : Q + 1 <= (Wp.alloc o1).heap.size:=by have:=cell_lt hGl.q0; have:=hg1.size; omega
         have hMt : MetOk (M ++ [t]) n0:=⟨List.nodup_append.2 ⟨hMok.1,by simp,fun a ha b hb e => hnM (by rw [List.mem_singleton.1 hb] at e; rw [<- e]; exact ha)⟩,fun y hy => by
          rcases List.mem_append.1 hy with hy | hy
          ·exact hMok.2 y hy
          ·rw [List.mem_singleton.1 hy]; exact htn⟩
         have HMT : Hid (∀ mv' w5,w5.ownsRow (Q + 1) 3 1 mv' (M.length + 1) (intsW (M.map fun x : Nat => (x : Int)) ++ [.int .i64 (t : Int)]) -> (Wp.alloc o1).grownBy w5 (Value.slice ma M.length mc).ownBlock -> (mv'.ownBlock = (Value.slice ma M.length mc).ownBlock \/ mv'.ownBlock = some (Wp.alloc o1).heap.size) -> NG w w5 Mb Q Ab κ (ksN cl n) mv' (.slice p1 (fl + 1) p3) av (M ++ [t]) (fs ++ [x0]) R /\ w5.cell? ⟨gl,0,none⟩ = some (.int .i64 (t : Int)) /\ w5.cell? ⟨gl,1,none⟩ = some (.int .i64 c) /\ ∃ d : Nat,d = M.length /\ (Instr.lookup 69 (.map (some Ab)) (.int .i64 (t : Int)) false).run Try.prog w5 = .ok (.int .i64 (d : Int)) w5):=fun mv' w5 h1 h2 h3 => by
          have h5:=hGl.meet hg1 hn1 h2 h1 h3
          have b5 : w5.heap[gl]? = Wl.heap[gl]?:=(h2.block gl (by have:=heap_lt hlb; have:=hg1.size; omega) (fun e => by have:=hgm gl e.symm; omega)).trans bl1
          refine ⟨h5,cells_same b5 l0,cells_same b5 l1,?_⟩
          rcases num_look h5.an (zip_le hMt.2 (by omega)) (x:=t) (by omega) with ⟨hx,_⟩ | ⟨d,hd,_,hl⟩
          ·exact absurd (List.mem_append.2 (Or.inr (List.mem_singleton.2 rfl))) (zip_not hx)
          ·refine ⟨d,?_,hl⟩
           rw [(zip_mem hMt.1 hd).1,List.idxOf_append,if_neg hnM]
           simp
         rw [ho1] at hown1 HMT hQp
         obtain ⟨i0,hi0,hz0,hz1,hz2⟩:=info_parts Try.info3
         have HNM:=hid_of hnM
         have hMl:=metOk_len hMok
         clear ho1 hg1 hb1 hn1 bl1 hMt hMok hnM hno hnp hgp blp hlb hGl l1
         go_upto_region 23 with (at_builtin; refine wpList_append_own_at _ rfl _ _ 22 rfl (Q + 1) 3 i0 (.int .i64 0) 1 8 Try.underlying22 hi0 hz0 hz1 hz2 rfl (by decide) (.slice ma M.length mc) M.length _ rfl hown1 ⟨Wp.heap.size,0,none⟩ 1 1 [.int .i64 (t : Int)] rfl rfl (cells_new Wp #[.int .i64 (t : Int)] 3 _ rfl) (one_int _) (by unfold maxLen; omega) (by omega) hQp ?_; intro mv' w5 hown' hgrow _ hvv; obtain ⟨m1,m3,rfl⟩:=own_slice hown'; obtain ⟨hG5,k0,k1,d,hdM,hlk5⟩:=HMT.out _ w5 hown' hgrow hvv; clear hown' hgrow hvv hown1 HMT)
         clear l0 lp0 hput hlk hQp hi0 hz0 hz1 hz2
         have HDM:=hid_of hdM
         clear hdM
         obtain ⟨r1,r3,rfl⟩:=own_slice hG5.ao
         obtain ⟨rl,hrl⟩ : ∃ n,n = R.length:=⟨_,rfl⟩
         have HRL:=hid_of hrl
         have hrl5 : rl <= 5000:=by have:=HR5.out; omega
         rw [<- hrl] at hG5
         obtain ⟨ob,hob⟩ : ∃ o : Obj,o = .cells #[.int .i64 (q : Int),.int .i64 ((i : Int) + 1),.int .i64 ((i : Int) + 1),.int .i64 (d : Int),.int .i64 c] 54:=⟨_,rfl⟩
         have hbE : Below w5.heap.size w5 (w5.alloc ob):=bel_up (bel_self _) _
         have hGE:=hG5.below hbE
         have hown:=hGE.ao
         rw [<- hrl] at hown
         have d3:=hG5.q3
         have hQ2:=cell_lt hG5.q0
         have HARM : Hid (∀ av' w4,w4.ownsRow (Q + 1) 54 5 av' (rl + 1) (arcsV R ++ [.int .i64 (q : Int),.int .i64 ((i : Int) + 1),.int .i64 ((i : Int) + 1),.int .i64 (d : Int),.int .i64 c]) -> (w5.alloc ob).grownBy w4 (Value.slice r1 rl r3).ownBlock -> (av'.ownBlock = (Value.slice r1 rl r3).ownBlock \/ av'.ownBlock = some (w5.alloc ob).heap.size) -> NG w (w4.setCell ⟨Q,3,none⟩ av') Mb Q Ab κ (ksN cl n) (.slice m1 (M.length + 1) m3) (.slice p1 (fl + 1) p3) av' (numLets l q (met,rs) (i + 1)).1 (fs ++ [x0]) (numLets l q (met,rs) (i + 1)).2 /\ w4.cell? ⟨Q,3,none⟩ = some (.slice r1 rl r3) /\ w4.frozen? ⟨Q,3,none⟩ = false):=fun av' w4 h1 h2 h3 => by
          have hne : some Q ≠ (Value.slice r1 rl r3).ownBlock:=fun e => by have:=own_base hown Q e.symm; omega
          have bQ:=h2.block Q (cell_lt hGE.q0) hne
          refine ⟨?_,cells_same bQ hGE.q3,frz_block bQ (hGE.qf 3)⟩
          have he:=HE.out
          rw [if_neg HNM.out,<- HDM.out] at he
          rw [he]
          exact hGE.arc (a:=⟨(q : Int),(i : Int) + 1,(i : Int) + 1,(d : Int),c⟩) h2 (by rw [<- HRL.out]; exact h1) h3
         rw [hob] at hown HARM
         obtain ⟨iA,hiA,hzA0,hzA1,hzA2⟩:=info_parts Try.info54
         clear hob hbE hGE hG5 hrl
         go_wp2_with (at_builtin; refine wpList_append_own_at _ rfl _ _ 23 rfl (Q + 1) 54 iA _ 5 40 Try.underlying23 hiA hzA0 hzA1 hzA2 rfl (by decide) (.slice r1 rl r3) rl _ rfl hown ⟨w5.heap.size,0,none⟩ 1 1 [.int .i64 (q : Int),.int .i64 ((i : Int) + 1),.int .i64 ((i : Int) + 1),.int .i64 (d : Int),.int .i64 c] rfl rfl (cells_new _ #[.int .i64 (q : Int),.int .i64 ((i : Int) + 1),.int .i64 ((i : Int) + 1),.int .i64 (d : Int),.int .i64 c] 54 w5.heap.size rfl) (oneCell_arc ⟨(q : Int),(i : Int) + 1,(i : Int) + 1,(d : Int),c⟩) (by unfold maxLen; omega) (by omega) (by rw [one_size]; omega) ?_; intro av' w4 hown' hgrow _ hvv; obtain ⟨s1,s3,rfl⟩:=own_slice hown'; obtain ⟨HF,z3,z4⟩:=HARM.out _ w4 hown' hgrow hvv; have HFH:=hid_of HF; clear hown' hgrow hvv hown HARM HF)
         go_roundw
         case rel => exact ⟨i + 1,_,_,_,_,by omega,rfl,by go_num,HFH.out⟩
         case measure => simp [intOf]; omega
        ·obtain ⟨hdi,htM⟩:=zip_mem hMok.1 hd
         clear hd hlb
         have HDI:=hid_of (And.intro hdi htM)
         clear hdi htM
         obtain ⟨r1,r3,rfl⟩:=own_slice hGl.ao
         obtain ⟨rl,hrl⟩ : ∃ n,n = R.length:=⟨_,rfl⟩
         have HRL:=hid_of hrl
         have hrl5 : rl <= 5000:=by have:=HR5.out; omega
         rw [<- hrl] at hGl
         obtain ⟨ob,hob⟩ : ∃ o : Obj,o = .cells #[.int .i64 (q : Int),.int .i64 ((i : Int) + 1),.int .i64 ((i : Int) + 1),.int .i64 (d : Int),.int .i64 c] 54:=⟨_,rfl⟩
         have hbE : Below Wl.heap.size Wl (Wl.alloc ob):=bel_up (bel_self _) _
         have hGE:=hGl.below hbE
         have hown:=hGE.ao
         rw [<- hrl] at hown
         have d3:=hGl.q3
         have hQ2:=cell_lt hGl.q0
         have HARM : Hid (∀ av' w4,w4.ownsRow (Q + 1) 54 5 av' (rl + 1) (arcsV R ++ [.int .i64 (q : Int),.int .i64 ((i : Int) + 1),.int .i64 ((i : Int) + 1),.int .i64 (d : Int),.int .i64 c]) -> (Wl.alloc ob).grownBy w4 (Value.slice r1 rl r3).ownBlock -> (av'.ownBlock = (Value.slice r1 rl r3).ownBlock \/ av'.ownBlock = some (Wl.alloc ob).heap.size) -> NG w (w4.setCell ⟨Q,3,none⟩ av') Mb Q Ab κ (ksN cl n) (.slice ma M.length mc) (.slice p1 (fl + 1) p3) av' (numLets l q (met,rs) (i + 1)).1 (fs ++ [x0]) (numLets l q (met,rs) (i + 1)).2 /\ w4.cell? ⟨Q,3,none⟩ = some (.slice r1 rl r3) /\ w4.frozen? ⟨Q,3,none⟩ = false):=fun av' w4 h1 h2 h3 => by
          have hne : some Q ≠ (Value.slice r1 rl r3).ownBlock:=fun e => by have:=own_base hown Q e.symm; omega
          have bQ:=h2.block Q (cell_lt hGE.q0) hne
          refine ⟨?_,cells_same bQ hGE.q3,frz_block bQ (hGE.qf 3)⟩
          have he:=HE.out
          rw [if_pos HDI.out.2,<- HDI.out.1] at he
          rw [he]
          exact hGE.arc (a:=⟨(q : Int),(i : Int) + 1,(i : Int) + 1,(d : Int),c⟩) h2 (by rw [<- HRL.out]; exact h1) h3
         rw [hob] at hown HARM
         obtain ⟨iA,hiA,hzA0,hzA1,hzA2⟩:=info_parts Try.info54
         clear hob hbE hGE hGl hrl
         go_wp2_with (at_builtin; refine wpList_append_own_at _ rfl _ _ 23 rfl (Q + 1) 54 iA _ 5 40 Try.underlying23 hiA hzA0 hzA1 hzA2 rfl (by decide) (.slice r1 rl r3) rl _ rfl hown ⟨Wl.heap.size,0,none⟩ 1 1 [.int .i64 (q : Int),.int .i64 ((i : Int) + 1),.int .i64 ((i : Int) + 1),.int .i64 (d : Int),.int .i64 c] rfl rfl (cells_new _ #[.int .i64 (q : Int),.int .i64 ((i : Int) + 1),.int .i64 ((i : Int) + 1),.int .i64 (d : Int),.int .i64 c] 54 Wl.heap.size rfl) (oneCell_arc ⟨(q : Int),(i : Int) + 1,(i : Int) + 1,(d : Int),c⟩) (by unfold maxLen; omega) (by omega) (by rw [one_size]; omega) ?_; intro av' w4 hown' hgrow _ hvv; obtain ⟨s1,s3,rfl⟩:=own_slice hown'; obtain ⟨HF,z3,z4⟩:=HARM.out _ w4 hown' hgrow hvv; have HFH:=hid_of HF; clear hown' hgrow hvv hown HARM HF)
         go_roundw
         case rel => exact ⟨i + 1,_,_,_,_,by omega,rfl,by go_num,HFH.out⟩
         case measure => simp [intOf]; omega
      ·obtain rfl : i = 9:=by omega
       have HFIN : Hid (∃ S1,S1 = numN κ x (q + 1) /\ q + 1 <= S1.1.length /\ NG w wr Mb Q Ab κ (ksN cl n) (.slice ma ml mc) (.slice p1 (fl + 1) p3) av S1.1 S1.2.1 S1.2.2):=by
        refine ⟨_,rfl,?_,?_⟩
        ·rw [HNX.out]
         obtain ⟨l2,hl2⟩:=(numLets_ok (n:=q) (S:=(met,rs)) HLE.out HMO.out.1 9 (by omega)).2
         dsimp only
         rw [hl2,List.length_append]
         dsimp only
         omega
        ·rw [HNX.out]
         exact hG
       have HALL : Hid (∀ j,j < q + 1 -> j < (numN κ x j).1.length):=fun j hj => by
        by_cases e : j = q
        ·subst e
         rw [<- HS.out.1]
         exact hqm
        ·exact HS.out.2.2.2 j (by omega)
       clear hG
       go_wp2
       go_roundw
       case rel =>
        obtain ⟨S1,e1,e2,e3⟩:=HFIN.out
        subst e1
        exact ⟨q + 1,_,_,_,_,_,rfl,by go_num,e2,HALL.out,e3⟩
       case measure => simp [intOf]; omega
    ·obtain rfl : q = met.length:=by omega
     have hqn : ¬ (met.length : Int) < met.length:=by omega
     obtain ⟨z0,z1,z2,z3,y0,y1,y2,y3⟩:=zfacts hG.res
     obtain ⟨f1,f3,rfl⟩:=own_slice hG.fo
     obtain ⟨r1,r3,rfl⟩:=own_slice hG.ao
     obtain ⟨fl,hfl⟩ : ∃ n,n = fs.length:=⟨_,rfl⟩
     obtain ⟨rl,hrl⟩ : ∃ n,n = rs.length:=⟨_,rfl⟩
     rw [<- hfl,<- hrl] at hG
     have d0:=hG.q0
     have d1:=hG.q1
     have d2:=hG.q2
     have d3:=hG.q3
     have e0:=hG.qf 0
     have hQw : Q ≠ w.heap.size:=by have:=hG.hM; have:=hG.hQ; omega
     have HG:=hid_of hG
     have HLN:=hid_of (And.intro hfl hrl)
     clear hG hfl hrl
     go_wp2
     refine bodyPost_ret (v:=.agg #[.int .i64 (met.length : Int),.int .i64 0,.slice f1 fl f3,.slice r1 rl r3]) (by simp [results,Try.results104,go_sem, *]) rfl ?_
     rw [<- HX.out]
     have hb:=HG.out.hM
     have hb2:=HG.out.hQ
     refine ⟨met.length,f1,fl,f3,r1,rl,r3,⟨HS.out.2.2.2,congrArg List.length HS.out.1.symm⟩,rfl,?_,?_,fun b e => ?_,fun b e => ?_,bel_set4 (HG.out.bel.setCell (p:=⟨Q,0,none⟩) (by show w.heap.size <= Q; omega) _) (Nat.le_refl _) _ _ _ _⟩
     ·have h1:=HG.out.fo
      have hq : (Value.slice f1 fl f3).ownBlock ≠ some Q:=fun e => by have:=own_base h1 Q e; omega
      have hx : (Value.slice f1 fl f3).ownBlock ≠ some w.heap.size:=fun e => by have:=own_base h1 _ e; omega
      have h2:=ownsRow_setCell_far (i:=3) (u:=.slice r1 rl r3) (ownsRow_setCell_far (i:=2) (u:=.slice f1 fl f3) (ownsRow_setCell_far (i:=1) (u:=.int .i64 0) (ownsRow_setCell_far (i:=0) (u:=.int .i64 (met.length : Int)) (ownsRow_setCell_far (i:=0) (u:=.int .i64 (met.length : Int)) h1 hq) hx) hx) hx) hx
      rw [<- HS.out.2.1]
      exact ownsRow_ints h2
     ·have h1:=HG.out.ao
      have hq : (Value.slice r1 rl r3).ownBlock ≠ some Q:=fun e => by have:=own_base h1 Q e; omega
      have hx : (Value.slice r1 rl r3).ownBlock ≠ some w.heap.size:=fun e => by have:=own_base h1 _ e; omega
      have h2:=ownsRow_setCell_far (i:=3) (u:=.slice r1 rl r3) (ownsRow_setCell_far (i:=2) (u:=.slice f1 fl f3) (ownsRow_setCell_far (i:=1) (u:=.int .i64 0) (ownsRow_setCell_far (i:=0) (u:=.int .i64 (met.length : Int)) (ownsRow_setCell_far (i:=0) (u:=.int .i64 (met.length : Int)) h1 hq) hx) hx) hx) hx
      rw [<- HS.out.2.2.1]
      exact ownsRow_arcs h2
     ·have:=own_base HG.out.fo b e; omega
     ·have:=own_base HG.out.ao b e; omega
end Go.Proofs.Yteehgcbjmdideab
/- It is trimmed,and told as early as may be. -/
namespace Go.Proofs.Yteehgcbjmdideab
section
variable {x : FstD} {K : Nat}
theorem XIn.none (h : XIn x K) (h0 : gI (toD x) 0 = -1) : K = 1 /\ x = ⟨1,0,[-1],[]⟩:=by
 have hno : ∀ v y,¬ EndP x 0 v y:=by
  rintro v y ⟨m,z,hr,hf,rfl⟩
  rcases h.gin.to 0 with ⟨_,h1⟩ | ⟨h1,_⟩
  ·have:=h1 v m z hr; omega
  ·omega
 have hK : K = 1:=by
  by_cases e : 1 < K
  ·exfalso
   obtain ⟨u,z,hu⟩:=h.comes 1 e
   obtain ⟨⟨v,hv⟩,_⟩:=h.zero (k:=1) (by omega) e
   exact hno (v ++ u) z ((endP_split h.ord hu v z).2 (by rw [Int.sub_self]; exact hv))
  ·have:=h.k0; omega
 subst hK
 have harcs : x.arcs = []:=by
  rcases e : x.arcs with _ | ⟨a,l⟩
  ·rfl
  ·exfalso
   have ha : a ∈ x.arcs:=by rw [e]; exact List.mem_cons_self
   have h1:=h.gin.arcs a ha
   have h2:=h.no_back ha
   omega
 have hfin : x.final = [-1]:=by
  have hl:=h.gin.flen
  rcases e : x.final with _ | ⟨y,l⟩
  ·rw [e] at hl; simp at hl
  ·rw [e] at hl
   have : l = []:=by
    cases l with
    | nil => rfl
    | cons _ _ => simp at hl
   subst this
   have hg : gI x.final 0 = y:=by rw [e]; rfl
   rcases h.fin 0 with h1 | h1
   ·rw [hg] at h1; rw [h1]
   ·exact absurd (endP_nil.2 ⟨h1,rfl⟩) (hno [] _)
 refine ⟨rfl,?_⟩
 have h1:=h.gin.st
 have h2:=h.sta
 obtain ⟨a,b,c,d⟩:=x
 simp only at h1 h2 harcs hfin
 subst h1 h2 harcs hfin
 rfl
theorem XIn.leads (h : XIn x K) (h0 : gI (toD x) 0 ≠ -1) {k : Nat} (hk : k < K) : ∃ v y,EndP x k v y:=by
 by_cases e : k = 0
 ·subst e
  rcases h.gin.to 0 with ⟨h1,_⟩ | ⟨_,⟨v,m,z,h1,h2,h3⟩,_⟩
  ·exact absurd h1 h0
  ·exact ⟨v,_,m,z,h1,h2,rfl⟩
 ·obtain ⟨⟨v,hv⟩,_⟩:=h.zero (k:=k) (by omega) hk
  exact ⟨v,0,hv⟩
theorem XIn.reachA (h : XIn x K) : ∀ (u : List Int) (k : Nat) (z : Int),WdR x 0 u k z -> Sc.ReachP K (Sc.pairsA x) (Sc.firstA x) k
 | [],k,z,hu => by
  obtain ⟨rfl,_⟩:=hu
  exact Sc.Reach.first ⟨h.k0,by unfold Sc.firstA; rw [h.sta]; decide⟩
 | c :: u,k,z,hu => by
  obtain ⟨a,ha,k',z',hu',hi,hs,hd,rfl⟩:=hu
  refine Sc.Reach.on (h.reachA u k' z' hu') (List.mem_map.2 ⟨a,ha,?_⟩)
  rw [hs,hd,Int.toNat_natCast,Int.toNat_natCast]
theorem XIn.reachB (h : XIn x K) : ∀ v : List Int,∀ (k : Nat) (y : Int),k < K -> EndP x k v y -> Sc.ReachP K (Sc.pairsB x) (Sc.firstB x) k:=by
 refine snoc_ind ?_ ?_
 ·intro k y hk hv
  have h1:=(endP_nil.1 hv).1
  refine Sc.Reach.first ⟨hk,?_⟩
  unfold Sc.firstB
  have hl : k < x.final.length:=by rw [h.gin.flen]; exact hk
  have : x.final.getD k 0 = gI x.final k:=by
   unfold gI
   rw [List.getD_eq_getElem?_getD,List.getD_eq_getElem?_getD,List.getElem?_eq_getElem hl]
   rfl
  rw [this]
  simp
  omega
 ·intro v c ih k y hk hv
  obtain ⟨a,ha,m,hs,hi,hd,hv⟩:=endP_first.1 hv
  have hb:=h.gin.arcs a ha
  refine Sc.Reach.on (ih m _ (by omega) hv) (List.mem_map.2 ⟨a,ha,?_⟩)
  rw [hs,hd,Int.toNat_natCast,Int.toNat_natCast]
theorem newNo_all {st : Nat -> Bool} : ∀ {k : Nat},(∀ i,i < k -> st i = true) -> Sc.newNo st k = k
 | 0,_ => rfl
 | k + 1,h => by
  rw [Sc.newNo_succ,newNo_all (fun i hi => h i (by omega)),if_pos (h k (by omega))]
theorem XIn.trim (h : XIn x K) : Sc.IsTrim x x:=by
 by_cases h0 : gI (toD x) 0 = -1
 ·obtain ⟨_,rfl⟩:=h.none h0
  refine ⟨fun _ => false,fun i => ⟨fun e => (by cases e),fun e => ?_⟩,rfl⟩
  exfalso
  refine e.2 (fun _ => False) ?_ (fun s t h _ => h)
  rintro s ⟨h1,h2⟩
  have h1 : s < 1:=h1
  obtain rfl : s = 0:=by omega
  cases h2
 ·have hst : x.states.toNat = K:=by rw [h.gin.st,Int.toNat_natCast]
  refine ⟨fun i => decide (i < K),fun i => ?_,?_⟩
  ·unfold Sc.Stays
   rw [hst]
   constructor
   ·intro e
    have hi:=of_decide_eq_true e
    obtain ⟨u,z,hu⟩:=h.comes i hi
    obtain ⟨v,y,hv⟩:=h.leads h0 hi
    exact ⟨h.reachA u i z hu,h.reachB v i y hi hv⟩
   ·intro e
    refine decide_eq_true (Sc.ReachP.lt e.1 fun p hp => ?_)
    obtain ⟨a,ha,rfl⟩:=List.mem_map.1 hp
    have:=h.gin.arcs a ha
    show a.dst.toNat < K
    omega
  ·have all : ∀ i,i < K -> (fun i => decide (i < K)) i = true:=fun i hi => decide_eq_true hi
   have hn : ∀ k,k <= K -> Sc.newNo (fun i => decide (i < K)) k = k:=fun k hk => newNo_all fun i hi => all i (by omega)
   have hs0 : x.start.toNat = 0:=by rw [h.sta]; rfl
   have e1 : Sc.finT x (fun i => decide (i < K)) K = x.final:=by
    unfold Sc.finT
    have : (List.range K).filter (fun i => decide (i < K)) = List.range K:=List.filter_eq_self.2 fun i hi => decide_eq_true (List.mem_range.1 hi)
    rw [this]
    apply List.ext_getElem (by simp [h.gin.flen])
    intro i h1 h2
    simp [List.getD,h2]
   have e2 : Sc.arcsT (fun i => decide (i < K)) x.arcs = x.arcs:=by
    unfold Sc.arcsT
    have hw:=h.gin.arcs
    have : x.arcs.filter (fun a => decide (a.src.toNat < K) && decide (a.dst.toNat < K)) = x.arcs:=List.filter_eq_self.2 fun a ha => by
     have:=hw a ha
     simp
     omega
    rw [this]
    have : ∀ a ∈ x.arcs,Sc.arcT (fun i => decide (i < K)) a = a:=fun a ha => by
     have:=hw a ha
     unfold Sc.arcT
     rw [hn _ (by omega),hn _ (by omega)]
     obtain ⟨a1,a2,a3,a4,a5⟩:=a
     simp only at this ⊢
     rw [show ((a1.toNat : Nat) : Int) = a1 by omega,show ((a4.toNat : Nat) : Int) = a4 by omega]
    exact (List.map_congr_left (g:=id) this).trans (List.map_id _)
   unfold Sc.trimBy
   rw [hs0,if_pos (all 0 h.k0),hst,hn K (Nat.le_refl _),hn 0 (Nat.zero_le _),e1,e2]
   have h1:=h.gin.st
   have h2:=h.sta
   obtain ⟨a,b,c,d⟩:=x
   simp only at h1 h2 ⊢
   subst h1 h2
   rfl
theorem XIn.back (h : XIn x K) (h0 : 0 <= gI (toD x) 0) : GIn (backF x) K /\ ∀ n,n < K -> gI (toD (backF x)) n = if n = 0 then 0 else -1:=by
 have hl : ∀ k,k < K -> 0 <= gI (toD x) k:=fun k hk => by
  by_cases e : k = 0
  ·subst e; exact h0
  ·rw [h.early k (by omega) hk]; omega
 have hst : x.states.toNat = K:=by rw [h.gin.st,Int.toNat_natCast]
 have hbg : ∀ n,n < K -> gI (begL x.start x.states.toNat) n = if n = 0 then 0 else -1:=by
  intro n hn
  rw [h.sta,hst]
  unfold gI begL
  rw [List.getD_eq_getElem?_getD,List.getElem?_map,List.getElem?_range hn]
  show (if (n : Int) = 0 then (0 : Int) else -1) = _
  by_cases e : n = 0
  ·rw [if_pos e,if_pos (by omega)]
  ·rw [if_neg e,if_neg (by omega)]
 have hB : GIn (backF x) K:=by
  refine ⟨h.gin.st,?_,fun y hy => ?_,fun b hb => ?_⟩
  ·show (begL x.start x.states.toNat).length = K
   rw [begL_len,hst]
  ·rcases begL_mem _ _ y hy with e | e <;> omega
  ·obtain ⟨a,ha,rfl⟩:=List.mem_map.1 hb
   have h1:=h.gin.arcs a ha
   exact ⟨h1.1,h1.2.1,(h.gin.moved hl ha).1⟩
 refine ⟨hB,fun n hn => ?_⟩
 have hk0:=h.k0
 by_cases e : n = 0
 ·subst e
  rw [if_pos rfl]
  have h0 : gI (backF x).final 0 = 0:=by
   have:=hbg 0 hk0
   rw [if_pos rfl] at this
   exact this
  have:=hB.to_fin (n:=0) (by omega)
  omega
 ·rw [if_neg e]
  rcases hB.to n with ⟨h1,_⟩ | ⟨_,⟨v,k,z,h1,h2,_⟩,_⟩
  ·exact h1
  ·exfalso
   have hkK : k < K:=by
    by_cases hlt : k < K
    ·exact hlt
    ·have : gI (backF x).final k = -1:=gI_out (by rw [hB.flen]; omega)
     omega
   have hk : k = 0:=by
    have h3 : gI (backF x).final k = _:=hbg k hkK
    by_cases e2 : k = 0
    ·exact e2
    ·rw [if_neg e2] at h3; omega
   subst hk
   cases v with
   | nil => exact e h1.1.symm
   | cons c v =>
    obtain ⟨b,hb,n',z',_,_,_,hd,_⟩:=h1
    obtain ⟨a,ha,rfl⟩:=List.mem_map.1 hb
    exact h.no_back ha hd
theorem XIn.pot (h : XIn x K) (h0 : 0 <= gI (toD x) 0) {n : Nat} (hn : n < K) : gI (toD x) n + gI (ahD (toD x) (toD (backF x)) (gI (toD x) x.start.toNat) x.states.toNat) n = 0:=by
 have hb:=(h.back h0).2 n hn
 have hlen : (toD x).length = K:=by
  unfold toD
  rw [rounds_len,h.gin.flen]
 have hst : x.states.toNat = K:=by rw [h.gin.st,Int.toNat_natCast]
 have hs0 : x.start.toNat = 0:=by rw [h.sta]; rfl
 rw [ahD_at _ _ _ _ (by omega),hst,if_pos hn,hb,hs0]
 by_cases e : n = 0
 ·subst e
  rw [if_pos rfl]
  by_cases hb2 : betterB 0 (gI (toD x) 0) = true
  ·rw [if_pos hb2]; omega
  ·rw [if_neg hb2]
   have : ¬ (gI (toD x) 0 = -1 \/ (0 : Int) < gI (toD x) 0):=fun hh => hb2 ((better_iff (by omega) (by omega)).2 ⟨by omega,hh⟩)
   omega
 ·rw [if_neg e]
  have : ¬ betterB (-1) (gI (toD x) 0) = true:=by unfold betterB; simp
  rw [if_neg this,h.early n (by omega) hn]
  omega
theorem XIn.again (h : XIn x K) (h0 : 0 <= gI (toD x) 0) : earlyD x = x:=by
 have hpot : ∀ n,n < K -> _:=fun n hn => h.pot h0 hn
 obtain ⟨q,hq⟩ : ∃ q,q = ahD (toD x) (toD (backF x)) (gI (toD x) x.start.toNat) x.states.toNat:=⟨_,rfl⟩
 rw [<- hq] at hpot
 have hx : earlyD x = movD (movD x (toD x)) q:=by rw [hq]; rfl
 have hfl:=h.gin.flen
 have e1 : (movD (movD x (toD x)) q).final = x.final:=by
  have hl1 : (movD x (toD x)).final.length = K:=by show (movF _ _ _).length = K; rw [movF_len,hfl]
  have hl2 : (movD (movD x (toD x)) q).final.length = K:=by show (movF _ _ _).length = K; rw [movF_len,hl1]
  apply List.ext_getElem (by rw [hl2,hfl])
  intro i h1 h2
  have hiK : i < K:=by omega
  have h3 : gI (movD (movD x (toD x)) q).final i = gI x.final i:=by
   rw [mov_fin (by omega),mov_fin (by omega)]
   by_cases e : gI x.final i = -1
   ·rw [if_pos e,if_pos rfl,e]
   ·have h3 : 0 <= gI x.final i:=(h.fin i).resolve_left e
    have h4:=h.gin.to_fin h3
    rw [if_neg e,if_neg (by omega)]
    have:=hpot i hiK
    omega
  unfold gI at h3
  rw [List.getD_eq_getElem?_getD,List.getD_eq_getElem?_getD,List.getElem?_eq_getElem h1,List.getElem?_eq_getElem h2] at h3
  exact h3
 have e2 : (movD (movD x (toD x)) q).arcs = x.arcs:=by
  show (x.arcs.map (movA (toD x))).map (movA q) = x.arcs
  rw [List.map_map]
  have : ∀ a ∈ x.arcs,(movA q ∘ movA (toD x)) a = a:=fun a ha => by
   have hb:=h.gin.arcs a ha
   have p1:=hpot a.dst.toNat (by omega)
   have p2:=hpot a.src.toNat (by omega)
   obtain ⟨a1,a2,a3,a4,a5⟩:=a
   show (⟨a1,a2,a3,a4,a5 + (gI (toD x) a4.toNat - gI (toD x) a1.toNat) + (gI q a4.toNat - gI q a1.toNat)⟩ : ArcD) = _
   dsimp only at p1 p2
   rw [show a5 + (gI (toD x) a4.toNat - gI (toD x) a1.toNat) + (gI q a4.toNat - gI q a1.toNat) = a5 by omega]
  exact (List.map_congr_left (g:=id) this).trans (List.map_id _)
 rw [hx]
 have e3 : (movD (movD x (toD x)) q).states = x.states:=rfl
 have e4 : (movD (movD x (toD x)) q).start = x.start:=rfl
 obtain ⟨y,hy⟩ : ∃ y,y = movD (movD x (toD x)) q:=⟨_,rfl⟩
 rw [<- hy] at e1 e2 e3 e4 ⊢
 obtain ⟨a,b,c,d⟩:=x
 obtain ⟨a',b',c',d'⟩:=y
 simp only at e1 e2 e3 e4
 subst e1 e2 e3 e4
 rfl
end
end Go.Proofs.Yteehgcbjmdideab
/- What Determine makes is one way for each word,told early; it costs the same. -/
namespace Go.Proofs.Yteehgcbjmdideab
section
variable {f : FstD} {N s0 K : Nat} {g : FstD} {ms : List (List Int)}
theorem Sub.moved (h : Sub f N s0 K g ms) (hf : SubIn f N s0) (hK : K <= 300) (hl : ∀ k,k < K -> 0 <= gI (toD g) k) {rk : Nat -> Nat} (hr : ∀ e ∈ edgesE g.arcs,rk e.2 < rk e.1) :
  (∀ s u n z,s < K -> n < K -> (WdR (earlyD g) s u n z ↔ WdR g s u n (z - potD g n + potD g s))) /\ ∀ n,n < K -> gI (earlyD g).final n = if gI g.final n = -1 then -1 else gI g.final n - potD g n:=by
 have hG:=h.gin hf hK
 have hpot : ∀ n,n < K -> _:=fun n hn => h.pot hf hK hl hr hn
 obtain ⟨q,hq⟩ : ∃ q,q = ahD (toD g) (toD (backF g)) (gI (toD g) g.start.toNat) g.states.toNat:=⟨_,rfl⟩
 rw [<- hq] at hpot
 have hx : earlyD g = movD (movD g (toD g)) q:=by rw [hq]; rfl
 have hfl1 : (movD g (toD g)).final.length = K:=by show (movF _ _ _).length = K; rw [movF_len,h.flen]
 constructor
 ·intro s u n z hs hn
  rw [hx,mov_word,mov_word]
  have p1:=hpot n hn
  have p2:=hpot s hs
  rw [show z - gI q n + gI q s - gI (toD g) n + gI (toD g) s = z - potD g n + potD g s by omega]
 ·intro n hn
  rw [hx,mov_fin (by omega),mov_fin (by rw [h.flen]; exact hn)]
  by_cases e : gI g.final n = -1
  ·rw [if_pos e,if_pos rfl,if_pos e]
  ·have h0 : 0 <= gI g.final n:=by
    rcases gI_of _ (fun x => x = -1 \/ 0 <= x) hG.fin (Or.inl rfl) n with h1 | h1
    ·exact absurd h1 e
    ·exact h1
   have h1:=hG.to_fin h0
   rw [if_neg e,if_neg (by omega),if_neg e]
   have:=hpot n hn
   omega
theorem DetOut.gin {x : FstD} (h : DetOut f s0 K x) : GIn x K:=⟨h.st,h.flen,fun y hy => by
 rcases h.fin y hy with e | e
 ·exact Or.inl e
 ·exact Or.inr e.1,fun a ha => ⟨(h.arcs a ha).1,(h.arcs a ha).2.1,(h.arcs a ha).2.2.2.2.1⟩⟩
theorem Sub.xin (h : Sub f N s0 K g ms) (hf : SubIn f N s0) (hK : K <= 300) (hl : ∀ k,k < K -> 0 <= gI (toD g) k) {rk : Nat -> Nat} (hr : ∀ e ∈ edgesE g.arcs,rk e.2 < rk e.1) (ho : DetOut f s0 K (earlyD g)) : XIn (earlyD g) K:=by
 have hG:=h.gin hf hK
 obtain ⟨hw,hfin⟩:=h.moved hf hK hl hr
 have hX:=ho.gin
 refine ⟨hX,ho.sta,h.k0,ho.acc,fun a ha => (ho.arcs a ha).2.2.1,ho.ord,ho.rank,fun k hk => ?_,fun k h0 hk => ?_⟩
 ·obtain ⟨u,c,hu⟩:=h.part.comes (k + 1) k (by omega) (by rw [h.len]; exact hk)
  refine ⟨u,c + potD g k,(hw 0 u k _ h.k0 hk).2 ?_⟩
  have : potD g 0 = 0:=rfl
  rw [this,show c + potD g k - potD g k + 0 = c by omega]
  exact hu
 ·have hp : potD g k = gI (toD g) k:=by unfold potD; rw [if_neg (by omega)]
  have low : ∀ v m z,WdR (earlyD g) k v m z -> 0 <= gI (earlyD g).final m -> 0 <= z + gI (earlyD g).final m /\ m < K:=by
   intro v m z hv hm
   have hmK : m < K:=by
    by_cases e : m < K
    ·exact e
    ·rw [gI_out (by rw [ho.flen]; omega)] at hm; omega
   have h1:=(hw k v m z hk hmK).1 hv
   rw [hfin m hmK] at hm ⊢
   by_cases e : gI g.final m = -1
   ·rw [if_pos e] at hm; omega
   ·rw [if_neg e] at hm ⊢
    have h2 : 0 <= gI g.final m:=(gI_of _ (fun x => x = -1 \/ 0 <= x) hG.fin (Or.inl rfl) m).resolve_left e
    rcases hG.to k with ⟨e1,_⟩ | ⟨_,_,h3⟩
    ·have:=hl k hk; omega
    ·have:=h3 v m _ h1 h2
     exact ⟨by omega,hmK⟩
  have some : ∃ v m z,WdR (earlyD g) k v m z /\ 0 <= gI (earlyD g).final m /\ z + gI (earlyD g).final m = 0:=by
   rcases hG.to k with ⟨e1,_⟩ | ⟨_,⟨v,m,z,h1,h2,h3⟩,_⟩
   ·have:=hl k hk; omega
   ·have hmK : m < K:=by
     by_cases e : m < K
     ·exact e
     ·rw [gI_out (by rw [h.flen]; omega)] at h2; omega
    have h4:=hG.to_fin h2
    have h5 : potD g m <= gI (toD g) m:=by
     unfold potD
     have:=hl m hmK
     split <;> omega
    refine ⟨v,m,z + potD g m - potD g k,(hw k v m _ hk hmK).2 ?_,?_,?_⟩
    ·rw [show z + potD g m - potD g k - potD g m + potD g k = z by omega]
     exact h1
    ·rw [hfin m hmK,if_neg (by omega)]; omega
    ·rw [hfin m hmK,if_neg (by omega)]; omega
  obtain ⟨v,m,z,h1,h2,h3⟩:=some
  rcases hX.to k with ⟨_,h4⟩ | ⟨h4,⟨v',m',z',h5,h6,h7⟩,h8⟩
  ·have:=h4 v m z h1; omega
  ·have:=h8 v m z h1 h2
   omega
end
theorem word_min {f : FstD} (hA : AccD f) {s0 : Nat} {u : List Int} {a : Int} : MinP (EndP f s0 u) a ↔ BestP f u.reverse u.reverse s0 a:=by
 have e : ∀ y,TotP f u.reverse u.reverse s0 y ↔ EndP f s0 u y:=fun y => by
  rw [tot_word hA,List.reverse_reverse]
  exact Iff.rfl
 constructor
 ·rintro (⟨h1,h2⟩ | ⟨h1,h2,h3⟩)
  ·exact Or.inl ⟨h1,fun y hy => h2 y ((e y).1 hy)⟩
  ·exact Or.inr ⟨h1,(e a).2 h2,fun y hy => h3 y ((e y).1 hy)⟩
 ·rintro (⟨h1,h2⟩ | ⟨h1,h2,h3⟩)
  ·exact Or.inl ⟨h1,fun y hy => h2 y ((e y).2 hy)⟩
  ·exact Or.inr ⟨h1,(e a).1 h2,fun y hy => h3 y ((e y).2 hy)⟩
section
variable {f t : FstD} {N s0 K : Nat}
theorem DoneK.xin (h : DoneK t N K) (hT : Sc.TrimIn f t N s0) : XIn (detX t N K) K /\ EndSame t s0 (detX t N K) 0:=by
 have key : XIn (detX t N K) K /\ DetOut t s0 K (detX t N K):=by
  obtain ⟨hs,hK1,hK⟩:=h.sub hT.sin
  obtain ⟨r,M,hM,hr⟩:=hT.rank
  have hrk:=hs.rank hT.sin (by omega) (r:=fun n => M - r n) (fun e he => by
   have h1:=hr e he
   have h2:=hM e.2
   show M - r e.2 < M - r e.1
   omega)
  have hG:=hs.gin hT.sin (by omega)
  rcases hT.live with hl | he
  ·have hlv : ∀ k,k < K -> 0 <= gI (toD (subG t N K)) k:=fun k hk => hs.live hT.sin (by omega) hl hk
   have h0:=hlv 0 (by omega)
   have hx : detX t N K = earlyD (subG t N K):=by unfold detX; rw [if_neg (by omega)]
   rw [hx]
   have ho:=hs.early hT.sin (by omega) hlv hrk hr
   exact ⟨hs.xin hT.sin (by omega) hlv hrk ho,ho⟩
  ·have he':=he
   subst he
   obtain ⟨e1,e2⟩:=empty_sub hs hT.sin (by omega)
   have hto : gI (toD (subG ⟨1,0,[-1],[]⟩ N K)) 0 = -1:=by
    rcases hG.to 0 with ⟨e,_⟩ | ⟨_,⟨v,k,z,_,h2,_⟩,_⟩
    ·exact e
    ·exfalso
     have hk : k < K:=by
      by_cases hlt : k < K
      ·exact hlt
      ·rw [gI_out (by rw [hG.flen]; omega)] at h2; omega
     have:=e2 _ (gI_mem (c:=(subG ⟨1,0,[-1],[]⟩ N K).final) (s:=k) (by rw [hG.flen]; exact hk))
     omega
   have hx : detX ⟨1,0,[-1],[]⟩ N K = subG ⟨1,0,[-1],[]⟩ N K:=by unfold detX; rw [if_pos hto]
   rw [hx]
   have ho : DetOut ⟨1,0,[-1],[]⟩ s0 K (subG ⟨1,0,[-1],[]⟩ N K):=⟨hs.st,hs.sta,hs.flen,fun y hy => Or.inl (e2 y hy),fun a ha => (by rw [e1] at ha; cases ha),hs.part.ord,⟨_,hrk⟩,fun l y hb => hs.best hT.sin (by omega) hb⟩
   have hc : ∀ k,k < K -> ∃ u z,WdR (subG ⟨1,0,[-1],[]⟩ N K) 0 u k z:=fun k hk => hs.part.comes (k + 1) k (by omega) (by rw [hs.len]; exact hk)
   refine ⟨⟨hG,ho.sta,hs.k0,ho.acc,fun a ha => (ho.arcs a ha).2.2.1,ho.ord,ho.rank,hc,fun k h0 hk => ?_⟩,ho⟩
   exfalso
   obtain ⟨u,z,hu⟩:=hc k hk
   cases u with
   | nil => have:=hu.1; omega
   | cons c u =>
    obtain ⟨a,ha,_⟩:=hu
    rw [e1] at ha
    cases ha
 refine ⟨key.1,fun u a b ha hb => ?_⟩
 have h1:=key.2.best _ _ ((word_min hT.sin.acc).1 ha)
 have h2:=(word_min key.1.acc).1 hb
 exact h1.unique h2
theorem trim_live (hT : Sc.TrimIn f t N s0) : LiveW t s0:=by
 rintro c u ⟨n,z,hu⟩
 rcases hT.live with hl | he
 ·obtain ⟨v,m,y,h1,h2⟩:=hl n (hu.lt hT.sin.wide hT.sin.hs)
  exact ⟨_,v,m,z + y,(wdr_split v m _).2 ⟨n,z,hu,by rw [show z + y - z = y by omega]; exact h1⟩,h2,rfl⟩
 ·subst he
  obtain ⟨a,ha,_⟩:=hu
  cases ha
end
end Go.Proofs.Yteehgcbjmdideab
