import Derived.Test.YtpgifpeohlllfaaGreatGP00
import Derived.Test.YtpgifpeohlllfaaGreatGP05
import Derived.Test.YtpgifpeohlllfaaGreatGP01
import Derived.Test.YtpgifpeohlllfaaGreatChecked
import Derived.Deep.Slices
import Derived.ProofKit
set_option maxHeartbeats 20000000
set_option linter.unusedVariables false
set_option maxRecDepth 100000
set_option linter.unusedSimpArgs false
namespace Go.Proofs.YtpgifpeohlllfaaGreat
namespace AW
open Go.RowKit
theorem zY (l:List AM.Ar) (v:Value) (page aB q:Int) (P:Nat) (w:World) (h:Has w v l) (hf:eH l) (hp:-9223372036854775808<=page/\page<=9223372036854775807) (hn:-9223372036854775808<=aB/\aB<=9223372036854775807) (hP:w.cell? (Ad P 0)=some (I q)) :
  Calls Tryz.prog 121 #[v,I page,I aB,I q,.func (.func 122) #[] #[.pointer (some (Ad P 0))]] w fun e w'=>∃r,e=.returned (.tuple #[r,I (AM.ji l page aB q (df q)).2])/\Own w.heap.size w' r (AM.ji l page aB q (df q)).1/\Below w.heap.size w w':=by
 by_cases hc:AM.aO l=0
 · by_cases u6:AM.dE page aB=true
   · by_cases XK:AM.iq q=true
     · have HT:Hid (AM.ji l page aB q (df q)=if AM.gI (AM.cm l) (df q) page.toNat aB.toNat=0 then (AM.dV (AM.turned (AM.cm l) (df q) page (page+aB)),0) else ([],AM.gI (AM.cm l) (df q) page.toNat aB.toNat)):=by
        show _=_;simp[AM.ji,hc,u6,XK]
       have hpb:=(AM.iT page aB).1 u6
       obtain⟨Z,hZ⟩:=ex (AM.cB (fun _=>AM.off))
       have hz:=RP
       rw[<- hZ] at hz
       have Bw:Z.size=768:=by rw[hZ];exact AM.ed _
       clear hZ
       go_enter Tryz.func121,Tryz.ntmps121
       go_wp2_with fail
       refine(gv l v _ h hf).mono ?_
       rintro e w1 ⟨rfl,hb1⟩
       rw[hc]
       have HC:Hid (AM.aO l=0):=hc
       clear hc
       go_wp2_with fail
       refine(dW _ _ _ hp hn).mono ?_
       rintro e w' ⟨rfl,rfl⟩
       go_wp2_with fail
       refine(gq _ _).mono ?_
       rintro e w' ⟨rfl,rfl⟩
       go_wp2_with fail
       refine(Eh l v _ (h.below hb1) HC.o).mono ?_
       rintro e w2 ⟨rfl,hb2⟩
       have bY:Hid (Below w.heap.size w w2):=hb1.trans (hb2.mono hb1.size)
       obtain⟨F,hF⟩:=ex (AM.cm l)
       rw[<- hF] at HT ⊢
       obtain⟨C,hC⟩:=ex (AM.cB F)
       have MC:C.size=768:=by rw[hC];exact AM.ed _
       have Uw:Hid (C=AM.cB F):=hC
       rw[<- hC]
       clear hb1 hb2 hF hC u6 XK
       have qK:Hid ((w2.alloc (.cells Z 215)).heap[w2.heap.size]?=some (.cells Z 215 (0,0))):=B.new w2 Z 215
       go_wp2_with (refine wpList_store_row rfl 215 _ _ rfl w2.heap.size C rfl rfl 215 Z qK.out (by rw[MC];exact nD) (by rw[Bw,MC]) (by rw[Uw.o];exact AM.qP _) ?_)
       have YF:Hid (((w2.alloc (.cells Z 215)).setRow w2.heap.size C).heap[w2.heap.size]?=some (.cells C 215 (0,0))):=setRow_heap _ _ _ _ 215 (0,0) qK.out
       have dC:Hid (Below w.heap.size w ((w2.alloc (.cells Z 215)).setRow w2.heap.size C)):=below_setRow (bY.o.alloc bY.o.size _) bY.o.size _
       have CS:=bY.o.size
       go_loopw [14] (fun t wr=>∃n:Nat,page<=(n:Int)/\(n:Int)<=page+aB/\t=I n/\(∀k:Nat,page.toNat<=k->k<n->((df q) (F k)).2=0)/\wr.heap[w2.heap.size]?=some (.cells (AM.cB (AM.turned F (df q) page n)) 215 (0,0))/\Below w.heap.size w wr) (fun t _=>(page+aB-intOf t).toNat)
       case atStart =>
        refine⟨page.toNat,by omega,by omega,by rw[Int.toNat_of_nonneg (by omega)],fun k h1 h2=>by omega,?_,dC.o⟩
        rw[Int.toNat_of_nonneg (by omega),AM.zX,<- Uw.o]
        exact YF.o
       case round =>
        obtain⟨n,NM,Vq,rfl,hno,hA,hb⟩:=hrel
        have HN:Hid (∀k:Nat,page.toNat<=k->k<n->((df q) (F k)).2=0):=hno
        have HA:Hid (wr.heap[w2.heap.size]?=some (.cells (AM.cB (AM.turned F (df q) page n)) 215 (0,0))):=hA
        have HB:Hid (Below w.heap.size w wr):=hb
        have hAl:w2.heap.size<wr.heap.size:=B.isLt hA
        have hPw:wr.cell? (Ad P 0)=some (I q):=(hb.cell (p:=(Ad P 0)) (World.block_lt_of_cell? w _ hP)).trans hP
        by_cases hin:(n:Int)<page+aB
        · have z0:=B.cell hA (n*3) (AM.mG _ n (by omega))
          have z1:=B.cell hA (n*3+1) (AM.mF _ n (by omega))
          have z2:=B.cell hA (n*3+2) (AM.mE _ n (by omega))
          rw[AM.Hw] at z0 z1 z2
          have QY:(n:Int)<256:=by omega
          clear hno hA hb
          obtain⟨s,hs⟩:=ex (F n)
          rw[<- hs] at z0 z1 z2
          have HS:Hid (s=F n):=hs
          clear hs
          go_wp2_with fail
          refine(LH s q P _ hPw).mono ?_
          rintro e w3 ⟨rfl,hb3⟩
          have bA:=B.below HA.o hb3 hAl
          have y0:=B.cell bA (n*3) (AM.mG _ n (by omega))
          have y1:=B.cell bA (n*3+1) (AM.mF _ n (by omega))
          have y2:=B.cell bA (n*3+2) (AM.mE _ n (by omega))
          have yf:=B.free bA
          have oF:Hid (w3.heap[w2.heap.size]?=some (.cells (AM.cB (AM.turned F (df q) page n)) 215 (0,0))):=bA
          have RD:Hid (Below w.heap.size w w3):=HB.o.trans (hb3.mono HB.o.size)
          have Ze:w2.heap.size<w3.heap.size:=B.isLt bA
          clear bA hb3 z0 z1 z2
          obtain⟨r,hr⟩:=ex ((df q) s)
          rw[<- hr]
          have HR:Hid (r=(df q) s):=hr
          clear hr
          unfold Rk
          by_cases he:r.2=0
          · have he':(r.2 != 0)=false:=by simp[he]
            have HE:Hid (r.2=0):=he
            clear he
            go_wp2
            go_roundw
            case rel =>
             have mM:=B.set (B.set (B.set oF.o (n*3) (.bool r.1.m)) (n*3+1) (I r.1.p)) (n*3+2) (.bool r.1.z)
             have est:=AM.BJ F (df q) page n NM
             rw[<- HS.o,<- HR.o] at est
             rw[AM.xJ (AM.turned F (df q) page n) n r.1 (by omega),est] at mM
             refine⟨n+1,by omega,by omega,by go_num,fun k h1 h2=>if e:k=n then by rw[e,<- HS.o,<- HR.o];exact HE.o else HN.o k h1 (by omega),?_,?_⟩
             · rw[show((n+1:Nat):Int)=(n:Int)+1 from by omega]
               exact B.alloc mM _
             · have hb4:=((RD.o.setCell (p:=(Ad w2.heap.size (n*3))) CS (.bool r.1.m)).setCell (p:=(Ad w2.heap.size (n*3+1))) CS (I r.1.p)).setCell (p:=(Ad w2.heap.size (n*3+2))) CS (.bool r.1.z)
               exact hb4.alloc hb4.size _
            case measure=>simp[intOf];omega
          · have he':(r.2 != 0)=true:=by simpa using he
            have HE:Hid (r.2≠0):=he
            clear he
            have ht:Hid (AM.ji l page aB q (df q)=([],r.2)):=by
             have SX:AM.gI F (df q) page.toNat aB.toNat=r.2:=by
              rw[HR.o,HS.o]
              exact AM.xx F (df q) _ _ n (by omega) (by omega) HN.o (by rw[<- HS.o,<- HR.o];exact HE.o)
             show _=_
             rw[HT.o,SX,if_neg HE.o]
            go_wp2
            go_ret2
            exact⟨Nl,by rw[ht.out];rfl,by rw[ht.out];exact Own.nil _ _,RD.o.alloc RD.o.size _⟩
        · have hend:Hid ((n:Int)=page+aB):=by show _=_;omega
          have ht:Hid (AM.ji l page aB q (df q)=(AM.dV (AM.turned F (df q) page n),0)):=by
           have SX:AM.gI F (df q) page.toNat aB.toNat=0:=AM.r8 F (df q) _ _ (fun k h1 h2=>HN.o k h1 (by have:=hend.out;omega))
           show _=_
           rw[HT.o,SX,if_pos rfl,hend.out]
          clear hno hA hb
          go_wp2_with (refine wpList_load_row rfl 215 _ rfl w2.heap.size rfl 215 _ (0,0) _ HA.o Tryz.underlying215 rfl (by rw[AM.ed];exact nD) ?_)
          refine(Fb _ _).mono ?_
          rintro e w4 ⟨r,rfl,hr,hb4⟩
          go_wp2
          go_ret2
          exact⟨r,by rw[ht.out];rfl,by rw[ht.out];exact hr.mono HB.o.size,HB.o.trans (hb4.mono HB.o.size)⟩
     · have Zp:AM.iq q=false:=by simpa using XK
       have HT:Hid (AM.ji l page aB q (df q)=([],3)):=by show _=_;simp[AM.ji,hc,u6,Zp]
       clear XK
       go_enter Tryz.func121,Tryz.ntmps121
       go_wp2_with fail
       refine(gv l v _ h hf).mono ?_
       rintro e w1 ⟨rfl,hb1⟩
       rw[hc]
       clear hc
       go_wp2_with fail
       refine(dW _ _ _ hp hn).mono ?_
       rintro e w' ⟨rfl,rfl⟩
       go_wp2_with fail
       refine(gq _ _).mono ?_
       rintro e w' ⟨rfl,rfl⟩
       go_wp2
       go_ret2
       exact⟨Nl,by rw[HT.o];rfl,by rw[HT.o];exact Own.nil _ _,hb1⟩
   · have Zt:AM.dE page aB=false:=by simpa using u6
     have HT:Hid (AM.ji l page aB q (df q)=([],3)):=by show _=_;simp[AM.ji,hc,Zt]
     clear u6
     go_enter Tryz.func121,Tryz.ntmps121
     go_wp2_with fail
     refine(gv l v _ h hf).mono ?_
     rintro e w1 ⟨rfl,hb1⟩
     rw[hc]
     clear hc
     go_wp2_with fail
     refine(dW _ _ _ hp hn).mono ?_
     rintro e w' ⟨rfl,rfl⟩
     go_wp2
     go_ret2
     exact⟨Nl,by rw[HT.o];rfl,by rw[HT.o];exact Own.nil _ _,hb1⟩
 · have HT:Hid (AM.ji l page aB q (df q)=([],AM.aO l)):=by show _=_;simp[AM.ji,hc]
   have hc':(AM.aO l != 0)=true:=by simpa using hc
   go_enter Tryz.func121,Tryz.ntmps121
   go_wp2_with fail
   refine(gv l v _ h hf).mono ?_
   rintro e w1 ⟨rfl,hb1⟩
   go_wp2
   go_ret2
   exact⟨Nl,by rw[HT.o];rfl,by rw[HT.o];exact Own.nil _ _,hb1⟩
def nN (l:List AM.Ar) (page aB q:Int):List AM.Ar×Int:=AM.ji l page aB q (df q)
def fR (n:Int):Prop:=-9223372036854775808<=n/\n<=9223372036854775807
theorem OX (l:List AM.Ar) (v:Value) (page aB q:Int) (w:World) (h:Has w v l) (hf:eH l) (hp:fR page) (hn:fR aB) :
  Calls Tryz.prog 74 #[v,I page,I aB,I q] w fun e w'=>∃r,e=.returned (.tuple #[r,I (nN l page aB q).2])/\Own w.heap.size w' r (nN l page aB q).1/\Below w.heap.size w w':=by
 have hb0:Below w.heap.size w (w.alloc (.cells #[I q] 3)):=(Below.refl _ _).alloc (Nat.le_refl _) _
 have hP:=B.cell (B.new w #[I q] 3) 0 rfl
 have H:=h.below hb0
 have HP:Hid ((w.alloc (.cells #[I q] 3)).cell? (Ad w.heap.size 0)=some (I q)):=hP
 clear hP
 go_enter Tryz.func74,Tryz.ntmps74
 go_wp2_with fail
 refine(zY l v page aB q w.heap.size _ H hf hp hn HP.o).mono ?_
 rintro e w1 ⟨r,rfl,hr,hb1⟩
 go_wp2
 go_ret2
 exact⟨r,rfl,hr.mono hb0.size,hb0.trans (hb1.mono hb0.size)⟩
theorem PE {l:List AM.Ar} (h:∀a∈l,AM.Fits a) (hn:l.length<=140737488351232):eH l:=by
 refine⟨fun i hi=>?_,hn⟩
 have e:AM.at_ l i=l[i]:=by simp[AM.at_,hi]
 rw[e]
 exact h _ (List.getElem_mem hi)
theorem G7:eH []:=PE (fun a h=>by simp at h) (by simp)
theorem Kz (l:List AM.Ar) (page aB q:Int) (how:AM.St->AM.St×Int) (h:(AM.ji l page aB q how).2≠0):(AM.ji l page aB q how).1=[]:=by
 unfold AM.ji at h ⊢
 split
 · rename_i hc
   rw[if_pos hc] at h
   split
   · rename_i hp
     rw[if_pos hp] at h
     split
     · rename_i he
       rw[if_pos he] at h
       exact absurd rfl h
     · rfl
   · rfl
 · rfl
theorem Oj (l:List AM.Ar) (page aB q:Int) (how:AM.St->AM.St×Int) (h:(AM.ji l page aB q how).2=0) :
  AM.aO l=0/\AM.dE page aB=true/\AM.iq q=true/\AM.gI (AM.cm l) how page.toNat aB.toNat=0/\(AM.ji l page aB q how).1=AM.dV (AM.turned (AM.cm l) how page (page+aB)):=by
 unfold AM.ji at h ⊢
 split
 · rename_i hc
   rw[if_pos hc] at h
   split
   · rename_i hp
     rw[if_pos hp] at h
     rw[Bool.and_eq_true] at hp
     split
     · rename_i he
       exact⟨hc,hp.1,hp.2,he,rfl⟩
     · rename_i he
       rw[if_neg he] at h
       exact absurd h he
   · rename_i hp
     rw[if_neg hp] at h
     simp at h
 · rename_i hc
   rw[if_neg hc] at h
   exact absurd h hc
theorem MH (l:List AM.Ar) (page t q:Int) (hc:AM.aO l=0) (hp:1<=page) (hq:0<=q/\q<=3):AM.sA (AM.turned (AM.cm l) (df q) page t) :=
 AM.Dd _ (AM.uB l hc) _ _ _ hp (fun s _ h=>by
  unfold df at h ⊢
  cases hm:s.m
  · simp[hm] at h
  · simp[hm] at h) (fun s h=>by
  unfold df
  cases hm:s.m
  · simpa [hm] using hq
  · simpa [hm] using h)
theorem Cw (q:Int):AM.iq q=true↔0<=q/\q<=3:=⟨fun h=>of_decide_eq_true h,fun h=>decide_eq_true h⟩
theorem IG (l:List AM.Ar) (page aB q:Int) (h:(nN l page aB q).2=0) :
  AM.aO (nN l page aB q).1=0/\(∀p:Nat,1<=p->p<=255 ->
   (page<=(p:Int)/\(p:Int)<page+aB->(AM.aK l p).2=false/\(AM.aK (nN l page aB q).1 p).2=true/\(AM.aK (nN l page aB q).1 p).1.bJ=q/\(AM.aK (nN l page aB q).1 p).1.zero=true) /\
   (¬(page<=(p:Int)/\(p:Int)<page+aB)->(AM.aK (nN l page aB q).1 p).2=(AM.aK l p).2/\(AM.aK (nN l page aB q).1 p).1.bJ=(AM.aK l p).1.bJ/\(AM.aK (nN l page aB q).1 p).1.zero=(AM.aK l p).1.zero)):=by
 obtain⟨hc,u6,hq,he,hr⟩:=Oj _ _ _ _ _ h
 have hpb:=(AM.iT page aB).1 u6
 have hF:=MH l page (page+aB) q hc hpb.1 ((Cw q).1 hq)
 have hr':(nN l page aB q).1=_:=hr
 rw[hr']
 refine⟨AM.nU _ hF,fun p h1 h2=>?_⟩
 have fg:=AM.Dg _ hF p (by omega)
 have fs:=AM.Df l hc p
 refine⟨fun hin=>?_,fun hout=>?_⟩
 · have he':=AM.Di _ _ _ _ he p (by omega) (by omega)
   have hm:(AM.cm l p).m=false:=by
    unfold df at he'
    cases hm:(AM.cm l p).m
    · rfl
    · simp[hm] at he'
   simp only[AM.turned] at fg
   rw[if_pos hin] at fg
   unfold df at fg
   simp only[hm] at fg
   exact⟨fs.1.trans hm,fg.1,fg.2.1,fg.2.2⟩
 · simp only[AM.turned] at fg
   rw[if_neg hout] at fg
   exact⟨fg.1.trans fs.1.symm,fg.2.1.trans fs.2.1.symm,fg.2.2.trans fs.2.2.symm⟩
theorem PC (l:List AM.Ar) (page aB q:Int):eH (nN l page aB q).1:=by
 by_cases h:(nN l page aB q).2=0
 · exact AM.gu _ (IG l page aB q h).1
 · rw[show(nN l page aB q).1=[] from Kz _ _ _ _ _ h];exact G7
end AW
namespace AW
open Go.RowKit Go.Deep
theorem Qa:Tryz.prog.cellsOf 47=4:=by kernel_rfl
theorem cells3:Tryz.prog.cellsOf 3=1:=by kernel_rfl
theorem xL:Tryz.prog.cellsOf 4=1:=by kernel_rfl
theorem kG (n:Int) (h:(Lit.int .i64 n).wf=true):fR n:=by
 simp only[Lit.wf,IntKind.min,IntKind.max,IntKind.signed,IntKind.bits,Bool.and_eq_true,decide_eq_true_eq,if_true] at h
 unfold fR
 omega
section
variable {H:Type} {enc:TypeId×Value->H} {w:World} {base:Nat} {spare:Nat->Bool} {held:Bool}
theorem Lr {n:Nat} {a:Addr} {cs:List Value} {x:DataW H×List MemPlace} (hc:w.cells? base a 4=some cs) (h:DataW.trod enc Tryz.prog w base spare held n 47 cs=some x) :
  ∃q:Int×Int×Int×Bool,w.cell? (a.add 0)=some (I q.1)/\w.cell? (a.add 1)=some (I q.2.1)/\w.cell? (a.add 2)=some (I q.2.2.1)/\w.cell? (a.add 3)=some (.bool q.2.2.2)/\fR q.1/\fR q.2.1/\fR q.2.2.1:=by
 obtain⟨_,hlen,hcell⟩:=World.cells?_some hc
 obtain⟨xs,k,hk,hxy,_,hxl,hf⟩:=DataW.trod_struct Tryz.underlying47 h
 match cs,hlen with
 | [v0,v1,v2,v3],_ =>
  have g0:DataW.trod enc Tryz.prog w base spare held k 3 (([v0,v1,v2,v3].drop 0).take (Tryz.prog.cellsOf 3))=xs[0]?:=hf 0 _ rfl
  have g1:DataW.trod enc Tryz.prog w base spare held k 3 (([v0,v1,v2,v3].drop 1).take (Tryz.prog.cellsOf 3))=xs[1]?:=hf 1 _ rfl
  have g2:DataW.trod enc Tryz.prog w base spare held k 3 (([v0,v1,v2,v3].drop 2).take (Tryz.prog.cellsOf 3))=xs[2]?:=hf 2 _ rfl
  have g3:DataW.trod enc Tryz.prog w base spare held k 4 (([v0,v1,v2,v3].drop 3).take (Tryz.prog.cellsOf 4))=xs[3]?:=hf 3 _ rfl
  simp only[cells3,xL] at g0 g1 g2 g3
  have e0:=hcell 0 (by omega)
  have e1:=hcell 1 (by omega)
  have e2:=hcell 2 (by omega)
  have e3:=hcell 3 (by omega)
  match xs,hxl with
  | [y0,y1,y2,y3],_ =>
   obtain⟨m0,c0,_,w0⟩:=DataW.trod_int Tryz.underlying3 (show DataW.trod enc Tryz.prog w base spare held k 3 [v0]=some y0 from g0)
   obtain⟨m1,c1,_,w1⟩:=DataW.trod_int Tryz.underlying3 (show DataW.trod enc Tryz.prog w base spare held k 3 [v1]=some y1 from g1)
   obtain⟨m2,c2,_,w2⟩:=DataW.trod_int Tryz.underlying3 (show DataW.trod enc Tryz.prog w base spare held k 3 [v2]=some y2 from g2)
   obtain⟨b3,c3,_⟩:=DataW.trod_bool Tryz.underlying4 (show DataW.trod enc Tryz.prog w base spare held k 4 [v3]=some y3 from g3)
   simp only[List.cons.injEq,and_true] at c0 c1 c2 c3
   subst c0;subst c1;subst c2;subst c3
   exact⟨(m0,m1,m2,b3),e0,e1,e2,e3,kG _ w0,kG _ w1,kG _ w2⟩
theorem ED {fuel:Nat} {a0:Option Addr} {len cap:Nat} {x:DataW H×List MemPlace} (h:DataW.trod enc Tryz.prog w base spare held fuel 28 [.slice a0 len cap]=some x) :
  ∃l:List AM.Ar,l.length=len/\Has w (.slice a0 len cap) l/\(∀i,i<l.length->AM.Fits (AM.at_ l i))/\(len=0∨∃el sp,x.1=.slice el sp/\el.length=len):=by
 rcases open_slice Tryz.underlying28 h with⟨hcs,_⟩ | ⟨a,len',cap',m,n,D,Pl,hcs,hb,hl,hm,hmm,rfl,hx⟩
 · simp at hcs
   obtain⟨rfl,rfl,rfl⟩:=hcs
   exact⟨[],rfl,⟨none,0,rfl,.inl rfl⟩,fun i hi=>by simp at hi,.inl rfl⟩
 · simp at hcs
   obtain⟨rfl,rfl,rfl⟩:=hcs
   have hlm:len<=m:=by rw[hmm];split <;> omega
   have each:∀i,i<len->∃q:Int×Int×Int×Bool,w.cell? (a.add (i*4))=some (I q.1)/\w.cell? (a.add (i*4+1))=some (I q.2.1)/\w.cell? (a.add (i*4+2))=some (I q.2.2.1)/\w.cell? (a.add (i*4+3))=some (.bool q.2.2.2)/\fR q.1/\fR q.2.1/\fR q.2.2.1:=by
    intro i hi
    obtain⟨cs',h1,h2⟩:=hx i (by omega)
    rw[Qa] at h1
    obtain⟨q,e0,e1,e2,e3,f⟩:=Lr h1 h2
    rw[add_add] at e0 e1 e2 e3
    exact⟨q,e0,e1,e2,e3,f⟩
   obtain⟨g,hg⟩:=choose_lt each
   have hat:∀i,i<len->AM.at_ ((List.range len).map fun i=>(⟨(g i).1,(g i).2.1,(g i).2.2.1,(g i).2.2.2⟩:AM.Ar)) i=⟨(g i).1,(g i).2.1,(g i).2.2.1,(g i).2.2.2⟩:=by
    intro i hi
    simp[AM.at_,hi]
   refine⟨(List.range len).map fun i=>⟨(g i).1,(g i).2.1,(g i).2.2.1,(g i).2.2.2⟩,by simp,?_,fun i hi=>?_,.inr ⟨_,_,rfl,by simp⟩⟩
   · by_cases h0:len=0
     · subst h0
       exact⟨some a,cap,by simp,.inl (by simp)⟩
     · obtain⟨b,off,spot⟩:=a
       have hc:=(hg 0 (by omega)).1
       have hspot:spot=none:=by simpa [Addr.add] using World.cell?_spot hc
       subst hspot
       refine⟨some (Ad b off),cap,by simp,.inr ⟨b,off,rfl,fun i hi=>?_⟩⟩
       have hi':i<len:=by simpa using hi
       rw[hat i hi']
       obtain⟨e0,e1,e2,e3,_⟩:=hg i hi'
       rw[Addr.add_lit] at e0 e1 e2 e3
       exact⟨e0,by rw[Nat.add_assoc];exact e1,by rw[Nat.add_assoc];exact e2,by rw[Nat.add_assoc];exact e3⟩
   · have hi':i<len:=by simpa using hi
     rw[hat i hi']
     obtain⟨_,_,_,_,f1,f2,f3⟩:=hg i hi'
     exact⟨f1,f2,f3⟩
end
end AW
namespace AM
open Go.RowKit
def mark (p:Int) (z:Bool):Int:=1+2*p+(if z then 8 else 0)
def enc (s:St):Int:=if s.m then mark s.p s.z else 0
def qz (G:Nat->Int):Nat->List Value
 | 0=>[]
 | m+1=>qz G m++[I (G m)]
def fG (G:Nat->Int):Array Value:=(qz G 256).toArray
def BI (G:Nat->Int) (n:Nat) (x:Int):Nat->Int:=fun k=>if k=n then x else G k
theorem fU (G:Nat->Int):∀m,(qz G m).length=m
 | 0=>rfl
 | m+1=>by simp[qz,fU G m]
theorem mH (G:Nat->Int):(fG G).size=256:=by simp[fG,fU]
theorem Cm (G:Nat->Int) (n:Nat):∀m,n<m->(qz G m)[n]?=some (I (G n))
 | 0,h=>by omega
 | m+1,h=>by
  simp only[qz]
  by_cases e:n=m
  · subst e
    rw[List.getElem?_append_right (by rw[fU];omega),fU]
    simp
  · rw[List.getElem?_append_left (by rw[fU];omega)]
    exact Cm G n m (by omega)
theorem xK (G:Nat->Int) (n:Nat) (hn:n<256):(fG G)[n]?=some (I (G n)):=by
 unfold fG
 rw[List.getElem?_toArray]
 exact Cm G n 256 hn
theorem wu (F G:Nat->Int):∀m,(∀k,k<m->F k=G k)->qz F m=qz G m
 | 0,_=>rfl
 | m+1,h=>by simp only[qz];rw[wu F G m (fun k hk=>h k (by omega)),h m (by omega)]
theorem Ck (G:Nat->Int) (n:Nat) (x:Int):∀m,n<m->(qz G m).set n (I x)=qz (BI G n x) m
 | 0,h=>by omega
 | m+1,h=>by
  simp only[qz]
  by_cases e:n=m
  · subst e
    rw[List.set_append_right _ _ (by rw[fU];omega),fU,wu (BI G n x) G n (fun k hk=>by simp[BI];omega)]
    simp[BI]
  · rw[List.set_append_left _ _ (by rw[fU];omega),Ck G n x m (by omega)]
    congr 2
    simp[BI];intro h';exact absurd h'.symm e
theorem Fw (G:Nat->Int) (n:Nat) (x:Int) (hn:n<256):(fG G).setIfInBounds n (I x)=fG (BI G n x):=by
 unfold fG
 rw[<- Ck G n x 256 hn]
 simp only[List.setIfInBounds_toArray]
theorem Cl (G:Nat->Int):∀m,∀v∈qz G m,v.oneCell'=true
 | 0,v,h=>by simp[qz] at h
 | m+1,v,h=>by
  simp only[qz,List.mem_append,List.mem_singleton] at h
  rcases h with h | rfl
  · exact Cl G m v h
  · rfl
theorem qT (G:Nat->Int):(fG G).all (·.oneCell')=true:=by
 rw[Array.all_eq_true_iff_forall_mem]
 intro v hv
 exact Cl G 256 v (by simpa [fG] using hv)
theorem Kw (F:Nat->St) (n:Nat) (s:St):BI (fun k=>enc (F k)) n (enc s)=fun k=>enc (upd F n s k):=by
 funext k;simp only[BI,upd];split <;> rfl
theorem MQ (s:St) (h:0<=s.p):(enc s=0)↔s.m=false:=by
 unfold enc mark
 cases s.m
 · simp
 · simp only[if_true]
   cases s.z <;> simp <;> omega
theorem PJ (s t:St) (hs:0<=s.p/\s.p<=3) (ht:0<=t.p/\t.p<=3) (hm:s.m=true):(enc t=enc s)↔pS s t=true:=by
 unfold enc mark pS
 rw[hm]
 cases t.m
 · simp
   cases s.z <;> simp <;> omega
 · cases s.z <;> cases t.z <;> simp <;> omega
theorem MR (s:St) (hs:0<=s.p/\s.p<=3) (hm:s.m=true):(enc s-1)%8/2=s.p/\(decide (8<=enc s-1)=s.z)/\1<=enc s/\enc s<=15:=by
 unfold enc mark
 rw[hm]
 simp only[if_true]
 cases s.z
 · simp;omega
 · simp;omega
def eN (l:List Ar):Nat->Bool
 | 0=>true
 | k+1=>eN l k&&(dE (at_ l k).page (at_ l k).aB&&iq (at_ l k).bJ)
def fM (l:List Ar) (i:Nat):Bool:=i==0 || decide ((at_ l (i-1)).dN<=(at_ l i).page)
def b7 (l:List Ar):Nat->Bool
 | 0=>true
 | k+1=>b7 l k&&fM l k
theorem jn (l:List Ar):∀(k n:Nat),k<=n->b7 l k=false->b7 l n=false
 | k, 0, h, hk => by obtain rfl:k=0 := by omega
                     exact hk
 | k,n+1,h,hk=>by
  by_cases e:k=n+1
  · subst e;exact hk
  · simp[b7,jn l k n (by omega) hk]
theorem uA (a b:Ar) (h:eT a b=true):a.dN<=b.page:=by
 unfold eT at h
 split at h
 · omega
 · simp at h;omega
theorem tB (l:List Ar):∀k,fO l k=true->eN l k=true/\b7 l k=true
 | 0,_=>⟨rfl,rfl⟩
 | k+1,h=>by
  simp only[fO,Bool.and_eq_true] at h
  have ih:=tB l k h.1
  have hk:=h.2
  simp only[mL,Bool.and_eq_true,Bool.or_eq_true,beq_iff_eq] at hk
  refine⟨by simp[eN,ih.1,hk.1.1,hk.1.2],?_⟩
  simp only[b7,ih.2,fM,Bool.true_and,Bool.or_eq_true,beq_iff_eq,decide_eq_true_eq]
  rcases hk.2 with e | e
  · exact .inl e
  · exact .inr (uA _ _ e)
theorem vE (l:List Ar):∀k,eN l k=true->∀i,i<k->dE (at_ l i).page (at_ l i).aB=true/\iq (at_ l i).bJ=true
 | 0,_,i,hi=>by omega
 | k+1,h,i,hi=>by
  simp only[eN,Bool.and_eq_true] at h
  by_cases e:i=k
  · subst e;exact h.2
  · exact vE l k h.1 i (by omega)
theorem zI (l:List Ar) (n:Nat) (h:eN l n=true):∀k,k<=n->(bg l k 0).m=false/\(∀m,(bg l k m).m=false->bg l k m=off)/\(∀m,0<=(bg l k m).p/\(bg l k m).p<=3)
 | 0,_=>⟨rfl,fun n _=>rfl,fun n=>by simp[bg,off]⟩
 | k+1,hk=>by
  have ih:=zI l n h k (by omega)
  have ho:=vE l n h k (by omega)
  have h1:=(iT _ _).1 ho.1
  have h2:0<=(at_ l k).bJ/\(at_ l k).bJ<=3:=of_decide_eq_true ho.2
  refine⟨?_,fun n=>?_,fun n=>?_⟩
  · simp only[bg,gj];rw[if_neg (by omega)];exact ih.1
  · simp only[bg,gj]
    split
    · intro h;simp at h
    · exact ih.2.1 n
  · simp only[bg,gj]
    split
    · exact h2
    · exact ih.2.2 n
theorem zE (l:List Ar) (h:eN l l.length=true):sA (cm l):=by
 have h:=zI l l.length h l.length (Nat.le_refl _)
 exact⟨h.1,h.2.1,h.2.2⟩
theorem LI (G:List Ar) (n:Nat):(look G n).m=(aN G n).2:=by
 unfold look
 by_cases c:(aN G n).2=true
 · simp[c]
 · simp[off,show(aN G n).2=false by simpa using c]
theorem y7 (G:List Ar) (a:Ar) (h:gU G a=true) (hne:0<G.length):(iw G).dN<=a.page:=by
 simp only[gU,Bool.and_eq_true,Bool.or_eq_true,beq_iff_eq] at h
 rcases h.2 with e | e
 · omega
 · exact uA _ _ e
theorem kS (G:List Ar) (a:Ar) (h:gU G a=true):1<=a.page/\1<=a.aB/\a.aB<=256-a.page:=by
 simp only[gU,Bool.and_eq_true] at h
 exact(iT _ _).1 h.1.1
theorem s8 (G:List Ar) (a:Ar) (hg:good G=true) (h:gU G a=true) (n:Nat) (hn:a.page<=(n:Int)):(aN G n).2=false:=by
 by_cases c:(aN G n).2=true
 · have hb:=iZ _ G rfl hg n c
   have hne:0<G.length:=by
    rcases Nat.eq_zero_or_pos G.length with e | e
    · have e':G=[]:=List.eq_nil_of_length_eq_zero e
      subst e';simp[aN] at c
    · exact e
   have:=y7 G a h hne
   omega
 · simpa using c
theorem jL (G:List Ar) (a:Ar) (hg:good G=true) (h:gU G a=true) (n:Nat) (h1:a.page<=(n:Int)) (h2:(n:Int)<a.page+a.aB):look (G++[a]) n=⟨true,a.bJ,a.zero⟩:=by
 rw[nj,if_neg (by rw[s8 G a hg h n h1];simp),if_pos ((mz a n).2 ⟨h1,h2⟩)]
theorem qH (G:List Ar) (a:Ar) (n:Nat) (h1:¬(a.page<=(n:Int)/\(n:Int)<a.page+a.aB)):look (G++[a]) n=look G n:=by
 rw[nj]
 by_cases c:(aN G n).2=true
 · rw[if_pos c]
 · rw[if_neg c,if_neg (fun e=>h1 ((mz a n).1 e))]
   unfold look
   simp[show(aN G n).2=false by simpa using c]
theorem uq:∀(m:Nat) (G H:List Ar),G.length=m->good G=true->good H=true->(∀n:Nat,look G n=look H n)->G=H
 | 0,G,H,hm,hG,hH,he=>by
  have e:G=[]:=List.eq_nil_of_length_eq_zero hm
  subst e
  rcases List.eq_nil_or_concat H with rfl | ⟨H',b,rfl⟩
  · rfl
  · rw[List.concat_eq_append] at *
    rw[ij,Bool.and_eq_true] at hH
    have hb:=kS _ _ hH.2
    have h1:=jL H' b hH.1 hH.2 b.page.toNat (by omega) (by omega)
    rw[<- he] at h1
    have:=congrArg St.m h1
    simp[look,aN,off] at this
 | m+1,G,H,hm,hG,hH,he=>by
  rcases List.eq_nil_or_concat G with rfl | ⟨G',a,rfl⟩
  · simp at hm
  · rw[List.concat_eq_append] at *
    have hG0:=hG
    rw[ij,Bool.and_eq_true] at hG
    have ha:=kS _ _ hG.2
    rcases List.eq_nil_or_concat H with rfl | ⟨H',b,rfl⟩
    · have h1:=jL G' a hG.1 hG.2 a.page.toNat (by omega) (by omega)
      rw[he] at h1
      have:=congrArg St.m h1
      simp[look,aN,off] at this
    · rw[List.concat_eq_append] at *
      have hH0:=hH
      rw[ij,Bool.and_eq_true] at hH
      have hb:=kS _ _ hH.2
      have up:∀(X Y:List Ar) (x y:Ar),good X=true->gU X x=true->good (Y++[y])=true->(∀n:Nat,look (X++[x]) n=look (Y++[y]) n)->1<=x.page->1<=x.aB->x.page+x.aB<=y.page+y.aB:=by
       intro X Y x y hX hx hY hxy h1 h2
       have e1:=jL X x hX hx (x.page+x.aB-1).toNat (by omega) (by omega)
       rw[hxy] at e1
       have e2:(aN (Y++[y]) ((x.page+x.aB-1).toNat:Nat)).2=true:=by rw[<- LI,e1]
       have e3:=(iZ _ _ rfl hY _ e2).2
       rw[dY] at e3
       unfold Ar.dN at e3
       omega
      have hend:a.page+a.aB=b.page+b.aB:=Int.le_antisymm (up G' H' a b hG.1 hG.2 hH0 he ha.1 ha.2.1) (up H' G' b a hH.1 hH.2 hG0 (fun n=>(he n).symm) hb.1 hb.2.1)
      have Bt:=jL G' a hG.1 hG.2 (a.page+a.aB-1).toNat (by omega) (by omega)
      have hl2:=jL H' b hH.1 hH.2 (a.page+a.aB-1).toNat (by omega) (by omega)
      rw[he,hl2] at Bt
      have E3:b.bJ=a.bJ:=congrArg St.p Bt
      have XF:b.zero=a.zero:=congrArg St.z Bt
      have beg:∀(X Y:List Ar) (x y:Ar),good X=true->gU X x=true->good Y=true->gU Y y=true->(∀n:Nat,look (X++[x]) n=look (Y++[y]) n)->x.page+x.aB=y.page+y.aB->y.bJ=x.bJ->y.zero=x.zero->1<=x.page->1<=y.aB->y.page<=x.page:=by
       intro X Y x y hX hx hY hy hxy hen hp hz h1 h2
       by_cases c:y.page<=x.page
       · exact c
       · exfalso
         have e1:=jL X x hX hx (y.page-1).toNat (by omega) (by omega)
         rw[hxy,qH Y y _ (by omega)] at e1
         have e2:(aN Y ((y.page-1).toNat:Nat)).2=true:=by rw[<- LI,e1]
         have e3:=(iZ _ _ rfl hY _ e2).2
         have hne:0<Y.length:=by
          rcases Nat.eq_zero_or_pos Y.length with e | e
          · have e':Y=[]:=List.eq_nil_of_length_eq_zero e
            subst e';simp[aN] at e2
          · exact e
         have e4:=y7 Y y hy hne
         have e5:(iw Y).dN=y.page:=by omega
         have hfo:=hy
         simp only[gU,Bool.and_eq_true,Bool.or_eq_true,beq_iff_eq] at hfo
         have Mi:eT (iw Y) y=true:=by
          rcases hfo.2 with e | e
          · omega
          · exact e
         unfold eT at Mi
         rw[if_pos e5.symm] at Mi
         rcases List.eq_nil_or_concat Y with rfl | ⟨Y',z,rfl⟩
         · simp at hne
         · rw[List.concat_eq_append] at *
           rw[dY] at e5 Mi
           unfold Ar.dN at e5
           have VW:=hY
           rw[ij,Bool.and_eq_true] at VW
           have hzp:=kS _ _ VW.2
           have e6:=jL Y' z VW.1 VW.2 (y.page-1).toNat (by omega) (by omega)
           rw[e6] at e1
           have q1:z.bJ=x.bJ:=congrArg St.p e1
           have q2:z.zero=x.zero:=congrArg St.z e1
           rw[hp,hz,q1,q2] at Mi
           simp at Mi
      have VN:a.page=b.page:=Int.le_antisymm (beg H' G' b a hH.1 hH.2 hG.1 hG.2 (fun n=>(he n).symm) hend.symm E3.symm XF.symm hb.1 ha.2.1) (beg G' H' a b hG.1 hG.2 hH.1 hH.2 he hend E3 XF ha.1 hb.2.1)
      have hab:a=b:=by
       cases a;cases b
       simp only at VN hend E3 XF
       subst VN;subst E3;subst XF
       congr 1
       omega
      subst hab
      have ih:=uq m G' H' (by simpa using hm) hG.1 hH.1 (fun n=>by
       by_cases c:a.page<=(n:Int)
       · have x1:=s8 G' a hG.1 hG.2 n c
         have x2:=s8 H' a hH.1 hH.2 n c
         unfold look
         simp[x1,x2]
       · have x1:=qH G' a n (by omega)
         have x2:=qH H' a n (by omega)
         rw[<- x1,<- x2];exact he n)
      rw[ih]
theorem yx (l:List Ar) (hc:aO l=0):dV (cm l)=l:=by
 have hF:=uB l hc
 have hg:=qa l hc
 refine uq _ _ _ rfl (uw _ hF) hg (fun n=>?_)
 rw[mh l _ l rfl hg n]
 by_cases hn:n<256
 · exact uu _ hF n hn
 · have:=(nR _ hF 256 (Nat.le_refl _)).look n
   rw[if_neg hn] at this
   rw[show look (dV (cm l)) n=off from this]
   have e:look l n=off:=by
    unfold look
    by_cases c:(aN l n).2=true
    · exfalso
      have hb:=(iZ _ l rfl hg n c).2
      have hne:0<l.length:=by
       rcases Nat.eq_zero_or_pos l.length with e | e
       · have e':l=[]:=List.eq_nil_of_length_eq_zero e
         subst e';simp[aN] at c
       · exact e
      have ho:=cM l (l.length-1) (cH l hc _ (by omega))
      unfold iw Ar.dN at hb
      omega
    · simp[show(aN l n).2=false by simpa using c]
   rw[<- mh l _ l rfl hg n,e]
end AM
namespace AW
open Go.RowKit
theorem dz (n a b:Int) (w:World):Calls Tryz.prog 44 #[I n,I a,I b] w fun e w'=>e=.returned (.bool (decide (a<=n/\n<=b)))/\w=w':=by
 by_cases h1:a<=n
 · by_cases h2:n<=b
   · rw[show decide (a<=n/\n<=b)=true from decide_eq_true ⟨h1,h2⟩]
     go_enter Tryz.func44,Tryz.ntmps44
     go_wp2
     go_ret
     exact⟨rfl,rfl⟩
   · have d:decide (n<=b)=false:=decide_eq_false h2
     rw[show decide (a<=n/\n<=b)=false from decide_eq_false (by omega)]
     go_enter Tryz.func44,Tryz.ntmps44
     go_wp2
     go_ret
     exact⟨rfl,rfl⟩
 · have d:decide (a<=n)=false:=decide_eq_false h1
   rw[show decide (a<=n/\n<=b)=false from decide_eq_false (by omega)]
   go_enter Tryz.func44,Tryz.ntmps44
   go_wp2
   go_ret
   exact⟨rfl,rfl⟩
theorem LF (p:Int) (z:Bool) (w:World) (h:0<=p/\p<=3):Calls Tryz.prog 127 #[I p,.bool z] w fun e w'=>e=.returned (I (AM.mark p z))/\w=w':=by
 cases z
 · go_enter Tryz.func127,Tryz.ntmps127
   go_wp2
   go_ret
   exact⟨ft (by simp[AM.mark]),rfl⟩
 · go_enter Tryz.func127,Tryz.ntmps127
   go_wp2
   go_ret
   exact⟨ft (by simp[AM.mark]),rfl⟩
theorem Kq:(Tryz.prog.info? 177).map (fun i=>(i.zero,i.size))=some (some (.agg (AM.fG (fun _=>0))),256):=by kernel_rfl
theorem jI:(Tryz.prog.info? 177).map (·.size)=some 256:=(zero_of_info Kq).2
theorem RQ (w:World):(zeroValue 177).run Tryz.prog w=.ok (.agg (AM.fG (fun _=>0))) w:=(zero_of_info Kq).1 w
def bd (F:Nat->AM.St):Array Value:=AM.fG (fun n=>AM.enc (F n))
theorem Hd (F:Nat->AM.St):(bd F).size=256:=AM.mH _
def Hq (l:List AM.Ar) (C:Array Value):Prop:=C.size=256/\C.all (·.oneCell')=true/\(AM.b7 l l.length=true->C=bd (AM.cm l))
theorem Bd (l:List AM.Ar) (b off cap:Nat) (w:World) (hl:AM.zP w b off l) (he:AM.eN l l.length=true) (hn:l.length<=255) :
  Calls Tryz.prog 126 #[.slice (some (Ad b off)) l.length cap] w fun e w'=>∃C,e=.returned (.tuple #[.agg C,.bool (AM.b7 l l.length)])/\Hq l C/\Below w.heap.size w w':=by
 have HE:Hid (AM.eN l l.length=true):=he
 clear he
 obtain⟨Z,hZ⟩:=ex (AM.fG (fun _=>0))
 have hz:=RQ
 rw[<- hZ] at hz
 have HZ:Hid (Z=AM.fG (fun _=>0)):=hZ
 have Bw:Z.size=256:=by rw[hZ];exact AM.mH _
 clear hZ
 go_enter Tryz.func126,Tryz.ntmps126
 go_wp2
 go_loopw [5,6] (fun la i wr=>∃(k:Nat) (t:Int),k<=l.length/\i=I k/\la=I t/\(k=0/\t=0∨0<k/\t=(AM.at_ l (k-1)).page+(AM.at_ l (k-1)).aB-1)/\AM.b7 l k=true/\wr.heap[w.heap.size]?=some (.cells Z 177 (0,0))/\wr.heap[w.heap.size+1]?=some (.cells (bd (AM.bg l k)) 177 (0,0))/\Below w.heap.size w wr) (fun _ i _=>l.length-(intOf i).toNat)
 case atStart =>
  refine⟨0,0,by omega,rfl,rfl,.inl ⟨rfl,rfl⟩,rfl,B.alloc (B.new w Z 177) _,?_,((Below.refl _ _).alloc (Nat.le_refl _) _).alloc (by simp) _⟩
  have e:bd (AM.bg l 0)=Z:=by rw[HZ.o];rfl
  rw[e]
  have:=B.new (w.alloc (.cells Z 177)) Z 177
  simpa using this
 case round =>
  obtain⟨k,t,hk,rfl,rfl,hlast,Ub,hR,hA,hb⟩:=hrel
  have HR:Hid (wr.heap[w.heap.size]?=some (.cells Z 177 (0,0))):=hR
  have HA:Hid (wr.heap[w.heap.size+1]?=some (.cells (bd (AM.bg l k)) 177 (0,0))):=hA
  have HB:Hid (Below w.heap.size w wr):=hb
  have DF:Hid (AM.b7 l k=true):=Ub
  have HL:Hid (k=0/\t=0∨0<k/\t=(AM.at_ l (k-1)).page+(AM.at_ l (k-1)).aB-1):=hlast
  have hsz:w.heap.size+2<=wr.heap.size:=B.isLt hA
  by_cases hlt:k<l.length
  · obtain⟨c0,c1,c2,c3⟩:=hl.below hb k hlt
    have xk:=AM.vE l _ HE.o k hlt
    have hbk:=(AM.iT _ _).1 xk.1
    have E3:0<=(AM.at_ l k).bJ/\(AM.at_ l k).bJ<=3:=of_decide_eq_true xk.2
    have L9:Hid (AM.fM l k=decide (t<(AM.at_ l k).page)):=by
     show _=_
     unfold AM.fM
     rcases HL.o with⟨h1,h2⟩ | ⟨h1,h2⟩
     · rw[h1,h2]
       rw[h1] at hbk
       simp
       omega
     · have JZ:(k==0)=false:=by simp;omega
       rw[JZ,Bool.false_or]
       unfold AM.Ar.dN
       rw[h2]
       exact decide_eq_decide.2 (by omega)
    obtain⟨a,ha⟩:=ex (AM.at_ l k)
    rw[<- ha] at c0 c1 c2 c3 hbk L9 E3
    have YD:Hid (a=AM.at_ l k):=ha
    clear ha hR hA hb hlast Ub xk
    have hkl:(k:Int)<(l.length:Int):=by omega
    by_cases hup:t<a.page
    · have Zd:¬a.page<=t:=by omega
      obtain⟨wo,hwo⟩:∃wo:World,wo=wr:=⟨_,rfl⟩
      subst hwo
      go_wp2
      go_loopw [8] (fun tt wi=>∃n:Nat,a.page<=(n:Int)/\(n:Int)<=a.page+a.aB/\tt=I n/\wi.heap[w.heap.size]?=some (.cells Z 177 (0,0))/\wi.heap[w.heap.size+1]?=some (.cells (bd (AM.gj (AM.bg l k) a n)) 177 (0,0))/\wi.heap[wo.heap.size]?=some (.cells #[I a.page,I a.aB,I a.bJ,.bool a.zero] 47 (0,0))/\Below w.heap.size w wi) (fun tt _=>(a.page+a.aB-intOf tt).toNat)
      case atStart =>
       refine⟨a.page.toNat,by omega,by omega,by rw[Int.toNat_of_nonneg (by omega)],B.alloc HR.o _,?_,B.new _ _ _,HB.o.alloc HB.o.size _⟩
       rw[Int.toNat_of_nonneg (by omega),AM.ue]
       exact B.alloc HA.o _
      case round =>
       obtain⟨n,NM,qK,rfl,iR,iA,iX,ib⟩:=hrel
       have IR:Hid (wr.heap[w.heap.size]?=some (.cells Z 177 (0,0))):=iR
       have IA:Hid (wr.heap[w.heap.size+1]?=some (.cells (bd (AM.gj (AM.bg l k) a n)) 177 (0,0))):=iA
       have IB:Hid (Below w.heap.size w wr):=ib
       have x0:=B.cell iX 0 rfl
       have x1:=B.cell iX 1 rfl
       have x2:=B.cell iX 2 rfl
       have x3:=B.cell iX 3 rfl
       have IX:Hid (wr.heap[wo.heap.size]?=some (.cells #[I a.page,I a.aB,I a.bJ,.bool a.zero] 47 (0,0))):=iX
       clear iR iX ib
       by_cases hin:(n:Int)<a.page+a.aB
       · have hin':(n:Int)<=a.page+a.aB-1:=by omega
         have z0:=B.cell iA n (AM.xK _ n (by omega))
         have zf:=B.free iA
         have QY:(n:Int)<256:=by omega
         clear iA
         go_wp2_with (first | (go_at_call 127;refine(LF _ _ _ E3).mono ?_;rintro e w' ⟨rfl,rfl⟩))
         go_roundw
         case rel =>
          refine⟨n+1,by omega,by omega,by go_num,B.other IR.o _ _ _ (by omega),?_,B.other IX.o _ _ _ (by omega),IB.o.setCell (by simp) _⟩
          have h:=B.set IA.o n (I (AM.mark a.bJ a.zero))
          have e:(bd (AM.gj (AM.bg l k) a n)).setIfInBounds n (I (AM.mark a.bJ a.zero))=bd (AM.gj (AM.bg l k) a ((n:Int)+1)):=by
           unfold bd
           rw[AM.Fw _ n _ (by omega),<- AM.wW _ _ _ NM]
           congr 1
           exact AM.Kw (AM.gj (AM.bg l k) a n) n ⟨true,a.bJ,a.zero⟩
          rw[e] at h
          rw[show((n+1:Nat):Int)=(n:Int)+1 from by omega]
          exact h
         case measure=>simp[intOf];omega
       · have hin':¬(n:Int)<=a.page+a.aB-1:=by omega
         have hE2:Hid ((n:Int)=a.page+a.aB):=by show _=_;omega
         clear iA
         go_wp2
         go_roundw
         case rel =>
          refine⟨k+1,a.page+a.aB-1,by omega,by go_num,rfl,.inr ⟨by omega,?_⟩,?_,IR.o,?_,IB.o⟩
          · rw[Nat.add_sub_cancel,<- YD.o]
          · simp only[AM.b7,DF.o,L9.out,Bool.true_and]
            exact decide_eq_true hup
          · have h:=IA.o
            rw[hE2.out] at h
            show _=some (Obj.cells (bd (AM.gj (AM.bg l k) (AM.at_ l k) (AM.at_ l k).dN)) 177 (0,0))
            rw[<- YD.o]
            exact h
         case measure=>simp[intOf];omega
    · have Zd:a.page<=t:=by omega
      have hbad:Hid (AM.b7 l l.length=false):=by
       show _=_
       have e:AM.b7 l (k+1)=false:=by simp only[AM.b7,DF.o,L9.out,Bool.true_and];exact decide_eq_false hup
       exact AM.jn l (k+1) l.length (by omega) e
      have Bx:Hid ((wr.alloc (.cells #[I a.page,I a.aB,I a.bJ,.bool a.zero] 47)).heap[w.heap.size+1]?=some (.cells (bd (AM.bg l k)) 177 (0,0))):=B.alloc HA.o _
      have A3:Hid ((wr.alloc (.cells #[I a.page,I a.aB,I a.bJ,.bool a.zero] 47)).heap[w.heap.size]?=some (.cells Z 177 (0,0))):=B.alloc HR.o _
      have hB2:Hid (Below w.heap.size w (wr.alloc (.cells #[I a.page,I a.aB,I a.bJ,.bool a.zero] 47))):=HB.o.alloc HB.o.size _
      obtain⟨D,hD⟩:=ex (bd (AM.bg l k))
      have Mz:D.size=256:=by rw[hD];exact Hd _
      have Wi:D.all (·.oneCell')=true:=by rw[hD];exact AM.qT _
      rw[<- hD] at Bx
      clear hD
      go_wp2_with (first | (refine wpList_load_row rfl 177 _ rfl (w.heap.size+1) rfl 177 D (0,0) _ Bx.out Tryz.underlying177 rfl (by rw[Mz];exact jI) ?_) | (refine wpList_store_row rfl 177 _ _ rfl w.heap.size D rfl rfl 177 Z A3.out (by rw[Mz];exact jI) (by rw[Bw,Mz]) Wi ?_))
      have hfin:=setRow_heap _ _ _ D 177 (0,0) A3.out
      have Vt:=run_loadVar_row (P:=Tryz.prog) _ _ 177 177 D (0,0) _ hfin Tryz.underlying177 rfl (by rw[Mz];exact jI)
      refine bodyPost_ret (v:=.tuple #[.agg D,.bool false]) ?_ rfl ⟨D,by rw[hbad.out],⟨Mz,Wi,fun h=>(by rw[hbad.out] at h;cases h)⟩,below_setRow hB2.out (Nat.le_refl _) _⟩
      rw[results_cell_tmp rfl]
      simp[asAddr,Result.andThen,Vt]
  · obtain rfl:k=l.length:=by omega
    obtain⟨D,hD⟩:=ex (bd (AM.bg l l.length))
    have Mz:D.size=256:=by rw[hD];exact Hd _
    have Wi:D.all (·.oneCell')=true:=by rw[hD];exact AM.qT _
    have HD:Hid (D=bd (AM.bg l l.length)):=hD
    rw[<- hD] at HA
    clear hD hR hA hb hlast Ub
    go_wp2_with (first | (refine wpList_load_row rfl 177 _ rfl (w.heap.size+1) rfl 177 D (0,0) _ HA.o Tryz.underlying177 rfl (by rw[Mz];exact jI) ?_) | (refine wpList_store_row rfl 177 _ _ rfl w.heap.size D rfl rfl 177 Z HR.o (by rw[Mz];exact jI) (by rw[Bw,Mz]) Wi ?_))
    have hfin:=setRow_heap _ _ _ D 177 (0,0) HR.o
    have Vt:=run_loadVar_row (P:=Tryz.prog) _ _ 177 177 D (0,0) _ hfin Tryz.underlying177 rfl (by rw[Mz];exact jI)
    refine bodyPost_ret (v:=.tuple #[.agg D,.bool true]) ?_ rfl ⟨D,by rw[DF.o],⟨Mz,Wi,fun _=>HD.o⟩,below_setRow HB.o (Nat.le_refl _) _⟩
    rw[results_cell_tmp rfl]
    simp[asAddr,Result.andThen,Vt]
end AW
end Go.Proofs.YtpgifpeohlllfaaGreat
