import Derived.Test.YtpgifpeohlllfaaGreatGP00
import Derived.Test.YtpgifpeohlllfaaGreatGP27
import Derived.Test.YtpgifpeohlllfaaGreatGP28
import Derived.Test.YtpgifpeohlllfaaGreatGP24
import Derived.Test.YtpgifpeohlllfaaGreatGP10
import Derived.Test.YtpgifpeohlllfaaGreatGP09
import Derived.Test.YtpgifpeohlllfaaGreatGP18
import Derived.Test.YtpgifpeohlllfaaGreatGP03
import Derived.Test.YtpgifpeohlllfaaGreatGP06
import Derived.Test.YtpgifpeohlllfaaGreatGP05
import Derived.Test.YtpgifpeohlllfaaGreatGP04
import Derived.Lib.Hide
import Derived.WalkSpells
import Derived.Deep.RegionHeld3
import Derived.Test.YtpgifpeohlllfaaGreatGP13
set_option maxHeartbeats 20000000
set_option linter.unusedVariables false
set_option maxRecDepth 100000
set_option linter.unusedSimpArgs false
namespace Go.Proofs.YtpgifpeohlllfaaGreat
namespace KL
open Go.RowKit GK KO
open FW (ai aC)
open KW (fe cO aH eY b6 ko)
open KY (cW l4)
theorem MK (k:KM.Kn) (sp:Int):cW k sp 1 0 [0,1,2]=b6 k sp:=by
 unfold KY.cW
 by_cases c:b6 k sp=0
 · rw[if_neg (fun g=>g c),if_neg (fun g=>g (by decide)),if_pos (by simp),c]
 · rw[if_pos c]
theorem Ir (k:KM.Kn) (a:fe) (sp p:Int) (w:World) (hK:cO w a k) (hF:eY k) (hsp:M.fR sp)
  (hbg:∀V,Calls Tryz.prog 15 #[] V fun e w'=>e=.returned (.bool true)/\Below V.heap.size V w') :
  Calls Tryz.prog 7 #[.agg (aH a k),I sp,I p] w fun e w'=>e=.returned (.bool true)/\Below w.heap.size w w':=by
 obtain⟨WA,dx⟩:=ex (w.alloc (.cells (aH a k) 27))
 have hb0:Below w.heap.size w WA:=by rw[dx];exact(Below.refl _ _).alloc (Nat.le_refl _) _
 have kb:WA.heap[w.heap.size]?=some (.cells (aH a k) 27 (0,0)):=by rw[dx];exact B.new w _ _
 have KB:Hid (∀V,Below WA.heap.size WA V->V.heap[w.heap.size]?=some (.cells #[.slice a.aS k.ak.length a.cS,.slice a.aF k.frames.length a.cF,.slice a.aL k.slots.length a.cL,.slice a.aP k.aj.length a.cP,I k.hand] 27 (0,0))):=fun V hb=>B.below kb hb (B.isLt kb)
 obtain⟨k0,k1,k2,k3,k4⟩:=B.c5 (KB.o WA (Below.refl _ _))
 have eW:∀{V:World},Below WA.heap.size WA V->Below w.heap.size w V:=fun hV=>hb0.trans (hV.mono hb0.size)
 have eV:=ai dx
 have bI:=ai hb0
 have HBG:=ai hbg
 have uP:Hid (Calls Tryz.prog 30 #[.agg (aH a k),I sp,I p] WA fun e w'=>e=.returned (.tuple #[.string (ko k sp p).1,I (ko k sp p).2])/\Below WA.heap.size WA w'):=KW.Cy k a sp p WA (hK.below hb0) hF hsp
 have l5:Hid (∀V,Below WA.heap.size WA V->Calls Tryz.prog 19 #[.agg (aH a k),I sp,I 1,I 0] V fun e w'=>e=.returned (I (b6 k sp))/\Below V.heap.size V w'):=fun V hV=>by
  have:=KR.wI k a sp 1 0 V (hK.below (eW hV)) hF hsp
  rw[MK] at this
  exact this
 by_cases c:b6 k sp=0
 · obtain⟨hR,hs0,hj,hl⟩:=KY.lI c
   obtain⟨j,Pj⟩:∃j:Nat,sp=(j:Int):=⟨sp.toNat,by omega⟩
   subst Pj
   rw[Int.toNat_natCast] at hj hl
   have AU:(j:Int)<(k.aj.length:Int):=by omega
   have Po:=(hR.sp hj).aA
   have uO:Hid (∀V,Below WA.heap.size WA V->∃pb po aa la ca,a.aP=some (Ad pb po)/\V.cell? (Ad pb (po+j*3+1))=some (.slice aa la ca)/\Calls Tryz.prog 31 #[.slice aa la ca,I p] V fun e w'=>e=.returned (.tuple #[.agg #[I (AM.aK (KM.aq k.aj j).aA p).1.page,I (AM.aK (KM.aq k.aj j).aA p).1.aB,I (AM.aK (KM.aq k.aj j).aA p).1.bJ,.bool (AM.aK (KM.aq k.aj j).aA p).1.zero],.bool (AM.aK (KM.aq k.aj j).aA p).2])/\Below V.heap.size V w'):=fun V hV=>by
    obtain⟨pb,po,e1,e2,e3⟩:=(hK.aj.below (eW hV)) (by omega)
    obtain⟨va,ap,cp,c0,c1,c2,c3,_⟩:=e3 j hj
    have Tp:=c3
    obtain⟨aa,ca,rfl,_⟩:=c3
    exact⟨pb,po,aa,_,ca,e1,c1,AW.nX _ _ p V Tp Po⟩
   have zR:(AM.aK (KM.aq k.aj j).aA p).2=true->Hid (∀V,Below WA.heap.size WA V->Calls Tryz.prog 32 #[.agg (aH a k),I (j:Int),I p] V fun e w'=>e=.returned (.string (KM.cK k j p))/\Below V.heap.size V w'):=fun hm V hV=>KR.Eu k a j p V (hK.below (eW hV)) hF hR hj hm
   have Wl:ko k (j:Int) p=if (AM.aK (KM.aq k.aj j).aA p).2 then (KM.cK k j p,0) else (⟨#[]⟩,6):=by
    unfold KW.ko
    rw[if_pos c,Int.toNat_natCast]
   rw[Wl] at uP
   rw[c] at l5
   obtain⟨F,Wf⟩:=ex (AM.aK (KM.aq k.aj j).aA p)
   rw[<- Wf] at uO zR uP
   obtain⟨⟨g1,g2,g3,g4⟩,gf⟩:=F
   simp only at uO zR uP
   obtain⟨D,hD⟩:=ex (KM.cK k j p)
   rw[<- hD] at zR uP
   unfold aH at uP l5 zR eV ⊢
   clear hK hF hsp hbg hb0 kb dx eW c hR hs0 hj hl Po Wl Wf hD
   cases gf with
   | true =>
    have Nv:=zR rfl
    have JM:Hid (Calls Tryz.prog 30 #[.agg #[.slice a.aS k.ak.length a.cS,.slice a.aF k.frames.length a.cF,.slice a.aL k.slots.length a.cL,.slice a.aP k.aj.length a.cP,I k.hand],I (j:Int),I p] WA fun e w'=>e=.returned (.tuple #[.string D,I 0])/\Below WA.heap.size WA w'):=uP.o
    clear zR uP
    go_enter Tryz.func7,Tryz.ntmps7
    go_upto_region 1 with fail
    rw[<- eV.o]
    go_upto_region 2 with(go_at_call 30;refine JM.o.mono ?_;rintro e w1 ⟨rfl,hb1⟩;have aZ:=ai hb1;obtain⟨k0,k1,k2,k3,k4⟩:=B.c5 (KB.o _ hb1);clear hb1)
    go_upto_region 5 with(go_at_call 19;refine(l5.o _ aZ.o).mono ?_;rintro e w2 ⟨rfl,hb2⟩;have bY:=ai (aZ.o.trans (hb2.mono aZ.o.size));clear hb2)
    obtain⟨pb,po,aa,la,ca,hao,c1,hat⟩:=uO.o _ bY.o
    have D4:=ai hat
    have hq:=KB.o _ bY.o
    rw[hao] at hq
    obtain⟨k0,k1,k2,k3,k4⟩:=B.c5 hq
    clear hq hao hat
    go_upto_region 7 with(go_at_call 31;refine D4.o.mono ?_;rintro e w3 ⟨rfl,hb3⟩;have dC:=ai (bY.o.trans (hb3.mono bY.o.size));clear hb3)
    have gN:=ai (dC.o.alloc dC.o.size (.cells #[I g1,I g2,I g3,.bool g4] 47))
    obtain⟨W4,VY⟩:=ex (w3.alloc (.cells #[I g1,I g2,I g3,.bool g4] 47))
    rw[<- VY] at gN ⊢
    clear VY
    obtain⟨k0,k1,k2,k3,k4⟩:=B.c5 (KB.o _ gN.o)
    go_wp2_with (first | (go_at_call 32;refine(Nv.o _ gN.o).mono ?_;rintro e w5 ⟨rfl,rW⟩;have ql:=ai (gN.o.trans (rW.mono gN.o.size));clear rW) | (go_at_call 15;refine(HBG.o _).mono ?_;rintro e w6 ⟨rfl,uo⟩;have RG:=ai (ql.o.trans (uo.mono ql.o.size));clear uo))
    go_ret
    exact⟨by simp,bI.o.trans (RG.o.mono bI.o.size)⟩
   | false =>
    have JM:Hid (Calls Tryz.prog 30 #[.agg #[.slice a.aS k.ak.length a.cS,.slice a.aF k.frames.length a.cF,.slice a.aL k.slots.length a.cL,.slice a.aP k.aj.length a.cP,I k.hand],I (j:Int),I p] WA fun e w'=>e=.returned (.tuple #[.string ⟨#[]⟩,I 6])/\Below WA.heap.size WA w'):=uP.o
    clear zR uP
    go_enter Tryz.func7,Tryz.ntmps7
    go_upto_region 1 with fail
    rw[<- eV.o]
    go_upto_region 2 with(go_at_call 30;refine JM.o.mono ?_;rintro e w1 ⟨rfl,hb1⟩;have aZ:=ai hb1;obtain⟨k0,k1,k2,k3,k4⟩:=B.c5 (KB.o _ hb1);clear hb1)
    go_upto_region 5 with(go_at_call 19;refine(l5.o _ aZ.o).mono ?_;rintro e w2 ⟨rfl,hb2⟩;have bY:=ai (aZ.o.trans (hb2.mono aZ.o.size));clear hb2)
    obtain⟨pb,po,aa,la,ca,hao,c1,hat⟩:=uO.o _ bY.o
    have D4:=ai hat
    have hq:=KB.o _ bY.o
    rw[hao] at hq
    obtain⟨k0,k1,k2,k3,k4⟩:=B.c5 hq
    clear hq hao hat
    go_wp2_with (first | (go_at_call 31;refine D4.o.mono ?_;rintro e w3 ⟨rfl,hb3⟩;have dC:=ai (bY.o.trans (hb3.mono bY.o.size));clear hb3) | (go_at_call 15;refine(HBG.o _).mono ?_;rintro e w6 ⟨rfl,uo⟩;have RG:=ai uo;clear uo))
    go_ret
    exact⟨by simp,bI.o.trans (((dC.o.alloc dC.o.size (.cells #[I g1,I g2,I g3,.bool g4] 47)).trans (RG.o.mono (dC.o.alloc dC.o.size (.cells #[I g1,I g2,I g3,.bool g4] 47)).size)).mono bI.o.size)⟩
 · have Wl:ko k sp p=(⟨#[]⟩,b6 k sp):=by
    unfold KW.ko
    rw[if_neg c]
   rw[Wl] at uP
   obtain⟨C,hC⟩:=ex (b6 k sp)
   rw[<- hC] at uP l5 c
   have cb:(C==0)=false:=by simpa using c
   have JM:Hid (Calls Tryz.prog 30 #[.agg (aH a k),I sp,I p] WA fun e w'=>e=.returned (.tuple #[.string ⟨#[]⟩,I C])/\Below WA.heap.size WA w'):=uP.o
   unfold aH at JM l5 eV ⊢
   clear hK hF hsp hbg hb0 kb dx eW c Wl hC uP
   go_enter Tryz.func7,Tryz.ntmps7
   go_upto_region 1 with fail
   rw[<- eV.o]
   go_upto_region 2 with(go_at_call 30;refine JM.o.mono ?_;rintro e w1 ⟨rfl,hb1⟩;have aZ:=ai hb1;obtain⟨k0,k1,k2,k3,k4⟩:=B.c5 (KB.o _ hb1);clear hb1)
   go_wp2_with (first | (go_at_call 19;refine(l5.o _ aZ.o).mono ?_;rintro e w2 ⟨rfl,hb2⟩;have bY:=ai (aZ.o.trans (hb2.mono aZ.o.size));clear hb2) | (go_at_call 15;refine(HBG.o _).mono ?_;rintro e w6 ⟨rfl,uo⟩;have RG:=ai (bY.o.trans (uo.mono bY.o.size));clear uo))
   go_ret
   exact⟨by simp,bI.o.trans (RG.o.mono bI.o.size)⟩
end KL
namespace LM
open Go.RowKit
def EI (o:Ob) (L:List AM.Ar) (s:M.Sg):List AM.Ar:=(AW.nN L (o.base+s.page) s.aB (rB s)).1
def Rj (o:Ob) (L:List AM.Ar):Nat->List AM.Ar
 | 0=>L
 | k+1=>EI o (Rj o L k) (M.dn o.i.cU k)
def NV (l:List Ob):Nat->List AM.Ar
 | 0=>[]
 | k+1=>Rj (dK l k) (NV l k) (dK l k).i.cU.length
def Yc (a:AM.Ar):AM.Ar:=⟨a.page,a.aB,a.bJ,false⟩
def kO (L:List AM.Ar):Nat->List AM.Ar
 | 0=>L
 | k+1=>(kO L k).set k (Yc (AM.at_ (kO L k) k))
def mR (l:List Ob):List AM.Ar:=(NV l l.length).map Yc
theorem G8 (o:Ob) (L:List AM.Ar) (h:AW.eH L):∀k,AW.eH (Rj o L k)
 | 0=>h
 | k+1=>AW.PC _ _ _ _
theorem A8 (l:List Ob):∀k,AW.eH (NV l k)
 | 0=>AW.G7
 | k+1=>G8 _ _ (A8 l k) _
theorem kT (L:List AM.Ar):∀k,(kO L k).length=L.length
 | 0=>rfl
 | k+1=>by simp only[kO,List.length_set,kT L k]
theorem zK (L:List AM.Ar):∀k,k<=L.length->∀j,(kO L k)[j]?=if j<k then L[j]?.map Yc else L[j]?
 | 0,_,j=>by simp[kO]
 | k+1,hk,j=>by
  have ih:=zK L k (by omega)
  have hl:=kT L k
  have e:AM.at_ (kO L k) k=AM.at_ L k:=by
   unfold AM.at_
   rw[List.getD_eq_getElem?_getD,List.getD_eq_getElem?_getD,ih k,if_neg (Nat.lt_irrefl _)]
  simp only[kO]
  rw[e,List.getElem?_set]
  by_cases hjk:k=j
  · subst hjk
    rw[if_pos rfl,if_pos (by omega),if_pos (by omega)]
    unfold AM.at_
    rw[List.getD_eq_getElem?_getD,List.getElem?_eq_getElem (by omega)]
    rfl
  · rw[if_neg hjk,ih j]
    by_cases h1:j<k
    · rw[if_pos h1,if_pos (by omega)]
    · rw[if_neg h1,if_neg (by omega)]
theorem Jx (L:List AM.Ar):kO L L.length=L.map Yc:=by
 apply List.ext_getElem?
 intro j
 rw[zK L _ (Nat.le_refl _) j,List.getElem?_map]
 by_cases h:j<L.length
 · rw[if_pos h]
 · rw[if_neg h,List.getElem?_eq_none (by omega)]
   rfl
theorem gy (b:Bool):∀(L:List AM.Ar) (k:Nat),k<L.length->(AM.bf L).set (k*4+3) (.bool b)=AM.bf (L.set k ⟨(AM.at_ L k).page,(AM.at_ L k).aB,(AM.at_ L k).bJ,b⟩)
 | [],k,h=>by simp at h
 | a::r,0,h=>rfl
 | a::r,k+1,h=>by
  have ih:=gy b r k (by simpa using h)
  show(AM.four a++AM.bf r).set _ _=AM.four a++AM.bf (r.set k _)
  rw[List.set_append_right _ _ (by simp[AM.four];omega)]
  congr 1
  have e:(k+1)*4+3-(AM.four a).length=k*4+3:=by simp[AM.four];omega
  rw[e,ih]
  rfl
def bQ (x:Li):List Value:=(M.eO x.a x.i).toList
def gH (all:List Li):Int :=
 if 7<all.length then 2
 else if lV all=0 then
  match Uf all all.length 0 [0] with
  | none=>6
  | some ix=>if 256<fy all 1 ix then 3 else
   match kQ (cu all 1 ix) with
   | none=>7
   | some _=>0
 else lV all
theorem Fy {l:List Li} (h:lV l=0):(∀k,k<l.length->M.jB (b9 l k).i=0)/\M.oQ (fD l)=true:=by
 unfold lV at h
 by_cases e:kM l l.length=0
 · rw[if_pos e] at h
   refine⟨xw l l.length e,?_⟩
   by_cases g:M.oQ (fD l)=true
   · exact g
   · rw[if_neg g] at h
     cases h
 · rw[if_neg e] at h
   exact(e h).elim
theorem Lt {all:List Li} (hc:∀j,j<all.length->M.jB (b9 all j).i=0) (h7:all.length<=7) {ix:List Nat} (ho:Qm all ix) (k:Nat) (hk:k<(cu all 1 ix).length):1<=(dK (cu all 1 ix) k).base/\(dK (cu all 1 ix) k).base<=2000:=by
 rw[dX] at hk
 rw[(lB all ix 1 k hk).2.2]
 have h:=o6 all hc (ix.take k) 1 (fun j hj=>ho.lt j (List.mem_of_mem_take hj))
 have h2:=ho.le
 rw[List.length_take] at h
 omega
end LM
namespace KG
open Go.RowKit
def I6:ByteArray:=⟨#[12,0,0,0,0,0,0,0]⟩
theorem I5:(⟨12,0,0,0,0⟩:PM.J6).bytes=I6:=by kernel_rfl
def Wq:ByteArray:=⟨#[97,98,99]⟩
def p1:ByteArray:=⟨#[12,0,0,0,0,0,0,0,0,0,0,0,0,0,0,0]⟩
def p2:ByteArray:=⟨#[97,98,99,0,0,0,0,0,0,0,0,0,0,0,0,0]⟩
def p3:ByteArray:=⟨#[0,0,0,0,0,0,0,0,0,0,0,0,0,0,0,0]⟩
def sB:M.Im:=⟨⟨#[116]⟩,[],[⟨0,1,I6,false,true⟩,⟨1,2,Wq,true,false⟩],[],[],0⟩
theorem KE:M.Fit sB:=by
 refine⟨by unfold M.br sB;decide,by unfold M.br sB;decide,fun k hk=>absurd hk (by unfold sB;simp),by unfold M.br sB;decide,fun k hk=>?_,by unfold M.br sB;decide,fun k hk=>absurd hk (by unfold sB;simp),by unfold M.br sB;decide,fun k hk=>absurd hk (by unfold sB;simp),by unfold M.fR sB;decide⟩
 have:k=0∨k=1:=by unfold sB at hk;simp at hk;omega
 rcases this with rfl | rfl
 · exact⟨by unfold M.fR sB M.dn;decide,by unfold M.fR sB M.dn;decide,by unfold M.br;show(8:Nat)<=_;decide⟩
 · exact⟨by unfold M.fR sB M.dn;decide,by unfold M.fR sB M.dn;decide,by unfold M.br;show(3:Nat)<=_;decide⟩
theorem RX (a:M.At):LM.gH [⟨sB,a⟩]=0:=by kernel_rfl
theorem KD (a:M.At):LM.Uf [⟨sB,a⟩] [(⟨sB,a⟩:LM.Li)].length 0 [0]=some [0]:=by kernel_rfl
theorem RU (a:M.At):LM.cu [⟨sB,a⟩] 1 [0]=[⟨sB,a,1⟩]:=by kernel_rfl
def T9:List LM.Sp:=[⟨1,p1,[]⟩,⟨2,p2,[]⟩,⟨3,p3,[]⟩]
theorem H5 (a:M.At):LM.kQ [⟨sB,a,1⟩]=some T9:=by kernel_rfl
def Eb:List AM.Ar:=[⟨1,1,2,false⟩,⟨2,2,1,false⟩]
theorem KH (a:M.At):LM.mR [⟨sB,a,1⟩]=Eb:=by kernel_rfl
theorem KF (a:M.At):LM.uN (LM.dK [⟨sB,a,1⟩] 0) (LM.b9 [⟨sB,a⟩] 0).i.entry=16:=by kernel_rfl
def ot (a1 a2 a3:Option Addr) (c1 c2 c3:Nat):List LM.Sh:=[⟨1,p1,[],a1,c1⟩,⟨2,p2,[],a2,c2⟩,⟨3,p3,[],a3,c3⟩]
theorem QP {hs:List LM.Sh} (h:hs.map LM.plain=T9):∃a1 a2 a3 c1 c2 c3,hs=ot a1 a2 a3 c1 c2 c3:=by
 match hs,h with
 | [⟨g1,d1,f1,a1,c1⟩,⟨g2,d2,f2,a2,c2⟩,⟨g3,d3,f3,a3,c3⟩],h =>
  simp only[List.map_cons,List.map_nil,LM.plain,T9,List.cons.injEq,LM.Sp.mk.injEq,and_true] at h
  obtain⟨⟨rfl,rfl,rfl⟩,⟨rfl,rfl,rfl⟩,rfl,rfl,rfl⟩:=h
  exact⟨a1,a2,a3,c1,c2,c3,rfl⟩
 | [],h=>cases congrArg List.length h
 | [_],h=>cases congrArg List.length h
 | [_,_],h=>cases congrArg List.length h
 | _::_::_::_::_,h =>
  have:=congrArg List.length h
  simp[T9] at this
theorem Ot:AW.eH Eb:=AM.gu _ (by kernel_rfl)
theorem Oq (a1 a2 a3:Option Addr) (c1 c2 c3:Nat):LM.oq (ot a1 a2 a3 c1 c2 c3):=vQ (by kernel_rfl) (by show(3:Nat)<=255;decide)
def wxD:ByteArray:=⟨#[119,120,121,122]⟩
def qD:ByteArray:=⟨#[113]⟩
def abD:ByteArray:=⟨#[97,98]⟩
def Ua:ByteArray:=⟨#[113,98,99,0,0,0,0,0,0,0,0,0,0,0,119,120]⟩
def GJ (H:List LM.Sh):KM.Kn:=⟨H,[⟨⟨#[]⟩,0,false,false⟩,⟨⟨#[]⟩,0,false,false⟩,⟨⟨#[]⟩,0,false,false⟩],[⟨⟨#[]⟩,0⟩,⟨⟨#[]⟩,0⟩,⟨⟨#[]⟩,0⟩,⟨⟨#[]⟩,0⟩,⟨⟨#[]⟩,0⟩,⟨⟨#[]⟩,0⟩,⟨⟨#[]⟩,0⟩,⟨⟨#[]⟩,0⟩],[⟨true,Eb,[]⟩],0⟩
def GI (H:List LM.Sh):KM.Kn:=⟨H,[⟨⟨#[97,98,99,0,0,0,0,0,0,0,0,0,0,0,119,120]⟩,1,true,true⟩,⟨⟨#[121,122,0,0,0,0,0,0,0,0,0,0,0,0,0,0]⟩,1,true,true⟩,⟨⟨#[]⟩,0,false,false⟩],[⟨⟨#[]⟩,0⟩,⟨⟨#[]⟩,0⟩,⟨⟨#[]⟩,0⟩,⟨⟨#[]⟩,0⟩,⟨⟨#[]⟩,0⟩,⟨⟨#[]⟩,0⟩,⟨⟨#[]⟩,0⟩,⟨⟨#[]⟩,0⟩],[⟨true,Eb,[⟨2,1,0⟩,⟨3,1,1⟩]⟩],0⟩
def JW (H:List LM.Sh):KM.Kn:=⟨H,[⟨⟨#[97,98,99,0,0,0,0,0,0,0,0,0,0,0,119,120]⟩,2,true,true⟩,⟨⟨#[121,122,0,0,0,0,0,0,0,0,0,0,0,0,0,0]⟩,2,true,true⟩,⟨⟨#[]⟩,0,false,false⟩],[⟨⟨#[]⟩,0⟩,⟨⟨#[]⟩,0⟩,⟨⟨#[]⟩,0⟩,⟨⟨#[]⟩,0⟩,⟨⟨#[]⟩,0⟩,⟨⟨#[]⟩,0⟩,⟨⟨#[]⟩,0⟩,⟨⟨#[]⟩,0⟩],[⟨true,Eb,[⟨2,1,0⟩,⟨3,1,1⟩]⟩,⟨true,Eb,[⟨2,1,0⟩,⟨3,1,1⟩]⟩],0⟩
def GH (H:List LM.Sh):KM.Kn:=⟨H,[⟨⟨#[97,98,99,0,0,0,0,0,0,0,0,0,0,0,119,120]⟩,1,true,true⟩,⟨⟨#[121,122,0,0,0,0,0,0,0,0,0,0,0,0,0,0]⟩,2,true,true⟩,⟨⟨#[113,98,99,0,0,0,0,0,0,0,0,0,0,0,119,120]⟩,1,true,true⟩],[⟨⟨#[]⟩,0⟩,⟨⟨#[]⟩,0⟩,⟨⟨#[]⟩,0⟩,⟨⟨#[]⟩,0⟩,⟨⟨#[]⟩,0⟩,⟨⟨#[]⟩,0⟩,⟨⟨#[]⟩,0⟩,⟨⟨#[]⟩,0⟩],[⟨true,Eb,[⟨2,1,0⟩,⟨3,1,1⟩]⟩,⟨true,Eb,[⟨2,1,2⟩,⟨3,1,1⟩]⟩],0⟩
theorem I3 (a1 a2 a3:Option Addr) (c1 c2 c3:Nat):KM.dA (GJ (ot a1 a2 a3 c1 c2 c3))=0:=by kernel_rfl
theorem I2 (a1 a2 a3:Option Addr) (c1 c2 c3:Nat):KM.aQ (GJ (ot a1 a2 a3 c1 c2 c3)):=(KM.jP _).1 (I3 a1 a2 a3 c1 c2 c3)
theorem O4 (a1 a2 a3:Option Addr) (c1 c2 c3:Nat):KW.eY (GJ (ot a1 a2 a3 c1 c2 c3)):=pL (I2 a1 a2 a3 c1 c2 c3)
theorem I1 (a1 a2 a3:Option Addr) (c1 c2 c3:Nat):KM.dA (GI (ot a1 a2 a3 c1 c2 c3))=0:=by kernel_rfl
theorem I0 (a1 a2 a3:Option Addr) (c1 c2 c3:Nat):KM.aQ (GI (ot a1 a2 a3 c1 c2 c3)):=(KM.jP _).1 (I1 a1 a2 a3 c1 c2 c3)
theorem O0 (a1 a2 a3:Option Addr) (c1 c2 c3:Nat):KW.eY (GI (ot a1 a2 a3 c1 c2 c3)):=pL (I0 a1 a2 a3 c1 c2 c3)
theorem IW (a1 a2 a3:Option Addr) (c1 c2 c3:Nat):KM.dA (JW (ot a1 a2 a3 c1 c2 c3))=0:=by kernel_rfl
theorem IV (a1 a2 a3:Option Addr) (c1 c2 c3:Nat):KM.aQ (JW (ot a1 a2 a3 c1 c2 c3)):=(KM.jP _).1 (IW a1 a2 a3 c1 c2 c3)
theorem OZ (a1 a2 a3:Option Addr) (c1 c2 c3:Nat):KW.eY (JW (ot a1 a2 a3 c1 c2 c3)):=pL (IV a1 a2 a3 c1 c2 c3)
theorem IU (a1 a2 a3:Option Addr) (c1 c2 c3:Nat):KM.dA (GH (ot a1 a2 a3 c1 c2 c3))=0:=by kernel_rfl
theorem IQ (a1 a2 a3:Option Addr) (c1 c2 c3:Nat):KM.aQ (GH (ot a1 a2 a3 c1 c2 c3)):=(KM.jP _).1 (IU a1 a2 a3 c1 c2 c3)
theorem GG (a1 a2 a3:Option Addr) (c1 c2 c3:Nat):KW.eY (GH (ot a1 a2 a3 c1 c2 c3)):=pL (IQ a1 a2 a3 c1 c2 c3)
theorem IY (a1 a2 a3:Option Addr) (c1 c2 c3:Nat):KZ.jH (GJ (ot a1 a2 a3 c1 c2 c3)) 0 46 wxD=(GI (ot a1 a2 a3 c1 c2 c3),(0,0),0):=by kernel_rfl
theorem IP (a1 a2 a3:Option Addr) (c1 c2 c3:Nat):KZ.jH (JW (ot a1 a2 a3 c1 c2 c3)) 1 32 qD=(GH (ot a1 a2 a3 c1 c2 c3),(0,0),0):=by kernel_rfl
theorem LS (a1 a2 a3:Option Addr) (c1 c2 c3:Nat):(KZ.nk (GH (ot a1 a2 a3 c1 c2 c3)) 0 32 2 0).2=(abD,(0,0),0):=by kernel_rfl
theorem LR (a1 a2 a3:Option Addr) (c1 c2 c3:Nat):KW.ko (GH (ot a1 a2 a3 c1 c2 c3)) 1 2=(Ua,0):=by kernel_rfl
end KG
namespace PW
open Go.RowKit
theorem ai {p:Prop} (h:p):Hid p:=h
theorem I8 (i:PM.J6) (w:World):Calls Tryz.prog 94 #[.agg i.cells] w fun e w'=>e=.returned (.string i.bytes)/\Below w.heap.size w w':=by
 obtain⟨o,a,b,c,m⟩:=i
 unfold PM.J6.cells PM.J6.bytes
 simp only
 have bI:=ai ((Below.refl w.heap.size w).alloc (Nat.le_refl _) (.cells #[I o,I a,I b,I c,I m] 143))
 have BX:=ai (B.new w #[I o,I a,I b,I c,I m] 143)
 obtain⟨W,hW⟩:=ex (w.alloc (.cells #[I o,I a,I b,I c,I m] 143))
 have HW:=ai hW
 rw[<- hW] at bI BX
 have mN:=Q.dO W
 have GQ:=B.isLt BX.o
 have k0:∀x:Q.eU W.heap.size W,x.world.cell? (Ad w.heap.size 0)=some (I o):=fun x=>by rw[Q.cC x _ _ GQ];exact B.cell BX.o 0 rfl
 have k1:∀x:Q.eU W.heap.size W,x.world.cell? (Ad w.heap.size 1)=some (I a):=fun x=>by rw[Q.cC x _ _ GQ];exact B.cell BX.o 1 rfl
 have k2:∀x:Q.eU W.heap.size W,x.world.cell? (Ad w.heap.size 2)=some (I b):=fun x=>by rw[Q.cC x _ _ GQ];exact B.cell BX.o 2 rfl
 have k3:∀x:Q.eU W.heap.size W,x.world.cell? (Ad w.heap.size 3)=some (I c):=fun x=>by rw[Q.cC x _ _ GQ];exact B.cell BX.o 3 rfl
 have k4:∀x:Q.eU W.heap.size W,x.world.cell? (Ad w.heap.size 4)=some (I m):=fun x=>by rw[Q.cC x _ _ GQ];exact B.cell BX.o 4 rfl
 have HA:Hid (∀n V,Calls Tryz.prog 138 #[I n,I 1] V fun e w'=>e=.returned (.string (PM.le 1 n))/\Below V.heap.size V w'):=fun n U=>CW.zM n 1 U (by omega)
 have HM:Hid (∀V,Calls Tryz.prog 138 #[I m,I 4] V fun e w'=>e=.returned (.string (PM.le 4 m))/\Below V.heap.size V w'):=fun U=>CW.zM m 4 U (by omega)
 have s1:=PM.le_size 1 o
 have s2:=PM.le_size 1 a
 have s3:=PM.le_size 1 b
 have s4:=PM.le_size 1 c
 have s5:=PM.le_size 4 m
 have t1:(PM.le 1 o++PM.le 1 a).size=2:=by rw[ByteArray.size_append,s1,s2]
 have t2:(PM.le 1 o++PM.le 1 a++PM.le 1 b).size=3:=by rw[ByteArray.size_append,t1,s3]
 have t3:(PM.le 1 o++PM.le 1 a++PM.le 1 b++PM.le 1 c).size=4:=by rw[ByteArray.size_append,t2,s4]
 clear hW
 go_enter Tryz.func94,Tryz.ntmps94
 go_wp2
 rw[<- HW.o]
 refine Q.bc (by kernel_rfl) (by kernel_rfl) ?_
 repeat (first | go_big_quiet_step ((go_at_call 138;first | with_reducible exact Q.bB (HA.o _) _ | with_reducible exact Q.bB HM.o _)) | quiet_step ((go_at_call 138;first | with_reducible exact Q.bB (HA.o _) _ | with_reducible exact Q.bB HM.o _)))
 refine wpQuiet_nil ?_
 intro _ hw'
 obtain⟨x,hw''⟩:=hw'
 subst hw''
 go_wp2
 go_ret
 exact⟨rfl,bI.o.trans (x.keeps.mono bI.o.size)⟩
end PW
namespace W
open Go.RowKit
theorem UC (nm:ByteArray) (an ag ay ar:Option Addr) (cn gl cg cy cr:Nat) (en:Int) (w:World):Calls Tryz.prog 181 #[.agg #[.string nm,.slice an 0 cn,.slice ag gl cg,.slice ay 0 cy,.slice ar 0 cr,I en]] w fun e w'=>e=.returned (.bool true)/\Below w.heap.size w w':=by
 have HB:=ai ((Below.refl w.heap.size w).alloc (Nat.le_refl _) (.cells #[.string nm,.slice an 0 cn,.slice ag gl cg,.slice ay 0 cy,.slice ar 0 cr,I en] 151))
 go_enter Tryz.func181,Tryz.ntmps181
 go_wp2
 go_loopw [10] (fun iv wr=>iv=I 0/\Below w.heap.size w wr) (fun _ _=>0)
 case atStart=>exact⟨rfl,HB.o⟩
 case round =>
  obtain⟨rfl,hb⟩:=hrel
  have bY:=ai hb
  clear hb
  go_wp2
  go_ret
  exact⟨rfl,bY.o⟩
theorem UG (nm:ByteArray) (an ag ay ar:Option Addr) (cn gl cg cy cr:Nat) (en:Int) (w:World):Calls Tryz.prog 182 #[.agg #[.string nm,.slice an 0 cn,.slice ag gl cg,.slice ay 0 cy,.slice ar 0 cr,I en]] w fun e w'=>e=.returned (.bool true)/\Below w.heap.size w w':=by
 have HB:=ai ((Below.refl w.heap.size w).alloc (Nat.le_refl _) (.cells #[.string nm,.slice an 0 cn,.slice ag gl cg,.slice ay 0 cy,.slice ar 0 cr,I en] 151))
 go_enter Tryz.func182,Tryz.ntmps182
 go_wp2
 go_loopw [11] (fun iv wr=>iv=I 0/\Below w.heap.size w wr) (fun _ _=>0)
 case atStart=>exact⟨rfl,HB.o⟩
 case round =>
  obtain⟨rfl,hb⟩:=hrel
  have bY:=ai hb
  clear hb
  go_wp2
  go_ret
  exact⟨rfl,bY.o⟩
theorem H7 (ay:Option Addr) (cy:Nat) (w:World):Calls Tryz.prog 180 #[.slice ay 0 cy] w fun e w'=>e=.returned Nl/\Below w.heap.size w w':=by
 go_enter Tryz.func180,Tryz.ntmps180
 go_wp2
 go_loopw [3,8] (fun sv iv wr=>sv=Nl/\iv=I 0/\Below w.heap.size w wr) (fun _ _ _=>0)
 case atStart=>exact⟨rfl,rfl,Below.refl _ _⟩
 case round =>
  obtain⟨rfl,rfl,hb⟩:=hrel
  have bY:=ai hb
  clear hb
  go_wp2
  go_ret
  exact⟨rfl,bY.o⟩
theorem Sn (nm:ByteArray) (an ag ay ar:Option Addr) (cn gl cg cy cr:Nat) (en:Int) (w:World) (hn:∀V,Calls Tryz.prog 198 #[.string nm] V fun e w'=>e=.returned (.bool true)/\Below V.heap.size V w'):Calls Tryz.prog 175 #[.agg #[.string nm,.slice an 0 cn,.slice ag gl cg,.slice ay 0 cy,.slice ar 0 cr,I en]] w fun e w'=>e=.returned (.bool true)/\Below w.heap.size w w':=by
 have HN:=ai hn
 clear hn
 have HB:=ai ((Below.refl w.heap.size w).alloc (Nat.le_refl _) (.cells #[.string nm,.slice an 0 cn,.slice ag gl cg,.slice ay 0 cy,.slice ar 0 cr,I en] 151))
 have X0:=ai (B.new w #[.string nm,.slice an 0 cn,.slice ag gl cg,.slice ay 0 cy,.slice ar 0 cr,I en] 151)
 go_enter Tryz.func175,Tryz.ntmps175
 go_wp2_with (go_at_call 198;refine(HN.o _).mono ?_;rintro e w1 ⟨rfl,hb1⟩;have aZ:=ai (HB.o.trans (hb1.mono HB.o.size));have X1:=ai (B.below X0.o hb1 (B.isLt X0.o));have x1:w1.cell? (Ad w.heap.size 1)=some (.slice an 0 cn):=B.cell X1.o 1 rfl;clear hb1)
 go_loopw [16] (fun iv wr=>iv=I 0/\wr.heap[w.heap.size]?=some (.cells #[.string nm,.slice an 0 cn,.slice ag gl cg,.slice ay 0 cy,.slice ar 0 cr,I en] 151 (0,0))/\Below w.heap.size w wr) (fun _ _=>0)
 case atStart=>exact⟨rfl,X1.o,aZ.o⟩
 case round =>
  obtain⟨rfl,hx,hb⟩:=hrel
  have HX:=ai hx
  have bY:=ai hb
  have y3:wr.cell? (Ad w.heap.size 3)=some (.slice ay 0 cy):=B.cell hx 3 rfl
  clear hb hx aZ X1 x1
  go_wp2
  clear y3
  go_loopw [27] (fun iv wi=>iv=I 0/\wi.heap[w.heap.size]?=some (.cells #[.string nm,.slice an 0 cn,.slice ag gl cg,.slice ay 0 cy,.slice ar 0 cr,I en] 151 (0,0))/\Below w.heap.size w wi) (fun _ _=>0)
  case atStart=>exact⟨rfl,HX.o,bY.o⟩
  case round =>
   clear HX bY
   obtain⟨rfl,hx,hb⟩:=hrel
   have HX:=ai hx
   have dC:=ai hb
   have y4:wr.cell? (Ad w.heap.size 4)=some (.slice ar 0 cr):=B.cell hx 4 rfl
   clear hb hx
   go_wp2
   clear y4
   go_loopw [39] (fun iv wi=>iv=I 0/\Below w.heap.size w wi) (fun _ _=>0)
   case atStart=>exact⟨rfl,dC.o⟩
   case round =>
    obtain⟨rfl,hb⟩:=hrel
    have gN:=ai hb
    clear hb
    go_wp2
    go_ret
    exact⟨rfl,gN.o⟩
theorem Tm (nm:ByteArray) (gs:List M.Sg) (en:Int) (an ag ay ar:Option Addr) (cn cg cy cr:Nat) (w:World) (h:M.mK w ⟨an,cn,ag,cg,ay,cy,ar,cr⟩ ⟨nm,[],gs,[],[],en⟩) (hf:M.Fit ⟨nm,[],gs,[],[],en⟩) (h1:M.oc nm=true) (h2:M.pN ⟨nm,[],gs,[],[],en⟩=true) (h3:gs.all M.fB=true) (h4:M.tL gs=true) (h5:M.tF ⟨nm,[],gs,[],[],en⟩=true) :
  Calls Tryz.prog 158 #[.agg #[.string nm,.slice an 0 cn,.slice ag gs.length cg,.slice ay 0 cy,.slice ar 0 cr,I en]] w fun e w'=>e=.returned (I 0)/\Below w.heap.size w w':=by
 have qX:Hid (∀V,Calls Tryz.prog 198 #[.string nm] V fun e w'=>e=.returned (.bool true)/\Below V.heap.size V w'):=fun V=>(ES nm V hf.name).mono fun e w' ⟨e1,e2⟩=>⟨by rw[e1,h1],by rw[<- e2];exact Below.refl _ _⟩
 have N2:=ai (fun V=>Sn nm an ag ay ar cn gs.length cg cy cr en V qX.o)
 have N9:Hid (∀V,Calls Tryz.prog 176 #[.agg #[.string nm,.slice an 0 cn,.slice ag gs.length cg,.slice ay 0 cy,.slice ar 0 cr,I en]] V fun e w'=>e=.returned (.bool true)/\Below V.heap.size V w'):=fun V=>(uW ⟨nm,[],gs,[],[],en⟩ ⟨an,cn,ag,cg,ay,cy,ar,cr⟩ V hf).mono fun e w' ⟨e1,e2⟩=>⟨by rw[e1,h2],e2⟩
 have HRG:Hid (∀V,Below w.heap.size w V->Calls Tryz.prog 177 #[.slice ag gs.length cg] V fun e w'=>e=.returned (.bool true)/\Below V.heap.size V w'):=fun V hV=>(uU gs ag cg V (h.below hV).cU hf.cU hf.seg).mono fun e w' ⟨e1,e2⟩=>⟨by rw[e1,h3],e2⟩
 have TP:Hid (∀V,Below w.heap.size w V->Calls Tryz.prog 178 #[.slice ag gs.length cg] V fun e w'=>e=.returned (.bool false)/\Below V.heap.size V w'):=fun V hV=>(CA gs ag cg V (h.below hV).cU hf.cU h3).mono fun e w' ⟨e1,e2⟩=>⟨by rw[e1,h4];rfl,e2⟩
 have HTW:Hid (∀ao c V,Calls Tryz.prog 179 #[.slice ao 0 c] V fun e w'=>e=.returned (.bool false)/\Below V.heap.size V w'):=fun ao c V=>(Hu [] ao c V (fun h=>absurd h (Nat.not_lt_zero _)) (Nat.zero_le _) (fun k hk=>absurd hk (Nat.not_lt_zero _))).mono fun e w' ⟨e1,e2⟩=>⟨by rw[e1];rfl,e2⟩
 have xS:=ai (fun V=>H7 ay cy V)
 have Rq:=ai (fun V=>UC nm an ag ay ar cn gs.length cg cy cr en V)
 have Hk:=ai (fun V=>UG nm an ag ay ar cn gs.length cg cy cr en V)
 have fX:Hid (∀V,Below w.heap.size w V->Calls Tryz.prog 183 #[.agg #[.string nm,.slice an 0 cn,.slice ag gs.length cg,.slice ay 0 cy,.slice ar 0 cr,I en]] V fun e w'=>e=.returned (.bool true)/\Below V.heap.size V w'):=fun V hV=>(vd ⟨nm,[],gs,[],[],en⟩ ⟨an,cn,ag,cg,ay,cy,ar,cr⟩ V (h.below hV) hf h3).mono fun e w' ⟨e1,e2⟩=>⟨by rw[e1,h5],e2⟩
 obtain⟨gl,hgl⟩:=ex gs.length
 rw[<- hgl] at N2 N9 HRG TP Rq Hk fX ⊢
 clear h hf h1 h2 h3 h4 h5 hgl qX
 have HB:=ai ((Below.refl w.heap.size w).alloc (Nat.le_refl _) (.cells #[.string nm,.slice an 0 cn,.slice ag gl cg,.slice ay 0 cy,.slice ar 0 cr,I en] 151))
 have X:=ai (B.new w #[.string nm,.slice an 0 cn,.slice ag gl cg,.slice ay 0 cy,.slice ar 0 cr,I en] 151)
 go_enter Tryz.func158,Tryz.ntmps158
 go_wp2_with (first
  | (go_at_call 175;refine(N2.o _).mono ?_;rintro e w1 ⟨rfl,hb⟩;have aZ:=ai (HB.o.trans (hb.mono HB.o.size));have X1:=ai (B.below X.o hb (B.isLt X.o));clear hb;have k10:w1.cell? (Ad w.heap.size 0)=some (.string nm):=B.cell X1.o 0 rfl;have k11:w1.cell? (Ad w.heap.size 1)=some (.slice an 0 cn):=B.cell X1.o 1 rfl;have k12:w1.cell? (Ad w.heap.size 2)=some (.slice ag gl cg):=B.cell X1.o 2 rfl;have k13:w1.cell? (Ad w.heap.size 3)=some (.slice ay 0 cy):=B.cell X1.o 3 rfl;have k14:w1.cell? (Ad w.heap.size 4)=some (.slice ar 0 cr):=B.cell X1.o 4 rfl;have k15:w1.cell? (Ad w.heap.size 5)=some (I en):=B.cell X1.o 5 rfl)
  | (go_at_call 176;refine(N9.o _).mono ?_;rintro e w2 ⟨rfl,hb⟩;have bY:=ai (aZ.o.trans (hb.mono aZ.o.size));have X2:=ai (B.below X1.o hb (B.isLt X1.o));clear hb;have k22:w2.cell? (Ad w.heap.size 2)=some (.slice ag gl cg):=B.cell X2.o 2 rfl)
  | (go_at_call 177;refine(HRG.o _ bY.o).mono ?_;rintro e w3 ⟨rfl,hb⟩;have dC:=ai (bY.o.trans (hb.mono bY.o.size));have X3:=ai (B.below X2.o hb (B.isLt X2.o));clear hb;have k32:w3.cell? (Ad w.heap.size 2)=some (.slice ag gl cg):=B.cell X3.o 2 rfl)
  | (go_at_call 178;refine(TP.o _ dC.o).mono ?_;rintro e w4 ⟨rfl,hb⟩;have gN:=ai (dC.o.trans (hb.mono dC.o.size));have X4:=ai (B.below X3.o hb (B.isLt X3.o));clear hb;have k41:w4.cell? (Ad w.heap.size 1)=some (.slice an 0 cn):=B.cell X4.o 1 rfl)
  | (have _:=X6;go_at_call 179;refine(HTW.o _ _ _).mono ?_;rintro e w7 ⟨rfl,hb⟩;have YC:=ai (RG.o.trans (hb.mono RG.o.size));have X7:=ai (B.below X6.o hb (B.isLt X6.o));clear hb;have k70:w7.cell? (Ad w.heap.size 0)=some (.string nm):=B.cell X7.o 0 rfl;have k71:w7.cell? (Ad w.heap.size 1)=some (.slice an 0 cn):=B.cell X7.o 1 rfl;have k72:w7.cell? (Ad w.heap.size 2)=some (.slice ag gl cg):=B.cell X7.o 2 rfl;have k73:w7.cell? (Ad w.heap.size 3)=some (.slice ay 0 cy):=B.cell X7.o 3 rfl;have k74:w7.cell? (Ad w.heap.size 4)=some (.slice ar 0 cr):=B.cell X7.o 4 rfl;have k75:w7.cell? (Ad w.heap.size 5)=some (I en):=B.cell X7.o 5 rfl)
  | (go_at_call 179;refine(HTW.o _ _ _).mono ?_;rintro e w5 ⟨rfl,hb⟩;have ql:=ai (gN.o.trans (hb.mono gN.o.size));have X5:=ai (B.below X4.o hb (B.isLt X4.o));clear hb;have k53:w5.cell? (Ad w.heap.size 3)=some (.slice ay 0 cy):=B.cell X5.o 3 rfl)
  | (go_at_call 180;refine(xS.o _).mono ?_;rintro e w6 ⟨rfl,hb⟩;have RG:=ai (ql.o.trans (hb.mono ql.o.size));have X6:=ai (B.below X5.o hb (B.isLt X5.o));clear hb)
  | (go_at_call 181;refine(Rq.o _).mono ?_;rintro e w8 ⟨rfl,hb⟩;have HB8:=ai (YC.o.trans (hb.mono YC.o.size));have X8:=ai (B.below X7.o hb (B.isLt X7.o));clear hb;have k80:w8.cell? (Ad w.heap.size 0)=some (.string nm):=B.cell X8.o 0 rfl;have k81:w8.cell? (Ad w.heap.size 1)=some (.slice an 0 cn):=B.cell X8.o 1 rfl;have k82:w8.cell? (Ad w.heap.size 2)=some (.slice ag gl cg):=B.cell X8.o 2 rfl;have k83:w8.cell? (Ad w.heap.size 3)=some (.slice ay 0 cy):=B.cell X8.o 3 rfl;have k84:w8.cell? (Ad w.heap.size 4)=some (.slice ar 0 cr):=B.cell X8.o 4 rfl;have k85:w8.cell? (Ad w.heap.size 5)=some (I en):=B.cell X8.o 5 rfl)
  | (go_at_call 182;refine(Hk.o _).mono ?_;rintro e w9 ⟨rfl,hb⟩;have HB9:=ai (HB8.o.trans (hb.mono HB8.o.size));have X9:=ai (B.below X8.o hb (B.isLt X8.o));clear hb;have k90:w9.cell? (Ad w.heap.size 0)=some (.string nm):=B.cell X9.o 0 rfl;have k91:w9.cell? (Ad w.heap.size 1)=some (.slice an 0 cn):=B.cell X9.o 1 rfl;have k92:w9.cell? (Ad w.heap.size 2)=some (.slice ag gl cg):=B.cell X9.o 2 rfl;have k93:w9.cell? (Ad w.heap.size 3)=some (.slice ay 0 cy):=B.cell X9.o 3 rfl;have k94:w9.cell? (Ad w.heap.size 4)=some (.slice ar 0 cr):=B.cell X9.o 4 rfl;have k95:w9.cell? (Ad w.heap.size 5)=some (I en):=B.cell X9.o 5 rfl)
  | (go_at_call 183;refine(fX.o _ HB9.o).mono ?_;rintro e w10 ⟨rfl,hb⟩;have abn:=ai (HB9.o.trans (hb.mono HB9.o.size));have X10:=ai (B.below X9.o hb (B.isLt X9.o));clear hb))
 go_ret
 exact⟨rfl,abn.o⟩
end W
namespace LW
open Go.RowKit
open W (ai)
structure Oi (l:List LM.Ob) (ao:Option Addr) (w:World):Prop where
 has:LM.Nr w ao l
 few:l.length<=1000
 Wm:∀k,k<l.length->M.jB (LM.dK l k).i=0
 fit:∀k,k<l.length->M.Fit (LM.dK l k).i
 base:∀k,k<l.length->1<=(LM.dK l k).base/\(LM.dK l k).base<=2000
theorem Oi.below {l:List LM.Ob} {ao:Option Addr} {w w':World} (h:Oi l ao w) (hb:Below w.heap.size w w'):Oi l ao w':=⟨h.has.below hb,h.few,h.Wm,h.fit,h.base⟩
def zO (R:Option (List LM.Pt)) (w:World) (e:Ending) (w':World):Prop:=Below w.heap.size w w'/\match R with
 | none=>e=.returned (.tuple #[Nl,.bool false])
 | some ps=>∃v,e=.returned (.tuple #[v,.bool true])/\w'.ownsRow w.heap.size 259 2 v ps.length (ps.flatMap LM.Hb)
theorem AH:(Tryz.prog.info? 50).map (fun i=>(i.zero,i.size,i.bytes))=some (some (.agg #[I 0,.string ⟨#[]⟩,Nl]),3,48):=by kernel_rfl
structure Rs (lo:Nat) (w:World) (v:Value) (hs:List LM.Sh):Prop where
 row:w.ownsRow lo 50 3 v hs.length (hs.flatMap LM.Dr)
 fix:LM.Xz v.ownBlock w hs
theorem Rs.below {lo:Nat} {w w':World} {v:Value} {hs:List LM.Sh} (h:Rs lo w v hs) (hb:Below w.heap.size w w'):Rs lo w' v hs:=⟨sU h.row hb,fun k hk=>(h.fix k hk).below hb⟩
theorem Rs.nil (lo:Nat) (w:World):Rs lo w Nl []:=⟨World.ownsRow_nil _ _ _ _,fun k hk=>by simp at hk⟩
theorem Rs.has {lo:Nat} {w:World} {v:Value} {hs:List LM.Sh} (h:Rs lo w v hs):∃ao cap,v=.slice ao hs.length cap/\LM.jg w ao hs/\hs.length<=cap:=by
 have hr:=h.row
 rcases hr.2 with⟨hv,h0⟩ | ⟨g,cap,cur,hv,hbg,hg,hnc,hcm,hcs,htake⟩
 · exact⟨none,0,by rw[hv,h0],fun hl=>by omega,by omega⟩
 · rw[hv] at hr
   refine⟨some (Ad g 0),cap,hv,fun _=>⟨g,0,rfl,B.isLt hg,fun k hk=>?_⟩,hnc⟩
   rw[Nat.zero_add]
   have hh:∀j,j<3->w.cell? (Ad g (k*3+j))=(LM.Dr (LM.aY hs k))[j]?:=fun j hj=>(hr.cellAt _ (by omega)).trans (flat_get LM.Dr 3 (fun _=>rfl) LM.JV hs k j hk hj)
   exact⟨hh 0 (by omega),hh 1 (by omega),hh 2 (by omega),(h.fix k hk).has⟩
theorem Sa {w:World} {base:Nat} {v:Value} {l:List LM.Fx} (h:w.ownsRow base 52 2 v l.length (l.flatMap LM.zL)) (rb:Option Nat) (DT:∀q,rb=some q->q<base):∃ao cap,v=.slice ao l.length cap/\LM.pd rb w ao l:=by
 rcases h.2 with⟨hv,h0⟩ | ⟨g,cap,cur,hv,hbg,hg,hnc,hcm,hcs,htake⟩
 · exact⟨none,0,by rw[hv,h0],fun hl=>by omega⟩
 · subst hv
   refine⟨some (Ad g 0),cap,rfl,fun hl=>⟨g,0,rfl,B.isLt hg,fun e=>by have:=DT g e.symm;omega,fun k hk=>?_⟩⟩
   rw[Nat.zero_add]
   have hh:∀j,j<2->w.cell? (Ad g (k*2+j))=(LM.zL (LM.lM l k))[j]?:=fun j hj=>(h.cellAt _ (by omega)).trans (flat_get LM.zL 2 (fun _=>rfl) LM.Wj l k j hk hj)
   exact⟨hh 0 (by omega),hh 1 (by omega)⟩
theorem Rs.more {lo:Nat} {w w':World} {v:Value} {hs:List LM.Sh} {x:LM.Sh} {g cap:Nat} (h:LM.Xz v.ownBlock w hs) (hx:LM.pd v.ownBlock w x.ao x.bq) (hown:w'.ownsRow lo 50 3 (.slice (some (Ad g 0)) (hs.length+1) cap) (hs.length+1) (hs.flatMap LM.Dr++LM.Dr x)) (hg:w.grownBy w' v.ownBlock) (hs':w.heap.size<=w'.heap.size) (hat:v.ownBlock=some g∨g=w.heap.size) :
  Rs lo w' (.slice (some (Ad g 0)) (hs.length+1) cap) (hs++[x]):=by
 refine⟨by rw[List.length_append,List.flatMap_append];simpa using hown,fun k hk=>?_⟩
 have e:(Value.slice (some (Ad g 0)) (hs.length+1) cap).ownBlock=some g:=rfl
 rw[e]
 rw[List.length_append] at hk
 by_cases hkl:k<hs.length
 · rw[LM.Ii hs x k hkl]
   exact(h k hkl).grown hg hs' hat
 · obtain rfl:k=hs.length:=by simp at hk;omega
   rw[LM.Ij]
   exact hx.grown hg hs' hat
def Hg (R:Option (List LM.Sp)) (w:World) (e:Ending) (w':World):Prop:=Below w.heap.size w w'/\match R with
 | none=>e=.returned (.tuple #[Nl,.bool false])
 | some E=>∃(hs:List LM.Sh) (ao:Option Addr) (cap:Nat),hs.map LM.plain=E/\e=.returned (.tuple #[.slice ao hs.length cap,.bool true])/\LM.jg w' ao hs/\hs.length<=cap
structure Fr (w:World) (r:Option Nat) (w':World) (r':Option Nat):Prop where
 size:w.heap.size<=w'.heap.size
 block:∀b,b<w.heap.size->some b≠r->w'.heap[b]?=w.heap[b]?
 row:r'=r∨∃g,r'=some g/\w.heap.size<=g
theorem Fr.refl (w:World) (r:Option Nat):Fr w r w r:=⟨Nat.le_refl _,fun _ _ _=>rfl,.inl rfl⟩
theorem Fr.trans {w w1 w2:World} {r r1 r2:Option Nat} (h:Fr w r w1 r1) (g:Fr w1 r1 w2 r2):Fr w r w2 r2:=by
 have hs:=h.size
 refine⟨Nat.le_trans h.size g.size,fun b hb hr=>?_,?_⟩
 · rw[g.block b (by omega) (fun e=>?_),h.block b hb hr]
   rcases h.row with e1 | ⟨x,e1,e2⟩
   · exact hr (by rw[e,e1])
   · rw[e1] at e
     injection e with e
     omega
 · rcases g.row with e | ⟨x,e1,e2⟩
   · rw[e]
     exact h.row
   · exact .inr ⟨x,e1,by omega⟩
theorem Fr.aW {w w':World} (h:Below w.heap.size w w') (r:Option Nat):Fr w r w' r:=⟨h.size,fun b hb _=>h.block b hb,.inl rfl⟩
theorem Fr.OM {w w':World} {r:Option Nat} {g:Nat} (h:w.grownBy w' r) (hs:w.heap.size<=w'.heap.size) (hat:r=some g∨g=w.heap.size):Fr w r w' (some g) :=
 ⟨hs,fun b hb hr=>h.block b hb hr,by
  rcases hat with e | e
  · exact .inl e.symm
  · exact .inr ⟨g,rfl,by omega⟩⟩
theorem Fr.keep {w w':World} {r r':Option Nat} {b:Nat} {o:Obj} (h:Fr w r w' r') (hb:w.heap[b]?=some o) (hr:some b≠r):w'.heap[b]?=some o:=(h.block b (B.isLt hb) hr).trans hb
def Np (rb:Option Nat) (w:World) (ao:Option Addr) (l:List LM.Pt):Prop:=0<l.length->∃b off,ao=some (Ad b off)/\b<w.heap.size/\some b≠rb/\LM.Nj w b off l
theorem Np.fr {rb rb':Option Nat} {w w':World} {ao:Option Addr} {l:List LM.Pt} (h:Np rb w ao l) (hf:Fr w rb w' rb'):LM.Nq w' ao l:=fun hl=>by
 obtain⟨b,off,h1,h2,h3,h4⟩:=h hl
 exact⟨b,off,h1,Nat.lt_of_lt_of_le h2 hf.size,fun i hi=>by
  obtain⟨c0,c1⟩:=h4 i hi
  exact⟨(World.cell?_of_block (hf.block b h2 h3)).trans c0,(World.cell?_of_block (hf.block b h2 h3)).trans c1⟩⟩
theorem Oz {w:World} {base:Nat} {v:Value} {l:List LM.Pt} (h:w.ownsRow base 259 2 v l.length (l.flatMap LM.Hb)) (rb:Option Nat) (DT:∀q,rb=some q->q<base):∃ao cap,v=.slice ao l.length cap/\Np rb w ao l:=by
 rcases h.2 with⟨hv,h0⟩ | ⟨g,cap,cur,hv,hbg,hg,hnc,hcm,hcs,htake⟩
 · exact⟨none,0,by rw[hv,h0],fun hl=>by omega⟩
 · subst hv
   refine⟨some (Ad g 0),cap,rfl,fun hl=>⟨g,0,rfl,B.isLt hg,fun e=>by have:=DT g e.symm;omega,fun k hk=>?_⟩⟩
   rw[Nat.zero_add]
   have hh:∀j,j<2->w.cell? (Ad g (k*2+j))=(LM.Hb (LM.yl l k))[j]?:=fun j hj=>(h.cellAt _ (by omega)).trans (flat_get LM.Hb 2 (fun _=>rfl) LM.YR l k j hk hj)
   exact⟨hh 0 (by omega),hh 1 (by omega)⟩
end LW
end Go.Proofs.YtpgifpeohlllfaaGreat
