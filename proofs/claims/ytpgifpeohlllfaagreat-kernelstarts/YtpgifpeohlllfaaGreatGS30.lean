import Derived.Test.YtpgifpeohlllfaaGreatGS00
import Derived.Test.YtpgifpeohlllfaaGreatGS29
import Derived.Test.YtpgifpeohlllfaaGreatGS28
set_option maxHeartbeats 20000000
set_option linter.unusedVariables false
set_option maxRecDepth 100000
set_option linter.unusedSimpArgs false
namespace Go.Proofs.YtpgifpeohlllfaaGreat
namespace AW
open Go.RowKit
def I8 (n a b:Int):Bool:=decide (a<=n/\n<=b)
theorem tF (n a b:Int):I8 n a b=true↔a<=n/\n<=b:=⟨fun h=>of_decide_eq_true h,fun h=>decide_eq_true h⟩
theorem qx (n a b:Int) (w:World):Calls Tryz.prog 44 #[I n,I a,I b] w fun e w'=>e=.returned (.bool (I8 n a b))/\w=w':=eG n a b w
theorem yZ (a:AM.Ar):(AM.dQ a.page a.aH&&AM.iO a.bO)=true↔I8 a.page 1 255=true/\I8 a.aH 1 255=true/\a.page+a.aH-1<=255/\I8 a.bO 0 3=true:=by
 rw[Bool.and_eq_true,AM.jr,D5,tF,tF,tF]
 omega
theorem Hw (l:List AM.Ar) (hn:¬255<l.length) (h:AM.fC l l.length=false):AM.aR l=1:=by
 unfold AM.aR
 rw[if_neg hn,if_neg]
 intro hg
 have:=(AM.uF l l.length hg).1
 rw[this] at h;cases h
theorem mE (l:List AM.Ar) (hn:¬255<l.length) (h:AM.cB l l.length=false):AM.aR l=1:=by
 unfold AM.aR
 rw[if_neg hn,if_neg]
 intro hg
 have:=(AM.uF l l.length hg).2
 rw[this] at h;cases h
theorem jy (l:List AM.Ar) (hn:¬255<l.length) (h:AM.fC l l.length=true):AM.aR l=0↔AM.eJ (AM.cK l)=l:=by
 constructor
 · exact AM.Ac l
 · intro e
   have:=AM.oM _ (AM.Bk l h)
   rw[e] at this
   exact this
theorem Pd (l:List AM.Ar) (hn:¬255<l.length) (h:AM.aR l≠0):AM.aR l=1:=by
 unfold AM.aR at h ⊢
 rw[if_neg hn] at h ⊢
 split
 · rename_i hg
   rw[if_pos hg] at h
   exact absurd rfl h
 · rfl
theorem LI (ao:Option Addr) (cap:Nat) (w:World) :
  Calls Tryz.prog 126 #[.slice ao 0 cap] w fun e w'=>∃C,e=.returned (.tuple #[.agg C,.bool (AM.cB [] 0)])/\JC [] C/\Below w.heap.size w w':=by
 obtain⟨Z,hZ⟩:=ex (AM.fZ (fun _=>0))
 have hz:=Um
 rw[<- hZ] at hz
 have HZ:Hid (Z=AM.fZ (fun _=>0)):=hZ
 have Dk:Z.size=256:=by rw[hZ];exact AM.nj _
 have hZo:Z.all (·.oneCell')=true:=by rw[hZ];exact AM.sk _
 have HZO:Hid (Z.all (·.oneCell')=true):=hZo
 clear hZ hZo
 have HR:Hid (((w.alloc (.cells Z 177)).alloc (.cells Z 177)).heap[w.heap.size]?=some (.cells Z 177 (0,0))):=B.alloc (B.new w Z 177) _
 have HA:Hid (((w.alloc (.cells Z 177)).alloc (.cells Z 177)).heap[w.heap.size+1]?=some (.cells Z 177 (0,0))):=by
  have:=B.new (w.alloc (.cells Z 177)) Z 177
  show _=_
  simpa using this
 have HB:Hid (Below w.heap.size w ((w.alloc (.cells Z 177)).alloc (.cells Z 177))):=((Below.refl _ _).alloc (Nat.le_refl _) _).alloc (by simp) _
 go_enter Tryz.func126,Tryz.ntmps126
 go_wp2
 refine wp_loop_rounds 1 ?_
 rw[rounds_succ]
 go_wp2_with (first | (refine wpList_load_row rfl 177 _ rfl (w.heap.size+1) rfl 177 Z (0,0) _ HA.o Tryz.underlying177 rfl (by rw[Dk];exact kq) ?_) | (refine wpList_store_row rfl 177 _ _ rfl w.heap.size Z rfl rfl 177 Z HR.o (by rw[Dk];exact kq) rfl HZO.o ?_))
 have hfin:=setRow_heap _ _ _ Z 177 (0,0) HR.o
 have Yu:=run_loadVar_row (P:=Tryz.prog) _ _ 177 177 Z (0,0) _ hfin Tryz.underlying177 rfl (by rw[Dk];exact kq)
 refine bodyPost_ret (v:=.tuple #[.agg Z,.bool true]) ?_ rfl ⟨Z,rfl,⟨Dk,HZO.o,fun _=>HZ.o⟩,below_setRow HB.o (Nat.le_refl _) _⟩
 rw[results_cell_tmp rfl]
 simp[asAddr,Result.andThen,Yu]
theorem E6 (l:List AM.Ar) (v:Value) (w:World) (h:Has w v l) (he:AM.fC l l.length=true) (hn:l.length<=255) :
  Calls Tryz.prog 126 #[v] w fun e w'=>∃C,e=.returned (.tuple #[.agg C,.bool (AM.cB l l.length)])/\JC l C/\Below w.heap.size w w':=by
 obtain⟨ao,cap,rfl,h⟩:=h
 rcases h with rfl | ⟨b,off,rfl,hl⟩
 · exact LI ao cap w
 · exact CY l b off cap w hl he hn
theorem zT (l:List AM.Ar) (v:Value) (w:World) (h:Has w v l) (he:AM.fC l l.length=true) (hn:¬255<l.length) (ao:Option Addr) (cap:Nat) (hv:v=.slice ao l.length cap)
  (TD:∀i,i<l.length->∃b off,ao=some (Ad b off)/\AM.Bx w b off l) :
  Calls Tryz.prog 90 #[.slice ao l.length cap] w fun e w'=>e=.returned (I (AM.aR l))/\Below w.heap.size w w':=by
 have HH:Hid (Has w (.slice ao l.length cap) l):=by show Has _ _ _;rw[<- hv];exact h
 have HE:Hid (AM.fC l l.length=true):=he
 have HL:Hid (∀i,i<l.length->∃b off,ao=some (Ad b off)/\AM.Bx w b off l):=TD
 have ZI:Hid (¬255<l.length):=hn
 have hn':¬(255:Int)<(l.length:Int):=by omega
 obtain⟨Z,hZ⟩:=ex (AM.fZ (fun _=>0))
 have hz:=Um
 rw[<- hZ] at hz
 have Dk:Z.size=256:=by rw[hZ];exact AM.nj _
 clear h he hv TD hZ
 go_enter Tryz.func90,Tryz.ntmps90
 go_wp2
 go_loopw [3] (fun i wr=>∃k:Nat,k<=l.length/\i=I k/\Below w.heap.size w wr) (fun i _=>l.length-(intOf i).toNat)
 case atStart=>exact⟨0,by omega,rfl,Below.refl _ _⟩
 case round =>
  obtain⟨k,hk,rfl,hb⟩:=hrel
  have HB:Hid (Below w.heap.size w wr):=hb
  by_cases hlt:k<l.length
  · obtain⟨b,off,hao,hl⟩:=HL.o k hlt
    obtain⟨c0,c1,c2,c3⟩:=hl.below hb k hlt
    have hw:=AM.xt l _ HE.o k hlt
    have hw2:=(yZ (AM.at_ l k)).1 (by rw[hw.1,hw.2];rfl)
    have hbk:=(AM.jr _ _).1 hw.1
    obtain⟨a,ha⟩:=ex (AM.at_ l k)
    rw[<- ha] at c0 c1 c2 c3 hw2 hbk
    clear ha hb hl hw
    subst hao
    obtain⟨d1,d2,d3,d4⟩:=hw2
    have d3':¬255<a.page+a.aH-1:=by omega
    have Ba:(k:Int)<(l.length:Int):=by omega
    go_wp2_with (first | (go_at_call 44;refine(qx _ _ _ _).mono ?_;rintro e w' ⟨rfl,rfl⟩))
    go_roundw
    case rel=>exact⟨k+1,by omega,by go_num,HB.o.alloc HB.o.size _⟩
    case measure=>simp[intOf];omega
  · obtain rfl:k=l.length:=by omega
    clear hb
    go_wp2_with fail
    refine(E6 l (.slice ao l.length cap) _ (HH.o.below HB.o) HE.o (by omega)).mono ?_
    rintro e w2 ⟨C,rfl,hC,hb2⟩
    have xw:Hid (JC l C):=hC
    have OQ:C.size=256:=hC.1
    have hCo:C.all (·.oneCell')=true:=hC.2.1
    have Uc:Hid (C.all (·.oneCell')=true):=hCo
    have ck:Hid (Below w.heap.size w w2):=HB.o.trans (hb2.mono HB.o.size)
    clear hC hCo hb2
    have q9:Hid ((w2.alloc (.cells Z 177)).heap[w2.heap.size]?=some (.cells Z 177 (0,0))):=B.new w2 Z 177
    have HA0:Hid (((w2.alloc (.cells Z 177)).setRow w2.heap.size C).heap[w2.heap.size]?=some (.cells C 177 (0,0))):=setRow_heap _ _ _ _ 177 (0,0) q9.out
    have cZ:Hid (Below w.heap.size w ((w2.alloc (.cells Z 177)).setRow w2.heap.size C)):=below_setRow (ck.o.alloc ck.o.size _) ck.o.size _
    by_cases hr:AM.cB l l.length=true
    · have hCb:Hid (C=bd (AM.cK l)):=xw.o.2.2 hr
      go_wp2_with (first | (refine wpList_store_row rfl 177 _ _ rfl w2.heap.size C rfl rfl 177 Z q9.out (by rw[OQ];exact kq) (by rw[Dk,OQ]) Uc.o ?_) | (refine wpList_load_row rfl 177 _ rfl w2.heap.size rfl 177 C (0,0) _ HA0.o Tryz.underlying177 rfl (by rw[OQ];exact kq) ?_))
      refine wp_load_row 177 _ rfl w2.heap.size rfl 177 C (0,0) _ HA0.o Tryz.underlying177 rfl (by rw[OQ];exact kq) ?_
      go_wp2_with fail
      have hcall:=p9 (AM.cK l) (AM.Bk l HE.o) ((w2.alloc (.cells Z 177)).setRow w2.heap.size C)
      rw[show AM.fZ (fun n=>AM.enc (AM.cK l n))=C from hCb.out.symm] at hcall
      refine hcall.mono ?_
      clear hcall
      rintro e w3 ⟨v3,rfl,h3,hb4⟩
      have iF:Hid (Below w.heap.size w w3):=cZ.o.trans (hb4.mono cZ.o.size)
      have ZV:Hid (Has w3 v3 (AM.eJ (AM.cK l))):=h3
      clear hb4 h3
      go_wp2_with fail
      refine(DL (AM.eJ (AM.cK l)) l v3 (.slice ao l.length cap) _ ZV.o (HH.o.below iF.o) (by have:=AM.kv (AM.cK l) 256;unfold AM.eJ;omega) (by have:=ZI.o;omega)).mono ?_
      rintro e w4 ⟨r,rfl,hr2,vA⟩
      have tS:Hid (Below w.heap.size w w4):=iF.o.trans (vA.mono iF.o.size)
      have zC:Hid (r=true↔AM.eJ (AM.cK l)=l):=hr2
      clear vA hr2
      cases r
      · have hres:Hid (AM.aR l=1):=Pd l ZI.o (fun e=>by have:=zC.o.2 ((jy l ZI.o HE.o).1 e);cases this)
        go_wp2
        go_ret
        exact⟨dE hres.out.symm,tS.o⟩
      · have hres:Hid (AM.aR l=0):=(jy l ZI.o HE.o).2 (zC.o.1 rfl)
        go_wp2
        go_ret
        exact⟨dE hres.out.symm,tS.o⟩
    · have hr':AM.cB l l.length=false:=by simpa using hr
      have hres:Hid (AM.aR l=1):=mE l ZI.o hr'
      go_wp2_with (refine wpList_store_row rfl 177 _ _ rfl w2.heap.size C rfl rfl 177 Z q9.out (by rw[OQ];exact kq) (by rw[Dk,OQ]) Uc.o ?_)
      go_ret
      exact⟨dE hres.out.symm,cZ.o⟩
theorem Cg (l:List AM.Ar) (b off cap:Nat) (w:World) (hl:AM.Bx w b off l) (hf:∀i,i<l.length->AM.Fits (AM.at_ l i)) (he:AM.fC l l.length=false) (hn:¬255<l.length) :
  Calls Tryz.prog 90 #[.slice (some (Ad b off)) l.length cap] w fun e w'=>e=.returned (I (AM.aR l))/\Below w.heap.size w w':=by
 have hres:Hid (AM.aR l=1):=Hw l hn he
 have HE:Hid (AM.fC l l.length=false):=he
 have hn':¬(255:Int)<(l.length:Int):=by omega
 clear he
 go_enter Tryz.func90,Tryz.ntmps90
 go_wp2
 go_loopw [3] (fun i wr=>∃k:Nat,k<=l.length/\i=I k/\AM.fC l k=true/\Below w.heap.size w wr) (fun i _=>l.length-(intOf i).toNat)
 case atStart=>exact⟨0,by omega,rfl,rfl,Below.refl _ _⟩
 case round =>
  obtain⟨k,hk,rfl,FE,hb⟩:=hrel
  have HB:Hid (Below w.heap.size w wr):=hb
  have HEK:Hid (AM.fC l k=true):=FE
  clear FE
  by_cases hlt:k<l.length
  · obtain⟨c0,c1,c2,c3⟩:=hl.below hb k hlt
    obtain⟨f1,f2,f3⟩:=hf k hlt
    have hw:=yZ (AM.at_ l k)
    obtain⟨a,ha⟩:=ex (AM.at_ l k)
    rw[<- ha] at c0 c1 c2 c3 f1 f2 f3 hw
    have HW:Hid ((AM.dQ a.page a.aH&&AM.iO a.bO)=true↔I8 a.page 1 255=true/\I8 a.aH 1 255=true/\a.page+a.aH-1<=255/\I8 a.bO 0 3=true):=hw
    have HA:Hid (a=AM.at_ l k):=ha
    clear ha hb hw
    have Ba:(k:Int)<(l.length:Int):=by omega
    by_cases d1:I8 a.page 1 255=true
    · have b1:=(tF _ _ _).1 d1
      by_cases d2:I8 a.aH 1 255=true
      · have b2:=(tF _ _ _).1 d2
        by_cases d3:a.page+a.aH-1<=255
        · have d3':¬255<a.page+a.aH-1:=by omega
          by_cases d4:I8 a.bO 0 3=true
          · have hok:Hid (AM.fC l (k+1)=true):=by show _=_;simp only[AM.fC,HEK.o,Bool.true_and];rw[<- HA.o];exact HW.o.2 ⟨d1,d2,d3,d4⟩
            go_wp2_with (first | (go_at_call 44;refine(qx _ _ _ _).mono ?_;rintro e w' ⟨rfl,rfl⟩))
            go_roundw
            case rel=>exact⟨k+1,by omega,by go_num,hok.out,HB.o.alloc HB.o.size _⟩
            case measure=>simp[intOf];omega
          · have d4':I8 a.bO 0 3=false:=by simpa using d4
            clear d4
            go_wp2_with (first | (go_at_call 44;refine(qx _ _ _ _).mono ?_;rintro e w' ⟨rfl,rfl⟩))
            go_ret
            exact⟨dE hres.out.symm,HB.o.alloc HB.o.size _⟩
        · have d3':255<a.page+a.aH-1:=by omega
          go_wp2_with (first | (go_at_call 44;refine(qx _ _ _ _).mono ?_;rintro e w' ⟨rfl,rfl⟩))
          go_ret
          exact⟨dE hres.out.symm,HB.o.alloc HB.o.size _⟩
      · have d2':I8 a.aH 1 255=false:=by simpa using d2
        clear d2
        go_wp2_with (first | (go_at_call 44;refine(qx _ _ _ _).mono ?_;rintro e w' ⟨rfl,rfl⟩))
        go_ret
        exact⟨dE hres.out.symm,HB.o.alloc HB.o.size _⟩
    · have d1':I8 a.page 1 255=false:=by simpa using d1
      clear d1
      go_wp2_with (first | (go_at_call 44;refine(qx _ _ _ _).mono ?_;rintro e w' ⟨rfl,rfl⟩))
      go_ret
      exact⟨dE hres.out.symm,HB.o.alloc HB.o.size _⟩
  · exfalso
    obtain rfl:k=l.length:=by omega
    have:=HEK.o
    rw[HE.o] at this
    cases this
theorem zU (n:Nat) (ao:Option Addr) (cap:Nat) (w:World) (hn:255<n) (hm:n<=140737488351232) :
  Calls Tryz.prog 90 #[.slice ao n cap] w fun e w'=>e=.returned (I 2)/\Below w.heap.size w w':=by
 have hn':(255:Int)<(n:Int):=by omega
 go_enter Tryz.func90,Tryz.ntmps90
 go_wp2
 go_ret
 exact⟨rfl,Below.refl _ _⟩
theorem sW (l:List AM.Ar) (v:Value) (w:World) (h:Has w v l) (hf:ed l) :
  Calls Tryz.prog 90 #[v] w fun e w'=>e=.returned (I (AM.aR l))/\Below w.heap.size w w':=by
 have h':=h
 obtain⟨ao,cap,rfl,hh⟩:=h
 by_cases hn:255<l.length
 · have e:AM.aR l=2:=by simp[AM.aR,hn]
   rw[e]
   exact zU l.length ao cap w hn hf.2
 · by_cases he:AM.fC l l.length=true
   · refine zT l _ w h' he hn ao cap rfl (fun i hi=>?_)
     rcases hh with e | ⟨b,off,hao,hl⟩
     · rw[e] at hi;simp at hi
     · exact⟨b,off,hao,hl⟩
   · have he':AM.fC l l.length=false:=by simpa using he
     rcases hh with e | ⟨b,off,hao,hl⟩
     · subst e;simp[AM.fC] at he'
     · subst hao
       exact Cg l b off cap w hl hf.1 he' hn
end AW
namespace KR
open Go.RowKit GK
open FW (ai aB)
open KW (aZ fu cI aJ eW lI jY aK)
theorem nM {f g:Nat->Bool} (hs:∀k,g (k+1)=(g k&&f k)):∀(n i:Nat),i<n->f i=false->g n=false
 | 0,i,h,_=>absurd h (Nat.not_lt_zero _)
 | n+1,i,h,hf=>by
  rw[hs]
  by_cases c:i=n
  · rw[<- c,hf,Bool.and_false]
  · rw[nM hs n i (by omega) hf,Bool.false_and]
theorem abH (n:Nat):((n:Int)==0)=decide (n=0):=by
 rw[Bool.eq_iff_iff,beq_iff_eq,decide_eq_true_iff]
 omega
theorem RJ {nf ns:Nat} {ar:List AM.Ar} {es:List KM.En} {i:Nat} (hi:i<es.length) (h:KM.wP nf ns ar es i=false):KM.m8 nf ns ar es es.length=false:=nM (f:=KM.wP nf ns ar es) (g:=KM.m8 nf ns ar es) (fun _=>rfl) _ i hi h
theorem JW {hs:List LM.Sh} {ar:List AM.Ar} {i:Nat} (hi:i<255) (h:KM.oq hs ar ((i:Int)+1)=false):KM.jk hs ar 255=false:=nM (f:=fun n:Nat=>KM.oq hs ar ((n:Int)+1)) (g:=KM.jk hs ar) (fun _=>rfl) 255 i hi h
theorem zP (k:KM.Kn) (a:fu) (s:KM.Sp) (aa ap:Option Addr) (ca cp:Nat) (w:World) (hA:AW.Has w (.slice aa s.aD.length ca) s.aD) (hfA:AW.ed s.aD) (hE:aZ aK 3 KM.jI w ap s.aA) (hEn:M.bf s.aA.length) (hS:LM.gT w a.aS k.ak) (hfS:LM.lJ k.ak) (l6:k.frames.length<=64) (hns:k.slots.length<=512) :
  Calls Tryz.prog 46 #[.agg (aJ a k),.agg #[.bool s.live,.slice aa s.aD.length ca,.slice ap s.aA.length cp]] w fun e w'=>e=.returned (.bool (KM.iJ k.ak k.frames.length k.slots.length s))/\Below w.heap.size w w':=by
 obtain⟨WA,dK⟩:=ex ((w.alloc (.cells (aJ a k) 27)).alloc (.cells #[.bool s.live,.slice aa s.aD.length ca,.slice ap s.aA.length cp] 43))
 have hb0:Below w.heap.size w WA:=by rw[dK];exact((Below.refl _ _).alloc (Nat.le_refl _) _).alloc (by simp) _
 have kb:WA.heap[w.heap.size]?=some (.cells (aJ a k) 27 (0,0)):=by rw[dK];exact B.alloc (B.new w _ _) _
 have sb:WA.heap[w.heap.size+1]?=some (.cells #[.bool s.live,.slice aa s.aD.length ca,.slice ap s.aA.length cp] 43 (0,0)):=by
  have:=B.new (w.alloc (.cells (aJ a k) 27)) #[.bool s.live,.slice aa s.aD.length ca,.slice ap s.aA.length cp] 43
  rw[World.size_alloc] at this
  rw[dK];exact this
 have HC:Hid (∀V,Below WA.heap.size WA V->(V.cell? (Ad w.heap.size 0)=some (.slice a.aS k.ak.length a.cS)/\V.cell? (Ad w.heap.size 1)=some (.slice a.aF k.frames.length a.cF)/\V.cell? (Ad w.heap.size 2)=some (.slice a.aL k.slots.length a.cL))/\V.cell? (Ad (w.heap.size+1) 0)=some (.bool s.live)/\V.cell? (Ad (w.heap.size+1) 1)=some (.slice aa s.aD.length ca)/\V.cell? (Ad (w.heap.size+1) 2)=some (.slice ap s.aA.length cp)):=fun V hV=>by
  have h1:=B.below kb hV (B.isLt kb)
  have h2:=B.below sb hV (B.isLt sb)
  exact⟨⟨B.cell h1 0 rfl,B.cell h1 1 rfl,B.cell h1 2 rfl⟩,B.cell h2 0 rfl,B.cell h2 1 rfl,B.cell h2 2 rfl⟩
 have iG:Hid (∀V m,Below WA.heap.size WA V->m<s.aA.length->∃eb eo,ap=some (Ad eb eo)/\(V.cell? (Ad eb (eo+m*3))=some (I (KM.aN s.aA m).page)/\V.cell? (Ad eb (eo+m*3+1))=some (I (KM.aN s.aA m).kind)/\V.cell? (Ad eb (eo+m*3+2))=some (I (KM.aN s.aA m).loc))/\∀U,Below V.heap.size V U->0<m->U.cell? ⟨eb,eo+(m-1)*3,none⟩=some (I (KM.aN s.aA (m-1)).page)):=fun V m hV hm=>by
  have hvw:=hb0.trans (hV.mono hb0.size)
  obtain⟨eb,eo,g1,g2,g3⟩:=(hE.below hvw) (by omega)
  have z0:=g3 m hm 0 (by omega)
  rw[Nat.add_zero] at z0
  refine⟨eb,eo,g1,⟨z0,g3 m hm 1 (by omega),g3 m hm 2 (by omega)⟩,fun U hU h0=>?_⟩
  have z1:=g3 (m-1) (by omega) 0 (by omega)
  rw[Nat.add_zero] at z1
  exact(hU.cell (p:=⟨eb,eo+(m-1)*3,none⟩) g2).trans z1
 have Qp:Hid (Calls Tryz.prog 90 #[.slice aa s.aD.length ca] WA fun e w'=>e=.returned (I (AM.aR s.aD))/\Below WA.heap.size WA w'):=AW.sW s.aD _ WA (hA.below hb0) hfA
 have Uh:AM.aR s.aD=0->Hid (∀V p,Below WA.heap.size WA V->Calls Tryz.prog 31 #[.slice aa s.aD.length ca,I p] V fun e w'=>e=.returned (.tuple #[.agg #[I (AM.aT s.aD p).1.page,I (AM.aT s.aD p).1.aH,I (AM.aT s.aD p).1.bO,.bool (AM.aT s.aD p).1.zero],.bool (AM.aT s.aD p).2])/\Below V.heap.size V w'):=fun hc V p hV=>AW.sA _ _ p V (hA.below (hb0.trans (hV.mono hb0.size))) hc
 have Ih:Hid (∀V p,Below WA.heap.size WA V->Calls Tryz.prog 91 #[.slice a.aS k.ak.length a.cS,I p] V fun e w'=>(∃q1 q2 q3 q4 q5,e=.returned (.tuple #[.agg #[I q1,.string q2,.slice q3 q4 q5],.bool (KM.bU k.ak p).isSome]))/\Below V.heap.size V w'):=fun V p hV=>(uX k.ak a.aS a.cS p V (hS.below (hb0.trans (hV.mono hb0.size))) hfS.1).mono fun e w' ⟨h1,h2⟩=>⟨⟨_,_,_,_,_,h1⟩,h2⟩
 have zB:=ai AW.eG
 have gp:=ai dK
 have bW:=ai hb0
 have hel:s.aA.length<=140737488351232:=hEn
 have hal:s.aD.length<=140737488351232:=hfA.2
 obtain⟨nf,Ey⟩:=ex k.frames.length
 obtain⟨ns,Yn⟩:=ex k.slots.length
 unfold aJ at gp ⊢
 rw[<- Ey] at HC gp l6 ⊢
 rw[<- Yn] at HC gp hns ⊢
 obtain⟨lv,ar,es⟩:=s
 simp only at HC iG Qp Uh Ih gp hel hal ⊢
 clear hA hfA hE hEn hS hfS hb0 kb sb dK Ey Yn
 obtain⟨⟨k0,k1,k2⟩,x0,x1,x2⟩:=HC.o WA (Below.refl _ _)
 unfold KM.iJ
 simp only
 cases lv with
 | false =>
  rw[if_neg (by decide)]
  rcases(show ¬ar.length=0∨ar.length=0 by omega) with h1 | h1
  · have b1:((ar.length:Int)==0)=false:=by rw[beq_eq_false_iff_ne];omega
    clear iG Qp Uh Ih HC
    go_enter Tryz.func46,Tryz.ntmps46
    go_upto_region 1 with fail
    rw[<- gp.o]
    go_wp2
    go_ret
    exact⟨by simp[h1],bW.o⟩
  · have H1:=ai h1
    clear iG Qp Uh Ih HC h1
    go_enter Tryz.func46,Tryz.ntmps46
    go_upto_region 1 with fail
    rw[<- gp.o]
    have h1:=H1.o
    go_wp2
    go_ret
    exact⟨congrArg (fun b=>Ending.returned (.bool b)) (by rw[abH,h1];simp),bW.o⟩
 | true =>
  rw[if_pos rfl]
  by_cases hc:AM.aR ar=0
  · have kg:=Uh hc
    rw[hc] at Qp
    rw[decide_eq_true hc,Bool.true_and]
    clear Uh hc
    have iV:Hid (∀i,i<es.length->KM.wP nf ns ar es i=false->KM.m8 nf ns ar es es.length=false):=fun i hi h=>RJ hi h
    have LQ:Hid (∀i,KM.m8 nf ns ar es (i+1)=(KM.m8 nf ns ar es i&&KM.wP nf ns ar es i)):=fun _=>rfl
    obtain⟨ER,hER⟩:=ex (KM.m8 nf ns ar es es.length)
    have HER:=ai hER
    rw[<- hER]
    rw[<- hER] at iV
    clear hER
    have uP:Hid (∀i:Nat,i<255->KM.oq k.ak ar ((i:Int)+1)=false->KM.jk k.ak ar 255=false):=fun i hi h=>JW hi h
    have Ig:Hid (∀i:Nat,KM.jk k.ak ar (i+1)=(KM.jk k.ak ar i&&KM.oq k.ak ar ((i:Int)+1))):=fun _=>rfl
    obtain⟨SR,Vl⟩:=ex (KM.jk k.ak ar 255)
    have wU:=ai Vl
    rw[<- Vl]
    rw[<- Vl] at uP
    clear Vl
    go_enter Tryz.func46,Tryz.ntmps46
    go_upto_region 1 with fail
    rw[<- gp.o]
    go_upto_region 5 with(go_at_call 90;refine Qp.o.mono ?_;rintro e w1 ⟨rfl,hb1⟩;have bI:=ai hb1;clear hb1)
    clear k0 k1 k2 x0 x1 x2 Qp
    go_wp2
    go_loopw [5] (fun iv wq=>∃i:Nat,i<=es.length/\iv=I (i:Int)/\KM.m8 nf ns ar es i=true/\Below WA.heap.size WA wq) (fun iv _=>es.length-(intOf iv).toNat)
    case atStart=>exact⟨0,by omega,rfl,rfl,bI.o⟩
    case round =>
     obtain⟨i,hi,rfl,Ot,eK⟩:=hrel
     have PQ:=ai Ot
     have Db:=ai eK
     obtain⟨⟨k0,k1,k2⟩,x0,x1,x2⟩:=HC.o wr eK
     clear Ot
     by_cases hlt:i<es.length
     · have G9:(i:Int)<(es.length:Int):=by omega
       obtain⟨eb,eo,hap,⟨z0,z1,z2⟩,hpv⟩:=iG.o wr i eK hlt
       have HPV:=ai hpv
       have Ak:=ai (iV.o i hlt)
       have FI:=ai (LQ.o i)
       have mJ:Hid (KM.wP nf ns ar es i=((AM.aT ar (KM.aN es i).page).2&&(i==0 || decide ((KM.aN es (i-1)).page<(KM.aN es i).page))&&(if (KM.aN es i).kind=1 then decide (0<=(KM.aN es i).loc/\(KM.aN es i).loc<=(nf:Int)-1) else if (KM.aN es i).kind=2 then decide (0<=(KM.aN es i).loc/\(KM.aN es i).loc<=(ns:Int)-1) else false))):=rfl
       obtain⟨en,hen⟩:=ex (KM.aN es i)
       rw[<- hen] at z0 z1 z2 mJ
       obtain⟨pg,kx,lx⟩:=en
       simp only at z0 z1 z2 mJ
       have Mo:=ai (fun V hV=>kg.o V pg hV)
       subst hap
       clear hpv hen iV LQ HER
       obtain⟨W1,hW1⟩:=ex (wr.alloc (.cells #[I pg,I kx,I lx] 45))
       have hb1:Below wr.heap.size wr W1:=by rw[hW1];exact(Below.refl _ _).alloc (Nat.le_refl _) _
       have JE:W1.heap[wr.heap.size]?=some (.cells #[I pg,I kx,I lx] 45 (0,0)):=by rw[hW1];exact B.new _ _ _
       have zL:=eK.trans (hb1.mono eK.size)
       have HBL:=ai hb1
       have cJ:=ai zL
       have Jv:=ai JE
       have tY:=ai hW1
       obtain⟨F,hF⟩:=ex (AM.aT ar pg)
       rw[<- hF] at mJ Mo
       obtain⟨⟨g1,g2,g3,g4⟩,gf⟩:=F
       simp only at mJ Mo
       go_upto_region 9 with fail
       rw[<- tY.o]
       clear hW1 hb1 eK k0 k1 k2 x0 x1 x2 z0 z1 z2 hF
       obtain⟨⟨k0,k1,k2⟩,x0,x1,x2⟩:=HC.o W1 zL
       obtain⟨y0,y1,y2⟩:=B.c3 JE
       obtain⟨xb,Df⟩:=ex wr.heap.size
       rw[<- Df] at Jv y0 y1 y2 ⊢
       clear zL JE Df
       go_upto_region 10 with(go_at_call 31;refine(Mo.o _ cJ.o).mono ?_;rintro e w2 ⟨rfl,hb2⟩;have ck:=ai hb2;clear hb2)
       have hb3:Below W1.heap.size W1 (w2.alloc (.cells #[I g1,I g2,I g3,.bool g4] 47)):=ck.o.alloc ck.o.size _
       obtain⟨W3,hW3⟩:=ex (w2.alloc (.cells #[I g1,I g2,I g3,.bool g4] 47))
       rw[<- hW3] at hb3 ⊢
       have hb4:=cJ.o.trans (hb3.mono cJ.o.size)
       have iF:=ai hb4
       obtain⟨y0,y1,y2⟩:=B.c3 (B.below Jv.o hb3 (B.isLt Jv.o))
       obtain⟨⟨k0,k1,k2⟩,x0,x1,x2⟩:=HC.o W3 hb4
       have HPW:=ai (HPV.o W3 (HBL.o.trans (hb3.mono HBL.o.size)))
       clear hW3 hb3 hb4 Mo HPV
       by_cases hgo:gf=true/\(i=0∨(KM.aN es (i-1)).page<pg)
       · obtain⟨rfl,ho⟩:=hgo
         have Aj:Hid (KM.wP nf ns ar es i=if kx=1 then decide (0<=lx/\lx<=(nf:Int)-1) else if kx=2 then decide (0<=lx/\lx<=(ns:Int)-1) else false):=(show KM.wP nf ns ar es i=if kx=1 then decide (0<=lx/\lx<=(nf:Int)-1) else if kx=2 then decide (0<=lx/\lx<=(ns:Int)-1) else false by
          rw[mJ.o]
          rcases ho with h | h
          · simp[h]
          · simp[h])
         clear mJ
         go_cut [68] (fun c wx=>c=.bool false/\Below W3.heap.size W3 wx)
         case first =>
          rcases(show i=0∨(0<i/\(KM.aN es (i-1)).page<pg) by omega) with h0 | ⟨h0,h1⟩
          · subst h0
            go_region
            go_wp2_with fail
            go_meet
            case rel=>exact⟨by simp,(Below.refl _ _).drew⟩
          · have pw:=HPW.o h0
            have hi0:(0:Int)<(i:Int):=by omega
            have him:((i:Int)-1).toNat=i-1:=by omega
            have CI:(i:Int)-1=((i-1:Nat):Int):=by omega
            have acj:(i:Int)-1<(es.length:Int):=by omega
            have aci:(0:Int)<=(i:Int)-1:=by omega
            have h2:¬pg<=(KM.aN es (i-1)).page:=by omega
            go_region
            go_wp2_with fail
            go_meet
            case rel=>exact⟨by simp[h2],(Below.refl _ _).drew⟩
         case rest =>
          obtain⟨rfl,hbc⟩:=hcut
          have vA:=iF.o.trans (hbc.mono iF.o.size)
          have tS:=ai vA
          obtain⟨⟨k0,k1,k2⟩,x0,x1,x2⟩:=HC.o wc vA
          have t:∀{o:Nat} {u:Value},W3.cell? (Ad xb o)=some u->wc.cell? (Ad xb o)=some u:=fun {o u} h=>(hbc.cell (p:=(Ad xb o)) (World.block_lt_of_cell? W3 _ h)).trans h
          have u1:=t y1
          have u2:=t y2
          clear vA hbc t y0 y1 y2 HPW iF
          rcases(show kx=1∨kx=2∨(¬kx=1/\¬kx=2) by omega) with hk | hk | ⟨hk,hk2⟩
          · rw[if_pos hk] at Aj
            subst hk
            obtain⟨bv,TN⟩:=ex (decide (0<=lx/\lx<=(nf:Int)-1))
            have VH:=ai (fun V=>zB.o lx 0 ((nf:Int)-1) V)
            rw[<- TN] at Aj VH
            clear TN
            cases bv with
            | false =>
             have e0:=Ak.o Aj.o
             subst e0
             go_wp2_with (go_at_call 44;refine(VH.o _).mono ?_;rintro e w6 ⟨rfl,rfl⟩)
             go_ret
             exact⟨rfl,bW.o.trans (tS.o.mono bW.o.size)⟩
            | true =>
             have Ir:Hid (KM.m8 nf ns ar es (i+1)=true):=(show KM.m8 nf ns ar es (i+1)=true by rw[FI.o,PQ.o,Aj.o];rfl)
             go_wp2_with (go_at_call 44;refine(VH.o _).mono ?_;rintro e w6 ⟨rfl,rfl⟩)
             go_roundw
             case rel=>exact⟨i+1,by omega,by go_num,Ir.o,tS.o⟩
             case measure=>simp[intOf];omega
          · rw[if_neg (by omega),if_pos hk] at Aj
            subst hk
            obtain⟨bv,TN⟩:=ex (decide (0<=lx/\lx<=(ns:Int)-1))
            have VH:=ai (fun V=>zB.o lx 0 ((ns:Int)-1) V)
            rw[<- TN] at Aj VH
            clear TN
            cases bv with
            | false =>
             have e0:=Ak.o Aj.o
             subst e0
             go_wp2_with (go_at_call 44;refine(VH.o _).mono ?_;rintro e w6 ⟨rfl,rfl⟩)
             go_ret
             exact⟨rfl,bW.o.trans (tS.o.mono bW.o.size)⟩
            | true =>
             have Ir:Hid (KM.m8 nf ns ar es (i+1)=true):=(show KM.m8 nf ns ar es (i+1)=true by rw[FI.o,PQ.o,Aj.o];rfl)
             go_wp2_with (go_at_call 44;refine(VH.o _).mono ?_;rintro e w6 ⟨rfl,rfl⟩)
             go_roundw
             case rel=>exact⟨i+1,by omega,by go_num,Ir.o,tS.o⟩
             case measure=>simp[intOf];omega
          · rw[if_neg hk,if_neg hk2] at Aj
            have b1:(kx==1)=false:=by simpa using hk
            have b2:(kx==2)=false:=by simpa using hk2
            have e0:=Ak.o Aj.o
            subst e0
            go_wp2
            go_ret
            exact⟨rfl,bW.o.trans (tS.o.mono bW.o.size)⟩
       · have Y4:KM.wP nf ns ar es i=false:=by
          rw[mJ.o]
          cases gf with
          | false=>simp
          | true =>
           have h1:¬i=0:=fun e=>hgo ⟨rfl,.inl e⟩
           have h2:¬(KM.aN es (i-1)).page<pg:=fun e=>hgo ⟨rfl,.inr e⟩
           simp[h1,h2]
         have e0:=Ak.o Y4
         subst e0
         clear mJ Y4 Ak FI PQ
         cases gf with
         | false =>
          go_region
          go_wp2
          go_ret
          exact⟨rfl,(bW.o.trans (iF.o.mono bW.o.size)).drew⟩
         | true =>
          have h0:0<i:=by
           by_cases e:i=0
           · exact absurd ⟨rfl,.inl e⟩ hgo
           · omega
          have h2:pg<=(KM.aN es (i-1)).page:=by
           by_cases e:(KM.aN es (i-1)).page<pg
           · exact absurd ⟨rfl,.inr e⟩ hgo
           · omega
          have pw:=HPW.o h0
          have hi0:(0:Int)<(i:Int):=by omega
          have CI:(i:Int)-1=((i-1:Nat):Int):=by omega
          have him:((i:Int)-1).toNat=i-1:=by omega
          have acj:(i:Int)-1<(es.length:Int):=by omega
          have aci:(0:Int)<=(i:Int)-1:=by omega
          clear hgo
          go_region
          go_wp2
          go_ret
          exact⟨rfl,(bW.o.trans (iF.o.mono bW.o.size)).drew⟩
     · obtain rfl:i=es.length:=by omega
       have he1:ER=true:=HER.o.trans PQ.o
       subst he1
       clear HER PQ iV LQ iG zB
       go_wp2
       go_loopw [9] (fun iv wq=>∃n:Nat,n<=255/\iv=I ((n:Int)+1)/\KM.jk k.ak ar n=true/\Below WA.heap.size WA wq) (fun iv _=>256-(intOf iv).toNat)
       case atStart=>exact⟨0,by omega,rfl,rfl,Db.o⟩
       case round =>
        obtain⟨n,hn,rfl,Yd,hb⟩:=hrel
        have HS:=ai Yd
        have Xo:=ai hb
        obtain⟨⟨k0,k1,k2⟩,x0,x1,x2⟩:=HC.o wr hb
        clear Yd hb
        by_cases hlt:n<255
        · have hni:(n:Int)+1<=255:=by omega
          have Mo:=ai (kg.o wr ((n:Int)+1) Xo.o)
          have VN:=ai (fun V hV=>Ih.o V ((n:Int)+1) hV)
          have HX:=ai (uP.o n hlt)
          have HY:=ai (Ig.o n)
          have HD:Hid (KM.oq k.ak ar ((n:Int)+1)=!((AM.aT ar ((n:Int)+1)).2&&(!(AM.aT ar ((n:Int)+1)).1.zero&&!(KM.bU k.ak ((n:Int)+1)).isSome))):=rfl
          obtain⟨F,hF⟩:=ex (AM.aT ar ((n:Int)+1))
          obtain⟨H,hH⟩:=ex ((KM.bU k.ak ((n:Int)+1)).isSome)
          rw[<- hF] at Mo HD
          rw[<- hH] at VN HD
          obtain⟨⟨g1,g2,g3,g4⟩,gf⟩:=F
          simp only at Mo HD
          clear hF hH kg Ih uP Ig wU
          go_upto_region 24 with(go_at_call 31;refine Mo.o.mono ?_;rintro e w2 ⟨rfl,hb2⟩;have ck:=ai hb2;clear hb2)
          have hb3:=(Xo.o.trans (ck.o.mono Xo.o.size)).alloc (Xo.o.trans (ck.o.mono Xo.o.size)).size (.cells #[I g1,I g2,I g3,.bool g4] 47)
          have ab:=B.new w2 #[I g1,I g2,I g3,.bool g4] 47
          obtain⟨W3,hW3⟩:=ex (w2.alloc (.cells #[I g1,I g2,I g3,.bool g4] 47))
          obtain⟨gb,hgb⟩:=ex w2.heap.size
          rw[<- hW3] at hb3 ab ⊢
          rw[<- hgb] at ab ⊢
          have cZ:=ai hb3
          have HGB:=ai ab
          obtain⟨⟨k0,k1,k2⟩,x0,x1,x2⟩:=HC.o W3 hb3
          clear hW3 hgb hb3 ab
          go_upto_region 25 with(go_at_call 91;refine(VN.o _ cZ.o).mono ?_;rintro e w4 ⟨⟨q1,q2,q3,q4,q5,rfl⟩,hb4⟩;have iF:=ai (cZ.o.trans (hb4.mono cZ.o.size));have HG4:=ai (B.below HGB.o hb4 (B.isLt HGB.o));clear hb4)
          have tS:=ai (iF.o.alloc iF.o.size (.cells #[I q1,.string q2,.slice q3 q4 q5] 50))
          have g5:=B.cell (v:=.bool g4) (B.alloc HG4.o (.cells #[I q1,.string q2,.slice q3 q4 q5] 50)) 3 rfl
          obtain⟨W5,TR⟩:=ex (w4.alloc (.cells #[I q1,.string q2,.slice q3 q4 q5] 50))
          rw[<- TR] at tS g5 ⊢
          clear TR k0 k1 k2 x0 x1 x2
          by_cases hbad:gf=true/\g4=false/\H=false
          · obtain⟨rfl,rfl,rfl⟩:=hbad
            have e0:SR=false:=HX.o (by rw[HD.o];rfl)
            subst e0
            go_wp2
            go_ret
            exact⟨rfl,bW.o.trans (tS.o.mono bW.o.size)⟩
          · have Ir:Hid (KM.jk k.ak ar (n+1)=true):=(show KM.jk k.ak ar (n+1)=true by
             rw[HY.o,HS.o,HD.o]
             revert hbad
             cases gf <;> cases g4 <;> cases H <;> simp)
            cases gf with
            | false =>
             go_wp2
             go_roundw
             case rel=>exact⟨n+1,by omega,by go_num,Ir.o,tS.o⟩
             case measure=>simp[intOf];omega
            | true =>
             cases g4 with
             | true =>
              go_wp2
              go_roundw
              case rel=>exact⟨n+1,by omega,by go_num,Ir.o,tS.o⟩
              case measure=>simp[intOf];omega
             | false =>
              cases H with
              | true =>
               go_wp2
               go_roundw
               case rel=>exact⟨n+1,by omega,by go_num,Ir.o,tS.o⟩
               case measure=>simp[intOf];omega
              | false=>exact absurd ⟨rfl,rfl,rfl⟩ hbad
        · obtain rfl:n=255:=by omega
          have e1:SR=true:=wU.o.trans HS.o
          subst e1
          go_wp2
          go_ret
          exact⟨rfl,bW.o.trans (Xo.o.mono bW.o.size)⟩
  · have cb:(AM.aR ar != 0)=true:=by simpa using hc
    rw[decide_eq_false hc,Bool.false_and]
    clear Uh iG Ih
    go_enter Tryz.func46,Tryz.ntmps46
    go_upto_region 1 with fail
    rw[<- gp.o]
    go_wp2_with (go_at_call 90;refine Qp.o.mono ?_;rintro e w1 ⟨rfl,hb1⟩;have bI:=ai hb1;clear hb1)
    go_ret
    exact⟨rfl,bW.o.trans (bI.o.mono bW.o.size)⟩
end KR
end Go.Proofs.YtpgifpeohlllfaaGreat
