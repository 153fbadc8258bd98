import Derived.Test.YtpgifpeohlllfaaGreatGP00
import Derived.Test.YtpgifpeohlllfaaGreatGP14
import Derived.Test.YtpgifpeohlllfaaGreatGP13
set_option maxHeartbeats 20000000
set_option linter.unusedVariables false
set_option maxRecDepth 100000
set_option linter.unusedSimpArgs false
namespace Go.Proofs.YtpgifpeohlllfaaGreat
namespace AW
open Go.RowKit
def GN (n a b:Int):Bool:=decide (a<=n/\n<=b)
theorem rT (n a b:Int):GN n a b=true↔a<=n/\n<=b:=⟨fun h=>of_decide_eq_true h,fun h=>decide_eq_true h⟩
theorem pG (n a b:Int) (w:World):Calls Tryz.prog 44 #[I n,I a,I b] w fun e w'=>e=.returned (.bool (GN n a b))/\w=w':=dz n a b w
theorem xB (a:AM.Ar):(AM.dE a.page a.aB&&AM.iq a.bJ)=true↔GN a.page 1 255=true/\GN a.aB 1 255=true/\a.page+a.aB-1<=255/\GN a.bJ 0 3=true:=by
 rw[Bool.and_eq_true,AM.iT,Cw,rT,rT,rT]
 omega
theorem Fv (l:List AM.Ar) (hn:¬255<l.length) (h:AM.eN l l.length=false):AM.aO l=1:=by
 unfold AM.aO
 rw[if_neg hn,if_neg]
 intro hg
 have:=(AM.tB l l.length hg).1
 rw[this] at h;cases h
theorem qO (l:List AM.Ar) (hn:¬255<l.length) (h:AM.b7 l l.length=false):AM.aO l=1:=by
 unfold AM.aO
 rw[if_neg hn,if_neg]
 intro hg
 have:=(AM.tB l l.length hg).2
 rw[this] at h;cases h
theorem jO (l:List AM.Ar) (hn:¬255<l.length) (h:AM.eN l l.length=true):AM.aO l=0↔AM.dV (AM.cm l)=l:=by
 constructor
 · exact AM.yx l
 · intro e
   have:=AM.nU _ (AM.zE l h)
   rw[e] at this
   exact this
theorem MV (l:List AM.Ar) (hn:¬255<l.length) (h:AM.aO l≠0):AM.aO l=1:=by
 unfold AM.aO at h ⊢
 rw[if_neg hn] at h ⊢
 split
 · rename_i hg
   rw[if_pos hg] at h
   exact absurd rfl h
 · rfl
theorem JF (ao:Option Addr) (cap:Nat) (w:World) :
  Calls Tryz.prog 126 #[.slice ao 0 cap] w fun e w'=>∃C,e=.returned (.tuple #[.agg C,.bool (AM.b7 [] 0)])/\Hq [] C/\Below w.heap.size w w':=by
 obtain⟨Z,hZ⟩:=ex (AM.fG (fun _=>0))
 have hz:=RQ
 rw[<- hZ] at hz
 have HZ:Hid (Z=AM.fG (fun _=>0)):=hZ
 have Bw:Z.size=256:=by rw[hZ];exact AM.mH _
 have hZo:Z.all (·.oneCell')=true:=by rw[hZ];exact AM.qT _
 have HZO:Hid (Z.all (·.oneCell')=true):=hZo
 clear hZ hZo
 have HR:Hid (((w.alloc (.cells Z 177)).alloc (.cells Z 177)).heap[w.heap.size]?=some (.cells Z 177 (0,0))):=B.alloc (B.new w Z 177) _
 have HA:Hid (((w.alloc (.cells Z 177)).alloc (.cells Z 177)).heap[w.heap.size+1]?=some (.cells Z 177 (0,0))):=by
  have:=B.new (w.alloc (.cells Z 177)) Z 177
  show _=_
  simpa using this
 have HB:Hid (Below w.heap.size w ((w.alloc (.cells Z 177)).alloc (.cells Z 177))):=((Below.refl _ _).alloc (Nat.le_refl _) _).alloc (by simp) _
 go_enter Tryz.func126,Tryz.ntmps126
 go_wp2
 refine wp_loop_rounds 1 ?_
 rw[rounds_succ]
 go_wp2_with (first | (refine wpList_load_row rfl 177 _ rfl (w.heap.size+1) rfl 177 Z (0,0) _ HA.o Tryz.underlying177 rfl (by rw[Bw];exact jI) ?_) | (refine wpList_store_row rfl 177 _ _ rfl w.heap.size Z rfl rfl 177 Z HR.o (by rw[Bw];exact jI) rfl HZO.o ?_))
 have hfin:=setRow_heap _ _ _ Z 177 (0,0) HR.o
 have Vt:=run_loadVar_row (P:=Tryz.prog) _ _ 177 177 Z (0,0) _ hfin Tryz.underlying177 rfl (by rw[Bw];exact jI)
 refine bodyPost_ret (v:=.tuple #[.agg Z,.bool true]) ?_ rfl ⟨Z,rfl,⟨Bw,HZO.o,fun _=>HZ.o⟩,below_setRow HB.o (Nat.le_refl _) _⟩
 rw[results_cell_tmp rfl]
 simp[asAddr,Result.andThen,Vt]
theorem Dt (l:List AM.Ar) (v:Value) (w:World) (h:Has w v l) (he:AM.eN l l.length=true) (hn:l.length<=255) :
  Calls Tryz.prog 126 #[v] w fun e w'=>∃C,e=.returned (.tuple #[.agg C,.bool (AM.b7 l l.length)])/\Hq l C/\Below w.heap.size w w':=by
 obtain⟨ao,cap,rfl,h⟩:=h
 rcases h with rfl | ⟨b,off,rfl,hl⟩
 · exact JF ao cap w
 · exact Bd l b off cap w hl he hn
theorem yi (l:List AM.Ar) (v:Value) (w:World) (h:Has w v l) (he:AM.eN l l.length=true) (hn:¬255<l.length) (ao:Option Addr) (cap:Nat) (hv:v=.slice ao l.length cap)
  (Q0:∀i,i<l.length->∃b off,ao=some (Ad b off)/\AM.zP w b off l) :
  Calls Tryz.prog 90 #[.slice ao l.length cap] w fun e w'=>e=.returned (I (AM.aO l))/\Below w.heap.size w w':=by
 have HH:Hid (Has w (.slice ao l.length cap) l):=by show Has _ _ _;rw[<- hv];exact h
 have HE:Hid (AM.eN l l.length=true):=he
 have HL:Hid (∀i,i<l.length->∃b off,ao=some (Ad b off)/\AM.zP w b off l):=Q0
 have WS:Hid (¬255<l.length):=hn
 have hn':¬(255:Int)<(l.length:Int):=by omega
 obtain⟨Z,hZ⟩:=ex (AM.fG (fun _=>0))
 have hz:=RQ
 rw[<- hZ] at hz
 have Bw:Z.size=256:=by rw[hZ];exact AM.mH _
 clear h he hv Q0 hZ
 go_enter Tryz.func90,Tryz.ntmps90
 go_wp2
 go_loopw [3] (fun i wr=>∃k:Nat,k<=l.length/\i=I k/\Below w.heap.size w wr) (fun i _=>l.length-(intOf i).toNat)
 case atStart=>exact⟨0,by omega,rfl,Below.refl _ _⟩
 case round =>
  obtain⟨k,hk,rfl,hb⟩:=hrel
  have HB:Hid (Below w.heap.size w wr):=hb
  by_cases hlt:k<l.length
  · obtain⟨b,off,hao,hl⟩:=HL.o k hlt
    obtain⟨c0,c1,c2,c3⟩:=hl.below hb k hlt
    have hw:=AM.vE l _ HE.o k hlt
    have hw2:=(xB (AM.at_ l k)).1 (by rw[hw.1,hw.2];rfl)
    have hbk:=(AM.iT _ _).1 hw.1
    obtain⟨a,ha⟩:=ex (AM.at_ l k)
    rw[<- ha] at c0 c1 c2 c3 hw2 hbk
    clear ha hb hl hw
    subst hao
    obtain⟨d1,d2,d3,d4⟩:=hw2
    have Yb:¬255<a.page+a.aB-1:=by omega
    have zm:(k:Int)<(l.length:Int):=by omega
    go_wp2_with (first | (go_at_call 44;refine(pG _ _ _ _).mono ?_;rintro e w' ⟨rfl,rfl⟩))
    go_roundw
    case rel=>exact⟨k+1,by omega,by go_num,HB.o.alloc HB.o.size _⟩
    case measure=>simp[intOf];omega
  · obtain rfl:k=l.length:=by omega
    clear hb
    go_wp2_with fail
    refine(Dt l (.slice ao l.length cap) _ (HH.o.below HB.o) HE.o (by omega)).mono ?_
    rintro e w2 ⟨C,rfl,hC,hb2⟩
    have x7:Hid (Hq l C):=hC
    have MC:C.size=256:=hC.1
    have hCo:C.all (·.oneCell')=true:=hC.2.1
    have Ry:Hid (C.all (·.oneCell')=true):=hCo
    have bY:Hid (Below w.heap.size w w2):=HB.o.trans (hb2.mono HB.o.size)
    clear hC hCo hb2
    have qK:Hid ((w2.alloc (.cells Z 177)).heap[w2.heap.size]?=some (.cells Z 177 (0,0))):=B.new w2 Z 177
    have YF:Hid (((w2.alloc (.cells Z 177)).setRow w2.heap.size C).heap[w2.heap.size]?=some (.cells C 177 (0,0))):=setRow_heap _ _ _ _ 177 (0,0) qK.out
    have dC:Hid (Below w.heap.size w ((w2.alloc (.cells Z 177)).setRow w2.heap.size C)):=below_setRow (bY.o.alloc bY.o.size _) bY.o.size _
    by_cases hr:AM.b7 l l.length=true
    · have hCb:Hid (C=bd (AM.cm l)):=x7.o.2.2 hr
      go_wp2_with (first | (refine wpList_store_row rfl 177 _ _ rfl w2.heap.size C rfl rfl 177 Z qK.out (by rw[MC];exact jI) (by rw[Bw,MC]) Ry.o ?_) | (refine wpList_load_row rfl 177 _ rfl w2.heap.size rfl 177 C (0,0) _ YF.o Tryz.underlying177 rfl (by rw[MC];exact jI) ?_))
      refine wp_load_row 177 _ rfl w2.heap.size rfl 177 C (0,0) _ YF.o Tryz.underlying177 rfl (by rw[MC];exact jI) ?_
      go_wp2_with fail
      have hcall:=o8 (AM.cm l) (AM.zE l HE.o) ((w2.alloc (.cells Z 177)).setRow w2.heap.size C)
      rw[show AM.fG (fun n=>AM.enc (AM.cm l n))=C from hCb.out.symm] at hcall
      refine hcall.mono ?_
      clear hcall
      rintro e w3 ⟨v3,rfl,h3,hb4⟩
      have gN:Hid (Below w.heap.size w w3):=dC.o.trans (hb4.mono dC.o.size)
      have HG3:Hid (Has w3 v3 (AM.dV (AM.cm l))):=h3
      clear hb4 h3
      go_wp2_with fail
      refine(K5 (AM.dV (AM.cm l)) l v3 (.slice ao l.length cap) _ HG3.o (HH.o.below gN.o) (by have:=AM.jM (AM.cm l) 256;unfold AM.dV;omega) (by have:=WS.o;omega)).mono ?_
      rintro e w4 ⟨r,rfl,hr2,rW⟩
      have ql:Hid (Below w.heap.size w w4):=gN.o.trans (rW.mono gN.o.size)
      have xU:Hid (r=true↔AM.dV (AM.cm l)=l):=hr2
      clear rW hr2
      cases r
      · have hres:Hid (AM.aO l=1):=MV l WS.o (fun e=>by have:=xU.o.2 ((jO l WS.o HE.o).1 e);cases this)
        go_wp2
        go_ret
        exact⟨ft hres.out.symm,ql.o⟩
      · have hres:Hid (AM.aO l=0):=(jO l WS.o HE.o).2 (xU.o.1 rfl)
        go_wp2
        go_ret
        exact⟨ft hres.out.symm,ql.o⟩
    · have hr':AM.b7 l l.length=false:=by simpa using hr
      have hres:Hid (AM.aO l=1):=qO l WS.o hr'
      go_wp2_with (refine wpList_store_row rfl 177 _ _ rfl w2.heap.size C rfl rfl 177 Z qK.out (by rw[MC];exact jI) (by rw[Bw,MC]) Ry.o ?_)
      go_ret
      exact⟨ft hres.out.symm,dC.o⟩
theorem Af (l:List AM.Ar) (b off cap:Nat) (w:World) (hl:AM.zP w b off l) (hf:∀i,i<l.length->AM.Fits (AM.at_ l i)) (he:AM.eN l l.length=false) (hn:¬255<l.length) :
  Calls Tryz.prog 90 #[.slice (some (Ad b off)) l.length cap] w fun e w'=>e=.returned (I (AM.aO l))/\Below w.heap.size w w':=by
 have hres:Hid (AM.aO l=1):=Fv l hn he
 have HE:Hid (AM.eN l l.length=false):=he
 have hn':¬(255:Int)<(l.length:Int):=by omega
 clear he
 go_enter Tryz.func90,Tryz.ntmps90
 go_wp2
 go_loopw [3] (fun i wr=>∃k:Nat,k<=l.length/\i=I k/\AM.eN l k=true/\Below w.heap.size w wr) (fun i _=>l.length-(intOf i).toNat)
 case atStart=>exact⟨0,by omega,rfl,rfl,Below.refl _ _⟩
 case round =>
  obtain⟨k,hk,rfl,xk,hb⟩:=hrel
  have HB:Hid (Below w.heap.size w wr):=hb
  have HEK:Hid (AM.eN l k=true):=xk
  clear xk
  by_cases hlt:k<l.length
  · obtain⟨c0,c1,c2,c3⟩:=hl.below hb k hlt
    obtain⟨f1,f2,f3⟩:=hf k hlt
    have hw:=xB (AM.at_ l k)
    obtain⟨a,ha⟩:=ex (AM.at_ l k)
    rw[<- ha] at c0 c1 c2 c3 f1 f2 f3 hw
    have HW:Hid ((AM.dE a.page a.aB&&AM.iq a.bJ)=true↔GN a.page 1 255=true/\GN a.aB 1 255=true/\a.page+a.aB-1<=255/\GN a.bJ 0 3=true):=hw
    have HA:Hid (a=AM.at_ l k):=ha
    clear ha hb hw
    have zm:(k:Int)<(l.length:Int):=by omega
    by_cases d1:GN a.page 1 255=true
    · have b1:=(rT _ _ _).1 d1
      by_cases d2:GN a.aB 1 255=true
      · have b2:=(rT _ _ _).1 d2
        by_cases d3:a.page+a.aB-1<=255
        · have Yb:¬255<a.page+a.aB-1:=by omega
          by_cases d4:GN a.bJ 0 3=true
          · have hok:Hid (AM.eN l (k+1)=true):=by show _=_;simp only[AM.eN,HEK.o,Bool.true_and];rw[<- HA.o];exact HW.o.2 ⟨d1,d2,d3,d4⟩
            go_wp2_with (first | (go_at_call 44;refine(pG _ _ _ _).mono ?_;rintro e w' ⟨rfl,rfl⟩))
            go_roundw
            case rel=>exact⟨k+1,by omega,by go_num,hok.out,HB.o.alloc HB.o.size _⟩
            case measure=>simp[intOf];omega
          · have d4':GN a.bJ 0 3=false:=by simpa using d4
            clear d4
            go_wp2_with (first | (go_at_call 44;refine(pG _ _ _ _).mono ?_;rintro e w' ⟨rfl,rfl⟩))
            go_ret
            exact⟨ft hres.out.symm,HB.o.alloc HB.o.size _⟩
        · have Yb:255<a.page+a.aB-1:=by omega
          go_wp2_with (first | (go_at_call 44;refine(pG _ _ _ _).mono ?_;rintro e w' ⟨rfl,rfl⟩))
          go_ret
          exact⟨ft hres.out.symm,HB.o.alloc HB.o.size _⟩
      · have d2':GN a.aB 1 255=false:=by simpa using d2
        clear d2
        go_wp2_with (first | (go_at_call 44;refine(pG _ _ _ _).mono ?_;rintro e w' ⟨rfl,rfl⟩))
        go_ret
        exact⟨ft hres.out.symm,HB.o.alloc HB.o.size _⟩
    · have d1':GN a.page 1 255=false:=by simpa using d1
      clear d1
      go_wp2_with (first | (go_at_call 44;refine(pG _ _ _ _).mono ?_;rintro e w' ⟨rfl,rfl⟩))
      go_ret
      exact⟨ft hres.out.symm,HB.o.alloc HB.o.size _⟩
  · exfalso
    obtain rfl:k=l.length:=by omega
    have:=HEK.o
    rw[HE.o] at this
    cases this
theorem yj (n:Nat) (ao:Option Addr) (cap:Nat) (w:World) (hn:255<n) (hm:n<=140737488351232) :
  Calls Tryz.prog 90 #[.slice ao n cap] w fun e w'=>e=.returned (I 2)/\Below w.heap.size w w':=by
 have hn':(255:Int)<(n:Int):=by omega
 go_enter Tryz.func90,Tryz.ntmps90
 go_wp2
 go_ret
 exact⟨rfl,Below.refl _ _⟩
theorem Ag (l:List AM.Ar) (v:Value) (w:World) (h:Has w v l) (hf:eH l) :
  Calls Tryz.prog 90 #[v] w fun e w'=>e=.returned (I (AM.aO l))/\Below w.heap.size w w':=by
 have h':=h
 obtain⟨ao,cap,rfl,hh⟩:=h
 by_cases hn:255<l.length
 · have e:AM.aO l=2:=by simp[AM.aO,hn]
   rw[e]
   exact yj l.length ao cap w hn hf.2
 · by_cases he:AM.eN l l.length=true
   · refine yi l _ w h' he hn ao cap rfl (fun i hi=>?_)
     rcases hh with e | ⟨b,off,hao,hl⟩
     · rw[e] at hi;simp at hi
     · exact⟨b,off,hao,hl⟩
   · have he':AM.eN l l.length=false:=by simpa using he
     rcases hh with e | ⟨b,off,hao,hl⟩
     · subst e;simp[AM.eN] at he'
     · subst hao
       exact Af l b off cap w hl hf.1 he' hn
end AW
namespace KR
open Go.RowKit GK
open FW (ai aC)
open KW (aU fe cO aH eY lZ ku aI)
theorem mX {f g:Nat->Bool} (hs:∀k,g (k+1)=(g k&&f k)):∀(n i:Nat),i<n->f i=false->g n=false
 | 0,i,h,_=>absurd h (Nat.not_lt_zero _)
 | n+1,i,h,hf=>by
  rw[hs]
  by_cases c:i=n
  · rw[<- c,hf,Bool.and_false]
  · rw[mX hs n i (by omega) hf,Bool.false_and]
theorem Y1 (n:Nat):((n:Int)==0)=decide (n=0):=by
 rw[Bool.eq_iff_iff,beq_iff_eq,decide_eq_true_iff]
 omega
theorem PI {nf ns:Nat} {ar:List AM.Ar} {es:List KM.En} {i:Nat} (hi:i<es.length) (h:KM.ve nf ns ar es i=false):KM.mD nf ns ar es es.length=false:=mX (f:=KM.ve nf ns ar es) (g:=KM.mD nf ns ar es) (fun _=>rfl) _ i hi h
theorem Ie {hs:List LM.Sh} {ar:List AM.Ar} {i:Nat} (hi:i<255) (h:KM.nE hs ar ((i:Int)+1)=false):KM.iN hs ar 255=false:=mX (f:=fun n:Nat=>KM.nE hs ar ((n:Int)+1)) (g:=KM.iN hs ar) (fun _=>rfl) 255 i hi h
theorem yc (k:KM.Kn) (a:fe) (s:KM.Sp) (aa ap:Option Addr) (ca cp:Nat) (w:World) (hA:AW.Has w (.slice aa s.aA.length ca) s.aA) (ZK:AW.eH s.aA) (hE:aU aI 3 KM.jz w ap s.au) (hEn:M.br s.au.length) (hS:LM.jg w a.aS k.ak) (SV:LM.oq k.ak) (lJ:k.frames.length<=64) (hns:k.slots.length<=512) :
  Calls Tryz.prog 46 #[.agg (aH a k),.agg #[.bool s.live,.slice aa s.aA.length ca,.slice ap s.au.length cp]] w fun e w'=>e=.returned (.bool (KM.ic k.ak k.frames.length k.slots.length s))/\Below w.heap.size w w':=by
 obtain⟨WA,dx⟩:=ex ((w.alloc (.cells (aH a k) 27)).alloc (.cells #[.bool s.live,.slice aa s.aA.length ca,.slice ap s.au.length cp] 43))
 have hb0:Below w.heap.size w WA:=by rw[dx];exact((Below.refl _ _).alloc (Nat.le_refl _) _).alloc (by simp) _
 have kb:WA.heap[w.heap.size]?=some (.cells (aH a k) 27 (0,0)):=by rw[dx];exact B.alloc (B.new w _ _) _
 have sb:WA.heap[w.heap.size+1]?=some (.cells #[.bool s.live,.slice aa s.aA.length ca,.slice ap s.au.length cp] 43 (0,0)):=by
  have:=B.new (w.alloc (.cells (aH a k) 27)) #[.bool s.live,.slice aa s.aA.length ca,.slice ap s.au.length cp] 43
  rw[World.size_alloc] at this
  rw[dx];exact this
 have HC:Hid (∀V,Below WA.heap.size WA V->(V.cell? (Ad w.heap.size 0)=some (.slice a.aS k.ak.length a.cS)/\V.cell? (Ad w.heap.size 1)=some (.slice a.aF k.frames.length a.cF)/\V.cell? (Ad w.heap.size 2)=some (.slice a.aL k.slots.length a.cL))/\V.cell? (Ad (w.heap.size+1) 0)=some (.bool s.live)/\V.cell? (Ad (w.heap.size+1) 1)=some (.slice aa s.aA.length ca)/\V.cell? (Ad (w.heap.size+1) 2)=some (.slice ap s.au.length cp)):=fun V hV=>by
  have h1:=B.below kb hV (B.isLt kb)
  have h2:=B.below sb hV (B.isLt sb)
  exact⟨⟨B.cell h1 0 rfl,B.cell h1 1 rfl,B.cell h1 2 rfl⟩,B.cell h2 0 rfl,B.cell h2 1 rfl,B.cell h2 2 rfl⟩
 have fX:Hid (∀V m,Below WA.heap.size WA V->m<s.au.length->∃eb eo,ap=some (Ad eb eo)/\(V.cell? (Ad eb (eo+m*3))=some (I (KM.aJ s.au m).page)/\V.cell? (Ad eb (eo+m*3+1))=some (I (KM.aJ s.au m).kind)/\V.cell? (Ad eb (eo+m*3+2))=some (I (KM.aJ s.au m).loc))/\∀U,Below V.heap.size V U->0<m->U.cell? ⟨eb,eo+(m-1)*3,none⟩=some (I (KM.aJ s.au (m-1)).page)):=fun V m hV hm=>by
  have hvw:=hb0.trans (hV.mono hb0.size)
  obtain⟨eb,eo,g1,g2,g3⟩:=(hE.below hvw) (by omega)
  have z0:=g3 m hm 0 (by omega)
  rw[Nat.add_zero] at z0
  refine⟨eb,eo,g1,⟨z0,g3 m hm 1 (by omega),g3 m hm 2 (by omega)⟩,fun U hU h0=>?_⟩
  have z1:=g3 (m-1) (by omega) 0 (by omega)
  rw[Nat.add_zero] at z1
  exact(hU.cell (p:=⟨eb,eo+(m-1)*3,none⟩) g2).trans z1
 have Oa:Hid (Calls Tryz.prog 90 #[.slice aa s.aA.length ca] WA fun e w'=>e=.returned (I (AM.aO s.aA))/\Below WA.heap.size WA w'):=AW.Ag s.aA _ WA (hA.below hb0) ZK
 have D4:AM.aO s.aA=0->Hid (∀V p,Below WA.heap.size WA V->Calls Tryz.prog 31 #[.slice aa s.aA.length ca,I p] V fun e w'=>e=.returned (.tuple #[.agg #[I (AM.aK s.aA p).1.page,I (AM.aK s.aA p).1.aB,I (AM.aK s.aA p).1.bJ,.bool (AM.aK s.aA p).1.zero],.bool (AM.aK s.aA p).2])/\Below V.heap.size V w'):=fun hc V p hV=>AW.nX _ _ p V (hA.below (hb0.trans (hV.mono hb0.size))) hc
 have FU:Hid (∀V p,Below WA.heap.size WA V->Calls Tryz.prog 91 #[.slice a.aS k.ak.length a.cS,I p] V fun e w'=>(∃q1 q2 q3 q4 q5,e=.returned (.tuple #[.agg #[I q1,.string q2,.slice q3 q4 q5],.bool (KM.bK k.ak p).isSome]))/\Below V.heap.size V w'):=fun V p hV=>(tS k.ak a.aS a.cS p V (hS.below (hb0.trans (hV.mono hb0.size))) SV.1).mono fun e w' ⟨h1,h2⟩=>⟨⟨_,_,_,_,_,h1⟩,h2⟩
 have yD:=ai AW.dz
 have eV:=ai dx
 have bI:=ai hb0
 have hel:s.au.length<=140737488351232:=hEn
 have hal:s.aA.length<=140737488351232:=ZK.2
 obtain⟨nf,CZ⟩:=ex k.frames.length
 obtain⟨ns,Vl⟩:=ex k.slots.length
 unfold aH at eV ⊢
 rw[<- CZ] at HC eV lJ ⊢
 rw[<- Vl] at HC eV hns ⊢
 obtain⟨lv,ar,es⟩:=s
 simp only at HC fX Oa D4 FU eV hel hal ⊢
 clear hA ZK hE hEn hS SV hb0 kb sb dx CZ Vl
 obtain⟨⟨k0,k1,k2⟩,x0,x1,x2⟩:=HC.o WA (Below.refl _ _)
 unfold KM.ic
 simp only
 cases lv with
 | false =>
  rw[if_neg (by decide)]
  rcases(show ¬ar.length=0∨ar.length=0 by omega) with h1 | h1
  · have b1:((ar.length:Int)==0)=false:=by rw[beq_eq_false_iff_ne];omega
    clear fX Oa D4 FU HC
    go_enter Tryz.func46,Tryz.ntmps46
    go_upto_region 1 with fail
    rw[<- eV.o]
    go_wp2
    go_ret
    exact⟨by simp[h1],bI.o⟩
  · have H1:=ai h1
    clear fX Oa D4 FU HC h1
    go_enter Tryz.func46,Tryz.ntmps46
    go_upto_region 1 with fail
    rw[<- eV.o]
    have h1:=H1.o
    go_wp2
    go_ret
    exact⟨congrArg (fun b=>Ending.returned (.bool b)) (by rw[Y1,h1];simp),bI.o⟩
 | true =>
  rw[if_pos rfl]
  by_cases hc:AM.aO ar=0
  · have ma:=D4 hc
    rw[hc] at Oa
    rw[decide_eq_true hc,Bool.true_and]
    clear D4 hc
    have gP:Hid (∀i,i<es.length->KM.ve nf ns ar es i=false->KM.mD nf ns ar es es.length=false):=fun i hi h=>PI hi h
    have N1:Hid (∀i,KM.mD nf ns ar es (i+1)=(KM.mD nf ns ar es i&&KM.ve nf ns ar es i)):=fun _=>rfl
    obtain⟨ER,XZ⟩:=ex (KM.mD nf ns ar es es.length)
    have HER:=ai XZ
    rw[<- XZ]
    rw[<- XZ] at gP
    clear XZ
    have xS:Hid (∀i:Nat,i<255->KM.nE k.ak ar ((i:Int)+1)=false->KM.iN k.ak ar 255=false):=fun i hi h=>Ie hi h
    have J9:Hid (∀i:Nat,KM.iN k.ak ar (i+1)=(KM.iN k.ak ar i&&KM.nE k.ak ar ((i:Int)+1))):=fun _=>rfl
    obtain⟨SR,S9⟩:=ex (KM.iN k.ak ar 255)
    have vo:=ai S9
    rw[<- S9]
    rw[<- S9] at xS
    clear S9
    go_enter Tryz.func46,Tryz.ntmps46
    go_upto_region 1 with fail
    rw[<- eV.o]
    go_upto_region 5 with(go_at_call 90;refine Oa.o.mono ?_;rintro e w1 ⟨rfl,hb1⟩;have aZ:=ai hb1;clear hb1)
    clear k0 k1 k2 x0 x1 x2 Oa
    go_wp2
    go_loopw [5] (fun iv wq=>∃i:Nat,i<=es.length/\iv=I (i:Int)/\KM.mD nf ns ar es i=true/\Below WA.heap.size WA wq) (fun iv _=>es.length-(intOf iv).toNat)
    case atStart=>exact⟨0,by omega,rfl,rfl,aZ.o⟩
    case round =>
     obtain⟨i,hi,rfl,Ml,eW⟩:=hrel
     have NC:=ai Ml
     have Gf:=ai eW
     obtain⟨⟨k0,k1,k2⟩,x0,x1,x2⟩:=HC.o wr eW
     clear Ml
     by_cases hlt:i<es.length
     · have J0:(i:Int)<(es.length:Int):=by omega
       obtain⟨eb,eo,hap,⟨z0,z1,z2⟩,hpv⟩:=fX.o wr i eW hlt
       have HPV:=ai hpv
       have yH:=ai (gP.o i hlt)
       have DX:=ai (N1.o i)
       have l5:Hid (KM.ve nf ns ar es i=((AM.aK ar (KM.aJ es i).page).2&&(i==0 || decide ((KM.aJ es (i-1)).page<(KM.aJ es i).page))&&(if (KM.aJ es i).kind=1 then decide (0<=(KM.aJ es i).loc/\(KM.aJ es i).loc<=(nf:Int)-1) else if (KM.aJ es i).kind=2 then decide (0<=(KM.aJ es i).loc/\(KM.aJ es i).loc<=(ns:Int)-1) else false))):=rfl
       obtain⟨en,hen⟩:=ex (KM.aJ es i)
       rw[<- hen] at z0 z1 z2 l5
       obtain⟨pg,kx,lx⟩:=en
       simp only at z0 z1 z2 l5
       have Ki:=ai (fun V hV=>ma.o V pg hV)
       subst hap
       clear hpv hen gP N1 HER
       obtain⟨W1,hW1⟩:=ex (wr.alloc (.cells #[I pg,I kx,I lx] 45))
       have hb1:Below wr.heap.size wr W1:=by rw[hW1];exact(Below.refl _ _).alloc (Nat.le_refl _) _
       have Hr:W1.heap[wr.heap.size]?=some (.cells #[I pg,I kx,I lx] 45 (0,0)):=by rw[hW1];exact B.new _ _ _
       have tA:=eW.trans (hb1.mono eW.size)
       have HBL:=ai hb1
       have cj:=ai tA
       have Hi:=ai Hr
       have pj:=ai hW1
       obtain⟨F,hF⟩:=ex (AM.aK ar pg)
       rw[<- hF] at l5 Ki
       obtain⟨⟨g1,g2,g3,g4⟩,gf⟩:=F
       simp only at l5 Ki
       go_upto_region 9 with fail
       rw[<- pj.o]
       clear hW1 hb1 eW k0 k1 k2 x0 x1 x2 z0 z1 z2 hF
       obtain⟨⟨k0,k1,k2⟩,x0,x1,x2⟩:=HC.o W1 tA
       obtain⟨y0,y1,y2⟩:=B.c3 Hr
       obtain⟨xb,Br⟩:=ex wr.heap.size
       rw[<- Br] at Hi y0 y1 y2 ⊢
       clear tA Hr Br
       go_upto_region 10 with(go_at_call 31;refine(Ki.o _ cj.o).mono ?_;rintro e w2 ⟨rfl,hb2⟩;have bY:=ai hb2;clear hb2)
       have hb3:Below W1.heap.size W1 (w2.alloc (.cells #[I g1,I g2,I g3,.bool g4] 47)):=bY.o.alloc bY.o.size _
       obtain⟨W3,hW3⟩:=ex (w2.alloc (.cells #[I g1,I g2,I g3,.bool g4] 47))
       rw[<- hW3] at hb3 ⊢
       have hb4:=cj.o.trans (hb3.mono cj.o.size)
       have gN:=ai hb4
       obtain⟨y0,y1,y2⟩:=B.c3 (B.below Hi.o hb3 (B.isLt Hi.o))
       obtain⟨⟨k0,k1,k2⟩,x0,x1,x2⟩:=HC.o W3 hb4
       have HPW:=ai (HPV.o W3 (HBL.o.trans (hb3.mono HBL.o.size)))
       clear hW3 hb3 hb4 Ki HPV
       by_cases hgo:gf=true/\(i=0∨(KM.aJ es (i-1)).page<pg)
       · obtain⟨rfl,ho⟩:=hgo
         have yF:Hid (KM.ve nf ns ar es i=if kx=1 then decide (0<=lx/\lx<=(nf:Int)-1) else if kx=2 then decide (0<=lx/\lx<=(ns:Int)-1) else false):=(show KM.ve nf ns ar es i=if kx=1 then decide (0<=lx/\lx<=(nf:Int)-1) else if kx=2 then decide (0<=lx/\lx<=(ns:Int)-1) else false by
          rw[l5.o]
          rcases ho with h | h
          · simp[h]
          · simp[h])
         clear l5
         go_cut [68] (fun c wx=>c=.bool false/\Below W3.heap.size W3 wx)
         case first =>
          rcases(show i=0∨(0<i/\(KM.aJ es (i-1)).page<pg) by omega) with h0 | ⟨h0,h1⟩
          · subst h0
            go_region
            go_wp2_with fail
            go_meet
            case rel=>exact⟨by simp,(Below.refl _ _).drew⟩
          · have pw:=HPW.o h0
            have hi0:(0:Int)<(i:Int):=by omega
            have him:((i:Int)-1).toNat=i-1:=by omega
            have AV:(i:Int)-1=((i-1:Nat):Int):=by omega
            have ZF:(i:Int)-1<(es.length:Int):=by omega
            have ZE:(0:Int)<=(i:Int)-1:=by omega
            have h2:¬pg<=(KM.aJ es (i-1)).page:=by omega
            go_region
            go_wp2_with fail
            go_meet
            case rel=>exact⟨by simp[h2],(Below.refl _ _).drew⟩
         case rest =>
          obtain⟨rfl,hbc⟩:=hcut
          have rW:=gN.o.trans (hbc.mono gN.o.size)
          have ql:=ai rW
          obtain⟨⟨k0,k1,k2⟩,x0,x1,x2⟩:=HC.o wc rW
          have t:∀{o:Nat} {u:Value},W3.cell? (Ad xb o)=some u->wc.cell? (Ad xb o)=some u:=fun {o u} h=>(hbc.cell (p:=(Ad xb o)) (World.block_lt_of_cell? W3 _ h)).trans h
          have u1:=t y1
          have u2:=t y2
          clear rW hbc t y0 y1 y2 HPW gN
          rcases(show kx=1∨kx=2∨(¬kx=1/\¬kx=2) by omega) with hk | hk | ⟨hk,hk2⟩
          · rw[if_pos hk] at yF
            subst hk
            obtain⟨bv,Q9⟩:=ex (decide (0<=lx/\lx<=(nf:Int)-1))
            have Ty:=ai (fun V=>yD.o lx 0 ((nf:Int)-1) V)
            rw[<- Q9] at yF Ty
            clear Q9
            cases bv with
            | false =>
             have e0:=yH.o yF.o
             subst e0
             go_wp2_with (go_at_call 44;refine(Ty.o _).mono ?_;rintro e w6 ⟨rfl,rfl⟩)
             go_ret
             exact⟨rfl,bI.o.trans (ql.o.mono bI.o.size)⟩
            | true =>
             have Ge:Hid (KM.mD nf ns ar es (i+1)=true):=(show KM.mD nf ns ar es (i+1)=true by rw[DX.o,NC.o,yF.o];rfl)
             go_wp2_with (go_at_call 44;refine(Ty.o _).mono ?_;rintro e w6 ⟨rfl,rfl⟩)
             go_roundw
             case rel=>exact⟨i+1,by omega,by go_num,Ge.o,ql.o⟩
             case measure=>simp[intOf];omega
          · rw[if_neg (by omega),if_pos hk] at yF
            subst hk
            obtain⟨bv,Q9⟩:=ex (decide (0<=lx/\lx<=(ns:Int)-1))
            have Ty:=ai (fun V=>yD.o lx 0 ((ns:Int)-1) V)
            rw[<- Q9] at yF Ty
            clear Q9
            cases bv with
            | false =>
             have e0:=yH.o yF.o
             subst e0
             go_wp2_with (go_at_call 44;refine(Ty.o _).mono ?_;rintro e w6 ⟨rfl,rfl⟩)
             go_ret
             exact⟨rfl,bI.o.trans (ql.o.mono bI.o.size)⟩
            | true =>
             have Ge:Hid (KM.mD nf ns ar es (i+1)=true):=(show KM.mD nf ns ar es (i+1)=true by rw[DX.o,NC.o,yF.o];rfl)
             go_wp2_with (go_at_call 44;refine(Ty.o _).mono ?_;rintro e w6 ⟨rfl,rfl⟩)
             go_roundw
             case rel=>exact⟨i+1,by omega,by go_num,Ge.o,ql.o⟩
             case measure=>simp[intOf];omega
          · rw[if_neg hk,if_neg hk2] at yF
            have b1:(kx==1)=false:=by simpa using hk
            have b2:(kx==2)=false:=by simpa using hk2
            have e0:=yH.o yF.o
            subst e0
            go_wp2
            go_ret
            exact⟨rfl,bI.o.trans (ql.o.mono bI.o.size)⟩
       · have V8:KM.ve nf ns ar es i=false:=by
          rw[l5.o]
          cases gf with
          | false=>simp
          | true =>
           have h1:¬i=0:=fun e=>hgo ⟨rfl,.inl e⟩
           have h2:¬(KM.aJ es (i-1)).page<pg:=fun e=>hgo ⟨rfl,.inr e⟩
           simp[h1,h2]
         have e0:=yH.o V8
         subst e0
         clear l5 V8 yH DX NC
         cases gf with
         | false =>
          go_region
          go_wp2
          go_ret
          exact⟨rfl,(bI.o.trans (gN.o.mono bI.o.size)).drew⟩
         | true =>
          have h0:0<i:=by
           by_cases e:i=0
           · exact absurd ⟨rfl,.inl e⟩ hgo
           · omega
          have h2:pg<=(KM.aJ es (i-1)).page:=by
           by_cases e:(KM.aJ es (i-1)).page<pg
           · exact absurd ⟨rfl,.inr e⟩ hgo
           · omega
          have pw:=HPW.o h0
          have hi0:(0:Int)<(i:Int):=by omega
          have AV:(i:Int)-1=((i-1:Nat):Int):=by omega
          have him:((i:Int)-1).toNat=i-1:=by omega
          have ZF:(i:Int)-1<(es.length:Int):=by omega
          have ZE:(0:Int)<=(i:Int)-1:=by omega
          clear hgo
          go_region
          go_wp2
          go_ret
          exact⟨rfl,(bI.o.trans (gN.o.mono bI.o.size)).drew⟩
     · obtain rfl:i=es.length:=by omega
       have he1:ER=true:=HER.o.trans NC.o
       subst he1
       clear HER NC gP N1 fX yD
       go_wp2
       go_loopw [9] (fun iv wq=>∃n:Nat,n<=255/\iv=I ((n:Int)+1)/\KM.iN k.ak ar n=true/\Below WA.heap.size WA wq) (fun iv _=>256-(intOf iv).toNat)
       case atStart=>exact⟨0,by omega,rfl,rfl,Gf.o⟩
       case round =>
        obtain⟨n,hn,rfl,Vb,hb⟩:=hrel
        have HS:=ai Vb
        have Ux:=ai hb
        obtain⟨⟨k0,k1,k2⟩,x0,x1,x2⟩:=HC.o wr hb
        clear Vb hb
        by_cases hlt:n<255
        · have hni:(n:Int)+1<=255:=by omega
          have Ki:=ai (ma.o wr ((n:Int)+1) Ux.o)
          have HSQ:=ai (fun V hV=>FU.o V ((n:Int)+1) hV)
          have HX:=ai (xS.o n hlt)
          have HY:=ai (J9.o n)
          have HD:Hid (KM.nE k.ak ar ((n:Int)+1)=!((AM.aK ar ((n:Int)+1)).2&&(!(AM.aK ar ((n:Int)+1)).1.zero&&!(KM.bK k.ak ((n:Int)+1)).isSome))):=rfl
          obtain⟨F,hF⟩:=ex (AM.aK ar ((n:Int)+1))
          obtain⟨H,hH⟩:=ex ((KM.bK k.ak ((n:Int)+1)).isSome)
          rw[<- hF] at Ki HD
          rw[<- hH] at HSQ HD
          obtain⟨⟨g1,g2,g3,g4⟩,gf⟩:=F
          simp only at Ki HD
          clear hF hH ma FU xS J9 vo
          go_upto_region 24 with(go_at_call 31;refine Ki.o.mono ?_;rintro e w2 ⟨rfl,hb2⟩;have bY:=ai hb2;clear hb2)
          have hb3:=(Ux.o.trans (bY.o.mono Ux.o.size)).alloc (Ux.o.trans (bY.o.mono Ux.o.size)).size (.cells #[I g1,I g2,I g3,.bool g4] 47)
          have ab:=B.new w2 #[I g1,I g2,I g3,.bool g4] 47
          obtain⟨W3,hW3⟩:=ex (w2.alloc (.cells #[I g1,I g2,I g3,.bool g4] 47))
          obtain⟨gb,hgb⟩:=ex w2.heap.size
          rw[<- hW3] at hb3 ab ⊢
          rw[<- hgb] at ab ⊢
          have dC:=ai hb3
          have HGB:=ai ab
          obtain⟨⟨k0,k1,k2⟩,x0,x1,x2⟩:=HC.o W3 hb3
          clear hW3 hgb hb3 ab
          go_upto_region 25 with(go_at_call 91;refine(HSQ.o _ dC.o).mono ?_;rintro e w4 ⟨⟨q1,q2,q3,q4,q5,rfl⟩,hb4⟩;have gN:=ai (dC.o.trans (hb4.mono dC.o.size));have HG4:=ai (B.below HGB.o hb4 (B.isLt HGB.o));clear hb4)
          have ql:=ai (gN.o.alloc gN.o.size (.cells #[I q1,.string q2,.slice q3 q4 q5] 50))
          have g5:=B.cell (v:=.bool g4) (B.alloc HG4.o (.cells #[I q1,.string q2,.slice q3 q4 q5] 50)) 3 rfl
          obtain⟨W5,VX⟩:=ex (w4.alloc (.cells #[I q1,.string q2,.slice q3 q4 q5] 50))
          rw[<- VX] at ql g5 ⊢
          clear VX k0 k1 k2 x0 x1 x2
          by_cases hbad:gf=true/\g4=false/\H=false
          · obtain⟨rfl,rfl,rfl⟩:=hbad
            have e0:SR=false:=HX.o (by rw[HD.o];rfl)
            subst e0
            go_wp2
            go_ret
            exact⟨rfl,bI.o.trans (ql.o.mono bI.o.size)⟩
          · have Ge:Hid (KM.iN k.ak ar (n+1)=true):=(show KM.iN k.ak ar (n+1)=true by
             rw[HY.o,HS.o,HD.o]
             revert hbad
             cases gf <;> cases g4 <;> cases H <;> simp)
            cases gf with
            | false =>
             go_wp2
             go_roundw
             case rel=>exact⟨n+1,by omega,by go_num,Ge.o,ql.o⟩
             case measure=>simp[intOf];omega
            | true =>
             cases g4 with
             | true =>
              go_wp2
              go_roundw
              case rel=>exact⟨n+1,by omega,by go_num,Ge.o,ql.o⟩
              case measure=>simp[intOf];omega
             | false =>
              cases H with
              | true =>
               go_wp2
               go_roundw
               case rel=>exact⟨n+1,by omega,by go_num,Ge.o,ql.o⟩
               case measure=>simp[intOf];omega
              | false=>exact absurd ⟨rfl,rfl,rfl⟩ hbad
        · obtain rfl:n=255:=by omega
          have e1:SR=true:=vo.o.trans HS.o
          subst e1
          go_wp2
          go_ret
          exact⟨rfl,bI.o.trans (Ux.o.mono bI.o.size)⟩
  · have cb:(AM.aO ar != 0)=true:=by simpa using hc
    rw[decide_eq_false hc,Bool.false_and]
    clear D4 fX FU
    go_enter Tryz.func46,Tryz.ntmps46
    go_upto_region 1 with fail
    rw[<- eV.o]
    go_wp2_with (go_at_call 90;refine Oa.o.mono ?_;rintro e w1 ⟨rfl,hb1⟩;have aZ:=ai hb1;clear hb1)
    go_ret
    exact⟨rfl,bI.o.trans (aZ.o.mono bI.o.size)⟩
end KR
end Go.Proofs.YtpgifpeohlllfaaGreat
