import Derived.Test.YtpgifpeohlllfaaGreatGT29
set_option maxHeartbeats 20000000
set_option linter.unusedVariables false
set_option maxRecDepth 100000
set_option linter.unusedSimpArgs false
namespace Go.Proofs.YtpgifpeohlllfaaGreat
namespace AW
open Go.RowKit
def JK (n a b:Int):Bool:=decide (a<=n/\n<=b)
theorem tU (n a b:Int):JK n a b=true↔a<=n/\n<=b:=⟨fun h=>of_decide_eq_true h,fun h=>decide_eq_true h⟩
theorem qQ (n a b:Int) (w:World):Calls Tryz.prog 44 #[I n,I a,I b] w fun e w'=>e=.returned (.bool (JK n a b))/\w=w':=eI n a b w
theorem zG (a:AM.Ar):(AM.dW a.page a.aJ&&AM.iV a.bV)=true↔JK a.page 1 255=true/\JK a.aJ 1 255=true/\a.page+a.aJ-1<=255/\JK a.bV 0 3=true:=by
 rw[Bool.and_eq_true,AM.jD,EF,tU,tU,tU];omega
theorem IK (l:List AM.Ar) (hn:¬255<l.length) (h:AM.fI l l.length=false):AM.aW l=1:=by
 unfold AM.aW;rw[if_neg hn,if_neg];intro hg;have:=(AM.uX l l.length hg).1;rw[this] at h;cases h
theorem sN (l:List AM.Ar) (hn:¬255<l.length) (h:AM.cN l l.length=false):AM.aW l=1:=by
 unfold AM.aW;rw[if_neg hn,if_neg];intro hg;have:=(AM.uX l l.length hg).2;rw[this] at h;cases h
theorem kQ (l:List AM.Ar) (hn:¬255<l.length) (h:AM.fI l l.length=true):AM.aW l=0↔AM.eO (AM.cR l)=l:=by
 constructor
 · exact AM.AK l
 · intro e;have:=AM.pd _ (AM.Ce l h);rw[e] at this;exact this
theorem Qk (l:List AM.Ar) (hn:¬255<l.length) (h:AM.aW l≠0):AM.aW l=1:=by
 unfold AM.aW at h ⊢;rw[if_neg hn] at h ⊢;split
 · rename_i hg
   rw[if_pos hg] at h;exact absurd rfl h
 · rfl
theorem Mw (ao:Option Addr) (cap:Nat) (w:World) :
  Calls Tryz.prog 126 #[.slice ao 0 cap] w fun e w'=>∃C,e=.returned (.tuple #[.agg C,.bool (AM.cN [] 0)])/\Kk [] C/\Below w.heap.size w w':=by
 obtain⟨Z,hZ⟩:=ex (AM.gp (fun _=>0));have hz:=VQ;rw[<- hZ] at hz;have HZ:Hid (Z=AM.gp (fun _=>0)):=hZ;have DM:Z.size=256:=by rw[hZ];exact AM.nU _
 have hZo:Z.all (·.oneCell')=true:=by rw[hZ];exact AM.sU _
 have HZO:Hid (Z.all (·.oneCell')=true):=hZo;clear hZ hZo;have HR:Hid (((w.alloc (.cells Z 177)).alloc (.cells Z 177)).heap[w.heap.size]?=some (.cells Z 177 (0,0))):=B.alloc (B.new w Z 177) _;have HA:Hid (((w.alloc (.cells Z 177)).alloc (.cells Z 177)).heap[w.heap.size+1]?=some (.cells Z 177 (0,0))):=by
  have:=B.new (w.alloc (.cells Z 177)) Z 177;show _=_;simpa using this
 have HB:Hid (Below w.heap.size w ((w.alloc (.cells Z 177)).alloc (.cells Z 177))):=((Below.refl _ _).alloc (Nat.le_refl _) _).alloc (by simp) _;go_enter Tryz.func126,Tryz.ntmps126;go_wp2;refine wp_loop_rounds 1 ?_;rw[rounds_succ];go_wp2_with (first | (refine wpList_load_row rfl 177 _ rfl (w.heap.size+1) rfl 177 Z (0,0) _ HA.o Tryz.underlying177 rfl (by rw[DM];exact kF) ?_) | (refine wpList_store_row rfl 177 _ _ rfl w.heap.size Z rfl rfl 177 Z HR.o (by rw[DM];exact kF) rfl HZO.o ?_))
 have hfin:=setRow_heap _ _ _ Z 177 (0,0) HR.o;have ZK:=run_loadVar_row (P:=Tryz.prog) _ _ 177 177 Z (0,0) _ hfin Tryz.underlying177 rfl (by rw[DM];exact kF);refine bodyPost_ret (v:=.tuple #[.agg Z,.bool true]) ?_ rfl ⟨Z,rfl,⟨DM,HZO.o,fun _=>HZ.o⟩,below_setRow HB.o (Nat.le_refl _) _⟩;rw[results_cell_tmp rfl];simp[asAddr,Result.andThen,ZK]
theorem FH (l:List AM.Ar) (v:Value) (w:World) (h:Has w v l) (he:AM.fI l l.length=true) (hn:l.length<=255) :
  Calls Tryz.prog 126 #[v] w fun e w'=>∃C,e=.returned (.tuple #[.agg C,.bool (AM.cN l l.length)])/\Kk l C/\Below w.heap.size w w':=by
 obtain⟨ao,cap,rfl,h⟩:=h;rcases h with rfl | ⟨b,off,rfl,hl⟩
 · exact Mw ao cap w
 · exact Ds l b off cap w hl he hn
theorem Aw (l:List AM.Ar) (v:Value) (w:World) (h:Has w v l) (he:AM.fI l l.length=true) (hn:¬255<l.length) (ao:Option Addr) (cap:Nat) (hv:v=.slice ao l.length cap)
  (Vf:∀i,i<l.length->∃b off,ao=some (Ad b off)/\AM.Cs w b off l) :
  Calls Tryz.prog 90 #[.slice ao l.length cap] w fun e w'=>e=.returned (I (AM.aW l))/\Below w.heap.size w w':=by
 have HH:Hid (Has w (.slice ao l.length cap) l):=by show Has _ _ _;rw[<- hv];exact h
 have HE:Hid (AM.fI l l.length=true):=he;have HL:Hid (∀i,i<l.length->∃b off,ao=some (Ad b off)/\AM.Cs w b off l):=Vf;have HNl:Hid (¬255<l.length):=hn;have hn':¬(255:Int)<(l.length:Int):=by omega
 obtain⟨Z,hZ⟩:=ex (AM.gp (fun _=>0));have hz:=VQ;rw[<- hZ] at hz;have DM:Z.size=256:=by rw[hZ];exact AM.nU _
 clear h he hv Vf hZ;go_enter Tryz.func90,Tryz.ntmps90;go_wp2;go_loopw [3] (fun i wr=>∃k:Nat,k<=l.length/\i=I k/\Below w.heap.size w wr) (fun i _=>l.length-(intOf i).toNat)
 case atStart=>exact⟨0,by omega,rfl,Below.refl _ _⟩
 case round =>
  obtain⟨k,hk,rfl,hb⟩:=hrel;have HB:Hid (Below w.heap.size w wr):=hb;by_cases hlt:k<l.length
  · obtain⟨b,off,hao,hl⟩:=HL.o k hlt;obtain⟨c0,c1,c2,c3⟩:=hl.below hb k hlt;have hw:=AM.xR l _ HE.o k hlt;have hw2:=(zG (AM.at_ l k)).1 (by rw[hw.1,hw.2];rfl);have hbk:=(AM.jD _ _).1 hw.1;obtain⟨a,ha⟩:=ex (AM.at_ l k);rw[<- ha] at c0 c1 c2 c3 hw2 hbk;clear ha hb hl hw;subst hao;obtain⟨d1,d2,d3,d4⟩:=hw2;have d3':¬255<a.page+a.aJ-1:=by omega
    have wj:(k:Int)<(l.length:Int):=by omega
    go_wp2_with (first | (go_at_call 44;refine(qQ _ _ _ _).mono ?_;rintro e w' ⟨rfl,rfl⟩))
    go_roundw
    case rel=>exact⟨k+1,by omega,by go_num,HB.o.alloc HB.o.size _⟩
    case measure=>simp[intOf];omega
  · obtain rfl:k=l.length:=by omega
    clear hb;go_wp2_with fail
    refine(FH l (.slice ao l.length cap) _ (HH.o.below HB.o) HE.o (by omega)).mono ?_;rintro e w2 ⟨C,rfl,hC,hb2⟩;have xV:Hid (Kk l C):=hC;have PS:C.size=256:=hC.1;have hCo:C.all (·.oneCell')=true:=hC.2.1;have VI:Hid (C.all (·.oneCell')=true):=hCo;have cM:Hid (Below w.heap.size w w2):=HB.o.trans (hb2.mono HB.o.size);clear hC hCo hb2;have rI:Hid ((w2.alloc (.cells Z 177)).heap[w2.heap.size]?=some (.cells Z 177 (0,0))):=B.new w2 Z 177;have HA0:Hid (((w2.alloc (.cells Z 177)).setRow w2.heap.size C).heap[w2.heap.size]?=some (.cells C 177 (0,0))):=setRow_heap _ _ _ _ 177 (0,0) rI.out;have ed:Hid (Below w.heap.size w ((w2.alloc (.cells Z 177)).setRow w2.heap.size C)):=below_setRow (cM.o.alloc cM.o.size _) cM.o.size _;by_cases hr:AM.cN l l.length=true
    · have hCb:Hid (C=bd (AM.cR l)):=xV.o.2.2 hr;go_wp2_with (first | (refine wpList_store_row rfl 177 _ _ rfl w2.heap.size C rfl rfl 177 Z rI.out (by rw[PS];exact kF) (by rw[DM,PS]) VI.o ?_) | (refine wpList_load_row rfl 177 _ rfl w2.heap.size rfl 177 C (0,0) _ HA0.o Tryz.underlying177 rfl (by rw[PS];exact kF) ?_))
      refine wp_load_row 177 _ rfl w2.heap.size rfl 177 C (0,0) _ HA0.o Tryz.underlying177 rfl (by rw[PS];exact kF) ?_;go_wp2_with fail
      have hcall:=qy (AM.cR l) (AM.Ce l HE.o) ((w2.alloc (.cells Z 177)).setRow w2.heap.size C);rw[show AM.gp (fun n=>AM.enc (AM.cR l n))=C from hCb.out.symm] at hcall;refine hcall.mono ?_;clear hcall;rintro e w3 ⟨v3,rfl,h3,hb4⟩;have gw:Hid (Below w.heap.size w w3):=ed.o.trans (hb4.mono ed.o.size);have HG3:Hid (Has w3 v3 (AM.eO (AM.cR l))):=h3;clear hb4 h3;go_wp2_with fail
      refine(Ep (AM.eO (AM.cR l)) l v3 (.slice ao l.length cap) _ HG3.o (HH.o.below gw.o) (by have:=AM.kN (AM.cR l) 256;unfold AM.eO;omega) (by have:=HNl.o;omega)).mono ?_;rintro e w4 ⟨r,rfl,hr2,wy⟩;have pM:Hid (Below w.heap.size w w4):=gw.o.trans (wy.mono gw.o.size);have Aa:Hid (r=true↔AM.eO (AM.cR l)=l):=hr2;clear wy hr2;cases r
      · have hres:Hid (AM.aW l=1):=Qk l HNl.o (fun e=>by have:=Aa.o.2 ((kQ l HNl.o HE.o).1 e);cases this);go_wp2;go_ret;exact⟨fU hres.out.symm,pM.o⟩
      · have hres:Hid (AM.aW l=0):=(kQ l HNl.o HE.o).2 (Aa.o.1 rfl);go_wp2;go_ret;exact⟨fU hres.out.symm,pM.o⟩
    · have hr':AM.cN l l.length=false:=by simpa using hr
      have hres:Hid (AM.aW l=1):=sN l HNl.o hr';go_wp2_with (refine wpList_store_row rfl 177 _ _ rfl w2.heap.size C rfl rfl 177 Z rI.out (by rw[PS];exact kF) (by rw[DM,PS]) VI.o ?_)
      go_ret;exact⟨fU hres.out.symm,ed.o⟩
theorem CJ (l:List AM.Ar) (b off cap:Nat) (w:World) (hl:AM.Cs w b off l) (hf:∀i,i<l.length->AM.Fits (AM.at_ l i)) (he:AM.fI l l.length=false) (hn:¬255<l.length) :
  Calls Tryz.prog 90 #[.slice (some (Ad b off)) l.length cap] w fun e w'=>e=.returned (I (AM.aW l))/\Below w.heap.size w w':=by
 have hres:Hid (AM.aW l=1):=IK l hn he;have HE:Hid (AM.fI l l.length=false):=he;have hn':¬(255:Int)<(l.length:Int):=by omega
 clear he;go_enter Tryz.func90,Tryz.ntmps90;go_wp2;go_loopw [3] (fun i wr=>∃k:Nat,k<=l.length/\i=I k/\AM.fI l k=true/\Below w.heap.size w wr) (fun i _=>l.length-(intOf i).toNat)
 case atStart=>exact⟨0,by omega,rfl,rfl,Below.refl _ _⟩
 case round =>
  obtain⟨k,hk,rfl,zm,hb⟩:=hrel;have HB:Hid (Below w.heap.size w wr):=hb;have HEK:Hid (AM.fI l k=true):=zm;clear zm;by_cases hlt:k<l.length
  · obtain⟨c0,c1,c2,c3⟩:=hl.below hb k hlt;obtain⟨f1,f2,f3⟩:=hf k hlt;have hw:=zG (AM.at_ l k);obtain⟨a,ha⟩:=ex (AM.at_ l k);rw[<- ha] at c0 c1 c2 c3 f1 f2 f3 hw;have HW:Hid ((AM.dW a.page a.aJ&&AM.iV a.bV)=true↔JK a.page 1 255=true/\JK a.aJ 1 255=true/\a.page+a.aJ-1<=255/\JK a.bV 0 3=true):=hw;have HA:Hid (a=AM.at_ l k):=ha;clear ha hb hw;have wj:(k:Int)<(l.length:Int):=by omega
    by_cases d1:JK a.page 1 255=true
    · have b1:=(tU _ _ _).1 d1;by_cases d2:JK a.aJ 1 255=true
      · have b2:=(tU _ _ _).1 d2;by_cases d3:a.page+a.aJ-1<=255
        · have d3':¬255<a.page+a.aJ-1:=by omega
          by_cases d4:JK a.bV 0 3=true
          · have hok:Hid (AM.fI l (k+1)=true):=by show _=_;simp only[AM.fI,HEK.o,Bool.true_and];rw[<- HA.o];exact HW.o.2 ⟨d1,d2,d3,d4⟩
            go_wp2_with (first | (go_at_call 44;refine(qQ _ _ _ _).mono ?_;rintro e w' ⟨rfl,rfl⟩))
            go_roundw
            case rel=>exact⟨k+1,by omega,by go_num,hok.out,HB.o.alloc HB.o.size _⟩
            case measure=>simp[intOf];omega
          · have d4':JK a.bV 0 3=false:=by simpa using d4
            clear d4;go_wp2_with (first | (go_at_call 44;refine(qQ _ _ _ _).mono ?_;rintro e w' ⟨rfl,rfl⟩))
            go_ret;exact⟨fU hres.out.symm,HB.o.alloc HB.o.size _⟩
        · have d3':255<a.page+a.aJ-1:=by omega
          go_wp2_with (first | (go_at_call 44;refine(qQ _ _ _ _).mono ?_;rintro e w' ⟨rfl,rfl⟩))
          go_ret;exact⟨fU hres.out.symm,HB.o.alloc HB.o.size _⟩
      · have d2':JK a.aJ 1 255=false:=by simpa using d2
        clear d2;go_wp2_with (first | (go_at_call 44;refine(qQ _ _ _ _).mono ?_;rintro e w' ⟨rfl,rfl⟩))
        go_ret;exact⟨fU hres.out.symm,HB.o.alloc HB.o.size _⟩
    · have d1':JK a.page 1 255=false:=by simpa using d1
      clear d1;go_wp2_with (first | (go_at_call 44;refine(qQ _ _ _ _).mono ?_;rintro e w' ⟨rfl,rfl⟩))
      go_ret;exact⟨fU hres.out.symm,HB.o.alloc HB.o.size _⟩
  · exfalso;obtain rfl:k=l.length:=by omega
    have:=HEK.o;rw[HE.o] at this;cases this
theorem Ax (n:Nat) (ao:Option Addr) (cap:Nat) (w:World) (hn:255<n) (hm:n<=140737488351232) :
  Calls Tryz.prog 90 #[.slice ao n cap] w fun e w'=>e=.returned (I 2)/\Below w.heap.size w w':=by
 have hn':(255:Int)<(n:Int):=by omega
 go_enter Tryz.func90,Tryz.ntmps90;go_wp2;go_ret;exact⟨rfl,Below.refl _ _⟩
theorem CK (l:List AM.Ar) (v:Value) (w:World) (h:Has w v l) (hf:ft l) :
  Calls Tryz.prog 90 #[v] w fun e w'=>e=.returned (I (AM.aW l))/\Below w.heap.size w w':=by
 have h':=h;obtain⟨ao,cap,rfl,hh⟩:=h;by_cases hn:255<l.length
 · have e:AM.aW l=2:=by simp[AM.aW,hn]
   rw[e];exact Ax l.length ao cap w hn hf.2
 · by_cases he:AM.fI l l.length=true
   · refine Aw l _ w h' he hn ao cap rfl (fun i hi=>?_);rcases hh with e | ⟨b,off,hao,hl⟩
     · rw[e] at hi;simp at hi
     · exact⟨b,off,hao,hl⟩
   · have he':AM.fI l l.length=false:=by simpa using he
     rcases hh with e | ⟨b,off,hao,hl⟩
     · subst e;simp[AM.fI] at he'
     · subst hao;exact CJ l b off cap w hl hf.1 he' hn
end AW
namespace KR
open Go.RowKit GK
open FW (ai aD)
open KW (aZ fh cK aI eB l8 kj aK)
theorem oo {f g:Nat->Bool} (hs:∀k,g (k+1)=(g k&&f k)):∀(n i:Nat),i<n->f i=false->g n=false
 | 0,i,h,_=>absurd h (Nat.not_lt_zero _)
 | n+1,i,h,hf=>by
  rw[hs];by_cases c:i=n
  · rw[<- c,hf,Bool.and_false]
  · rw[oo hs n i (by omega) hf,Bool.false_and]
theorem adm (n:Nat):((n:Int)==0)=decide (n=0):=by
 rw[Bool.eq_iff_iff,beq_iff_eq,decide_eq_true_iff];omega
theorem TS {nf ns:Nat} {ar:List AM.Ar} {es:List KM.En} {i:Nat} (hi:i<es.length) (h:KM.xB nf ns ar es i=false):KM.nO nf ns ar es es.length=false:=oo (f:=KM.xB nf ns ar es) (g:=KM.nO nf ns ar es) (fun _=>rfl) _ i hi h
theorem KQ {hs:List LM.Sh} {ar:List AM.Ar} {i:Nat} (hi:i<255) (h:KM.oQ hs ar ((i:Int)+1)=false):KM.jw hs ar 255=false:=oo (f:=fun n:Nat=>KM.oQ hs ar ((n:Int)+1)) (g:=KM.jw hs ar) (fun _=>rfl) 255 i hi h
theorem Ap (k:KM.Kn) (a:fh) (s:KM.Sp) (aa ap:Option Addr) (ca cp:Nat) (w:World) (hA:AW.Has w (.slice aa s.aB.length ca) s.aB) (hfA:AW.ft s.aB) (hE:aZ aK 3 KM.js w ap s.aA) (hEn:M.bD s.aA.length) (hS:LM.jb w a.aS k.ak) (hfS:LM.pH k.ak) (lj:k.frames.length<=64) (hns:k.slots.length<=512) :
  Calls Tryz.prog 46 #[.agg (aI a k),.agg #[.bool s.live,.slice aa s.aB.length ca,.slice ap s.aA.length cp]] w fun e w'=>e=.returned (.bool (KM.iP k.ak k.frames.length k.slots.length s))/\Below w.heap.size w w':=by
 obtain⟨WA,di⟩:=ex ((w.alloc (.cells (aI a k) 27)).alloc (.cells #[.bool s.live,.slice aa s.aB.length ca,.slice ap s.aA.length cp] 43));have hb0:Below w.heap.size w WA:=by rw[di];exact((Below.refl _ _).alloc (Nat.le_refl _) _).alloc (by simp) _
 have kb:WA.heap[w.heap.size]?=some (.cells (aI a k) 27 (0,0)):=by rw[di];exact B.alloc (B.new w _ _) _
 have sb:WA.heap[w.heap.size+1]?=some (.cells #[.bool s.live,.slice aa s.aB.length ca,.slice ap s.aA.length cp] 43 (0,0)):=by
  have:=B.new (w.alloc (.cells (aI a k) 27)) #[.bool s.live,.slice aa s.aB.length ca,.slice ap s.aA.length cp] 43;rw[World.size_alloc] at this;rw[di];exact this
 have HC:Hid (∀V,Below WA.heap.size WA V->(V.cell? (Ad w.heap.size 0)=some (.slice a.aS k.ak.length a.cS)/\V.cell? (Ad w.heap.size 1)=some (.slice a.aF k.frames.length a.cF)/\V.cell? (Ad w.heap.size 2)=some (.slice a.aL k.slots.length a.cL))/\V.cell? (Ad (w.heap.size+1) 0)=some (.bool s.live)/\V.cell? (Ad (w.heap.size+1) 1)=some (.slice aa s.aB.length ca)/\V.cell? (Ad (w.heap.size+1) 2)=some (.slice ap s.aA.length cp)):=fun V hV=>by
  have h1:=B.below kb hV (B.isLt kb);have h2:=B.below sb hV (B.isLt sb);exact⟨⟨B.cell h1 0 rfl,B.cell h1 1 rfl,B.cell h1 2 rfl⟩,B.cell h2 0 rfl,B.cell h2 1 rfl,B.cell h2 2 rfl⟩
 have iy:Hid (∀V m,Below WA.heap.size WA V->m<s.aA.length->∃eb eo,ap=some (Ad eb eo)/\(V.cell? (Ad eb (eo+m*3))=some (I (KM.aM s.aA m).page)/\V.cell? (Ad eb (eo+m*3+1))=some (I (KM.aM s.aA m).kind)/\V.cell? (Ad eb (eo+m*3+2))=some (I (KM.aM s.aA m).loc))/\∀U,Below V.heap.size V U->0<m->U.cell? ⟨eb,eo+(m-1)*3,none⟩=some (I (KM.aM s.aA (m-1)).page)):=fun V m hV hm=>by
  have hvw:=hb0.trans (hV.mono hb0.size);obtain⟨eb,eo,g1,g2,g3⟩:=(hE.below hvw) (by omega);have z0:=g3 m hm 0 (by omega);rw[Nat.add_zero] at z0;refine⟨eb,eo,g1,⟨z0,g3 m hm 1 (by omega),g3 m hm 2 (by omega)⟩,fun U hU h0=>?_⟩;have z1:=g3 (m-1) (by omega) 0 (by omega);rw[Nat.add_zero] at z1;exact(hU.cell (p:=⟨eb,eo+(m-1)*3,none⟩) g2).trans z1
 have Si:Hid (Calls Tryz.prog 90 #[.slice aa s.aB.length ca] WA fun e w'=>e=.returned (I (AM.aW s.aB))/\Below WA.heap.size WA w'):=AW.CK s.aB _ WA (hA.below hb0) hfA;have VL:AM.aW s.aB=0->Hid (∀V p,Below WA.heap.size WA V->Calls Tryz.prog 31 #[.slice aa s.aB.length ca,I p] V fun e w'=>e=.returned (.tuple #[.agg #[I (AM.aR s.aB p).1.page,I (AM.aR s.aB p).1.aJ,I (AM.aR s.aB p).1.bV,.bool (AM.aR s.aB p).1.zero],.bool (AM.aR s.aB p).2])/\Below V.heap.size V w'):=fun hc V p hV=>AW.zV _ _ p V (hA.below (hb0.trans (hV.mono hb0.size))) hc
 have DU:Hid (∀V p,Below WA.heap.size WA V->Calls Tryz.prog 91 #[.slice a.aS k.ak.length a.cS,I p] V fun e w'=>(∃q1 q2 q3 q4 q5,e=.returned (.tuple #[.agg #[I q1,.string q2,.slice q3 q4 q5],.bool (KM.bW k.ak p).isSome]))/\Below V.heap.size V w'):=fun V p hV=>(vJ k.ak a.aS a.cS p V (hS.below (hb0.trans (hV.mono hb0.size))) hfS.1).mono fun e w' ⟨h1,h2⟩=>⟨⟨_,_,_,_,_,h1⟩,h2⟩
 have AY:=ai AW.eI;have eZ:=ai di;have bR:=ai hb0;have hel:s.aA.length<=140737488351232:=hEn;have hal:s.aB.length<=140737488351232:=hfA.2;obtain⟨nf,E7⟩:=ex k.frames.length;obtain⟨ns,ZE⟩:=ex k.slots.length;unfold aI at eZ ⊢;rw[<- E7] at HC eZ lj ⊢;rw[<- ZE] at HC eZ hns ⊢;obtain⟨lv,ar,es⟩:=s;simp only at HC iy Si VL DU eZ hel hal ⊢;clear hA hfA hE hEn hS hfS hb0 kb sb di E7 ZE;obtain⟨⟨k0,k1,k2⟩,x0,x1,x2⟩:=HC.o WA (Below.refl _ _);unfold KM.iP;simp only;cases lv with
 | false =>
  rw[if_neg (by decide)];rcases(show ¬ar.length=0∨ar.length=0 by omega) with h1 | h1
  · have b1:((ar.length:Int)==0)=false:=by rw[beq_eq_false_iff_ne];omega
    clear iy Si VL DU HC;go_enter Tryz.func46,Tryz.ntmps46;go_upto_region 1 with fail;rw[<- eZ.o];go_wp2;go_ret;exact⟨by simp[h1],bR.o⟩
  · have H1:=ai h1;clear iy Si VL DU HC h1;go_enter Tryz.func46,Tryz.ntmps46;go_upto_region 1 with fail;rw[<- eZ.o];have h1:=H1.o;go_wp2;go_ret;exact⟨congrArg (fun b=>Ending.returned (.bool b)) (by rw[adm,h1];simp),bR.o⟩
 | true =>
  rw[if_pos rfl];by_cases hc:AM.aW ar=0
  · have ni:=VL hc;rw[hc] at Si;rw[decide_eq_true hc,Bool.true_and];clear VL hc;have jc:Hid (∀i,i<es.length->KM.xB nf ns ar es i=false->KM.nO nf ns ar es es.length=false):=fun i hi h=>TS hi h
    have MC:Hid (∀i,KM.nO nf ns ar es (i+1)=(KM.nO nf ns ar es i&&KM.xB nf ns ar es i)):=fun _=>rfl
    obtain⟨ER,hER⟩:=ex (KM.nO nf ns ar es es.length);have HER:=ai hER;rw[<- hER];rw[<- hER] at jc;clear hER;have vq:Hid (∀i:Nat,i<255->KM.oQ k.ak ar ((i:Int)+1)=false->KM.jw k.ak ar 255=false):=fun i hi h=>KQ hi h
    have M8:Hid (∀i:Nat,KM.jw k.ak ar (i+1)=(KM.jw k.ak ar i&&KM.oQ k.ak ar ((i:Int)+1))):=fun _=>rfl
    obtain⟨SR,WW⟩:=ex (KM.jw k.ak ar 255);have xE:=ai WW;rw[<- WW];rw[<- WW] at vq;clear WW;go_enter Tryz.func46,Tryz.ntmps46;go_upto_region 1 with fail;rw[<- eZ.o];go_upto_region 5 with(go_at_call 90;refine Si.o.mono ?_;rintro e w1 ⟨rfl,hb1⟩;have bE:=ai hb1;clear hb1)
    clear k0 k1 k2 x0 x1 x2 Si;go_wp2;go_loopw [5] (fun iv wq=>∃i:Nat,i<=es.length/\iv=I (i:Int)/\KM.nO nf ns ar es i=true/\Below WA.heap.size WA wq) (fun iv _=>es.length-(intOf iv).toNat)
    case atStart=>exact⟨0,by omega,rfl,rfl,bE.o⟩
    case round =>
     obtain⟨i,hi,rfl,Pv,ek⟩:=hrel;have QM:=ai Pv;have DC:=ai ek;obtain⟨⟨k0,k1,k2⟩,x0,x1,x2⟩:=HC.o wr ek;clear Pv;by_cases hlt:i<es.length
     · have H6:(i:Int)<(es.length:Int):=by omega
       obtain⟨eb,eo,hap,⟨z0,z1,z2⟩,hpv⟩:=iy.o wr i ek hlt;have HPV:=ai hpv;have A3:=ai (jc.o i hlt);have Gp:=ai (MC.o i);have m6:Hid (KM.xB nf ns ar es i=((AM.aR ar (KM.aM es i).page).2&&(i==0 || decide ((KM.aM es (i-1)).page<(KM.aM es i).page))&&(if (KM.aM es i).kind=1 then decide (0<=(KM.aM es i).loc/\(KM.aM es i).loc<=(nf:Int)-1) else if (KM.aM es i).kind=2 then decide (0<=(KM.aM es i).loc/\(KM.aM es i).loc<=(ns:Int)-1) else false))):=rfl;obtain⟨en,hen⟩:=ex (KM.aM es i);rw[<- hen] at z0 z1 z2 m6;obtain⟨pg,kx,lx⟩:=en;simp only at z0 z1 z2 m6;have Kj:=ai (fun V hV=>ni.o V pg hV);subst hap;clear hpv hen jc MC HER;obtain⟨W1,hW1⟩:=ex (wr.alloc (.cells #[I pg,I kx,I lx] 45));have hb1:Below wr.heap.size wr W1:=by rw[hW1];exact(Below.refl _ _).alloc (Nat.le_refl _) _
       have Kl:W1.heap[wr.heap.size]?=some (.cells #[I pg,I kx,I lx] 45 (0,0)):=by rw[hW1];exact B.new _ _ _
       have Aj:=ek.trans (hb1.mono ek.size);have HBL:=ai hb1;have cQ:=ai Aj;have Kb:=ai Kl;have uA:=ai hW1;obtain⟨F,hF⟩:=ex (AM.aR ar pg);rw[<- hF] at m6 Kj;obtain⟨⟨g1,g2,g3,g4⟩,gf⟩:=F;simp only at m6 Kj;go_upto_region 9 with fail;rw[<- uA.o];clear hW1 hb1 ek k0 k1 k2 x0 x1 x2 z0 z1 z2 hF;obtain⟨⟨k0,k1,k2⟩,x0,x1,x2⟩:=HC.o W1 Aj;obtain⟨y0,y1,y2⟩:=B.c3 Kl;obtain⟨xb,DG⟩:=ex wr.heap.size;rw[<- DG] at Kb y0 y1 y2 ⊢;clear Aj Kl DG;go_upto_region 10 with(go_at_call 31;refine(Kj.o _ cQ.o).mono ?_;rintro e w2 ⟨rfl,hb2⟩;have cM:=ai hb2;clear hb2)
       have hb3:Below W1.heap.size W1 (w2.alloc (.cells #[I g1,I g2,I g3,.bool g4] 47)):=cM.o.alloc cM.o.size _;obtain⟨W3,hW3⟩:=ex (w2.alloc (.cells #[I g1,I g2,I g3,.bool g4] 47));rw[<- hW3] at hb3 ⊢;have hb4:=cQ.o.trans (hb3.mono cQ.o.size);have gw:=ai hb4;obtain⟨y0,y1,y2⟩:=B.c3 (B.below Kb.o hb3 (B.isLt Kb.o));obtain⟨⟨k0,k1,k2⟩,x0,x1,x2⟩:=HC.o W3 hb4;have HPW:=ai (HPV.o W3 (HBL.o.trans (hb3.mono HBL.o.size)));clear hW3 hb3 hb4 Kj HPV;by_cases hgo:gf=true/\(i=0∨(KM.aM es (i-1)).page<pg)
       · obtain⟨rfl,ho⟩:=hgo;have AZ:Hid (KM.xB nf ns ar es i=if kx=1 then decide (0<=lx/\lx<=(nf:Int)-1) else if kx=2 then decide (0<=lx/\lx<=(ns:Int)-1) else false):=(show KM.xB nf ns ar es i=if kx=1 then decide (0<=lx/\lx<=(nf:Int)-1) else if kx=2 then decide (0<=lx/\lx<=(ns:Int)-1) else false by
          rw[m6.o];rcases ho with h | h
          · simp[h]
          · simp[h])
         clear m6;go_cut [68] (fun c wx=>c=.bool false/\Below W3.heap.size W3 wx)
         case first =>
          rcases(show i=0∨(0<i/\(KM.aM es (i-1)).page<pg) by omega) with h0 | ⟨h0,h1⟩
          · subst h0;go_region;go_wp2_with fail
            go_meet
            case rel=>exact⟨by simp,(Below.refl _ _).drew⟩
          · have pw:=HPW.o h0;have hi0:(0:Int)<(i:Int):=by omega
            have him:((i:Int)-1).toNat=i-1:=by omega
            have Dc:(i:Int)-1=((i-1:Nat):Int):=by omega
            have adY:(i:Int)-1<(es.length:Int):=by omega
            have adX:(0:Int)<=(i:Int)-1:=by omega
            have h2:¬pg<=(KM.aM es (i-1)).page:=by omega
            go_region;go_wp2_with fail
            go_meet
            case rel=>exact⟨by simp[h2],(Below.refl _ _).drew⟩
         case rest =>
          obtain⟨rfl,hbc⟩:=hcut;have wy:=gw.o.trans (hbc.mono gw.o.size);have pM:=ai wy;obtain⟨⟨k0,k1,k2⟩,x0,x1,x2⟩:=HC.o wc wy;have t:∀{o:Nat} {u:Value},W3.cell? (Ad xb o)=some u->wc.cell? (Ad xb o)=some u:=fun {o u} h=>(hbc.cell (p:=(Ad xb o)) (World.block_lt_of_cell? W3 _ h)).trans h
          have u1:=t y1;have u2:=t y2;clear wy hbc t y0 y1 y2 HPW gw;rcases(show kx=1∨kx=2∨(¬kx=1/\¬kx=2) by omega) with hk | hk | ⟨hk,hk2⟩
          · rw[if_pos hk] at AZ;subst hk;obtain⟨bv,Vo⟩:=ex (decide (0<=lx/\lx<=(nf:Int)-1));have Xl:=ai (fun V=>AY.o lx 0 ((nf:Int)-1) V);rw[<- Vo] at AZ Xl;clear Vo;cases bv with
            | false =>
             have e0:=A3.o AZ.o;subst e0;go_wp2_with (go_at_call 44;refine(Xl.o _).mono ?_;rintro e w6 ⟨rfl,rfl⟩)
             go_ret;exact⟨rfl,bR.o.trans (pM.o.mono bR.o.size)⟩
            | true =>
             have Jd:Hid (KM.nO nf ns ar es (i+1)=true):=(show KM.nO nf ns ar es (i+1)=true by rw[Gp.o,QM.o,AZ.o];rfl);go_wp2_with (go_at_call 44;refine(Xl.o _).mono ?_;rintro e w6 ⟨rfl,rfl⟩)
             go_roundw
             case rel=>exact⟨i+1,by omega,by go_num,Jd.o,pM.o⟩
             case measure=>simp[intOf];omega
          · rw[if_neg (by omega),if_pos hk] at AZ;subst hk;obtain⟨bv,Vo⟩:=ex (decide (0<=lx/\lx<=(ns:Int)-1));have Xl:=ai (fun V=>AY.o lx 0 ((ns:Int)-1) V);rw[<- Vo] at AZ Xl;clear Vo;cases bv with
            | false =>
             have e0:=A3.o AZ.o;subst e0;go_wp2_with (go_at_call 44;refine(Xl.o _).mono ?_;rintro e w6 ⟨rfl,rfl⟩)
             go_ret;exact⟨rfl,bR.o.trans (pM.o.mono bR.o.size)⟩
            | true =>
             have Jd:Hid (KM.nO nf ns ar es (i+1)=true):=(show KM.nO nf ns ar es (i+1)=true by rw[Gp.o,QM.o,AZ.o];rfl);go_wp2_with (go_at_call 44;refine(Xl.o _).mono ?_;rintro e w6 ⟨rfl,rfl⟩)
             go_roundw
             case rel=>exact⟨i+1,by omega,by go_num,Jd.o,pM.o⟩
             case measure=>simp[intOf];omega
          · rw[if_neg hk,if_neg hk2] at AZ;have b1:(kx==1)=false:=by simpa using hk
            have b2:(kx==2)=false:=by simpa using hk2
            have e0:=A3.o AZ.o;subst e0;go_wp2;go_ret;exact⟨rfl,bR.o.trans (pM.o.mono bR.o.size)⟩
       · have hR0:KM.xB nf ns ar es i=false:=by
          rw[m6.o];cases gf with
          | false=>simp
          | true =>
           have h1:¬i=0:=fun e=>hgo ⟨rfl,.inl e⟩
           have h2:¬(KM.aM es (i-1)).page<pg:=fun e=>hgo ⟨rfl,.inr e⟩
           simp[h1,h2]
         have e0:=A3.o hR0;subst e0;clear m6 hR0 A3 Gp QM;cases gf with
         | false =>
          go_region;go_wp2;go_ret;exact⟨rfl,(bR.o.trans (gw.o.mono bR.o.size)).drew⟩
         | true =>
          have h0:0<i:=by
           by_cases e:i=0
           · exact absurd ⟨rfl,.inl e⟩ hgo
           · omega
          have h2:pg<=(KM.aM es (i-1)).page:=by
           by_cases e:(KM.aM es (i-1)).page<pg
           · exact absurd ⟨rfl,.inr e⟩ hgo
           · omega
          have pw:=HPW.o h0;have hi0:(0:Int)<(i:Int):=by omega
          have Dc:(i:Int)-1=((i-1:Nat):Int):=by omega
          have him:((i:Int)-1).toNat=i-1:=by omega
          have adY:(i:Int)-1<(es.length:Int):=by omega
          have adX:(0:Int)<=(i:Int)-1:=by omega
          clear hgo;go_region;go_wp2;go_ret;exact⟨rfl,(bR.o.trans (gw.o.mono bR.o.size)).drew⟩
     · obtain rfl:i=es.length:=by omega
       have ZZ:ER=true:=HER.o.trans QM.o;subst ZZ;clear HER QM jc MC iy AY;go_wp2;go_loopw [9] (fun iv wq=>∃n:Nat,n<=255/\iv=I ((n:Int)+1)/\KM.jw k.ak ar n=true/\Below WA.heap.size WA wq) (fun iv _=>256-(intOf iv).toNat)
       case atStart=>exact⟨0,by omega,rfl,rfl,DC.o⟩
       case round =>
        obtain⟨n,hn,rfl,Zt,hb⟩:=hrel;have HS:=ai Zt;have YR:=ai hb;obtain⟨⟨k0,k1,k2⟩,x0,x1,x2⟩:=HC.o wr hb;clear Zt hb;by_cases hlt:n<255
        · have hni:(n:Int)+1<=255:=by omega
          have Kj:=ai (ni.o wr ((n:Int)+1) YR.o);have Xt:=ai (fun V hV=>DU.o V ((n:Int)+1) hV);have HX:=ai (vq.o n hlt);have HY:=ai (M8.o n);have HD:Hid (KM.oQ k.ak ar ((n:Int)+1)=!((AM.aR ar ((n:Int)+1)).2&&(!(AM.aR ar ((n:Int)+1)).1.zero&&!(KM.bW k.ak ((n:Int)+1)).isSome))):=rfl;obtain⟨F,hF⟩:=ex (AM.aR ar ((n:Int)+1));obtain⟨H,hH⟩:=ex ((KM.bW k.ak ((n:Int)+1)).isSome);rw[<- hF] at Kj HD;rw[<- hH] at Xt HD;obtain⟨⟨g1,g2,g3,g4⟩,gf⟩:=F;simp only at Kj HD;clear hF hH ni DU vq M8 xE;go_upto_region 24 with(go_at_call 31;refine Kj.o.mono ?_;rintro e w2 ⟨rfl,hb2⟩;have cM:=ai hb2;clear hb2)
          have hb3:=(YR.o.trans (cM.o.mono YR.o.size)).alloc (YR.o.trans (cM.o.mono YR.o.size)).size (.cells #[I g1,I g2,I g3,.bool g4] 47);have ab:=B.new w2 #[I g1,I g2,I g3,.bool g4] 47;obtain⟨W3,hW3⟩:=ex (w2.alloc (.cells #[I g1,I g2,I g3,.bool g4] 47));obtain⟨gb,hgb⟩:=ex w2.heap.size;rw[<- hW3] at hb3 ab ⊢;rw[<- hgb] at ab ⊢;have ed:=ai hb3;have HGB:=ai ab;obtain⟨⟨k0,k1,k2⟩,x0,x1,x2⟩:=HC.o W3 hb3;clear hW3 hgb hb3 ab;go_upto_region 25 with(go_at_call 91;refine(Xt.o _ ed.o).mono ?_;rintro e w4 ⟨⟨q1,q2,q3,q4,q5,rfl⟩,hb4⟩;have gw:=ai (ed.o.trans (hb4.mono ed.o.size));have HG4:=ai (B.below HGB.o hb4 (B.isLt HGB.o));clear hb4)
          have pM:=ai (gw.o.alloc gw.o.size (.cells #[I q1,.string q2,.slice q3 q4 q5] 50));have g5:=B.cell (v:=.bool g4) (B.alloc HG4.o (.cells #[I q1,.string q2,.slice q3 q4 q5] 50)) 3 rfl;obtain⟨W5,hW5⟩:=ex (w4.alloc (.cells #[I q1,.string q2,.slice q3 q4 q5] 50));rw[<- hW5] at pM g5 ⊢;clear hW5 k0 k1 k2 x0 x1 x2;by_cases hbad:gf=true/\g4=false/\H=false
          · obtain⟨rfl,rfl,rfl⟩:=hbad;have e0:SR=false:=HX.o (by rw[HD.o];rfl);subst e0;go_wp2;go_ret;exact⟨rfl,bR.o.trans (pM.o.mono bR.o.size)⟩
          · have Jd:Hid (KM.jw k.ak ar (n+1)=true):=(show KM.jw k.ak ar (n+1)=true by
             rw[HY.o,HS.o,HD.o];revert hbad;cases gf <;> cases g4 <;> cases H <;> simp)
            cases gf with
            | false =>
             go_wp2;go_roundw
             case rel=>exact⟨n+1,by omega,by go_num,Jd.o,pM.o⟩
             case measure=>simp[intOf];omega
            | true =>
             cases g4 with
             | true =>
              go_wp2;go_roundw
              case rel=>exact⟨n+1,by omega,by go_num,Jd.o,pM.o⟩
              case measure=>simp[intOf];omega
             | false =>
              cases H with
              | true =>
               go_wp2;go_roundw
               case rel=>exact⟨n+1,by omega,by go_num,Jd.o,pM.o⟩
               case measure=>simp[intOf];omega
              | false=>exact absurd ⟨rfl,rfl,rfl⟩ hbad
        · obtain rfl:n=255:=by omega
          have e1:SR=true:=xE.o.trans HS.o;subst e1;go_wp2;go_ret;exact⟨rfl,bR.o.trans (YR.o.mono bR.o.size)⟩
  · have cb:(AM.aW ar != 0)=true:=by simpa using hc
    rw[decide_eq_false hc,Bool.false_and];clear VL iy DU;go_enter Tryz.func46,Tryz.ntmps46;go_upto_region 1 with fail;rw[<- eZ.o];go_wp2_with (go_at_call 90;refine Si.o.mono ?_;rintro e w1 ⟨rfl,hb1⟩;have bE:=ai hb1;clear hb1)
    go_ret;exact⟨rfl,bR.o.trans (bE.o.mono bR.o.size)⟩
end KR
end Go.Proofs.YtpgifpeohlllfaaGreat
