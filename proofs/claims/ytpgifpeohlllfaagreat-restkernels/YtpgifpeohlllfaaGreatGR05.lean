import Derived.Test.YtpgifpeohlllfaaGreatGR04
set_option maxHeartbeats 20000000
set_option linter.unusedVariables false
set_option maxRecDepth 100000
set_option linter.unusedSimpArgs false
namespace Go.Proofs.YtpgifpeohlllfaaGreat
open Go.RowKit
def rB (nf ns:Nat) (ar:List aZ) (es:List bG) (i:Nat):Bool:=((bh ar (aH es i).page).2&&(i==0 || decide ((aH es (i-1)).page<(aH es i).page)))&&(if (aH es i).kind=1 then decide (0<=(aH es i).loc/\(aH es i).loc<=(nf:Int)-1) else if (aH es i).kind=2 then decide (0<=(aH es i).loc/\(aH es i).loc<=(ns:Int)-1) else false)
def nI (nf ns:Nat) (ar:List aZ) (es:List bG):Nat->Bool
 | 0=>true
 | k+1=>nI nf ns ar es k&&rB nf ns ar es k
def qq (hs:List bR) (ar:List aZ) (p:Int):Bool:=!((bh ar p).2&&(!(bh ar p).1.zero&&!(cY hs p).isSome))
def l6 (hs:List bR) (ar:List aZ):Nat->Bool
 | 0=>true
 | k+1=>l6 hs ar k&&qq hs ar ((k:Int)+1)
def lh (hs:List bR) (nf ns:Nat) (s:cO):Bool:=if s.live then decide (bB s.bk=0)&&(nI nf ns s.bk s.aU s.aU.length&&l6 hs s.bk 255) else decide (s.bk.length=0)&&decide (s.aU.length=0)
structure qW where
 n:Int
 page:Int
 fine:Bool
 Bp:aZ
def Rc:qW:=⟨0,0,true,rM⟩
def ou (a:qW) (p:Int) (r:aZ):qW:=⟨a.n+1,p,a.fine&&(decide (a.n=0) || (decide (p=a.page)&&r.zero==a.Bp.zero)),r⟩
def Co (ar:List aZ) (kd i:Int) (a:qW) (e:bG):qW:=if e.kind=kd/\e.loc=i then ou a e.page (bh ar e.page).1 else a
def ov (ar:List aZ) (es:List bG) (kd i:Int) (a:qW):Nat->qW
 | 0=>a
 | k+1=>Co ar kd i (ov ar es kd i a k) (aH es k)
def wW (ss:List cO) (kd i:Int):Nat->qW
 | 0=>Rc
 | k+1=>ov (ak ss k).bk (ak ss k).aU kd i (wW ss kd i k) (ak ss k).aU.length
def fE (ss:List cO) (kd i:Int):qW:=wW ss kd i ss.length
def ow (hs:List bR) (f:jm) (a:qW):Bool:=decide (f.refs=a.n)&&(!(decide (a.n=0)&&!lj f)&&!(decide (0<a.n)&&(!a.fine || (decide (f.data.size≠16) || (!f.eX&&decide (f.data≠dY hs a.page a.Bp.zero))))))
def qG (f:lD) (a:qW):Bool:=decide (f.refs=a.n)&&(!(decide (a.n=0)&&!lW f)&&!(decide (0<a.n)&&(!a.fine || decide (f.data.size≠16))))
def oZ (k:aN):Nat->Bool
 | 0=>true
 | n+1=>oZ k n&&lh k.aD k.frames.length k.slots.length (ak k.aj n)
def rA (k:aN):Nat->Bool
 | 0=>true
 | n+1=>rA k n&&ow k.aD (au k.frames n) (fE k.aj 1 n)
def ru (k:aN):Nat->Bool
 | 0=>true
 | n+1=>ru k n&&qG (br k.slots n) (fE k.aj 2 n)
def pq (k:aN):Bool:=ed k.aD&&(decide (0<=k.hand/\k.hand<=(k.frames.length:Int)-1)&&(oZ k k.aj.length&&(decide (fL k.aj<=(k.slots.length:Int))&&(rA k k.frames.length&&ru k k.slots.length))))
theorem tL {f:Nat->Bool} {g:Nat->Bool} (h0:g 0=true) (hs:∀k,g (k+1)=(g k&&f k)):∀n,g n=true↔∀i,i<n->f i=true
 | 0=>⟨fun _ i hi=>by omega,fun _=>h0⟩
 | n+1=>by
  rw[hs,cR,tL h0 hs n]
  grind
theorem Rj {nf ns:Nat} {ar:List aZ} {es:List bG}:nI nf ns ar es es.length=true↔(∀e∈es,pW nf ns ar e)/\iw es:=by
 rw[tL (f:=rB nf ns ar es) rfl (fun _=>rfl),<- Cm];have key:∀i,i<es.length->(rB nf ns ar es i=true↔pW nf ns ar (aH es i)/\nC es i<(aH es i).page):=fun i hi=>by
  unfold rB pW nC;rw[cR,cR,zu,EU,gP];constructor
  · rintro⟨⟨h1,h2⟩,h3⟩;refine⟨⟨h1,?_⟩,?_⟩
    · grind
    · by_cases c:i=0
      · rw[aR c];have:=nU h1;omega
      omega
  grind
 grind
theorem L8 {hs:List bR} {ar:List aZ}:l6 hs ar 255=true↔∀p,(bh ar p).2=true->(bh ar p).1.zero=false->(cY hs p).isSome=true:=by
 rw[tL (f:=fun k=>qq hs ar ((k:Int)+1)) rfl (fun _=>rfl)];constructor
 · intro h p hp hz;have hb:=nU hp;have:=h (p-1).toNat (by omega)
   grind [qq]
 grind [qq]
theorem Ex {hs:List bR} {nf ns:Nat} {s:cO}:lh hs nf ns s=true↔rH hs nf ns s:=by
 unfold lh;by_cases c:s.live=true
 · rw[aR c,cR,cR,gP,Rj,L8];exact⟨fun h=>⟨fun d=>(by grind),h.1,h.2.1.2,h.2.1.1,h.2.2⟩,fun h=>⟨h.bk,⟨h.Hf,h.kP⟩,h.aD⟩⟩
 · rw[bf c,cR,gP,gP];constructor
   · rintro⟨h1,h2⟩;have ha:=iT h1;have he:=iT h2;refine⟨fun _=>⟨ha,he⟩,by rw[ha];rfl,by simp_all,fun e g=>(by grind),fun p hp=>?_⟩;rw[ha] at hp;cases hp
   grind [rH.dead]
structure tN (L:List (Int×Bool)) (a:qW):Prop where
 n:a.n=L.length
 fine:a.fine=true↔∀x∈L,∀y∈L,x=y
 last:L≠[]->(a.page,a.Bp.zero)∈L
theorem Wz {L:List (Int×Bool)} {a:qW} (h:tN L a) (p:Int) (r:aZ):tN (L++[(p,r.zero)]) (ou a p r):=by
 refine⟨by show a.n+1=_;grind [tN.n],?_,fun _=>kq.2 (.inr (by simp[ou]))⟩;show(a.fine&&(decide (a.n=0) || (decide (p=a.page)&&r.zero==a.Bp.zero)))=true↔_;rw[cR,h.fine,zu,cR,gP,gP,EU];constructor
 · rintro⟨h1,h2⟩ x hx y hy;have key:∀z∈L,z=(p,r.zero):=fun z hz=>by
    have hne:L≠[]:=List.ne_nil_of_mem hz;have h2:=h2.resolve_left (fun e=>hne (iT (by grind [tN.n])));rw[h1 z hz _ (h.last hne),h2.1,h2.2]
   grind
 · intro g;refine⟨fun x hx y hy=>g x (kq.2 (.inl hx)) y (kq.2 (.inl hy)),?_⟩;by_cases c:L=[]
   · left;rw[h.n,c];rfl
   · right;have:=g _ (kq.2 (.inl (h.last c))) (p,r.zero) (kq.2 (.inr (by simp)))
     grind
theorem Mc {L:List (Int×Bool)} {a:qW} (h:tN L a) (ar:List aZ) (es:List bG) (kd i:Int):∀k,k<=es.length->tN (L++iP ar kd i (es.take k)) (ov ar es kd i a k)
 | 0,_=>by rw[List.take_zero];show tN (L++[]) a;grind
 | k+1,hk=>by
  have ih:=Mc h ar es kd i k (by omega)
  grind [vO,kH,Co,ov,ot,Wz,lQ]
theorem Ph (ss:List cO) (kd i:Int):∀k,k<=ss.length->tN (ck (ss.take k) kd i) (wW ss kd i k)
 | 0,_=>⟨rfl,⟨fun _ x hx=>(by cases hx),fun _=>rfl⟩,fun e=>absurd rfl e⟩
 | k+1,hk=>by
  have:=Mc (Ph ss kd i k (by omega)) (ak ss k).bk (ak ss k).aU kd i _ (aI _);rw[qd] at this;rw[yA ss k (by omega)];exact this
theorem wh (ss:List cO) (kd i:Int):tN (ck ss kd i) (fE ss kd i):=by
 have:=Ph ss kd i ss.length (aI _);rw[qd] at this;exact this
theorem Mf {hs:List bR} {L:List (Int×Bool)} {a:qW} (h:tN L a) (f:jm):ow hs f a=true↔kI hs L f:=by
 unfold ow;rw[cR,cR,gP];by_cases c:L=[]
 · subst c;have hn:a.n=0:=h.n;rw[hn];simp only[decide_true,lT,Bool.not_not,Int.lt_irrefl,decide_false,tX,EZ,qZ,xc];exact⟨fun e=>by grind [kI.none],fun e=>⟨by rw[e.zero rfl];rfl,e.zero rfl⟩⟩
 · have hp:0<L.length:=Kt.2 c;have hn:0<a.n:=by rw[h.n];omega
   rw[dJ (show ¬a.n=0 by omega),dI hn];simp only[tX,EZ,lT,true_and,Kn,Ku,Bool.not_eq_false',Bool.and_eq_false_iff,P5,Decidable.not_not];constructor
   · rintro⟨h1,h2,h3,h4⟩;refine⟨h1.trans h.n,fun e=>absurd e c,h.fine.1 h2,fun _=>h3,fun d x hx=>?_⟩;rw[h.fine.1 h2 x hx _ (h.last c)]
     grind
   · intro g;refine⟨g.refs.trans h.n.symm,h.fine.2 g.one,g.size c,?_⟩;cases d:f.eX with
     | true=>grind
     | false=>exact .inr (g.fill d _ (h.last c))
theorem L6 {L:List (Int×Bool)} {a:qW} (h:tN L a) (f:lD):qG f a=true↔l7 L f:=by
 unfold qG;rw[cR,cR,gP];by_cases c:L=[]
 · subst c;have hn:a.n=0:=h.n;rw[hn];simp only[decide_true,lT,Bool.not_not,Int.lt_irrefl,decide_false,tX,EZ,qZ,xY];exact⟨fun e=>by grind [l7.none],fun e=>⟨by rw[e.zero rfl];rfl,e.zero rfl⟩⟩
 · have hp:0<L.length:=Kt.2 c;have hn:0<a.n:=by rw[h.n];omega
   rw[dJ (show ¬a.n=0 by omega),dI hn];simp only[tX,EZ,lT,true_and,Kn,Ku,Bool.not_eq_false',P5,Decidable.not_not];constructor
   · rintro⟨h1,h2,h3⟩;exact⟨h1.trans h.n,fun e=>absurd e c,h.fine.1 h2,fun _=>h3⟩
   grind [l7.refs,tN.n,tN.fine,l7.one,l7.size]
theorem Ri (k:aN) (hc:lu k=true):pq k=true↔bc k:=by
 unfold pq;simp only[cR,gP];rw[tL (g:=oZ k) (f:=fun n=>lh k.aD k.frames.length k.slots.length (ak k.aj n)) rfl (fun _=>rfl),tL (g:=rA k) (f:=fun n=>ow k.aD (au k.frames n) (fE k.aj 1 n)) rfl (fun _=>rfl),tL (g:=ru k) (f:=fun n=>qG (br k.slots n) (fE k.aj 2 n)) rfl (fun _=>rfl)];constructor
 · rintro⟨h1,h2,h3,h4,h5,h6⟩;refine⟨hc,h1,by omega,fun s hs=>?_,h4,fun i hi=>(Mf (wh _ _ _) _).1 (h5 i hi),fun i hi=>(L6 (wh _ _ _) _).1 (h6 i hi)⟩;obtain⟨j,hj,rfl⟩:=gU sM hs;exact Ex.1 (h3 j hj)
 · intro h;have hh:=h.hand;exact⟨h.kP,by omega,fun i hi=>Ex.2 (h.sp hi),h.room,fun i hi=>(Mf (wh _ _ _) _).2 (h.yS i hi),fun i hi=>(L6 (wh _ _ _) _).2 (h.slt i hi)⟩
def pB (k:aN):Int:=if lu k=false then 2 else if pq k then 0 else 1
theorem DW (k:aN):pB k=eZ k:=by
 grind [pB,eZ,Ri,Jh]
open Go.RowKit
theorem aA {p:Prop} (h:p):Hid p:=h
theorem ku {a b:Bool} (h:a=b):Ending.returned (.bool a)=.returned (.bool b):=by rw[h]
theorem Fl (n:Int) (w:World):Calls Tryz.prog 209 #[.int .u8 n] w fun e w'=>e=.returned (.bool (ra n))/\w=w':=by
 by_cases h1:97<=n/\n<=122
 · have e:ra n=true:=by grind [ra]
   rw[e];obtain⟨a,b⟩:=h1;go_enter Tryz.func209,Tryz.ntmps209;go_wp2;go_ret
   simp_all
 · by_cases h2:48<=n/\n<=57
   · have e:ra n=true:=by grind [ra]
     rw[e];obtain⟨a,b⟩:=h2;have c:decide (97<=n)=false:=by grind
     clear h1;go_enter Tryz.func209,Tryz.ntmps209;go_wp2;go_ret
     simp_all
   · by_cases h3:n=95
     · subst h3;go_enter Tryz.func209,Tryz.ntmps209;go_wp2;go_ret;exact⟨rfl,rfl⟩
     · have e:ra n=false:=by grind [ra]
       rw[e];have h3':(n==95)=false:=by grind
       by_cases a:97<=n
       · have b:decide (n<=122)=false:=by grind
         have c:48<=n:=by omega
         have d:decide (n<=57)=false:=by grind
         clear h1 h2;go_enter Tryz.func209,Tryz.ntmps209;go_wp2;go_ret
         simp_all
       · by_cases c:48<=n
         · have d:decide (n<=57)=false:=by grind
           clear h1 h2;go_enter Tryz.func209,Tryz.ntmps209;go_wp2;go_ret
           simp_all
         · clear h1 h2;go_enter Tryz.func209,Tryz.ntmps209;go_wp2;go_ret
           simp_all
theorem Qe (s:ByteArray) (w:World) (hs:bT s.size):Calls Tryz.prog 198 #[.string s] w fun e w'=>e=.returned (.bool (rh s))/\w=w':=by
 unfold bT at hs;by_cases h1:1<=s.size
 · by_cases h2:s.size<=12
   · have d1:¬(s.size:Int)<1:=by omega
     have d2:¬12<(s.size:Int):=by omega
     go_enter Tryz.func198,Tryz.ntmps198;go_wp2
     go_loop [14] (fun i=>∃k:Nat,k<=s.size/\i=I k/\∀j (hj:j<s.size),j<k->ra s[j].toNat=true) (fun i=>s.size-(intOf i).toNat)
     case atStart=>exact⟨0,by omega,rfl,fun j _ h=>by omega⟩
     case round =>
      obtain⟨k,hk,rfl,hall⟩:=hrel;have HA:=aA hall;clear hall;by_cases hlt:k<s.size
      · cases hc:ra s[k].toNat
        · have HR:=aA (Y2 s k hlt hc);go_wp2_with (go_at_call 209;refine(Fl _ _).mono ?_;rintro e w' ⟨rfl,rfl⟩;rw[hc])
          go_ret;exact⟨ku HR.o.symm,rfl⟩
        · have HC:=aA hc;go_wp2_with (go_at_call 209;refine(Fl _ _).mono ?_;rintro e w' ⟨rfl,rfl⟩;rw[hc])
          grind [intOf,Hid.o]
      · obtain rfl:k=s.size:=by omega
        have HR:=aA (VD s h1 h2 (fun k hk=>HA.o k hk hk));go_wp2;go_ret;exact⟨ku HR.o.symm,rfl⟩
   · have HR:=aA (K4 s (fun h=>h2 h.2));have d1:¬(s.size:Int)<1:=by omega
     have d2:12<(s.size:Int):=by omega
     go_enter Tryz.func198,Tryz.ntmps198;go_wp2;go_ret;exact⟨ku HR.o.symm,rfl⟩
 · have HR:=aA (K4 s (fun h=>h1 h.1));have d1:(s.size:Int)<1:=by omega
   go_enter Tryz.func198,Tryz.ntmps198;go_wp2;go_ret;exact⟨ku HR.o.symm,rfl⟩
open Go.RowKit
theorem Nn (w:World):Below w.heap.size w w.drew:=⟨rfl,rfl,rfl,aI _,fun _ _=>rfl⟩
theorem fT {a b:Bool} (h:a=b):Ending.returned (.bool a)=.returned (.bool b):=by rw[h]
theorem xJ (s:bR) (w:World) (h:kQ w s.ao s.cM) (hf:vD s) :
  Calls Tryz.prog 146 #[.agg (mZ s)] w fun e w'=>e=.returned (.bool (cu s))/\Below w.heap.size w w':=by
 obtain⟨f1,f2,f3,f4⟩:=hf;obtain⟨pg,dt,fs,ao,cap⟩:=s;simp only at f1 f2 f3 f4;unfold eY at f1;unfold bT at f2 f3;simp only[mZ];have F4:=aA f4;have HH:=aA h;clear f4 h;have HB:=aA ((aK w.heap.size w).alloc (aI _) (.cells #[I pg,.string dt,.slice ao fs.length cap] 50));by_cases h1:pg<1
 · have e:cu ⟨pg,dt,fs,ao,cap⟩=false:=by
    grind [cu,jY]
   rw[e];go_enter Tryz.func146,Tryz.ntmps146;go_wp2;go_ret;exact⟨rfl,HB.o⟩
 by_cases h2:255<pg
 · have e:cu ⟨pg,dt,fs,ao,cap⟩=false:=by
    grind [cu,jY]
   rw[e];go_enter Tryz.func146,Tryz.ntmps146;go_wp2;go_ret;exact⟨rfl,HB.o⟩
 by_cases h3:dt.size=16
 · have h3':(dt.size:Int)=16:=by omega
   have e:jY ⟨pg,dt,fs,ao,cap⟩=true:=by
    grind [jY]
   have E:Hid (cu ⟨pg,dt,fs,ao,cap⟩=dn fs fs.length):=by
    show _=_
    grind [cu]
   clear e h3;go_enter Tryz.func146,Tryz.ntmps146;go_wp2;go_loopw [23,3] (fun i en wr=>∃k:Nat,k<=fs.length/\i=I k/\en=I (l9 fs k)/\dn fs k=true/\Below w.heap.size w wr) (fun i _ _=>fs.length-(intOf i).toNat)
   case atStart=>exact⟨0,by omega,rfl,rfl,rfl,HB.o⟩
   case round =>
    obtain⟨k,hk,rfl,rfl,hg,hb⟩:=hrel;have HG:=aA hg;have qL:=aA hb;clear hg;by_cases hlt:k<fs.length
    · obtain⟨b,off,hao,hbl,eI⟩:=(HH.o.below hb) (by omega);subst hao;obtain⟨c0,c1⟩:=eI k hlt;obtain⟨g1,g2⟩:=F4.o k hlt;have hed:=mq fs k HG.o;obtain⟨f,EP⟩:=ex (ki fs k);rw[<- EP] at c0 c1 g1 g2;unfold eY at g1;unfold bT at g2;have A4:=aA EP;clear EP eI hb;obtain⟨en,hen⟩:=ex (l9 fs k);rw[<- hen] at hed;have oD:=aA hen;rw[<- hen];clear hen;have fV:=aA (qL.o.alloc qL.o.size (.cells #[I f.off,.string f.bytes] 52));by_cases q1:f.off<en
      · have HX:Hid (dn fs fs.length=false):=ql fs k hlt (by rw[<- A4.o,<- oD.o];exact tH (by omega));go_wp2;go_ret;exact⟨fT (by rw[E.o,HX.o]),fV.o⟩
      by_cases q2:16<f.off
      · have HX:Hid (dn fs fs.length=false):=ql fs k hlt (by rw[<- A4.o,<- oD.o];exact tH (by omega));go_wp2;go_ret;exact⟨fT (by rw[E.o,HX.o]),fV.o⟩
      by_cases q3:(f.bytes.size:Int)<1
      · have HX:Hid (dn fs fs.length=false):=ql fs k hlt (by rw[<- A4.o,<- oD.o];exact tH (by omega));go_wp2;go_ret;exact⟨fT (by rw[E.o,HX.o]),fV.o⟩
      by_cases q4:16-f.off<(f.bytes.size:Int)
      · have HX:Hid (dn fs fs.length=false):=ql fs k hlt (by rw[<- A4.o,<- oD.o];exact tH (by omega));go_wp2;go_ret;exact⟨fT (by rw[E.o,HX.o]),fV.o⟩
      · have HX:Hid (dn fs (k+1)=true):=by
         show _=_;simp only[dn,cR];exact⟨HG.o,by rw[<- A4.o,<- oD.o];exact(rO _ _).2 (by omega)⟩
        have HY:Hid (l9 fs (k+1)=f.off+(f.bytes.size:Int)):=by show _=_;simp only[l9];rw[<- A4.o]
        go_wp2;go_roundw
        case rel=>exact⟨k+1,by omega,by go_num,by rw[HY.o],HX.o,fV.o⟩
        case measure=>simp[intOf];omega
    · obtain rfl:k=fs.length:=by omega
      go_wp2;go_ret;exact⟨fT (by rw[E.o,HG.o]),qL.o⟩
 · have e:cu ⟨pg,dt,fs,ao,cap⟩=false:=by
    grind [cu,jY]
   have h3':((dt.size:Int)==16)=false:=by grind
   rw[e];go_enter Tryz.func146,Tryz.ntmps146;go_wp2;go_ret;exact⟨rfl,HB.o⟩
open Go.RowKit
open Go.RowKit
theorem G3 (n:Int) (size:Nat) (w:World) (h2:size<=8) :
  Calls Tryz.prog 138 #[I n,I size] w fun e w'=>e=.returned (.string ⟨(Lib.leBytes size (uV n)).toArray⟩)/\Below w.heap.size w w':=by
 go_enter Tryz.func138,Tryz.ntmps138;go_wp2;go_loopw [0,5,6] (fun t s i wr=>∃k:Nat,k<=size/\i=I k/\t=I (uU n k)/\s=.string ⟨(Lib.leBytes k (uV n)).toArray⟩/\Below w.heap.size w wr) (fun _ _ i _=>size-(intOf i).toNat)
 case atStart=>exact⟨0,by omega,rfl,by rw[UR],rfl,aK _ _⟩
 case round =>
  obtain⟨k,hk,rfl,rfl,rfl,hb⟩:=hrel;by_cases hlt:k<size
  · have hcv:(convert 137 9 (.slice (some (Ad wr.heap.size 0)) 1 1)).run Tryz.prog (wr.alloc (.cells #[.int .u8 (uU n k%256)] 5))=.ok (.string ⟨#[(uV n/256 ^ k%256).toUInt8]⟩) (wr.alloc (.cells #[.int .u8 (uU n k%256)] 5)):=by
     rw[<- G5 n k (by omega)];refine Ky _ 137 5 Tryz.underlying137 Tryz.underlying5 _ 0 1 1 [uU n k%256] rfl ?_ 9 Tryz.underlying9
     simp_all
    have hl:(Lib.leBytes k (uV n)).length=k:=Lib.leBytes_length _ _;have HN:Hid (Lib.leBytes (k+1) (uV n)=Lib.leBytes k (uV n)++[(uV n/256 ^ k%256).toUInt8]):=A6 _ _;go_wp2;go_roundw
    case rel=>grind [UT,Sd,Hid.o,Below.alloc,Below.size]
    grind [intOf]
  · obtain rfl:k=size:=by omega
    go_wp2;go_ret
    simp_all
open Go.RowKit
theorem UQ:(Tryz.prog.info? 5).map (fun i=>(i.zero,i.size,i.bytes))=some (some (.int .u8 0),1,1):=by rfl
open Go.RowKit
theorem XI (s:ByteArray) (w:World) (hlim:s.size<=281474976710656) :
  Calls Tryz.prog 152 #[.string s] w fun e w'=>e=.returned (.string s)/\Below w.heap.size w w':=by
 by_cases h0:s.size=0
 · have hs:s=⟨#[]⟩:=by
    apply ByteArray.ext
    simp_all
   subst hs;go_enter Tryz.func152,Tryz.ntmps152;go_wp2;go_ret;exact⟨rfl,aK _ _⟩
 · obtain⟨i0,hi,hz0,hz1,hz2⟩:=gm UQ;have hinfo:(Tryz.prog.info? 5).map (·.size)=some 1:=by rfl
   have hco:Tryz.prog.cellsOf 5=1:=by rfl
   obtain⟨M,hM⟩:=ex (madeCells (Value.int .u8 0).cells (((s.size:Nat):Int).toNat*i0.size));have hMs:M.size=s.size:=by grind [size_madeCells]
   have hmk:∀W:World,(Instr.makeSlice 137 (I (s.size:Int)) (I (s.size:Int))).run Tryz.prog W=.ok (.slice (some (Ad W.heap.size 0)) s.size s.size) (W.alloc (.cells M 5)):=fun W=>by
    grind [run_make,Tryz.underlying137]
   clear hM;have Hk:=Lib.run_copy_row_string (P:=Tryz.prog) (w.alloc (.cells M 5)) 137 9 3 5 w.heap.size 0 s.size s.size s M 5 Tryz.underlying137 hinfo (Ke w _) (aI _) (by omega);obtain⟨Y,hY⟩:=ex ((M.toList.take 0++Lib.byteCells s.data.toList++M.toList.drop (0+s.size)).toArray);rw[<- hY] at Hk;have hYl:Y.toList=Lib.byteCells s.data.toList:=by
    simp_all
   have hYs:Y.size=s.size:=by grind [Lib.byteCells_length,Lib.size_eq]
   have hgY:((w.alloc (.cells M 5)).setRow w.heap.size Y).heap[w.heap.size]?=some (.cells Y 5 (0,0)):=oP _ _ M _ 5 (0,0) (Ke w _);have hne:s.data.toList≠[]:=fun e=>h0 (by grind [Lib.size_eq])
   have hUS:=Lib.run_unsafeString_row (P:=Tryz.prog) ((w.alloc (.cells M 5)).setRow w.heap.size Y) 235 3 9 5 Tryz.underlying235 hco w.heap.size Y.size (by grind [World.shape?]) s.data.toList hne (by simp_all) (by grind [Lib.size_eq])
    (fun j x hx=>Lib.cells_of_row hgY Y.size j _ (by grind [Lib.byteCells]))
   rw[<- Lib.size_eq] at hUS;clear hY;go_enter Tryz.func152,Tryz.ntmps152;go_wp2;go_ret;have hb1:Below w.heap.size w (w.alloc (.cells M 5)):=(aK _ w).alloc (aI _) _;have hb2:Below w.heap.size (w.alloc (.cells M 5)) ((w.alloc (.cells M 5)).setRow w.heap.size Y):=⟨rfl,rfl,rfl,by simp,fun k hk=>setRow_other _ _ _ _ (by omega)⟩;exact⟨rfl,Lib.below_freeze (hb1.trans hb2) (p:=(Ad w.heap.size 0)) (aI _) _⟩
theorem MC (s:ByteArray) (w:World) (hlim:s.size<=281474976710656) :
  Calls Tryz.prog 116 #[.string s] w fun e w'=>e=.returned (.string s)/\Below w.heap.size w w':=by
 go_enter Tryz.func116,Tryz.ntmps116;go_wp2_with (go_at_call 152;refine(XI _ _ hlim).mono ?_;rintro e w' ⟨rfl,hb⟩)
 go_ret
 simp_all
theorem yK (l o n:Int) (w:World) (h1:0<=o) (h2:0<=n) (h3:o<=l) (h4:n<=l-o) (h5:l<=9223372036854775807) :
  Calls Tryz.prog 115 #[I l,I o,I n] w fun e w'=>e=.returned (.bool true)/\w=w':=by
 go_enter Tryz.func115,Tryz.ntmps115;go_wp2;go_ret
 simp_all
theorem CL (s:ByteArray) (o n:Nat) (w:World) (hs:s.size<=140737488351232) (h:o+n<=s.size) :
  Calls Tryz.prog 63 #[.string s,I o,I n] w fun e w'=>e=.returned (.tuple #[.string (s.extract o (o+n)),I 0])/\Below w.heap.size w w':=by
 go_enter Tryz.func63,Tryz.ntmps63;go_wp2_with (first | (go_at_call 115;refine(yK _ _ _ _ (by omega) (by omega) (by omega) (by omega) (by omega)).mono ?_;rintro e w' ⟨rfl,rfl⟩) | (go_at_call 116;refine(MC _ _ (by simp;omega)).mono ?_;rintro e w' ⟨rfl,hb⟩))
 go_ret2
 simp_all
theorem EL (s t:ByteArray) (o:Nat) (w:World) (hs:s.size<=140737488351232) (h:o+t.size<=s.size) :
  Calls Tryz.prog 65 #[.string s,I o,.string t] w fun e w'=>e=.returned (.tuple #[.string (gF s o t),I 0])/\Below w.heap.size w w':=by
 obtain⟨i0,hi,hz0,hz1,hz2⟩:=gm UQ;have hinfo:(Tryz.prog.info? 5).map (·.size)=some 1:=by rfl
 obtain⟨c,hc⟩:∃c,grownCap w s.size 0 5=c:=⟨_,rfl⟩;have hcs:s.size<=c:=by grind [grownCap_ge]
 have hcv:=run_bytes_of_string (P:=Tryz.prog) w 9 137 5 s Tryz.underlying9 Tryz.underlying137 Tryz.underlying5;rw[hc] at hcv;clear hc;have hRs:(bytesRow s c).size=c:=by grind [Iw]
 have hov:=Ov s o t c h;obtain⟨R,hR⟩:=ex (bytesRow s c);rw[<- hR] at hcv hRs hov;clear hR;rw[hRs] at hcv;have hgR:((w.alloc (.cells R 5 (c,c+1))).drew).heap[w.heap.size]?=some (.cells R 5 (c,c+1)):=Ke w _;by_cases h0:t.size=0
 · have Hk:=fun W d l c=>Lib.run_copy_empty_string (P:=Tryz.prog) W 137 9 3 5 d l c t Tryz.underlying137 (by rfl) h0
   rw[UX s o t h0] at hov ⊢;have hcb:(convert 137 9 (.slice (some (Ad w.heap.size 0)) s.size c)).run Tryz.prog ((w.alloc (.cells R 5 (c,c+1))).drew)=.ok (.string s) ((w.alloc (.cells R 5 (c,c+1))).drew):=by
    have es:strOfNums (s.data.toList.map fun b=>(b.toNat:Int))=s:=(xt _).trans (Lib.mk_data s);refine Eq.trans ?_ (dQ (fun x=>Result.ok (Value.string x) ((w.alloc (.cells R 5 (c,c+1))).drew)) es);refine Ky _ 137 5 Tryz.underlying137 Tryz.underlying5 _ 0 s.size c _ (by simp_all) ?_ 9 Tryz.underlying9;intro i hi;have ht:t.data.toList=[]:=iT (by simp_all);have e:=hov i hi;rw[ht,h0] at e;rw[gM,PN _ _ _ _ _ _ hgR]
    simp_all [Lib.byteCells]
   go_enter Tryz.func65,Tryz.ntmps65;go_wp2_with (first | (go_at_call 115;refine(yK _ _ _ _ (by omega) (by omega) (by omega) (by omega) (by omega)).mono ?_;rintro e w' ⟨rfl,rfl⟩))
   all_goals go_ret2
   all_goals exact⟨rfl,((aK _ _).alloc (aI _) _).drew⟩
 · have hno:¬c=o:=by omega
   have Hk:=MD (P:=Tryz.prog) ((w.alloc (.cells R 5 (c,c+1))).drew) 137 9 3 5 w.heap.size o (s.size-o) (c-o) t R 5 c (c+1) Tryz.underlying137 hinfo hgR (by omega) (by omega) (by omega);obtain⟨Y,hY⟩:=ex ((R.toList.take o++Lib.byteCells t.data.toList++R.toList.drop (o+t.size)).toArray);rw[<- hY] at Hk;have hgY:(((w.alloc (.cells R 5 (c,c+1))).drew).setRow w.heap.size Y).heap[w.heap.size]?=some (.cells Y 5 (c,c+1)):=oP _ _ R _ 5 (c,c+1) hgR;have hcb:(convert 137 9 (.slice (some (Ad w.heap.size 0)) s.size c)).run Tryz.prog (((w.alloc (.cells R 5 (c,c+1))).drew).setRow w.heap.size Y)=.ok (.string (gF s o t)) (((w.alloc (.cells R 5 (c,c+1))).drew).setRow w.heap.size Y):=by
    rw[<- Lib.mk_data (gF s o t),<- xt];refine Ky _ 137 5 Tryz.underlying137 Tryz.underlying5 _ 0 s.size c _ (by grind [G6]) ?_ 9 Tryz.underlying9;intro i hi;rw[gM,PN _ _ _ _ _ _ hgY,hY]
    grind
   clear hov hY;go_enter Tryz.func65,Tryz.ntmps65;go_wp2_with (first | (go_at_call 115;refine(yK _ _ _ _ (by omega) (by omega) (by omega) (by omega) (by omega)).mono ?_;rintro e w' ⟨rfl,rfl⟩))
   go_ret2
   exact⟨rfl,below_setRow ((aK _ _).alloc (aI _) _).drew (aI _) _⟩
theorem UO (s t:ByteArray) (o:Nat) (w:World) (hs:s.size<=140737488351232) (h:o+t.size<=s.size) :
  Calls Tryz.prog 68 #[.string s,I o,.string t] w fun e w'=>e=.returned (.string (gF s o t))/\Below w.heap.size w w':=by
 have h1:(o:Int)<=(s.size:Int):=by omega
 go_enter Tryz.func68,Tryz.ntmps68;go_wp2
 go_quiet (fail)
 go_wp2;go_ret;simp[Ou,ko,aK]
open Go.RowKit
theorem Y5 {s t:ByteArray} {a b:Int} (h:s=t) (g:a=b):Ending.returned (.tuple #[.string s,I a])=.returned (.tuple #[.string t,I b]):=by rw[h,g]
theorem Tu (s:bR) (w:World) (h:kQ w s.ao s.cM) (hf:vD s) :
  Calls Tryz.prog 148 #[.agg (mZ s)] w fun e w'=>e=.returned (.tuple #[.string (pc s).1,I (pc s).2])/\Below w.heap.size w w':=by
 have HR:Hid (∀W,Below w.heap.size w W->Calls Tryz.prog 146 #[.agg (mZ s)] W fun e w'=>e=.returned (.bool (cu s))/\Below W.heap.size W w'):=fun W hb=>xJ s W (h.below hb) hf
 obtain⟨f1,f2,f3,f4⟩:=hf;obtain⟨pg,dt,fs,ao,cap⟩:=s;simp only at f1 f2 f3 f4;unfold bT at f2 f3;simp only[mZ] at HR;simp only[mZ];have hdl:dt.size<=maxLen:=by grind [maxLen]
 have F4:=aA f4;have HH:=aA h;clear f4 h f1;have HB:=aA ((aK w.heap.size w).alloc (aI _) (.cells #[I pg,.string dt,.slice ao fs.length cap] 50));have BX:=aA (bO w #[I pg,.string dt,.slice ao fs.length cap] 50);by_cases hs:cu ⟨pg,dt,fs,ao,cap⟩=true
 · have HN:Hid (pc ⟨pg,dt,fs,ao,cap⟩=(lV dt fs fs.length,0)):=by
    show _=_;unfold pc;rw[aR hs];rfl
   obtain⟨hd,Vv⟩:jY ⟨pg,dt,fs,ao,cap⟩=true/\dn fs fs.length=true:=by
    grind [cu]
   have h16:dt.size=16:=by
    grind [jY]
   have Xt:=aA Vv;rw[hs] at HR;clear hs hd Vv;go_enter Tryz.func148,Tryz.ntmps148;go_wp2_with (first | (go_at_call 146;refine(HR.o _ HB.o).mono ?_;rintro e w1 ⟨rfl,hb⟩;have HB:=aA (HB.o.trans (hb.mono HB.o.size));have BX:=aA (aQ BX.o hb (aT BX.o));have q0:=aB BX.o 0 rfl;have q1:=aB BX.o 1 rfl;have q2:=aB BX.o 2 rfl;clear hb) | (go_at_call 116;refine(MC _ _ (by omega)).mono ?_;rintro e w2 ⟨rfl,hb⟩;have HB:=aA (HB.o.trans (hb.mono HB.o.size));have BX:=aA (aQ BX.o hb (aT BX.o));have q0:=aB BX.o 0 rfl;have q1:=aB BX.o 1 rfl;have q2:=aB BX.o 2 rfl;clear hb))
   go_loopw [16,4] (fun i d wr=>∃k:Nat,k<=fs.length/\i=I k/\d=.string (lV dt fs k)/\Below w.heap.size w wr) (fun i _ _=>fs.length-(intOf i).toNat)
   case atStart=>exact⟨0,by omega,rfl,rfl,HB.o⟩
   case round =>
    obtain⟨k,hk,rfl,rfl,hb⟩:=hrel;have qL:=aA hb;by_cases hlt:k<fs.length
    · obtain⟨b,off,hao,hbl,eI⟩:=(HH.o.below hb) (by omega);subst hao;obtain⟨c0,c1⟩:=eI k hlt;have hok:=(rO _ _).1 (yo fs fs.length Xt.o k hlt);have YW:dn fs k=true:=by
       cases e:dn fs k
       · rw[qm fs k fs.length (by omega) e] at Xt;cases Xt
       · rfl
      have hed:=mq fs k YW;have hsz:=sA dt fs h16 k YW;have qH:Hid (lV dt fs (k+1)=gF (lV dt fs k) (ki fs k).off.toNat (ki fs k).bytes):=rfl;obtain⟨f,EP⟩:=ex (ki fs k);rw[<- EP] at c0 c1 hok qH;obtain⟨D,hD⟩:=ex (lV dt fs k);rw[<- hD] at hsz qH;rw[<- hD];obtain⟨o,ho⟩:∃o:Nat,f.off=(o:Int):=⟨f.off.toNat,by omega⟩;rw[ho] at c0 hok;rw[ho,jn] at qH;clear EP hD YW eI hb;have fV:=aA (qL.o.alloc qL.o.size (.cells #[I (o:Int),.string f.bytes] 52));go_wp2_with (go_at_call 65;refine(EL D f.bytes o _ (by omega) (by omega)).mono ?_;rintro e w3 ⟨rfl,hb⟩;have fV:=aA (fV.o.trans (hb.mono fV.o.size));clear hb)
      go_roundw
      case rel=>exact⟨k+1,by omega,by go_num,by rw[qH.o],fV.o⟩
      case measure=>simp[intOf];omega
    · obtain rfl:k=fs.length:=by omega
      go_wp2
      go_ret2
      exact⟨Y5 (by rw[HN.o]) (by rw[HN.o]),qL.o⟩
 · have hs':cu ⟨pg,dt,fs,ao,cap⟩=false:=by grind
   have HN:Hid (pc ⟨pg,dt,fs,ao,cap⟩=(⟨#[]⟩,1)):=by
    show _=_
    grind [pc]
   rw[hs'] at HR;clear hs hs';rw[HN.o];go_enter Tryz.func148,Tryz.ntmps148;go_wp2_with (go_at_call 146;refine(HR.o _ HB.o).mono ?_;rintro e w1 ⟨rfl,hb⟩;have HB:=aA (HB.o.trans (hb.mono HB.o.size));clear hb)
   go_ret2
   exact⟨rfl,HB.o⟩
open Go.RowKit
def fB (f:jm):List Value:=[.string f.data,I f.refs,.bool f.eX,.bool f.seen]
def fA (f:lD):List Value:=[.string f.data,I f.refs]
def bj (e:bG):List Value:=[I e.page,I e.kind,I e.loc]
def Yr {α:Type} (f:α->List Value) (k:Nat) (d:α) (w:World) (b off:Nat) (l:List α):Prop:=∀i,i<l.length->∀j,j<k->w.cell? (Ad b (off+i*k+j))=(f (l.getD i d))[j]?
def cJ {α:Type} (f:α->List Value) (k:Nat) (d:α) (w:World) (ao:Option Addr) (l:List α):Prop:=gB (Yr f k d) w ao l
theorem cJ.below {α:Type} {f:α->List Value} {k:Nat} {d:α} {w w':World} {ao:Option Addr} {l:List α} (h:cJ f k d w ao l) (hb:Below w.heap.size w w'):cJ f k d w' ao l :=
 gB.below (lie:=Yr f k d) (fun hb hlt h i hi j hj=>(fF hb hlt).trans (h i hi j hj)) h hb
def Gp (w:World) (b off:Nat) (l:List cO):Prop:=∀i,i<l.length->∃va ap cp,w.cell? (Ad b (off+i*3))=some (.bool (ak l i).live)/\w.cell? (Ad b (off+i*3+1))=some va/\w.cell? (Ad b (off+i*3+2))=some (.slice ap (ak l i).aU.length cp)/\fu w va (ak l i).bk/\cJ bj 3 dW w ap (ak l i).aU/\(ak l i).aU.length<=cp
theorem aa0 {w w':World} {b off:Nat} {l:List cO} (hb:Below w.heap.size w w') (hlt:b<w.heap.size) (h:Gp w b off l):Gp w' b off l:=fun i hi=>by
 obtain⟨va,ap,cp,c0,c1,c2,c3,c4,c5⟩:=h i hi;exact⟨va,ap,cp,(fF hb hlt).trans c0,(fF hb hlt).trans c1,(fF hb hlt).trans c2,c3.below hb,c4.below hb,c5⟩
def qQ (w:World) (ao:Option Addr) (l:List cO):Prop:=gB Gp w ao l
theorem qQ.below {w w':World} {ao:Option Addr} {l:List cO} (h:qQ w ao l) (hb:Below w.heap.size w w'):qQ w' ao l:=gB.below (lie:=Gp) (fun hb hlt h=>aa0 hb hlt h) h hb
structure fR where
 aS:Option Addr
 cS:Nat
 aF:Option Addr
 cF:Nat
 aL:Option Addr
 cL:Nat
 aP:Option Addr
 cP:Nat
structure gD (w:World) (a:fR) (k:aN):Prop where
 aD:fX w a.aS k.aD
 frames:cJ fB 4 eW w a.aF k.frames
 slots:cJ fA 2 jS w a.aL k.slots
 aj:qQ w a.aP k.aj
theorem gD.below {w w':World} {a:fR} {k:aN} (h:gD w a k) (hb:Below w.heap.size w w'):gD w' a k:=⟨h.aD.below hb,h.frames.below hb,h.slots.below hb,h.aj.below hb⟩
def bg (a:fR) (k:aN):Array Value:=#[.slice a.aS k.aD.length a.cS,.slice a.aF k.frames.length a.cF,.slice a.aL k.slots.length a.cL,.slice a.aP k.aj.length a.cP,I k.hand]
structure BW (s:cO):Prop where
 bk:fU s.bk
 aU:bT s.aU.length
 Hf:∀i,i<s.aU.length->eY (aH s.aU i).page/\eY (aH s.aU i).kind/\eY (aH s.aU i).loc
structure iI (k:aN):Prop where
 aD:nk k.aD
 nf:bT k.frames.length
 fr:∀i,i<k.frames.length->bT (au k.frames i).data.size/\eY (au k.frames i).refs
 ns:bT k.slots.length
 sl:∀i,i<k.slots.length->bT (br k.slots i).data.size/\eY (br k.slots i).refs
 np:bT k.aj.length
 sp:∀i,i<k.aj.length->BW (ak k.aj i)
 hand:eY k.hand
theorem DJ (vS vF vL vP:Option Addr) (nS cS nF cF nL cL nP cP:Nat) (hd:Value) (w:World) :
  Calls Tryz.prog 109 #[.agg #[.slice vS nS cS,.slice vF nF cF,.slice vL nL cL,.slice vP nP cP,hd]] w fun e w'=>e=.returned (.bool (decide ((3<=nF/\nF<=64)/\nL<=512/\(1<=nP/\nP<=4)/\nS<=255)))/\Below w.heap.size w w':=by
 obtain⟨A,hA⟩:=ex (decide ((3<=nF/\nF<=64)/\nL<=512/\(1<=nP/\nP<=4)/\nS<=255));rw[<- hA];have HA:=ai hA;clear hA;rcases(show ¬(3:Int)<=nF∨((3:Int)<=nF/\¬(nF:Int)<=64)∨((3:Int)<=nF/\(nF:Int)<=64/\¬(nL:Int)<=512)∨((3:Int)<=nF/\(nF:Int)<=64/\(nL:Int)<=512/\¬(1:Int)<=nP)∨((3:Int)<=nF/\(nF:Int)<=64/\(nL:Int)<=512/\(1:Int)<=nP/\¬(nP:Int)<=4)∨((3:Int)<=nF/\(nF:Int)<=64/\(nL:Int)<=512/\(1:Int)<=nP/\(nP:Int)<=4/\¬(nS:Int)<=255)∨((3:Int)<=nF/\(nF:Int)<=64/\(nL:Int)<=512/\(1:Int)<=nP/\(nP:Int)<=4/\(nS:Int)<=255) by omega) with g | ⟨g,g1⟩ | ⟨g,g1,g2⟩ | ⟨g,g1,g2,g3⟩ | ⟨g,g1,g2,g3,g4⟩ | ⟨g,g1,g2,g3,g4,g5⟩ | ⟨g,g1,g2,g3,g4,g5⟩
 all_goals
  go_enter Tryz.func109,Tryz.ntmps109;go_wp2;go_ret;exact⟨dQ (fun b=>Ending.returned (.bool b)) (by grind [Hid.o]),(aK _ _).alloc (aI _) _⟩
open Go.RowKit
def oY (G:Nat->ByteArray):Nat->List Value
 | 0=>[]
 | n+1=>oY G n++[.string (G n)]
def rq (G:Nat->ByteArray) (n:Nat) (d:ByteArray):Nat->ByteArray:=fun k=>if k=n then d else G k
theorem oq (G:Nat->ByteArray):∀n,(oY G n).length=n
 | 0=>rfl
 | n+1=>by rw[oY,fk,oq G n];rfl
theorem BJ (G:Nat->ByteArray) (n:Nat):∀m,n<m->(oY G m)[n]?=some (.string (G n))
 | 0,h=>by omega
 | m+1,h=>by
  rw[oY];by_cases c:n<m
  · rw[KD (by grind [oq]),BJ G n m c]
  grind [oq]
theorem DG (F G:Nat->ByteArray):∀m,(∀k,k<m->F k=G k)->oY F m=oY G m
 | 0,_=>rfl
 | m+1,h=>by rw[oY,oY,DG F G m (fun k hk=>h k (by omega)),h m (by omega)]
theorem I1 (G:Nat->ByteArray) (n:Nat) (d:ByteArray):∀m,n<m->(oY G m).set n (.string d)=oY (rq G n d) m
 | 0,h=>by omega
 | m+1,h=>by
  rw[oY,oY];by_cases c:n<m
  · rw[E6 _ _ (by grind [oq]),I1 G n d m c]
    grind [rq]
  · obtain rfl:n=m:=by omega
    rw[vv _ _ (by grind [oq]),oq,Nat.sub_self,DG (rq G n d) G n (fun k hk=>by grind [rq])]
    grind [rq]
def kS (a b c d e:Value) (G:Nat->ByteArray):Array Value:=([a,b,c,d,e]++oY G 256).toArray
theorem LL (a b c d e:Value) (G:Nat->ByteArray) (n:Nat) (h:n<256):(kS a b c d e G)[5+n]?=some (.string (G n)):=by
 grind [kS,BJ]
theorem TM (a b c d e:Value) (G:Nat->ByteArray) (n:Nat) (x:ByteArray) (h:n<256):(kS a b c d e G).setIfInBounds (5+n) (.string x)=kS a b c d e (rq G n x):=by
 grind [kS,I1]
def pS:Nat->ByteArray:=fun _=>⟨#[]⟩
def kz (hs:List bR):Nat->Nat->ByteArray
 | 0=>pS
 | k+1=>rq (kz hs k) (aV hs k).page.toNat (mI (aV hs k))
theorem BQ (hs:List bR) (hr:ed hs=true) (n:Nat):kz hs hs.length n=eO hs n:=by
 have hrise:=Bt hs hr;have hat:∀i,i<hs.length->1<=(aV hs i).page:=fun i hi=>by
  have:=(ng hs hs.length hr i hi).1
  grind [cu,jY]
 have key:∀k,k<=hs.length->(∀i,i<k->(aV hs i).page≠(n:Int))->kz hs k n=⟨#[]⟩:=fun k=>by
  induction k with
  | zero=>intro _ _;rfl
  | succ k ih =>
   intro hk h;show rq (kz hs k) _ _ n=_
   grind [rq]
 have ala:∀k,k<=hs.length->∀j,j<k->(aV hs j).page=(n:Int)->kz hs k n=mI (aV hs j):=fun k=>by
  induction k with
  | zero=>omega
  | succ k ih =>
   intro hk j hj e;show rq (kz hs k) _ _ n=_;unfold rq;by_cases c:j=k
   · grind
   · have hlt:(aV hs j).page<(aV hs k).page:=by
      have:=(P7.1 hrise) j k (by grind) (by grind) (by omega)
      grind [aV]
     grind
 unfold eO;cases g:cY hs n with
 | none =>
  have h:=List.find?_eq_none.1 g
  grind [aV]
 | some s =>
  have hm:=Kz g;have hp:=List.find?_some g;obtain⟨j,hj,rfl⟩:=gU tE hm;exact ala _ (aI _) j hj (kr hp)
theorem QM {s:bR} (h:cu s=true):pc s=(mI s,0):=by grind [pc]
theorem TR {s:bR} (h:cu s=false):pc s=(⟨#[]⟩,1):=by grind [pc]
theorem Gm (hs:List bR) (aS:Option Addr) (cS mb:Nat) (b c d e:Value) (w0 w:World) (h:fX w0 aS hs) (hf:nk hs) (hw:Below w0.heap.size w0 w) (hmb:w0.heap.size<=mb) (hm:w.heap[mb]?=some (.cells (kS (.slice aS hs.length cS) b c d e pS) 104 (0,0))) (hl:hs.length<=255) :
  Calls Tryz.prog 110 #[.pointer (some (Ad mb 0))] w fun x w'=>x=.returned (.bool (ed hs))/\aM (fun b=>b=mb) w w'/\∃G,w'.heap[mb]?=some (.cells (kS (.slice aS hs.length cS) b c d e G) 104 (0,0))/\(ed hs=true->G=kz hs hs.length):=by
 have HH:=ai h;have HF:=ai hf;have HW:=ai hw;have hlt:=aT hm;have m0:w.cell? (Ad mb 0)=some (.slice aS hs.length cS):=aB hm 0 rfl;have HM:=ai hm;have Ip:Hid (∀k,k<hs.length->(cu (aV hs k)=false∨(aV hs k).page<=(if k=0 then 0 else (aV hs (k-1)).page))->ed hs=false):=fun k hk g=>IU hs k hk (by
  grind [kZ,cu,jY])
 have HST:Hid (∀k,k<hs.length->gX hs k=true->cu (aV hs k)=true->(if k=0 then 0 else (aV hs (k-1)).page)<(aV hs k).page->gX hs (k+1)=true):=fun k hk h1 h2 h3=>by
  grind [gX,kZ]
 clear h hf hw hm;go_enter Tryz.func110,Tryz.ntmps110;go_wp2;go_loopw [3,14] (fun lv iv wr=>∃k:Nat,k<=hs.length/\iv=I (k:Int)/\lv=I (if k=0 then 0 else (aV hs (k-1)).page)/\gX hs k=true/\aM (fun b=>b=mb) w wr/\wr.heap[mb]?=some (.cells (kS (.slice aS hs.length cS) b c d e (kz hs k)) 104 (0,0))) (fun _ iv _=>hs.length-(intOf iv).toNat)
 case atStart=>exact⟨0,by omega,rfl,rfl,rfl,aM.refl _ _,HM.o⟩
 case round =>
  obtain⟨k,hk,rfl,rfl,hr,KE,hmk⟩:=hrel;have UJ:=ai KE;have HMK:=ai hmk;have HR:=ai hr;clear hr;obtain⟨L,hL⟩:∃L:Int,L=if k=0 then 0 else (aV hs (k-1)).page:=⟨_,rfl⟩
  rw[<- hL];by_cases zF:k<hs.length
  · have hbk:=KE.below HW.o (by omega) (fun b hb=>by omega);have HBK:=ai hbk;obtain⟨bb,off,hao,hbl,eI⟩:=HH.o (by omega);subst hao;obtain⟨d0,d1,d2,d3⟩:=eI k zF;have hsz:=KE.size;have c0:=(hbk.cell (p:=(Ad bb (off+k*3))) hbl).trans d0;have c1:=(hbk.cell (p:=(Ad bb (off+k*3+1))) hbl).trans d1;have c2:=(hbk.cell (p:=(Ad bb (off+k*3+2))) hbl).trans d2;have Dx:=HF.o.2 k zF;have HC:Hid (∀V,Below w0.heap.size w0 V->Calls Tryz.prog 148 #[.agg (mZ (aV hs k))] V fun e w'=>e=.returned (.tuple #[.string (pc (aV hs k)).1,I (pc (aV hs k)).2])/\Below V.heap.size V w'):=fun V hV=>Tu _ V (d3.below hV) Dx
    have Ip:=ai (Ip.o k zF);have HST:=ai (HST.o k zF HR.o);have Vf:=Dx.page;have HFG:Hid (kz hs (k+1)=rq (kz hs k) (aV hs k).page.toNat (mI (aV hs k))):=rfl;have Xr:Hid (cu (aV hs k)=true->1<=(aV hs k).page/\(aV hs k).page<=255):=fun g=>by
     unfold cu jY at g;simp only[cR,gP] at g;omega
    have KM:=ai (@QM (aV hs k));have Z2:=ai (@TR (aV hs k));have SH:Hid ((if k+1=0 then 0 else (aV hs (k+1-1)).page)=(aV hs k).page):=by
     show _=_;rw[bf (by omega),Ks]
    unfold mZ at HC;obtain⟨S,hS⟩:=ex (aV hs k);rw[<- hL] at Ip HST;rw[<- hS] at c0 c1 c2 HC Ip HST Vf HFG Xr KM Z2 SH;obtain⟨pg,dt,fx,fo,fc⟩:=S;simp only at c0 c1 c2 HC Ip HST Vf HFG Xr KM Z2 SH;obtain⟨nx,hnx⟩:=ex fx.length;rw[<- hnx] at c2 HC;clear hS hL hnx d0 d1 d2 d3 eI Dx hbk KE hmk;cases Bi:cu ⟨pg,dt,fx,fo,fc⟩ with
    | false =>
     have EH:=ai (Ip.o (.inl Bi));have R7:=ai (Z2.o Bi);rw[R7.o] at HC;clear KM Z2 R7 Bi Ip HST HFG Xr SH;have fV:=ai (HBK.o.alloc (by omega) (.cells #[I pg,.string dt,.slice fo nx fc] 50));have KA:=ai ((UJ.o.trans (aM.alloc (fun b=>b=mb) wr (.cells #[I pg,.string dt,.slice fo nx fc] 50)) (fun _ _ g=>g)));have MA:=ai (bM HMK.o (.cells #[I pg,.string dt,.slice fo nx fc] 50));have SA:=ai (bO wr #[I pg,.string dt,.slice fo nx fc] 50);clear HM m0 HH HF;go_wp2_with (go_at_call 148;refine(HC.o _ fV.o).mono ?_;rintro e w1 ⟨rfl,hb1⟩;have dz:=ai hb1;have S1:=ai (aQ SA.o hb1 (by simp));clear hb1)
     go_ret;have hM:=aQ MA.o dz.o (by simp;omega);exact⟨dQ (fun b=>Ending.returned (.bool b)) EH.o.symm,KA.o.trans (aM.cH dz.o) (fun _ _ g=>g),_,hM,fun g=>by rw[EH.o] at g;cases g⟩
    | true =>
     have R7:=ai (KM.o Bi);rw[R7.o] at HC;have hpb:=Xr.o Bi;by_cases hlp:pg<=L
     · have EH:=ai (Ip.o (.inr hlp));clear KM Z2 R7 Bi Ip HST HFG Xr SH;have fV:=ai (HBK.o.alloc (by omega) (.cells #[I pg,.string dt,.slice fo nx fc] 50));have KA:=ai ((UJ.o.trans (aM.alloc (fun b=>b=mb) wr (.cells #[I pg,.string dt,.slice fo nx fc] 50)) (fun _ _ g=>g)));have MA:=ai (bM HMK.o (.cells #[I pg,.string dt,.slice fo nx fc] 50));have SA:=ai (bO wr #[I pg,.string dt,.slice fo nx fc] 50);clear HM m0 HH HF;go_wp2_with (go_at_call 148;refine(HC.o _ fV.o).mono ?_;rintro e w1 ⟨rfl,hb1⟩;have dz:=ai hb1;have S1:=ai (aQ SA.o hb1 (by simp));have s0:w1.cell? (Ad wr.heap.size 0)=some (I pg):=aB S1.o 0 rfl;clear hb1)
       go_ret;have hM:=aQ MA.o dz.o (by simp;omega);exact⟨dQ (fun b=>Ending.returned (.bool b)) EH.o.symm,KA.o.trans (aM.cH dz.o) (fun _ _ g=>g),_,hM,fun g=>by rw[EH.o] at g;cases g⟩
     · have RV:=ai (HST.o Bi (by omega));clear KM Z2 R7 Bi Ip HST Xr;have alG:¬mb=wr.heap.size:=by omega
       have fV:=ai (HBK.o.alloc (by omega) (.cells #[I pg,.string dt,.slice fo nx fc] 50));have KA:=ai ((UJ.o.trans (aM.alloc (fun b=>b=mb) wr (.cells #[I pg,.string dt,.slice fo nx fc] 50)) (fun _ _ g=>g)));have MA:=ai (bM HMK.o (.cells #[I pg,.string dt,.slice fo nx fc] 50));have SA:=ai (bO wr #[I pg,.string dt,.slice fo nx fc] 50);clear HM m0 HH HF;go_wp2_with (go_at_call 148;refine(HC.o _ fV.o).mono ?_;rintro e w1 ⟨rfl,hb1⟩;have dz:=ai hb1;have S1:=ai (aQ SA.o hb1 (by simp));have s0:w1.cell? (Ad wr.heap.size 0)=some (I pg):=aB S1.o 0 rfl;clear hb1)
       obtain⟨n,rfl⟩:∃n:Nat,pg=(n:Int):=⟨pg.toNat,by omega⟩;have hM:=aQ MA.o dz.o (by simp;omega);have Ji:=ai hM;have K1:=ai (KA.o.trans (aM.cH dz.o) (fun _ _ g=>g));have q5:w1.cell? (Ad mb (5+n))=some (.string (kz hs k n)):=aB hM (5+n) (LL _ _ _ _ _ _ n (by omega));have qf:w1.frozen? (Ad mb (5+n))=false:=aO hM (5+n);have n0:(0:Int)<=(n:Int):=by omega
       have n1:(n:Int)<256:=by omega
       rw[jn] at HFG;obtain⟨FD,hFD⟩:=ex (mI { page:=(n:Int),data:=dt,cM:=fx,ao:=fo,cap:=fc });rw[<- hFD] at HFG ⊢;clear hM hFD HC c0 c1 c2;go_region;have Vo:=ai ((dD Ji.o (5+n) (.string FD)).trans (by rw[TM _ _ _ _ _ _ n FD (by omega),<- HFG.o]));have K2:=ai (K1.o.trans ((aM.set (fun b=>b=mb) w1 (Ad mb (5+n)) (.string FD) rfl).trans (aM.drew _ _) (fun _ _ g=>g)) (fun _ _ g=>g));have s2:(w1.setCell (Ad mb (5+n)) (.string FD)).drew.cell? (Ad wr.heap.size 0)=some (I (n:Int)):=(eQ w1 mb (5+n) wr.heap.size 0 (.string FD) (fun e=>alG e.symm)).trans s0;obtain⟨W2,hW2⟩:=ex ((w1.setCell (Ad mb (5+n)) (.string FD)).drew);have YC:Hid (W2.heap[mb]?=some (.cells (kS (.slice (some (Ad bb off)) hs.length cS) b c d e (kz hs (k+1))) 104 (0,0))):=by rw[hW2];exact Vo.o
       rw[<- hW2] at K2 s2 ⊢;clear hW2 Vo Ji K1 q5 qf s0;go_wp2;go_roundw
       case rel=>exact⟨k+1,by omega,by go_num,by rw[bf (by omega),Ks,<- SH.o,bf (by omega),Ks],RV.o,K2.o,YC.o⟩
       case measure=>simp[intOf];omega
  · obtain rfl:k=hs.length:=by omega
    clear KE hmk hL;go_wp2;go_ret;exact⟨dQ (fun b=>Ending.returned (.bool b)) HR.o.symm,UJ.o,_,HMK.o,fun _=>rfl⟩
end Go.Proofs.YtpgifpeohlllfaaGreat
