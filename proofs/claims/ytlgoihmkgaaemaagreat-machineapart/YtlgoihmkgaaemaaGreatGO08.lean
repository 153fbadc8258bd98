import Derived.Test.YtlgoihmkgaaemaaGreatGO07
import Derived.Lib.Repeat
set_option maxHeartbeats 20000000
set_option linter.unusedVariables false
set_option maxRecDepth 100000
set_option linter.unusedSimpArgs false
namespace Go.Proofs.YtlgoihmkgaaemaaGreat
open Go.RowKit
theorem YH (l:List pR) (k n:Nat) (h:sU l k=false) (hk:k<=n):sU l n=false:=by
 induction n with
 | zero=>grind
 | succ n ih =>
  grind [sU]
theorem aa9 (l:List pR) (k:Nat) (hk:k<l.length) (h:sU l (k+1)=false):CT l=false:=YH l (k+1) l.length h hk
theorem SG (l:List pR) (ao:Option Addr) (cap:Nat) (w:World) (h:gU zW w ao l) (hn:b7 l.length) (hr:l.all lC=true) :
  Calls Tryz.prog 161 #[.slice ao l.length cap] w fun e w'=>e=.returned (.bool (!CT l))/\Below w.heap.size w w':=by
 unfold b7 at hn;have H:=aA h;have F:=aA hr;clear h hr;go_enter Tryz.func161,Tryz.ntmps161;go_wp2;go_loopw [3] (fun i wr=>∃k:Nat,1<=k/\(k<=l.length∨k=1)/\i=I k/\sU l k=true/\Below w.heap.size w wr) (fun i _=>l.length-(intOf i).toNat)
 case atStart=>exact⟨1,by omega,.inr rfl,rfl,rfl,aK _ _⟩
 case round =>
  obtain⟨k,hk1,hk,rfl,hall,hb⟩:=hrel;have HA:=aA hall;have HB:=aA hb;clear hall;by_cases hlt:k<l.length
  · obtain⟨b,off,hao,hbl,hl⟩:=H.o (by omega);subst hao;obtain⟨c0,c1,c2,c3,c4⟩:=zV hb hbl hl k hlt;obtain⟨e0,e1,e2,e3,e4⟩:=zV hb hbl hl (k-1) (by omega);have g1:0<=(eN l (k-1)).page/\1<=(eN l (k-1)).aQ/\(eN l (k-1)).page+(eN l (k-1)).aQ<=255/\_:=o5 (Qp lC Ii l (k-1) (by omega) F.o);have hov:Hid (sU l (k+1)=decide ((eN l (k-1)).page+(eN l (k-1)).aQ<=(eN l k).page)):=by
     show _=_;simp only[sU,HA.o,tN,YO]
     grind
    obtain⟨s,hs⟩:=ex (eN l k);obtain⟨t,ht⟩:=ex (eN l (k-1));rw[<- hs] at c0 c1 c2 c3 c4 hov;rw[<- ht] at e0 e1 e2 e3 e4 g1 hov;clear hs ht hb hl;obtain⟨sp,sn,sd,sx,sy⟩:=s;obtain⟨tp,tn,td,tx,ty⟩:=t;simp only at c0 c1 c2 c3 c4 e0 e1 e2 e3 e4 g1 hov;obtain⟨g1,g2,g3,g4⟩:=g1;clear c1 c2 c3 c4 e2 e3 e4 g4;have Us:(k:Int)<(l.length:Int):=by omega
    have CM:=jt wr;have hkc:=@fR wr;have hbr:b<wr.heap.size:=fD hbl HB.o.size;have k0:∀x:dW wr.heap.size wr,x.world.cell? (Ad b (off+k*5))=some (I sp):=fun x=>by rw[hkc x _ _ hbr,c0]
    have k1:∀x:dW wr.heap.size wr,x.world.cell? ⟨b,off+(k-1)*5,none⟩=some (I tp):=fun x=>by rw[hkc x _ _ hbr,e0]
    have k2:∀x:dW wr.heap.size wr,x.world.cell? ⟨b,off+(k-1)*5+1,none⟩=some (I tn):=fun x=>by rw[hkc x _ _ hbr,e1]
    clear hkc c0 e0 e1;by_cases d:sp<tp+tn
    · have hno:Hid (sU l (k+1)=false):=by show _=_;rw[hov.out];exact jq (by omega)
      go_wp2;refine dA (by kernel_rfl) (by kernel_rfl) ?_
      repeat (first | go_big_quiet_step (fail) | quiet_step (fail))
      refine jo ?_;intro _ hw';obtain⟨x,hw''⟩:=hw';subst hw'';go_wp2;go_ret;exact⟨l7 (by rw[aa9 l k hlt hno.out];rfl),HB.o.trans (x.keeps.mono HB.o.size)⟩
    · have alF:Hid (sU l (k+1)=true):=by show _=_;rw[hov.out];exact ic (by omega)
      go_wp2;refine dA (by kernel_rfl) (by kernel_rfl) ?_
      repeat (first | go_big_quiet_step (fail) | quiet_step (fail))
      refine jo ?_;intro _ hw';obtain⟨x,hw''⟩:=hw';subst hw'';go_wp2;go_roundw
      case rel=>exact⟨k+1,by omega,.inl (by omega),by go_num,alF.out,HB.o.trans (x.keeps.mono HB.o.size)⟩
      case measure=>simp[intOf];omega
  · have HR:Hid (CT l=true):=by
     show _=_;unfold CT;rcases hk with hk | hk
     · rw[show l.length=k by omega];exact HA.o
     · rcases Nat.lt_or_ge l.length 1 with h0 | h0
       · rw[show l.length=0 by omega];rfl
       · rw[show l.length=k by omega];exact HA.o
    have hge:¬(k:Int)<(l.length:Int):=by omega
    clear hb;go_wp2;go_ret;exact⟨l7 (by rw[HR.o];rfl),HB.o⟩
open Go.RowKit
def zR (s:pR):Array Value:=#[I s.page,I s.aQ,.string s.data,.bool s.wr,.bool s.ex]
def Dz (l:List pR) (a:Int):pR:=(tP l a).getD Ii
theorem DB:∀(l:List pR) (a:Int),(∀j,j<l.length->sG (eN l j) a=false)->tP l a=none
 | [],_,_=>rfl
 | s::r,a,h=>by
  have h0:sG s a=false:=h 0 (by simp);unfold tP;rw[h0,au (by simp)];exact DB r a (fun j hj=>h (j+1) (by grind))
theorem DA:∀(l:List pR) (a:Int) (k:Nat),k<l.length->(∀j,j<k->sG (eN l j) a=false)->sG (eN l k) a=true->tP l a=some (eN l k)
 | s::r,a,0,_,_,h=>by
  have h0:sG s a=true:=h;unfold tP;rw[h0,aB rfl];rfl
 | s::r,a,k+1,hk,hj,h=>by
  have h0:sG s a=false:=hj 0 (by omega);unfold tP;rw[h0,au (by simp)];exact DA r a k (by grind) (fun j h=>hj (j+1) (by omega)) h
theorem Qi {l:List pR} (h:l.all lC=true) (k:Nat) (hk:k<l.length):0<=(eN l k).page/\1<=(eN l k).aQ/\(eN l k).page+(eN l k).aQ<=255/\((eN l k).data.size:Int)<=(eN l k).aQ*16 :=
 o5 (Qp lC Ii l k hk h)
theorem YG {l:List pR} (h:l.all lC=true) (a:Int) (ha:a<0):tP l a=none :=
 DB l a (fun j hj=>by
  have:=Qi h j hj;exact jq (by omega))
theorem Mr {a b:pR} {x y:Bool} (h:a=b) (g:x=y):Ending.returned (.tuple #[.agg (zR a),.bool x])=.returned (.tuple #[.agg (zR b),.bool y]):=by rw[h,g]
theorem AY (l:List pR) (ao:Option Addr) (cap:Nat) (a:Int) (w:World) (h:gU zW w ao l) (hn:b7 l.length) (hr:l.all lC=true) (ha:cN a) :
  Calls Tryz.prog 201 #[.slice ao l.length cap,I a] w fun e w'=>e=.returned (.tuple #[.agg (zR (Dz l a)),.bool (iZ l a)])/\Below w.heap.size w w':=by
 unfold b7 at hn;unfold cN at ha;have H:=aA h;have F:=aA hr;clear h hr;by_cases h0:a<0
 · have HN:=aA (YG F.o a h0);have HZ:=aA ((aK w.heap.size w).alloc (aD _) (.cells #[I 0,I 0,.string ⟨#[]⟩,.bool false,.bool false] 166));go_enter Tryz.func201,Tryz.ntmps201;go_wp2;exact bI (v:=.tuple #[.agg #[I 0,I 0,.string ⟨#[]⟩,.bool false,.bool false],.bool false]) (by simp[results,Tryz.results201,go_sem]) rfl ⟨Mr (a:=Ii) (x:=false) (by grind [Dz,Hid.o]) (by grind [iZ,Hid.o]),HZ.o⟩
 · have hbz:Below w.heap.size w (w.alloc (.cells #[I 0,I 0,.string ⟨#[]⟩,.bool false,.bool false] 166)):=(aK _ _).alloc (aD _) _;have HZ:=aA hbz;clear hbz;go_enter Tryz.func201,Tryz.ntmps201;go_wp2;go_loopw [16] (fun i wr=>∃k:Nat,k<=l.length/\i=I k/\(∀j,j<k->sG (eN l j) a=false)/\Below (w.heap.size+1) (w.alloc (.cells #[I 0,I 0,.string ⟨#[]⟩,.bool false,.bool false] 166)) wr) (fun i _=>l.length-(intOf i).toNat)
   case atStart=>grind [Below.refl]
   case round =>
    obtain⟨k,hk,rfl,hno,hb⟩:=hrel;have HN:=aA hno;have HB:=aA hb;have xf:Hid (Below w.heap.size w wr):=HZ.o.trans (hb.mono (kZ _));have hsz:w.heap.size+1<=wr.heap.size:=by have:=hb.size;simpa using this
    have HR:=aA (aN (bB w #[I 0,I 0,.string ⟨#[]⟩,.bool false,.bool false] 166) hb (Pm _));clear hno hb;by_cases hlt:k<l.length
    · obtain⟨b,off,hao,hbl,hl⟩:=H.o (by omega);subst hao;obtain⟨c0,c1,c2,c3,c4⟩:=zV xf.out hbl hl k hlt;obtain⟨g1,g2,g3,g4⟩:=Qi F.o k hlt;obtain⟨s,hs⟩:=ex (eN l k);rw[<- hs] at c0 c1 c2 c3 c4 g1 g2 g3 g4;have HS:=aA hs;clear hs hl;obtain⟨p,n,d,x,y⟩:=s;simp only at c0 c1 c2 c3 c4 g1 g2 g3 g4;have Us:(k:Int)<(l.length:Int):=by omega
      clear g4;by_cases d1:p<=a/16
      · by_cases d2:a/16<p+n
        · have hin:Hid (sG (eN l k) a=true):=by show _=_;rw[<- HS.o];exact ic (show p*16<=a/\a<(p+n)*16 by omega)
          have t0:=aq (bk HR.o (.cells #[I p,I n,.string d,.bool x,.bool y] 166)) 0 rfl;have t1:=aq (bk HR.o (.cells #[I p,I n,.string d,.bool x,.bool y] 166)) 1 rfl;have t2:=aq (bk HR.o (.cells #[I p,I n,.string d,.bool x,.bool y] 166)) 2 rfl;have t3:=aq (bk HR.o (.cells #[I p,I n,.string d,.bool x,.bool y] 166)) 3 rfl;have t4:=aq (bk HR.o (.cells #[I p,I n,.string d,.bool x,.bool y] 166)) 4 rfl;have u0:=aO (bk HR.o (.cells #[I p,I n,.string d,.bool x,.bool y] 166));have HW2:=aA (xf.out.alloc xf.out.size (.cells #[I p,I n,.string d,.bool x,.bool y] 166));go_wp2;exact bI (v:=.tuple #[.agg #[I p,I n,.string d,.bool x,.bool y],.bool true]) (by simp[results,Tryz.results201,go_sem,t0,t1,t2,t3,t4]) rfl ⟨Mr (a:=⟨p,n,d,x,y⟩) (x:=true) (by unfold Dz;rw[DA l a k hlt HN.o hin.out];exact HS.o) (by unfold iZ;rw[DA l a k hlt HN.o hin.out];rfl),(((((HW2.o.setCell (aD _) _).setCell (aD _) _).setCell (aD _) _).setCell (aD _) _).setCell (aD _) _)⟩
        · have Nh:Hid (sG (eN l k) a=false):=by show _=_;rw[<- HS.o];exact jq (show ¬(p*16<=a/\a<(p+n)*16) by omega)
          go_wp2;go_roundw
          case rel=>exact⟨k+1,by omega,by go_num,fun j hj=>if e:j=k then by rw[e];exact Nh.out else HN.o j (by omega),HB.o.alloc (by omega) _⟩
          case measure=>simp[intOf];omega
      · have Nh:Hid (sG (eN l k) a=false):=by show _=_;rw[<- HS.o];exact jq (show ¬(p*16<=a/\a<(p+n)*16) by omega)
        go_wp2;go_roundw
        case rel=>exact⟨k+1,by omega,by go_num,fun j hj=>if e:j=k then by rw[e];exact Nh.out else HN.o j (by omega),HB.o.alloc (by omega) _⟩
        case measure=>simp[intOf];omega
    · obtain rfl:k=l.length:=by omega
      have HNo:=aA (DB l a HN.o);have t0:=aq HR.o 0 rfl;have t1:=aq HR.o 1 rfl;have t2:=aq HR.o 2 rfl;have t3:=aq HR.o 3 rfl;have t4:=aq HR.o 4 rfl;have u0:=aO HR.o;go_wp2;exact bI (v:=.tuple #[.agg #[I 0,I 0,.string ⟨#[]⟩,.bool false,.bool false],.bool false]) (by simp[results,Tryz.results201,go_sem,t0,t1,t2,t3,t4]) rfl ⟨Mr (a:=Ii) (x:=false) (by unfold Dz;rw[HNo.o];rfl) (by unfold iZ;rw[HNo.o];rfl),(((((xf.out.setCell (aD _) _).setCell (aD _) _).setCell (aD _) _).setCell (aD _) _).setCell (aD _) _)⟩
open Go.RowKit
theorem Oy {l:List pR} (h:l.all lC=true) (a:Int) (hp:iZ l a=true):0<=a/\a<4080:=by
 induction l with
 | nil=>cases hp
 | cons s r ih =>
  grind [lC,iZ,tP,sG]
open Go.RowKit
theorem Kf (i:wV) (a:Kk) (w:World) (h:qm w a i) (hf:Kj i) (hr:i.jK.all lC=true):Calls Tryz.prog 166 #[.agg (jM a i)] w fun e w'=>e=.returned (.bool (CR i))/\Below w.heap.size w w':=by
 obtain⟨an,cn,ag,cg,ay,cy,ar,cr⟩:=a;obtain⟨nm,ns,gs,ys,rs,en⟩:=i;obtain⟨h1,h2,h3,h4⟩:=h;obtain⟨f1,f2,f3,f4,f5,f6,f7,f8,f9,f10⟩:=hf;simp only at h1 h2 h3 h4 f1 f2 f3 f4 f5 f6 f7 f8 f9 f10;have F4:=aA f4;unfold b7 at f2 f4 f6 f8;simp only[jM];have H2:=aA h2;have F10:=aA f10;have HG:=aA hr;clear h1 h2 h3 h4 f3 f5 f7 f9 f10 hr;have BOX:=aA (bB w #[.string nm,.slice an ns.length cn,.slice ag gs.length cg,.slice ay ys.length cy,.slice ar rs.length cr,I en] 56);have gB:=aA ((aK w.heap.size w).alloc (aD _) (.cells #[.string nm,.slice an ns.length cn,.slice ag gs.length cg,.slice ay ys.length cy,.slice ar rs.length cr,I en] 56));obtain⟨X,hX⟩:∃X:Array Value,X=#[.string nm,.slice an ns.length cn,.slice ag gs.length cg,.slice ay ys.length cy,.slice ar rs.length cr,I en]:=⟨_,rfl⟩;have HX:=aA hX;rw[<- hX] at BOX gB;clear hX;have aqi:=F10.o;unfold cN at aqi;have HE:Hid (CR ⟨nm,ns,gs,ys,rs,en⟩=(iZ gs en&&((Dz gs en).ex&&decide (en%8=0)))):=by
  show _=_
  grind [CR,iZ,Dz]
 rw[HE.o];have hpb:iZ gs en=true->0<=en:=fun h=>(Oy HG.o en h).1
 obtain⟨sg,hsg⟩:=ex (Dz gs en);obtain⟨pb,Fh⟩:=ex (iZ gs en);have HS:=aA hsg;have HP:=aA Fh;rw[<- Fh] at hpb;rw[<- hsg,<- Fh];obtain⟨sp,sn,sd,sx,sy⟩:=sg;simp only;clear HE hsg Fh;cases pb
 · clear hpb;go_enter Tryz.func166,Tryz.ntmps166;go_wp2_with fail
   rw[<- HX.o];refine(AY gs ag cg en _ (gU.below (lie:=zW) (fun hb hlt h=>zV hb hlt h) H2.o gB.o) F4.o HG.o F10.o).mono ?_;rintro e w2 ⟨rfl,hb2⟩;have gK:=aA (gB.o.trans (hb2.mono gB.o.size));have BX2:=aA (aN BOX.o hb2 (aJ BOX.o));clear hb2;rw[<- HS.o,<- HP.o];simp only[zR];go_wp2;go_ret;exact⟨rfl,gK.o.alloc gK.o.size _⟩
 · have hp:=hpb rfl;clear hpb;cases sy
   · go_enter Tryz.func166,Tryz.ntmps166;go_wp2_with fail
     rw[<- HX.o];refine(AY gs ag cg en _ (gU.below (lie:=zW) (fun hb hlt h=>zV hb hlt h) H2.o gB.o) F4.o HG.o F10.o).mono ?_;rintro e w2 ⟨rfl,hb2⟩;have gK:=aA (gB.o.trans (hb2.mono gB.o.size));have BX2:=aA (aN BOX.o hb2 (aJ BOX.o));clear hb2;rw[<- HS.o,<- HP.o];simp only[zR];go_wp2;go_ret;exact⟨rfl,gK.o.alloc gK.o.size _⟩
   · by_cases d:en%8=0
     · rw[ic d];go_enter Tryz.func166,Tryz.ntmps166;go_wp2_with fail
       rw[<- HX.o];refine(AY gs ag cg en _ (gU.below (lie:=zW) (fun hb hlt h=>zV hb hlt h) H2.o gB.o) F4.o HG.o F10.o).mono ?_;rintro e w2 ⟨rfl,hb2⟩;have gK:=aA (gB.o.trans (hb2.mono gB.o.size));have BX2:=aA (aN BOX.o hb2 (aJ BOX.o));have Mm:=aJ BX2.o;have by5:=aq BX2.o 5 (by rw[HX.o];rfl);clear hb2;rw[<- HS.o,<- HP.o];simp only[zR];go_wp2;go_ret;exact⟨rfl,gK.o.alloc gK.o.size _⟩
     · rw[jq d];go_enter Tryz.func166,Tryz.ntmps166;go_wp2_with fail
       rw[<- HX.o];refine(AY gs ag cg en _ (gU.below (lie:=zW) (fun hb hlt h=>zV hb hlt h) H2.o gB.o) F4.o HG.o F10.o).mono ?_;rintro e w2 ⟨rfl,hb2⟩;have gK:=aA (gB.o.trans (hb2.mono gB.o.size));have BX2:=aA (aN BOX.o hb2 (aJ BOX.o));have Mm:=aJ BX2.o;have by5:=aq BX2.o 5 (by rw[HX.o];rfl);clear hb2;rw[<- HS.o,<- HP.o];simp only[zR];go_wp2;go_ret;exact⟨l7 (by grind),gK.o.alloc gK.o.size _⟩
open Go.RowKit Go.WideMaps Go.Maps
theorem Qj:Keyed Tryz.prog 9:=string_keyed Tryz.underlying9
theorem VB (w:World):(zeroValue 3).run Tryz.prog w=.ok (I 0) w:=by rfl
def Cc (s:ByteArray):Lit:=.string s.data.toList
theorem Jl {s t:ByteArray} (h:Cc s=Cc t):s=t:=by
 unfold Cc at h;injection h with h;cases s;simp_all
theorem Uv {s:ByteArray} (h:b7 s.size):keyOf Tryz.prog 9 (.string s)=some (Cc s):=keyOf_string_mk Tryz.underlying9 (by grind [b7,maxLen])
instance aj6:LawfulBEq ByteArray where
 eq_of_beq {a b} h:=by
  cases a;cases b;congr 1;exact eq_of_beq (α:=Array UInt8) h
 rfl {a}:=by
  cases a;exact beq_self_eq_true (α:=Array UInt8) _
def adb (l:List ByteArray) (k:Nat) (D:DataW Unit):Prop:=∀s:ByteArray,D.atKey (Cc s) (.lit (.int .i64 0))=.lit (.int .i64 (if (l.take k).contains s then 1 else 0))
theorem aa7 (l:List ByteArray):adb l 0 (.map []):=fun s=>by rfl
theorem EK (l:List ByteArray) (k:Nat) (hk:k<l.length) (s:ByteArray):(l.take (k+1)).contains s=((l.take k).contains s || s==qW l k):=by
 grind [List.take_add_one,qW]
theorem aa8 {l:List ByteArray} {k:Nat} {D:DataW Unit} (hk:k<l.length) (hD:IsMap D) (h:adb l k D):adb l (k+1) (D.put (Cc (qW l k)) (.lit (.int .i64 1))):=fun s=>by
 rw[EK l k hk s];by_cases e:s=qW l k
 · subst e;rw[atKey_put_same hD (by trivial)];simp
 · rw[atKey_put_other (fun g=>e (Jl g)),h s]
   grind
theorem YI (l:List ByteArray) (k n:Nat) (h:oK l k=false) (hk:k<=n):oK l n=false:=by
 induction n with
 | zero=>grind
 | succ n ih =>
  grind [oK]
theorem YE (l:List ByteArray) (ao:Option Addr) (cap:Nat) (w:World) (h:gU Qq w ao l) (hn:b7 l.length) (hf:∀k,k<l.length->b7 (qW l k).size) :
  Calls Tryz.prog 162 #[.slice ao l.length cap] w fun e w'=>e=.returned (.bool (!xP l))/\Below w.heap.size w w':=by
 unfold b7 at hn;have H:=aA h;have F:=aA hf;clear h hf;have hmm:=@run_makeMap Tryz.prog;go_enter Tryz.func162,Tryz.ntmps162;go_wp2;go_loopw [9] (fun i wr=>∃(k:Nat) (D:DataW Unit),k<=l.length/\i=I k/\wr.ownsMap Tryz.prog 9 (plainElem Tryz.prog 3) w.heap.size k D/\adb l k D/\oK l k=true/\Below w.heap.size w wr) (fun i _=>l.length-(intOf i).toNat)
 case atStart=>exact⟨0,.map [],sD _,rfl,World.ownsMap_made _ _ _ _,aa7 l,rfl,(aK _ _).alloc (aD _) _⟩
 case round =>
  obtain⟨k,D,hk,rfl,hown,amf,Yx,hb⟩:=hrel;have HO:=aA Yx;have HC:=aA amf;have HB:=aA hb;have HW:=aA hown;clear Yx amf;by_cases hlt:k<l.length
  · obtain⟨b,off,hao,hbl,hl⟩:=H.o (by omega);subst hao;have Us:(k:Int)<(l.length:Int):=by omega
    have c0:=afR hb hbl hl k hlt;have fs:=F.o k hlt;have HCS:=aA (aa8 hlt hown.isMap HC.o);have HN:Hid (oK l (k+1)=!(l.take k).contains (qW l k)):=by show(oK l k&&_)=_;rw[HO.o];rfl
    have hcx:=HC.o (qW l k);obtain⟨s,hs⟩:=ex (qW l k);rw[<- hs] at c0 fs HCS HN hcx;clear hs hb hl;have hkey:=Uv fs;obtain⟨c,hrun,hat,_⟩:=hown.lookup_int Qj Tryz.underlying316 Tryz.underlying3 (VB _) hkey;rw[hcx] at hat
    have rW:k<maxLen:=by unfold maxLen;omega
    cases hc:(l.take k).contains s
    · rw[hc] at hat HN;have e:c=0:=by grind
      subst e;clear hat hcx;go_wp2_with (first | (at_mapUpdate;refine Vo _ rfl _ _ _ 316 rfl 9 3 Qj Tryz.underlying316 _ w.heap.size k _ rfl HW.o rW _ _ _ rfl rfl hkey _ [] (plainElem_int Tryz.underlying3 (by decide)) ?_) | go_in)
      intro w1 hown1 hgrow1;have R2:=aA (HB.o.grown hgrow1 HB.o.size (fun j hj=>by grind));obtain⟨c,alK,Mp,_⟩:=hown1.lookup_int Qj Tryz.underlying316 Tryz.underlying3 (VB _) hkey;rw[atKey_put_same HW.o.isMap (by trivial)] at Mp;have e:c=1:=by injection Mp with Mp;injection Mp with _ Mp;omega
      subst e;have HW1:=aA hown1;clear Mp hown hrun hgrow1 hown1;go_wp2;go_roundw
      case rel=>exact⟨k+1,_,by omega,by go_num,HW1.o,HCS.o,HN.o,R2.o⟩
      case measure=>simp[intOf];omega
    · rw[hc] at hat HN;have e:c=1:=by grind
      subst e;clear hat hcx;have HR:=aA (YI l (k+1) l.length HN.o hlt);go_wp2_with (first | (at_mapUpdate;refine Vo _ rfl _ _ _ 316 rfl 9 3 Qj Tryz.underlying316 _ w.heap.size k _ rfl HW.o rW _ _ _ rfl rfl hkey _ [] (plainElem_int Tryz.underlying3 (by decide)) ?_) | go_in)
      intro w1 hown1 hgrow1;have R2:=aA (HB.o.grown hgrow1 HB.o.size (fun j hj=>by grind));obtain⟨c,alK,Mp,_⟩:=hown1.lookup_int Qj Tryz.underlying316 Tryz.underlying3 (VB _) hkey;rw[atKey_put_same HW.o.isMap (by trivial)] at Mp;have e:c=2:=by injection Mp with Mp;injection Mp with _ Mp;omega
      subst e;clear Mp hown hrun hgrow1 hown1;go_wp2;go_ret;exact⟨l7 (by unfold xP;rw[HR.o];rfl),R2.o⟩
  · obtain rfl:k=l.length:=by omega
    clear hb;go_wp2;go_ret;exact⟨l7 (by unfold xP;rw[HO.o];rfl),HB.o⟩
open Go.RowKit Go.WideMaps Go.Maps
structure iW where
 i:wV
 a:Kk
def abB:iW:=⟨⟨⟨#[]⟩,[],[],[],[],0⟩,⟨none,0,none,0,none,0,none,0⟩⟩
def cD (l:List iW) (k:Nat):iW:=l.getD k abB
def A8 (x:iW):Value:=.agg (jM x.a x.i)
def KI (w:World) (b off:Nat) (l:List iW):Prop:=∀k,k<l.length ->
 (w.cell? (Ad b (off+k*6))=some (.string (cD l k).i.name)/\w.cell? (Ad b (off+k*6+1))=some (.slice (cD l k).a.an (cD l k).i.needs.length (cD l k).a.cn) /\
  w.cell? (Ad b (off+k*6+2))=some (.slice (cD l k).a.ag (cD l k).i.jK.length (cD l k).a.cg)/\w.cell? (Ad b (off+k*6+3))=some (.slice (cD l k).a.ay (cD l k).i.syms.length (cD l k).a.cy) /\
  w.cell? (Ad b (off+k*6+4))=some (.slice (cD l k).a.ar (cD l k).i.qd.length (cD l k).a.cr)/\w.cell? (Ad b (off+k*6+5))=some (I (cD l k).i.entry))/\qm w (cD l k).a (cD l k).i
theorem ah9 {w w':World} {b off:Nat} {l:List iW} (hb:Below w.heap.size w w') (hlt:b<w.heap.size) (h:KI w b off l):KI w' b off l:=fun k hk=>by
 obtain⟨⟨c0,c1,c2,c3,c4,c5⟩,hi⟩:=h k hk
 grind [cM,qm.below]
def DM (w:World) (ao:Option Addr) (l:List iW):Prop:=gU KI w ao l
theorem DM.below {w w':World} {ao:Option Addr} {l:List iW} (h:DM w ao l) (hb:Below w.heap.size w w'):DM w' ao l:=gU.below (lie:=KI) (fun hb hlt h=>ah9 hb hlt h) h hb
def adj (l:List iW):Prop:=b7 l.length/\∀k,k<l.length->Kj (cD l k).i
def oL (l:List iW):Nat->Int
 | 0=>0
 | k+1=>if oL l k=0 then mC (cD l k).i else oL l k
def kj (l:List iW):List ByteArray:=l.map (·.i.name)
def oM (l:List iW):Int:=if oL l l.length=0 then (if xP (kj l) then 0 else 5) else oL l l.length
theorem Fw (l:List iW) (k:Nat) (h:oL l k≠0):∀n,k<=n->oL l n=oL l k
 | 0,hn=>by grind
 | n+1,hn=>by
  by_cases e:k=n+1
  · grind
  · have ih:=Fw l k h n (by omega)
    grind [oL]
theorem Il (l:List iW):∀n,oL l n=0->∀k,k<n->mC (cD l k).i=0
 | 0,_,k,hk=>by omega
 | n+1,h,k,hk=>by
  simp only[oL] at h;by_cases e0:oL l n=0
  · rw[aB e0] at h;by_cases e:k=n
    · grind
    · exact Il l n e0 k (by omega)
  omega
theorem Kz (l:List iW) (k:Nat) (hk:k<l.length):qW (kj l) k=(cD l k).i.name:=by
 grind [qW,kj,cD]
theorem tR (l:List iW):(kj l).length=l.length:=by simp[kj]
def Y3 (v:Value):Option (DataW Value×List MemPlace):=some (.held v,[])
def ah4:Value:=.agg #[.string ⟨#[]⟩,Nl,Nl,Nl,Nl,I 0]
structure KG (l:List iW) (k:Nat) (D:DataW Value):Prop where
 has:∀s,Maps.has D (Cc s)=((kj l).take k).contains s
 at_:oK (kj l) k=true->∀j,j<k->D.atKey (Cc (cD l j).i.name) (.held ah4)=.held (A8 (cD l j))
 le:Maps.size D<=k
 all:Maps.size D=k↔oK (kj l) k=true
theorem aby (l:List iW):KG l 0 (.map []):=⟨fun s=>by rfl,fun _ j hj=>by omega,by simp[Maps.size],by simp[Maps.size,oK]⟩
theorem abA (l:List iW) (k j:Nat) (hj:j<k) (hk:k<=l.length):((kj l).take k).contains (cD l j).i.name=true:=by
 have h1:j<((kj l).take k).length:=by grind [tR]
 have h2:((kj l).take k)[j]=(cD l j).i.name:=by
  rw[List.getElem_take];have h3:j<(kj l).length:=by grind
  have:=Kz l j (by omega)
  grind [qW]
 grind
theorem abz {l:List iW} {k:Nat} {D:DataW Value} (hk:k<l.length) (hD:IsMap D) (hT:Maps.Tidy D) (h:KG l k D):KG l (k+1) (D.put (Cc (cD l k).i.name) (.held (A8 (cD l k)))):=by
 have hc:=fun s=>EK (kj l) k (by grind [tR]) s
 have hat:=Kz l k hk;have hon:oK (kj l) (k+1)=(oK (kj l) k&&!((kj l).take k).contains (cD l k).i.name):=by grind [oK]
 have hsz:=Maps.size_put (k:=Cc (cD l k).i.name) hT (.held (A8 (cD l k)));rw[h.has] at hsz;refine⟨fun s=>?_,fun ho j hj=>?_,?_,?_⟩
 · rw[hc s,hat];by_cases e:s=(cD l k).i.name
   · subst e;rw[Maps.has_put_same hD (by trivial)];simp
   grind [Maps.has_put_other,Jl,KG.has]
 · rw[hon] at ho;simp only[eO,Bool.not_eq_true'] at ho;by_cases e:j=k
   · subst e;exact atKey_put_same hD (by trivial) _ _
   grind [abA,atKey_put_other,Jl,KG.at_]
 · have:=h.le
   grind
 · rw[hon];have h1:=h.le
   grind [KG.all]
open Go.RowKit
def aia (all:List iW) (s:ByteArray):Option Nat:=all.findIdx? (fun x=>decide (x.i.name=s))
def afU (ix:List Nat) (j:Nat):List Nat:=if ix.contains j then ix else ix++[j]
def Y1 (all:List iW) (ix:List Nat) (needs:List ByteArray):Nat->Option (List Nat)
 | 0=>some ix
 | k+1=>match Y1 all ix needs k with
  | none=>none
  | some ix'=>match aia all (qW needs k) with
   | none=>none
   | some j=>some (afU ix' j)
def QG (all:List iW) (ix:List Nat) (n:Nat):List ByteArray:=(cD all (ix.getD n 0)).i.needs
def MD (all:List iW):Nat->Nat->List Nat->Option (List Nat)
 | 0,_,ix=>some ix
 | f+1,n,ix=>if n<ix.length then (match Y1 all ix (QG all ix n) (QG all ix n).length with
  | none=>none
  | some ix'=>MD all f (n+1) ix') else some ix
structure Hn (all:List iW) (ix:List Nat):Prop where
 pos:0<ix.length
 nodup:ix.Nodup
 lt:∀j∈ix,j<all.length
theorem My:∀(L:Nat) (ix:List Nat),ix.Nodup->(∀j∈ix,j<L)->ix.length<=L
 | 0,ix,_,h=>by
  cases ix with
  | nil=>grind
  | cons x r=>grind [List.mem_cons_self]
 | L+1,ix,hn,h=>by
  by_cases e:L∈ix
  · have h1:=My L (ix.erase L) (hn.erase L) (fun j hj=>by
     grind)
    grind
  · have:=My L ix hn (fun j hj=>by
     grind)
    omega
theorem Hn.le {all:List iW} {ix:List Nat} (h:Hn all ix):ix.length<=all.length:=My _ _ h.nodup h.lt
def eV (all:List iW):Int->List Nat->List kr
 | _,[]=>[]
 | b,j::r=>⟨(cD all j).i,(cD all j).a,b⟩::eV all (xU ⟨(cD all j).i,(cD all j).a,b⟩) r
def jO (all:List iW):Int->List Nat->Int
 | b,[]=>b
 | b,j::r=>jO all (xU ⟨(cD all j).i,(cD all j).a,b⟩) r
theorem kH (all:List iW):∀(ix:List Nat) (b:Int),(eV all b ix).length=ix.length
 | [],_=>rfl
 | j::r,b=>by simp only[eV,xN,kH all r]
theorem EP (all:List iW) (j:Nat):∀(ix:List Nat) (b:Int),eV all b (ix++[j])=eV all b ix++[⟨(cD all j).i,(cD all j).a,jO all b ix⟩]
 | [],b=>rfl
 | k::r,b=>by simp only[Dt,eV,jO,EP all j r]
theorem ER (all:List iW) (j:Nat):∀(ix:List Nat) (b:Int),jO all b (ix++[j])=xU ⟨(cD all j).i,(cD all j).a,jO all b ix⟩
 | [],b=>rfl
 | k::r,b=>by simp only[Dt,jO,ER all j r]
theorem uB (all:List iW):∀(ix:List Nat) (b:Int) (k:Nat),k<ix.length->(dR (eV all b ix) k).i=(cD all (ix.getD k 0)).i/\(dR (eV all b ix) k).a=(cD all (ix.getD k 0)).a/\(dR (eV all b ix) k).base=jO all b (ix.take k)
 | [],_,k,hk=>by grind
 | j::r,b,0,_=>⟨rfl,rfl,rfl⟩
 | j::r,b,k+1,hk=>by
  have:=uB all r (xU ⟨(cD all j).i,(cD all j).a,b⟩) k (by grind)
  grind [dR,eV,jO]
theorem OE (all:List iW) (ix:List Nat) (b:Int) (h:0<ix.length):xU (dR (eV all b ix) (ix.length-1))=jO all b ix:=by
 obtain⟨r,j,rfl⟩:∃r j,ix=r++[j]:=⟨ix.dropLast,ix.getLast (by grind),(acX _).symm⟩
 grind [EP,ER,kH,dR]
theorem Be (all:List iW) (hc:∀j,j<all.length->mC (cD all j).i=0):∀(ix:List Nat) (b:Int),(∀j∈ix,j<all.length)->b<=jO all b ix/\jO all b ix<=b+255*(ix.length:Int)
 | [],b,_=>by simp[jO]
 | j::r,b,h=>by
  have hl:=Fv (hc j (h j Dy));have ih:=Be all hc r (xU ⟨(cD all j).i,(cD all j).a,b⟩) (fun k hk=>h k (Hb _ hk))
  grind [jO,xU]
open Go.RowKit
def qX:ByteArray:=⟨(Lib.repeatL [0] 16).toArray⟩
theorem EL:qX.size=16:=rfl
def wj (s:pR) (n:Nat):ByteArray:=iD qX 0 (s.data.extract (min (n*16) s.data.size) (min (min (n*16) s.data.size+16) s.data.size))
theorem OG (s:ByteArray) (a b:Nat) (h1:a<=b) (h2:b<=s.size):(s.extract a b).size=b-a:=by
 simp_all
structure pG where
 pos:Int
 bytes:ByteArray
def abw:pG:=⟨0,⟨#[]⟩⟩
def xR (l:List pG) (k:Nat):pG:=l.getD k abw
def KH (w:World) (b off:Nat) (l:List pG):Prop:=∀i,i<l.length->w.cell? (Ad b (off+i*2))=some (I (xR l i).pos)/\w.cell? (Ad b (off+i*2+1))=some (.string (xR l i).bytes)
theorem ah7 {w w':World} {b off:Nat} {l:List pG} (hb:Below w.heap.size w w') (hlt:b<w.heap.size) (h:KH w b off l):KH w' b off l:=fun i hi=>by
 obtain⟨c0,c1⟩:=h i hi
 grind [cM]
def KL (w:World) (ao:Option Addr) (l:List pG):Prop:=gU KH w ao l
theorem KL.below {w w':World} {ao:Option Addr} {l:List pG} (h:KL w ao l) (hb:Below w.heap.size w w'):KL w' ao l:=gU.below (lie:=KH) (fun hb hlt h=>ah7 hb hlt h) h hb
def KF (p:pG):List Value:=[I p.pos,.string p.bytes]
def CX (f:mL):List Value:=[I f.off,.string f.bytes]
def VY (p:pG):Prop:=0<=p.pos/\p.pos<=1000000/\p.bytes.size=8
def DK (page:Int) (p:pG):List mL:=if max (page*16) p.pos<min (page*16+16) (p.pos+8) then [⟨max (page*16) p.pos-page*16,p.bytes.extract (max (page*16) p.pos-p.pos).toNat (max (page*16) p.pos-p.pos+(min (page*16+16) (p.pos+8)-max (page*16) p.pos)).toNat⟩] else []
def kO (page:Int) (ps:List pG):List mL:=ps.flatMap (DK page)
theorem VQ {α:Type} (l:List α) (d:α) (k:Nat) (h:k<l.length):l.take (k+1)=l.take k++[l.getD k d]:=by
 simp_all
theorem abC (page:Int) (p:pG):(DK page p).length<=1:=by
 grind [DK]
theorem KD (page:Int):∀ps:List pG,(kO page ps).length<=ps.length
 | []=>by simp[kO]
 | p::r=>by
  have h1:=KD page r
  grind [abC,kO]
theorem QK (page:Int) (l:List pG) (p:pG):kO page (l++[p])=kO page l++DK page p:=by
 grind [kO]
open Go.RowKit
def afT (l:List VI) (s:ByteArray):Option Nat:=l.findIdx? (fun y=>decide (y.name=s))
def ah5 (o:kr) (s:ByteArray):Option Int:=match afT o.i.syms s with
 | none=>none
 | some k=>some (yq o (VH o.i.syms k).pos)
def YY (l:List kr) (s:ByteArray):Nat->Option Int
 | 0=>none
 | k+1=>match YY l s k with
  | some t=>some t
  | none=>ah5 (dR l k) s
def VP (l:List kr) (o:kr) (s:ByteArray):Option Int:=if s=⟨#[]⟩ then some (yq o 0) else YY l s l.length
theorem Kw {i:wV} (hc:mC i=0):Hl i=true:=by
 grind [mC]
theorem Ks:∀{l:List pR} {a:Int} {s:pR},tP l a=some s->(∃k,k<l.length/\eN l k=s)/\sG s a=true
 | [],a,s,h=>by cases h
 | x::r,a,s,h=>by
  simp only[tP] at h;split at h
  · rename_i hi
    injection h with h;subst h;exact⟨⟨0,by simp,rfl⟩,hi⟩
  · obtain⟨⟨k,hk,e⟩,hi⟩:=Ks h;exact⟨⟨k+1,by grind,by grind [eN]⟩,hi⟩
theorem xg {i:wV} (hc:mC i=0) {a:Int} (h:iZ i.jK a=true):0<=a/\a<4080:=by
 unfold iZ at h;obtain⟨s,hs⟩:=PC.1 h;obtain⟨⟨k,hk,e⟩,hi⟩:=Ks hs;have hb:=xQ hc k hk
 grind [sG]
theorem Kv (i:wV):∀n,Ki i n=true->∀k,k<n->PO i k=true
 | 0,_,k,hk=>by omega
 | n+1,h,k,hk=>by
  simp only[Ki,eO] at h;by_cases e:k=n
  · grind
  · exact Kv i n h.1 k (by omega)
theorem ad3 {i:wV} (hc:mC i=0) (k:Nat) (hk:k<i.qd.length):PO i k=true:=by
 have h:=Kw hc
 grind [Hl,Kv]
theorem SS {i:wV} (hc:mC i=0) (k:Nat) (hk:k<i.qd.length):0<=(vg i.qd k).pos/\(vg i.qd k).pos+7<4080:=by
 have h:=ad3 hc k hk;unfold PO YN at h;simp only[eO] at h;have h0:=xg hc h.2.1;have h7:=xg hc h.2.2.2.2.2.2.2.2;omega
theorem OH {i:wV} (hc:mC i=0):0<=i.entry/\i.entry<4080:=by
 have h:=Kw hc;unfold Hl at h;simp only[eO] at h;have he:=h.2.2;unfold CR at he;refine xg hc ?_
 grind [iZ]
def ah6 (o:kr) (r:SM) (t:Int):pG:=⟨yq o r.pos,⟨(Lib.leBytes 8 (mE (t+r.add))).toArray⟩⟩
def uy (l:List kr) (o:kr):Nat->Option (List pG)
 | 0=>some []
 | k+1=>match uy l o k with
  | none=>none
  | some ps=>match VP l o (vg o.i.qd k).name with
   | none=>none
   | some t=>some (ps++[ah6 o (vg o.i.qd k) t])
def vX (l:List kr) (o:kr):Option (List pG):=uy l o o.i.qd.length
theorem Ky {l:List kr} {o:kr}:∀{k:Nat} {ps:List pG},uy l o k=some ps->ps.length=k
 | 0,ps,h=>by grind [uy]
 | k+1,ps,h=>by
  simp only[uy] at h;cases e:uy l o k with
  | none=>grind
  | some qs =>
   rw[e] at h;simp only at h;cases g:VP l o (vg o.i.qd k).name with
   | none=>grind
   | some t =>
    rw[g] at h;simp only at h;injection h with h;subst h;rw[fM,Ky e];rfl
open Go.RowKit
structure Fz where
 page:Int
 data:ByteArray
 eZ:List mL
def gp (s:bG):Fz:=⟨s.page,s.data,s.eZ⟩
def abx (o:kr) (ps:List pG) (s:pR) (m:Nat):Fz:=⟨o.base+s.page+(m:Int),wj s m,kO (o.base+s.page+(m:Int)) ps⟩
def zX (o:kr) (ps:List pG) (s:pR) (n:Nat):List Fz:=(List.range n).map (abx o ps s)
def yo (o:kr) (ps:List pG):Nat->List Fz
 | 0=>[]
 | k+1=>yo o ps k++zX o ps (eN o.i.jK k) (eN o.i.jK k).aQ.toNat
def uA (l:List kr):Nat->Option (List Fz)
 | 0=>some []
 | k+1=>match uA l k with
  | none=>none
  | some E=>match vX l (dR l k) with
   | none=>none
   | some ps=>some (E++yo (dR l k) ps (dR l k).i.jK.length)
def sV (l:List kr):Option (List Fz):=uA l l.length
theorem SV (o:kr) (ps:List pG) (s:pR) (n:Nat):zX o ps s (n+1)=zX o ps s n++[abx o ps s n]:=by
 grind [zX,List.range_succ]
theorem Ij {l:List kr} {k:Nat} (h:uA l k=none):∀n,k<=n->uA l n=none
 | 0,hn=>by grind
 | n+1,hn=>by
  by_cases e:k=n+1
  · grind
  · simp only[uA];rw[Ij h n (by omega)]
theorem QD {l:List kr} {o:kr} (hc:mC o.i=0) (h0:1<=o.base) (h1:o.base<=2000):∀(k:Nat) (ps:List pG),k<=o.i.qd.length->uy l o k=some ps->∀j,j<ps.length->VY (xR ps j)
 | 0,ps,_,h,j,hj=>by grind [uy]
 | k+1,ps,hk,h,j,hj=>by
  simp only[uy] at h;cases e:uy l o k with
  | none=>grind
  | some qs =>
   rw[e] at h;simp only at h;cases g:VP l o (vg o.i.qd k).name with
   | none=>grind
   | some t =>
    rw[g] at h;simp only at h;injection h with h;subst h;rw[fM] at hj;by_cases hjq:j<qs.length
    · have:=QD hc h0 h1 k qs (by omega) e j hjq
      grind [xR]
    · have hje:j=qs.length:=by grind
      subst hje;unfold xR;rw[fK,zj (aD _),G6];have hb:=SS hc k (by omega);refine⟨?_,?_,?_⟩
      · show 0<=o.base*16+(vg o.i.qd k).pos;omega
      · show o.base*16+(vg o.i.qd k).pos<=1000000;omega
      rfl
def rK (rb:Option Nat) (w:World) (ao:Option Addr) (l:List mL):Prop:=0<l.length->∃b off,ao=some (Ad b off)/\b<w.heap.size/\some b≠rb/\DL w b off l
theorem rK.has {rb:Option Nat} {w:World} {ao:Option Addr} {l:List mL} (h:rK rb w ao l):qZ w ao l:=fun hl=>by
 obtain⟨b,off,h1,h2,_,h3⟩:=h hl
 grind
theorem rK.below {rb:Option Nat} {w w':World} {ao:Option Addr} {l:List mL} (h:rK rb w ao l) (hb:Below w.heap.size w w'):rK rb w' ao l:=fun hl=>by
 obtain⟨b,off,h1,h2,h3,h4⟩:=h hl
 grind [Nat.lt_of_lt_of_le,adi,Below.size]
theorem SX {w w':World} {b off:Nat} {l:List mL} (h:DL w b off l) (hb:w'.heap[b]?=w.heap[b]?):DL w' b off l:=fun i hi=>by
 obtain⟨c0,c1⟩:=h i hi
 grind [World.cell?_of_block]
theorem rK.grown {rb:Option Nat} {w w':World} {ao:Option Addr} {l:List mL} {g:Nat} (h:rK rb w ao l) (hg:w.grownBy w' rb) (hs:w.heap.size<=w'.heap.size) (hat:rb=some g∨g=w.heap.size):rK (some g) w' ao l:=fun hl=>by
 obtain⟨b,off,h1,h2,h3,h4⟩:=h hl
 grind [SX,World.grownBy.block]
def adk (rb:Option Nat) (w:World) (hs:List bG):Prop:=∀k,k<hs.length->rK rb w (bu hs k).ao (bu hs k).eZ
def Fx (s:bG):List Value:=[I s.page,.string s.data,.slice s.ao s.eZ.length s.cap]
theorem VR (l:List bG) (x:bG) (k:Nat) (h:k<l.length):bu (l++[x]) k=bu l k:=by
 grind [bu]
theorem VS (l:List bG) (x:bG):bu (l++[x]) l.length=x:=by
 grind [bu]
open Go.RowKit
def cA (xs ys:List bG):Prop:=ys.map gp=xs.map gp
def aU (k:aR) (hs:List bG):aR:=⟨hs,k.frames,k.slots,k.aj,k.hand⟩
theorem cA.trans {xs ys zs:List bG} (h:cA xs ys) (g:cA ys zs):cA xs zs:=Eq.trans g h
theorem cA.len {xs ys:List bG} (h:cA xs ys):ys.length=xs.length:=by
 have:=ed List.length h
 grind
theorem Bp {a b:bG} (h:gp a=gp b):a.page=b.page/\a.data=b.data/\a.eZ=b.eZ:=by
 injection h with h1 h2 h3
 grind
theorem cA.at {xs ys:List bG} (h:cA xs ys) (i:Nat):gp (bu ys i)=gp (bu xs i):=by
 unfold cA at h;unfold bu;have h1:(ys.map gp)[i]?=(xs.map gp)[i]?:=by rw[h]
 grind
theorem Tq {a b:bG} (h:gp a=gp b):rI a=rI b:=by
 obtain⟨h1,h2,h3⟩:=Bp h
 grind [rI]
theorem Tp {a b:bG} (h:gp a=gp b):dw a=dw b:=by
 grind [Bp,dw,pE]
theorem F7 (p:Int):∀(xs ys:List bG),cA xs ys->(iJ ys p).map gp=(iJ xs p).map gp
 | [],[],_=>rfl
 | [],b::r,h=>by have:=ed List.length h;grind
 | a::r,[],h=>by have:=ed List.length h;grind
 | a::r,b::t,h=>by
  have h:gp b::t.map gp=gp a::r.map gp:=h;injection h with h1 h2;have ih:=F7 p r t h2
  grind [Bp,iJ]
theorem F8 {xs ys:List bG} (h:cA xs ys) (p:Int):fq ys p=fq xs p:=by
 grind [F7,fq,Tq]
theorem Wz {xs ys:List bG} (h:cA xs ys) (p:Int):(iJ ys p).isSome=(iJ xs p).isSome:=by
 have:=ed Option.isSome (F7 p xs ys h)
 grind
theorem Cl {xs ys:List bG} (h:cA xs ys) (p:Int) (z:Bool):fY ys p z=fY xs p z:=by
 grind [fY,F8]
theorem WC {xs ys:List bG} (h:cA xs ys):ia ys=ia xs:=by
 have:∀n,ki ys n=ki xs n:=fun n=>by
  induction n with
  | zero=>rfl
  | succ n ih =>
   grind [ki,Tp,rX,Bp,cA.at]
 grind [ia,cA.len]
theorem aW.vJ {k:aR} (h:aW k) {hs:List bG} (s:cA k.aM hs):aW (aU k hs):=by
 refine⟨?_,(WC s).trans h.lT,h.hand,fun x hx=>?_,h.room,fun i hi=>?_,h.slt⟩
 · have:=h.c;have e:=s.len;refine ic ?_;show(3<=k.frames.length/\k.frames.length<=64)/\k.slots.length<=512/\(1<=k.aj.length/\k.aj.length<=4)/\hs.length<=255;omega
 · have g:=h.each x hx;exact⟨g.dead,g.aT,g.lT,g.Mq,fun p h1 h2=>(Wz s p).trans (g.aM p h1 h2)⟩
 · have g:=h.zP i hi;exact⟨g.refs,g.zero,g.one,g.size,fun d x hx=>(g.fill d x hx).trans (Cl s _ _).symm⟩
theorem Cn {k:aR} {hs:List bG} (s:cA k.aM hs) (j:Nat) (p:Int):bY (aU k hs) j p=bY k j p:=by
 unfold bY;show(match bl (ak k.aj j).bf p with
  | some e=>_
  | none=>fY hs p _)=_
 rw[Cl s];rfl
theorem Ra (k:aR) (hs:List bG) (i:Nat):eJ (aU k hs) i=aU (eJ k i) hs:=by
 grind [eJ,FW,aU,Ak]
theorem Gi (held:List Int) (hs:List bG):∀(n:Nat) (k:aR),nA held n (aU k hs)=aU (nA held n k) hs
 | 0,k=>rfl
 | n+1,k=>by
  unfold nA;show(if nM held k=true then nA held n (aU (jC held k) hs) else aU k hs)=_;by_cases c:nM held k=true
  · rw[aB c,aB c];exact Gi held hs n _
  grind
theorem Lm (k:aR) (hs:List bG) (held:List Int):bM (aU k hs) held=((bM k held).1,aU (bM k held).2 hs):=by
 unfold bM;show(match yB k.frames with
  | some i=>(i,aU k hs)
  | none=>_)=_
 cases yB k.frames with
 | some i=>rfl
 | none =>
  show(_,_)=(_,_);rw[Gi,show(aU (nA held 70 k) hs).hand=(nA held 70 k).hand from rfl,Ra];rfl
theorem Ga (k:aR) (hs:List bG) (e:bD):dM (aU k hs) e=aU (dM k e) hs:=by unfold dM;split <;> rfl
theorem Cq (k:aR) (hs:List bG) (j:Nat) (p:Int) (i:Nat) (d:ByteArray) (dy:Bool):eQ (aU k hs) j p i d dy=aU (eQ k j p i d dy) hs:=by
 unfold eQ;show(match bl (ak k.aj j).bf p with
  | none=>_
  | some e=>_)=_
 cases bl (ak k.aj j).bf p with
 | none=>rfl
 | some e=>exact Ga (gy (iV k i d dy) j ⟨p,1,i⟩) hs e
theorem MJ {k:aR} (h:aW k) {held:List Int} (hl:held.length<=2) {hs:List bG} (s:cA k.aM hs) (j:Nat) (p:Int):dD (aU k hs) j p held=((dD k j p held).1,aU (dD k j p held).2 hs):=by
 have hsh:=(tq h hl).kept.aM;unfold dD;show(match bl (ak k.aj j).bf p with
  | some e=>_
  | none=>_)=_
 rw[Lm];cases bl (ak k.aj j).bf p with
 | none =>
  dsimp only;rw[Cq];show(_,aU (eQ _ _ _ _ (fY hs p _) _) hs)=_;rw[Cl s,hsh];rfl
 | some e =>
  dsimp only;by_cases c:e.kind=1
  · grind
  · rw[au c,au c,Cq];rfl
theorem Rc (k:aR) (hs:List bG) (held:List Int) (j:Nat) (p:Int) (a:Nat):kP (aU k hs) j p a held=((kP k j p a held).1,aU (kP k j p a held).2 hs):=by
 grind [kP,Lm,aU,Cq]
theorem Q9 {k:aR} (h:aW k) {held:List Int} (hl:held.length<=2) {hs:List bG} (s:cA k.aM hs) (j:Nat) (p way:Int):dN (aU k hs) j p way held=((dN k j p way held).1,aU (dN k j p way held).2 hs):=by
 have e:iB (aU k hs) j p way held=((iB k j p way held).1,aU (iB k j p way held).2 hs):=by
  grind [iB,MJ,Rc]
 unfold dN;rw[e];rfl
theorem s8 {k:aR} (h:aW k) {j:Nat} (hj:j<k.aj.length) {a n way:Int} (h1:dV k j (a/16)) {hs:List bG} (s:cA k.aM hs):aZ (aU k hs) j a n way=((aZ k j a n way).1,aU (aZ k j a n way).2 hs):=by
 grind [rq,fp,Q9,kI,aZ,fW.kept,fN.aM,fW.right]
theorem Co (k:aR) (hs:List bG) (ids:List Nat) (s:ByteArray):∀n,lK (aU k hs) ids s n=aU (lK k ids s n) hs
 | 0=>rfl
 | n+1=>by
  unfold lK;rw[Co k hs ids s n];rfl
theorem FY {k:aR} (h:aW k) {j:Nat} (hj:j<k.aj.length) {a:Int} {d:ByteArray} (h1:dV k j (a/16)) {hs:List bG} (s:cA k.aM hs):lJ (aU k hs) j a d=aU (lJ k j a d) hs:=by
 unfold lJ;rw[s8 h hj h1 s];exact Co _ _ _ _ _
theorem Ls (k:aR) (hs:List bG) (es:List bD) (p:bD->Bool):∀n,cU (aU k hs) es p n=aU (cU k es p n) hs
 | 0=>rfl
 | n+1=>by
  unfold cU;rw[Ls k hs es p n]
  grind [Ga]
theorem uX (k:aR) (hs:List bG) (j:Nat) (p:bD->Bool):dH (aU k hs) j p=aU (dH k j p) hs:=by
 grind [dH,km,aU,Ls]
theorem Gj (k:aR) (hs:List bG) (j:Nat) (l:List aY):gI (aU k hs) j l=aU (gI k j l) hs:=by
 unfold gI;rw[uX];rfl
theorem IM (k:aR) (hs:List bG) (j:Nat):jE (aU k hs) j=aU (jE k j) hs:=by
 unfold jE;rw[uX];rfl
theorem Gg (k:aR) (hs:List bG) (e:bD) (d:Int):ko (aU k hs) e d=aU (ko k e d) hs:=by unfold ko;split <;> rfl
theorem FZ (k:aR) (hs:List bG) (es:List bD):∀n,dY (aU k hs) es n=aU (dY k es n) hs
 | 0=>rfl
 | n+1=>by
  unfold dY;rw[FZ k hs es n,Gg]
theorem IK (k:aR) (hs:List bG) (j:Nat):gM (aU k hs) j=aU (gM k j) hs:=by
 grind [gM,aU,FZ]
theorem FV {l r:List aY} (hl:bj l=0) (hr:bj r=0) (h:∀x:Int,(aV r x).2=true->(aV l x).2=true):bh r<=bh l:=by
 rw[tG hl,tG hr];have:=mU (dI l) (dI r) (yS.sorted (oI hr)) (yS.sorted (oI hl)) (fun x hx=>(rD hl x).1 (h x ((rD hr x).2 hx)));omega
theorem IC (F G:Int->Bool) (a b:Int):∀(n:Nat) (p:Int),(∀x,p<=x->x<p+n->(a<=x/\x<b->F x=true/\G x=false)/\(¬(a<=x/\x<b)->F x=G x))->((mr p n).filter F).length=(((mr p n).filter G).length:Int)+max 0 (min (p+n) b-max p a)
 | 0,p,_=>by
  show(0:Int)=0+_;omega
 | n+1,p,h=>by
  have ih:=IC F G a b n (p+1) (fun x h1 h2=>h x (by omega) (by omega))
  grind [mr]
theorem ET {l:List aY} (hl:bj l=0):bh l=(((mr 1 255).filter (fun x=>(aV l x).2)).length:Int):=by
 rw[tG hl];have s1:=yS.sorted (oI hl);have s2:((mr 1 255).filter (fun x=>(aV l x).2)).Pairwise (·<·):=(uM 255 1).sublist List.filter_sublist;have a1:=mU _ _ s1 s2 (fun x hx=>by
  grind [rD,kf,qa])
 have a2:=mU _ _ s2 s1 (fun x hx=>by
  grind [rD])
 omega
theorem Wv {l:List aY} {p n q:Int} (h:(dK l p n q).2=0) (hl:bj l=0):bh (dK l p n q).1=bh l+n:=by
 obtain⟨h1,h2⟩:=zM l p n q h;obtain⟨_,Fh,_⟩:=xH _ _ _ _ _ h;rw[ET h1,ET hl];have:=IC (fun x=>(aV (dK l p n q).1 x).2) (fun x=>(aV l x).2) p (p+n) 255 1 (fun x hx1 hx2=>by
  obtain⟨m,rfl⟩:∃m:Nat,x=(m:Int):=⟨x.toNat,by omega⟩
  grind)
 rw[this];have hb:1<=p/\1<=n/\p+n<=256:=by
  grind [fX]
 omega
theorem QX {l:List aY} {p n:Int} (h:(cQ l p n).2=0) (hl:bj l=0):bh (cQ l p n).1<=bh l:=by
 obtain⟨h1,h2⟩:=yP h;obtain⟨_,k2⟩:=wP l p n h;refine FV hl h1 fun x hx=>?_
 have hb:=kf hx;obtain⟨m,rfl⟩:∃m:Nat,x=(m:Int):=⟨x.toNat,by omega⟩
 grind
theorem MH {l:List aY} {p n q:Int} (h:(bT l p n q).2=0) (hl:bj l=0):bh (bT l p n q).1=bh l:=by
 obtain⟨h1,h2⟩:=uj l p n q h;have e:∀x:Int,1<=x->x<=255->(aV (bT l p n q).1 x).2=(aV l x).2:=fun x g1 g2=>by
  obtain⟨m,rfl⟩:∃m:Nat,x=(m:Int):=⟨x.toNat,by omega⟩
  grind
 have a1:=FV hl h1 (fun x hx=>by grind [kf]);have a2:=FV h1 hl (fun x hx=>by grind [kf]);omega
end Go.Proofs.YtlgoihmkgaaemaaGreat
