import Derived.Test.YtlgoihmkgaaemaaGreatGM07
import Derived.Lib.Repeat
set_option maxHeartbeats 20000000
set_option linter.unusedVariables false
set_option maxRecDepth 100000
set_option linter.unusedSimpArgs false
namespace Go.Proofs.YtlgoihmkgaaemaaGreat
open Go.RowKit
theorem XO (l:List pE) (k n:Nat) (h:su l k=false) (hk:k<=n):su l n=false:=by
 induction n with
 | zero=>grind
 | succ n ih =>
  grind [su]
theorem aao (l:List pE) (k:Nat) (hk:k<l.length) (h:su l (k+1)=false):CB l=false:=XO l (k+1) l.length h hk
theorem RU (l:List pE) (ao:Option Addr) (cap:Nat) (w:World) (h:gJ zC w ao l) (hn:cu l.length) (hr:l.all kZ=true) :
  Calls Tryz.prog 161 #[.slice ao l.length cap] w fun e w'=>e=.returned (.bool (!CB l))/\Below w.heap.size w w':=by
 unfold cu at hn;have H:=aA h;have F:=aA hr;clear h hr;go_enter Tryz.func161,Tryz.ntmps161;go_wp2;go_loopw [3] (fun i wr=>∃k:Nat,1<=k/\(k<=l.length∨k=1)/\i=I k/\su l k=true/\Below w.heap.size w wr) (fun i _=>l.length-(intOf i).toNat)
 case atStart=>exact⟨1,by omega,.inr rfl,rfl,rfl,aJ _ _⟩
 case round =>
  obtain⟨k,hk1,hk,rfl,hall,hb⟩:=hrel;have HA:=aA hall;have HB:=aA hb;clear hall;by_cases hlt:k<l.length
  · obtain⟨b,off,hao,hbl,hl⟩:=H.o (by omega);subst hao;obtain⟨c0,c1,c2,c3,c4⟩:=zB hb hbl hl k hlt;obtain⟨e0,e1,e2,e3,e4⟩:=zB hb hbl hl (k-1) (by omega);have g1:0<=(eD l (k-1)).page/\1<=(eD l (k-1)).aO/\(eD l (k-1)).page+(eD l (k-1)).aO<=255/\_:=oI (PU kZ Hp l (k-1) (by omega) F.o);have hov:Hid (su l (k+1)=decide ((eD l (k-1)).page+(eD l (k-1)).aO<=(eD l k).page)):=by
     show _=_;simp only[su,HA.o,tv,XY]
     grind
    obtain⟨s,hs⟩:=ex (eD l k);obtain⟨t,ht⟩:=ex (eD l (k-1));rw[<- hs] at c0 c1 c2 c3 c4 hov;rw[<- ht] at e0 e1 e2 e3 e4 g1 hov;clear hs ht hb hl;obtain⟨sp,sn,sd,sx,sy⟩:=s;obtain⟨tp,tn,td,tx,ty⟩:=t;simp only at c0 c1 c2 c3 c4 e0 e1 e2 e3 e4 g1 hov;obtain⟨g1,g2,g3,g4⟩:=g1;clear c1 c2 c3 c4 e2 e3 e4 g4;have TI:(k:Int)<(l.length:Int):=by omega
    have Cv:=jh wr;have hkc:=@fH wr;have hbr:b<wr.heap.size:=fV hbl HB.o.size;have k0:∀x:dM wr.heap.size wr,x.world.cell? (Ad b (off+k*5))=some (I sp):=fun x=>by rw[hkc x _ _ hbr,c0]
    have k1:∀x:dM wr.heap.size wr,x.world.cell? ⟨b,off+(k-1)*5,none⟩=some (I tp):=fun x=>by rw[hkc x _ _ hbr,e0]
    have k2:∀x:dM wr.heap.size wr,x.world.cell? ⟨b,off+(k-1)*5+1,none⟩=some (I tn):=fun x=>by rw[hkc x _ _ hbr,e1]
    clear hkc c0 e0 e1;by_cases d:sp<tp+tn
    · have hno:Hid (su l (k+1)=false):=by show _=_;rw[hov.out];exact je (by omega)
      go_wp2;refine di (by kernel_rfl) (by kernel_rfl) ?_
      repeat (first | go_big_quiet_step (fail) | quiet_step (fail))
      refine jd ?_;intro _ hw';obtain⟨x,hw''⟩:=hw';subst hw'';go_wp2;go_ret;exact⟨lT (by rw[aao l k hlt hno.out];rfl),HB.o.trans (x.keeps.mono HB.o.size)⟩
    · have akB:Hid (su l (k+1)=true):=by show _=_;rw[hov.out];exact gU (by omega)
      go_wp2;refine di (by kernel_rfl) (by kernel_rfl) ?_
      repeat (first | go_big_quiet_step (fail) | quiet_step (fail))
      refine jd ?_;intro _ hw';obtain⟨x,hw''⟩:=hw';subst hw'';go_wp2;go_roundw
      case rel=>exact⟨k+1,by omega,.inl (by omega),by go_num,akB.out,HB.o.trans (x.keeps.mono HB.o.size)⟩
      case measure=>simp[intOf];omega
  · have HR:Hid (CB l=true):=by
     show _=_;unfold CB;rcases hk with hk | hk
     · rw[show l.length=k by omega];exact HA.o
     · rcases Nat.lt_or_ge l.length 1 with h0 | h0
       · rw[show l.length=0 by omega];rfl
       · rw[show l.length=k by omega];exact HA.o
    have hge:¬(k:Int)<(l.length:Int):=by omega
    clear hb;go_wp2;go_ret;exact⟨lT (by rw[HR.o];rfl),HB.o⟩
open Go.RowKit
def zw (s:pE):Array Value:=#[I s.page,I s.aO,.string s.data,.bool s.wr,.bool s.ex]
def Di (l:List pE) (a:Int):pE:=(tB l a).getD Hp
theorem Dk:∀(l:List pE) (a:Int),(∀j,j<l.length->rP (eD l j) a=false)->tB l a=none
 | [],_,_=>rfl
 | s::r,a,h=>by
  have h0:rP s a=false:=h 0 (by simp);unfold tB;rw[h0,au (by simp)];exact Dk r a (fun j hj=>h (j+1) (by grind))
theorem Dj:∀(l:List pE) (a:Int) (k:Nat),k<l.length->(∀j,j<k->rP (eD l j) a=false)->rP (eD l k) a=true->tB l a=some (eD l k)
 | s::r,a,0,_,_,h=>by
  have h0:rP s a=true:=h;unfold tB;rw[h0,aB rfl];rfl
 | s::r,a,k+1,hk,hj,h=>by
  have h0:rP s a=false:=hj 0 (by omega);unfold tB;rw[h0,au (by simp)];exact Dj r a k (by grind) (fun j h=>hj (j+1) (by omega)) h
theorem PK {l:List pE} (h:l.all kZ=true) (k:Nat) (hk:k<l.length):0<=(eD l k).page/\1<=(eD l k).aO/\(eD l k).page+(eD l k).aO<=255/\((eD l k).data.size:Int)<=(eD l k).aO*16 :=
 oI (PU kZ Hp l k hk h)
theorem XN {l:List pE} (h:l.all kZ=true) (a:Int) (ha:a<0):tB l a=none :=
 Dk l a (fun j hj=>by
  have:=PK h j hj;exact je (by omega))
theorem LX {a b:pE} {x y:Bool} (h:a=b) (g:x=y):Ending.returned (.tuple #[.agg (zw a),.bool x])=.returned (.tuple #[.agg (zw b),.bool y]):=by rw[h,g]
theorem Aw (l:List pE) (ao:Option Addr) (cap:Nat) (a:Int) (w:World) (h:gJ zC w ao l) (hn:cu l.length) (hr:l.all kZ=true) (ha:cK a) :
  Calls Tryz.prog 201 #[.slice ao l.length cap,I a] w fun e w'=>e=.returned (.tuple #[.agg (zw (Di l a)),.bool (iO l a)])/\Below w.heap.size w w':=by
 unfold cu at hn;unfold cK at ha;have H:=aA h;have F:=aA hr;clear h hr;by_cases h0:a<0
 · have HN:=aA (XN F.o a h0);have HZ:=aA ((aJ w.heap.size w).alloc (aH _) (.cells #[I 0,I 0,.string ⟨#[]⟩,.bool false,.bool false] 166));go_enter Tryz.func201,Tryz.ntmps201;go_wp2;exact bK (v:=.tuple #[.agg #[I 0,I 0,.string ⟨#[]⟩,.bool false,.bool false],.bool false]) (by simp[results,Tryz.results201,go_sem]) rfl ⟨LX (a:=Hp) (x:=false) (by grind [Di,Hid.o]) (by grind [iO,Hid.o]),HZ.o⟩
 · have hbz:Below w.heap.size w (w.alloc (.cells #[I 0,I 0,.string ⟨#[]⟩,.bool false,.bool false] 166)):=(aJ _ _).alloc (aH _) _;have HZ:=aA hbz;clear hbz;go_enter Tryz.func201,Tryz.ntmps201;go_wp2;go_loopw [16] (fun i wr=>∃k:Nat,k<=l.length/\i=I k/\(∀j,j<k->rP (eD l j) a=false)/\Below (w.heap.size+1) (w.alloc (.cells #[I 0,I 0,.string ⟨#[]⟩,.bool false,.bool false] 166)) wr) (fun i _=>l.length-(intOf i).toNat)
   case atStart=>grind [Below.refl]
   case round =>
    obtain⟨k,hk,rfl,hno,hb⟩:=hrel;have HN:=aA hno;have HB:=aA hb;have wM:Hid (Below w.heap.size w wr):=HZ.o.trans (hb.mono (kQ _));have hsz:w.heap.size+1<=wr.heap.size:=by have:=hb.size;simpa using this
    have HR:=aA (aN (bD w #[I 0,I 0,.string ⟨#[]⟩,.bool false,.bool false] 166) hb (OO _));clear hno hb;by_cases hlt:k<l.length
    · obtain⟨b,off,hao,hbl,hl⟩:=H.o (by omega);subst hao;obtain⟨c0,c1,c2,c3,c4⟩:=zB wM.out hbl hl k hlt;obtain⟨g1,g2,g3,g4⟩:=PK F.o k hlt;obtain⟨s,hs⟩:=ex (eD l k);rw[<- hs] at c0 c1 c2 c3 c4 g1 g2 g3 g4;have HS:=aA hs;clear hs hl;obtain⟨p,n,d,x,y⟩:=s;simp only at c0 c1 c2 c3 c4 g1 g2 g3 g4;have TI:(k:Int)<(l.length:Int):=by omega
      clear g4;by_cases d1:p<=a/16
      · by_cases d2:a/16<p+n
        · have hin:Hid (rP (eD l k) a=true):=by show _=_;rw[<- HS.o];exact gU (show p*16<=a/\a<(p+n)*16 by omega)
          have t0:=aq (bl HR.o (.cells #[I p,I n,.string d,.bool x,.bool y] 166)) 0 rfl;have t1:=aq (bl HR.o (.cells #[I p,I n,.string d,.bool x,.bool y] 166)) 1 rfl;have t2:=aq (bl HR.o (.cells #[I p,I n,.string d,.bool x,.bool y] 166)) 2 rfl;have t3:=aq (bl HR.o (.cells #[I p,I n,.string d,.bool x,.bool y] 166)) 3 rfl;have t4:=aq (bl HR.o (.cells #[I p,I n,.string d,.bool x,.bool y] 166)) 4 rfl;have u0:=aQ (bl HR.o (.cells #[I p,I n,.string d,.bool x,.bool y] 166));have HW2:=aA (wM.out.alloc wM.out.size (.cells #[I p,I n,.string d,.bool x,.bool y] 166));go_wp2;exact bK (v:=.tuple #[.agg #[I p,I n,.string d,.bool x,.bool y],.bool true]) (by simp[results,Tryz.results201,go_sem,t0,t1,t2,t3,t4]) rfl ⟨LX (a:=⟨p,n,d,x,y⟩) (x:=true) (by unfold Di;rw[Dj l a k hlt HN.o hin.out];exact HS.o) (by unfold iO;rw[Dj l a k hlt HN.o hin.out];rfl),(((((HW2.o.setCell (aH _) _).setCell (aH _) _).setCell (aH _) _).setCell (aH _) _).setCell (aH _) _)⟩
        · have MI:Hid (rP (eD l k) a=false):=by show _=_;rw[<- HS.o];exact je (show ¬(p*16<=a/\a<(p+n)*16) by omega)
          go_wp2;go_roundw
          case rel=>exact⟨k+1,by omega,by go_num,fun j hj=>if e:j=k then by rw[e];exact MI.out else HN.o j (by omega),HB.o.alloc (by omega) _⟩
          case measure=>simp[intOf];omega
      · have MI:Hid (rP (eD l k) a=false):=by show _=_;rw[<- HS.o];exact je (show ¬(p*16<=a/\a<(p+n)*16) by omega)
        go_wp2;go_roundw
        case rel=>exact⟨k+1,by omega,by go_num,fun j hj=>if e:j=k then by rw[e];exact MI.out else HN.o j (by omega),HB.o.alloc (by omega) _⟩
        case measure=>simp[intOf];omega
    · obtain rfl:k=l.length:=by omega
      have HNo:=aA (Dk l a HN.o);have t0:=aq HR.o 0 rfl;have t1:=aq HR.o 1 rfl;have t2:=aq HR.o 2 rfl;have t3:=aq HR.o 3 rfl;have t4:=aq HR.o 4 rfl;have u0:=aQ HR.o;go_wp2;exact bK (v:=.tuple #[.agg #[I 0,I 0,.string ⟨#[]⟩,.bool false,.bool false],.bool false]) (by simp[results,Tryz.results201,go_sem,t0,t1,t2,t3,t4]) rfl ⟨LX (a:=Hp) (x:=false) (by unfold Di;rw[HNo.o];rfl) (by unfold iO;rw[HNo.o];rfl),(((((wM.out.setCell (aH _) _).setCell (aH _) _).setCell (aH _) _).setCell (aH _) _).setCell (aH _) _)⟩
open Go.RowKit
theorem NZ {l:List pE} (h:l.all kZ=true) (a:Int) (hp:iO l a=true):0<=a/\a<4080:=by
 induction l with
 | nil=>cases hp
 | cons s r ih =>
  grind [kZ,iO,tB,rP]
open Go.RowKit
theorem JS (i:wD) (a:JY) (w:World) (h:pT w a i) (hf:JW i) (hr:i.jD.all kZ=true):Calls Tryz.prog 166 #[.agg (jF a i)] w fun e w'=>e=.returned (.bool (Cz i))/\Below w.heap.size w w':=by
 obtain⟨an,cn,ag,cg,ay,cy,ar,cr⟩:=a;obtain⟨nm,ns,gs,ys,rs,en⟩:=i;obtain⟨h1,h2,h3,h4⟩:=h;obtain⟨f1,f2,f3,f4,f5,f6,f7,f8,f9,f10⟩:=hf;simp only at h1 h2 h3 h4 f1 f2 f3 f4 f5 f6 f7 f8 f9 f10;have F4:=aA f4;unfold cu at f2 f4 f6 f8;simp only[jF];have H2:=aA h2;have F10:=aA f10;have HG:=aA hr;clear h1 h2 h3 h4 f3 f5 f7 f9 f10 hr;have BOX:=aA (bD w #[.string nm,.slice an ns.length cn,.slice ag gs.length cg,.slice ay ys.length cy,.slice ar rs.length cr,I en] 56);have gG:=aA ((aJ w.heap.size w).alloc (aH _) (.cells #[.string nm,.slice an ns.length cn,.slice ag gs.length cg,.slice ay ys.length cy,.slice ar rs.length cr,I en] 56));obtain⟨X,hX⟩:∃X:Array Value,X=#[.string nm,.slice an ns.length cn,.slice ag gs.length cg,.slice ay ys.length cy,.slice ar rs.length cr,I en]:=⟨_,rfl⟩;have HX:=aA hX;rw[<- hX] at BOX gG;clear hX;have apa:=F10.o;unfold cK at apa;have HE:Hid (Cz ⟨nm,ns,gs,ys,rs,en⟩=(iO gs en&&((Di gs en).ex&&decide (en%8=0)))):=by
  show _=_
  grind [Cz,iO,Di]
 rw[HE.o];have hpb:iO gs en=true->0<=en:=fun h=>(NZ HG.o en h).1
 obtain⟨sg,hsg⟩:=ex (Di gs en);obtain⟨pb,GR⟩:=ex (iO gs en);have HS:=aA hsg;have HP:=aA GR;rw[<- GR] at hpb;rw[<- hsg,<- GR];obtain⟨sp,sn,sd,sx,sy⟩:=sg;simp only;clear HE hsg GR;cases pb
 · clear hpb;go_enter Tryz.func166,Tryz.ntmps166;go_wp2_with fail
   rw[<- HX.o];refine(Aw gs ag cg en _ (gJ.below (lie:=zC) (fun hb hlt h=>zB hb hlt h) H2.o gG.o) F4.o HG.o F10.o).mono ?_;rintro e w2 ⟨rfl,hb2⟩;have gP:=aA (gG.o.trans (hb2.mono gG.o.size));have BX2:=aA (aN BOX.o hb2 (aI BOX.o));clear hb2;rw[<- HS.o,<- HP.o];simp only[zw];go_wp2;go_ret;exact⟨rfl,gP.o.alloc gP.o.size _⟩
 · have hp:=hpb rfl;clear hpb;cases sy
   · go_enter Tryz.func166,Tryz.ntmps166;go_wp2_with fail
     rw[<- HX.o];refine(Aw gs ag cg en _ (gJ.below (lie:=zC) (fun hb hlt h=>zB hb hlt h) H2.o gG.o) F4.o HG.o F10.o).mono ?_;rintro e w2 ⟨rfl,hb2⟩;have gP:=aA (gG.o.trans (hb2.mono gG.o.size));have BX2:=aA (aN BOX.o hb2 (aI BOX.o));clear hb2;rw[<- HS.o,<- HP.o];simp only[zw];go_wp2;go_ret;exact⟨rfl,gP.o.alloc gP.o.size _⟩
   · by_cases d:en%8=0
     · rw[gU d];go_enter Tryz.func166,Tryz.ntmps166;go_wp2_with fail
       rw[<- HX.o];refine(Aw gs ag cg en _ (gJ.below (lie:=zC) (fun hb hlt h=>zB hb hlt h) H2.o gG.o) F4.o HG.o F10.o).mono ?_;rintro e w2 ⟨rfl,hb2⟩;have gP:=aA (gG.o.trans (hb2.mono gG.o.size));have BX2:=aA (aN BOX.o hb2 (aI BOX.o));have LR:=aI BX2.o;have by5:=aq BX2.o 5 (by rw[HX.o];rfl);clear hb2;rw[<- HS.o,<- HP.o];simp only[zw];go_wp2;go_ret;exact⟨rfl,gP.o.alloc gP.o.size _⟩
     · rw[je d];go_enter Tryz.func166,Tryz.ntmps166;go_wp2_with fail
       rw[<- HX.o];refine(Aw gs ag cg en _ (gJ.below (lie:=zC) (fun hb hlt h=>zB hb hlt h) H2.o gG.o) F4.o HG.o F10.o).mono ?_;rintro e w2 ⟨rfl,hb2⟩;have gP:=aA (gG.o.trans (hb2.mono gG.o.size));have BX2:=aA (aN BOX.o hb2 (aI BOX.o));have LR:=aI BX2.o;have by5:=aq BX2.o 5 (by rw[HX.o];rfl);clear hb2;rw[<- HS.o,<- HP.o];simp only[zw];go_wp2;go_ret;exact⟨lT (by grind),gP.o.alloc gP.o.size _⟩
open Go.RowKit Go.WideMaps Go.Maps
theorem PL:Keyed Tryz.prog 9:=string_keyed Tryz.underlying9
theorem UL (w:World):(zeroValue 3).run Tryz.prog w=.ok (I 0) w:=by rfl
def Bu (s:ByteArray):Lit:=.string s.data.toList
theorem IY {s t:ByteArray} (h:Bu s=Bu t):s=t:=by
 unfold Bu at h;injection h with h;cases s;simp_all
theorem TM {s:ByteArray} (h:cu s.size):keyOf Tryz.prog 9 (.string s)=some (Bu s):=keyOf_string_mk Tryz.underlying9 (by grind [cu,maxLen])
instance ajg:LawfulBEq ByteArray where
 eq_of_beq {a b} h:=by
  cases a;cases b;congr 1;exact eq_of_beq (α:=Array UInt8) h
 rfl {a}:=by
  cases a;exact beq_self_eq_true (α:=Array UInt8) _
def acx (l:List ByteArray) (k:Nat) (D:DataW Unit):Prop:=∀s:ByteArray,D.atKey (Bu s) (.lit (.int .i64 0))=.lit (.int .i64 (if (l.take k).contains s then 1 else 0))
theorem aam (l:List ByteArray):acx l 0 (.map []):=fun s=>by rfl
theorem Et (l:List ByteArray) (k:Nat) (hk:k<l.length) (s:ByteArray):(l.take (k+1)).contains s=((l.take k).contains s || s==qD l k):=by
 grind [List.take_add_one,qD]
theorem aan {l:List ByteArray} {k:Nat} {D:DataW Unit} (hk:k<l.length) (hD:IsMap D) (h:acx l k D):acx l (k+1) (D.put (Bu (qD l k)) (.lit (.int .i64 1))):=fun s=>by
 rw[Et l k hk s];by_cases e:s=qD l k
 · subst e;rw[atKey_put_same hD (by trivial)];simp
 · rw[atKey_put_other (fun g=>e (IY g)),h s]
   grind
theorem XQ (l:List ByteArray) (k n:Nat) (h:oq l k=false) (hk:k<=n):oq l n=false:=by
 induction n with
 | zero=>grind
 | succ n ih =>
  grind [oq]
theorem XL (l:List ByteArray) (ao:Option Addr) (cap:Nat) (w:World) (h:gJ PV w ao l) (hn:cu l.length) (hf:∀k,k<l.length->cu (qD l k).size) :
  Calls Tryz.prog 162 #[.slice ao l.length cap] w fun e w'=>e=.returned (.bool (!xx l))/\Below w.heap.size w w':=by
 unfold cu at hn;have H:=aA h;have F:=aA hf;clear h hf;have hmm:=@run_makeMap Tryz.prog;go_enter Tryz.func162,Tryz.ntmps162;go_wp2;go_loopw [9] (fun i wr=>∃(k:Nat) (D:DataW Unit),k<=l.length/\i=I k/\wr.ownsMap Tryz.prog 9 (plainElem Tryz.prog 3) w.heap.size k D/\acx l k D/\oq l k=true/\Below w.heap.size w wr) (fun i _=>l.length-(intOf i).toNat)
 case atStart=>exact⟨0,.map [],rN _,rfl,World.ownsMap_made _ _ _ _,aam l,rfl,(aJ _ _).alloc (aH _) _⟩
 case round =>
  obtain⟨k,D,hk,rfl,hown,alb,XB,hb⟩:=hrel;have HO:=aA XB;have HC:=aA alb;have HB:=aA hb;have HW:=aA hown;clear XB alb;by_cases hlt:k<l.length
  · obtain⟨b,off,hao,hbl,hl⟩:=H.o (by omega);subst hao;have TI:(k:Int)<(l.length:Int):=by omega
    have c0:=ae8 hb hbl hl k hlt;have fs:=F.o k hlt;have HCS:=aA (aan hlt hown.isMap HC.o);have HN:Hid (oq l (k+1)=!(l.take k).contains (qD l k)):=by show(oq l k&&_)=_;rw[HO.o];rfl
    have hcx:=HC.o (qD l k);obtain⟨s,hs⟩:=ex (qD l k);rw[<- hs] at c0 fs HCS HN hcx;clear hs hb hl;have hkey:=TM fs;obtain⟨c,hrun,hat,_⟩:=hown.lookup_int PL Tryz.underlying316 Tryz.underlying3 (UL _) hkey;rw[hcx] at hat
    have rz:k<maxLen:=by unfold maxLen;omega
    cases hc:(l.take k).contains s
    · rw[hc] at hat HN;have e:c=0:=by grind
      subst e;clear hat hcx;go_wp2_with (first | (at_mapUpdate;refine Uy _ rfl _ _ _ 316 rfl 9 3 PL Tryz.underlying316 _ w.heap.size k _ rfl HW.o rz _ _ _ rfl rfl hkey _ [] (plainElem_int Tryz.underlying3 (by decide)) ?_) | go_in)
      intro w1 hown1 hgrow1;have R2:=aA (HB.o.grown hgrow1 HB.o.size (fun j hj=>by grind));obtain⟨c,akI,LW,_⟩:=hown1.lookup_int PL Tryz.underlying316 Tryz.underlying3 (UL _) hkey;rw[atKey_put_same HW.o.isMap (by trivial)] at LW;have e:c=1:=by injection LW with LW;injection LW with _ LW;omega
      subst e;have HW1:=aA hown1;clear LW hown hrun hgrow1 hown1;go_wp2;go_roundw
      case rel=>exact⟨k+1,_,by omega,by go_num,HW1.o,HCS.o,HN.o,R2.o⟩
      case measure=>simp[intOf];omega
    · rw[hc] at hat HN;have e:c=1:=by grind
      subst e;clear hat hcx;have HR:=aA (XQ l (k+1) l.length HN.o hlt);go_wp2_with (first | (at_mapUpdate;refine Uy _ rfl _ _ _ 316 rfl 9 3 PL Tryz.underlying316 _ w.heap.size k _ rfl HW.o rz _ _ _ rfl rfl hkey _ [] (plainElem_int Tryz.underlying3 (by decide)) ?_) | go_in)
      intro w1 hown1 hgrow1;have R2:=aA (HB.o.grown hgrow1 HB.o.size (fun j hj=>by grind));obtain⟨c,akI,LW,_⟩:=hown1.lookup_int PL Tryz.underlying316 Tryz.underlying3 (UL _) hkey;rw[atKey_put_same HW.o.isMap (by trivial)] at LW;have e:c=2:=by injection LW with LW;injection LW with _ LW;omega
      subst e;clear LW hown hrun hgrow1 hown1;go_wp2;go_ret;exact⟨lT (by unfold xx;rw[HR.o];rfl),R2.o⟩
  · obtain rfl:k=l.length:=by omega
    clear hb;go_wp2;go_ret;exact⟨lT (by unfold xx;rw[HO.o];rfl),HB.o⟩
open Go.RowKit Go.WideMaps Go.Maps
structure iL where
 i:wD
 a:JY
def aaO:iL:=⟨⟨⟨#[]⟩,[],[],[],[],0⟩,⟨none,0,none,0,none,0,none,0⟩⟩
def cB (l:List iL) (k:Nat):iL:=l.getD k aaO
def AG (x:iL):Value:=.agg (jF x.a x.i)
def Kl (w:World) (b off:Nat) (l:List iL):Prop:=∀k,k<l.length ->
 (w.cell? (Ad b (off+k*6))=some (.string (cB l k).i.name)/\w.cell? (Ad b (off+k*6+1))=some (.slice (cB l k).a.an (cB l k).i.needs.length (cB l k).a.cn) /\
  w.cell? (Ad b (off+k*6+2))=some (.slice (cB l k).a.ag (cB l k).i.jD.length (cB l k).a.cg)/\w.cell? (Ad b (off+k*6+3))=some (.slice (cB l k).a.ay (cB l k).i.syms.length (cB l k).a.cy) /\
  w.cell? (Ad b (off+k*6+4))=some (.slice (cB l k).a.ar (cB l k).i.pN.length (cB l k).a.cr)/\w.cell? (Ad b (off+k*6+5))=some (I (cB l k).i.entry))/\pT w (cB l k).a (cB l k).i
theorem ahg {w w':World} {b off:Nat} {l:List iL} (hb:Below w.heap.size w w') (hlt:b<w.heap.size) (h:Kl w b off l):Kl w' b off l:=fun k hk=>by
 obtain⟨⟨c0,c1,c2,c3,c4,c5⟩,hi⟩:=h k hk
 grind [cJ,pT.below]
def Dv (w:World) (ao:Option Addr) (l:List iL):Prop:=gJ Kl w ao l
theorem Dv.below {w w':World} {ao:Option Addr} {l:List iL} (h:Dv w ao l) (hb:Below w.heap.size w w'):Dv w' ao l:=gJ.below (lie:=Kl) (fun hb hlt h=>ahg hb hlt h) h hb
def acD (l:List iL):Prop:=cu l.length/\∀k,k<l.length->JW (cB l k).i
def ot (l:List iL):Nat->Int
 | 0=>0
 | k+1=>if ot l k=0 then mq (cB l k).i else ot l k
def jU (l:List iL):List ByteArray:=l.map (·.i.name)
def ou (l:List iL):Int:=if ot l l.length=0 then (if xx (jU l) then 0 else 5) else ot l l.length
theorem E8 (l:List iL) (k:Nat) (h:ot l k≠0):∀n,k<=n->ot l n=ot l k
 | 0,hn=>by grind
 | n+1,hn=>by
  by_cases e:k=n+1
  · grind
  · have ih:=E8 l k h n (by omega)
    grind [ot]
theorem Hs (l:List iL):∀n,ot l n=0->∀k,k<n->mq (cB l k).i=0
 | 0,_,k,hk=>by omega
 | n+1,h,k,hk=>by
  simp only[ot] at h;by_cases e0:ot l n=0
  · rw[aB e0] at h;by_cases e:k=n
    · grind
    · exact Hs l n e0 k (by omega)
  omega
theorem Kf (l:List iL) (k:Nat) (hk:k<l.length):qD (jU l) k=(cB l k).i.name:=by
 grind [qD,jU,cB]
theorem tD (l:List iL):(jU l).length=l.length:=by simp[jU]
def Ym (v:Value):Option (DataW Value×List MemPlace):=some (.held v,[])
def ahb:Value:=.agg #[.string ⟨#[]⟩,Nl,Nl,Nl,Nl,I 0]
structure Kj (l:List iL) (k:Nat) (D:DataW Value):Prop where
 has:∀s,Maps.has D (Bu s)=((jU l).take k).contains s
 at_:oq (jU l) k=true->∀j,j<k->D.atKey (Bu (cB l j).i.name) (.held ahb)=.held (AG (cB l j))
 le:Maps.size D<=k
 all:Maps.size D=k↔oq (jU l) k=true
theorem aaL (l:List iL):Kj l 0 (.map []):=⟨fun s=>by rfl,fun _ j hj=>by omega,by simp[Maps.size],by simp[Maps.size,oq]⟩
theorem aaN (l:List iL) (k j:Nat) (hj:j<k) (hk:k<=l.length):((jU l).take k).contains (cB l j).i.name=true:=by
 have h1:j<((jU l).take k).length:=by grind [tD]
 have h2:((jU l).take k)[j]=(cB l j).i.name:=by
  rw[List.getElem_take];have h3:j<(jU l).length:=by grind
  have:=Kf l j (by omega)
  grind [qD]
 grind
theorem aaM {l:List iL} {k:Nat} {D:DataW Value} (hk:k<l.length) (hD:IsMap D) (hT:Maps.Tidy D) (h:Kj l k D):Kj l (k+1) (D.put (Bu (cB l k).i.name) (.held (AG (cB l k)))):=by
 have hc:=fun s=>Et (jU l) k (by grind [tD]) s
 have hat:=Kf l k hk;have hon:oq (jU l) (k+1)=(oq (jU l) k&&!((jU l).take k).contains (cB l k).i.name):=by grind [oq]
 have hsz:=Maps.size_put (k:=Bu (cB l k).i.name) hT (.held (AG (cB l k)));rw[h.has] at hsz;refine⟨fun s=>?_,fun ho j hj=>?_,?_,?_⟩
 · rw[hc s,hat];by_cases e:s=(cB l k).i.name
   · subst e;rw[Maps.has_put_same hD (by trivial)];simp
   grind [Maps.has_put_other,IY,Kj.has]
 · rw[hon] at ho;simp only[eG,Bool.not_eq_true'] at ho;by_cases e:j=k
   · subst e;exact atKey_put_same hD (by trivial) _ _
   grind [aaN,atKey_put_other,IY,Kj.at_]
 · have:=h.le
   grind
 · rw[hon];have h1:=h.le
   grind [Kj.all]
open Go.RowKit
def ahh (all:List iL) (s:ByteArray):Option Nat:=all.findIdx? (fun x=>decide (x.i.name=s))
def afb (ix:List Nat) (j:Nat):List Nat:=if ix.contains j then ix else ix++[j]
def Yk (all:List iL) (ix:List Nat) (needs:List ByteArray):Nat->Option (List Nat)
 | 0=>some ix
 | k+1=>match Yk all ix needs k with
  | none=>none
  | some ix'=>match ahh all (qD needs k) with
   | none=>none
   | some j=>some (afb ix' j)
def Qf (all:List iL) (ix:List Nat) (n:Nat):List ByteArray:=(cB all (ix.getD n 0)).i.needs
def Mb (all:List iL):Nat->Nat->List Nat->Option (List Nat)
 | 0,_,ix=>some ix
 | f+1,n,ix=>if n<ix.length then (match Yk all ix (Qf all ix n) (Qf all ix n).length with
  | none=>none
  | some ix'=>Mb all f (n+1) ix') else some ix
structure G0 (all:List iL) (ix:List Nat):Prop where
 pos:0<ix.length
 nodup:ix.Nodup
 lt:∀j∈ix,j<all.length
theorem L6:∀(L:Nat) (ix:List Nat),ix.Nodup->(∀j∈ix,j<L)->ix.length<=L
 | 0,ix,_,h=>by
  cases ix with
  | nil=>grind
  | cons x r=>grind [List.mem_cons_self]
 | L+1,ix,hn,h=>by
  by_cases e:L∈ix
  · have h1:=L6 L (ix.erase L) (hn.erase L) (fun j hj=>by
     grind)
    grind
  · have:=L6 L ix hn (fun j hj=>by
     grind)
    omega
theorem G0.le {all:List iL} {ix:List Nat} (h:G0 all ix):ix.length<=all.length:=L6 _ _ h.nodup h.lt
def eN (all:List iL):Int->List Nat->List jZ
 | _,[]=>[]
 | b,j::r=>⟨(cB all j).i,(cB all j).a,b⟩::eN all (xC ⟨(cB all j).i,(cB all j).a,b⟩) r
def jH (all:List iL):Int->List Nat->Int
 | b,[]=>b
 | b,j::r=>jH all (xC ⟨(cB all j).i,(cB all j).a,b⟩) r
theorem kv (all:List iL):∀(ix:List Nat) (b:Int),(eN all b ix).length=ix.length
 | [],_=>rfl
 | j::r,b=>by simp only[eN,xu,kv all r]
theorem Ex (all:List iL) (j:Nat):∀(ix:List Nat) (b:Int),eN all b (ix++[j])=eN all b ix++[⟨(cB all j).i,(cB all j).a,jH all b ix⟩]
 | [],b=>rfl
 | k::r,b=>by simp only[C8,eN,jH,Ex all j r]
theorem Ey (all:List iL) (j:Nat):∀(ix:List Nat) (b:Int),jH all b (ix++[j])=xC ⟨(cB all j).i,(cB all j).a,jH all b ix⟩
 | [],b=>rfl
 | k::r,b=>by simp only[C8,jH,Ey all j r]
theorem ug (all:List iL):∀(ix:List Nat) (b:Int) (k:Nat),k<ix.length->(dJ (eN all b ix) k).i=(cB all (ix.getD k 0)).i/\(dJ (eN all b ix) k).a=(cB all (ix.getD k 0)).a/\(dJ (eN all b ix) k).base=jH all b (ix.take k)
 | [],_,k,hk=>by grind
 | j::r,b,0,_=>⟨rfl,rfl,rfl⟩
 | j::r,b,k+1,hk=>by
  have:=ug all r (xC ⟨(cB all j).i,(cB all j).a,b⟩) k (by grind)
  grind [dJ,eN,jH]
theorem N3 (all:List iL) (ix:List Nat) (b:Int) (h:0<ix.length):xC (dJ (eN all b ix) (ix.length-1))=jH all b ix:=by
 obtain⟨r,j,rfl⟩:∃r j,ix=r++[j]:=⟨ix.dropLast,ix.getLast (by grind),(ach _).symm⟩
 grind [Ex,Ey,kv,dJ]
theorem AK (all:List iL) (hc:∀j,j<all.length->mq (cB all j).i=0):∀(ix:List Nat) (b:Int),(∀j∈ix,j<all.length)->b<=jH all b ix/\jH all b ix<=b+255*(ix.length:Int)
 | [],b,_=>by simp[jH]
 | j::r,b,h=>by
  have hl:=E7 (hc j (h j Dh));have ih:=AK all hc r (xC ⟨(cB all j).i,(cB all j).a,b⟩) (fun k hk=>h k (GK _ hk))
  grind [jH,xC]
open Go.RowKit
def qE:ByteArray:=⟨(Lib.repeatL [0] 16).toArray⟩
theorem Eu:qE.size=16:=rfl
def vE (s:pE) (n:Nat):ByteArray:=iw qE 0 (s.data.extract (min (n*16) s.data.size) (min (min (n*16) s.data.size+16) s.data.size))
theorem N4 (s:ByteArray) (a b:Nat) (h1:a<=b) (h2:b<=s.size):(s.extract a b).size=b-a:=by
 simp_all
structure o5 where
 pos:Int
 bytes:ByteArray
def aaJ:o5:=⟨0,⟨#[]⟩⟩
def xz (l:List o5) (k:Nat):o5:=l.getD k aaJ
def Kk (w:World) (b off:Nat) (l:List o5):Prop:=∀i,i<l.length->w.cell? (Ad b (off+i*2))=some (I (xz l i).pos)/\w.cell? (Ad b (off+i*2+1))=some (.string (xz l i).bytes)
theorem ahe {w w':World} {b off:Nat} {l:List o5} (hb:Below w.heap.size w w') (hlt:b<w.heap.size) (h:Kk w b off l):Kk w' b off l:=fun i hi=>by
 obtain⟨c0,c1⟩:=h i hi
 grind [cJ]
def Kn (w:World) (ao:Option Addr) (l:List o5):Prop:=gJ Kk w ao l
theorem Kn.below {w w':World} {ao:Option Addr} {l:List o5} (h:Kn w ao l) (hb:Below w.heap.size w w'):Kn w' ao l:=gJ.below (lie:=Kk) (fun hb hlt h=>ahe hb hlt h) h hb
def Ki (p:o5):List Value:=[I p.pos,.string p.bytes]
def CG (f:mI):List Value:=[I f.off,.string f.bytes]
def Vi (p:o5):Prop:=0<=p.pos/\p.pos<=1000000/\p.bytes.size=8
def Dt (page:Int) (p:o5):List mI:=if max (page*16) p.pos<min (page*16+16) (p.pos+8) then [⟨max (page*16) p.pos-page*16,p.bytes.extract (max (page*16) p.pos-p.pos).toNat (max (page*16) p.pos-p.pos+(min (page*16+16) (p.pos+8)-max (page*16) p.pos)).toNat⟩] else []
def kH (page:Int) (ps:List o5):List mI:=ps.flatMap (Dt page)
theorem U6 {α:Type} (l:List α) (d:α) (k:Nat) (h:k<l.length):l.take (k+1)=l.take k++[l.getD k d]:=by
 simp_all
theorem aaP (page:Int) (p:o5):(Dt page p).length<=1:=by
 grind [Dt]
theorem Kg (page:Int):∀ps:List o5,(kH page ps).length<=ps.length
 | []=>by simp[kH]
 | p::r=>by
  have h1:=Kg page r
  grind [aaP,kH]
theorem Qj (page:Int) (l:List o5) (p:o5):kH page (l++[p])=kH page l++Dt page p:=by
 grind [kH]
open Go.RowKit
def afa (l:List UW) (s:ByteArray):Option Nat:=l.findIdx? (fun y=>decide (y.name=s))
def ahc (o:jZ) (s:ByteArray):Option Int:=match afa o.i.syms s with
 | none=>none
 | some k=>some (xU o (UT o.i.syms k).pos)
def Yi (l:List jZ) (s:ByteArray):Nat->Option Int
 | 0=>none
 | k+1=>match Yi l s k with
  | some t=>some t
  | none=>ahc (dJ l k) s
def U5 (l:List jZ) (o:jZ) (s:ByteArray):Option Int:=if s=⟨#[]⟩ then some (xU o 0) else Yi l s l.length
theorem J9 {i:wD} (hc:mq i=0):GY i=true:=by
 grind [mq]
theorem J5:∀{l:List pE} {a:Int} {s:pE},tB l a=some s->(∃k,k<l.length/\eD l k=s)/\rP s a=true
 | [],a,s,h=>by cases h
 | x::r,a,s,h=>by
  simp only[tB] at h;split at h
  · rename_i hi
    injection h with h;subst h;exact⟨⟨0,by simp,rfl⟩,hi⟩
  · obtain⟨⟨k,hk,e⟩,hi⟩:=J5 h;exact⟨⟨k+1,by grind,by grind [eD]⟩,hi⟩
theorem wN {i:wD} (hc:mq i=0) {a:Int} (h:iO i.jD a=true):0<=a/\a<4080:=by
 unfold iO at h;obtain⟨s,hs⟩:=O8.1 h;obtain⟨⟨k,hk,e⟩,hi⟩:=J5 hs;have hb:=xy hc k hk
 grind [rP]
theorem J8 (i:wD):∀n,JV i n=true->∀k,k<n->Ph i k=true
 | 0,_,k,hk=>by omega
 | n+1,h,k,hk=>by
  simp only[JV,eG] at h;by_cases e:k=n
  · grind
  · exact J8 i n h.1 k (by omega)
theorem adp {i:wD} (hc:mq i=0) (k:Nat) (hk:k<i.pN.length):Ph i k=true:=by
 have h:=J9 hc
 grind [GY,J8]
theorem Sb {i:wD} (hc:mq i=0) (k:Nat) (hk:k<i.pN.length):0<=(uM i.pN k).pos/\(uM i.pN k).pos+7<4080:=by
 have h:=adp hc k hk;unfold Ph XX at h;simp only[eG] at h;have h0:=wN hc h.2.1;have h7:=wN hc h.2.2.2.2.2.2.2.2;omega
theorem N5 {i:wD} (hc:mq i=0):0<=i.entry/\i.entry<4080:=by
 have h:=J9 hc;unfold GY at h;simp only[eG] at h;have he:=h.2.2;unfold Cz at he;refine wN hc ?_
 grind [iO]
def ahd (o:jZ) (r:R7) (t:Int):o5:=⟨xU o r.pos,⟨(Lib.leBytes 8 (mz (t+r.add))).toArray⟩⟩
def ud (l:List jZ) (o:jZ):Nat->Option (List o5)
 | 0=>some []
 | k+1=>match ud l o k with
  | none=>none
  | some ps=>match U5 l o (uM o.i.pN k).name with
   | none=>none
   | some t=>some (ps++[ahd o (uM o.i.pN k) t])
def vA (l:List jZ) (o:jZ):Option (List o5):=ud l o o.i.pN.length
theorem Ke {l:List jZ} {o:jZ}:∀{k:Nat} {ps:List o5},ud l o k=some ps->ps.length=k
 | 0,ps,h=>by grind [ud]
 | k+1,ps,h=>by
  simp only[ud] at h;cases e:ud l o k with
  | none=>grind
  | some qs =>
   rw[e] at h;simp only at h;cases g:U5 l o (uM o.i.pN k).name with
   | none=>grind
   | some t =>
    rw[g] at h;simp only at h;injection h with h;subst h;rw[fD,Ke e];rfl
open Go.RowKit
structure Fb where
 page:Int
 data:ByteArray
 eO:List mI
def fP (s:bG):Fb:=⟨s.page,s.data,s.eO⟩
def aaK (o:jZ) (ps:List o5) (s:pE) (m:Nat):Fb:=⟨o.base+s.page+(m:Int),vE s m,kH (o.base+s.page+(m:Int)) ps⟩
def zE (o:jZ) (ps:List o5) (s:pE) (n:Nat):List Fb:=(List.range n).map (aaK o ps s)
def xS (o:jZ) (ps:List o5):Nat->List Fb
 | 0=>[]
 | k+1=>xS o ps k++zE o ps (eD o.i.jD k) (eD o.i.jD k).aO.toNat
def ue (l:List jZ):Nat->Option (List Fb)
 | 0=>some []
 | k+1=>match ue l k with
  | none=>none
  | some E=>match vA l (dJ l k) with
   | none=>none
   | some ps=>some (E++xS (dJ l k) ps (dJ l k).i.jD.length)
def sA (l:List jZ):Option (List Fb):=ue l l.length
theorem Sd (o:jZ) (ps:List o5) (s:pE) (n:Nat):zE o ps s (n+1)=zE o ps s n++[aaK o ps s n]:=by
 grind [zE,List.range_succ]
theorem Hq {l:List jZ} {k:Nat} (h:ue l k=none):∀n,k<=n->ue l n=none
 | 0,hn=>by grind
 | n+1,hn=>by
  by_cases e:k=n+1
  · grind
  · simp only[ue];rw[Hq h n (by omega)]
theorem Qc {l:List jZ} {o:jZ} (hc:mq o.i=0) (h0:1<=o.base) (h1:o.base<=2000):∀(k:Nat) (ps:List o5),k<=o.i.pN.length->ud l o k=some ps->∀j,j<ps.length->Vi (xz ps j)
 | 0,ps,_,h,j,hj=>by grind [ud]
 | k+1,ps,hk,h,j,hj=>by
  simp only[ud] at h;cases e:ud l o k with
  | none=>grind
  | some qs =>
   rw[e] at h;simp only at h;cases g:U5 l o (uM o.i.pN k).name with
   | none=>grind
   | some t =>
    rw[g] at h;simp only at h;injection h with h;subst h;rw[fD] at hj;by_cases hjq:j<qs.length
    · have:=Qc hc h0 h1 k qs (by omega) e j hjq
      grind [xz]
    · have hje:j=qs.length:=by grind
      subst hje;unfold xz;rw[fy,yP (aH _),GG];have hb:=Sb hc k (by omega);refine⟨?_,?_,?_⟩
      · show 0<=o.base*16+(uM o.i.pN k).pos;omega
      · show o.base*16+(uM o.i.pN k).pos<=1000000;omega
      rfl
def qY (rb:Option Nat) (w:World) (ao:Option Addr) (l:List mI):Prop:=0<l.length->∃b off,ao=some (Ad b off)/\b<w.heap.size/\some b≠rb/\Du w b off l
theorem qY.has {rb:Option Nat} {w:World} {ao:Option Addr} {l:List mI} (h:qY rb w ao l):qG w ao l:=fun hl=>by
 obtain⟨b,off,h1,h2,_,h3⟩:=h hl
 grind
theorem qY.below {rb:Option Nat} {w w':World} {ao:Option Addr} {l:List mI} (h:qY rb w ao l) (hb:Below w.heap.size w w'):qY rb w' ao l:=fun hl=>by
 obtain⟨b,off,h1,h2,h3,h4⟩:=h hl
 grind [Nat.lt_of_lt_of_le,acC,Below.size]
theorem Sg {w w':World} {b off:Nat} {l:List mI} (h:Du w b off l) (hb:w'.heap[b]?=w.heap[b]?):Du w' b off l:=fun i hi=>by
 obtain⟨c0,c1⟩:=h i hi
 grind [World.cell?_of_block]
theorem qY.grown {rb:Option Nat} {w w':World} {ao:Option Addr} {l:List mI} {g:Nat} (h:qY rb w ao l) (hg:w.grownBy w' rb) (hs:w.heap.size<=w'.heap.size) (hat:rb=some g∨g=w.heap.size):qY (some g) w' ao l:=fun hl=>by
 obtain⟨b,off,h1,h2,h3,h4⟩:=h hl
 grind [Sg,World.grownBy.block]
def acE (rb:Option Nat) (w:World) (hs:List bG):Prop:=∀k,k<hs.length->qY rb w (bu hs k).ao (bu hs k).eO
def E9 (s:bG):List Value:=[I s.page,.string s.data,.slice s.ao s.eO.length s.cap]
theorem U7 (l:List bG) (x:bG) (k:Nat) (h:k<l.length):bu (l++[x]) k=bu l k:=by
 grind [bu]
theorem U8 (l:List bG) (x:bG):bu (l++[x]) l.length=x:=by
 grind [bu]
open Go.RowKit
def cE (xs ys:List bG):Prop:=ys.map fP=xs.map fP
def aU (k:aR) (hs:List bG):aR:=⟨hs,k.frames,k.slots,k.aj,k.hand⟩
theorem cE.trans {xs ys zs:List bG} (h:cE xs ys) (g:cE ys zs):cE xs zs:=Eq.trans g h
theorem cE.len {xs ys:List bG} (h:cE xs ys):ys.length=xs.length:=by
 have:=dY List.length h
 grind
theorem A4 {a b:bG} (h:fP a=fP b):a.page=b.page/\a.data=b.data/\a.eO=b.eO:=by
 injection h with h1 h2 h3
 grind
theorem cE.at {xs ys:List bG} (h:cE xs ys) (i:Nat):fP (bu ys i)=fP (bu xs i):=by
 unfold cE at h;unfold bu;have h1:(ys.map fP)[i]?=(xs.map fP)[i]?:=by rw[h]
 grind
theorem SF {a b:bG} (h:fP a=fP b):qW a=qW b:=by
 obtain⟨h1,h2,h3⟩:=A4 h
 grind [qW]
theorem SE {a b:bG} (h:fP a=fP b):df a=df b:=by
 grind [A4,df,oY]
theorem Fx (p:Int):∀(xs ys:List bG),cE xs ys->(iD ys p).map fP=(iD xs p).map fP
 | [],[],_=>rfl
 | [],b::r,h=>by have:=dY List.length h;grind
 | a::r,[],h=>by have:=dY List.length h;grind
 | a::r,b::t,h=>by
  have h:fP b::t.map fP=fP a::r.map fP:=h;injection h with h1 h2;have ih:=Fx p r t h2
  grind [A4,iD]
theorem Fy {xs ys:List bG} (h:cE xs ys) (p:Int):eV ys p=eV xs p:=by
 grind [Fx,eV,SF]
theorem VI {xs ys:List bG} (h:cE xs ys) (p:Int):(iD ys p).isSome=(iD xs p).isSome:=by
 have:=dY Option.isSome (Fx p xs ys h)
 grind
theorem BH {xs ys:List bG} (h:cE xs ys) (p:Int) (z:Bool):fY ys p z=fY xs p z:=by
 grind [fY,Fy]
theorem VJ {xs ys:List bG} (h:cE xs ys):gS ys=gS xs:=by
 have:∀n,jT ys n=jT xs n:=fun n=>by
  induction n with
  | zero=>rfl
  | succ n ih =>
   grind [jT,SE,rA,A4,cE.at]
 grind [gS,cE.len]
theorem aY.xR {k:aR} (h:aY k) {hs:List bG} (s:cE k.aM hs):aY (aU k hs):=by
 refine⟨?_,(VJ s).trans h.mn,h.hand,fun x hx=>?_,h.room,fun i hi=>?_,h.slt⟩
 · have:=h.c;have e:=s.len;refine gU ?_;show(3<=k.frames.length/\k.frames.length<=64)/\k.slots.length<=512/\(1<=k.aj.length/\k.aj.length<=4)/\hs.length<=255;omega
 · have g:=h.each x hx;exact⟨g.dead,g.aT,g.mn,g.ML,fun p h1 h2=>(VI s p).trans (g.aM p h1 h2)⟩
 · have g:=h.zt i hi;exact⟨g.refs,g.zero,g.one,g.size,fun d x hx=>(g.fill d x hx).trans (BH s _ _).symm⟩
theorem Ia {k:aR} {hs:List bG} (s:cE k.aM hs) (j:Nat) (p:Int):cC (aU k hs) j p=cC k j p:=by
 unfold cC;show(match bk (ak k.aj j).bf p with
  | some e=>_
  | none=>fY hs p _)=_
 rw[BH s];rfl
theorem QH (k:aR) (hs:List bG) (i:Nat):eB (aU k hs) i=aU (eB k i) hs:=by
 grind [eB,Fu,aU,zR]
theorem FO (held:List Int) (hs:List bG):∀(n:Nat) (k:aR),nt held n (aU k hs)=aU (nt held n k) hs
 | 0,k=>rfl
 | n+1,k=>by
  unfold nt;show(if nE held k=true then nt held n (aU (jq held k) hs) else aU k hs)=_;by_cases c:nE held k=true
  · rw[aB c,aB c];exact FO held hs n _
  grind
theorem KT (k:aR) (hs:List bG) (held:List Int):bJ (aU k hs) held=((bJ k held).1,aU (bJ k held).2 hs):=by
 unfold bJ;show(match yg k.frames with
  | some i=>(i,aU k hs)
  | none=>_)=_
 cases yg k.frames with
 | some i=>rfl
 | none =>
  show(_,_)=(_,_);rw[FO,show(aU (nt held 70 k) hs).hand=(nt held 70 k).hand from rfl,QH];rfl
theorem FC (k:aR) (hs:List bG) (e:bC):dE (aU k hs) e=aU (dE k e) hs:=by unfold dE;split <;> rfl
theorem BW (k:aR) (hs:List bG) (j:Nat) (p:Int) (i:Nat) (d:ByteArray) (dy:Bool):eH (aU k hs) j p i d dy=aU (eH k j p i d dy) hs:=by
 unfold eH;show(match bk (ak k.aj j).bf p with
  | none=>_
  | some e=>_)=_
 cases bk (ak k.aj j).bf p with
 | none=>rfl
 | some e=>exact FC (fZ (iK k i d dy) j ⟨p,1,i⟩) hs e
theorem Mh {k:aR} (h:aY k) {held:List Int} (hl:held.length<=2) {hs:List bG} (s:cE k.aM hs) (j:Nat) (p:Int):dn (aU k hs) j p held=((dn k j p held).1,aU (dn k j p held).2 hs):=by
 have hsh:=(sN h hl).kept.aM;unfold dn;show(match bk (ak k.aj j).bf p with
  | some e=>_
  | none=>_)=_
 rw[KT];cases bk (ak k.aj j).bf p with
 | none =>
  dsimp only;rw[BW];show(_,aU (eH _ _ _ _ (fY hs p _) _) hs)=_;rw[BH s,hsh];rfl
 | some e =>
  dsimp only;by_cases c:e.kind=1
  · grind
  · rw[au c,au c,BW];rfl
theorem QJ (k:aR) (hs:List bG) (held:List Int) (j:Nat) (p:Int) (a:Nat):kJ (aU k hs) j p a held=((kJ k j p a held).1,aU (kJ k j p a held).2 hs):=by
 grind [kJ,KT,aU,BW]
theorem QG {k:aR} (h:aY k) {held:List Int} (hl:held.length<=2) {hs:List bG} (s:cE k.aM hs) (j:Nat) (p way:Int):dG (aU k hs) j p way held=((dG k j p way held).1,aU (dG k j p way held).2 hs):=by
 have e:ir (aU k hs) j p way held=((ir k j p way held).1,aU (ir k j p way held).2 hs):=by
  grind [ir,Mh,QJ]
 unfold dG;rw[e];rfl
theorem sL {k:aR} (h:aY k) {j:Nat} (hj:j<k.aj.length) {a n way:Int} (h1:dX k j (a/16)) {hs:List bG} (s:cE k.aM hs):aZ (aU k hs) j a n way=((aZ k j a n way).1,aU (aZ k j a n way).2 hs):=by
 grind [qK,eU,QG,kx,aZ,fK.kept,fE.aM,fK.right]
theorem BV (k:aR) (hs:List bG) (ids:List Nat) (s:ByteArray):∀n,lq (aU k hs) ids s n=aU (lq k ids s n) hs
 | 0=>rfl
 | n+1=>by
  unfold lq;rw[BV k hs ids s n];rfl
theorem Fv {k:aR} (h:aY k) {j:Nat} (hj:j<k.aj.length) {a:Int} {d:ByteArray} (h1:dX k j (a/16)) {hs:List bG} (s:cE k.aM hs):ll (aU k hs) j a d=aU (ll k j a d) hs:=by
 unfold ll;rw[sL h hj h1 s];exact BV _ _ _ _ _
theorem KY (k:aR) (hs:List bG) (es:List bC) (p:bC->Bool):∀n,cQ (aU k hs) es p n=aU (cQ k es p n) hs
 | 0=>rfl
 | n+1=>by
  unfold cQ;rw[KY k hs es p n]
  grind [FC]
theorem uF (k:aR) (hs:List bG) (j:Nat) (p:bC->Bool):dz (aU k hs) j p=aU (dz k j p) hs:=by
 grind [dz,jV,aU,KY]
theorem FP (k:aR) (hs:List bG) (j:Nat) (l:List aX):gA (aU k hs) j l=aU (gA k j l) hs:=by
 unfold gA;rw[uF];rfl
theorem Il (k:aR) (hs:List bG) (j:Nat):js (aU k hs) j=aU (js k j) hs:=by
 unfold js;rw[uF];rfl
theorem FM (k:aR) (hs:List bG) (e:bC) (d:Int):jW (aU k hs) e d=aU (jW k e d) hs:=by unfold jW;split <;> rfl
theorem Fw (k:aR) (hs:List bG) (es:List bC):∀n,dN (aU k hs) es n=aU (dN k es n) hs
 | 0=>rfl
 | n+1=>by
  unfold dN;rw[Fw k hs es n,FM]
theorem Ij (k:aR) (hs:List bG) (j:Nat):gD (aU k hs) j=aU (gD k j) hs:=by
 grind [gD,aU,Fw]
theorem Fs {l r:List aX} (hl:bj l=0) (hr:bj r=0) (h:∀x:Int,(aW r x).2=true->(aW l x).2=true):bg r<=bg l:=by
 rw[sZ hl,sZ hr];have:=mQ (dB l) (dB r) (yB.sorted (om hr)) (yB.sorted (om hl)) (fun x hx=>(qQ hl x).1 (h x ((qQ hr x).2 hx)));omega
theorem H9 (F G:Int->Bool) (a b:Int):∀(n:Nat) (p:Int),(∀x,p<=x->x<p+n->(a<=x/\x<b->F x=true/\G x=false)/\(¬(a<=x/\x<b)->F x=G x))->((mg p n).filter F).length=(((mg p n).filter G).length:Int)+max 0 (min (p+n) b-max p a)
 | 0,p,_=>by
  show(0:Int)=0+_;omega
 | n+1,p,h=>by
  have ih:=H9 F G a b n (p+1) (fun x h1 h2=>h x (by omega) (by omega))
  grind [mg]
theorem EA {l:List aX} (hl:bj l=0):bg l=(((mg 1 255).filter (fun x=>(aW l x).2)).length:Int):=by
 rw[sZ hl];have s1:=yB.sorted (om hl);have s2:((mg 1 255).filter (fun x=>(aW l x).2)).Pairwise (·<·):=(uq 255 1).sublist List.filter_sublist;have a1:=mQ _ _ s1 s2 (fun x hx=>by
  grind [qQ,kM,pK])
 have a2:=mQ _ _ s2 s1 (fun x hx=>by
  grind [qQ])
 omega
theorem VE {l:List aX} {p n q:Int} (h:(dD l p n q).2=0) (hl:bj l=0):bg (dD l p n q).1=bg l+n:=by
 obtain⟨h1,h2⟩:=zl l p n q h;obtain⟨_,GR,_⟩:=xm _ _ _ _ _ h;rw[EA h1,EA hl];have:=H9 (fun x=>(aW (dD l p n q).1 x).2) (fun x=>(aW l x).2) p (p+n) 255 1 (fun x hx1 hx2=>by
  obtain⟨m,rfl⟩:∃m:Nat,x=(m:Int):=⟨x.toNat,by omega⟩
  grind)
 rw[this];have hb:1<=p/\1<=n/\p+n<=256:=by
  grind [fL]
 omega
theorem Qw {l:List aX} {p n:Int} (h:(cN l p n).2=0) (hl:bj l=0):bg (cN l p n).1<=bg l:=by
 obtain⟨h1,h2⟩:=yu h;obtain⟨_,k2⟩:=wk l p n h;refine Fs hl h1 fun x hx=>?_
 have hb:=kM hx;obtain⟨m,rfl⟩:∃m:Nat,x=(m:Int):=⟨x.toNat,by omega⟩
 grind
theorem Mf {l:List aX} {p n q:Int} (h:(bR l p n q).2=0) (hl:bj l=0):bg (bR l p n q).1=bg l:=by
 obtain⟨h1,h2⟩:=tS l p n q h;have e:∀x:Int,1<=x->x<=255->(aW (bR l p n q).1 x).2=(aW l x).2:=fun x g1 g2=>by
  obtain⟨m,rfl⟩:∃m:Nat,x=(m:Int):=⟨x.toNat,by omega⟩
  grind
 have a1:=Fs hl h1 (fun x hx=>by grind [kM]);have a2:=Fs h1 hl (fun x hx=>by grind [kM]);omega
end Go.Proofs.YtlgoihmkgaaemaaGreat
