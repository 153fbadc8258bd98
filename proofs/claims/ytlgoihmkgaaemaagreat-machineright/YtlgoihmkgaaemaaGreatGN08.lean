import Derived.Test.YtlgoihmkgaaemaaGreatGN07
import Derived.Lib.Repeat
set_option maxHeartbeats 20000000
set_option linter.unusedVariables false
set_option maxRecDepth 100000
set_option linter.unusedSimpArgs false
namespace Go.Proofs.YtlgoihmkgaaemaaGreat
open Go.RowKit
theorem Yq (l:List pL) (k n:Nat) (h:sM l k=false) (hk:k<=n):sM l n=false:=by
 induction n with
 | zero=>grind
 | succ n ih =>
  grind [sM]
theorem aaY (l:List pL) (k:Nat) (hk:k<l.length) (h:sM l (k+1)=false):CR l=false:=Yq l (k+1) l.length h hk
theorem Sl (l:List pL) (ao:Option Addr) (cap:Nat) (w:World) (h:gS zS w ao l) (hn:cB l.length) (hr:l.all ll=true) :
  Calls Tryz.prog 161 #[.slice ao l.length cap] w fun e w'=>e=.returned (.bool (!CR l))/\Below w.heap.size w w':=by
 unfold cB at hn;have H:=aB h;have F:=aB hr;clear h hr;go_enter Tryz.func161,Tryz.ntmps161;go_wp2;go_loopw [3] (fun i wr=>∃k:Nat,1<=k/\(k<=l.length∨k=1)/\i=I k/\sM l k=true/\Below w.heap.size w wr) (fun i _=>l.length-(intOf i).toNat)
 case atStart=>exact⟨1,by omega,.inr rfl,rfl,rfl,aK _ _⟩
 case round =>
  obtain⟨k,hk1,hk,rfl,hall,hb⟩:=hrel;have HA:=aB hall;have HB:=aB hb;clear hall;by_cases hlt:k<l.length
  · obtain⟨b,off,hao,hbl,hl⟩:=H.o (by omega);subst hao;obtain⟨c0,c1,c2,c3,c4⟩:=zR hb hbl hl k hlt;obtain⟨e0,e1,e2,e3,e4⟩:=zR hb hbl hl (k-1) (by omega);have g1:0<=(eO l (k-1)).page/\1<=(eO l (k-1)).aQ/\(eO l (k-1)).page+(eO l (k-1)).aQ<=255/\_:=oP (Qd ll Ib l (k-1) (by omega) F.o);have hov:Hid (sM l (k+1)=decide ((eO l (k-1)).page+(eO l (k-1)).aQ<=(eO l k).page)):=by
     show _=_;simp only[sM,HA.o,tK,Yy]
     grind
    obtain⟨s,hs⟩:=ex (eO l k);obtain⟨t,ht⟩:=ex (eO l (k-1));rw[<- hs] at c0 c1 c2 c3 c4 hov;rw[<- ht] at e0 e1 e2 e3 e4 g1 hov;clear hs ht hb hl;obtain⟨sp,sn,sd,sx,sy⟩:=s;obtain⟨tp,tn,td,tx,ty⟩:=t;simp only at c0 c1 c2 c3 c4 e0 e1 e2 e3 e4 g1 hov;obtain⟨g1,g2,g3,g4⟩:=g1;clear c1 c2 c3 c4 e2 e3 e4 g4;have T5:(k:Int)<(l.length:Int):=by omega
    have CL:=jq wr;have hkc:=@fO wr;have hbr:b<wr.heap.size:=fL hbl HB.o.size;have k0:∀x:dV wr.heap.size wr,x.world.cell? (Ad b (off+k*5))=some (I sp):=fun x=>by rw[hkc x _ _ hbr,c0]
    have k1:∀x:dV wr.heap.size wr,x.world.cell? ⟨b,off+(k-1)*5,none⟩=some (I tp):=fun x=>by rw[hkc x _ _ hbr,e0]
    have k2:∀x:dV wr.heap.size wr,x.world.cell? ⟨b,off+(k-1)*5+1,none⟩=some (I tn):=fun x=>by rw[hkc x _ _ hbr,e1]
    clear hkc c0 e0 e1;by_cases d:sp<tp+tn
    · have hno:Hid (sM l (k+1)=false):=by show _=_;rw[hov.out];exact jl (by omega)
      go_wp2;refine dx (by kernel_rfl) (by kernel_rfl) ?_
      repeat (first | go_big_quiet_step (fail) | quiet_step (fail))
      refine jk ?_;intro _ hw';obtain⟨x,hw''⟩:=hw';subst hw'';go_wp2;go_ret;exact⟨lY (by rw[aaY l k hlt hno.out];rfl),HB.o.trans (x.keeps.mono HB.o.size)⟩
    · have al3:Hid (sM l (k+1)=true):=by show _=_;rw[hov.out];exact gZ (by omega)
      go_wp2;refine dx (by kernel_rfl) (by kernel_rfl) ?_
      repeat (first | go_big_quiet_step (fail) | quiet_step (fail))
      refine jk ?_;intro _ hw';obtain⟨x,hw''⟩:=hw';subst hw'';go_wp2;go_roundw
      case rel=>exact⟨k+1,by omega,.inl (by omega),by go_num,al3.out,HB.o.trans (x.keeps.mono HB.o.size)⟩
      case measure=>simp[intOf];omega
  · have HR:Hid (CR l=true):=by
     show _=_;unfold CR;rcases hk with hk | hk
     · rw[show l.length=k by omega];exact HA.o
     · rcases Nat.lt_or_ge l.length 1 with h0 | h0
       · rw[show l.length=0 by omega];rfl
       · rw[show l.length=k by omega];exact HA.o
    have hge:¬(k:Int)<(l.length:Int):=by omega
    clear hb;go_wp2;go_ret;exact⟨lY (by rw[HR.o];rfl),HB.o⟩
open Go.RowKit
def zN (s:pL):Array Value:=#[I s.page,I s.aQ,.string s.data,.bool s.wr,.bool s.ex]
def Du (l:List pL) (a:Int):pL:=(tL l a).getD Ib
theorem Dw:∀(l:List pL) (a:Int),(∀j,j<l.length->su (eO l j) a=false)->tL l a=none
 | [],_,_=>rfl
 | s::r,a,h=>by
  have h0:su s a=false:=h 0 (by simp);unfold tL;rw[h0,aA (by simp)];exact Dw r a (fun j hj=>h (j+1) (by grind))
theorem Dv:∀(l:List pL) (a:Int) (k:Nat),k<l.length->(∀j,j<k->su (eO l j) a=false)->su (eO l k) a=true->tL l a=some (eO l k)
 | s::r,a,0,_,_,h=>by
  have h0:su s a=true:=h;unfold tL;rw[h0,aC rfl];rfl
 | s::r,a,k+1,hk,hj,h=>by
  have h0:su s a=false:=hj 0 (by omega);unfold tL;rw[h0,aA (by simp)];exact Dv r a k (by grind) (fun j h=>hj (j+1) (by omega)) h
theorem P6 {l:List pL} (h:l.all ll=true) (k:Nat) (hk:k<l.length):0<=(eO l k).page/\1<=(eO l k).aQ/\(eO l k).page+(eO l k).aQ<=255/\((eO l k).data.size:Int)<=(eO l k).aQ*16 :=
 oP (Qd ll Ib l k hk h)
theorem Yp {l:List pL} (h:l.all ll=true) (a:Int) (ha:a<0):tL l a=none :=
 Dw l a (fun j hj=>by
  have:=P6 h j hj;exact jl (by omega))
theorem Md {a b:pL} {x y:Bool} (h:a=b) (g:x=y):Ending.returned (.tuple #[.agg (zN a),.bool x])=.returned (.tuple #[.agg (zN b),.bool y]):=by rw[h,g]
theorem AV (l:List pL) (ao:Option Addr) (cap:Nat) (a:Int) (w:World) (h:gS zS w ao l) (hn:cB l.length) (hr:l.all ll=true) (ha:cO a) :
  Calls Tryz.prog 201 #[.slice ao l.length cap,I a] w fun e w'=>e=.returned (.tuple #[.agg (zN (Du l a)),.bool (iY l a)])/\Below w.heap.size w w':=by
 unfold cB at hn;unfold cO at ha;have H:=aB h;have F:=aB hr;clear h hr;by_cases h0:a<0
 · have HN:=aB (Yp F.o a h0);have HZ:=aB ((aK w.heap.size w).alloc (aI _) (.cells #[I 0,I 0,.string ⟨#[]⟩,.bool false,.bool false] 166));go_enter Tryz.func201,Tryz.ntmps201;go_wp2;exact bO (v:=.tuple #[.agg #[I 0,I 0,.string ⟨#[]⟩,.bool false,.bool false],.bool false]) (by simp[results,Tryz.results201,go_sem]) rfl ⟨Md (a:=Ib) (x:=false) (by grind [Du,Hid.o]) (by grind [iY,Hid.o]),HZ.o⟩
 · have hbz:Below w.heap.size w (w.alloc (.cells #[I 0,I 0,.string ⟨#[]⟩,.bool false,.bool false] 166)):=(aK _ _).alloc (aI _) _;have HZ:=aB hbz;clear hbz;go_enter Tryz.func201,Tryz.ntmps201;go_wp2;go_loopw [16] (fun i wr=>∃k:Nat,k<=l.length/\i=I k/\(∀j,j<k->su (eO l j) a=false)/\Below (w.heap.size+1) (w.alloc (.cells #[I 0,I 0,.string ⟨#[]⟩,.bool false,.bool false] 166)) wr) (fun i _=>l.length-(intOf i).toNat)
   case atStart=>grind [Below.refl]
   case round =>
    obtain⟨k,hk,rfl,hno,hb⟩:=hrel;have HN:=aB hno;have HB:=aB hb;have wY:Hid (Below w.heap.size w wr):=HZ.o.trans (hb.mono (kV _));have hsz:w.heap.size+1<=wr.heap.size:=by have:=hb.size;simpa using this
    have HR:=aB (aO (bE w #[I 0,I 0,.string ⟨#[]⟩,.bool false,.bool false] 166) hb (O8 _));clear hno hb;by_cases hlt:k<l.length
    · obtain⟨b,off,hao,hbl,hl⟩:=H.o (by omega);subst hao;obtain⟨c0,c1,c2,c3,c4⟩:=zR wY.out hbl hl k hlt;obtain⟨g1,g2,g3,g4⟩:=P6 F.o k hlt;obtain⟨s,hs⟩:=ex (eO l k);rw[<- hs] at c0 c1 c2 c3 c4 g1 g2 g3 g4;have HS:=aB hs;clear hs hl;obtain⟨p,n,d,x,y⟩:=s;simp only at c0 c1 c2 c3 c4 g1 g2 g3 g4;have T5:(k:Int)<(l.length:Int):=by omega
      clear g4;by_cases d1:p<=a/16
      · by_cases d2:a/16<p+n
        · have hin:Hid (su (eO l k) a=true):=by show _=_;rw[<- HS.o];exact gZ (show p*16<=a/\a<(p+n)*16 by omega)
          have t0:=au (br HR.o (.cells #[I p,I n,.string d,.bool x,.bool y] 166)) 0 rfl;have t1:=au (br HR.o (.cells #[I p,I n,.string d,.bool x,.bool y] 166)) 1 rfl;have t2:=au (br HR.o (.cells #[I p,I n,.string d,.bool x,.bool y] 166)) 2 rfl;have t3:=au (br HR.o (.cells #[I p,I n,.string d,.bool x,.bool y] 166)) 3 rfl;have t4:=au (br HR.o (.cells #[I p,I n,.string d,.bool x,.bool y] 166)) 4 rfl;have u0:=aR (br HR.o (.cells #[I p,I n,.string d,.bool x,.bool y] 166));have HW2:=aB (wY.out.alloc wY.out.size (.cells #[I p,I n,.string d,.bool x,.bool y] 166));go_wp2;exact bO (v:=.tuple #[.agg #[I p,I n,.string d,.bool x,.bool y],.bool true]) (by simp[results,Tryz.results201,go_sem,t0,t1,t2,t3,t4]) rfl ⟨Md (a:=⟨p,n,d,x,y⟩) (x:=true) (by unfold Du;rw[Dv l a k hlt HN.o hin.out];exact HS.o) (by unfold iY;rw[Dv l a k hlt HN.o hin.out];rfl),(((((HW2.o.setCell (aI _) _).setCell (aI _) _).setCell (aI _) _).setCell (aI _) _).setCell (aI _) _)⟩
        · have MW:Hid (su (eO l k) a=false):=by show _=_;rw[<- HS.o];exact jl (show ¬(p*16<=a/\a<(p+n)*16) by omega)
          go_wp2;go_roundw
          case rel=>exact⟨k+1,by omega,by go_num,fun j hj=>if e:j=k then by rw[e];exact MW.out else HN.o j (by omega),HB.o.alloc (by omega) _⟩
          case measure=>simp[intOf];omega
      · have MW:Hid (su (eO l k) a=false):=by show _=_;rw[<- HS.o];exact jl (show ¬(p*16<=a/\a<(p+n)*16) by omega)
        go_wp2;go_roundw
        case rel=>exact⟨k+1,by omega,by go_num,fun j hj=>if e:j=k then by rw[e];exact MW.out else HN.o j (by omega),HB.o.alloc (by omega) _⟩
        case measure=>simp[intOf];omega
    · obtain rfl:k=l.length:=by omega
      have HNo:=aB (Dw l a HN.o);have t0:=au HR.o 0 rfl;have t1:=au HR.o 1 rfl;have t2:=au HR.o 2 rfl;have t3:=au HR.o 3 rfl;have t4:=au HR.o 4 rfl;have u0:=aR HR.o;go_wp2;exact bO (v:=.tuple #[.agg #[I 0,I 0,.string ⟨#[]⟩,.bool false,.bool false],.bool false]) (by simp[results,Tryz.results201,go_sem,t0,t1,t2,t3,t4]) rfl ⟨Md (a:=Ib) (x:=false) (by unfold Du;rw[HNo.o];rfl) (by unfold iY;rw[HNo.o];rfl),(((((wY.out.setCell (aI _) _).setCell (aI _) _).setCell (aI _) _).setCell (aI _) _).setCell (aI _) _)⟩
open Go.RowKit
theorem Og {l:List pL} (h:l.all ll=true) (a:Int) (hp:iY l a=true):0<=a/\a<4080:=by
 induction l with
 | nil=>cases hp
 | cons s r ih =>
  grind [ll,iY,tL,su]
open Go.RowKit
theorem J2 (i:wR) (a:J7) (w:World) (h:qc w a i) (hf:J6 i) (hr:i.jI.all ll=true):Calls Tryz.prog 166 #[.agg (jJ a i)] w fun e w'=>e=.returned (.bool (CP i))/\Below w.heap.size w w':=by
 obtain⟨an,cn,ag,cg,ay,cy,ar,cr⟩:=a;obtain⟨nm,ns,gs,ys,rs,en⟩:=i;obtain⟨h1,h2,h3,h4⟩:=h;obtain⟨f1,f2,f3,f4,f5,f6,f7,f8,f9,f10⟩:=hf;simp only at h1 h2 h3 h4 f1 f2 f3 f4 f5 f6 f7 f8 f9 f10;have F4:=aB f4;unfold cB at f2 f4 f6 f8;simp only[jJ];have H2:=aB h2;have F10:=aB f10;have HG:=aB hr;clear h1 h2 h3 h4 f3 f5 f7 f9 f10 hr;have BOX:=aB (bE w #[.string nm,.slice an ns.length cn,.slice ag gs.length cg,.slice ay ys.length cy,.slice ar rs.length cr,I en] 56);have gK:=aB ((aK w.heap.size w).alloc (aI _) (.cells #[.string nm,.slice an ns.length cn,.slice ag gs.length cg,.slice ay ys.length cy,.slice ar rs.length cr,I en] 56));obtain⟨X,hX⟩:∃X:Array Value,X=#[.string nm,.slice an ns.length cn,.slice ag gs.length cg,.slice ay ys.length cy,.slice ar rs.length cr,I en]:=⟨_,rfl⟩;have HX:=aB hX;rw[<- hX] at BOX gK;clear hX;have aq2:=F10.o;unfold cO at aq2;have HE:Hid (CP ⟨nm,ns,gs,ys,rs,en⟩=(iY gs en&&((Du gs en).ex&&decide (en%8=0)))):=by
  show _=_
  grind [CP,iY,Du]
 rw[HE.o];have hpb:iY gs en=true->0<=en:=fun h=>(Og HG.o en h).1
 obtain⟨sg,hsg⟩:=ex (Du gs en);obtain⟨pb,Hb⟩:=ex (iY gs en);have HS:=aB hsg;have HP:=aB Hb;rw[<- Hb] at hpb;rw[<- hsg,<- Hb];obtain⟨sp,sn,sd,sx,sy⟩:=sg;simp only;clear HE hsg Hb;cases pb
 · clear hpb;go_enter Tryz.func166,Tryz.ntmps166;go_wp2_with fail
   rw[<- HX.o];refine(AV gs ag cg en _ (gS.below (lie:=zS) (fun hb hlt h=>zR hb hlt h) H2.o gK.o) F4.o HG.o F10.o).mono ?_;rintro e w2 ⟨rfl,hb2⟩;have gQ:=aB (gK.o.trans (hb2.mono gK.o.size));have BX2:=aB (aO BOX.o hb2 (aJ BOX.o));clear hb2;rw[<- HS.o,<- HP.o];simp only[zN];go_wp2;go_ret;exact⟨rfl,gQ.o.alloc gQ.o.size _⟩
 · have hp:=hpb rfl;clear hpb;cases sy
   · go_enter Tryz.func166,Tryz.ntmps166;go_wp2_with fail
     rw[<- HX.o];refine(AV gs ag cg en _ (gS.below (lie:=zS) (fun hb hlt h=>zR hb hlt h) H2.o gK.o) F4.o HG.o F10.o).mono ?_;rintro e w2 ⟨rfl,hb2⟩;have gQ:=aB (gK.o.trans (hb2.mono gK.o.size));have BX2:=aB (aO BOX.o hb2 (aJ BOX.o));clear hb2;rw[<- HS.o,<- HP.o];simp only[zN];go_wp2;go_ret;exact⟨rfl,gQ.o.alloc gQ.o.size _⟩
   · by_cases d:en%8=0
     · rw[gZ d];go_enter Tryz.func166,Tryz.ntmps166;go_wp2_with fail
       rw[<- HX.o];refine(AV gs ag cg en _ (gS.below (lie:=zS) (fun hb hlt h=>zR hb hlt h) H2.o gK.o) F4.o HG.o F10.o).mono ?_;rintro e w2 ⟨rfl,hb2⟩;have gQ:=aB (gK.o.trans (hb2.mono gK.o.size));have BX2:=aB (aO BOX.o hb2 (aJ BOX.o));have L9:=aJ BX2.o;have by5:=au BX2.o 5 (by rw[HX.o];rfl);clear hb2;rw[<- HS.o,<- HP.o];simp only[zN];go_wp2;go_ret;exact⟨rfl,gQ.o.alloc gQ.o.size _⟩
     · rw[jl d];go_enter Tryz.func166,Tryz.ntmps166;go_wp2_with fail
       rw[<- HX.o];refine(AV gs ag cg en _ (gS.below (lie:=zS) (fun hb hlt h=>zR hb hlt h) H2.o gK.o) F4.o HG.o F10.o).mono ?_;rintro e w2 ⟨rfl,hb2⟩;have gQ:=aB (gK.o.trans (hb2.mono gK.o.size));have BX2:=aB (aO BOX.o hb2 (aJ BOX.o));have L9:=aJ BX2.o;have by5:=au BX2.o 5 (by rw[HX.o];rfl);clear hb2;rw[<- HS.o,<- HP.o];simp only[zN];go_wp2;go_ret;exact⟨lY (by grind),gQ.o.alloc gQ.o.size _⟩
open Go.RowKit Go.WideMaps Go.Maps
theorem P7:Keyed Tryz.prog 9:=string_keyed Tryz.underlying9
theorem Vg (w:World):(zeroValue 3).run Tryz.prog w=.ok (I 0) w:=by rfl
def Ca (s:ByteArray):Lit:=.string s.data.toList
theorem Je {s t:ByteArray} (h:Ca s=Ca t):s=t:=by
 unfold Ca at h;injection h with h;cases s;simp_all
theorem T8 {s:ByteArray} (h:cB s.size):keyOf Tryz.prog 9 (.string s)=some (Ca s):=keyOf_string_mk Tryz.underlying9 (by grind [cB,maxLen])
instance akC:LawfulBEq ByteArray where
 eq_of_beq {a b} h:=by
  cases a;cases b;congr 1;exact eq_of_beq (α:=Array UInt8) h
 rfl {a}:=by
  cases a;exact beq_self_eq_true (α:=Array UInt8) _
def ac6 (l:List ByteArray) (k:Nat) (D:DataW Unit):Prop:=∀s:ByteArray,D.atKey (Ca s) (.lit (.int .i64 0))=.lit (.int .i64 (if (l.take k).contains s then 1 else 0))
theorem aaW (l:List ByteArray):ac6 l 0 (.map []):=fun s=>by rfl
theorem EG (l:List ByteArray) (k:Nat) (hk:k<l.length) (s:ByteArray):(l.take (k+1)).contains s=((l.take k).contains s || s==qP l k):=by
 grind [List.take_add_one,qP]
theorem aaX {l:List ByteArray} {k:Nat} {D:DataW Unit} (hk:k<l.length) (hD:IsMap D) (h:ac6 l k D):ac6 l (k+1) (D.put (Ca (qP l k)) (.lit (.int .i64 1))):=fun s=>by
 rw[EG l k hk s];by_cases e:s=qP l k
 · subst e;rw[atKey_put_same hD (by trivial)];simp
 · rw[atKey_put_other (fun g=>e (Je g)),h s]
   grind
theorem Yr (l:List ByteArray) (k n:Nat) (h:oF l k=false) (hk:k<=n):oF l n=false:=by
 induction n with
 | zero=>grind
 | succ n ih =>
  grind [oF]
theorem Yn (l:List ByteArray) (ao:Option Addr) (cap:Nat) (w:World) (h:gS Qe w ao l) (hn:cB l.length) (hf:∀k,k<l.length->cB (qP l k).size) :
  Calls Tryz.prog 162 #[.slice ao l.length cap] w fun e w'=>e=.returned (.bool (!xO l))/\Below w.heap.size w w':=by
 unfold cB at hn;have H:=aB h;have F:=aB hf;clear h hf;have hmm:=@run_makeMap Tryz.prog;go_enter Tryz.func162,Tryz.ntmps162;go_wp2;go_loopw [9] (fun i wr=>∃(k:Nat) (D:DataW Unit),k<=l.length/\i=I k/\wr.ownsMap Tryz.prog 9 (plainElem Tryz.prog 3) w.heap.size k D/\ac6 l k D/\oF l k=true/\Below w.heap.size w wr) (fun i _=>l.length-(intOf i).toNat)
 case atStart=>exact⟨0,.map [],uH _,rfl,World.ownsMap_made _ _ _ _,aaW l,rfl,(aK _ _).alloc (aI _) _⟩
 case round =>
  obtain⟨k,D,hk,rfl,hown,amG,Yh,hb⟩:=hrel;have HO:=aB Yh;have HC:=aB amG;have HB:=aB hb;have HW:=aB hown;clear Yh amG;by_cases hlt:k<l.length
  · obtain⟨b,off,hao,hbl,hl⟩:=H.o (by omega);subst hao;have T5:(k:Int)<(l.length:Int):=by omega
    have c0:=afS hb hbl hl k hlt;have fs:=F.o k hlt;have HCS:=aB (aaX hlt hown.isMap HC.o);have HN:Hid (oF l (k+1)=!(l.take k).contains (qP l k)):=by show(oF l k&&_)=_;rw[HO.o];rfl
    have hcx:=HC.o (qP l k);obtain⟨s,hs⟩:=ex (qP l k);rw[<- hs] at c0 fs HCS HN hcx;clear hs hb hl;have hkey:=T8 fs;obtain⟨c,hrun,hat,_⟩:=hown.lookup_int P7 Tryz.underlying316 Tryz.underlying3 (Vg _) hkey;rw[hcx] at hat
    have rN:k<maxLen:=by unfold maxLen;omega
    cases hc:(l.take k).contains s
    · rw[hc] at hat HN;have e:c=0:=by grind
      subst e;clear hat hcx;go_wp2_with (first | (at_mapUpdate;refine UX _ rfl _ _ _ 316 rfl 9 3 P7 Tryz.underlying316 _ w.heap.size k _ rfl HW.o rN _ _ _ rfl rfl hkey _ [] (plainElem_int Tryz.underlying3 (by decide)) ?_) | go_in)
      intro w1 hown1 hgrow1;have R2:=aB (HB.o.grown hgrow1 HB.o.size (fun j hj=>by grind));obtain⟨c,ama,Mc,_⟩:=hown1.lookup_int P7 Tryz.underlying316 Tryz.underlying3 (Vg _) hkey;rw[atKey_put_same HW.o.isMap (by trivial)] at Mc;have e:c=1:=by injection Mc with Mc;injection Mc with _ Mc;omega
      subst e;have HW1:=aB hown1;clear Mc hown hrun hgrow1 hown1;go_wp2;go_roundw
      case rel=>exact⟨k+1,_,by omega,by go_num,HW1.o,HCS.o,HN.o,R2.o⟩
      case measure=>simp[intOf];omega
    · rw[hc] at hat HN;have e:c=1:=by grind
      subst e;clear hat hcx;have HR:=aB (Yr l (k+1) l.length HN.o hlt);go_wp2_with (first | (at_mapUpdate;refine UX _ rfl _ _ _ 316 rfl 9 3 P7 Tryz.underlying316 _ w.heap.size k _ rfl HW.o rN _ _ _ rfl rfl hkey _ [] (plainElem_int Tryz.underlying3 (by decide)) ?_) | go_in)
      intro w1 hown1 hgrow1;have R2:=aB (HB.o.grown hgrow1 HB.o.size (fun j hj=>by grind));obtain⟨c,ama,Mc,_⟩:=hown1.lookup_int P7 Tryz.underlying316 Tryz.underlying3 (Vg _) hkey;rw[atKey_put_same HW.o.isMap (by trivial)] at Mc;have e:c=2:=by injection Mc with Mc;injection Mc with _ Mc;omega
      subst e;clear Mc hown hrun hgrow1 hown1;go_wp2;go_ret;exact⟨lY (by unfold xO;rw[HR.o];rfl),R2.o⟩
  · obtain rfl:k=l.length:=by omega
    clear hb;go_wp2;go_ret;exact⟨lY (by unfold xO;rw[HO.o];rfl),HB.o⟩
open Go.RowKit Go.WideMaps Go.Maps
structure iV where
 i:wR
 a:J7
def abq:iV:=⟨⟨⟨#[]⟩,[],[],[],[],0⟩,⟨none,0,none,0,none,0,none,0⟩⟩
def cH (l:List iV) (k:Nat):iV:=l.getD k abq
def A5 (x:iV):Value:=.agg (jJ x.a x.i)
def Kw (w:World) (b off:Nat) (l:List iV):Prop:=∀k,k<l.length ->
 (w.cell? (Ad b (off+k*6))=some (.string (cH l k).i.name)/\w.cell? (Ad b (off+k*6+1))=some (.slice (cH l k).a.an (cH l k).i.needs.length (cH l k).a.cn) /\
  w.cell? (Ad b (off+k*6+2))=some (.slice (cH l k).a.ag (cH l k).i.jI.length (cH l k).a.cg)/\w.cell? (Ad b (off+k*6+3))=some (.slice (cH l k).a.ay (cH l k).i.syms.length (cH l k).a.cy) /\
  w.cell? (Ad b (off+k*6+4))=some (.slice (cH l k).a.ar (cH l k).i.pV.length (cH l k).a.cr)/\w.cell? (Ad b (off+k*6+5))=some (I (cH l k).i.entry))/\qc w (cH l k).a (cH l k).i
theorem ah1 {w w':World} {b off:Nat} {l:List iV} (hb:Below w.heap.size w w') (hlt:b<w.heap.size) (h:Kw w b off l):Kw w' b off l:=fun k hk=>by
 obtain⟨⟨c0,c1,c2,c3,c4,c5⟩,hi⟩:=h k hk
 grind [cQ,qc.below]
def DG (w:World) (ao:Option Addr) (l:List iV):Prop:=gS Kw w ao l
theorem DG.below {w w':World} {ao:Option Addr} {l:List iV} (h:DG w ao l) (hb:Below w.heap.size w w'):DG w' ao l:=gS.below (lie:=Kw) (fun hb hlt h=>ah1 hb hlt h) h hb
def adb (l:List iV):Prop:=cB l.length/\∀k,k<l.length->J6 (cH l k).i
def oG (l:List iV):Nat->Int
 | 0=>0
 | k+1=>if oG l k=0 then mz (cH l k).i else oG l k
def kf (l:List iV):List ByteArray:=l.map (·.i.name)
def oH (l:List iV):Int:=if oG l l.length=0 then (if xO (kf l) then 0 else 5) else oG l l.length
theorem Fm (l:List iV) (k:Nat) (h:oG l k≠0):∀n,k<=n->oG l n=oG l k
 | 0,hn=>by grind
 | n+1,hn=>by
  by_cases e:k=n+1
  · grind
  · have ih:=Fm l k h n (by omega)
    grind [oG]
theorem Ig (l:List iV):∀n,oG l n=0->∀k,k<n->mz (cH l k).i=0
 | 0,_,k,hk=>by omega
 | n+1,h,k,hk=>by
  simp only[oG] at h;by_cases e0:oG l n=0
  · rw[aC e0] at h;by_cases e:k=n
    · grind
    · exact Ig l n e0 k (by omega)
  omega
theorem Kp (l:List iV) (k:Nat) (hk:k<l.length):qP (kf l) k=(cH l k).i.name:=by
 grind [qP,kf,cH]
theorem tN (l:List iV):(kf l).length=l.length:=by simp[kf]
def YN (v:Value):Option (DataW Value×List MemPlace):=some (.held v,[])
def ahV:Value:=.agg #[.string ⟨#[]⟩,Nl,Nl,Nl,Nl,I 0]
structure Ku (l:List iV) (k:Nat) (D:DataW Value):Prop where
 has:∀s,Maps.has D (Ca s)=((kf l).take k).contains s
 at_:oF (kf l) k=true->∀j,j<k->D.atKey (Ca (cH l j).i.name) (.held ahV)=.held (A5 (cH l j))
 le:Maps.size D<=k
 all:Maps.size D=k↔oF (kf l) k=true
theorem abn (l:List iV):Ku l 0 (.map []):=⟨fun s=>by rfl,fun _ j hj=>by omega,by simp[Maps.size],by simp[Maps.size,oF]⟩
theorem abp (l:List iV) (k j:Nat) (hj:j<k) (hk:k<=l.length):((kf l).take k).contains (cH l j).i.name=true:=by
 have h1:j<((kf l).take k).length:=by grind [tN]
 have h2:((kf l).take k)[j]=(cH l j).i.name:=by
  rw[List.getElem_take];have h3:j<(kf l).length:=by grind
  have:=Kp l j (by omega)
  grind [qP]
 grind
theorem abo {l:List iV} {k:Nat} {D:DataW Value} (hk:k<l.length) (hD:IsMap D) (hT:Maps.Tidy D) (h:Ku l k D):Ku l (k+1) (D.put (Ca (cH l k).i.name) (.held (A5 (cH l k)))):=by
 have hc:=fun s=>EG (kf l) k (by grind [tN]) s
 have hat:=Kp l k hk;have hon:oF (kf l) (k+1)=(oF (kf l) k&&!((kf l).take k).contains (cH l k).i.name):=by grind [oF]
 have hsz:=Maps.size_put (k:=Ca (cH l k).i.name) hT (.held (A5 (cH l k)));rw[h.has] at hsz;refine⟨fun s=>?_,fun ho j hj=>?_,?_,?_⟩
 · rw[hc s,hat];by_cases e:s=(cH l k).i.name
   · subst e;rw[Maps.has_put_same hD (by trivial)];simp
   grind [Maps.has_put_other,Je,Ku.has]
 · rw[hon] at ho;simp only[eQ,Bool.not_eq_true'] at ho;by_cases e:j=k
   · subst e;exact atKey_put_same hD (by trivial) _ _
   grind [abp,atKey_put_other,Je,Ku.at_]
 · have:=h.le
   grind
 · rw[hon];have h1:=h.le
   grind [Ku.all]
open Go.RowKit
def ah2 (all:List iV) (s:ByteArray):Option Nat:=all.findIdx? (fun x=>decide (x.i.name=s))
def afV (ix:List Nat) (j:Nat):List Nat:=if ix.contains j then ix else ix++[j]
def YL (all:List iV) (ix:List Nat) (needs:List ByteArray):Nat->Option (List Nat)
 | 0=>some ix
 | k+1=>match YL all ix needs k with
  | none=>none
  | some ix'=>match ah2 all (qP needs k) with
   | none=>none
   | some j=>some (afV ix' j)
def Qu (all:List iV) (ix:List Nat) (n:Nat):List ByteArray:=(cH all (ix.getD n 0)).i.needs
def Mo (all:List iV):Nat->Nat->List Nat->Option (List Nat)
 | 0,_,ix=>some ix
 | f+1,n,ix=>if n<ix.length then (match YL all ix (Qu all ix n) (Qu all ix n).length with
  | none=>none
  | some ix'=>Mo all f (n+1) ix') else some ix
structure Hh (all:List iV) (ix:List Nat):Prop where
 pos:0<ix.length
 nodup:ix.Nodup
 lt:∀j∈ix,j<all.length
theorem Mk:∀(L:Nat) (ix:List Nat),ix.Nodup->(∀j∈ix,j<L)->ix.length<=L
 | 0,ix,_,h=>by
  cases ix with
  | nil=>grind
  | cons x r=>grind [List.mem_cons_self]
 | L+1,ix,hn,h=>by
  by_cases e:L∈ix
  · have h1:=Mk L (ix.erase L) (hn.erase L) (fun j hj=>by
     grind)
    grind
  · have:=Mk L ix hn (fun j hj=>by
     grind)
    omega
theorem Hh.le {all:List iV} {ix:List Nat} (h:Hh all ix):ix.length<=all.length:=Mk _ _ h.nodup h.lt
def eX (all:List iV):Int->List Nat->List km
 | _,[]=>[]
 | b,j::r=>⟨(cH all j).i,(cH all j).a,b⟩::eX all (xS ⟨(cH all j).i,(cH all j).a,b⟩) r
def jL (all:List iV):Int->List Nat->Int
 | b,[]=>b
 | b,j::r=>jL all (xS ⟨(cH all j).i,(cH all j).a,b⟩) r
theorem kE (all:List iV):∀(ix:List Nat) (b:Int),(eX all b ix).length=ix.length
 | [],_=>rfl
 | j::r,b=>by simp only[eX,xM,kE all r]
theorem EK (all:List iV) (j:Nat):∀(ix:List Nat) (b:Int),eX all b (ix++[j])=eX all b ix++[⟨(cH all j).i,(cH all j).a,jL all b ix⟩]
 | [],b=>rfl
 | k::r,b=>by simp only[Dn,eX,jL,EK all j r]
theorem EL (all:List iV) (j:Nat):∀(ix:List Nat) (b:Int),jL all b (ix++[j])=xS ⟨(cH all j).i,(cH all j).a,jL all b ix⟩
 | [],b=>rfl
 | k::r,b=>by simp only[Dn,jL,EL all j r]
theorem uv (all:List iV):∀(ix:List Nat) (b:Int) (k:Nat),k<ix.length->(dR (eX all b ix) k).i=(cH all (ix.getD k 0)).i/\(dR (eX all b ix) k).a=(cH all (ix.getD k 0)).a/\(dR (eX all b ix) k).base=jL all b (ix.take k)
 | [],_,k,hk=>by grind
 | j::r,b,0,_=>⟨rfl,rfl,rfl⟩
 | j::r,b,k+1,hk=>by
  have:=uv all r (xS ⟨(cH all j).i,(cH all j).a,b⟩) k (by grind)
  grind [dR,eX,jL]
theorem Ol (all:List iV) (ix:List Nat) (b:Int) (h:0<ix.length):xS (dR (eX all b ix) (ix.length-1))=jL all b ix:=by
 obtain⟨r,j,rfl⟩:∃r j,ix=r++[j]:=⟨ix.dropLast,ix.getLast (by grind),(acT _).symm⟩
 grind [EK,EL,kE,dR]
theorem A8 (all:List iV) (hc:∀j,j<all.length->mz (cH all j).i=0):∀(ix:List Nat) (b:Int),(∀j∈ix,j<all.length)->b<=jL all b ix/\jL all b ix<=b+255*(ix.length:Int)
 | [],b,_=>by simp[jL]
 | j::r,b,h=>by
  have hl:=Fl (hc j (h j Dt));have ih:=A8 all hc r (xS ⟨(cH all j).i,(cH all j).a,b⟩) (fun k hk=>h k (G6 _ hk))
  grind [jL,xS]
open Go.RowKit
def qQ:ByteArray:=⟨(Lib.repeatL [0] 16).toArray⟩
theorem EH:qQ.size=16:=rfl
def vW (s:pL) (n:Nat):ByteArray:=iC qQ 0 (s.data.extract (min (n*16) s.data.size) (min (min (n*16) s.data.size+16) s.data.size))
theorem Om (s:ByteArray) (a b:Nat) (h1:a<=b) (h2:b<=s.size):(s.extract a b).size=b-a:=by
 simp_all
structure py where
 pos:Int
 bytes:ByteArray
def abl:py:=⟨0,⟨#[]⟩⟩
def xQ (l:List py) (k:Nat):py:=l.getD k abl
def Kv (w:World) (b off:Nat) (l:List py):Prop:=∀i,i<l.length->w.cell? (Ad b (off+i*2))=some (I (xQ l i).pos)/\w.cell? (Ad b (off+i*2+1))=some (.string (xQ l i).bytes)
theorem ahY {w w':World} {b off:Nat} {l:List py} (hb:Below w.heap.size w w') (hlt:b<w.heap.size) (h:Kv w b off l):Kv w' b off l:=fun i hi=>by
 obtain⟨c0,c1⟩:=h i hi
 grind [cQ]
def Kz (w:World) (ao:Option Addr) (l:List py):Prop:=gS Kv w ao l
theorem Kz.below {w w':World} {ao:Option Addr} {l:List py} (h:Kz w ao l) (hb:Below w.heap.size w w'):Kz w' ao l:=gS.below (lie:=Kv) (fun hb hlt h=>ahY hb hlt h) h hb
def Kt (p:py):List Value:=[I p.pos,.string p.bytes]
def CV (f:mL):List Value:=[I f.off,.string f.bytes]
def VD (p:py):Prop:=0<=p.pos/\p.pos<=1000000/\p.bytes.size=8
def DD (page:Int) (p:py):List mL:=if max (page*16) p.pos<min (page*16+16) (p.pos+8) then [⟨max (page*16) p.pos-page*16,p.bytes.extract (max (page*16) p.pos-p.pos).toNat (max (page*16) p.pos-p.pos+(min (page*16+16) (p.pos+8)-max (page*16) p.pos)).toNat⟩] else []
def kL (page:Int) (ps:List py):List mL:=ps.flatMap (DD page)
theorem Vv {α:Type} (l:List α) (d:α) (k:Nat) (h:k<l.length):l.take (k+1)=l.take k++[l.getD k d]:=by
 simp_all
theorem abr (page:Int) (p:py):(DD page p).length<=1:=by
 grind [DD]
theorem Kq (page:Int):∀ps:List py,(kL page ps).length<=ps.length
 | []=>by simp[kL]
 | p::r=>by
  have h1:=Kq page r
  grind [abr,kL]
theorem Qy (page:Int) (l:List py) (p:py):kL page (l++[p])=kL page l++DD page p:=by
 grind [kL]
open Go.RowKit
def afU (l:List Vn) (s:ByteArray):Option Nat:=l.findIdx? (fun y=>decide (y.name=s))
def ahW (o:km) (s:ByteArray):Option Int:=match afU o.i.syms s with
 | none=>none
 | some k=>some (yn o (Vm o.i.syms k).pos)
def YJ (l:List km) (s:ByteArray):Nat->Option Int
 | 0=>none
 | k+1=>match YJ l s k with
  | some t=>some t
  | none=>ahW (dR l k) s
def Vu (l:List km) (o:km) (s:ByteArray):Option Int:=if s=⟨#[]⟩ then some (yn o 0) else YJ l s l.length
theorem Kn {i:wR} (hc:mz i=0):Hf i=true:=by
 grind [mz]
theorem Kj:∀{l:List pL} {a:Int} {s:pL},tL l a=some s->(∃k,k<l.length/\eO l k=s)/\su s a=true
 | [],a,s,h=>by cases h
 | x::r,a,s,h=>by
  simp only[tL] at h;split at h
  · rename_i hi
    injection h with h;subst h;exact⟨⟨0,by simp,rfl⟩,hi⟩
  · obtain⟨⟨k,hk,e⟩,hi⟩:=Kj h;exact⟨⟨k+1,by grind,by grind [eO]⟩,hi⟩
theorem wZ {i:wR} (hc:mz i=0) {a:Int} (h:iY i.jI a=true):0<=a/\a<4080:=by
 unfold iY at h;obtain⟨s,hs⟩:=Pr.1 h;obtain⟨⟨k,hk,e⟩,hi⟩:=Kj hs;have hb:=xP hc k hk
 grind [su]
theorem Km (i:wR):∀n,J5 i n=true->∀k,k<n->Py i k=true
 | 0,_,k,hk=>by omega
 | n+1,h,k,hk=>by
  simp only[J5,eQ] at h;by_cases e:k=n
  · grind
  · exact Km i n h.1 k (by omega)
theorem adZ {i:wR} (hc:mz i=0) (k:Nat) (hk:k<i.pV.length):Py i k=true:=by
 have h:=Kn hc
 grind [Hf,Km]
theorem Sy {i:wR} (hc:mz i=0) (k:Nat) (hk:k<i.pV.length):0<=(uW i.pV k).pos/\(uW i.pV k).pos+7<4080:=by
 have h:=adZ hc k hk;unfold Py Yx at h;simp only[eQ] at h;have h0:=wZ hc h.2.1;have h7:=wZ hc h.2.2.2.2.2.2.2.2;omega
theorem Oo {i:wR} (hc:mz i=0):0<=i.entry/\i.entry<4080:=by
 have h:=Kn hc;unfold Hf at h;simp only[eQ] at h;have he:=h.2.2;unfold CP at he;refine wZ hc ?_
 grind [iY]
def ahX (o:km) (r:Ss) (t:Int):py:=⟨yn o r.pos,⟨(Lib.leBytes 8 (mD (t+r.add))).toArray⟩⟩
def uq (l:List km) (o:km):Nat->Option (List py)
 | 0=>some []
 | k+1=>match uq l o k with
  | none=>none
  | some ps=>match Vu l o (uW o.i.pV k).name with
   | none=>none
   | some t=>some (ps++[ahX o (uW o.i.pV k) t])
def vR (l:List km) (o:km):Option (List py):=uq l o o.i.pV.length
theorem Ko {l:List km} {o:km}:∀{k:Nat} {ps:List py},uq l o k=some ps->ps.length=k
 | 0,ps,h=>by grind [uq]
 | k+1,ps,h=>by
  simp only[uq] at h;cases e:uq l o k with
  | none=>grind
  | some qs =>
   rw[e] at h;simp only at h;cases g:Vu l o (uW o.i.pV k).name with
   | none=>grind
   | some t =>
    rw[g] at h;simp only at h;injection h with h;subst h;rw[fK,Ko e];rfl
open Go.RowKit
structure Fs where
 page:Int
 data:ByteArray
 dZ:List mL
def eT (s:bJ):Fs:=⟨s.page,s.data,s.dZ⟩
def abm (o:km) (ps:List py) (s:pL) (m:Nat):Fs:=⟨o.base+s.page+(m:Int),vW s m,kL (o.base+s.page+(m:Int)) ps⟩
def zT (o:km) (ps:List py) (s:pL) (n:Nat):List Fs:=(List.range n).map (abm o ps s)
def ym (o:km) (ps:List py):Nat->List Fs
 | 0=>[]
 | k+1=>ym o ps k++zT o ps (eO o.i.jI k) (eO o.i.jI k).aQ.toNat
def uu (l:List km):Nat->Option (List Fs)
 | 0=>some []
 | k+1=>match uu l k with
  | none=>none
  | some E=>match vR l (dR l k) with
   | none=>none
   | some ps=>some (E++ym (dR l k) ps (dR l k).i.jI.length)
def sN (l:List km):Option (List Fs):=uu l l.length
theorem SC (o:km) (ps:List py) (s:pL) (n:Nat):zT o ps s (n+1)=zT o ps s n++[abm o ps s n]:=by
 grind [zT,List.range_succ]
theorem Ic {l:List km} {k:Nat} (h:uu l k=none):∀n,k<=n->uu l n=none
 | 0,hn=>by grind
 | n+1,hn=>by
  by_cases e:k=n+1
  · grind
  · simp only[uu];rw[Ic h n (by omega)]
theorem Qr {l:List km} {o:km} (hc:mz o.i=0) (h0:1<=o.base) (h1:o.base<=2000):∀(k:Nat) (ps:List py),k<=o.i.pV.length->uq l o k=some ps->∀j,j<ps.length->VD (xQ ps j)
 | 0,ps,_,h,j,hj=>by grind [uq]
 | k+1,ps,hk,h,j,hj=>by
  simp only[uq] at h;cases e:uq l o k with
  | none=>grind
  | some qs =>
   rw[e] at h;simp only at h;cases g:Vu l o (uW o.i.pV k).name with
   | none=>grind
   | some t =>
    rw[g] at h;simp only at h;injection h with h;subst h;rw[fK] at hj;by_cases hjq:j<qs.length
    · have:=Qr hc h0 h1 k qs (by omega) e j hjq
      grind [xQ]
    · have hje:j=qs.length:=by grind
      subst hje;unfold xQ;rw[fG,ze (aI _),GY];have hb:=Sy hc k (by omega);refine⟨?_,?_,?_⟩
      · show 0<=o.base*16+(uW o.i.pV k).pos;omega
      · show o.base*16+(uW o.i.pV k).pos<=1000000;omega
      rfl
def rC (rb:Option Nat) (w:World) (ao:Option Addr) (l:List mL):Prop:=0<l.length->∃b off,ao=some (Ad b off)/\b<w.heap.size/\some b≠rb/\DF w b off l
theorem rC.has {rb:Option Nat} {w:World} {ao:Option Addr} {l:List mL} (h:rC rb w ao l):pA w ao l:=fun hl=>by
 obtain⟨b,off,h1,h2,_,h3⟩:=h hl
 grind
theorem rC.below {rb:Option Nat} {w w':World} {ao:Option Addr} {l:List mL} (h:rC rb w ao l) (hb:Below w.heap.size w w'):rC rb w' ao l:=fun hl=>by
 obtain⟨b,off,h1,h2,h3,h4⟩:=h hl
 grind [Nat.lt_of_lt_of_le,ada,Below.size]
theorem SD {w w':World} {b off:Nat} {l:List mL} (h:DF w b off l) (hb:w'.heap[b]?=w.heap[b]?):DF w' b off l:=fun i hi=>by
 obtain⟨c0,c1⟩:=h i hi
 grind [World.cell?_of_block]
theorem rC.grown {rb:Option Nat} {w w':World} {ao:Option Addr} {l:List mL} {g:Nat} (h:rC rb w ao l) (hg:w.grownBy w' rb) (hs:w.heap.size<=w'.heap.size) (hat:rb=some g∨g=w.heap.size):rC (some g) w' ao l:=fun hl=>by
 obtain⟨b,off,h1,h2,h3,h4⟩:=h hl
 grind [SD,World.grownBy.block]
def ade (rb:Option Nat) (w:World) (hs:List bJ):Prop:=∀k,k<hs.length->rC rb w (bl hs k).ao (bl hs k).dZ
def Fp (s:bJ):List Value:=[I s.page,.string s.data,.slice s.ao s.dZ.length s.cap]
theorem Vw (l:List bJ) (x:bJ) (k:Nat) (h:k<l.length):bl (l++[x]) k=bl l k:=by
 grind [bl]
theorem Vx (l:List bJ) (x:bJ):bl (l++[x]) l.length=x:=by
 grind [bl]
open Go.RowKit
def cC (xs ys:List bJ):Prop:=ys.map eT=xs.map eT
def aV (k:aT) (hs:List bJ):aT:=⟨hs,k.frames,k.slots,k.aj,k.hand⟩
theorem cC.trans {xs ys zs:List bJ} (h:cC xs ys) (g:cC ys zs):cC xs zs:=Eq.trans g h
theorem cC.len {xs ys:List bJ} (h:cC xs ys):ys.length=xs.length:=by
 have:=dI List.length h
 grind
theorem sZ {a b:bJ} (h:eT a=eT b):a.page=b.page/\a.data=b.data/\a.dZ=b.dZ:=by
 injection h with h1 h2 h3
 grind
theorem cC.at {xs ys:List bJ} (h:cC xs ys) (i:Nat):eT (bl ys i)=eT (bl xs i):=by
 unfold cC at h;unfold bl;have h1:(ys.map eT)[i]?=(xs.map eT)[i]?:=by rw[h]
 grind
theorem S4 {a b:bJ} (h:eT a=eT b):rA a=rA b:=by
 obtain⟨h1,h2,h3⟩:=sZ h
 grind [rA]
theorem S0 {a b:bJ} (h:eT a=eT b):di a=di b:=by
 grind [sZ,di,pq]
theorem FQ (p:Int):∀(xs ys:List bJ),cC xs ys->(iJ ys p).map eT=(iJ xs p).map eT
 | [],[],_=>rfl
 | [],b::r,h=>by have:=dI List.length h;grind
 | a::r,[],h=>by have:=dI List.length h;grind
 | a::r,b::t,h=>by
  have h:eT b::t.map eT=eT a::r.map eT:=h;injection h with h1 h2;have ih:=FQ p r t h2
  grind [sZ,iJ]
theorem FT {xs ys:List bJ} (h:cC xs ys) (p:Int):fq ys p=fq xs p:=by
 grind [FQ,fq,S4]
theorem V9 {xs ys:List bJ} (h:cC xs ys) (p:Int):(iJ ys p).isSome=(iJ xs p).isSome:=by
 have:=dI Option.isSome (FQ p xs ys h)
 grind
theorem Cj {xs ys:List bJ} (h:cC xs ys) (p:Int) (z:Bool):gm ys p z=gm xs p z:=by
 grind [gm,FT]
theorem Wb {xs ys:List bJ} (h:cC xs ys):gX ys=gX xs:=by
 have:∀n,jZ ys n=jZ xs n:=fun n=>by
  induction n with
  | zero=>rfl
  | succ n ih =>
   grind [jZ,S0,rO,sZ,cC.at]
 grind [gX,cC.len]
theorem aZ.wT {k:aT} (h:aZ k) {hs:List bJ} (s:cC k.aM hs):aZ (aV k hs):=by
 refine⟨?_,(Wb s).trans h.mr,h.hand,fun x hx=>?_,h.room,fun i hi=>?_,h.slt⟩
 · have:=h.c;have e:=s.len;refine gZ ?_;show(3<=k.frames.length/\k.frames.length<=64)/\k.slots.length<=512/\(1<=k.aj.length/\k.aj.length<=4)/\hs.length<=255;omega
 · have g:=h.each x hx;exact⟨g.dead,g.aU,g.mr,g.M6,fun p h1 h2=>(V9 s p).trans (g.aM p h1 h2)⟩
 · have g:=h.zL i hi;exact⟨g.refs,g.zero,g.one,g.size,fun d x hx=>(g.fill d x hx).trans (Cj s _ _).symm⟩
theorem Iw {k:aT} {hs:List bJ} (s:cC k.aM hs) (j:Nat) (p:Int):cI (aV k hs) j p=cI k j p:=by
 unfold cI;show(match bu (ak k.aj j).bc p with
  | some e=>_
  | none=>gm hs p _)=_
 rw[Cj s];rfl
theorem QW (k:aT) (hs:List bJ) (i:Nat):eN (aV k hs) i=aV (eN k i) hs:=by
 grind [eN,FN,aV,Af]
theorem Gb (held:List Int) (hs:List bJ):∀(n:Nat) (k:aT),nC held n (aV k hs)=aV (nC held n k) hs
 | 0,k=>rfl
 | n+1,k=>by
  unfold nC;show(if nN held k=true then nC held n (aV (jw held k) hs) else aV k hs)=_;by_cases c:nN held k=true
  · rw[aC c,aC c];exact Gb held hs n _
  grind
theorem K8 (k:aT) (hs:List bJ) (held:List Int):bN (aV k hs) held=((bN k held).1,aV (bN k held).2 hs):=by
 unfold bN;show(match yB k.frames with
  | some i=>(i,aV k hs)
  | none=>_)=_
 cases yB k.frames with
 | some i=>rfl
 | none =>
  show(_,_)=(_,_);rw[Gb,show(aV (nC held 70 k) hs).hand=(nC held 70 k).hand from rfl,QW];rfl
theorem FV (k:aT) (hs:List bJ) (e:bI):dM (aV k hs) e=aV (dM k e) hs:=by unfold dM;split <;> rfl
theorem Cm (k:aT) (hs:List bJ) (j:Nat) (p:Int) (i:Nat) (d:ByteArray) (dy:Bool):eU (aV k hs) j p i d dy=aV (eU k j p i d dy) hs:=by
 unfold eU;show(match bu (ak k.aj j).bc p with
  | none=>_
  | some e=>_)=_
 cases bu (ak k.aj j).bc p with
 | none=>rfl
 | some e=>exact FV (gp (iU k i d dy) j ⟨p,1,i⟩) hs e
theorem Mu {k:aT} (h:aZ k) {held:List Int} (hl:held.length<=2) {hs:List bJ} (s:cC k.aM hs) (j:Nat) (p:Int):dA (aV k hs) j p held=((dA k j p held).1,aV (dA k j p held).2 hs):=by
 have hsh:=(s8 h hl).kept.aM;unfold dA;show(match bu (ak k.aj j).bc p with
  | some e=>_
  | none=>_)=_
 rw[K8];cases bu (ak k.aj j).bc p with
 | none =>
  dsimp only;rw[Cm];show(_,aV (eU _ _ _ _ (gm hs p _) _) hs)=_;rw[Cj s,hsh];rfl
 | some e =>
  dsimp only;by_cases c:e.kind=1
  · grind
  · rw[aA c,aA c,Cm];rfl
theorem QY (k:aT) (hs:List bJ) (held:List Int) (j:Nat) (p:Int) (a:Nat):kM (aV k hs) j p a held=((kM k j p a held).1,aV (kM k j p a held).2 hs):=by
 grind [kM,K8,aV,Cm]
theorem QV {k:aT} (h:aZ k) {held:List Int} (hl:held.length<=2) {hs:List bJ} (s:cC k.aM hs) (j:Nat) (p way:Int):dN (aV k hs) j p way held=((dN k j p way held).1,aV (dN k j p way held).2 hs):=by
 have e:iz (aV k hs) j p way held=((iz k j p way held).1,aV (iz k j p way held).2 hs):=by
  grind [iz,Mu,QY]
 unfold dN;rw[e];rfl
theorem sY {k:aT} (h:aZ k) {j:Nat} (hj:j<k.aj.length) {a n way:Int} (h1:ez k j (a/16)) {hs:List bJ} (s:cC k.aM hs):bf (aV k hs) j a n way=((bf k j a n way).1,aV (bf k j a n way).2 hs):=by
 grind [qW,fp,QV,kF,bf,fR.kept,fM.aM,fR.right]
theorem Cl (k:aT) (hs:List bJ) (ids:List Nat) (s:ByteArray):∀n,lD (aV k hs) ids s n=aV (lD k ids s n) hs
 | 0=>rfl
 | n+1=>by
  unfold lD;rw[Cl k hs ids s n];rfl
theorem FO {k:aT} (h:aZ k) {j:Nat} (hj:j<k.aj.length) {a:Int} {d:ByteArray} (h1:ez k j (a/16)) {hs:List bJ} (s:cC k.aM hs):lC (aV k hs) j a d=aV (lC k j a d) hs:=by
 unfold lC;rw[sY h hj h1 s];exact Cl _ _ _ _ _
theorem Lg (k:aT) (hs:List bJ) (es:List bI) (p:bI->Bool):∀n,cU (aV k hs) es p n=aV (cU k es p n) hs
 | 0=>rfl
 | n+1=>by
  unfold cU;rw[Lg k hs es p n]
  grind [FV]
theorem uP (k:aT) (hs:List bJ) (j:Nat) (p:bI->Bool):dD (aV k hs) j p=aV (dD k j p) hs:=by
 grind [dD,kg,aV,Lg]
theorem Gc (k:aT) (hs:List bJ) (j:Nat) (l:List aX):gF (aV k hs) j l=aV (gF k j l) hs:=by
 unfold gF;rw[uP];rfl
theorem II (k:aT) (hs:List bJ) (j:Nat):jy (aV k hs) j=aV (jy k j) hs:=by
 unfold jy;rw[uP];rfl
theorem F9 (k:aT) (hs:List bJ) (e:bI) (d:Int):ki (aV k hs) e d=aV (ki k e d) hs:=by unfold ki;split <;> rfl
theorem FP (k:aT) (hs:List bJ) (es:List bI):∀n,dX (aV k hs) es n=aV (dX k es n) hs
 | 0=>rfl
 | n+1=>by
  unfold dX;rw[FP k hs es n,F9]
theorem IG (k:aT) (hs:List bJ) (j:Nat):gJ (aV k hs) j=aV (gJ k j) hs:=by
 grind [gJ,aV,FP]
theorem FM {l r:List aX} (hl:bk l=0) (hr:bk r=0) (h:∀x:Int,(aY r x).2=true->(aY l x).2=true):bh r<=bh l:=by
 rw[tE hl,tE hr];have:=mU (dH l) (dH r) (yQ.sorted (oC hr)) (yQ.sorted (oC hl)) (fun x hx=>(rp hl x).1 (h x ((rp hr x).2 hx)));omega
theorem Iu (F G:Int->Bool) (a b:Int):∀(n:Nat) (p:Int),(∀x,p<=x->x<p+n->(a<=x/\x<b->F x=true/\G x=false)/\(¬(a<=x/\x<b)->F x=G x))->((mn p n).filter F).length=(((mn p n).filter G).length:Int)+max 0 (min (p+n) b-max p a)
 | 0,p,_=>by
  show(0:Int)=0+_;omega
 | n+1,p,h=>by
  have ih:=Iu F G a b n (p+1) (fun x h1 h2=>h x (by omega) (by omega))
  grind [mn]
theorem EO {l:List aX} (hl:bk l=0):bh l=(((mn 1 255).filter (fun x=>(aY l x).2)).length:Int):=by
 rw[tE hl];have s1:=yQ.sorted (oC hl);have s2:((mn 1 255).filter (fun x=>(aY l x).2)).Pairwise (·<·):=(uD 255 1).sublist List.filter_sublist;have a1:=mU _ _ s1 s2 (fun x hx=>by
  grind [rp,kP,pS])
 have a2:=mU _ _ s2 s1 (fun x hx=>by
  grind [rp])
 omega
theorem VZ {l:List aX} {p n q:Int} (h:(dK l p n q).2=0) (hl:bk l=0):bh (dK l p n q).1=bh l+n:=by
 obtain⟨h1,h2⟩:=zF l p n q h;obtain⟨_,Hb,_⟩:=xE _ _ _ _ _ h;rw[EO h1,EO hl];have:=Iu (fun x=>(aY (dK l p n q).1 x).2) (fun x=>(aY l x).2) p (p+n) 255 1 (fun x hx1 hx2=>by
  obtain⟨m,rfl⟩:∃m:Nat,x=(m:Int):=⟨x.toNat,by omega⟩
  grind)
 rw[this];have hb:1<=p/\1<=n/\p+n<=256:=by
  grind [fT]
 omega
theorem QL {l:List aX} {p n:Int} (h:(cR l p n).2=0) (hl:bk l=0):bh (cR l p n).1<=bh l:=by
 obtain⟨h1,h2⟩:=yM h;obtain⟨_,k2⟩:=wL l p n h;refine FM hl h1 fun x hx=>?_
 have hb:=kP hx;obtain⟨m,rfl⟩:∃m:Nat,x=(m:Int):=⟨x.toNat,by omega⟩
 grind
theorem Ms {l:List aX} {p n q:Int} (h:(bV l p n q).2=0) (hl:bk l=0):bh (bV l p n q).1=bh l:=by
 obtain⟨h1,h2⟩:=ub l p n q h;have e:∀x:Int,1<=x->x<=255->(aY (bV l p n q).1 x).2=(aY l x).2:=fun x g1 g2=>by
  obtain⟨m,rfl⟩:∃m:Nat,x=(m:Int):=⟨x.toNat,by omega⟩
  grind
 have a1:=FM hl h1 (fun x hx=>by grind [kP]);have a2:=FM h1 hl (fun x hx=>by grind [kP]);omega
end Go.Proofs.YtlgoihmkgaaemaaGreat
