import Derived.Test.YtlgoihmkgaaemaaGreatGO16
set_option maxHeartbeats 20000000
set_option linter.unusedVariables false
set_option maxRecDepth 100000
set_option linter.unusedSimpArgs false
namespace Go.Proofs.YtlgoihmkgaaemaaGreat
open Go.RowKit
theorem UN (l:List bD) (i:Nat) (h:i<l.length):l[i]?=some (aX l i):=by
 grind [aX]
structure vk (p:bD->Bool) (ps q:List bD) (i j:Nat):Prop where
 len:q.length=ps.length
 lt:i<j
 le:j<=ps.length
 front:q.take i=(ps.take j).filter (fun g=>!p g)
 back:q.drop j=ps.drop j
theorem zB (l:List bD) (j:Nat) (h:j<l.length):l.take (j+1)=l.take j++[aX l j]:=by
 grind [List.take_add_one,UN]
theorem vk.start {p:bD->Bool} {ps:List bD} {i:Nat} (hi:i<ps.length) (hg:p (aX ps i)=true) (hno:∀j,j<i->p (aX ps j)=false):vk p ps ps i (i+1):=by
 refine⟨rfl,by omega,hi,?_,rfl⟩;have:∀k,k<=i->(ps.take k).filter (fun g=>!p g)=ps.take k:=fun k=>by
  induction k with
  | zero=>grind
  | succ k ih =>
   grind [zB]
 grind [zB]
theorem vk.at {p:bD->Bool} {ps q:List bD} {i j:Nat} (h:vk p ps q i j) (hj:j<ps.length):aX q j=aX ps j:=by
 have e:(q.drop j)[0]?=(ps.drop j)[0]?:=by rw[h.back]
 grind [UN]
theorem vk.skip {p:bD->Bool} {ps q:List bD} {i j:Nat} (h:vk p ps q i j) (hj:j<ps.length) (hg:p (aX ps j)=true):vk p ps q i (j+1):=by
 refine⟨h.len,by have:=h.lt;omega,hj,?_,?_⟩
 · grind [zB,front]
 · rw[<- Pf,<- Pf,h.back]
theorem vk.keep {p:bD->Bool} {ps q:List bD} {i j:Nat} (h:vk p ps q i j) (hj:j<ps.length) (hg:p (aX ps j)=false):vk p ps (q.set i (aX ps j)) (i+1) (j+1):=by
 have hlt:=h.lt;have hln:=h.len;refine⟨by grind,by omega,hj,?_,?_⟩
 · grind [zB,List.take_set,List.set_eq_of_length_le,List.length_take,front]
 · rw[List.drop_set_of_lt (by omega),<- Pf,<- Pf,h.back]
theorem vk.done {p:bD->Bool} {ps q:List bD} {i:Nat} (h:vk p ps q i ps.length):q.take i=fe ps p:=by
 rw[h.front,vQ];rfl
theorem WS (q:List bD) (i:Nat) (g:bD) (hi:i<q.length):(q.set i g).flatMap bw=(((q.flatMap bw).set (i*3) (I g.page)).set (i*3+1) (I g.kind)).set (i*3+2) (I g.loc):=by
 have h1:=kL bw 3 kW gY ⟨g.page,(aX q i).kind,(aX q i).loc⟩ 0 (I g.page) (by omega) q i hi rfl;have h2:=kL bw 3 kW gY ⟨g.page,g.kind,(aX q i).loc⟩ 1 (I g.kind) (by omega) (q.set i ⟨g.page,(aX q i).kind,(aX q i).loc⟩) i (by grind) (by
  rw[fK,PA hi];rfl)
 rw[qi,h1] at h2;have h3:=kL bw 3 kW gY g 2 (I g.loc) (by omega) (q.set i ⟨g.page,g.kind,(aX q i).loc⟩) i (by grind) (by
  rw[fK,PA hi];rfl)
 simp_all
theorem Zz {ps:List bD} {p:bD->Bool} (h:∀j,j<ps.length->p (aX ps j)=false):fe ps p=ps:=by
 unfold fe;rw[List.filter_eq_self];intro g hg;obtain⟨k,hk,rfl⟩:=lM gY hg
 grind [aX]
theorem abY (F:FuncId) (E:List Value) (x:Nat) (hFE:(F=300/\E=[.pointer (some (Ad x 0))])∨(F=285/\E=[.pointer (some (Ad x 0))])∨(F=269/\E=[])) (P:bD->Bool) (es:List bD) (ao:Option Addr) (cap:Nat) (w:World) (h:eB bw 3 gY w ao es) (hl:es.length<=1000000)
  (hC:∀V e,Below w.heap.size w V->Calls Tryz.prog F (Value.agg #[I e.page,I e.kind,I e.loc]::E).toArray V fun r w'=>r=.returned (.bool (P e))/\Below V.heap.size V w') :
  Calls Tryz.prog 186 #[.slice ao es.length cap,.func (.func F) #[] E.toArray] w fun e w' =>
   Below w.heap.size w w'/\((e=.returned (I (-1))/\∀j,j<es.length->P (aX es j)=false)∨∃i:Nat,i<es.length/\e=.returned (I (i:Int))/\P (aX es i)=true/\∀j,j<i->P (aX es j)=false):=by
 have HH:=ai h;have HC:=ai hC;clear h hC;rcases hFE with⟨rfl,rfl⟩ | ⟨rfl,rfl⟩ | ⟨rfl,rfl⟩
 all_goals
  go_enter Tryz.func186,Tryz.ntmps186;go_wp2;go_loopw [8] (fun iv wr=>∃k:Nat,k<=es.length/\iv=I (k:Int)/\(∀j,j<k->P (aX es j)=false)/\Below w.heap.size w wr) (fun iv _=>es.length-(intOf iv).toNat)
  case atStart=>grind [Below.refl]
  case round =>
   obtain⟨k,hk,rfl,hno,hb⟩:=hrel;have uJ:=ai hno;have HB:=ai hb;clear hno;by_cases hlt:k<es.length
   · have Jj:(k:Int)<(es.length:Int):=by omega
     obtain⟨eb,eo,hao,hbl,eY⟩:=HH.o (by omega);subst hao;have y0:=(hb.cell (p:=(Ad eb (eo+k*3+0))) hbl).trans (eY k hlt 0 (by omega));have y1:=(hb.cell (p:=(Ad eb (eo+k*3+1))) hbl).trans (eY k hlt 1 (by omega));have y2:=(hb.cell (p:=(Ad eb (eo+k*3+2))) hbl).trans (eY k hlt 2 (by omega));rw[mF] at y0;have yG:=ai (HC.o wr (aX es k) hb);obtain⟨G,hG⟩:=ex (P (aX es k));rw[<- hG] at yG;have HG:=ai hG;obtain⟨E,hE⟩:=ex (aX es k);have x0:wr.cell? (Ad eb (eo+k*3))=some (I E.page):=by rw[hE];exact y0
     have x1:wr.cell? (Ad eb (eo+k*3+1))=some (I E.kind):=by rw[hE];exact y1
     have x2:wr.cell? (Ad eb (eo+k*3+2))=some (I E.loc):=by rw[hE];exact y2
     rw[<- hE] at yG;clear hG hE hb y0 y1 y2 eY;cases G with
     | true =>
      go_wp2_with ((first | go_at_call 300 | go_at_call 285 | go_at_call 269);refine yG.o.mono ?_;rintro e w1 ⟨rfl,hb1⟩;have cH:=ai (HB.o.trans (hb1.mono HB.o.size));clear hb1)
      go_ret;exact⟨cH.o,.inr ⟨k,hlt,rfl,HG.o.symm,uJ.o⟩⟩
     | false =>
      go_wp2_with ((first | go_at_call 300 | go_at_call 285 | go_at_call 269);refine yG.o.mono ?_;rintro e w1 ⟨rfl,hb1⟩;have cH:=ai (HB.o.trans (hb1.mono HB.o.size));clear hb1)
      grind [intOf,Hid.o]
   · obtain rfl:k=es.length:=by omega
     clear hb;go_wp2;go_ret;exact⟨HB.o,.inl ⟨rfl,uJ.o⟩⟩
theorem ZA {lo:Nat} {es:List bD} {ao:Option Addr} {cap:Nat} {w:World} (h:w.ownsRow lo 174 3 (.slice ao es.length cap) es.length (es.flatMap bw)):eB bw 3 gY w ao es:=by
 obtain⟨a,c,e,_,hr⟩:=oO bw (fun _=>rfl) gY h
 grind
theorem TE (F:FuncId) (E:List Value) (x:Nat) (hFE:(F=300/\E=[.pointer (some (Ad x 0))])∨(F=285/\E=[.pointer (some (Ad x 0))])∨(F=269/\E=[])) (lo:Nat) (ps:List bD) (p:bD->Bool) (vp:Value) (w:World) (h:w.ownsRow lo 174 3 vp ps.length (ps.flatMap bw)) (hC:∀V e,aC (bX vp) w V->Calls Tryz.prog F (Value.agg #[I e.page,I e.kind,I e.loc]::E).toArray V fun r w'=>r=.returned (.bool (p e))/\Below V.heap.size V w') (hl:ps.length<=100000) :
  Calls Tryz.prog 281 #[vp,.func (.func F) #[] E.toArray] w (oH lo vp (fe ps p) w):=by
 obtain⟨ao,cap,rfl,hcm,hgo⟩:=bg h;have UY:=ai (abY F E x hFE p ps ao cap w (ZA h) (by omega) (fun V e hV=>hC V e (aC.bZ hV)));have HH:=ai h;have HC:=ai hC;obtain⟨P,hP⟩:=ex (oH lo (.slice ao ps.length cap) (fe ps p) w);have HP:Hid (∀e w',oH lo (.slice ao ps.length cap) (fe ps p) w e w'->P e w'):=fun e w' h=>by simp_all
 rw[<- hP];have HGO:=ai hgo;clear h hC hP hgo;by_cases hall:∀j,j<ps.length->p (aX ps j)=false
 · have HI2:Hid (Calls Tryz.prog 186 #[.slice ao ps.length cap,.func (.func F) #[] E.toArray] w fun e w'=>e=.returned (I (-1))/\Below w.heap.size w w'):=UY.o.mono fun e w' ⟨hb,hh⟩=>by
    grind
   have Yp:=ai (Zz hall);clear hall UY;rcases hFE with⟨rfl,rfl⟩ | ⟨rfl,rfl⟩ | ⟨rfl,rfl⟩
   all_goals
    go_enter Tryz.func281,Tryz.ntmps281;go_wp2_with (go_at_call 186;refine HI2.o.mono ?_;rintro e w1 ⟨rfl,hb1⟩;have cH:=ai hb1;clear hb1)
    exact HP.o _ _ ⟨_,rfl,by rw[Yp.o];exact aC.row (aC.bZ (D:=fun _=>False) cH.o) HH.o (fun _ _ g=>g),aC.bZ cH.o,fun b hb=>.inl hb⟩
 · have HI2:Hid (Calls Tryz.prog 186 #[.slice ao ps.length cap,.func (.func F) #[] E.toArray] w fun e w'=>∃i:Nat,e=.returned (I (i:Int))/\vk p ps ps i (i+1)/\Below w.heap.size w w'):=UY.o.mono fun e w' ⟨hb,hh⟩=>by
    grind [vk.start]
   have hpos:0<ps.length:=by
    grind
   obtain⟨pb,rfl,hlo,hpb⟩:=HGO.o hpos;clear hall UY HGO;rcases hFE with⟨rfl,rfl⟩ | ⟨rfl,rfl⟩ | ⟨rfl,rfl⟩
   all_goals
    go_enter Tryz.func281,Tryz.ntmps281;go_wp2_with (go_at_call 186;refine HI2.o.mono ?_;rintro e w1 ⟨i1,rfl,ajM,hb1⟩;have cH:=ai hb1;have yg:=ai ajM;have hi1:=ajM.le;have hi2:((i1:Int)==-1)=false:=(by rfl);clear hb1 ajM)
    go_loopw [5,6] (fun iv jv wr=>∃(i j:Nat) (q:List bD),iv=I (i:Int)/\jv=I (j:Int)/\vk p ps q i j/\wr.ownsRow lo 174 3 (.slice (some (Ad pb 0)) ps.length cap) ps.length (q.flatMap bw)/\aC (fun b=>b=pb) w wr) (fun _ jv _=>ps.length-(intOf jv).toNat)
    case atStart=>exact⟨i1,i1+1,ps,rfl,by go_num,yg.o,aC.row (aC.bZ (D:=fun _=>False) cH.o) HH.o (fun _ _ g=>g),aC.bZ cH.o⟩
    case round =>
     obtain⟨i,j,q,rfl,rfl,hf,hrow,PM⟩:=hrel;have hij:=hf.lt;have hjl:=hf.le;have HF:=ai hf;have HR:=ai hrow;have HK:=ai PM;clear yg cH hi1;by_cases hlt:j<ps.length
     · have hji:(j:Int)<(ps.length:Int):=by omega
       have hii:(i:Int)<(ps.length:Int):=by omega
       have hql:=hf.len;have hrw:∀V:World,V.ownsRow lo 174 3 (.slice (some (Ad pb 0)) ps.length cap) ps.length (q.flatMap bw)->∀k,k<ps.length->V.cell? (Ad pb (k*3))=some (I (aX q k).page)/\V.cell? (Ad pb (k*3+1))=some (I (aX q k).kind)/\V.cell? (Ad pb (k*3+2))=some (I (aX q k).loc):=fun V hV k hk=>by
        rw[<- hql] at hV;exact⟨kq bw kW gY hV k 0 (by omega) (by omega),kq bw kW gY hV k 1 (by omega) (by omega),kq bw kW gY hV k 2 (by omega) (by omega)⟩
       have HRW:=ai hrw;obtain⟨c0,c1,c2⟩:=hrw wr hrow j hlt;rw[hf.at hlt] at c0 c1 c2;have auM:pb<wr.heap.size:=(hrow.lt pb rfl).2;have auN:¬pb=wr.heap.size:=by omega
       have HA:=ai ((aK wr.heap.size wr).alloc (aD _) (.cells #[I (aX ps j).page,I (aX ps j).kind,I (aX ps j).loc] 174));have yG:=ai (HC.o (wr.alloc (.cells #[I (aX ps j).page,I (aX ps j).kind,I (aX ps j).loc] 174)) (aX ps j) ((PM.trans (aC.bZ (D:=fun b=>b=pb) HA.o) (fun _ _ g=>g)).mono (fun b _ e=>by subst e;rfl)));have BX:=ai (bB wr #[I (aX ps j).page,I (aX ps j).kind,I (aX ps j).loc] 174);have HSK:=ai (hf.skip hlt);have HKE:=ai (hf.keep hlt);obtain⟨G,hG⟩:=ex (p (aX ps j));rw[<- hG] at yG HSK HKE;obtain⟨g,hg⟩:=ex (aX ps j);rw[<- hg] at c0 c1 c2 yG HKE HA BX;clear hG hg hrow PM hrw hf;cases G with
       | true =>
        go_wp2_with ((first | go_at_call 300 | go_at_call 285 | go_at_call 269);refine yG.o.mono ?_;rintro e w2 ⟨rfl,hb2⟩;have gK:=ai (HA.o.trans (hb2.mono HA.o.size));clear hb2)
        go_roundw
        case rel=>exact⟨i,j+1,q,rfl,by go_num,HSK.o (by trivial),aC.row (aC.bZ (D:=fun _=>False) gK.o) HR.o (fun _ _ g=>g),HK.o.trans (aC.bZ (D:=fun b=>b=pb) gK.o) (fun _ _ g=>g)⟩
        grind [intOf]
       | false =>
        go_wp2_with ((first | go_at_call 300 | go_at_call 285 | go_at_call 269);refine yG.o.mono ?_;rintro e w2 ⟨rfl,hb2⟩;have gK:=ai (HA.o.trans (hb2.mono HA.o.size));have Fb:=ai (aC.row (aC.bZ (D:=fun _=>False) gK.o) HR.o (fun _ _ g=>g));have hc2:=HRW.o _ Fb.o i (by omega);obtain⟨d0,d1,d1b⟩:=hc2;have d2:=iL Fb.o (i*3);have d3:=iL Fb.o (i*3+1);have d3b:=iL Fb.o (i*3+2);have hx2:=aN BX.o hb2 (aJ BX.o);obtain⟨d4,d5,d6⟩:=GU hx2;clear hb2 hx2)
        go_roundw
        case rel =>
         refine⟨i+1,j+1,q.set i g,by go_num,by go_num,HKE.o (by trivial),?_,?_⟩
         · grind [WS,fy,Hid.o]
         · exact(((HK.o.trans (aC.bZ (D:=fun b=>b=pb) gK.o) (fun _ _ g=>g)).trans (aC.set (fun b=>b=pb) w2 (Ad pb (i*3)) _ rfl) (fun _ _ g=>g)).trans (aC.set (fun b=>b=pb) _ (Ad pb (i*3+1)) _ rfl) (fun _ _ g=>g)).trans (aC.set (fun b=>b=pb) _ (Ad pb (i*3+2)) _ rfl) (fun _ _ g=>g)
        grind [intOf]
     · obtain rfl:j=ps.length:=by omega
       have hql:=hf.len;have hdn:=hf.done;obtain⟨cur,hcz,hgc,hcs,hct⟩:∃cur:Array Value,cur.size=cap*3/\wr.heap[pb]?=some (.cells cur 174 (0,0))/\cap<=maxLen/\cur.toList.take (ps.length*3)=q.flatMap bw:=by
        rcases hrow.2 with⟨h0,_⟩ | ⟨g,cap',cur,hv,hb,hg,h1,h2,h3,h4⟩
        · omega
        grind
       have hcl:cur.toList.length=cap*3:=hcz;have amg:∀ty c,(Builtin.clear_ #[97] ty #[.slice (some (Ad pb (i*3))) (ps.length-i) c]).run Tryz.prog wr=.ok (.tuple #[]) (wr.setRow pb (splice cur.toList (i*3) (jw [I 0,I 0,I 0] (ps.length-i))).toArray):=fun ty c=>LX (P:=Tryz.prog) wr 97 ty 174 (.agg #[I 0,I 0,I 0]) Tryz.underlying97 af6 (by decide) (by decide) pb (i*3) (ps.length-i) c cur.toList 174 (by omega) (by
        grind [Value.cells])
       obtain⟨S,hS⟩:=ex (splice cur.toList (i*3) (jw [I 0,I 0,I 0] (ps.length-i)));rw[<- hS] at amg;have hSl:S.length=cap*3:=by
        grind [length_splice,mo]
       have hSt:S.take (i*3)=(fe ps p).flatMap bw:=by
        rw[<- hdn,<- Eh,<- hct,List.take_take,Vb (by omega),hS]
        grind [splice]
       have hol:(fe ps p).length=i:=by grind
       have hg2:(wr.setRow pb S.toArray).heap[pb]?=some (.cells S.toArray 174 (0,0)):=tM wr pb _ _ _ _ hgc;have dB:Hid (P (.returned (.slice (some (Ad pb 0)) i cap)) (wr.setRow pb S.toArray)):=HP.o _ _ ⟨_,rfl,by
        rw[hol,<- hSt];exact⟨by grind,.inr ⟨pb,cap,S.toArray,rfl,hlo,hg2,by omega,hcs,by omega,by simp⟩⟩,(PM.mono (fun b _ e=>by subst e;rfl)).trans (Ei wr pb S.toArray) (fun b _ e=>by subst e;rfl),fun b hb=>.inl hb⟩
       have hic:¬cap=i:=by omega
       have hin:(i:Int)<=(ps.length:Int):=by omega
       have au5:i<=cap:=by omega
       clear hf hrow PM HF HR HK hgc hct hdn hS hSl hSt hol hg2 hql hcz hcl HI2 HP HH HC;go_wp2_with (at_builtin;refine adC _ rfl _ 97 rfl _ rfl (amg _ _) ?_)
       exact dB.o
open Go.RowKit
theorem FL (kd a:Int):∀ss:List cZ,(bU ss kd a).length<=(yc ss).length
 | []=>sD _
 | s::r=>by
  have ih:=FL kd a r
  grind [fJ,yc,kT]
theorem QR {k:aR} (h:aW k):(yc k.aj).length<=512:=by
 have h1:=Gk k.aj.length k.aj rfl (fun s hs=>xZ (h.each s hs));have h2:=h.room;have h3:=h.c;omega
theorem yt {k:aR} (h:aW k):(∀i,i<k.frames.length->0<=(aH k.frames i).refs/\(aH k.frames i).refs<=512)/\(∀i,i<k.slots.length->0<=(bE k.slots i).refs/\(bE k.slots i).refs<=512):=by
 have h1:=QR h;refine⟨fun i hi=>?_,fun i hi=>?_⟩
 · have:=(h.zP i hi).refs
   grind [FL]
 · have:=(h.slt i hi).refs
   grind [FL]
theorem ot {k:aR} (h:aW k) {j:Nat} (hj:j<k.aj.length):(ak k.aj j).bf.length<=512:=by
 have h4:=QR h;have:∀(l:List cZ) (j:Nat),j<l.length->(ak l j).bf.length<=(yc l).length:=fun l=>by
  induction l with
  | nil=>grind
  | cons s r ih =>
   grind [yc,ak]
 grind
theorem UE.kp {α:Type} {f:α->List Value} {k:Nat} {d:α} {w w':World} {ao:Option Addr} {l:List α} {D:Nat->Prop} (h:eB f k d w ao l) (hk:aC D w w') (hn:∀b off,ao=some (Ad b off)->¬D b):eB f k d w' ao l:=fun hl=>by
 obtain⟨b,off,e,hb,hi⟩:=h hl;refine⟨b,off,e,fD hb hk.size,fun i hi' j hj=>?_⟩;exact(Hg (hk.block b hb (hn b off e))).trans (hi i hi' j hj)
theorem Cj {lo mb:Nat} {tt:TypeId} {X:List Value} (F:FuncId) (E:List Value) (x:Nat) (hFE:(F=300/\E=[.pointer (some (Ad x 0))])∨(F=285/\E=[.pointer (some (Ad x 0))])∨(F=269/\E=[]))
  (k:aR) (S:gL) (w:World) (j:Nat) (p:bD->Bool) (h:bJ lo mb tt X w S k) (hR:aW k) (hj:j<k.aj.length) (hC:∀V e,aC (fun b=>S.lab b≠.no) w V->Calls Tryz.prog F (Value.agg #[I e.page,I e.kind,I e.loc]::E).toArray V fun r w'=>r=.returned (.bool (p e))/\Below V.heap.size V w') :
  Calls Tryz.prog 268 #[.pointer (some (Ad mb 0)),I (j:Int),.func (.func F) #[] E.toArray] w (gj lo mb tt X w S (.tuple #[]) (dH k j p)):=by
 have hlo:lo<=w.heap.size:=gu h.lo_le (JV h.lt);have hcc:=hR.c;have hen:=ot hR hj;obtain⟨pb,cP,A⟩:=h.toKr.sp (by omega);obtain⟨ae,ce,SE,hre⟩:=h.toKr.bf hj;have c3:=h.c3;rw[A.v] at c3;have a2:=A.x2 j hj;rw[SE] at a2;have hji:(j:Int)<(k.aj.length:Int):=by omega
 obtain⟨es,hes⟩:=ex ((ak k.aj j).bf);rw[<- hes] at a2 hen hre SE;have HST:Hid (∀V n,n<es.length->bJ lo mb tt X V S (cU k es p n)->V.cell? (Ad pb (j*3+2))=some (.slice ae es.length ce)/\eB bw 3 gY V ae es):=fun V n hn hV=>by
  have hjn:j<(cU k es p n).aj.length:=by rw[kV];exact hj
  obtain⟨pb',cP',A'⟩:=hV.toKr.sp (by omega);have e:pb'=pb:=by
   have:=A'.v;rw[A.v] at this
   grind
  subst e;have x2:=A'.x2 j hjn;rw[SE] at x2;obtain⟨ae',ce',ao3,aph⟩:=hV.toKr.bf hjn;rw[kV,<- hes] at ao3 aph
  grind
 have HCN:Hid (∀V n,n<es.length->bJ lo mb tt X V S (cU k es p n)->Calls Tryz.prog 270 #[.pointer (some (Ad mb 0)),.agg #[I (aX es n).page,I (aX es n).kind,I (aX es n).loc],I (-1)] V (mO lo mb tt X V S (.tuple #[]) (dM (cU k es p n) (aX es n)))):=fun V n hn hV=>by
  have hin:aX es n∈(ak k.aj j).bf:=by rw[<- hes];exact jT hn
  have hb:=iO hR hj hin;have hr:=Gf k es p n;have hp:=wF hR hj p n (by grind);rw[<- hes] at hp;have hf:=yt hp;have hf1:∀i,i<(cU k es p n).frames.length->0<=(aH (cU k es p n).frames i).refs/\(aH (cU k es p n).frames i).refs<=512:=hf.1;have hf2:∀i,i<(cU k es p n).slots.length->0<=(bE (cU k es p n).slots i).refs/\(bE (cU k es p n).slots i).refs<=512:=hf.2;rw[<- Gh];refine DY _ S V (aX es n) (-1) hV (fun c=>?_) (fun c=>?_) (.inr rfl) ⟨fun c=>?_,fun c=>?_⟩
  · omega
  · omega
  · grind
  grind
 have I5:=ai hC;have HDL:Hid (∀V,bJ lo mb tt X V S (cU k es p es.length)->cK S w S V->Calls Tryz.prog 281 #[.slice ae es.length ce,.func (.func F) #[] E.toArray] V fun e w'=>∃av nv cv,e=.returned (.slice av nv cv)/\∃S',bJ lo mb tt X (w'.setCell (Ad pb (j*3+2)) (.slice av nv cv)) S' (dH k j p)/\cK S w S' (w'.setCell (Ad pb (j*3+2)) (.slice av nv cv))/\w'.frozen? (Ad pb (j*3+2))=false/\(∃u,w'.cell? (Ad pb (j*3+2))=some u)):=fun V hV hch=>by
  have hjn:j<(cU k es p es.length).aj.length:=by rw[kV];exact hj
  have hrow:=(hV.each j hjn).aQ;rw[kV,<- hes,SE] at hrow;have hlab:∀b,bX (.slice ae es.length ce) b->S.lab b=.bf j:=fun b hb=>hV.lE j hjn b (by grind)
  refine(TE F E x hFE lo es p (.slice ae es.length ce) V hrow (fun U e hU=>I5.o U e ?_) (by omega)).mono fun e w' ⟨v',h1,h2,h3,h4⟩=>?_
  · exact((hch.kp.mono (fun b _ g=>g)).trans hU (fun b hb hx=>by grind))
  · obtain⟨av,cv,rfl,_,_⟩:=bg h2;obtain⟨pb',cP',A'⟩:=hV.toKr.sp (by omega);have hP:S.vP=.slice (some (Ad pb 0)) k.aj.length cP:=A.v;have k1:aC (fun b=>S.lab b=.bf j) V w':=h3.mono (fun b _ hx=>hlab b hx);have sw:=hV.aiQ hjn hP k1 h2 (fun b hb=>by
     rcases h4 b hb with g | g
     · exact .inl (hlab b g)
     · exact .inr (hV.toKr.new g))
    have e1:({ cU k es p es.length with aj:=(cU k es p es.length).aj.set j (ek (ak (cU k es p es.length).aj j) (fe es p)) }:aR)=dH k j p:=by
     unfold dH km
     grind
    refine⟨av,_,cv,h1,_,e1 ▸ sw.1,hch.trans (sw.2 (fun b hb hx=>?_)),?_,?_⟩
    · rcases h4 b hx with g | g
      · exact hlab b g
      · omega
    · have hrP:=hV.aj;rw[hP] at hrP;have hrl:=h.len;have:=k1.row hrP (fun b hb e=>by
       have:S.lab b=.aj:=hV.lP b (by rw[hP];exact hb);rw[this] at e;simp at e)
      have hl2:S.L.length=k.aj.length:=hrl;rw[<- hl2] at this;exact iL this _
    · have hpl:S.lab pb=.aj:=A.lab;have c2:=A'.x2 j hjn;have e:pb'=pb:=by
       have:=A'.v;rw[A.v] at this;injection this with e1 _ _;injection e1 with e1;injection e1 with e1 _ _;omega
      subst e;exact⟨_,k1.cell c2 (fun e=>by have e:S.lab pb'=.bf j:=e;rw[hpl] at e;simp at e)⟩
 have dB:Hid (∀V S',bJ lo mb tt X V S' (dH k j p)->cK S w S' V->gj lo mb tt X w S (.tuple #[]) (dH k j p) (.returned (.tuple #[])) V):=fun V S' h1 h2=>⟨rfl,S',h1,h2⟩
 have amU:=ai (fun V (hV:bJ lo mb tt X V S (cU k es p es.length))=>(show V.cell? (Ad pb (j*3+2))=some (.slice ae es.length ce) from by
  have hjn:j<(cU k es p es.length).aj.length:=by rw[kV];exact hj
  obtain⟨pb',cP',A'⟩:=hV.toKr.sp (by omega);have e:pb'=pb:=by
   have:=A'.v;rw[A.v] at this
   grind
  subst e;have x2:=A'.x2 j hjn
  grind))
 have ub:=ai h;have HKB:Hid (∀V n,bJ lo mb tt X V S (cU k es p n)->∀V',Below V.heap.size V V'->bJ lo mb tt X V' S (cU k es p n)):=fun V n hV V' hb=>hV.below hb
 have Fa:Hid (∀n,p (aX es n)=true->dM (cU k es p n) (aX es n)=cU k es p (n+1)):=fun n hn=>by
  show _=if p (aX es n)=true then _ else _
  grind
 have uJ:Hid (∀n,p (aX es n)=false->cU k es p n=cU k es p (n+1)):=fun n hn=>by
  show _=if p (aX es n)=true then _ else _
  grind
 obtain⟨P,hP⟩:=ex (gj lo mb tt X w S (.tuple #[]) (dH k j p));rw[<- hP] at dB ⊢;obtain⟨np,yn⟩:=ex k.aj.length;rw[<- yn] at c3 hji;clear h hR hcc A SE hre hes hC hP yn hj hlo;rcases hFE with⟨rfl,rfl⟩ | ⟨rfl,rfl⟩ | ⟨rfl,rfl⟩
 all_goals
  go_enter Tryz.func268,Tryz.ntmps268;go_wp2;go_loopw [21] (fun iv wr=>∃n:Nat,n<=es.length/\iv=I (n:Int)/\bJ lo mb tt X wr S (cU k es p n)/\cK S w S wr) (fun iv _=>es.length-(intOf iv).toNat)
  case atStart=>exact⟨0,by omega,rfl,ub.o,cK.refl _ _⟩
  case round =>
   obtain⟨n,hn,rfl,rW,hch⟩:=hrel;have HKM:=ai rW;have JF:=ai hch;by_cases hlt:n<es.length
   · have hni:(n:Int)<(es.length:Int):=by omega
     obtain⟨y2,hr2⟩:=HST.o wr n hlt rW;obtain⟨eb,eo,hao,hbl,eY⟩:=hr2 (by omega);subst hao;have x0:=eY n hlt 0 (by omega);have x1:=eY n hlt 1 (by omega);have x2:=eY n hlt 2 (by omega);rw[mF] at x0;have HA:=ai ((aK wr.heap.size wr).alloc (aD _) (.cells #[I (aX es n).page,I (aX es n).kind,I (aX es n).loc] 174));have BX:=ai (bB wr #[I (aX es n).page,I (aX es n).kind,I (aX es n).loc] 174);have yG:=ai (I5.o (wr.alloc (.cells #[I (aX es n).page,I (aX es n).kind,I (aX es n).loc] 174)) (aX es n) ((hch.trans (cK.below (S:=S) HA.o)).kp));have ann:=ai (fun V=>HCN.o V n hlt);have HY2:=ai (Fa.o n);have TR:=ai (uJ.o n);obtain⟨G,hG⟩:=ex (p (aX es n));rw[<- hG] at yG HY2 TR;obtain⟨e,he⟩:=ex (aX es n);have y0:wr.cell? (Ad eb (eo+n*3))=some (I e.page):=by rw[he];exact x0
     have y1:wr.cell? (Ad eb (eo+n*3+1))=some (I e.kind):=by rw[he];exact x1
     have y3:wr.cell? (Ad eb (eo+n*3+2))=some (I e.loc):=by rw[he];exact x2
     rw[<- he] at yG HA BX ann HY2;clear hG he rW hch hr2 eY x0 x1 x2 ub;cases G with
     | true =>
      go_wp2_with (first
       | ((first | go_at_call 300 | go_at_call 285 | go_at_call 269);refine yG.o.mono ?_;rintro r w1 ⟨rfl,hb1⟩;have cH:=ai (HA.o.trans (hb1.mono HA.o.size));have BX1:=aN BX.o hb1 (aJ BX.o);obtain⟨d0,d1,d2⟩:=GU BX1;clear hb1 BX1)
       | (go_at_call 270;refine(ann.o _ (HKB.o _ n HKM.o _ cH.o)).mono ?_;rintro r w2 ⟨rfl,hk2,hc2⟩;have pq:=ai hk2;have T5:=ai ((JF.o.trans (cK.below (S:=S) cH.o)).trans hc2);clear hk2 hc2))
      go_roundw
      case rel=>exact⟨n+1,by omega,by go_num,HY2.o (by trivial) ▸ pq.o,T5.o⟩
      case measure=>simp[intOf];omega
     | false =>
      go_wp2_with ((first | go_at_call 300 | go_at_call 285 | go_at_call 269);refine yG.o.mono ?_;rintro r w1 ⟨rfl,hb1⟩;have cH:=ai (HA.o.trans (hb1.mono HA.o.size));clear hb1)
      go_roundw
      case rel=>exact⟨n+1,by omega,by go_num,TR.o (by trivial) ▸ HKB.o _ n HKM.o _ cH.o,JF.o.trans (cK.below (S:=S) cH.o)⟩
      case measure=>simp[intOf];omega
   · obtain rfl:n=es.length:=by omega
     have y2:=amU.o wr rW;have Xu:=ai (HDL.o wr rW hch);clear rW hch HKM JF HDL HST amU HCN I5 ub HKB Fa uJ;go_wp2_with (go_at_call 281;refine Xu.o.mono ?_;rintro r w2 ⟨av,nv,cv,rfl,S',hk2,hc2,avf,u2,hu2⟩;have pq:=ai hk2;have T5:=ai hc2;clear hk2 hc2)
     refine vK (v:=.tuple #[]) (by simp[results,Tryz.results268,go_sem]) rfl ?_;exact dB.o _ S' pq.o T5.o
open Go.RowKit
theorem Ny (i:Int) (e:bD) (x:Nat) (w:World) (hx:w.cell? (Ad x 0)=some (I i)) :
  Calls Tryz.prog 300 #[.agg #[I e.page,I e.kind,I e.loc],.pointer (some (Ad x 0))] w fun r w'=>r=.returned (.bool (ll i e))/\Below w.heap.size w w':=by
 obtain⟨pg,kd,lc⟩:=e;unfold ll;simp only;have hxl:x<w.heap.size:=nW w _ hx;have xA:(w.alloc (.cells #[I pg,I kd,I lc] 174)).cell? (Ad x 0)=some (I i):=(Pn ((aK w.heap.size w).alloc (aD _) _) (p:=(Ad x 0)) hxl).trans hx;obtain⟨A,hA⟩:=ex (decide (kd=1/\lc=i));rw[<- hA];have HA:=ai hA;clear hA;by_cases c:kd=1
 · have kb:(kd==1)=true:=by grind
   obtain⟨C,hC⟩:=ex ((lc==i));have HC:=ai hC;have hC2:=hC.symm;have qc:=ai c;clear hC c;go_enter Tryz.func300,Tryz.ntmps300;go_wp2;go_ret;refine⟨?_,(aK _ _).alloc (aD _) _⟩;congr 2;rw[HA.o,qc.o]
   try rw[HC.o]
   by_cases d:lc=i <;> simp[d]
 · have kb:(kd==1)=false:=by grind
   have qc:=ai c;clear c;go_enter Tryz.func300,Tryz.ntmps300;go_wp2;go_ret
   simp_all [aK,qj,Hid.o]
theorem Ta (f:pd) (w:World):Calls Tryz.prog 302 #[.agg #[.string f.data,I f.refs]] w fun e w'=>e=.returned (.bool (tW f))/\Below w.heap.size w w':=by
 obtain⟨d,r⟩:=f;unfold tW;simp only;have hd:d.toList.isEmpty=decide (d.size=0):=Zl d;by_cases c1:d.size=0
 · by_cases c2:r=0
   · rw[ic (show d.size=0/\r=0 from⟨c1,c2⟩)];rw[ic c1] at hd;have h2:(r==0)=true:=by grind
     clear c1 c2;go_enter Tryz.func302,Tryz.ntmps302;go_wp2;go_ret;simp[aK,qj]
   · rw[jq (show ¬(d.size=0/\r=0) from fun x=>c2 x.2)];rw[ic c1] at hd;have h2:(r==0)=false:=by grind
     clear c1 c2;go_enter Tryz.func302,Tryz.ntmps302;go_wp2;go_ret;simp[aK,qj]
 · rw[jq (show ¬(d.size=0/\r=0) from fun x=>c1 x.1)];rw[jq c1] at hd;clear c1;go_enter Tryz.func302,Tryz.ntmps302;go_wp2;go_ret;simp[aK,qj]
theorem Zb (l:List pd) (ao:Option Addr) (cap:Nat) (w:World) (h:eB jc 2 oc w ao l) (hl:l.length<=1000000) :
  Calls Tryz.prog 301 #[.slice ao l.length cap,.func (.func 302) #[] #[]] w fun e w' =>
   Below w.heap.size w w'/\((e=.returned (I (-1))/\∀j,j<l.length->tW (bE l j)=false)∨∃i:Nat,i<l.length/\e=.returned (I (i:Int))/\tW (bE l i)=true/\∀j,j<i->tW (bE l j)=false):=by
 have HH:=ai h;clear h;go_enter Tryz.func301,Tryz.ntmps301;go_wp2;go_loopw [8] (fun iv wr=>∃k:Nat,k<=l.length/\iv=I (k:Int)/\(∀j,j<k->tW (bE l j)=false)/\Below w.heap.size w wr) (fun iv _=>l.length-(intOf iv).toNat)
 case atStart=>grind [Below.refl]
 case round =>
  obtain⟨k,hk,rfl,hno,hb⟩:=hrel;have uJ:=ai hno;have HB:=ai hb;clear hno;by_cases hlt:k<l.length
  · have Jj:(k:Int)<(l.length:Int):=by omega
    obtain⟨eb,eo,hao,hbl,eY⟩:=HH.o (by omega);subst hao;have y0:=(hb.cell (p:=(Ad eb (eo+k*2+0))) hbl).trans (eY k hlt 0 (by omega));have y1:=(hb.cell (p:=(Ad eb (eo+k*2+1))) hbl).trans (eY k hlt 1 (by omega));rw[mF] at y0;have yG:=ai (Ta (bE l k) wr);obtain⟨G,hG⟩:=ex (tW (bE l k));rw[<- hG] at yG;have HG:=ai hG;obtain⟨E,hE⟩:=ex (bE l k);have x0:wr.cell? (Ad eb (eo+k*2))=some (.string E.data):=by rw[hE];exact y0
    have x1:wr.cell? (Ad eb (eo+k*2+1))=some (I E.refs):=by rw[hE];exact y1
    rw[<- hE] at yG;clear hG hE hb y0 y1 eY;cases G with
    | true =>
     go_wp2_with (go_at_call 302;refine yG.o.mono ?_;rintro e w1 ⟨rfl,hb1⟩;have cH:=ai (HB.o.trans (hb1.mono HB.o.size));clear hb1)
     go_ret;exact⟨cH.o,.inr ⟨k,hlt,rfl,HG.o.symm,uJ.o⟩⟩
    | false =>
     go_wp2_with (go_at_call 302;refine yG.o.mono ?_;rintro e w1 ⟨rfl,hb1⟩;have cH:=ai (HB.o.trans (hb1.mono HB.o.size));clear hb1)
     go_roundw
     case rel=>exact⟨k+1,by omega,by go_num,fun j hj=>by
      by_cases q:j=k
      · subst q;exact HG.o.symm
      · exact uJ.o j (by omega),cH.o⟩
     case measure=>simp[intOf];omega
  · obtain rfl:k=l.length:=by omega
    clear hb;go_wp2;go_ret;exact⟨HB.o,.inl ⟨rfl,uJ.o⟩⟩
theorem Zc (l:List lV) (ao:Option Addr) (cap:Nat) (w:World) (h:eB jd 4 gX w ao l) (hl:l.length<=1000000) :
  Calls Tryz.prog 295 #[.slice ao l.length cap,.func (.func 216) #[] #[]] w fun e w' =>
   Below w.heap.size w w'/\((e=.returned (I (-1))/\∀j,j<l.length->tj (aH l j)=false)∨∃i:Nat,i<l.length/\e=.returned (I (i:Int))/\tj (aH l i)=true/\∀j,j<i->tj (aH l j)=false):=by
 have HH:=ai h;clear h;go_enter Tryz.func295,Tryz.ntmps295;go_wp2;go_loopw [8] (fun iv wr=>∃k:Nat,k<=l.length/\iv=I (k:Int)/\(∀j,j<k->tj (aH l j)=false)/\Below w.heap.size w wr) (fun iv _=>l.length-(intOf iv).toNat)
 case atStart=>grind [Below.refl]
 case round =>
  obtain⟨k,hk,rfl,hno,hb⟩:=hrel;have uJ:=ai hno;have HB:=ai hb;clear hno;by_cases hlt:k<l.length
  · have Jj:(k:Int)<(l.length:Int):=by omega
    obtain⟨eb,eo,hao,hbl,eY⟩:=HH.o (by omega);subst hao;have y0:=(hb.cell (p:=(Ad eb (eo+k*4+0))) hbl).trans (eY k hlt 0 (by omega));have y1:=(hb.cell (p:=(Ad eb (eo+k*4+1))) hbl).trans (eY k hlt 1 (by omega));have y2:=(hb.cell (p:=(Ad eb (eo+k*4+2))) hbl).trans (eY k hlt 2 (by omega));have y3:=(hb.cell (p:=(Ad eb (eo+k*4+3))) hbl).trans (eY k hlt 3 (by omega));rw[mF] at y0;have yG:=ai (Iw (aH l k) wr);obtain⟨G,hG⟩:=ex (tj (aH l k));rw[<- hG] at yG;have HG:=ai hG;obtain⟨E,hE⟩:=ex (aH l k);have x0:wr.cell? (Ad eb (eo+k*4))=some (.string E.data):=by rw[hE];exact y0
    have x1:wr.cell? (Ad eb (eo+k*4+1))=some (I E.refs):=by rw[hE];exact y1
    have x2:wr.cell? (Ad eb (eo+k*4+2))=some (.bool E.jG):=by rw[hE];exact y2
    have x3:wr.cell? (Ad eb (eo+k*4+3))=some (.bool E.seen):=by rw[hE];exact y3
    rw[<- hE] at yG;clear hG hE hb y0 y1 y2 y3 eY;cases G with
    | true =>
     go_wp2_with (go_at_call 216;refine yG.o.mono ?_;rintro e w1 ⟨rfl,hb1⟩;have cH:=ai (HB.o.trans (hb1.mono HB.o.size));clear hb1)
     go_ret;exact⟨cH.o,.inr ⟨k,hlt,rfl,HG.o.symm,uJ.o⟩⟩
    | false =>
     go_wp2_with (go_at_call 216;refine yG.o.mono ?_;rintro e w1 ⟨rfl,hb1⟩;have cH:=ai (HB.o.trans (hb1.mono HB.o.size));clear hb1)
     go_roundw
     case rel=>exact⟨k+1,by omega,by go_num,fun j hj=>by
      by_cases q:j=k
      · subst q;exact HG.o.symm
      · exact uJ.o j (by omega),cH.o⟩
     case measure=>simp[intOf];omega
  · obtain rfl:k=l.length:=by omega
    clear hb;go_wp2;go_ret;exact⟨HB.o,.inl ⟨rfl,uJ.o⟩⟩
theorem abO {k:aR} (hR:aW k) {i:Nat} (hi:i<k.slots.length) (h1:tW (bE k.slots i)=true) (h2:∀j,j<i->tW (bE k.slots j)=false):yA k.slots=some i:=by
 unfold yA;refine PJ.2 ⟨hi,?_,fun j hj=>?_⟩
 · grind [Gb,bE,oc]
 · have hj':j<k.slots.length:=by omega
   have:=h2 j hj;have hz:¬(bE k.slots j).refs=0:=fun z=>by
    have h3:=(hR.slt j hj').zero ((hR.slt j hj').nil z)
    grind [Gb]
   grind [bE]
theorem abP {k:aR} (hR:aW k) {i:Nat} (hi:i<k.frames.length) (h1:tj (aH k.frames i)=true) (h2:∀j,j<i->tj (aH k.frames j)=false):yB k.frames=some i:=by
 unfold yB;refine PJ.2 ⟨hi,?_,fun j hj=>?_⟩
 · grind [Eb,aH,gX]
 · have hj':j<k.frames.length:=by omega
   have:=h2 j hj;have hz:¬(aH k.frames j).refs=0:=fun z=>by
    have h3:=(hR.zP j hj').zero ((hR.zP j hj').nil z)
    grind [Eb]
   grind [aH]
theorem abN {k:aR} (hR:aW k) (h:∀j,j<k.frames.length->tj (aH k.frames j)=false):yB k.frames=none/\Bt k:=by
 have hF:Bt k:=fun j hj z=>by
  have h3:=(hR.zP j hj).zero ((hR.zP j hj).nil z)
  grind [Eb]
 refine⟨?_,hF⟩;unfold yB;refine Vu.2 fun x hx=>?_
 obtain⟨j,hj,rfl⟩:=lM gX hx;have:=hF j hj
 grind [aH]
end Go.Proofs.YtlgoihmkgaaemaaGreat
