import Derived.Test.YtpgifpeohlllfaaGreatGT07
set_option maxHeartbeats 20000000
set_option linter.unusedVariables false
set_option maxRecDepth 100000
set_option linter.unusedSimpArgs false
namespace Go.Proofs.YtpgifpeohlllfaaGreat
namespace KW
open Go.RowKit GK
open FW (ai aD)
def qx (u:KM.Us):List Value:=[I u.refs,I u.page,.bool u.zero]
theorem pj (u:KM.Us):(qx u).length=3:=rfl
def iw (lo:Nat) (w:World) (g n cap:Nat) (us:List KM.Us):Prop:=us.length=n/\w.ownsRow lo 211 3 (.slice (some (Ad g 0)) n cap) n (us.flatMap qx)
theorem iw.kp {lo:Nat} {w w':World} {D:Nat->Prop} {g n cap:Nat} {us:List KM.Us} (h:iw lo w g n cap us) (hk:Kp D w w') (hd:¬D g):iw lo w' g n cap us:=⟨h.1,hk.row h.2 (fun b hb=>by injection hb with hb;rw[<- hb];exact hd)⟩
theorem iw.lt {lo:Nat} {w:World} {g n cap:Nat} {us:List KM.Us} (h:iw lo w g n cap us):lo<=g/\g<w.heap.size:=h.2.lt g rfl
theorem iw.at {lo:Nat} {w:World} {g n cap:Nat} {us:List KM.Us} (h:iw lo w g n cap us) (i:Nat) (hi:i<n):w.cell? (Ad g (i*3))=some (I (KM.dm us i).refs)/\w.cell? (Ad g (i*3+1))=some (I (KM.dm us i).page)/\w.cell? (Ad g (i*3+2))=some (.bool (KM.dm us i).zero):=by
 obtain⟨h1,h2⟩:=h;subst h1;exact⟨iZ qx pj KM.gY h2 i 0 hi (by omega),iZ qx pj KM.gY h2 i 1 hi (by omega),iZ qx pj KM.gY h2 i 2 hi (by omega)⟩
theorem RG {D:Nat->Prop} {w w':World} (h:Kp D w w'):Kp D w w'.drew:=h.trans (Kp.drew D w') (fun _ _ x=>x)
theorem iw.d {lo:Nat} {w:World} {g n cap:Nat} {us:List KM.Us} (h:iw lo w g n cap us):iw lo w.drew g n cap us:=h.kp (Kp.drew (fun _=>False) w) (fun x=>x)
theorem uJ {α:Type} (f:α->List Value) (hf:∀x,(f x).length=3) (d:α) (x:α) (a b c:Value) (hx:f x=[a,b,c]) (l:List α) (i:Nat) (hi:i<l.length):(l.set i x).flatMap f=(((l.flatMap f).set (i*3) a).set (i*3+1) b).set (i*3+2) c:=by
 induction l generalizing i with
 | nil=>cases hi
 | cons y r ih =>
  cases i with
  | zero =>
   rw[List.set_cons_zero,List.flatMap_cons,List.flatMap_cons,hx];obtain⟨p,q,s,e⟩:∃p q s,f y=[p,q,s]:=by
    have:=hf y
    match h:f y with
    | [p,q,s]=>exact⟨p,q,s,rfl⟩
    | []=>rw[h] at this;cases this
    | [_]=>rw[h] at this;cases this
    | [_,_]=>rw[h] at this;cases this
    | _::_::_::_::_=>rw[h] at this;simp at this
   rw[e];rfl
  | succ i =>
   have h3:=hf y;rw[List.set_cons_succ,List.flatMap_cons,List.flatMap_cons,ih i (Nat.lt_of_succ_lt_succ hi),List.set_append_right _ _ (by omega),List.set_append_right _ _ (by omega),List.set_append_right _ _ (by omega),h3,show(i+1)*3-3=i*3 by omega,show(i+1)*3+1-3=i*3+1 by omega,show(i+1)*3+2-3=i*3+2 by omega]
theorem iw.set {lo:Nat} {w:World} {g n cap:Nat} {us:List KM.Us} (h:iw lo w g n cap us) (i:Nat) (hi:i<n) (u:KM.Us):iw lo (((w.setCell (Ad g (i*3)) (I u.refs)).setCell (Ad g (i*3+1)) (I u.page)).setCell (Ad g (i*3+2)) (.bool u.zero)) g n cap (us.set i u):=by
 refine⟨by rw[List.length_set];exact h.1,?_⟩;rw[uJ qx pj KM.gY u _ _ _ rfl us i (by rw[h.1];exact hi)];exact ig (ig (ig h.2 _ _) _ _) _ _
theorem Jf (us:List KM.Us) (e:KM.En) (z:Bool) (lo g n cap:Nat) (w:World) (h:iw lo w g n cap us) (hn:n<=1000) (he:M.gu e.page/\M.gu e.loc) (hr:∀i,i<n->0<=(KM.dm us i).refs/\(KM.dm us i).refs<=1000000) :
  Calls Tryz.prog 150 #[.slice (some (Ad g 0)) n cap,.agg #[I e.page,I e.kind,I e.loc],.bool z] w fun x w'=>x=.returned (.bool (KM.mD us e z))/\Kp (fun b=>b=g) w w'/\iw lo w' g n cap (if KM.mD us e z then KM.rT us e z else us):=by
 obtain⟨A,hA⟩:=ex (KM.mD us e z);rw[<- hA];obtain⟨R,hR⟩:=ex (if A then KM.rT us e z else us);rw[<- hR];have HA:=ai hA;have HR:=ai hR;clear hA hR;have akm:=h.lt.2;have HU:=ai h;have hun:us.length=n:=h.1;obtain⟨pg,kd,lc⟩:=e;simp only at he ⊢;have MG:=ai (Kp.alloc (fun b=>b=g) w (.cells #[I pg,I kd,I lc] 45));have xS:=ai (h.kp (Kp.alloc (fun _=>False) w (.cells #[I pg,I kd,I lc] 45)) (fun x=>x));have hgn:¬g=w.heap.size:=by omega
 clear h;by_cases c:0<=lc/\lc<(n:Int)
 · obtain⟨i,rfl⟩:∃i:Nat,lc=(i:Int):=⟨lc.toNat,by omega⟩;have hi:i<n:=by omega
   obtain⟨u0,u1,u2⟩:=HU.o.at i hi;have Yt:=hr i hi;have ni:Hid (A=!(decide (0<(KM.dm us i).refs)&&(decide ((KM.dm us i).page≠pg) || (KM.dm us i).zero != z))):=by
    show _=_;rw[HA.o];unfold KM.mD;simp only[hun,Int.toNat_natCast];rw[decide_eq_true c,Bool.true_and]
   have M5:=ai (xS.o.set i hi ⟨(KM.dm us i).refs+1,pg,z⟩);have Xn:Hid (KM.rT us ⟨pg,kd,(i:Int)⟩ z=us.set i ⟨(KM.dm us i).refs+1,pg,z⟩):=by
    show _=_;unfold KM.rT;simp only[Int.toNat_natCast]
   obtain⟨U,hU⟩:=ex (KM.dm us i);rw[<- hU] at u0 u1 u2 Yt ni M5 Xn;obtain⟨ur,up,uz⟩:=U;simp only at u0 u1 u2 Yt ni M5 Xn;have cl:(i:Int)<(n:Int):=c.2;have c0:(0:Int)<=(i:Int):=c.1;have M6:=ai hU;clear hU hr HA;have wr1:IntKind.i64.wrap (ur+1)=ur+1:=by rw[IntKind.wrap_i64];omega
   have BE:=ai (B.new w #[I pg,I kd,I (i:Int)] 45);have bB:Hid (∀V,Kp (fun b=>b=g) w V->∀us',iw lo V g n cap us'->A=true->us'=us.set i ⟨ur+1,pg,z⟩->iw lo V g n cap R):=fun V _ us' ho ha e=>by
    have:R=us':=by rw[HR.o,if_pos ha,Xn.o,e]
    rw[this];exact ho
   have UM:Hid (A=false->R=us):=fun ha=>by rw[HR.o,ha];rfl
   clear HR Xn;rcases(show ¬0<ur∨(0<ur/\up=pg/\uz=z)∨(0<ur/\up=pg/\¬uz=z)∨(0<ur/\¬up=pg) by
    by_cases a:0<ur
    · by_cases b:up=pg
      · by_cases d:uz=z
        · exact .inr (.inl ⟨a,b,d⟩)
        · exact .inr (.inr (.inl ⟨a,b,d⟩))
      · exact .inr (.inr (.inr ⟨a,b⟩))
    · exact .inl a) with g1 | ⟨g1,g2,g3⟩ | ⟨g1,g2,g3⟩ | ⟨g1,g2⟩
   · have d1:decide (0<ur)=false:=decide_eq_false g1;have pR:Hid (A=true):=by show _=_;rw[ni.o,d1];rfl
     clear ni;go_enter Tryz.func150,Tryz.ntmps150;go_wp2;obtain⟨W,hW⟩:=ex (w.alloc (.cells #[I pg,I kd,I (i:Int)] 45));rw[<- hW] at MG xS M5 BE ⊢;obtain⟨eb,Fb⟩:=ex w.heap.size;rw[<- Fb] at BE ⊢;clear hW Fb;obtain⟨y0,y1,y2⟩:=xS.o.at i hi;have v0:W.cell? (Ad g (i*3))=some (I ur):=by rw[y0,<- M6.o]
     have v1:W.cell? (Ad g (i*3+1))=some (I up):=by rw[y1,<- M6.o]
     have v2:W.cell? (Ad g (i*3+2))=some (.bool uz):=by rw[y2,<- M6.o]
     have f0:W.frozen? (Ad g (i*3))=false:=dx xS.o.2 _;have f1:W.frozen? (Ad g (i*3+1))=false:=dx xS.o.2 _;have f2:W.frozen? (Ad g (i*3+2))=false:=dx xS.o.2 _;have w0:W.cell? (Ad eb 0)=some (I pg):=B.cell BE.o 0 rfl;have w2:W.cell? (Ad eb 2)=some (I (i:Int)):=B.cell BE.o 2 rfl;clear u0 u1 u2 hgn y0 y1 y2;go_region;go_wp2;go_region;go_wp2;go_ret;have K:=MG.o.trans (nC (D:=fun b=>b=g) W g (i*3) (i*3+1) (i*3+2) (I (ur+1)) (I pg) (.bool z) rfl) (fun _ _ x=>x);exact⟨congrArg (fun b=>Ending.returned (.bool b)) pR.o.symm,RG (RG K),bB.o _ (RG (RG K)) _ M5.o.d.d pR.o rfl⟩
   · have b1:(up != pg)=false:=by simpa using g2
     have b2:(uz==z)=true:=by simpa using g3
     have pR:Hid (A=true):=by show _=_;rw[ni.o,g2,g3];simp
     clear ni g2 g3;go_enter Tryz.func150,Tryz.ntmps150;go_wp2;obtain⟨W,hW⟩:=ex (w.alloc (.cells #[I pg,I kd,I (i:Int)] 45));rw[<- hW] at MG xS M5 BE ⊢;obtain⟨eb,Fb⟩:=ex w.heap.size;rw[<- Fb] at BE ⊢;clear hW Fb;obtain⟨y0,y1,y2⟩:=xS.o.at i hi;have v0:W.cell? (Ad g (i*3))=some (I ur):=by rw[y0,<- M6.o]
     have v1:W.cell? (Ad g (i*3+1))=some (I up):=by rw[y1,<- M6.o]
     have v2:W.cell? (Ad g (i*3+2))=some (.bool uz):=by rw[y2,<- M6.o]
     have f0:W.frozen? (Ad g (i*3))=false:=dx xS.o.2 _;have f1:W.frozen? (Ad g (i*3+1))=false:=dx xS.o.2 _;have f2:W.frozen? (Ad g (i*3+2))=false:=dx xS.o.2 _;have w0:W.cell? (Ad eb 0)=some (I pg):=B.cell BE.o 0 rfl;have w2:W.cell? (Ad eb 2)=some (I (i:Int)):=B.cell BE.o 2 rfl;clear u0 u1 u2 hgn y0 y1 y2;go_region;go_wp2;go_region;go_wp2;go_ret;have K:=MG.o.trans (nC (D:=fun b=>b=g) W g (i*3) (i*3+1) (i*3+2) (I (ur+1)) (I pg) (.bool z) rfl) (fun _ _ x=>x);exact⟨congrArg (fun b=>Ending.returned (.bool b)) pR.o.symm,RG (RG K),bB.o _ (RG (RG K)) _ M5.o.d.d pR.o rfl⟩
   · have b1:(up != pg)=false:=by simpa using g2
     have b2:(uz==z)=false:=by simpa using g3
     have pR:Hid (A=false):=by show _=_;rw[ni.o,decide_eq_true g1,show(uz != z)=true by simpa using g3];simp
     clear ni g2 g3 bB;go_enter Tryz.func150,Tryz.ntmps150;go_wp2;obtain⟨W,hW⟩:=ex (w.alloc (.cells #[I pg,I kd,I (i:Int)] 45));rw[<- hW] at MG xS M5 BE ⊢;obtain⟨eb,Fb⟩:=ex w.heap.size;rw[<- Fb] at BE ⊢;clear hW Fb;obtain⟨y0,y1,y2⟩:=xS.o.at i hi;have v0:W.cell? (Ad g (i*3))=some (I ur):=by rw[y0,<- M6.o]
     have v1:W.cell? (Ad g (i*3+1))=some (I up):=by rw[y1,<- M6.o]
     have v2:W.cell? (Ad g (i*3+2))=some (.bool uz):=by rw[y2,<- M6.o]
     have f0:W.frozen? (Ad g (i*3))=false:=dx xS.o.2 _;have f1:W.frozen? (Ad g (i*3+1))=false:=dx xS.o.2 _;have f2:W.frozen? (Ad g (i*3+2))=false:=dx xS.o.2 _;have w0:W.cell? (Ad eb 0)=some (I pg):=B.cell BE.o 0 rfl;have w2:W.cell? (Ad eb 2)=some (I (i:Int)):=B.cell BE.o 2 rfl;clear u0 u1 u2 hgn y0 y1 y2 M5;go_region;go_wp2;go_ret;rw[UM.o pR.o];exact⟨congrArg (fun b=>Ending.returned (.bool b)) pR.o.symm,RG MG.o,xS.o.d⟩
   · have b1:(up != pg)=true:=by simpa using g2
     have pR:Hid (A=false):=by show _=_;rw[ni.o,decide_eq_true g1,decide_eq_true g2];rfl
     clear ni g2 bB;go_enter Tryz.func150,Tryz.ntmps150;go_wp2;obtain⟨W,hW⟩:=ex (w.alloc (.cells #[I pg,I kd,I (i:Int)] 45));rw[<- hW] at MG xS M5 BE ⊢;obtain⟨eb,Fb⟩:=ex w.heap.size;rw[<- Fb] at BE ⊢;clear hW Fb;obtain⟨y0,y1,y2⟩:=xS.o.at i hi;have v0:W.cell? (Ad g (i*3))=some (I ur):=by rw[y0,<- M6.o]
     have v1:W.cell? (Ad g (i*3+1))=some (I up):=by rw[y1,<- M6.o]
     have v2:W.cell? (Ad g (i*3+2))=some (.bool uz):=by rw[y2,<- M6.o]
     have f0:W.frozen? (Ad g (i*3))=false:=dx xS.o.2 _;have f1:W.frozen? (Ad g (i*3+1))=false:=dx xS.o.2 _;have f2:W.frozen? (Ad g (i*3+2))=false:=dx xS.o.2 _;have w0:W.cell? (Ad eb 0)=some (I pg):=B.cell BE.o 0 rfl;have w2:W.cell? (Ad eb 2)=some (I (i:Int)):=B.cell BE.o 2 rfl;clear u0 u1 u2 hgn y0 y1 y2 M5;go_region;go_wp2;go_ret;rw[UM.o pR.o];exact⟨congrArg (fun b=>Ending.returned (.bool b)) pR.o.symm,RG MG.o,xS.o.d⟩
 · have pR:Hid (A=false):=by
    show _=_;rw[HA.o];unfold KM.mD;rw[decide_eq_false (by simp only[hun];exact c),Bool.false_and]
   have UM:Hid (R=us):=by show _=_;rw[HR.o,pR.o];rfl
   clear HA hr HR;rcases(show lc<0∨(0<=lc/\(n:Int)<=lc) by omega) with g1 | ⟨g1,g2⟩
   all_goals
    go_enter Tryz.func150,Tryz.ntmps150;go_wp2;go_ret;rw[UM.o];exact⟨congrArg (fun b=>Ending.returned (.bool b)) pR.o.symm,MG.o,xS.o⟩
end KW
namespace KM
open Go.RowKit
def mZ (us:List Us) (n:Nat) (B:Int):Prop:=us.length=n/\∀i,i<n->0<=(dm us i).refs/\(dm us i).refs<=B
theorem mZ.mono {us:List Us} {n:Nat} {B C:Int} (h:mZ us n B) (hc:B<=C):mZ us n C:=⟨h.1,fun i hi=>⟨(h.2 i hi).1,Int.le_trans (h.2 i hi).2 hc⟩⟩
theorem mZ.use {us:List Us} {n:Nat} {B:Int} (h:mZ us n B) (e:En) (z:Bool) (hok:mD us e z=true):mZ (rT us e z) n (B+1):=by
 have hb:=(qB.1 hok).1;obtain⟨h1,h2⟩:=h;refine⟨by unfold rT;rw[List.length_set];exact h1,fun i hi=>?_⟩;unfold rT;rw[xX _ _ _ _ (by omega)];by_cases c:e.loc.toNat=i
 · rw[if_pos c,c];have:=h2 i hi;show 0<=(dm us i).refs+1/\(dm us i).refs+1<=B+1;omega
 · rw[if_neg c];have:=h2 i hi;omega
theorem Ix {ar:List AM.Ar} {last:Int} {uf us:List Us} {e:En} (h:lU ar last uf us e=true):(AM.aR ar e.page).2=true/\last<e.page/\((e.kind=1/\mD uf e (AM.aR ar e.page).1.zero=true)∨(e.kind=2/\mD us e (AM.aR ar e.page).1.zero=true)):=by
 unfold lU at h;rw[Bool.and_eq_true,Bool.and_eq_true,decide_eq_true_eq] at h;refine⟨h.1,h.2.1,?_⟩;have g:=h.2.2;by_cases c:e.kind=1
 · rw[if_pos c] at g;exact .inl ⟨c,g⟩
 · rw[if_neg c] at g;by_cases d:e.kind=2
   · rw[if_pos d] at g;exact .inr ⟨d,g⟩
   · rw[if_neg d] at g;cases g
theorem xQ (ar:List AM.Ar) (es:List En) (u:List Us×List Us) (nf ns:Nat) (B:Int) (h1:mZ u.1 nf B) (h2:mZ u.2 ns B):∀k,k<=es.length->ir ar es u k=true->mZ (gQ ar es u k).1 nf (B+k)/\mZ (gQ ar es u k).2 ns (B+k)/\(k:Int)<=(if k=0 then 0 else (aM es (k-1)).page)/\(if k=0 then 0 else (aM es (k-1)).page)<256
 | 0,_,_=>⟨h1.mono (by omega),h2.mono (by omega),Int.le_refl _,by rw[if_pos rfl];decide⟩
 | k+1,hk,hb=>by
  unfold ir at hb;rw[Bool.and_eq_true] at hb;obtain⟨a1,a2,a3,a4⟩:=xQ ar es u nf ns B h1 h2 k (by omega) hb.1;obtain⟨b1,b2,b3⟩:=Ix hb.2;have hm:=iG b1;rw[if_neg (by omega),Nat.add_sub_cancel];unfold lY at b2;refine⟨?_,?_,by omega,hm.2⟩
  · show mZ (rq ar (gQ ar es u k) (aM es k)).1 nf _;unfold rq;rcases b3 with g | g
    · rw[if_pos g.1];exact(a1.use _ _ g.2).mono (by omega)
    · rw[if_neg (by omega)];exact a1.mono (by omega)
  · show mZ (rq ar (gQ ar es u k) (aM es k)).2 ns _;unfold rq;rcases b3 with g | g
    · rw[if_pos g.1];exact a2.mono (by omega)
    · rw[if_neg (by omega)];exact(a2.use _ _ g.2).mono (by omega)
theorem Ir (ar:List AM.Ar) (es:List En) (u:List Us×List Us) (nf ns:Nat) (B:Int) (h1:mZ u.1 nf B) (h2:mZ u.2 ns B) (k:Nat) (hk:k<=es.length) (hb:ir ar es u k=true):k<=255:=by
 have:=xQ ar es u nf ns B h1 h2 k hk hb;omega
theorem zE (ar:List AM.Ar) (es:List En) (u:List Us×List Us):∀(k n:Nat),k<=n->ir ar es u k=false->ir ar es u n=false
 | k,0,h,e=>by
  obtain rfl:k=0:=by omega
  exact e
 | k,n+1,h,e=>by
  by_cases c:k=n+1
  · rw[<- c];exact e
  · rw[ir,zE ar es u k n (by omega) e,Bool.false_and]
theorem P8 (ar:List AM.Ar) (es:List En) (u:List Us×List Us) (k:Nat) (hk:k<es.length) (h:lU ar (lY es k) (gQ ar es u k).1 (gQ ar es u k).2 (aM es k)=false):ir ar es u es.length=false :=
 zE ar es u (k+1) es.length hk (by rw[ir,h,Bool.and_false])
theorem Nu (n:Nat):mZ (List.replicate n gY) n 0:=by
 refine⟨List.length_replicate,fun i hi=>?_⟩;unfold dm;rw[List.getD_eq_getElem?_getD,List.getElem?_replicate,if_pos hi];exact⟨Int.le_refl _,Int.le_refl _⟩
theorem NI (hs:List LM.Sh) (ss:List Sp) (u:List Us×List Us) (nf ns:Nat) (h1:mZ u.1 nf 0) (h2:mZ u.2 ns 0):∀k,k<=ss.length->oO hs ss u k=true->mZ (lD ss u k).1 nf (255*k)/\mZ (lD ss u k).2 ns (255*k)
 | 0,_,_=>⟨h1,h2⟩
 | k+1,hk,hb=>by
  unfold oO at hb;rw[Bool.and_eq_true,Bool.and_eq_true] at hb;obtain⟨a1,a2⟩:=NI hs ss u nf ns h1 h2 k (by omega) hb.1;obtain⟨b1,b2,_,_⟩:=xQ (au ss k).aB (au ss k).aA (lD ss u k) nf ns (255*k) a1 a2 _ (Nat.le_refl _) hb.2.2;have hsm:=Ir (au ss k).aB (au ss k).aA (lD ss u k) nf ns (255*k) a1 a2 _ (Nat.le_refl _) hb.2.2;exact⟨b1.mono (by omega),b2.mono (by omega)⟩
theorem Gw {k:Kn} (hr:LM.dC k.ak=true) (hb:oO k.ak k.aj (List.replicate k.frames.length gY,List.replicate k.slots.length gY) k.aj.length=true) (i:Nat) (hi:i<k.frames.length) (hn:(dm (xW k).1 i).refs≠0):0<=(dm (xW k).1 i).page/\(dm (xW k).1 i).page<256:=by
 obtain⟨a1,a2⟩:=tB hr (Ed k.frames.length k.slots.length) k.aj _ (Nat.le_refl _) hb;have hs:=a1.2.1 i hi;have hs:Sum (names (k.aj.take k.aj.length) 1 i) (dm (xW k).1 i):=hs;rw[List.take_length] at hs;have hne:names k.aj 1 i≠[]:=fun e=>hn ((sum_nil hs).2 e)
 obtain⟨x,hx⟩:=List.exists_mem_of_ne_nil _ hne;have e:=hs.2 x hx;obtain⟨s,hsm,en,hen,_,_,hxe⟩:=gT.1 hx;obtain⟨j,hj,rfl⟩:=fu uu hsm;have hm:=iG ((a2 j hj).u9 en hen).1;rw[hxe] at e;injection e with e1 e2;omega
theorem Bc (hs:List LM.Sh) (ss:List Sp) (u:List Us×List Us):∀(k n:Nat),k<=n->oO hs ss u k=false->oO hs ss u n=false
 | k,0,h,e=>by
  obtain rfl:k=0:=by omega
  exact e
 | k,n+1,h,e=>by
  by_cases c:k=n+1
  · rw[<- c];exact e
  · rw[oO,Bc hs ss u k n (by omega) e,Bool.false_and]
end KM
namespace KW
open Go.RowKit GK
open FW (ai aD)
theorem uL (s:KM.Sp) (va:Value) (ap:Option Addr) (cp:Nat) (uf us:List KM.Us) (lo gf nf cf gs ns cs:Nat) (bd:Int) (w0 w:World) (ha:AW.Has w0 va s.aB) (he:aZ aK 3 KM.js w0 ap s.aA) (hfit:l8 s) (hw:Below w0.heap.size w0 w) (hlo:w0.heap.size<=lo) (huf:iw lo w gf nf cf uf) (hus:iw lo w gs ns cs us) (hne:¬gf=gs) (hb1:KM.mZ uf nf bd) (hb2:KM.mZ us ns bd) (hB:bd<=100000) (lj:nf<=1000) (hns:ns<=1000) :
  Calls Tryz.prog 112 #[.agg #[.bool s.live,va,.slice ap s.aA.length cp],.slice (some (Ad gf 0)) nf cf,.slice (some (Ad gs 0)) ns cs] w fun x w'=>x=.returned (.bool (KM.ir s.aB s.aA (uf,us) s.aA.length))/\Kp (fun b=>b=gf∨b=gs) w w'/\(KM.ir s.aB s.aA (uf,us) s.aA.length=true->iw lo w' gf nf cf (KM.gQ s.aB s.aA (uf,us) s.aA.length).1/\iw lo w' gs ns cs (KM.gQ s.aB s.aA (uf,us) s.aA.length).2):=by
 obtain⟨lv,ar,es⟩:=s;simp only at ha he hfit ⊢;have HHA:=ai ha;have R8:=ai he;have om:=ai hfit.aB;have s9:=ai hfit.u9;have hel:es.length<=140737488351232:=hfit.aA;have HW:=ai hw;have HUF:=ai huf;have M5:=ai hus;have hgf:=huf.lt;have hgs:=hus.lt;have xV:=ai (KM.xQ ar es (uf,us) nf ns bd hb1 hb2);have gv:=ai (KM.P8 ar es (uf,us));have ju:Hid (∀k,KM.ir ar es (uf,us) k=true->KM.lU ar (KM.lY es k) (KM.gQ ar es (uf,us) k).1 (KM.gQ ar es (uf,us) k).2 (KM.aM es k)=true->KM.ir ar es (uf,us) (k+1)=true/\KM.gQ ar es (uf,us) (k+1)=KM.rq ar (KM.gQ ar es (uf,us) k) (KM.aM es k)):=fun k h1 h2=>⟨by rw[KM.ir,h1,h2];rfl,rfl⟩
 have QK:Hid (∀k,KM.lY es (k+1)=(KM.aM es k).page):=fun k=>by unfold KM.lY;rw[if_neg (by omega),Nat.add_sub_cancel]
 have HL0:Hid (KM.lY es 0=0):=rfl;obtain⟨aa,ca,sI,_⟩:=id ha;subst sI;obtain⟨na,nZ⟩:=ex ar.length;rw[<- nZ] at HHA ⊢;have je:=ai (Kp.alloc (fun b=>b=gf∨b=gs) w (.cells #[.bool lv,.slice aa na ca,.slice ap es.length cp] 43));have BS:=ai (B.new w #[.bool lv,.slice aa na ca,.slice ap es.length cp] 43);have Xo:=ai (huf.kp (Kp.alloc (fun _=>False) w (.cells #[.bool lv,.slice aa na ca,.slice ap es.length cp] 43)) (fun x=>x));have Xm:=ai (hus.kp (Kp.alloc (fun _=>False) w (.cells #[.bool lv,.slice aa na ca,.slice ap es.length cp] 43)) (fun x=>x));clear ha he hfit hw huf hus hb1 hb2 nZ;go_enter Tryz.func112,Tryz.ntmps112;go_wp2;obtain⟨W,hW⟩:=ex (w.alloc (.cells #[.bool lv,.slice aa na ca,.slice ap es.length cp] 43));rw[<- hW] at je BS Xo Xm ⊢;obtain⟨sb,pC⟩:=ex w.heap.size;have ajQ:¬sb=gf:=by omega
 have ajO:¬sb=gs:=by omega
 have hsW:W.heap.size=sb+1:=by rw[hW,World.size_alloc,pC]
 have h0s:w0.heap.size<=sb:=by have:=HW.o.size;omega
 have akn:gf<sb:=by omega
 have akj:gs<sb:=by omega
 rw[<- pC] at BS ⊢;have DW:=ai pC;clear hW pC HUF M5;go_loopw [7,15] (fun lv iv wr=>∃k:Nat,k<=es.length/\iv=I (k:Int)/\lv=I (KM.lY es k)/\KM.ir ar es (uf,us) k=true/\Kp (fun b=>b=gf∨b=gs) W wr/\iw lo wr gf nf cf (KM.gQ ar es (uf,us) k).1/\iw lo wr gs ns cs (KM.gQ ar es (uf,us) k).2) (fun _ iv _=>es.length-(intOf iv).toNat)
 case atStart=>exact⟨0,by omega,rfl,rfl,rfl,Kp.refl _ _,Xo.o,Xm.o⟩
 case round =>
  obtain⟨k,hk,rfl,rfl,hbk,xL,hof,hos⟩:=hrel;have FV:=ai xL;have Sk:=ai hbk;have Kg:=ai hof;have Kf:=ai hos;obtain⟨L,hL⟩:=ex (KM.lY es k);rw[<- hL];have bs:=xL.keep BS.o (fun x=>by omega);have hsz:=xL.size;have s1:wr.cell? (Ad sb 1)=some (.slice aa na ca):=B.cell bs 1 rfl;have s2:wr.cell? (Ad sb 2)=some (.slice ap es.length cp):=B.cell bs 2 rfl;have HBS:=ai bs;by_cases hlt:k<es.length
  · have hb0:=(xL.below (je.o.below HW.o HW.o.size (fun b hb=>by omega)) (by omega) (fun b hb=>by omega):Below w0.heap.size w0 wr);have bR:=ai hb0;obtain⟨eb,eo,hao,hbl,bN⟩:=R8.o (by omega);subst hao;have ce:∀j,j<3->wr.cell? (Ad eb (eo+k*3+j))=(aK (KM.aM es k))[j]?:=fun j hj=>(hb0.cell (p:=(Ad eb (eo+k*3+j))) hbl).trans (bN k hlt j hj)
    have e0:=ce 0 (by omega);have e1:=ce 1 (by omega);have e2:=ce 2 (by omega);rw[Nat.add_zero] at e0;have wu:=s9.o k hlt;have gv:=ai (gv.o k hlt);have ju:=ai (ju.o k Sk.o);have QK:=ai (QK.o k);obtain⟨bd1,bd2,bd3,bd4⟩:=xV.o k (by omega) Sk.o;have Wz:(k:Int)<=255:=by omega
    have HUB:Hid (KM.mZ (KM.gQ ar es (uf,us) k).1 nf 1000000/\KM.mZ (KM.gQ ar es (uf,us) k).2 ns 1000000):=⟨bd1.mono (by omega),bd2.mono (by omega)⟩;have um:Hid (∀V,Below w0.heap.size w0 V->Calls Tryz.prog 70 #[.slice aa na ca,I (KM.aM es k).page] V fun e w'=>e=.returned (.tuple #[.agg (AW.cellsOf (AM.aR ar (KM.aM es k).page).1),.bool (AM.aR ar (KM.aM es k).page).2])/\Below V.heap.size V w'):=fun V hV=>AW.qm ar _ _ V (HHA.o.below hV) om.o
    rw[<- hL] at gv ju;have ML:Hid (∀u:List KM.Us×List KM.Us,KM.rq ar u (KM.aM es k)=if (KM.aM es k).kind=1 then (KM.rT u.1 (KM.aM es k) (AM.aR ar (KM.aM es k).page).1.zero,u.2) else (u.1,KM.rT u.2 (KM.aM es k) (AM.aR ar (KM.aM es k).page).1.zero)):=fun u=>rfl
    obtain⟨UU,hUU⟩:=ex (KM.gQ ar es (uf,us) k);rw[<- hUU] at gv ju HUB Kg Kf;obtain⟨U1,U2⟩:=UU;unfold KM.lU at gv ju;obtain⟨E,hE⟩:=ex (KM.aM es k);rw[<- hE] at e0 e1 e2 wu gv ju QK um ML;obtain⟨pg,kd,lc⟩:=E;simp only at gv ju HUB Kg Kf wu QK um ML;have x0:wr.cell? (Ad eb (eo+k*3))=some (I pg):=e0;have x1:wr.cell? (Ad eb (eo+k*3+1))=some (I kd):=e1;have x2:wr.cell? (Ad eb (eo+k*3+2))=some (I lc):=e2;obtain⟨⟨fa,ok⟩,hF⟩:∃F,F=AM.aR ar pg:=⟨_,rfl⟩;rw[<- hF] at gv ju um ML;obtain⟨f1,f2,f3,z⟩:=fa;unfold AW.cellsOf at um;simp only at gv ju um ML;have QE:=ai (fun V (hV:iw lo V gf nf cf U1)=>Jf U1 ⟨pg,kd,lc⟩ z lo gf nf cf V hV lj ⟨wu.1,wu.2.2⟩ (fun i hi=>HUB.o.1.2 i hi));have Kc:=ai (fun V (hV:iw lo V gs ns cs U2)=>Jf U2 ⟨pg,kd,lc⟩ z lo gs ns cs V hV hns ⟨wu.1,wu.2.2⟩ (fun i hi=>HUB.o.2.2 i hi));obtain⟨A1,hA1⟩:=ex (KM.mD U1 ⟨pg,kd,lc⟩ z);obtain⟨A2,DN⟩:=ex (KM.mD U2 ⟨pg,kd,lc⟩ z);rw[<- hA1,<- DN] at gv ju;rw[<- hA1] at QE;rw[<- DN] at Kc;have TD:=hb0.size;have Fb:¬eb=wr.heap.size:=by omega
    have hsr:¬sb=wr.heap.size:=by omega
    have KA:=ai (FV.o.trans (Kp.alloc (fun b=>b=gf∨b=gs) wr (.cells #[I pg,I kd,I lc] 45)) (fun _ _ x=>x));have cQ:=ai (bR.o.alloc bR.o.size (.cells #[I pg,I kd,I lc] 45));have OA:=ai (Kg.o.kp (Kp.alloc (fun _=>False) wr (.cells #[I pg,I kd,I lc] 45)) (fun x=>x));have OB:=ai (Kf.o.kp (Kp.alloc (fun _=>False) wr (.cells #[I pg,I kd,I lc] 45)) (fun x=>x));have s1A:(wr.alloc (.cells #[I pg,I kd,I lc] 45)).cell? (Ad sb 1)=some (.slice aa na ca):=B.cell (B.alloc HBS.o _) 1 rfl;have BE:=ai (B.new wr #[I pg,I kd,I lc] 45);clear e0 e1 e2 hL hUU hE hF hA1 DN xL hbk hof hos hb0 bN ce bd1 bd2 bd3 bd4 xV R8 HHA om s9 Xo Xm FV bR Kg Kf HUB bs HBS BS DW HL0 Wz;cases ok with
    | false =>
     have Gd:=ai (gv.o rfl);clear gv ju QE Kc ML;go_wp2_with (go_at_call 70;refine(um.o _ cQ.o).mono ?_;rintro e w1 ⟨rfl,hb1⟩;have K1:=ai (KA.o.trans (Kp.bc hb1) (fun _ _ x=>x));have O1:=ai (OA.o.kp (Kp.bc (D:=fun _=>False) hb1) (fun x=>x));have O2:=ai (OB.o.kp (Kp.bc (D:=fun _=>False) hb1) (fun x=>x));have q9:=ai (B.below BE.o hb1 (by simp));have t0:w1.cell? (Ad wr.heap.size 0)=some (I pg):=B.cell q9.o 0 rfl;have t1:w1.cell? (Ad wr.heap.size 1)=some (I kd):=B.cell q9.o 1 rfl;have t2:w1.cell? (Ad wr.heap.size 2)=some (I lc):=B.cell q9.o 2 rfl;have hx1:wr.heap.size<w1.heap.size:=B.isLt q9.o;have hx2:¬wr.heap.size=w1.heap.size:=(by omega);clear hb1)
     have KX:=ai (K1.o.trans (Kp.alloc (fun b=>b=gf∨b=gs) w1 (.cells #[I f1,I f2,I f3,.bool z] 47)) (fun _ _ x=>x));go_ret;exact⟨congrArg (fun b=>Ending.returned (.bool b)) Gd.o.symm,je.o.trans KX.o (fun _ _ x=>x),fun x=>by rw[Gd.o] at x;cases x⟩
    | true =>
     by_cases MS:pg<=L
     · have Gd:=ai (gv.o (by rw[decide_eq_false (show ¬L<pg by omega)];rfl));clear gv ju QE Kc ML;go_wp2_with (go_at_call 70;refine(um.o _ cQ.o).mono ?_;rintro e w1 ⟨rfl,hb1⟩;have K1:=ai (KA.o.trans (Kp.bc hb1) (fun _ _ x=>x));have O1:=ai (OA.o.kp (Kp.bc (D:=fun _=>False) hb1) (fun x=>x));have O2:=ai (OB.o.kp (Kp.bc (D:=fun _=>False) hb1) (fun x=>x));have q9:=ai (B.below BE.o hb1 (by simp));have t0:w1.cell? (Ad wr.heap.size 0)=some (I pg):=B.cell q9.o 0 rfl;have t1:w1.cell? (Ad wr.heap.size 1)=some (I kd):=B.cell q9.o 1 rfl;have t2:w1.cell? (Ad wr.heap.size 2)=some (I lc):=B.cell q9.o 2 rfl;have hx1:wr.heap.size<w1.heap.size:=B.isLt q9.o;have hx2:¬wr.heap.size=w1.heap.size:=(by omega);clear hb1)
       have KX:=ai (K1.o.trans (Kp.alloc (fun b=>b=gf∨b=gs) w1 (.cells #[I f1,I f2,I f3,.bool z] 47)) (fun _ _ x=>x));go_ret;exact⟨congrArg (fun b=>Ending.returned (.bool b)) Gd.o.symm,je.o.trans KX.o (fun _ _ x=>x),fun x=>by rw[Gd.o] at x;cases x⟩
     · have LZ:L<pg:=by omega
       rw[decide_eq_true LZ] at gv ju;by_cases k1:kd=1
       · rw[if_pos k1] at gv ju;have k1b:(kd==1)=true:=by simpa using k1
         have HK:=ai k1;clear Kc k1;cases A1 with
         | false =>
          have Gd:=ai (gv.o rfl);clear gv ju ML;go_wp2_with (first | (go_at_call 70;refine(um.o _ cQ.o).mono ?_;rintro e w1 ⟨rfl,hb1⟩;have K1:=ai (KA.o.trans (Kp.bc hb1) (fun _ _ x=>x));have O1:=ai (OA.o.kp (Kp.bc (D:=fun _=>False) hb1) (fun x=>x));have O2:=ai (OB.o.kp (Kp.bc (D:=fun _=>False) hb1) (fun x=>x));have q9:=ai (B.below BE.o hb1 (by simp));have t0:w1.cell? (Ad wr.heap.size 0)=some (I pg):=B.cell q9.o 0 rfl;have t1:w1.cell? (Ad wr.heap.size 1)=some (I kd):=B.cell q9.o 1 rfl;have t2:w1.cell? (Ad wr.heap.size 2)=some (I lc):=B.cell q9.o 2 rfl;have hx1:wr.heap.size<w1.heap.size:=B.isLt q9.o;have hx2:¬wr.heap.size=w1.heap.size:=(by omega);clear hb1) | (go_at_call 150;refine(QE.o _ (O1.o.kp (Kp.alloc (fun _=>False) _ _) (fun x=>x))).mono ?_;rintro e w3 ⟨rfl,hk3,Pc⟩;have K3:=ai ((K1.o.trans (Kp.alloc (fun b=>b=gf∨b=gs) _ _) (fun _ _ x=>x)).trans (hk3.mono (D1:=fun b=>b=gf∨b=gs) (fun b _ x=>.inl x)) (fun _ _ x=>x));have O3:=ai Pc;have P3:=ai ((O2.o.kp (Kp.alloc (fun _=>False) _ _) (fun x=>x)).kp hk3 (fun x=>hne x.symm));clear hk3 Pc))
          have KX:=ai K3.o;go_ret;exact⟨congrArg (fun b=>Ending.returned (.bool b)) Gd.o.symm,je.o.trans KX.o (fun _ _ x=>x),fun x=>by rw[Gd.o] at x;cases x⟩
         | true =>
          have xU:=ai (ju.o rfl);clear gv ju;go_wp2_with (first | (go_at_call 70;refine(um.o _ cQ.o).mono ?_;rintro e w1 ⟨rfl,hb1⟩;have K1:=ai (KA.o.trans (Kp.bc hb1) (fun _ _ x=>x));have O1:=ai (OA.o.kp (Kp.bc (D:=fun _=>False) hb1) (fun x=>x));have O2:=ai (OB.o.kp (Kp.bc (D:=fun _=>False) hb1) (fun x=>x));have q9:=ai (B.below BE.o hb1 (by simp));have t0:w1.cell? (Ad wr.heap.size 0)=some (I pg):=B.cell q9.o 0 rfl;have t1:w1.cell? (Ad wr.heap.size 1)=some (I kd):=B.cell q9.o 1 rfl;have t2:w1.cell? (Ad wr.heap.size 2)=some (I lc):=B.cell q9.o 2 rfl;have hx1:wr.heap.size<w1.heap.size:=B.isLt q9.o;have hx2:¬wr.heap.size=w1.heap.size:=(by omega);clear hb1) | (go_at_call 150;refine(QE.o _ (O1.o.kp (Kp.alloc (fun _=>False) _ _) (fun x=>x))).mono ?_;rintro e w3 ⟨rfl,hk3,Pc⟩;have K3:=ai ((K1.o.trans (Kp.alloc (fun b=>b=gf∨b=gs) _ _) (fun _ _ x=>x)).trans (hk3.mono (D1:=fun b=>b=gf∨b=gs) (fun b _ x=>.inl x)) (fun _ _ x=>x));have O3:=ai Pc;have P3:=ai ((O2.o.kp (Kp.alloc (fun _=>False) _ _) (fun x=>x)).kp hk3 (fun x=>hne x.symm));clear hk3 Pc))
          go_roundw
          case rel=>exact⟨k+1,by omega,by go_num,by rw[QK.o],xU.o.1,K3.o,by rw[xU.o.2,ML.o,if_pos HK.o];exact O3.o,by rw[xU.o.2,ML.o,if_pos HK.o];exact P3.o⟩
          case measure=>simp[intOf];omega
       · rw[if_neg k1] at gv ju;clear QE;have k1b:(kd==1)=false:=by simpa using k1
         by_cases k2:kd=2
         · rw[if_pos k2] at gv ju;have k2b:(kd==2)=true:=by simpa using k2
           have HK:=ai k1;clear k1 k2;cases A2 with
           | false =>
            have Gd:=ai (gv.o rfl);clear gv ju ML;go_wp2_with (first | (go_at_call 70;refine(um.o _ cQ.o).mono ?_;rintro e w1 ⟨rfl,hb1⟩;have K1:=ai (KA.o.trans (Kp.bc hb1) (fun _ _ x=>x));have O1:=ai (OA.o.kp (Kp.bc (D:=fun _=>False) hb1) (fun x=>x));have O2:=ai (OB.o.kp (Kp.bc (D:=fun _=>False) hb1) (fun x=>x));have q9:=ai (B.below BE.o hb1 (by simp));have t0:w1.cell? (Ad wr.heap.size 0)=some (I pg):=B.cell q9.o 0 rfl;have t1:w1.cell? (Ad wr.heap.size 1)=some (I kd):=B.cell q9.o 1 rfl;have t2:w1.cell? (Ad wr.heap.size 2)=some (I lc):=B.cell q9.o 2 rfl;have hx1:wr.heap.size<w1.heap.size:=B.isLt q9.o;have hx2:¬wr.heap.size=w1.heap.size:=(by omega);clear hb1) | (go_at_call 150;refine(Kc.o _ (O2.o.kp (Kp.alloc (fun _=>False) _ _) (fun x=>x))).mono ?_;rintro e w3 ⟨rfl,hk3,Pc⟩;have K3:=ai ((K1.o.trans (Kp.alloc (fun b=>b=gf∨b=gs) _ _) (fun _ _ x=>x)).trans (hk3.mono (D1:=fun b=>b=gf∨b=gs) (fun b _ x=>.inr x)) (fun _ _ x=>x));have O3:=ai Pc;have P3:=ai ((O1.o.kp (Kp.alloc (fun _=>False) _ _) (fun x=>x)).kp hk3 hne);clear hk3 Pc))
            have KX:=ai K3.o;go_ret;exact⟨congrArg (fun b=>Ending.returned (.bool b)) Gd.o.symm,je.o.trans KX.o (fun _ _ x=>x),fun x=>by rw[Gd.o] at x;cases x⟩
           | true =>
            have xU:=ai (ju.o rfl);clear gv ju;go_wp2_with (first | (go_at_call 70;refine(um.o _ cQ.o).mono ?_;rintro e w1 ⟨rfl,hb1⟩;have K1:=ai (KA.o.trans (Kp.bc hb1) (fun _ _ x=>x));have O1:=ai (OA.o.kp (Kp.bc (D:=fun _=>False) hb1) (fun x=>x));have O2:=ai (OB.o.kp (Kp.bc (D:=fun _=>False) hb1) (fun x=>x));have q9:=ai (B.below BE.o hb1 (by simp));have t0:w1.cell? (Ad wr.heap.size 0)=some (I pg):=B.cell q9.o 0 rfl;have t1:w1.cell? (Ad wr.heap.size 1)=some (I kd):=B.cell q9.o 1 rfl;have t2:w1.cell? (Ad wr.heap.size 2)=some (I lc):=B.cell q9.o 2 rfl;have hx1:wr.heap.size<w1.heap.size:=B.isLt q9.o;have hx2:¬wr.heap.size=w1.heap.size:=(by omega);clear hb1) | (go_at_call 150;refine(Kc.o _ (O2.o.kp (Kp.alloc (fun _=>False) _ _) (fun x=>x))).mono ?_;rintro e w3 ⟨rfl,hk3,Pc⟩;have K3:=ai ((K1.o.trans (Kp.alloc (fun b=>b=gf∨b=gs) _ _) (fun _ _ x=>x)).trans (hk3.mono (D1:=fun b=>b=gf∨b=gs) (fun b _ x=>.inr x)) (fun _ _ x=>x));have O3:=ai Pc;have P3:=ai ((O1.o.kp (Kp.alloc (fun _=>False) _ _) (fun x=>x)).kp hk3 hne);clear hk3 Pc))
            go_roundw
            case rel=>exact⟨k+1,by omega,by go_num,by rw[QK.o],xU.o.1,K3.o,by rw[xU.o.2,ML.o,if_neg HK.o];exact P3.o,by rw[xU.o.2,ML.o,if_neg HK.o];exact O3.o⟩
            case measure=>simp[intOf];omega
         · rw[if_neg k2] at gv ju;have k2b:(kd==2)=false:=by simpa using k2
           have Gd:=ai (gv.o rfl);clear gv ju Kc ML k1 k2;go_wp2_with (go_at_call 70;refine(um.o _ cQ.o).mono ?_;rintro e w1 ⟨rfl,hb1⟩;have K1:=ai (KA.o.trans (Kp.bc hb1) (fun _ _ x=>x));have O1:=ai (OA.o.kp (Kp.bc (D:=fun _=>False) hb1) (fun x=>x));have O2:=ai (OB.o.kp (Kp.bc (D:=fun _=>False) hb1) (fun x=>x));have q9:=ai (B.below BE.o hb1 (by simp));have t0:w1.cell? (Ad wr.heap.size 0)=some (I pg):=B.cell q9.o 0 rfl;have t1:w1.cell? (Ad wr.heap.size 1)=some (I kd):=B.cell q9.o 1 rfl;have t2:w1.cell? (Ad wr.heap.size 2)=some (I lc):=B.cell q9.o 2 rfl;have hx1:wr.heap.size<w1.heap.size:=B.isLt q9.o;have hx2:¬wr.heap.size=w1.heap.size:=(by omega);clear hb1)
           have KX:=ai (K1.o.trans (Kp.alloc (fun b=>b=gf∨b=gs) w1 (.cells #[I f1,I f2,I f3,.bool z] 47)) (fun _ _ x=>x));go_ret;exact⟨congrArg (fun b=>Ending.returned (.bool b)) Gd.o.symm,je.o.trans KX.o (fun _ _ x=>x),fun x=>by rw[Gd.o] at x;cases x⟩
  · obtain rfl:k=es.length:=by omega
    clear hL;go_wp2;go_ret;exact⟨congrArg (fun b=>Ending.returned (.bool b)) Sk.o.symm,je.o.trans FV.o (fun _ _ x=>x),fun _=>⟨Kg.o,Kf.o⟩⟩
end KW
namespace LW
open Go.RowKit
open W (ai)
theorem FO (ao:Option Addr) (cap:Nat) (w:World) :
  Calls Tryz.prog 99 #[.slice ao 0 cap] w fun e w'=>e=.returned (.bool (LM.fw []))/\Below w.heap.size w w':=by
 go_enter Tryz.func99,Tryz.ntmps99;go_wp2;refine wp_loop_rounds 1 ?_;rw[rounds_succ];go_wp2;go_ret;exact⟨rfl,Below.refl _ _⟩
theorem Du (l:List AM.Ar) (b off cap:Nat) (w:World) (hl:AM.Cs w b off l) (hn:l.length<=140737488351232) :
  Calls Tryz.prog 99 #[.slice (some (Ad b off)) l.length cap] w fun e w'=>e=.returned (.bool (LM.fw l))/\Below w.heap.size w w':=by
 go_enter Tryz.func99,Tryz.ntmps99;go_wp2;go_loopw [7] (fun i wr=>∃k:Nat,k<=l.length/\i=I k/\LM.kz l k=false/\Below w.heap.size w wr) (fun i _=>l.length-(intOf i).toNat)
 case atStart=>exact⟨0,by omega,rfl,rfl,Below.refl _ _⟩
 case round =>
  obtain⟨k,hk,rfl,hz,hb⟩:=hrel;have HZ:=ai hz;have iY:=ai hb;clear hz;by_cases hlt:k<l.length
  · obtain⟨c0,c1,c2,c3⟩:=(hl.below hb) k hlt;obtain⟨a,ha⟩:=ex (AM.at_ l k);rw[<- ha] at c0 c1 c2 c3;have HA:=ai ha;clear ha hb;by_cases hzr:a.zero=true
    · have HX:Hid (LM.fw l=true):=LM.Sr l k hlt (by rw[<- HA.o];exact hzr);go_wp2;go_ret;exact⟨bY (by rw[HX.o]),iY.o.alloc iY.o.size _⟩
    · have adu:a.zero=false:=by simpa using hzr
      clear hzr;have HX:Hid (LM.kz l (k+1)=false):=by
       show _=_;simp only[LM.kz];rw[HZ.o,<- HA.o,adu];rfl
      go_wp2;go_roundw
      case rel=>exact⟨k+1,by omega,by go_num,HX.o,iY.o.alloc iY.o.size _⟩
      case measure=>simp[intOf];omega
  · obtain rfl:k=l.length:=by omega
    go_wp2;go_ret;exact⟨bY HZ.o.symm,iY.o⟩
theorem FP (l:List AM.Ar) (v:Value) (w:World) (h:AW.Has w v l) (hf:AW.ft l) :
  Calls Tryz.prog 99 #[v] w fun e w'=>e=.returned (.bool (LM.fw l))/\Below w.heap.size w w':=by
 obtain⟨ao,cap,rfl,h⟩:=h;rcases h with rfl | ⟨b,off,rfl,hl⟩
 · exact FO ao cap w
 · exact Du l b off cap w hl hf.2
theorem xh (hs:List LM.Sh) (ao:Option Addr) (cap:Nat) (w:World) (h:LM.jb w ao hs) (hf:LM.pH hs) :
  Calls Tryz.prog 101 #[.slice ao hs.length cap] w fun e w'=>e=.returned (.bool (LM.jx hs))/\Below w.heap.size w w':=by
 have HF:=ai hf;have HH:=ai h;have hn:hs.length<=140737488351232:=hf.1;clear h hf;go_enter Tryz.func101,Tryz.ntmps101;go_wp2;go_loopw [7] (fun i wr=>∃k:Nat,k<=hs.length/\i=I k/\LM.gz hs k=true/\Below w.heap.size w wr) (fun i _=>hs.length-(intOf i).toNat)
 case atStart=>exact⟨0,by omega,rfl,rfl,Below.refl _ _⟩
 case round =>
  obtain⟨k,hk,rfl,hz,hb⟩:=hrel;have HZ:=ai hz;have iY:=ai hb;clear hz;by_cases hlt:k<hs.length
  · obtain⟨b,off,hao,hbl,bN⟩:=(HH.o.below hb) (by omega);subst hao;obtain⟨c0,c1,c2,c3⟩:=bN k hlt;have rJ:=HF.o.2 k hlt;have HE:Hid (LM.gz hs (k+1)=LM.bQ (LM.aY hs k)):=by
     show _=_;simp only[LM.gz];rw[HZ.o,Bool.true_and]
    have DB:Hid (LM.bQ (LM.aY hs k)=false->LM.jx hs=false):=fun e=>LM.GL hs k hlt e
    obtain⟨s,JM⟩:=ex (LM.aY hs k);rw[<- JM] at c0 c1 c2 c3 rJ HE DB;clear JM bN hb;have cQ:=ai (iY.o.alloc iY.o.size (.cells #[I s.page,.string s.data,.slice s.ao s.bg.length s.cap] 50));have HC:Hid (∀W,Below wr.heap.size wr W->Calls Tryz.prog 146 #[.agg #[I s.page,.string s.data,.slice s.ao s.bg.length s.cap]] W fun e w'=>e=.returned (.bool (LM.bQ s))/\Below W.heap.size W w'):=fun W hb=>pZ s W (c3.below hb) rJ
    clear c3 rJ;cases e:LM.bQ s with
    | true =>
     rw[e] at HC HE;clear e;go_wp2_with (go_at_call 146;refine(HC.o _ ((Below.refl _ _).alloc (Nat.le_refl _) _)).mono ?_;rintro e w1 ⟨rfl,hb⟩;have cQ:=ai (cQ.o.trans (hb.mono cQ.o.size));clear hb)
     go_roundw
     case rel=>exact⟨k+1,by omega,by go_num,HE.o,cQ.o⟩
     case measure=>simp[intOf];omega
    | false =>
     have HX:=ai (DB.o e);rw[e] at HC;clear e DB HE;go_wp2_with (go_at_call 146;refine(HC.o _ ((Below.refl _ _).alloc (Nat.le_refl _) _)).mono ?_;rintro e w1 ⟨rfl,hb⟩;have cQ:=ai (cQ.o.trans (hb.mono cQ.o.size));clear hb)
     go_ret;exact⟨bY (by rw[HX.o]),cQ.o⟩
  · obtain rfl:k=hs.length:=by omega
    go_wp2;go_ret;exact⟨bY HZ.o.symm,iY.o⟩
theorem Ei {a a':Option Addr} {n n' m m':Nat} (h1:a=a') (h2:n=n') (h3:m=m'):Value.slice a n m=.slice a' n' m':=by rw[h1,h2,h3]
theorem Fj (l:List AM.Ar) (hs:List LM.Sh) (en:Int) (va:Value) (ao:Option Addr) (cap:Nat) (w:World) (ha:AW.Has w va l) (hc:AM.aW l=0) (h:LM.jb w ao hs) (hn:hs.length<=140737488351232) (hcap:hs.length<=cap) :
  Calls Tryz.prog 100 #[.agg #[va,.slice ao hs.length cap,I en]] w fun e w'=>e=.returned (.bool (LM.eH l hs))/\Below w.heap.size w w':=by
 obtain⟨b,off,hbo⟩:∃b off,0<hs.length->ao=some (Ad b off)/\b<w.heap.size/\LM.QA w b off hs:=by
  by_cases h0:0<hs.length
  · obtain⟨b,off,h1,h2,h3⟩:=h h0;exact⟨b,off,fun _=>⟨h1,h2,h3⟩⟩
  · exact⟨0,0,fun g=>(h0 g).elim⟩
 have HBO:=ai hbo;have HC:=ai hc;have hlen:=AM.gP l hc;obtain⟨aa,ca,rfl,hal⟩:=ha;have VM:Hid (0<l.length->∃b off,aa=some (Ad b off)/\AM.Cs w b off l):=fun g=>by
  rcases hal with rfl | ⟨b,off,e,hl⟩
  · exact(Nat.lt_irrefl 0 g).elim
  · exact⟨b,off,e,hl⟩
 clear hbo hc h hal;have HB:=ai ((Below.refl w.heap.size w).alloc (Nat.le_refl _) (.cells #[.slice aa l.length ca,.slice ao hs.length cap,I en] 30));go_enter Tryz.func100,Tryz.ntmps100;go_wp2;go_loopw [12,3] (fun ix v wr=>∃(i c:Nat) (RT:Option Addr),i<=l.length/\ix=I i/\v=.slice RT (hs.length-c) (cap-c)/\c<=hs.length/\(c<hs.length->RT=some (Ad b (off+c*3)))/\(hs.take c).map (·.page)=LM.dB l i/\Below w.heap.size w wr) (fun ix _ _=>l.length-(intOf ix).toNat)
 case atStart=>exact⟨0,0,ao,by omega,rfl,rfl,by omega,fun g=>by rw[(HBO.o g).1,Nat.zero_mul,Nat.add_zero],rfl,HB.o⟩
 case round =>
  obtain⟨i,c,RT,hi,rfl,rfl,hcl,hao,htk,hb⟩:=hrel;have HAO:=ai hao;have Xq:=ai htk;have iY:=ai hb;clear hao htk;by_cases hlt:i<l.length
  · obtain⟨ba,ajl,RO,hl⟩:=VM.o (by omega);subst RO;obtain⟨c0,c1,c2,c3⟩:=(hl.below hb) i hlt;have hbk:=AM.dg l i (AM.cW l HC.o i hlt);have wW:Hid (∀n,n<(AM.at_ l i).aJ.toNat->∃t,LM.dV l=(LM.dB l i++LM.gI (AM.at_ l i) n)++((AM.at_ l i).page+(n:Int))::t):=fun n hn=>LM.EH l i hlt n hn
    have ju:Hid (LM.dB l (i+1)=LM.dB l i++LM.gI (AM.at_ l i) (AM.at_ l i).aJ.toNat):=rfl;obtain⟨a,RO⟩:=ex (AM.at_ l i);rw[<- RO] at c0 c1 c2 c3 hbk wW ju;clear RO hb;obtain⟨P,hP⟩:∃P:Nat,a.aJ=(P:Int):=⟨a.aJ.toNat,by omega⟩;rw[hP] at c1 hbk wW ju;rw[Int.toNat_natCast] at wW ju;have cQ:=ai (iY.o.alloc iY.o.size (.cells #[I a.page,I (P:Int),I a.bV,.bool a.zero] 47));have BA:=ai (B.new wr #[I a.page,I (P:Int),I a.bV,.bool a.zero] 47);go_wp2;go_loopw [18,3] (fun nx v wi=>∃(n c:Nat) (RT:Option Addr),n<=P/\nx=I n/\v=.slice RT (hs.length-c) (cap-c)/\c<=hs.length/\(c<hs.length->RT=some (Ad b (off+c*3)))/\(hs.take c).map (·.page)=LM.dB l i++LM.gI a n/\Below w.heap.size w wi/\wi.heap[wr.heap.size]?=some (.cells #[I a.page,I (P:Int),I a.bV,.bool a.zero] 47 (0,0))) (fun nx _ _=>P-(intOf nx).toNat)
    case atStart=>exact⟨0,c,RT,by omega,rfl,rfl,hcl,HAO.o,by rw[Xq.o];simp[LM.gI],cQ.o,BA.o⟩
    case round =>
     obtain⟨n,c,RT,hn',rfl,rfl,hcl,hao,htk,hb,hba⟩:=hrel;have HAO:=ai hao;have Xq:=ai htk;have Ga:=ai hb;have BAi:=ai hba;have x0:=B.cell hba 0 rfl;clear hao htk hba;by_cases MS:n<P
     · obtain⟨t,ht⟩:=wW.o n MS;have HT:=ai ht;clear ht;by_cases hce:c=hs.length
       · have HX:Hid (LM.eH l hs=false):=LM.Iz (by have h:=Xq.o;rw[hce] at h;exact h) HT.o;have hz:hs.length-c=0:=by omega
         rw[hz];clear hz hce;go_wp2
         go_quiet (fail)
         go_wp2;go_ret;exact⟨bY HX.o.symm,Go.below_drewN Ga.o _⟩
       · have TC:c<hs.length:=by omega
         have hcz:(((hs.length-c:Nat):Int)==0)=false:=by simp;omega
         have akt:0<hs.length-c:=by omega
         obtain⟨-,g2,g3⟩:=HBO.o (by omega);obtain⟨d0,d1,d2,d3⟩:=(LM.Td (hb.mono (Nat.le_of_eq rfl)) g2 g3) c TC;have RO:=HAO.o TC;subst RO;have aj8:(1:Int)<=((hs.length-c:Nat):Int):=by omega
         by_cases Gh:(LM.aY hs c).page=a.page+(n:Int)
         · have HX:Hid ((hs.take (c+1)).map (·.page)=LM.dB l i++LM.gI a (n+1)):=by
            show _=_;rw[LM.rE hs c TC,Xq.o,Gh,LM.nt,List.append_assoc]
           rw[Gh] at d0;clear Gh d1 d2 d3 hb hce;by_cases hc1:cap-c=1
           · go_wp2
             go_quiet (fail)
             go_wp2;go_roundw
             case rel=>exact⟨n+1,c+1,_,by omega,by go_num,Ei rfl (by omega) (by omega),by omega,fun g=>by omega,HX.o,Go.below_drewN Ga.o _,BAi.o⟩
             case measure=>simp[intOf];omega
           · go_wp2
             go_quiet (fail)
             go_wp2;go_roundw
             case rel=>exact⟨n+1,c+1,_,by omega,by go_num,Ei rfl (by omega) (by omega),by omega,fun g=>by simp[Nat.add_mul,Nat.add_assoc],HX.o,Go.below_drewN Ga.o _,BAi.o⟩
             case measure=>simp[intOf];omega
         · have HX:Hid (LM.eH l hs=false):=LM.IC TC Xq.o HT.o Gh;have hpz:((LM.aY hs c).page==a.page+(n:Int))=false:=by simpa using Gh
           clear Gh d1 d2 d3 hb hce;go_wp2
           go_quiet (fail)
           go_wp2;go_ret;exact⟨bY HX.o.symm,Go.below_drewN Ga.o _⟩
     · obtain rfl:n=P:=by omega
       go_wp2;go_roundw
       case rel=>exact⟨i+1,c,RT,by omega,by go_num,rfl,hcl,HAO.o,by rw[ju.o];exact Xq.o,Ga.o⟩
       case measure=>simp[intOf];omega
  · obtain rfl:i=l.length:=by omega
    have HX:=ai (LM.Mj hcl Xq.o);go_wp2;go_ret;refine⟨bY ?_,iY.o⟩;rw[HX.o];rw[Bool.eq_iff_iff];simp;omega
end LW
end Go.Proofs.YtpgifpeohlllfaaGreat
