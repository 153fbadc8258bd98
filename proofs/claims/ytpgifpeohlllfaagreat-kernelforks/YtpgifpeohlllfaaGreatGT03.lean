import Derived.Test.YtpgifpeohlllfaaGreatGT02
set_option maxHeartbeats 20000000
set_option linter.unusedVariables false
set_option maxRecDepth 100000
set_option linter.unusedSimpArgs false
namespace Go.Proofs.YtpgifpeohlllfaaGreat
namespace AM
open Go.RowKit
def look (l:List Ar) (n:Nat):St:=let r:=aU l n;if r.2 then ⟨true,r.1.bV,r.1.zero⟩ else off
def ja (G:List Ar):Ar:=at_ G (G.length-1)
def iE (G:List Ar) (a:Ar):Bool:=dW a.page a.aJ&&iV a.bV&&(G.length==0 || fM (ja G) a)
theorem zi (p n q:Int) (z:Bool) (x:Int):hit ⟨p,n,q,z⟩ x=decide (p<=x/\x<p+n):=rfl
theorem nI (a:Ar) (x:Int):hit a x=true↔a.page<=x/\x<a.page+a.aJ:=⟨fun h=>of_decide_eq_true h,fun h=>decide_eq_true h⟩
theorem eV (G:List Ar) (a:Ar):ja (G++[a])=a:=by simp[ja,at_]
theorem rM (G H:List Ar):∀k,k<=G.length->gF (G++H) k=gF G k
 | 0,_=>rfl
 | k+1,h=>by
  simp only[gF,rM G H k (by omega)];congr 1;unfold nY;rw[iK G H k (by omega)];by_cases e:k=0
  · subst e;rfl
  · rw[iK G H (k-1) (by omega)]
theorem iT (G:List Ar) (a:Ar):good (G++[a])=(good G&&iE G a):=by
 unfold good;rw[List.length_append];show gF (G++[a]) (G.length+1)=_;simp only[gF,rM G [a] G.length (Nat.le_refl _)];congr 1;unfold nY iE ja;rw[mY];by_cases e:G.length=0
 · simp[e]
 · rw[iK G [a] (G.length-1) (by omega)]
theorem n7:∀(G:List Ar) (a:Ar) (p:Int),aU (G++[a]) p=if (aU G p).2 then aU G p else if hit a p then (a,true) else (nil,false)
 | [],a,p=>by simp[aU]
 | b::r,a,p=>by
  simp only[List.cons_append,aU];by_cases h:hit b p=true
  · simp[h]
  · simp[h,n7 r a p]
theorem rO:∀(G:List Ar) (p:Int),(aU G p).2=false->aU G p=(nil,false)
 | [],p,_=>rfl
 | b::r,p,h=>by
  simp only[aU] at h ⊢;by_cases c:hit b p=true
  · simp[c] at h
  · simp only[c] at h ⊢;exact rO r p h
theorem oG (G:List Ar) (a:Ar) (n:Nat):look (G++[a]) n=if (aU G n).2 then look G n else if hit a n then ⟨true,a.bV,a.zero⟩ else off:=by
 unfold look;rw[n7];by_cases h:(aU G n).2=true
 · simp[h]
 · simp only[h];by_cases c:hit a n=true
   · simp[c]
   · simp[c]
theorem jH:∀(m:Nat) (G:List Ar),G.length=m->good G=true->∀p:Int,(aU G p).2=true->1<=p/\p<(ja G).eG
 | 0,G,hm,_,p,h=>by
  have e:G=[]:=List.eq_nil_of_length_eq_zero hm;subst e;simp[aU] at h
 | m+1,G,hm,hg,p,h=>by
  rcases List.eq_nil_or_concat G with rfl | ⟨H,a,rfl⟩
  · simp at hm
  · rw[List.concat_eq_append] at *;rw[iT,Bool.and_eq_true] at hg;obtain⟨WG,hok⟩:=hg;rw[eV];simp only[iE,Bool.and_eq_true,dW,decide_eq_true_eq] at hok;obtain⟨⟨ZA,_⟩,hfo⟩:=hok;rw[n7] at h;by_cases c:(aU H p).2=true
    · have ih:=jH m H (by simpa using hm) WG p c;refine⟨ih.1,?_⟩;have hne:¬H.length=0:=by
       intro e;have e':H=[]:=List.eq_nil_of_length_eq_zero e;subst e';simp[aU] at c
      simp only[beq_iff_eq,Bool.or_eq_true,hne,false_or] at hfo;have hle:(ja H).eG<=a.page:=by
       unfold fM at hfo;split at hfo
       · omega
       · simp at hfo;omega
      unfold Ar.eG at *;omega
    · simp only[c] at h;by_cases d:hit a p=true
      · simp only[hit,decide_eq_true_eq] at d;unfold Ar.eG at *;omega
      · simp[d] at h
structure uo (F:Nat->St):Prop where
 zero:(F 0).m=false
 none:∀n,(F n).m=false->F n=off
 bV:∀n,0<=(F n).p/\(F n).p<=3
theorem Mu (H:List Ar) (a:Ar):zT (H++[a])=H++[⟨a.page,a.aJ+1,a.bV,a.zero⟩]:=by
 unfold zT;have e:at_ (H++[a]) ((H++[a]).length-1)=a:=eV H a;rw[e];simp
structure agp (F:Nat->St) (k:Nat) (G:List Ar):Prop where
 good:good G=true
 look:∀n:Nat,AM.look G n=if n<k then F n else off
 yes:(eK F k).m=true->0<G.length/\(ja G).eG=k/\(ja G).bV=(eK F k).p/\(ja G).zero=(eK F k).z
 no:(eK F k).m=false->G.length=0∨(ja G).eG<k∨k=0
theorem EP (G:List Ar) (n:Nat) (h:AM.look G n=off):(aU G n).2=false:=by
 unfold AM.look at h;by_cases c:(aU G n).2=true
 · simp only[c,if_true] at h;have:=congrArg St.m h;simp[off] at this
 · simpa using c
theorem o8 (F:Nat->St) (hF:uo F):∀k,k<=256->agp F k (bh F k)
 | 0,_=>⟨rfl,fun n=>rfl,fun h=>by simp[eK,off] at h,fun _=>.inl rfl⟩
 | k+1,hk=>by
  have ih:=o8 F hF k (by omega);obtain⟨G,hG⟩:=ex (bh F k);rw[<- hG] at ih;simp only[bh];rw[<- hG];by_cases hm:(F k).m=false
  · rw[if_pos hm];refine⟨ih.good,fun n=>?_,fun h=>?_,fun _=>?_⟩
    · rw[ih.look n];by_cases h1:n<k
      · rw[if_pos h1,if_pos (by omega)]
      · rw[if_neg h1];by_cases h2:n<k+1
        · obtain rfl:n=k:=by omega
          rw[if_pos h2,hF.none n hm]
        · rw[if_neg h2]
    · have:(F k).m=true:=h;rw[hm] at this;cases this
    · by_cases hl:(eK F k).m=true
      · obtain⟨h0,h1,_⟩:=ih.yes hl;exact .inr (.inl (by rw[h1];omega))
      · rcases ih.no (by simpa using hl) with h | h | h
        · exact .inl h
        · exact .inr (.inl (by omega))
        · subst h;have:G=[]:=hG;exact .inl (by rw[this];rfl)
  · have hm':(F k).m=true:=by simpa using hm
    rw[if_neg hm];have hk1:1<=k:=by
     by_cases e:k=0
     · subst e;rw[hF.zero] at hm';cases hm'
     · omega
    have pD:=EP G k (by rw[ih.look k,if_neg (by omega)]);by_cases he:ra (F k) (eK F k)=true
    · rw[if_pos he];have hst:=CE _ _ he;obtain⟨h0,h1,h2,h3⟩:=ih.yes (by rw[<- hst];exact hm');rcases List.eq_nil_or_concat G with hnil | ⟨H,a,hH⟩
      · rw[hnil] at h0;simp at h0
      · rw[List.concat_eq_append] at hH;rw[hH,eV] at h1 h2 h3;have hg:=ih.good;rw[hH,iT,Bool.and_eq_true] at hg;obtain⟨WG,hok⟩:=hg;have ZB:=hok;simp only[iE,Bool.and_eq_true,dW,decide_eq_true_eq] at ZB;obtain⟨⟨ZA,Hy⟩,hfo⟩:=ZB;rw[hH,Mu];unfold Ar.eG at h1;refine⟨?_,fun n=>?_,fun _=>⟨by simp,?_,?_,?_⟩,fun h=>?_⟩
        · rw[iT,WG,Bool.true_and];simp only[iE,Bool.and_eq_true,dW,decide_eq_true_eq];exact⟨⟨⟨ZA.1,by omega,by omega⟩,Hy⟩,hfo⟩
        · have hl:=ih.look n;rw[hH] at hl;rw[oG] at hl ⊢;by_cases c:(aU H n).2=true
          · rw[if_pos c] at hl ⊢;rw[hl];have hb:=jH _ H rfl WG n c;have hle:(n:Int)<a.page+a.aJ:=by
             have hne:¬H.length=0:=by
              intro e;have e':H=[]:=List.eq_nil_of_length_eq_zero e;subst e';simp[aU] at c
             simp only[beq_iff_eq,Bool.or_eq_true,hne,false_or] at hfo;have hle:(ja H).eG<=a.page:=by
              unfold fM at hfo;split at hfo
              · omega
              · simp at hfo;omega
             omega
            rw[if_pos (show n<k by omega),if_pos (show n<k+1 by omega)]
          · rw[if_neg c] at hl ⊢;by_cases d:n=k
            · subst d;rw[if_pos (by rw[zi];exact decide_eq_true (by omega)),if_pos (by omega)];show St.mk true a.bV a.zero=F n;rw[h2,h3,<- hst,<- hm']
            · by_cases e:hit a n=true
              · rw[if_pos e] at hl;have e2:hit ⟨a.page,a.aJ+1,a.bV,a.zero⟩ n=true:=by
                 rw[nI] at e;rw[zi];exact decide_eq_true (by omega)
                rw[if_pos e2];show St.mk true a.bV a.zero=_;rw[hl];rw[nI] at e;rw[if_pos (show n<k by omega),if_pos (show n<k+1 by omega)]
              · have e2:¬hit ⟨a.page,a.aJ+1,a.bV,a.zero⟩ n=true:=by
                 rw[nI] at e;rw[zi,decide_eq_true_eq];omega
                rw[if_neg e] at hl;rw[if_neg e2,hl];by_cases f:n<k
                · rw[if_pos f,if_pos (by omega)]
                · rw[if_neg f,if_neg (by omega)]
        · rw[eV];show a.page+(a.aJ+1)=_;omega
        · rw[eV];show a.bV=(F k).p;rw[h2,hst]
        · rw[eV];show a.zero=(F k).z;rw[h3,hst]
        · have:(F k).m=false:=h;rw[hm'] at this;cases this
    · have he':ra (F k) (eK F k)=false:=by simpa using he
      rw[if_neg he];refine⟨?_,fun n=>?_,fun _=>⟨by simp,?_,?_,?_⟩,fun h=>?_⟩
      · rw[iT,ih.good,Bool.true_and];simp only[iE,Bool.and_eq_true,dW,iV,decide_eq_true_eq];refine⟨⟨⟨by omega,by omega,by omega⟩,hF.bV k⟩,?_⟩;by_cases h0:G.length=0
        · simp[h0]
        · simp only[Bool.or_eq_true,beq_iff_eq,h0,false_or];by_cases hl:(eK F k).m=true
          · obtain⟨_,h1,h2,h3⟩:=ih.yes hl;unfold fM;rw[if_pos h1.symm];rcases Jj _ _ he' with q | ⟨_,q⟩ | ⟨_,_,q⟩
            · rw[hm',hl] at q;simp at q
            · simp only[Bool.or_eq_true,bne_iff_ne,h2];left;simpa using q
            · simp only[Bool.or_eq_true,bne_iff_ne,h3];right;simpa using q
          · rcases ih.no (by simpa using hl) with h | h | h
            · exact absurd h h0
            · unfold fM;rw[if_neg (by show ¬(k:Int)=_;omega)];simpa using h
            · omega
      · rw[oG];by_cases c:(aU G n).2=true
        · rw[if_pos c,ih.look n];by_cases f:n<k
          · rw[if_pos f,if_pos (by omega)]
          · exfalso;have:=EP G n (by rw[ih.look n,if_neg f]);rw[c] at this;cases this
        · rw[if_neg c];have c':(aU G n).2=false:=by simpa using c
          by_cases d:n=k
          · subst d;rw[if_pos (by rw[zi];exact decide_eq_true (by omega)),if_pos (by omega)];show St.mk true (F n).p (F n).z=F n;rw[<- hm']
          · rw[if_neg (by rw[zi,decide_eq_true_eq];omega)];have hl:=ih.look n;have e0:AM.look G n=off:=by unfold AM.look;simp[c']
            rw[e0] at hl;by_cases f:n<k
            · rw[if_pos f] at hl;rw[if_pos (by omega),hl]
            · rw[if_neg (by omega)]
      · rw[eV];show(k:Int)+1=_;omega
      · rw[eV];rfl
      · rw[eV];rfl
      · have:(F k).m=false:=h;rw[hm'] at this;cases this
theorem wF (F:Nat->St) (hF:uo F):good (eO F)=true:=(o8 F hF 256 (Nat.le_refl _)).good
theorem wB (F:Nat->St) (hF:uo F) (n:Nat) (hn:n<256):look (eO F) n=F n:=by
 have:=(o8 F hF 256 (Nat.le_refl _)).look n;rw[if_pos hn] at this;exact this
theorem nk (l:List Ar):∀(m:Nat) (G:List Ar),G.length=m->good G=true->∀n:Nat,look G n=bG G G.length n
 | 0,G,hm,_,n=>by
  have e:G=[]:=List.eq_nil_of_length_eq_zero hm;subst e;rfl
 | m+1,G,hm,hg,n=>by
  rcases List.eq_nil_or_concat G with rfl | ⟨H,a,rfl⟩
  · simp at hm
  · rw[List.concat_eq_append] at *;rw[iT,Bool.and_eq_true] at hg;have ih:=nk l m H (by simpa using hm) hg.1 n;have hs:∀k,k<=H.length->bG (H++[a]) k=bG H k:=by
     intro k;induction k with
     | zero=>intro _;rfl
     | succ k ihk=>intro hk;simp only[bG];rw[ihk (by omega),iK H [a] k (by omega)]
    rw[List.length_append];show _=bG (H++[a]) (H.length+1) n;simp only[bG];rw[hs H.length (Nat.le_refl _),mY,oG];simp only[gM];by_cases c:(aU H n).2=true
    · rw[if_pos c,ih];have hb:=jH _ H rfl hg.1 n c;have hok:=hg.2;simp only[iE,Bool.and_eq_true] at hok;have hfo:=hok.2;have hne:¬H.length=0:=by
       intro e;have e':H=[]:=List.eq_nil_of_length_eq_zero e;subst e';simp[aU] at c
      simp only[beq_iff_eq,Bool.or_eq_true,hne,false_or] at hfo;have hle:(ja H).eG<=a.page:=by
       unfold fM at hfo;split at hfo
       · omega
       · simp at hfo;omega
      rw[if_neg (by omega)]
    · rw[if_neg c];have e0:look H n=off:=by unfold look;simp[show(aU H n).2=false by simpa using c]
      by_cases d:hit a n=true
      · rw[if_pos d,if_pos (by simpa [hit] using d)]
      · rw[if_neg d,if_neg (by simpa [hit] using d),<- ih,e0]
theorem rK (l:List Ar) (h:aW l=0):good l=true:=by
 unfold aW at h;split at h
 · simp at h
 · split at h
   · assumption
   · simp at h
theorem rA (l:List Ar) (hc:aW l=0):∀k,k<=l.length->(bG l k 0).m=false/\(∀n,(bG l k n).m=false->bG l k n=off)/\(∀n,0<=(bG l k n).p/\(bG l k n).p<=3)
 | 0,_=>⟨rfl,fun n _=>rfl,fun n=>by simp[bG,off]⟩
 | k+1,hk=>by
  have ih:=rA l hc k (by omega);have ho:=dg l k (cW l hc k (by omega));refine⟨?_,fun n=>?_,fun n=>?_⟩
  · simp only[bG,gM];rw[if_neg (by omega)];exact ih.1
  · simp only[bG,gM];split
    · intro h;simp at h
    · exact ih.2.1 n
  · simp only[bG,gM];split
    · exact⟨ho.2.2.2.1,ho.2.2.2.2⟩
    · exact ih.2.2 n
theorem wJ (l:List Ar) (hc:aW l=0):uo (cR l):=by
 have h:=rA l hc l.length (Nat.le_refl _);exact⟨h.1,h.2.1,h.2.2⟩
theorem Fp (F:Nat->St) (hF:uo F) (how:St->St×Int) (page t:Int) (hp:1<=page)
  (hn:∀s,(s.m=false->s=off)->((how s).1.m=false->(how s).1=off)) (hq:∀s,0<=s.p/\s.p<=3->0<=(how s).1.p/\(how s).1.p<=3):uo (turned F how page t):=by
 refine⟨?_,fun n=>?_,fun n=>?_⟩
 · simp only[turned];rw[if_neg (by omega)];exact hF.zero
 · simp only[turned];split
   · exact hn (F n) (hF.none n)
   · exact hF.none n
 · simp only[turned];split
   · exact hq (F n) (hF.bV n)
   · exact hF.bV n
theorem wD (F:Nat->St) (h0:(F 0).m=false):∀k,(bh F (k+1)).length<=k
 | 0=>by simp[bh,h0]
 | k+1=>by
  have ih:=wD F h0 k;rw[bh];split
  · omega
  · split
    · rw[jO];omega
    · simp;omega
theorem pd (F:Nat->St) (hF:uo F):aW (eO F)=0:=by
 have hl:(eO F).length<=255:=wD F hF.zero 255;have hg:=wF F hF;unfold aW;rw[if_neg (by omega),if_pos hg]
theorem ud (l:List Ar) (hc:aW l=0) (F:Nat->St) (p:Nat) (h:look l p=F p):(aR l p).2=(F p).m/\(aR l p).1.bV=(F p).p/\(aR l p).1.zero=(F p).z:=by
 have e:aR l p=aU l p:=by simp[aR,hc]
 rw[e,<- h];unfold look;by_cases c:(aU l p).2=true
 · simp[c]
 · have c':(aU l p).2=false:=by simpa using c
   rw[rO l p c'];simp[nil,off]
theorem Fs (F:Nat->St) (hF:uo F) (p:Nat) (hp:p<256):(aR (eO F) p).2=(F p).m/\(aR (eO F) p).1.bV=(F p).p/\(aR (eO F) p).1.zero=(F p).z :=
 ud _ (pd F hF) F p (wB F hF p hp)
theorem wK (l:List Ar) (hc:aW l=0) (p:Nat):(aR l p).2=(cR l p).m/\(aR l p).1.bV=(cR l p).p/\(aR l p).1.zero=(cR l p).z :=
 ud l hc (cR l) p (nk l _ l rfl (rK l hc) p)
theorem gU (l:List Ar) (hc:aW l=0):(∀i,i<l.length->Fits (at_ l i))/\l.length<=140737488351232:=by
 refine⟨fun i hi=>?_,by have:=gP l hc;omega⟩;have ho:=dg l i (cW l hc i hi);unfold Fits;omega
theorem Fw (F:Nat->St) (how:St->St×Int):∀(c n:Nat),iq F how n c=0->∀k,n<=k->k<n+c->(how (F k)).2=0
 | 0,n,_,k,h1,h2=>by omega
 | c+1,n,h,k,h1,h2=>by
  simp only[iq] at h;split at h
  · rename_i h0
    by_cases e:k=n
    · rw[e];exact h0
    · exact Fw F how c (n+1) h k (by omega) (by omega)
  · rename_i h0;exact absurd h h0
end AM
namespace LM
open Go.RowKit
def gI (a:AM.Ar) (n:Nat):List Int:=(List.range n).map (fun m:Nat=>a.page+(m:Int))
def dB (l:List AM.Ar):Nat->List Int
 | 0=>[]
 | i+1=>dB l i++gI (AM.at_ l i) (AM.at_ l i).aJ.toNat
def dV (l:List AM.Ar):List Int:=dB l l.length
def eH (l:List AM.Ar) (hs:List Sh):Bool:=decide (hs.map (·.page)=dV l)
def kz (l:List AM.Ar):Nat->Bool
 | 0=>false
 | k+1=>kz l k || (AM.at_ l k).zero
def fw (l:List AM.Ar):Bool:=kz l l.length
def gz (hs:List Sh):Nat->Bool
 | 0=>true
 | k+1=>gz hs k&&bQ (aY hs k)
def jx (hs:List Sh):Bool:=gz hs hs.length
def lU (l:List AM.Ar) (en:Int):Bool:=(AM.aU l (en.tdiv 16)).2&&(decide (2<=(AM.aU l (en.tdiv 16)).1.bV)&&decide (en.tmod 8=0))
def mU (l:List AM.Ar) (hs:List Sh) (en:Int):Int:=if AM.aW l=0 then (if !fw l&&(eH l hs&&(jx hs&&lU l en)) then 0 else 1) else AM.aW l
theorem nt (a:AM.Ar) (n:Nat):gI a (n+1)=gI a n++[a.page+(n:Int)]:=by
 unfold gI;rw[List.range_succ,List.map_append];rfl
theorem CT (a:AM.Ar) (n m:Nat) (h:n<m):∃t,gI a m=gI a n++(a.page+(n:Int))::t:=by
 induction m with
 | zero=>omega
 | succ m ih =>
  by_cases e:n=m
  · subst e;exact⟨[],nt a n⟩
  · obtain⟨t,ht⟩:=ih (by omega);exact⟨t++[a.page+(m:Int)],by rw[nt,ht];simp⟩
theorem tH (l:List AM.Ar) (i:Nat):∀n,i<=n->∃t,dB l n=dB l i++t
 | 0, h => by obtain rfl:i=0 := by omega
              exact⟨[],by simp⟩
 | n+1,h=>by
  by_cases e:i=n+1
  · subst e;exact⟨[],by simp⟩
  · obtain⟨t,ht⟩:=tH l i n (by omega);exact⟨t++gI (AM.at_ l n) (AM.at_ l n).aJ.toNat,by simp only[dB];rw[ht,List.append_assoc]⟩
theorem EH (l:List AM.Ar) (i:Nat) (hi:i<l.length) (n:Nat) (hn:n<(AM.at_ l i).aJ.toNat):∃t,dV l=(dB l i++gI (AM.at_ l i) n)++((AM.at_ l i).page+(n:Int))::t:=by
 obtain⟨t,ht⟩:=tH l (i+1) l.length (by omega);obtain⟨u,hu⟩:=CT (AM.at_ l i) n _ hn;refine⟨u++t,?_⟩;unfold dV;rw[ht];simp only[dB];rw[hu];simp
theorem vD (l:List AM.Ar):∀(k n:Nat),k<=n->kz l k=true->kz l n=true
 | k, 0, h, hk => by obtain rfl:k=0 := by omega
                     exact hk
 | k,n+1,h,hk=>by
  by_cases e:k=n+1
  · subst e;exact hk
  · simp[kz,vD l k n (by omega) hk]
theorem Sr (l:List AM.Ar) (k:Nat) (hk:k<l.length) (h:(AM.at_ l k).zero=true):fw l=true:=vD l (k+1) l.length (by omega) (by simp[kz,h])
theorem A9 (l:List AM.Ar):∀n,kz l n=false->∀i,i<n->(AM.at_ l i).zero=false
 | 0,_,i,hi=>by omega
 | n+1,h,i,hi=>by
  simp only[kz,Bool.or_eq_false_iff] at h;by_cases e:i=n
  · subst e;exact h.2
  · exact A9 l n h.1 i (by omega)
theorem pX (l:List Sh):∀(k n:Nat),k<=n->gz l k=false->gz l n=false
 | k, 0, h, hk => by obtain rfl:k=0 := by omega
                     exact hk
 | k,n+1,h,hk=>by
  by_cases e:k=n+1
  · subst e;exact hk
  · simp[gz,pX l k n (by omega) hk]
theorem GL (l:List Sh) (k:Nat) (hk:k<l.length) (h:bQ (aY l k)=false):jx l=false:=pX l (k+1) l.length (by omega) (by simp[gz,h])
theorem vI (l:List Sh):∀n,gz l n=true->∀i,i<n->bQ (aY l i)=true
 | 0,_,i,hi=>by omega
 | n+1,h,i,hi=>by
  simp only[gz,Bool.and_eq_true] at h;by_cases e:i=n
  · subst e;exact h.2
  · exact vI l n h.1 i (by omega)
theorem rE (hs:List Sh) (c:Nat) (h:c<hs.length):(hs.take (c+1)).map (·.page)=(hs.take c).map (·.page)++[(aY hs c).page]:=by
 rw[List.take_succ_eq_append_getElem h,List.map_append];unfold aY;rw[List.getD_eq_getElem?_getD,List.getElem?_eq_getElem h];rfl
theorem Iz {l:List AM.Ar} {hs:List Sh} {pre t:List Int} {x:Int} (hp:(hs.take hs.length).map (·.page)=pre) (ho:dV l=pre++x::t):eH l hs=false:=by
 unfold eH;refine decide_eq_false (fun e=>?_);rw[List.take_length] at hp;rw[hp,ho] at e;have:=congrArg List.length e;simp at this
theorem IC {l:List AM.Ar} {hs:List Sh} {pre t:List Int} {x:Int} {c:Nat} (hc:c<hs.length) (hp:(hs.take c).map (·.page)=pre) (ho:dV l=pre++x::t) (hx:(aY hs c).page≠x):eH l hs=false:=by
 unfold eH;refine decide_eq_false (fun e=>?_);have h1:=rE hs c hc;rw[hp] at h1;have h2:hs.map (·.page)=(hs.take (c+1)).map (·.page)++(hs.drop (c+1)).map (·.page):=by rw[<- List.map_append,List.take_append_drop]
 rw[h2,h1,ho,List.append_assoc] at e;have:=List.append_cancel_left e;simp at this;exact hx this.1
theorem Mj {l:List AM.Ar} {hs:List Sh} {c:Nat} (hc:c<=hs.length) (hp:(hs.take c).map (·.page)=dB l l.length):eH l hs=decide (c=hs.length):=by
 unfold eH;by_cases e:c=hs.length
 · subst e;rw[List.take_length] at hp;have hp':hs.map (·.page)=dV l:=hp;rw[decide_eq_true hp',decide_eq_true rfl]
 · rw[decide_eq_false e];refine decide_eq_false (fun g=>?_);have h1:=congrArg List.length hp;have h2:=congrArg List.length g;rw[List.length_map,List.length_take] at h1;rw[List.length_map] at h2;unfold dV at h2;omega
def QA (w:World) (b off:Nat) (l:List Sh):Prop:=∀i,i<l.length ->
 w.cell? (Ad b (off+i*3))=some (I (aY l i).page)/\w.cell? (Ad b (off+i*3+1))=some (.string (aY l i).data)/\w.cell? (Ad b (off+i*3+2))=some (.slice (aY l i).ao (aY l i).bg.length (aY l i).cap)/\oc w (aY l i).ao (aY l i).bg
theorem Td {w w':World} {b off:Nat} {l:List Sh} (hb:Below w.heap.size w w') (hlt:b<w.heap.size) (h:QA w b off l):QA w' b off l:=fun i hi=>by
 obtain⟨c0,c1,c2,c3⟩:=h i hi;exact⟨(M.br hb hlt).trans c0,(M.br hb hlt).trans c1,(M.br hb hlt).trans c2,c3.below hb⟩
def jb (w:World) (ao:Option Addr) (l:List Sh):Prop:=M.fy QA w ao l
theorem jb.below {w w':World} {ao:Option Addr} {l:List Sh} (h:jb w ao l) (hb:Below w.heap.size w w'):jb w' ao l:=M.fy.below (lie:=QA) (fun hb hlt h=>Td hb hlt h) h hb
def pH (l:List Sh):Prop:=M.bD l.length/\∀k,k<l.length->DF (aY l k)
theorem GY {p:Int} (h:0<=p/\p<=3):p=0∨p=1∨p=2∨p=3:=by omega
theorem Ij (l:List AM.Ar) (hc:AM.aW l=0) (p:Int) (h:(AM.aU l p).2=true):0<=(AM.aU l p).1.bV/\(AM.aU l p).1.bV<=3:=by
 by_cases e:∃k,k<l.length/\AM.hit (AM.at_ l k) p=true
 · obtain⟨k,hk,hh⟩:=e;have:∃k,k<l.length/\AM.hit (AM.at_ l k) p=true/\∀i,i<k->AM.hit (AM.at_ l i) p=false:=by
    induction k using Nat.strongRecOn with
    | _ k ih =>
     by_cases g:∃j,j<k/\AM.hit (AM.at_ l j) p=true
     · obtain⟨j,hj,H5⟩:=g;exact ih j hj (by omega) H5
     · exact⟨k,hk,hh,fun i hi=>by
        cases q:AM.hit (AM.at_ l i) p
        · rfl
        · exact(g ⟨i,hi,q⟩).elim⟩
   obtain⟨k,hk,h1,h2⟩:=this;rw[AM.jL l p k hk h2 h1];have:=AM.dg l k (AM.cW l hc k hk);exact⟨this.2.2.2.1,this.2.2.2.2⟩
 · rw[AM.jo l p (fun i hi=>by
    cases q:AM.hit (AM.at_ l i) p
    · rfl
    · exact(e ⟨i,hi,q⟩).elim)] at h
   cases h
def gA (hs:List Sh) (k:Nat):Bool:=k==0 || decide ((aY hs (k-1)).page<(aY hs k).page)
def cN (hs:List Sh):Nat->Bool
 | 0=>true
 | k+1=>cN hs k&&(bQ (aY hs k)&&gA hs k)
def dC (hs:List Sh):Bool:=cN hs hs.length
theorem jV (l:List Sh):∀(k n:Nat),k<=n->cN l k=false->cN l n=false
 | k, 0, h, hk => by obtain rfl:k=0 := by omega
                     exact hk
 | k,n+1,h,hk=>by
  by_cases e:k=n+1
  · subst e;exact hk
  · simp[cN,jV l k n (by omega) hk]
theorem Ez (l:List Sh) (k:Nat) (hk:k<l.length) (h:(bQ (aY l k)&&gA l k)=false):dC l=false:=jV l (k+1) l.length (by omega) (by simp only[cN];rw[h,Bool.and_false])
theorem kH (l:List Sh):∀n,cN l n=true->∀i,i<n->bQ (aY l i)=true/\gA l i=true
 | 0,_,i,hi=>by omega
 | n+1,h,i,hi=>by
  simp only[cN,Bool.and_eq_true] at h;by_cases e:i=n
  · subst e;exact h.2
  · exact kH l n h.1 i (by omega)
theorem Bj (l:List Sh):∀n,(∀i,i<n->bQ (aY l i)=true/\gA l i=true)->cN l n=true
 | 0,_=>rfl
 | n+1,h=>by
  simp only[cN,Bool.and_eq_true];exact⟨Bj l n (fun i hi=>h i (by omega)),h n (by omega)⟩
def LS (l:List AM.Ar) (hs:List Sh) (k:Nat):Bool:=(AM.aU l (aY hs k).page).2&&!(AM.aU l (aY hs k).page).1.zero
def xu (l:List AM.Ar) (hs:List Sh):Nat->Bool
 | 0=>true
 | k+1=>xu l hs k&&LS l hs k
theorem C8 (l:List AM.Ar) (hs:List Sh):∀n,xu l hs n=true->∀i,i<n->LS l hs i=true
 | 0,_,i,hi=>by omega
 | n+1,h,i,hi=>by
  simp only[xu,Bool.and_eq_true] at h;by_cases e:i=n
  · subst e;exact h.2
  · exact C8 l hs n h.1 i (by omega)
theorem JJ (l:List AM.Ar) (hs:List Sh):∀n,(∀i,i<n->LS l hs i=true)->xu l hs n=true
 | 0,_=>rfl
 | n+1,h=>by
  simp only[xu,Bool.and_eq_true];exact⟨JJ l hs n (fun i hi=>h i (by omega)),h n (by omega)⟩
def ki (l:List AM.Ar) (hs:List Sh) (en:Int):Int:=if AM.aW l=0 then (if decide ((hs.length:Int)=AM.sumTo l l.length)&&(dC hs&&(xu l hs hs.length&&lU l en)) then 0 else 1) else AM.aW l
/-! the pages of areas that are right rise -/
def iL (L:List Int):Prop:=L.Pairwise (·<·)
theorem oX (a:AM.Ar) (n:Nat) (x:Int):x∈gI a n↔a.page<=x/\x<a.page+(n:Int):=by
 unfold gI;rw[List.mem_map];constructor
 · rintro⟨m,hm,rfl⟩;have:=List.mem_range.1 hm;omega
 · rintro⟨h1,h2⟩;exact⟨(x-a.page).toNat,List.mem_range.2 (by omega),by omega⟩
theorem rC (a:AM.Ar):∀n,iL (gI a n)
 | 0=>by simp[gI,iL]
 | n+1=>by
  rw[nt];unfold iL;rw[List.pairwise_append];refine⟨rC a n,by simp,fun x hx y hy=>?_⟩;have:=(oX a n x).1 hx;simp at hy;omega
theorem AA (a:AM.Ar) (n:Nat):(gI a n).length=n:=by simp[gI]
theorem Js (l:List AM.Ar) (hc:AM.aW l=0) (i:Nat) (hi:i+1<l.length):(AM.at_ l i).page+(AM.at_ l i).aJ<=(AM.at_ l (i+1)).page:=by
 have h:=AM.cW l hc (i+1) hi;simp only[AM.nY,Bool.and_eq_true,Nat.add_sub_cancel] at h;have h2:=h.2;have e:(i+1==0)=false:=by simp
 rw[e,Bool.false_or] at h2;unfold AM.fM AM.Ar.eG at h2;split at h2
 · omega
 · simp at h2;omega
theorem sk (l:List AM.Ar) (hc:AM.aW l=0):∀i,i<=l.length->∀x∈dB l i,∀j,j<l.length->i<=j->x<(AM.at_ l j).page
 | 0,_,x,hx,j,_,_=>by simp[dB] at hx
 | i+1,hi,x,hx,j,hj,hij=>by
  simp only[dB,List.mem_append] at hx;rcases hx with hx | hx
  · exact sk l hc i (by omega) x hx j hj (by omega)
  · have hk:=AM.dg l i (AM.cW l hc i (by omega));have h1:=(oX _ _ _).1 hx;have step:∀d,i+1+d<l.length->(AM.at_ l i).page+(AM.at_ l i).aJ<=(AM.at_ l (i+1+d)).page:=by
     intro d;induction d with
     | zero=>intro h;exact Js l hc i h
     | succ d ih =>
      intro h;have h2:=ih (by omega);have h3:=Js l hc (i+1+d) h;have h4:=AM.dg l (i+1+d) (AM.cW l hc (i+1+d) (by omega));have e:i+1+(d+1)=i+1+d+1:=by omega
      rw[e];omega
    have:=step (j-(i+1)) (by omega);have e:i+1+(j-(i+1))=j:=by omega
    rw[e] at this;omega
theorem mG (l:List AM.Ar) (hc:AM.aW l=0):∀i,i<=l.length->iL (dB l i)
 | 0,_=>by simp[dB,iL]
 | i+1,hi=>by
  simp only[dB];unfold iL;rw[List.pairwise_append];refine⟨mG l hc i (by omega),rC _ _,fun x hx y hy=>?_⟩;have h1:=sk l hc i (by omega) x hx i (by omega) (Nat.le_refl _);have h2:=(oX _ _ _).1 hy;omega
theorem mH (l:List AM.Ar) (hc:AM.aW l=0):∀i,i<=l.length->((dB l i).length:Int)=AM.sumTo l i
 | 0,_=>rfl
 | i+1,hi=>by
  have ih:=mH l hc i (by omega);have hk:=AM.dg l i (AM.cW l hc i (by omega));simp only[dB,AM.sumTo,List.length_append,AA];omega
theorem lM (l:List AM.Ar) (x:Int):∀i,x∈dB l i↔∃k,k<i/\AM.hit (AM.at_ l k) x=true
 | 0=>by simp[dB]
 | i+1=>by
  simp only[dB,List.mem_append];rw[lM l x i,oX];constructor
  · rintro(⟨k,hk,h⟩ | h)
    · exact⟨k,by omega,h⟩
    · exact⟨i,by omega,by unfold AM.hit AM.Ar.eG;exact decide_eq_true ⟨h.1,by omega⟩⟩
  · rintro⟨k,hk,h⟩;by_cases e:k=i
    · subst e;right;unfold AM.hit AM.Ar.eG at h;have:=of_decide_eq_true h;omega
    · exact .inl ⟨k,by omega,h⟩
theorem nr {x:Int} {L:List Int} (h:iL (x::L)):iL L/\∀z∈L,x<z:=⟨(List.pairwise_cons.1 h).2,(List.pairwise_cons.1 h).1⟩
theorem r9:∀(K L:List Int),iL L->iL K->(∀z∈L,z∈K)->L.length<=K.length
 | [],L,_,_,hm=>by
  cases L with
  | nil=>exact Nat.le_refl _
  | cons x L=>exact absurd (hm x List.mem_cons_self) (by simp)
 | y::K,L,hL,hK,hm=>by
  cases L with
  | nil=>exact Nat.zero_le _
  | cons x L =>
   obtain⟨hL1,hL2⟩:=nr hL;obtain⟨Gl,hK2⟩:=nr hK;by_cases e:x=y
   · subst e;have:=r9 K L hL1 Gl (fun z hz=>by
      have h1:=hL2 z hz;rcases List.mem_cons.1 (hm z (List.mem_cons_of_mem _ hz)) with g | g
      · omega
      · exact g)
     simp only[List.length_cons];omega
   · have hx:x∈K:=by
      rcases List.mem_cons.1 (hm x List.mem_cons_self) with g | g
      · exact(e g).elim
      · exact g
     have hyx:=hK2 x hx;have:=r9 K (x::L) hL Gl (fun z hz=>by
      rcases List.mem_cons.1 hz with g | g
      · subst g;exact hx
      · have h1:=hL2 z g;rcases List.mem_cons.1 (hm z hz) with q | q
        · omega
        · exact q)
     simp only[List.length_cons] at this ⊢;omega
theorem Bh:∀(L K:List Int),iL L->iL K->(∀z∈L,z∈K)->K.length<=L.length->L=K
 | [],K,_,_,_,hl=>by
  cases K with
  | nil=>rfl
  | cons y K=>simp at hl
 | x::L,K,hL,hK,hm,hl=>by
  cases K with
  | nil=>exact absurd (hm x List.mem_cons_self) (by simp)
  | cons y K =>
   obtain⟨hL1,hL2⟩:=nr hL;obtain⟨Gl,hK2⟩:=nr hK;have e:x=y:=by
    rcases List.mem_cons.1 (hm x List.mem_cons_self) with g | g
    · exact g
    · have hyx:=hK2 x g;have:=r9 K (x::L) hL Gl (fun z hz=>by
       rcases List.mem_cons.1 hz with q | q
       · subst q;exact g
       · have h1:=hL2 z q;rcases List.mem_cons.1 (hm z hz) with r | r
         · omega
         · exact r)
      simp only[List.length_cons] at this hl;omega
   subst e;rw[Bh L K hL1 Gl (fun z hz=>by
    have h1:=hL2 z hz;rcases List.mem_cons.1 (hm z (List.mem_cons_of_mem _ hz)) with g | g
    · omega
    · exact g) (by simp only[List.length_cons] at hl;omega)]
theorem vN (hs:List Sh) (h:dC hs=true):iL (hs.map (·.page)):=by
 have step:∀i j,i<j->j<hs.length->(aY hs i).page<(aY hs j).page:=by
  intro i j hij hj;induction j with
  | zero=>omega
  | succ j ih =>
   have h1:=(kH hs hs.length h (j+1) hj).2;unfold gA at h1;have e:(j+1==0)=false:=by simp
   rw[e,Bool.false_or] at h1;have h2:=of_decide_eq_true h1;rw[Nat.add_sub_cancel] at h2;by_cases e2:i=j
   · subst e2;exact h2
   · have:=ih (by omega) (by omega);omega
 unfold iL;rw[List.pairwise_iff_getElem];intro i j hi hj hij;rw[List.length_map] at hi hj;have:=step i j hij hj;unfold aY at this;rw[List.getD_eq_getElem?_getD,List.getD_eq_getElem?_getD,List.getElem?_eq_getElem hi,List.getElem?_eq_getElem hj] at this;simpa using this
theorem Ey (hs:List Sh) (h:iL (hs.map (·.page))) (k:Nat) (hk:k<hs.length):gA hs k=true:=by
 unfold gA;by_cases e:k=0
 · subst e;rfl
 · have e2:(k==0)=false:=by simpa using e
   rw[e2,Bool.false_or];unfold iL at h;rw[List.pairwise_iff_getElem] at h;have:=h (k-1) k (by rw[List.length_map];omega) (by rw[List.length_map];exact hk) (by omega);refine decide_eq_true ?_;unfold aY;rw[List.getD_eq_getElem?_getD,List.getD_eq_getElem?_getD,List.getElem?_eq_getElem (by omega:k-1<hs.length),List.getElem?_eq_getElem hk];simpa using this
theorem zw (l:List AM.Ar) (p:Int) (k:Nat) (hk:k<l.length) (h:AM.hit (AM.at_ l k) p=true):∃j,j<l.length/\AM.aU l p=(AM.at_ l j,true):=by
 induction k using Nat.strongRecOn with
 | _ k ih =>
  by_cases g:∃j,j<k/\AM.hit (AM.at_ l j) p=true
  · obtain⟨j,hj,H5⟩:=g;exact ih j hj (by omega) H5
  · exact⟨k,hk,AM.jL l p k hk (fun i hi=>by
     cases q:AM.hit (AM.at_ l i) p
     · rfl
     · exact(g ⟨i,hi,q⟩).elim) h⟩
theorem Ca (l:List AM.Ar) (p:Int) (h:(AM.aU l p).2=true):∃k,k<l.length/\AM.hit (AM.at_ l k) p=true:=by
 by_cases e:∃k,k<l.length/\AM.hit (AM.at_ l k) p=true
 · exact e
 · rw[AM.jo l p (fun i hi=>by
    cases q:AM.hit (AM.at_ l i) p
    · rfl
    · exact(e ⟨i,hi,q⟩).elim)] at h
   cases h
theorem at_mem (hs:List Sh) (k:Nat) (h:k<hs.length):(aY hs k).page∈hs.map (·.page):=by
 unfold aY;rw[List.getD_eq_getElem?_getD,List.getElem?_eq_getElem h];exact List.mem_map_of_mem (List.getElem_mem h)
theorem Oo (hs:List Sh) (x:Int) (h:x∈hs.map (·.page)):∃k,k<hs.length/\(aY hs k).page=x:=by
 obtain⟨s,hs1,rfl⟩:=List.mem_map.1 h;obtain⟨k,hk,e⟩:=List.getElem_of_mem hs1;refine⟨k,hk,?_⟩;unfold aY;rw[List.getD_eq_getElem?_getD,List.getElem?_eq_getElem hk,<- e];rfl
theorem xM (l:List AM.Ar) (hc:AM.aW l=0) (p:Int) (j k:Nat) (hj:j<l.length) (hk:k<l.length) (h1:AM.hit (AM.at_ l j) p=true) (h2:AM.hit (AM.at_ l k) p=true):j=k:=by
 have key:∀j k,j<k->k<l.length->AM.hit (AM.at_ l j) p=true->AM.hit (AM.at_ l k) p=true->False:=by
  intro j k hjk hk h1 h2;have hm:p∈dB l k:=(lM l p k).2 ⟨j,hjk,h1⟩;have:=sk l hc k (by omega) p hm k hk (Nat.le_refl _);unfold AM.hit at h2;have:=of_decide_eq_true h2;omega
 rcases Nat.lt_trichotomy j k with g | g | g
 · exact(key j k g hk h1 h2).elim
 · exact g
 · exact(key k j g hj h2 h1).elim
theorem Lq (l:List AM.Ar) (hs:List Sh) (hc:AM.aW l=0) :
  (!fw l&&(eH l hs&&jx hs))=(decide ((hs.length:Int)=AM.sumTo l l.length)&&(dC hs&&xu l hs hs.length)):=by
 rw[Bool.eq_iff_iff];simp only[Bool.and_eq_true,Bool.not_eq_true',decide_eq_true_eq];constructor
 · rintro⟨hz,he,hsh⟩;have he':hs.map (·.page)=dV l:=of_decide_eq_true he;have hlen:=congrArg List.length he';rw[List.length_map] at hlen;have hr:iL (hs.map (·.page)):=by rw[he'];exact mG l hc l.length (Nat.le_refl _)
   refine⟨by rw[hlen];exact mH l hc l.length (Nat.le_refl _),?_,?_⟩
   · exact Bj hs hs.length (fun i hi=>⟨vI hs hs.length hsh i hi,Ey hs hr i hi⟩)
   · refine JJ l hs hs.length (fun i hi=>?_);have hm:(aY hs i).page∈dB l l.length:=by
      have:=at_mem hs i hi;rw[he'] at this;exact this
     obtain⟨k,hk,hh⟩:=(lM l _ _).1 hm;obtain⟨j,hj,e⟩:=zw l _ k hk hh;unfold LS;rw[e];simp[A9 l l.length hz j hj]
 · rintro⟨hlen,hr,hin⟩;have hsub:∀z∈hs.map (·.page),z∈dV l:=fun z hz=>by
    obtain⟨k,hk,rfl⟩:=Oo hs z hz;have:=C8 l hs hs.length hin k hk;unfold LS at this;simp only[Bool.and_eq_true] at this;obtain⟨j,hj,hh⟩:=Ca l _ this.1;exact(lM l _ _).2 ⟨j,hj,hh⟩
   have he':hs.map (·.page)=dV l:=Bh _ _ (vN hs hr) (mG l hc l.length (Nat.le_refl _)) hsub (by
    have:=mH l hc l.length (Nat.le_refl _);unfold dV;rw[List.length_map];omega)
   refine⟨?_,decide_eq_true he',?_⟩
   · cases hz:fw l
     · rfl
     · exfalso;have:∃i,i<l.length/\(AM.at_ l i).zero=true:=by
        by_cases g:∃i,i<l.length/\(AM.at_ l i).zero=true
        · exact g
        · have key:∀n,n<=l.length->kz l n=false:=by
           intro n;induction n with
           | zero=>intro _;rfl
           | succ n ih =>
            intro hn;simp only[kz];rw[ih (by omega),Bool.false_or];cases q:(AM.at_ l n).zero
            · rfl
            · exact(g ⟨n,by omega,q⟩).elim
          unfold fw at hz;rw[key l.length (Nat.le_refl _)] at hz;cases hz
       obtain⟨i,hi,hzi⟩:=this;have hk:=AM.dg l i (AM.cW l hc i hi);have hh:AM.hit (AM.at_ l i) (AM.at_ l i).page=true:=by
        unfold AM.hit AM.Ar.eG;exact decide_eq_true ⟨Int.le_refl _,by omega⟩
       have hm:(AM.at_ l i).page∈hs.map (·.page):=by
        rw[he'];exact(lM l _ _).2 ⟨i,hi,hh⟩
       obtain⟨k,hk1,hk2⟩:=Oo hs _ hm;have Pn:=C8 l hs hs.length hin k hk1;unfold LS at Pn;rw[hk2] at Pn;obtain⟨j,hj,e⟩:=zw l _ i hi hh;have H5:AM.hit (AM.at_ l j) (AM.at_ l i).page=true:=by
        obtain⟨m,jP,hm2⟩:=Ca l (AM.at_ l i).page (by rw[e]);have Yv:=xM l hc _ m i jP hi hm2 hh;have:AM.aU l (AM.at_ l i).page=(AM.at_ l i,true):=by
         refine AM.jL l _ i hi (fun q hq=>?_) hh;cases r:AM.hit (AM.at_ l q) (AM.at_ l i).page
         · rfl
         · have:=xM l hc _ q i (by omega) hi r hh;omega
        rw[this] at e;injection e with e1 _;rw[<- e1];exact hh
       have:=xM l hc _ j i hj hi H5 hh;subst this;rw[e,hzi] at Pn;simp at Pn
   · have key:∀n,n<=hs.length->gz hs n=true:=by
      intro n;induction n with
      | zero=>intro _;rfl
      | succ n ih =>
       intro hn;simp only[gz,Bool.and_eq_true];exact⟨ih (by omega),(kH hs hs.length hr n (by omega)).1⟩
     exact key hs.length (Nat.le_refl _)
theorem kQ (l:List AM.Ar) (hs:List Sh) (en:Int):mU l hs en=ki l hs en:=by
 unfold mU ki;by_cases hc:AM.aW l=0
 · rw[if_pos hc,if_pos hc];have h:=Lq l hs hc;have e:(!fw l&&(eH l hs&&(jx hs&&lU l en)))=(decide ((hs.length:Int)=AM.sumTo l l.length)&&(dC hs&&(xu l hs hs.length&&lU l en))):=by
    have a:(!fw l&&(eH l hs&&(jx hs&&lU l en)))=((!fw l&&(eH l hs&&jx hs))&&lU l en):=by
     cases fw l <;> cases eH l hs <;> cases jx hs <;> rfl
    have b:(decide ((hs.length:Int)=AM.sumTo l l.length)&&(dC hs&&(xu l hs hs.length&&lU l en)))=((decide ((hs.length:Int)=AM.sumTo l l.length)&&(dC hs&&xu l hs hs.length))&&lU l en):=by
     cases decide ((hs.length:Int)=AM.sumTo l l.length) <;> cases dC hs <;> cases xu l hs hs.length <;> rfl
    rw[a,b,h]
   rw[e]
 · rw[if_neg hc,if_neg hc]
end LM
namespace FM
open Go.RowKit
theorem uF:∀(qs ps:List Int),ps.Pairwise (·<·)->qs.Pairwise (·<·)->(∀x∈ps,x∈qs)->ps.length<=qs.length
 | [],[],_,_,_=>Nat.le_refl _
 | [],p::ps,_,_,h=>by cases h p List.mem_cons_self
 | q::qs,[],_,_,_=>by simp
 | q::qs,p::ps,h1,h2,h=>by
  rw[List.pairwise_cons] at h1 h2;by_cases e:p=q
  · subst e;have:=uF qs ps h1.2 h2.2 (fun x hx=>by
     rcases List.mem_cons.1 (h x (List.mem_cons_of_mem _ hx)) with g | g
     · have:=h1.1 x hx;omega
     · exact g)
    simp only[List.length_cons];omega
  · have hp:p∈qs:=by
     rcases List.mem_cons.1 (h p List.mem_cons_self) with g | g
     · exact(e g).elim
     · exact g
    have hq:=h2.1 p hp;have:=uF qs (p::ps) (List.pairwise_cons.2 h1) h2.2 (fun x hx=>by
     rcases List.mem_cons.1 (h x hx) with g | g
     · rcases List.mem_cons.1 hx with k | k
       · omega
       · have:=h1.1 x k;omega
     · exact g)
    simp only[List.length_cons] at this ⊢;omega
def run (p:Int):Nat->List Int
 | 0=>[]
 | n+1=>p::run (p+1) n
theorem GU (p:Int):∀n,(run p n).length=n:=fun n=>by
 induction n generalizing p with
 | zero=>rfl
 | succ n ih=>show(run (p+1) n).length+1=_;rw[ih]
theorem tD:∀(n:Nat) (p x:Int),x∈run p n↔p<=x/\x<p+n
 | 0,p,x=>by constructor <;> intro h;cases h;omega
 | n+1,p,x=>by
  show x∈p::run (p+1) n↔_;rw[List.mem_cons,tD n (p+1) x];omega
theorem yl:∀(n:Nat) (p:Int),(run p n).Pairwise (·<·)
 | 0,p=>List.Pairwise.nil
 | n+1,p=>List.pairwise_cons.2 ⟨fun x hx=>by have:=(tD n (p+1) x).1 hx;omega,yl n (p+1)⟩
def dV:List AM.Ar->List Int
 | []=>[]
 | a::r=>run a.page a.aJ.toNat++dV r
theorem Bx:∀(l:List AM.Ar) (x:Int),x∈dV l↔(AM.aU l x).2=true
 | [],x=>by constructor <;> intro h <;> cases h
 | a::r,x=>by
  show x∈run a.page a.aJ.toNat++dV r↔_;rw[List.mem_append,tD,Bx r x];show _↔(if AM.hit a x=true then (a,true) else AM.aU r x).2=true;by_cases c:AM.hit a x=true
  · have h6:a.page<=x/\x<a.page+a.aJ:=of_decide_eq_true c;rw[if_pos c];exact⟨fun _=>rfl,fun _=>.inl (by omega)⟩
  · have h6:¬(a.page<=x/\x<a.page+a.aJ):=fun g=>c (decide_eq_true g)
    rw[if_neg c];exact⟨fun g=>by rcases g with g | g;omega;exact g,fun g=>.inr g⟩
def VO:Int->List AM.Ar->Prop
 | _,[]=>True
 | lo,a::r=>lo<=a.page/\1<=a.aJ/\VO (a.page+a.aJ) r
theorem VO.low:∀{l:List AM.Ar} {lo:Int},VO lo l->∀x∈dV l,lo<=x
 | [],lo,h,x,hx=>by cases hx
 | a::r,lo,h,x,hx=>by
  obtain⟨h1,h2,h3⟩:=h;rcases List.mem_append.1 hx with g | g
  · have:=(tD _ _ _).1 g;omega
  · have:=h3.low x g;omega
theorem VO.sorted:∀{l:List AM.Ar} {lo:Int},VO lo l->(dV l).Pairwise (·<·)
 | [],lo,h=>List.Pairwise.nil
 | a::r,lo,h=>by
  obtain⟨h1,h2,h3⟩:=h;show(run a.page a.aJ.toNat++dV r).Pairwise (·<·);rw[List.pairwise_append];refine⟨yl _ _,h3.sorted,fun x hx y hy=>?_⟩;have:=(tD _ _ _).1 hx;have:=h3.low y hy;omega
def Good (l:List AM.Ar):Prop:=∀i,i<l.length->(1<=(AM.at_ l i).page/\1<=(AM.at_ l i).aJ)/\(0<i->(AM.at_ l (i-1)).page+(AM.at_ l (i-1)).aJ<=(AM.at_ l i).page)
theorem Good.tail {a:AM.Ar} {r:List AM.Ar} (h:Good (a::r)):Good r:=fun i hi=>by
 have h1:=h (i+1) (by simp;omega);refine⟨h1.1,fun g=>?_⟩;have h2:=h1.2 (by omega);obtain⟨j,rfl⟩:∃j,i=j+1:=⟨i-1,by omega⟩;exact h2
theorem Fh:∀(l:List AM.Ar) (lo:Int),Good l->(∀a r,l=a::r->lo<=a.page)->VO lo l
 | [],lo,h,_=>trivial
 | a::r,lo,h,hlo=>by
  have h0:=(h 0 (by simp)).1;refine⟨hlo a r rfl,h0.2,Fh r _ h.tail (fun b q e=>?_)⟩;subst e;exact(h 1 (by simp)).2 (by omega)
theorem JV {l:List AM.Ar} (hc:AM.aW l=0):Good l:=fun i hi=>by
 have h:=AM.cW l hc i hi;have h1:=AM.dg l i h;refine⟨⟨h1.1,h1.2.1⟩,fun g=>?_⟩;unfold AM.nY at h;simp only[Bool.and_eq_true,Bool.or_eq_true,beq_iff_eq] at h;rcases h.2 with e | e
 · omega
 · unfold AM.fM at e;by_cases c:(AM.at_ l i).page=(AM.at_ l (i-1)).eG
   · unfold AM.Ar.eG at c;omega
   · rw[if_neg c] at e;have:=of_decide_eq_true e;unfold AM.Ar.eG at this;omega
theorem Qs {l:List AM.Ar} (hc:AM.aW l=0):VO 1 l:=Fh l 1 (JV hc) (fun a r e=>by
 subst e;exact((JV hc) 0 (by simp)).1.1)
theorem sum_cons (a:AM.Ar) (r:List AM.Ar):∀k,AM.sumTo (a::r) (k+1)=a.aJ+AM.sumTo r k
 | 0=>by show(0:Int)+a.aJ=a.aJ+0;omega
 | k+1=>by
  show AM.sumTo (a::r) (k+1)+(AM.at_ (a::r) (k+1)).aJ=a.aJ+(AM.sumTo r k+(AM.at_ r k).aJ);rw[sum_cons a r k];show _+(AM.at_ r k).aJ=_;omega
theorem tG:∀{l:List AM.Ar} {lo:Int},VO lo l->((dV l).length:Int)=AM.sumTo l l.length
 | [],lo,h=>rfl
 | a::r,lo,h=>by
  obtain⟨h1,h2,h3⟩:=h;show(((run a.page a.aJ.toNat++dV r).length:Nat):Int)=AM.sumTo (a::r) (r.length+1);rw[sum_cons,List.length_append,GU,<- tG h3];omega
theorem Eb {l:List AM.Ar} (hc:AM.aW l=0):AM.b7 l=((dV l).length:Int):=by
 unfold AM.b7;rw[if_pos hc,tG (Qs hc)]
theorem Mb {l:List AM.Ar} (hc:AM.aW l=0) (x:Int):(AM.aR l x).2=true↔x∈dV l:=by
 rw[Bx];unfold AM.aR;rw[if_pos hc]
end FM
end Go.Proofs.YtpgifpeohlllfaaGreat
