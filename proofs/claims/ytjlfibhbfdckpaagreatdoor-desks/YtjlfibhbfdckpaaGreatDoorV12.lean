import Derived.Test.YtjlfibhbfdckpaaGreatDoorV08
import Derived.Test.YtjlfibhbfdckpaaGreatDoorV09
import Derived.Test.YtjlfibhbfdckpaaGreatDoorV11
import Derived.Deep.DeepCutAuto
namespace Go.Proofs.YtjlfibhbfdckpaaGreatDoor
set_option maxHeartbeats 64000000
set_option maxRecDepth 100000
section
open Go.RowKit
attribute [local go_sem ↓] Go.wp_at_zero Go.wp_at_succ
theorem zvq (bs bc g cap N:Nat) (s:Rs) (b:ByteArray) (l:List Int) (last:Int) (w:World) (h:zi w bs bc g cap N s) (ok:s.Ok) (hb:b.size<=100000000000) (hl:zel b=some l) (h8:l.length<=8):
 Calls Tryz.prog 166 #[.pointer (some ⟨bs,0,none⟩),.string b,.int .u8 last] w (zac bs bc g w (zJ s l last) (.tuple #[])):=by
 have Hl:Hid (zel b=some l):=hl;have bsl:=h.lt;have bcl:=h.cels.lt;have gl:=h.cels.glt;have Hok:Hid s.Ok:=ok;clear hl;go_in;go_wp2_with fail;go_at_call 191;refine(zhn b _ hb).mono ?_;rintro e w1 ⟨B1,hN⟩;rw[Hl.out] at hN;obtain⟨v,rfl,hr,hsm⟩:=hN;obtain⟨q,hq⟩:∃q,l.length=q:=⟨_,rfl⟩;have hd8:decide (l.length<=8)=true:=by simpa using h8
 rw[hd8];rw[hq] at hr;obtain⟨av,vc,rfl⟩:∃av vc,v=.slice av q vc:=by
  rcases hr.2 with⟨rfl,h0⟩|⟨g',cap',cur,rfl,_⟩
  ·exact⟨none,0,by rw[h0]⟩
  ·exact⟨_,_,rfl⟩
 have HR1:Hid (zi w1 bs bc g cap N s):=h.below B1;have K1:zd (λi=>i=bs\/i=bc\/i=g) w w1:=zd.below _ B1;have Hq:Hid (l.length=q):=hq;have q8:q<=8:=by omega
 have key:∀i,i<q->∃g',av=some ⟨g',0,none⟩/\w1.cell? ⟨g',i,none⟩=some (.int .i64 (l.getD i 0)):=by
  intro i hi;obtain⟨g',cap',e⟩:=zam hr (by omega);cases e;exact⟨g',rfl,zcc hr i (by omega)⟩
 have Key:Hid (∀i,i<q->∃g',av=some ⟨g',0,none⟩/\w1.cell? ⟨g',i,none⟩=some (.int .i64 (l.getD i 0))):=key;have HRow:Hid (w1.ownsRow w.heap.size 3 1 (.slice av q vc) q (zaW l)):=hr;have f0:0<=l.getD 0 0/\l.getD 0 0<=9999:=hsm 0;have f1:0<=l.getD 1 0/\l.getD 1 0<=9999:=hsm 1;clear key hr hsm hq hd8 h8 B1 h ok;go_upto_if 31 with fail;go_cut[8] (λa wc=>a=.int .i64 (l.getD 0 0)/\wc=w1)
 case first=>
  by_cases h1:0<q
  ·obtain⟨g',rfl,c0⟩:=Key.out 0 h1;have h1':(0:Int)<q:=by omega
   go_wp2_with fail;go_meet
   case rel=>exact⟨rfl,rfl⟩
  ·have h1':(q:Int)<=0:=by omega
   have e0:l.getD 0 0=0:=by
    rw[List.getD_eq_getElem?_getD,List.getElem?_eq_none (by have:=Hq.out;omega)];rfl
   have E0:Hid (l.getD 0 0=0):=e0;clear e0;go_wp2_with fail;go_meet
   case rel=>exact⟨by rw[E0.out],rfl⟩
 case rest=>
  obtain⟨rfl,hwc⟩:=hcut;replace hwc:=hwc.symm;subst hwc;go_upto_if 37 with fail;go_cut[9] (λa wc=>a=.int .i64 (l.getD 1 0)/\wc=w1)
  case first=>
   by_cases h1:1<q
   ·obtain⟨g',rfl,c0⟩:=Key.out 1 h1;have h1':(1:Int)<q:=by omega
    go_wp2_with fail;go_meet
    case rel=>exact⟨rfl,rfl⟩
   ·have h1':(q:Int)<=1:=by omega
    have e0:l.getD 1 0=0:=by
     rw[List.getD_eq_getElem?_getD,List.getElem?_eq_none (by have:=Hq.out;omega)];rfl
    have E0:Hid (l.getD 1 0=0):=e0;clear e0;go_wp2_with fail;go_meet
    case rel=>exact⟨by rw[E0.out],rfl⟩
  case rest=>
   obtain⟨rfl,hwc⟩:=hcut;replace hwc:=hwc.symm;subst hwc;generalize hfe:l.getD 0 0=first at *
   have Hfe:Hid (l.getD 0 0=first):=hfe;generalize hse:l.getD 1 0=second at *;have Hse:Hid (l.getD 1 0=second):=hse;clear hfe hse;obtain⟨f00,f01⟩:=f0;obtain⟨f10,f11⟩:=f1;go_upto_if 43 with fail;go_cut[10] (λa wc=>a=.int .i64 (Zu first)/\wc=w1)
   case first=>
    by_cases h1:first=0
    ·subst h1;go_wp2_with fail;go_meet
     case rel=>exact⟨rfl,rfl⟩
    ·have h1':(first==0)=false:=by simpa using h1
     have E1:Hid (Zu first=first):=by show Zu first=first;unfold Zu;exact if_neg h1
     clear h1;go_wp2_with fail;go_meet
     case rel=>exact⟨by rw[E1.out],rfl⟩
   case rest=>
    obtain⟨rfl,hwc⟩:=hcut;replace hwc:=hwc.symm;subst hwc;have n0:1<=Zu first:=by unfold Zu;split<;>omega
    have n1:Zu first<=9999:=by unfold Zu;split<;>omega
    generalize hne:Zu first=n at *
    have Hne:Hid (Zu first=n):=hne;clear hne;have f3:=HR1.out.f3;have f4:=HR1.out.f4;go_wp2_with fail;go_at_call 192;refine(zjy bs bc g cap N s _ HR1.out).mono ?_;rintro e w2 ⟨rfl,hb2⟩;have HR2:Hid (zi w2 bs bc g cap N s):=HR1.out.below hb2;have K2:zd (λi=>i=bs\/i=bc\/i=g) w w2:=K1.thenBelow hb2;have HRow2:Hid (w2.ownsRow w.heap.size 3 1 (.slice av q vc) q (zaW l)):=zcd HRow.out (λi hi=>hb2.block _ (HRow.out.lt i hi).2);clear hb2 HR1 K1;have Hf:=zH (show l[0]?.getD 0=first from Hfe.out);have Hs:=zH (show l[1]?.getD 0=second from Hse.out);go_upto_if 64 with fail;generalize hW3:w2.alloc _=w3;have B3:Below w2.heap.size w2 w3:=by rw[←hW3];exact(Below.refl _ _).alloc (Nat.le_refl _) _
    have HP3:Hid (Zf w3 w2.heap.size 0 (zS s)):=by rw[←hW3];exact ZO _ _ _
    have HR3:Hid (zi w3 bs bc g cap N s):=HR2.out.below B3;have K3:zd (λi=>i=bs\/i=bc\/i=g) w w3:=K2.thenBelow B3;have HRow3:Hid (w3.ownsRow w.heap.size 3 1 (.slice av q vc) q (zaW l)):=zcd HRow2.out (λi hi=>B3.block _ (HRow2.out.lt i hi).2);have np:w2.heap.size≠bc:=by have:=HR2.out.cels.lt;omega
    have npg:w2.heap.size≠g:=by have:=HR2.out.cels.glt;omega
    have szw:w.heap.size<=w3.heap.size:=K3.size;generalize w2.heap.size=Bp at *;clear hW3 B3 HR2 K2 f3 f4 HRow2 HRow Key;have x0:=Hok.out.x0;have x1:=Hok.out.x1;have y0:=Hok.out.y0;have y1:=Hok.out.y1;have w40:=Hok.out.w2;have h20:=Hok.out.h2;have l3:=HR3.out.lt;by_cases m1:last=65\/last=66\/last=67\/last=68
    ·rcases m1 with rfl|rfl|rfl|rfl;all_goals
      go_wp2_with fail;go_at_call 91;refine(zdU bs bc g cap N s _ _ _ HR3.out).mono ?_;rintro e w5 ⟨rfl,R5,K5⟩;have K6:zd (λi=>i=bs\/i=bc\/i=g) w w5:=K3.trans K5 (λi _ hi=>.inl hi);clear K5;go_wp2_with fail;go_end0;exact Z5 (g':=g) (cap':=cap) (N':=N) (by simpa[zJ,Hf.out,Hne.out] using R5) K6 (.inl rfl)
    by_cases m2:last=72
    ·subst m2;have E1:Hid (Zu second=if second==0 then 1 else second):=by show Zu second=_;simp[Zu]
     cases h1:second==0;all_goals
      go_wp2_with fail;go_at_call 91;refine(zdU bs bc g cap N s _ _ _ HR3.out).mono ?_;rintro e w5 ⟨rfl,R5,K5⟩;have K6:zd (λi=>i=bs\/i=bc\/i=g) w w5:=K3.trans K5 (λi _ hi=>.inl hi);clear K5;go_wp2_with fail;go_end0;exact Z5 (g':=g) (cap':=cap) (N':=N) (by simpa[zJ,Hf.out,Hs.out,Hne.out,E1.out,h1] using R5) K6 (.inl rfl)
    by_cases m3:last=75\/last=74
    ·rcases m3 with rfl|rfl;all_goals
      go_wp2_with fail;go_at_call 193;refine(ztY bs bc g cap N s first _ _ HR3.out Hok.out).mono ?_;rintro e w5 ⟨g5,cap5,N5,rfl,R5,K5,hg5⟩;have K6:zd (λi=>i=bs\/i=bc\/i=g) w w5:=K3.trans K5 (λi _ hi=>hi);have Hg6:Hid (g5=g\/w.heap.size<=g5):=hg5.imp id (λq=>by omega);clear K5 hg5;go_wp2_with fail;go_end0;exact Z5 (g':=g5) (cap':=cap5) (N':=N5) (by simpa[zJ,Hf.out] using R5) K6 Hg6.out
    by_cases m4:last=83\/last=84
    ·as_aux_lemma=>
      have hneg:IntKind.i64.wrap (-n) = -n:=zm _ (by omega) (by omega);rcases m4 with rfl|rfl;all_goals
       go_wp2_with fail;have g0:=HR3.out.f0;have g11:=HR3.out.f11;have g12:=HR3.out.f12;have nsc:=HR3.out.ne1;have lp:=HP3.out.lt;obtain⟨p0,p1,p2,p3,p4⟩:=HP3.out;go_region_held3 (λw'=>w'.cell? ⟨bs,0,none⟩=some (.pointer (some ⟨bc,0,none⟩))/\w'.cell? ⟨bs,11,none⟩=some (.int .i64 s.top)/\w'.cell? ⟨bs,12,none⟩=some (.int .i64 s.bot)/\w'.cell? ⟨Bp,0,none⟩=some (.int .i64 (zS s).f)/\w'.cell? ⟨Bp,1,none⟩=some (.int .i64 (zS s).b)/\w'.cell? ⟨Bp,2,none⟩=some (.bool (zS s).bo)/\w'.cell? ⟨Bp,3,none⟩=some (.bool (zS s).un)/\w'.cell? ⟨Bp,4,none⟩=some (.bool (zS s).re)) (simp[*]) (first|(go_at_call 89;refine(zhk bc g cap s.W s.H N s.G s.top s.bot _ (zS s) _ HR3.out.cels.drew Hok.out.t0 (Int.le_trans Hok.out.t0 Hok.out.tb) Hok.out.b1).mono ?_;rintro e w4 ⟨g4,cap4,rfl,C4,K4,hg4⟩;have e1:=zaT K4 l3 nsc;have e2:=zaT K4 lp np));have K4:zd (λi=>i=bc) w3 w4:=⟨K4.os,K4.tape,K4.output,K4.size,K4.block⟩;have hg4':w3.heap.size<=g4:=hg4;have K5:zd (λi=>i=bs\/i=bc\/i=g) w w4:=K3.trans K4 (λi _ hi=>.inr (.inl hi));have H4:Hid (Zp w4 bc g4 cap4 s.W s.H N _/\w4.heap[bs]?=w3.heap[bs]?):=⟨C4,K4.block _ l3 nsc⟩;rename_i hS;clear hS e1 e2 C4 K4 p0 p1 p2 p3 p4 g0 g11 g12;go_wp2_with fail;go_end0;exact Z5 (g':=g4) (cap':=cap4) (N':=N) (by simp only[zJ,Hfe.out,Hne.out];exact HR3.out.cells _ H4.out.2 H4.out.1 rfl (by omega)) K5 (.inr (by omega))
    by_cases m5:last=88
    ·subst m5;go_wp2_with fail;have hwx:IntKind.i64.wrap (s.x+n)=s.x+n:=zm _ (by omega) (by omega);have g0:=HR3.out.f0;have nsg:=HR3.out.ne2;have lp:=HP3.out.lt;obtain⟨p0,p1,p2,p3,p4⟩:=HP3.out;go_region_held3 (λw'=>w'.cell? ⟨bs,0,none⟩=some (.pointer (some ⟨bc,0,none⟩))/\w'.cell? ⟨Bp,0,none⟩=some (.int .i64 (zS s).f)/\w'.cell? ⟨Bp,1,none⟩=some (.int .i64 (zS s).b)/\w'.cell? ⟨Bp,2,none⟩=some (.bool (zS s).bo)/\w'.cell? ⟨Bp,3,none⟩=some (.bool (zS s).un)/\w'.cell? ⟨Bp,4,none⟩=some (.bool (zS s).re)) (simp[*]) (first|(go_at_call 87;refine(znN bc g cap s.W s.H N s.G s.x (s.x+n) s.y (zS s) _ HR3.out.cels.drew Hok.out.wf Hok.out.y0 Hok.out.y1).mono ?_;rintro e w4 ⟨rfl,C4,K4⟩;have e1:=zaT K4 l3 nsg;have e2:=zaT K4 lp npg));have K4:zd (λi=>i=g) w3 w4:=⟨K4.os,K4.tape,K4.output,K4.size,K4.block⟩;have R9:zi w4 bs bc g cap N (zJ s l 88):=by
      simp only[zJ,Hfe.out,Hne.out];exact HR3.out.cells _ (K4.block _ l3 nsg) C4 rfl HR3.out.ne2
     have K5:zd (λi=>i=bs\/i=bc\/i=g) w w4:=K3.trans K4 (λi _ hi=>.inr (.inr hi));rename_i hS;clear hS e1 e2 C4 K4;go_wp2_with fail;go_end0;exact Z5 R9 K5 (.inl rfl)
    by_cases m6:last=114
    ·subst m6
     as_aux_lemma=>
      have f2:=HR3.out.f2;have f11:=HR3.out.f11;have f12:=HR3.out.f12;have fr:=HR3.out.free;have h01:=Hok.out.h1;obtain⟨k,Hk,c⟩:∃k:Int,Hid (zb9 s.H second=k)/\(k=s.H/\(second==0)=true\/k=s.H/\(second==0)=false/\(s.H:Int)<second\/second=k/\(second==0)=false/\second<=s.H):=by
       unfold zb9;by_cases q1:second=0
       ·exact⟨s.H,if_pos (.inl q1),.inl ⟨rfl,by simp[q1]⟩⟩
       ·by_cases q2:(s.H:Int)<second
        ·exact⟨s.H,if_pos (.inr q2),.inr (.inl ⟨rfl,by simp[q1],q2⟩)⟩
        ·exact⟨second,if_neg (by omega),.inr (.inr ⟨rfl,by simp[q1],by omega⟩)⟩
      have ways:(Hid (zaO s n second=ZQ {s with top:=n-1,bot:=k-1} 0 0)/\(n<k\/k<=n/\((s.H:Int)==1)=true/\(n==1)=true))\/(Hid (zaO s n second=s)/\k<=n/\(((s.H:Int)==1)=false\/((s.H:Int)==1)=true/\(n==1)=false)):=by
       unfold zaO;rw[Hk.out];by_cases q:n<k\/s.H=1/\n=1
       ·exact .inl ⟨if_pos q,by simp;omega⟩
       ·exact .inr ⟨if_neg q,by omega,by simp;omega⟩
      rcases ways with⟨HM,r⟩|⟨HM,r,b⟩
      ·rcases r with r|⟨r,b2,b3⟩<;>rcases c with⟨rfl,c1⟩|⟨rfl,c1,c2⟩|⟨rfl,c1,c2⟩;all_goals
        go_wp2_with fail;go_at_call 91;refine(zdU bs bc g cap N _ 0 0 _ ((HR3.out.setTop _).setBot _)).mono ?_;rintro e w5 ⟨rfl,R5,K5⟩;have K6:zd (λi=>i=bs\/i=bc\/i=g) w w5:=((K3.setCell ⟨bs,11,none⟩ _ (λ_=>.inl rfl)).setCell ⟨bs,12,none⟩ _ (λ_=>.inl rfl)).trans K5 (λi _ hi=>.inl hi);clear K5;go_wp2_with fail;go_end0;exact Z5 (g':=g) (cap':=cap) (N':=N) (by simpa[zJ,Hf.out,Hs.out,Hne.out,HM.out] using R5) K6 (.inl rfl)
      ·rcases b with b2|⟨b2,b3⟩<;>rcases c with⟨rfl,c1⟩|⟨rfl,c1,c2⟩|⟨rfl,c1,c2⟩;all_goals
        go_wp2_with fail;go_end0;exact Z5 (g':=g) (cap':=cap) (N':=N) (by simpa[zJ,Hf.out,Hs.out,Hne.out,HM.out] using HR3.out) K3 (.inl rfl)
    by_cases m7:last=109
    ·subst m7
     as_aux_lemma=>
      have HD:Hid (zJ s l 109=zdf s (zz l)):=by show zJ s l 109=_;simp[zJ]
      by_cases hq0:q=0
      focus
       have hl0:l=[]:=List.eq_nil_of_length_eq_zero (by rw[Hq.out];exact hq0);subst hq0;have HB:Hid (zz l=[0]):=by show zz l=[0];rw[hl0];rfl
       have HRow4:Hid (w3.ownsRow w.heap.size 3 1 (.slice av 0 vc) 0 (zaW [])):=by rw[hl0] at HRow3;exact HRow3
       clear hl0 HRow3;go_wp2_with ((at_builtin;refine zaK _ (by rfl) (.tmp 218) (.tmp 219) (by rfl) w.heap.size (.slice av 0 vc) [] 0 0 rfl (by rfl) (zcd HRow4.out (λi hi=>Below.heap_alloc _ _ _ (HRow4.out.lt i hi).2)) _ (by rfl) (zae _ _ _ (by simp)) (by omega) (by simp;omega) ?_;intro g7 cap7 w7 hr7 hg7 ho7 hl7));have r7:=(hr7.lt g7 rfl).1;have nb:∀i,i<w.heap.size->some i≠(Value.slice av 0 vc).ownBlock:=λi hi e=>by have:=(HRow4.out.lt i e.symm).1;omega
       have hbk:∀i,i<w.heap.size->w7.heap[i]?=w3.heap[i]?:=λi hi=>(hg7.block i (by simp;omega) (nb i hi)).trans (Below.heap_alloc _ _ _ (by omega));have R4:zi w7 bs bc g cap N (zdf s (([0]:List Int).take 0)):=HR3.out.same (hbk _ bsl) (hbk _ bcl) (hbk _ gl);have K4:zd (λi=>i=bs\/i=bc\/i=g) w w7:=(K3.alloc _).grown hg7 (λi hi hi2=>absurd hi.symm (nb i hi2));have C4:∀j,j<([0]:List Int).length->w7.cell? ⟨g7,j,none⟩=some (.int .i64 (([0]:List Int).getD j 0)):=λj hj=>zcc hr7 j (by simpa using hj);have L4:=hl7;have gne:g≠g7:=by omega
       have HQ:Hid (∀k:Nat,(k<([0]:List Int).length->(k:Int)<1)/\(¬k<([0]:List Int).length->(1:Int)<=k)):=λk=>⟨λq=>by simp at q;omega,λq=>by simp at q;omega⟩;clear hr7 hg7 ho7 nb hbk HRow4 HR3 K3 HP3 szw;generalize ([0]:List Int)=lb at *;go_wp2_with fail
      rotate_left
      focus
       have hqp:0<q:=by omega
       obtain⟨lb,hlb⟩:∃lb,lb=l:=⟨_,rfl⟩;have HB:Hid (zz l=lb):=by
        show zz l=lb;unfold zz;rw[hlb];exact if_neg (λe=>by rw[e] at Hq;have:=Hq.out;simp at this;omega)
       obtain⟨g7,cap7,hav⟩:=zam HRow3.out (by omega);simp only[Value.slice.injEq,true_and] at hav;obtain⟨rfl,rfl⟩:=hav;have r7:=(HRow3.out.lt g7 rfl);have R4:zi w3 bs bc g cap N (zdf s (lb.take 0)):=HR3.out;have K4:=K3;have C4:∀j,j<lb.length->w3.cell? ⟨g7,j,none⟩=some (.int .i64 (lb.getD j 0)):=λj hj=>by rw[hlb] at hj ⊢;exact zcc HRow3.out j hj
       have L4:=r7.2;have gne:g≠g7:=by have:=r7.1;omega
       have hq':((q:Int)==0)=false:=by simp;omega
       have HQ:Hid (∀k:Nat,(k<lb.length->(k:Int)<q)/\(¬k<lb.length->(q:Int)<=k)):=λk=>by have:=Hq.out;rw[hlb];omega
       clear HRow3 HR3 K3 hlb HP3 szw;go_wp2_with fail
      all_goals
       go_loopw[14] (λi w'=>∃(k gc cc Nc:Nat),k<=lb.length/\i=.int .i64 k/\zi w' bs bc gc cc Nc (zdf s (lb.take k))/\zd (λi=>i=bs\/i=bc\/i=g) w w'/\(gc=g\/w.heap.size<=gc)/\gc≠g7/\g7<w'.heap.size/\∀j,j<lb.length->w'.cell? ⟨g7,j,none⟩=some (.int .i64 (lb.getD j 0))) (λi _=>lb.length-(intOf i).toNat)
       case atStart=>exact⟨0,g,cap,N,by omega,rfl,R4,K4,.inl rfl,by omega,L4,C4⟩
       case round=>
        clear R4 K4 C4 L4;obtain⟨k,gc,cc,Nc,hk,rfl,hR,hK,hg,hne,hl4,hC⟩:=hrel;have HR5:Hid (zi wr bs bc gc cc Nc (zdf s (lb.take k))):=hR;have HC5:Hid (∀j,j<lb.length->wr.cell? ⟨g7,j,none⟩=some (.int .i64 (lb.getD j 0))):=hC;have Hg5:Hid (gc=g\/w.heap.size<=gc):=hg;clear hR hC hg;by_cases hlt:k<lb.length
        ·have c0:=HC5.out k hlt;have hlt':=(HQ.out k).1 hlt;have Hlt:=zH hlt;clear hlt;go_wp2_with fail;go_at_call 194;refine(ztZ bs bc gc cc Nc (zdf s (lb.take k)) _ _ HR5.out).mono ?_;rintro e w5 ⟨g5,cap5,N5,rfl,R5,K5,hg5⟩;have e1:zek (zdf s (lb.take k)) (lb.getD k 0)=zdf s (lb.take (k+1)):=by
          unfold zek zdf;rw[List.take_succ_eq_append_getElem Hlt.out,List.foldl_append];simp[Hlt.out]
         have K6:zd (λi=>i=bs\/i=bc\/i=g) w w5:=hK.trans K5 (λi hi hj=>by have:=Hg5.out;omega);have hne6:g5≠g7:=by omega
         have hl6:g7<w5.heap.size:=Nat.lt_of_lt_of_le hl4 K5.size;have HC6:Hid (∀j,j<lb.length->w5.cell? ⟨g7,j,none⟩=some (.int .i64 (lb.getD j 0))):=λj hj=>by
          rw[zaT K5 hl4 (by omega) j];exact HC5.out j hj
         have HG6:Hid (g5=g\/w.heap.size<=g5):=by
          show g5=g\/w.heap.size<=g5;have:=Hg5.out;have:=hK.size;omega
         have HR6:Hid (zi w5 bs bc g5 cap5 N5 (zdf s (lb.take (k+1)))):=by rw[←e1];exact R5
         clear R5 hg5 K5 e1 c0;go_wp2_with fail;go_roundw
         case rel=>first|exact⟨k+1,g5,cap5,N5,Hlt.out,by go_num,HR6.out,K6,HG6.out,hne6,hl6,HC6.out⟩|((repeat apply Exists.intro);exact⟨⟨k+1,g5,cap5,N5,Hlt.out,by go_num,HR6.out,K6,HG6.out,hne6,hl6,HC6.out⟩,rfl⟩)
         case measure=>have:=Hlt.out;simp[intOf];omega
        ·have hke:Hid (lb.take k=zz l):=by
          show lb.take k=zz l;rw[HB.out];exact List.take_of_length_le (by omega)
         have hlt':=(HQ.out k).2 hlt;go_wp2_with fail;go_end0;have R9:zi wr bs bc gc cc Nc (zJ s l 109):=by rw[HD.out,←hke.out];exact HR5.out
         exact Z5 R9 hK Hg5.out
    have ne:last≠65/\last≠66/\last≠67/\last≠68/\last≠72/\last≠75/\last≠74/\last≠88/\last≠83/\last≠84/\last≠114/\last≠109:=by omega
    have HD:Hid (zJ s l last=zbn s):=by show zJ s l last=_;simp[zJ,ne]
    obtain⟨b65,b66,b67,b68,b72,b75,b74,b88,b83,b84,b114,b109⟩:(last==65)=false/\(last==66)=false/\(last==67)=false/\(last==68)=false/\(last==72)=false/\(last==75)=false/\(last==74)=false/\(last==88)=false/\(last==83)=false/\(last==84)=false/\(last==114)=false/\(last==109)=false:=by simpa using ne
    clear ne m1 m2 m3 m4 m5 m6 m7;have f15:=HR3.out.f15;have fr:=HR3.out.free;go_wp2_with fail;go_end0;exact Z5 (by rw[HD.out];exact HR3.out.setOdd _) (K3.setCell ⟨bs,15,none⟩ _ (λ_=>.inl rfl)) (.inl rfl)
theorem zpC (bs bc g cap N:Nat) (s:Rs) (b:ByteArray) (last:Int) (w:World) (h:zi w bs bc g cap N s) (hb:b.size<=100000000000) (hl:zel b=none\/∃l,zel b=some l/\¬l.length<=8):
 Calls Tryz.prog 166 #[.pointer (some ⟨bs,0,none⟩),.string b,.int .u8 last] w (zac bs bc g w (zbn s) (.tuple #[])):=by
 have Hl:Hid (zel b=none\/∃l,zel b=some l/\¬l.length<=8):=hl;clear hl;go_in;go_wp2_with fail;go_at_call 191;refine(zhn b _ hb).mono ?_;rintro e w1 ⟨B1,hN⟩;obtain⟨v,rfl⟩:∃v,e=.returned (.tuple #[v,.bool false]):=by
  rcases Hl.out with h1|⟨l,h1,h2⟩
  ·rw[h1] at hN;exact⟨_,hN⟩
  ·rw[h1] at hN;obtain⟨v,e1,_⟩:=hN;have h3:decide (l.length<=8)=false:=by simpa using h2
   rw[h3] at e1;exact⟨v,e1⟩
 have HR1:Hid (zi w1 bs bc g cap N s):=h.below B1;have K1:zd (λi=>i=bs\/i=bc\/i=g) w w1:=zd.below _ B1;have f15:=HR1.out.f15;have fr:=HR1.out.free;clear hN B1 h;go_wp2_with fail;have R9:zi (w1.setCell ⟨bs,15,none⟩ (.int .i64 (wrap64 (s.odd+1)))) bs bc g cap N (zbn s):=HR1.out.setOdd _;exact bodyPost_ret (v:=.tuple #[]) (by simp[results,Tryz.results166,go_sem]) rfl (Z5 R9 (K1.setCell ⟨bs,15,none⟩ _ (λ_=>.inl rfl)) (.inl rfl))
theorem zt0 (bs bc g cap N:Nat) (s:Rs) (b:ByteArray) (last:Int) (w:World) (h:zi w bs bc g cap N s) (ok:s.Ok) (hb:b.size<=100000000000):
 Calls Tryz.prog 166 #[.pointer (some ⟨bs,0,none⟩),.string b,.int .u8 last] w (zac bs bc g w (ze2 s b last) (.tuple #[])):=by
 cases hn:zel b with
 |none=>
  have e:ze2 s b last=zbn s:=by unfold ze2;rw[hn]
  rw[e];exact zpC bs bc g cap N s b last w h hb (.inl hn)
 |some l=>
  by_cases h8:l.length<=8
  ·have e:ze2 s b last=zJ s l last:=by unfold ze2;rw[hn];exact if_pos h8
   rw[e];exact zvq bs bc g cap N s b l last w h ok hb hn h8
  ·have e:ze2 s b last=zbn s:=by unfold ze2;rw[hn];exact if_neg h8
   rw[e];exact zpC bs bc g cap N s b last w h hb (.inr ⟨l,hn,h8⟩)
end
end Go.Proofs.YtjlfibhbfdckpaaGreatDoor
