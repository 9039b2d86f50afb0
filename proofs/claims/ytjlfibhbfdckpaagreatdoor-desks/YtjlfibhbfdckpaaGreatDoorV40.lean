import Derived.Test.YtjlfibhbfdckpaaGreatDoorV39
namespace Go.Proofs.YtjlfibhbfdckpaaGreatDoor
set_option maxHeartbeats 64000000
set_option maxRecDepth 100000
section
open Go.RowKit Go.Maps
open Wd (wd)
attribute [local go_sem ↓] Go.wp_at_zero Go.wp_at_succ
theorem zri (bs bg g N:Nat) (s:Rs) (t:Pt) (gl:Gl) (w:World) (h:zh w bs bg g N s t) (fl:s.Fl) (hg:gl.In s):
 Calls Tryz.prog 203 #[.pointer (some ⟨bs,0,none⟩),gl.agg] w λe w'=>e=.returned (zaD (zb3 s gl))/\Below w.heap.size w w':=by
 have ok:=fl.ok;have x0:=hg.x0;have y0:=hg.y0;have x1:gl.x<40:=by have:=hg.x1;have:=ok.w2;omega
 have y1:gl.y<20:=by have:=hg.y1;have:=ok.h2;omega
 obtain⟨M,hM⟩:∃M,w.heap.size=M:=⟨_,rfl⟩;have HM:=zH hM;have HP:=zH h;have Hok:Hid (s.Fl/\gl.In s):=⟨fl,hg⟩;clear h ok fl hg;go_in;go_wp2_with fail;have hA:∃wA,w.alloc (.cells (zgP gl) 211)=wA/\wA.heap.size=M+1/\wA.heap[M]?=some (.cells (zgP gl) 211)/\Below w.heap.size w wA:=by
  subst hM;exact⟨_,rfl,by simp,zf _ _,(Below.refl _ _).alloc (Nat.le_refl _) _⟩
 obtain⟨wA,hwA,zA,bA,belA⟩:=hA;rw[hwA];have HbA:=zH bA;have HbelA:=zH belA;have HPA:=zH<|HP.out.below belA
 clear hwA bA belA;go_at_call 63;refine(zj7 bs bg g N s t wA HPA.out).mono ?_;rintro e w1 ⟨rfl,hb1⟩;have HB1:=zH<|HbelA.out.trans (hb1.mono (by have:=HM.out;omega))
 have Hb1:=zH<|(hb1.block M (by omega)).trans HbA.out
 have z1:M<w1.heap.size:=by have:=hb1.size;omega
 clear hb1 HbA HbelA HPA;generalize (decide (t.mode=0)&&decide (t.bn=0))=gb at *;go_upto_region 3 with fail
 have hP2:∃wP P,(w1.alloc (.cells #[.int .i64 s.W,.int .i64 s.H,.int .i64 s.x,.int .i64 s.y,.bool s.pend,.int .i64 s.pen.f,.int .i64 s.pen.b,.bool s.pen.bo,.bool s.pen.un,.bool s.pen.re,.int .i64 s.top,.int .i64 s.bot,.bool gb] 59)).alloc (.cells #[.int .i64 s.x,.int .i64 s.y,.bool s.pend,.int .i64 s.pen.f,.int .i64 s.pen.b,.bool s.pen.bo,.bool s.pen.un,.bool s.pen.re] 235)=wP/\w1.heap.size+1=P/\wP.heap.size=P+1/\wP.heap[M]?=some (.cells (zgP gl) 211)/\wP.heap[P]?=some (.cells (zeO s.sp) 235)/\Below w.heap.size w wP/\M<P:=by
  refine⟨_,w1.heap.size+1,rfl,rfl,by simp,?_,ZM _ _ (by simp),(HB1.out.alloc HB1.out.size _).alloc (by have:=HB1.out.size;simp;omega) _,by omega⟩;rw[zN _ _ (by simp;omega),zN _ _ z1];exact Hb1.out
 obtain⟨wP,P,hwP,hPe,zP,bM,bP,belP,hMP⟩:=hP2;rw[hwP,hPe];have HbM:=zH bM;have HbP:=zH bP;have HBP:=zH belP;have g0:wP.cell? ⟨M,0,none⟩=some (.int .i64 gl.x):=za bM 0;have g1:wP.cell? ⟨M,1,none⟩=some (.int .i64 gl.y):=za bM 1;have g2:wP.cell? ⟨M,2,none⟩=some (.int .i64 gl.pen.f):=za bM 2;have g3:wP.cell? ⟨M,3,none⟩=some (.int .i64 gl.pen.b):=za bM 3;have g4:wP.cell? ⟨M,4,none⟩=some (.bool gl.pen.bo):=za bM 4;have g5:wP.cell? ⟨M,5,none⟩=some (.bool gl.pen.un):=za bM 5;have g6:wP.cell? ⟨M,6,none⟩=some (.bool gl.pen.re):=za bM 6;clear hwP bM bP belP HB1 Hb1 z1 hPe;have zM:M<P+1:=by omega
 have nM1:¬M=P+1:=by omega
 have nM2:¬P+1=M:=by omega
 go_cut[7] (λv wc=>∃D,v=.pointer (some ⟨D,0,none⟩)/\wc.heap[D]?=some (.cells (zcJ (Zz gl)) 237)/\wc.heap[M]?=some (.cells (zgP gl) 211)/\wc.heap[P]?=some (.cells (zeO s.sp) 235)/\Below w.heap.size w wc)
 case first=>
  go_region_held3 (λw'=>w'.cell? ⟨M,0,none⟩=some (.int .i64 gl.x)/\w'.cell? ⟨M,1,none⟩=some (.int .i64 gl.y)/\w'.cell? ⟨M,2,none⟩=some (.int .i64 gl.pen.f)/\w'.cell? ⟨M,3,none⟩=some (.int .i64 gl.pen.b)/\w'.cell? ⟨M,4,none⟩=some (.bool gl.pen.bo)/\w'.cell? ⟨M,5,none⟩=some (.bool gl.pen.un)/\w'.cell? ⟨M,6,none⟩=some (.bool gl.pen.re)) (simp[*,zdL,World.cell?_setCell_far]) (first|(go_at_call 222;refine(zuw gl.x gl.y _ x0 x1 y0 y1).mono ?_;rintro e w5 ⟨rfl,hb5⟩;have hb6:=zL hb5;have e1:=hb6.cells (b:=M) (by first|omega|(simp;omega));have HB6:Hid (Below wP.heap.size wP w5):=(by first|exact hb6|exact((Below.refl _ _).alloc (Nat.le_refl _) _).trans (hb6.mono (by simp)));have z6:P<w5.heap.size:=(by have:=HB6.out.size;omega);have z7:M<w5.heap.size:=(by omega);(first|(have e3:=hb6.cells (b:=P+1) (by simp;omega);have e4:=hb6.marks (b:=P+1) (by simp;omega);have HD:Hid (w5.heap[P+1]?=some (.cells #[.string ⟨#[]⟩,.int .i64 0,.int .i64 0,.int .i64 0,.bool false,.int .i64 0,.int .i64 0,.bool false,.bool false,.bool false] 237)):=(hb6.block (P+1) (by simp;omega)).trans (ZM _ _ (by omega)))|skip);clear hb5));all_goals
   first
    |(have hd:=HD.out
      obtain⟨wE,hwE⟩:∃wE,zs4 w5 (P+1) (Zz gl)=wE:=⟨_,rfl⟩;have E1:=zH<|hwE ▸ zpa _ hd
      have E2:=zH<|hwE ▸ ((zgn (zd.refl (λi=>i=P+1) w5) (P+1) (Zz gl) (λ_=>rfl)).block M z7 (by omega)).trans ((HB6.out.block M (by omega)).trans HbM.out)
      have E5:=zH<|hwE ▸ ((zgn (zd.refl (λi=>i=P+1) w5) (P+1) (Zz gl) (λ_=>rfl)).block P z6 (by omega)).trans ((HB6.out.block P (by omega)).trans HbP.out)
      have E3:=zH<|hwE ▸ zlu ((zgn (zd.refl (λi=>i=P+1) w5) (P+1) (Zz gl) (λ_=>rfl)).toBelow (B:=w.heap.size) (by omega) (λi hi e=>by have:=HM.out;omega)) HBP.out HB6.out
      simp only[zs4,Zz,Int.natCast_zero] at hwE;rw[hwE];clear hwE hd HD e3 e4;go_wp2_with fail;go_meet
      case rel=>exact⟨_,rfl,E1.out,E2.out,E5.out,E3.out⟩)
    |(obtain⟨wE,hwE⟩:∃wE,w5.alloc (.cells (zcJ (Zz gl)) 237)=wE:=⟨_,rfl⟩
      have E1:=zH<|hwE ▸ zf _ _
      have E2:=zH<|hwE ▸ (zN _ _ z7).trans ((HB6.out.block M (by omega)).trans HbM.out)
      have E5:=zH<|hwE ▸ (zN _ _ z6).trans ((HB6.out.block P (by omega)).trans HbP.out)
      have E3:=zH<|hwE ▸ (HBP.out.trans (HB6.out.mono HBP.out.size)).alloc (Nat.le_trans HBP.out.size HB6.out.size) _
      simp only[Zz,zcJ,Int.natCast_zero] at hwE;rw[hwE];clear hwE;go_wp2_with fail;go_meet
      case rel=>exact⟨_,rfl,E1.out,E2.out,E5.out,E3.out⟩)
 case rest=>
  obtain⟨D,rfl,hD,hM3,hP3,hB3⟩:=hcut;have HD:=zH hD;have HM3:=zH hM3;have HP3:=zH hP3;have HB3:=zH hB3;have s0:wc.cell? ⟨P,0,none⟩=some (.int .i64 s.sp.x):=za hP3 0;have s1:wc.cell? ⟨P,1,none⟩=some (.int .i64 s.sp.y):=za hP3 1;have s2:wc.cell? ⟨P,2,none⟩=some (.bool s.sp.pend):=za hP3 2;have s3:wc.cell? ⟨P,3,none⟩=some (.int .i64 s.sp.pen.f):=za hP3 3;have s4:wc.cell? ⟨P,4,none⟩=some (.int .i64 s.sp.pen.b):=za hP3 4;have s5:wc.cell? ⟨P,5,none⟩=some (.bool s.sp.pen.bo):=za hP3 5;have s6:wc.cell? ⟨P,6,none⟩=some (.bool s.sp.pen.un):=za hP3 6;have s7:wc.cell? ⟨P,7,none⟩=some (.bool s.sp.pen.re):=za hP3 7;obtain⟨v,hv⟩:∃v,Zz gl=v:=⟨_,rfl⟩;have Hv:=zH hv;rw[hv] at hD;have d0:wc.cell? ⟨D,0,none⟩=some (.string ⟨v.b.toArray⟩):=za hD 0;have d1:wc.cell? ⟨D,1,none⟩=some (.int .i64 v.k):=za hD 1;have d2:wc.cell? ⟨D,2,none⟩=some (.int .i64 v.e.x):=za hD 2;have d3:wc.cell? ⟨D,3,none⟩=some (.int .i64 v.e.y):=za hD 3;have d4:wc.cell? ⟨D,4,none⟩=some (.bool v.e.pend):=za hD 4;have d5:wc.cell? ⟨D,5,none⟩=some (.int .i64 v.e.pen.f):=za hD 5;have d6:wc.cell? ⟨D,6,none⟩=some (.int .i64 v.e.pen.b):=za hD 6;have d7:wc.cell? ⟨D,7,none⟩=some (.bool v.e.pen.bo):=za hD 7;have d8:wc.cell? ⟨D,8,none⟩=some (.bool v.e.pen.un):=za hD 8;have d9:wc.cell? ⟨D,9,none⟩=some (.bool v.e.pen.re):=za hD 9;clear hD hM3 hP3 hB3 hv g0 g1 g2 g3 g4 g5 g6 HbM HbP HBP zP zA zM nM1 nM2;have hmm:=@run_makeMap Tryz.prog;go_wp2_with fail;have hst:zcN w _ gl s.sp M P D wc.heap.size (wc.heap.size+1) (wc.heap.size+1+1) wc.heap.size 2 [] [⟨[],0,s.sp⟩,v]:=zre HM3.out HP3.out HD.out HB3.out ⟨[],0,s.sp⟩ v;simp only[Int.natCast_zero] at hst;generalize World.alloc _ (Obj.map #[] 0)=wL at hst ⊢;clear HD HM3 HP3 HB3 s0 s1 s2 s3 s4 s5 s6 s7 d0 d1 d2 d3 d4 d5 d6 d7 d8 d9 hmm;generalize wc.heap.size+1=bo at hst ⊢;generalize bo+1=bm at hst ⊢;generalize wc.heap.size=base at hst ⊢;have HS:Hid (zcN w wL gl s.sp M P D base bo bm base 2 [] (zd6 s gl)):=by
   have e:zd6 s gl=[⟨[],0,s.sp⟩,v]:=by rw[←Hv.out];rfl
   show zcN w wL gl s.sp M P D base bo bm base 2 [] (zd6 s gl);rw[e];exact hst
  clear hst Hv wc;go_loopg [] (zeF s) (λk wr=>k<=zeF s/\∃g2 cap kn o,zcN w wr gl s.sp M P D base bo bm g2 cap kn o/\zc7 s gl o kn/\zcE s o kn<=k/\zds s gl k o kn=zb3 s gl)
  case atStart=>exact⟨Nat.le_refl _,base,2,[],_,HS.out,(zgg Hok.out.1 Hok.out.2).1,(zgg Hok.out.1 Hok.out.2).2,rfl⟩
  case round=>
   clear HS wL;obtain⟨hk,g2,cap,kn,o,hR,hI,hr,hf⟩:=hrel;have hne:=hI.ne;have hl1:1<=o.length:=List.length_pos_iff.2 hne;have hl2:=Nat.le_trans (Nat.le_add_left _ _) hr;obtain⟨k,rfl⟩:∃k,gk=k+1:=⟨gk-1,by omega⟩;have hz:=Nat.le_trans hl2 (Nat.le_trans hk (zjk Hok.out.1.ok));have HR:=zH hR;have HI:Hid (zc7 s gl o kn/\zcE s o kn<=k+1/\zds s gl (k+1) o kn=zb3 s gl/\o≠[]):=⟨hI,hr,hf,hne⟩;have hok:=hI.pop.1;have hta:=znz (zbD o);obtain⟨v,hv⟩:∃v,zbD o=v:=⟨_,rfl⟩;have Hv:=zH hv;rw[hv] at hok hta;have Hokv:=zH hok;have hlt:=hR.hp.lt;have hgl:=hR.hp.glt;have hml:=hR.ml;clear hR hI hr hf hne hok hv;go_upto_region 6 with fail
   go_wp2_with fail;go_at_call 223;refine(zvY bo base g2 cap o _ HR.out.hp HI.out.2.2.2 (by omega)).mono ?_;rintro e w5 ⟨rfl,h5,k5⟩;rw[Hv.out];have H5:=zH<|HR.out.pushed h5 k5 (.inl rfl)
   have z5:=k5.size;clear h5 k5;go_upto_region 7 with fail
   have hX:∃wX X,w5.alloc (.cells (zcJ v) 237)=wX/\w5.heap.size=X/\zcN w wX gl s.sp M P D base bo bm g2 cap kn (zcL o)/\wX.heap[X]?=some (.cells (zcJ v) 237)/\X<wX.heap.size:=⟨_,_,rfl,rfl,H5.out.below ((Below.refl _ _).alloc (Nat.le_refl _) _),zf _ _,by simp⟩;obtain⟨wX,X,hwX,hXe,hX1,bX,zX⟩:=hX;simp only[zcJ] at hwX;rw[hwX,hXe];rw[hXe] at z5;have HX:=zH hX1;have HbX:=zH bX;have q0:wX.cell? ⟨X,0,none⟩=some (.string ⟨v.b.toArray⟩):=za bX 0;have q1:wX.cell? ⟨X,1,none⟩=some (.int .i64 v.k):=za bX 1;have q2:wX.cell? ⟨X,2,none⟩=some (.int .i64 v.e.x):=za bX 2;have q3:wX.cell? ⟨X,3,none⟩=some (.int .i64 v.e.y):=za bX 3;have q4:wX.cell? ⟨X,4,none⟩=some (.bool v.e.pend):=za bX 4;have q5:wX.cell? ⟨X,5,none⟩=some (.int .i64 v.e.pen.f):=za bX 5;have q6:wX.cell? ⟨X,6,none⟩=some (.int .i64 v.e.pen.b):=za bX 6;have q7:wX.cell? ⟨X,7,none⟩=some (.bool v.e.pen.bo):=za bX 7;have q8:wX.cell? ⟨X,8,none⟩=some (.bool v.e.pen.un):=za bX 8;have q9:wX.cell? ⟨X,9,none⟩=some (.bool v.e.pen.re):=za bX 9;have m0:wX.cell? ⟨M,0,none⟩=some (.int .i64 gl.x):=za hX1.hM 0;have m1:wX.cell? ⟨M,1,none⟩=some (.int .i64 gl.y):=za hX1.hM 1;have m2:wX.cell? ⟨M,2,none⟩=some (.int .i64 gl.pen.f):=za hX1.hM 2;have m3:wX.cell? ⟨M,3,none⟩=some (.int .i64 gl.pen.b):=za hX1.hM 3;have m4:wX.cell? ⟨M,4,none⟩=some (.bool gl.pen.bo):=za hX1.hM 4;have m5:wX.cell? ⟨M,5,none⟩=some (.bool gl.pen.un):=za hX1.hM 5;have m6:wX.cell? ⟨M,6,none⟩=some (.bool gl.pen.re):=za hX1.hM 6;have m7:wX.cell? ⟨M,7,none⟩=some (.bool gl.letter):=za hX1.hM 7;have s3:wX.cell? ⟨P,3,none⟩=some (.int .i64 s.pen.f):=za hX1.hP 3;have s4:wX.cell? ⟨P,4,none⟩=some (.int .i64 s.pen.b):=za hX1.hP 4;have s5:wX.cell? ⟨P,5,none⟩=some (.bool s.pen.bo):=za hX1.hP 5;have s6:wX.cell? ⟨P,6,none⟩=some (.bool s.pen.un):=za hX1.hP 6;have s7:wX.cell? ⟨P,7,none⟩=some (.bool s.pen.re):=za hX1.hP 7;have zM:=Nat.lt_of_lt_of_le hX1.mb hX1.bl;have zP:=Nat.lt_of_lt_of_le hX1.pb hX1.bl;clear hX1 bX hwX hXe H5;go_wp2_with fail;go_at_call 224;refine(zvQ gl v.e wX Hokv.out.inn.y0 (by have:=Hokv.out.inn.y1;have:=Hok.out.1.ok.h2;omega)).mono ?_;rintro e w6 ⟨rfl,hb6⟩;have HX6:=zH<|HX.out.below hb6
   have HbX6:=zH<|(hb6.block X zX).trans HbX.out
   have e1:=hb6.cells (b:=M) zM;have e2:=hb6.cells (b:=X) zX;have e3:=hb6.cells (b:=P) zP;simp only[←e1] at m0 m1 m2 m3 m4 m5 m6 m7;simp only[←e2] at q0 q1 q2 q3 q4 q5 q6 q7 q8 q9;simp only[←e3] at s3 s4 s5 s6 s7;have z6:=hb6.size;clear hb6 e1 e2 e3 HX HbX;cases hat:gl.isAt v.e with
   |true=>
    have Hout:Hid (zb3 s gl=zfP s gl v):=by
     have:=HI.out.2.2.1;rw[zds,Hv.out,if_pos hat] at this;exact this.symm
    have hk1:=Hokv.out.k;have hk2:v.b.length<=1000:=by have:=Hokv.out.len;have:=zga x1 y1;omega
    have t1:=zrf v.b v.k hk1;have t2:=zrg v.b v.k hk1;obtain⟨A,hA⟩:∃A,v.b.take v.k=A:=⟨_,rfl⟩;obtain⟨C,hC⟩:∃C,v.b.drop v.k=C:=⟨_,rfl⟩;obtain⟨B,hB⟩:∃B,zcD s.pen gl.pen=B:=⟨_,rfl⟩;have HABC:Hid (zb3 s gl=A++B++C/\zcD s.pen gl.pen=B):=⟨by rw[Hout.out,←hA,←hB,←hC];rfl,hB⟩;have hlA:A.length<=1000:=by rw[←hA,List.length_take];omega
    have hlC:C.length<=1000:=by rw[←hC,List.length_drop];omega
    have hlB:B.length<=20:=by rw[←hB];exact zkZ _ Hok.out.2.pen
    rw[hA] at t1;rw[hC] at t2;have hb1:(({data:=A.toArray}:ByteArray) ++ {data:=B.toArray})={data:=(A++B).toArray}:=zdK _ _;have hb2:(({data:=(A++B).toArray}:ByteArray) ++ {data:=C.toArray})={data:=(A++B++C).toArray}:=zdK _ _;have hs1:(({data:=A.toArray}:ByteArray).size+({data:=B.toArray}:ByteArray).size)<=2000:=by show A.length+B.length<=2000;omega
    have hs2:(({data:=(A++B).toArray}:ByteArray).size+({data:=C.toArray}:ByteArray).size)<=3000:=by show(A++B).length+C.length<=3000;rw[List.length_append];omega
    have hn1:¬(9223372036854775807<(({data:=A.toArray}:ByteArray).size+({data:=B.toArray}:ByteArray).size)):=by omega
    have hn2:¬(9223372036854775807<(({data:=(A++B).toArray}:ByteArray).size+({data:=C.toArray}:ByteArray).size)):=by omega
    have ha1:∀w,Sem.run Tryz.prog (Op.stringOp .add ⟨A.toArray⟩ ⟨B.toArray⟩) w=.ok (.string ⟨(A++B).toArray⟩) w:=λw=>by rw[run_string_add_sum w _ _ (by omega),hb1]
    have ha2:∀w,Sem.run Tryz.prog (Op.stringOp .add ⟨(A++B).toArray⟩ ⟨C.toArray⟩) w=.ok (.string ⟨(A++B++C).toArray⟩) w:=λw=>by rw[run_string_add_sum w _ _ (by omega),hb2]
    generalize A++B++C=AC at HABC hb2 ha2;generalize A++B=AB at hb1 hb2 hs2 hn2 ha1 ha2;clear hA hB hC hlA hlB hlC hk1 hk2 hs1 hs2;go_wp2_with fail;go_region_held3 (λw'=>w'.cell? ⟨M,2,none⟩=some (.int .i64 gl.pen.f)/\w'.cell? ⟨M,3,none⟩=some (.int .i64 gl.pen.b)/\w'.cell? ⟨M,4,none⟩=some (.bool gl.pen.bo)/\w'.cell? ⟨M,5,none⟩=some (.bool gl.pen.un)/\w'.cell? ⟨M,6,none⟩=some (.bool gl.pen.re)/\w'.cell? ⟨P,3,none⟩=some (.int .i64 s.pen.f)/\w'.cell? ⟨P,4,none⟩=some (.int .i64 s.pen.b)/\w'.cell? ⟨P,5,none⟩=some (.bool s.pen.bo)/\w'.cell? ⟨P,6,none⟩=some (.bool s.pen.un)/\w'.cell? ⟨P,7,none⟩=some (.bool s.pen.re)/\w'.cell? ⟨X,0,none⟩=some (.string ⟨v.b.toArray⟩)/\w'.cell? ⟨X,1,none⟩=some (.int .i64 v.k)) (simp[*]) (first|(go_at_call 199;refine(zh0 s.pen gl.pen _ Hok.out.2.pen).mono ?_;rintro e w7 ⟨rfl,hb7⟩;rw[HABC.out.2];have hb8:=zL hb7;have e4:=hb8.cells (b:=M) (by omega);have e5:=hb8.cells (b:=P) (by omega);have e6:=hb8.cells (b:=X) (by omega);have HB8:=zH<|hb8;clear hb7 hb8));go_wp2_with fail;go_ret;exact⟨by rw[HABC.out.1];rfl,HX6.out.bel.trans (HB8.out.mono HX6.out.bel.size)⟩
   |false=>
    clear s3 s4 s5 s6 s7;have hfit:=zif Hok.out.1 Hok.out.2 ⟨Hokv.out.inn,Hokv.out.pen⟩;have Hkf:Hid ((∀q∈kn,q.Fits)/\v.e.Fits):=⟨λq hq=>zif Hok.out.1 Hok.out.2 (HI.out.1.kn q hq),hfit⟩;have HKY:=zH<|zfw hfit
    clear hfit;have Hat:=zH hat;cases hkb:zeE kn v.e with
    |true=>
     have Hkb:=zH hkb;go_upto_region 9 with fail
     go_wp2_with (at_lookup;refine wpList_lookup_own_unit _ rfl _ _ 241 rfl 235 244 zfU Tryz.underlying241 (zjl _) bm kn.length (zff kn) rfl HX6.out.set _ (zfe v.e) rfl HKY.out ?_;rw[zji Hkf.out.1 Hkf.out.2,Hkb.out]);go_roundg k
     case measure=>omega
     case rel=>
      have a:=HI.out.1.known (by rw[Hv.out];exact Hat.out);have b:=HI.out.2.2.1;rw[zds,Hv.out,if_neg (by rw[Hat.out];decide),if_pos Hkb.out] at b;exact⟨by omega,g2,cap,kn,zcL o,HX6.out.below ((Below.refl _ _).alloc (Nat.le_refl _) _),a.1,by have:=a.2;have:=HI.out.2.1;omega,b⟩
    |false=>
     have Hkb:=zH hkb;go_upto_region 9 with fail
     go_upto_region 11 with(at_lookup;refine wpList_lookup_own_unit _ rfl _ _ 241 rfl 235 244 zfU Tryz.underlying241 (zjl _) bm kn.length (zff kn) rfl HX6.out.set _ (zfe v.e) rfl HKY.out ?_;rw[zji Hkf.out.1 Hkf.out.2,Hkb.out])
     obtain⟨w7,hw7⟩:∃w7,w6.alloc (.cells #[] 244)=w7:=⟨_,rfl⟩;have b7:=hw7 ▸ (Below.refl _ _).alloc (Nat.le_refl _) _;rw[hw7];have H7:=zH<|HX6.out.below b7
     have HbX7:=zH<|(b7.block X (by omega)).trans HbX6.out
     have e1:=b7.cells (b:=M) (by omega);have e2:=b7.cells (b:=X) (by omega);simp only[←e1] at m0 m1 m2 m3 m4 m5 m6 m7;simp only[←e2] at q0 q1 q2 q3 q4 q5 q6 q7 q8 q9;have z7:=b7.size;clear b7 hw7 e1 e2 HX6 HbX6;have hnl:kn.length<maxLen:=by have:=zqB HI.out.1.nd HI.out.1.kn;have:=zjk Hok.out.1.ok;unfold zeF at this;unfold maxLen;omega
     have Hnl:=zH hnl;clear hnl;go_upto_region 12 with(at_mapUpdate;refine wpList_mapUpdate_own _ rfl _ _ _ 241 rfl 235 244 zfU Tryz.underlying241 _ bm kn.length (zff kn) rfl H7.out.set Hnl.out _ _ (zfe v.e) rfl rfl HKY.out (.agg []) [] unitElem_mk ?_;intro w8 hown8 hgrow8)
     have H8:=zH<|H7.out.known hgrow8 hown8
     have k8:zd (λi=>i=bm) w7 w8:=zd.grown (zd.refl _ w7) hgrow8 (λi e _=>by injection e with e;exact e.symm);have b8:=(k8.block X (by omega) (by omega)).trans HbX7.out;have HbX8:=zH b8;have z8:=k8.size;clear hown8 hgrow8 k8 H7 HbX7;clear q0 q1 q2 q3 q4 q5 q6 q7 q8 q9 m0 m1 m2 m3 m4 m5 m6 m7;have q2:w8.cell? ⟨X,2,none⟩=some (.int .i64 v.e.x):=za b8 2;have q3:w8.cell? ⟨X,3,none⟩=some (.int .i64 v.e.y):=za b8 3;have q4:w8.cell? ⟨X,4,none⟩=some (.bool v.e.pend):=za b8 4;have q5:w8.cell? ⟨X,5,none⟩=some (.int .i64 v.e.pen.f):=za b8 5;have q6:w8.cell? ⟨X,6,none⟩=some (.int .i64 v.e.pen.b):=za b8 6;have q7:w8.cell? ⟨X,7,none⟩=some (.bool v.e.pen.bo):=za b8 7;have q8:w8.cell? ⟨X,8,none⟩=some (.bool v.e.pen.un):=za b8 8;have q9:w8.cell? ⟨X,9,none⟩=some (.bool v.e.pen.re):=za b8 9;have m0:w8.cell? ⟨M,0,none⟩=some (.int .i64 gl.x):=za H8.out.hM 0;have m1:w8.cell? ⟨M,1,none⟩=some (.int .i64 gl.y):=za H8.out.hM 1;have m2:w8.cell? ⟨M,2,none⟩=some (.int .i64 gl.pen.f):=za H8.out.hM 2;have m3:w8.cell? ⟨M,3,none⟩=some (.int .i64 gl.pen.b):=za H8.out.hM 3;have m4:w8.cell? ⟨M,4,none⟩=some (.bool gl.pen.bo):=za H8.out.hM 4;have m5:w8.cell? ⟨M,5,none⟩=some (.bool gl.pen.un):=za H8.out.hM 5;have m6:w8.cell? ⟨M,6,none⟩=some (.bool gl.pen.re):=za H8.out.hM 6;have m7:w8.cell? ⟨M,7,none⟩=some (.bool gl.letter):=za H8.out.hM 7;clear b8;go_wp2_with fail;go_at_call 225;refine(zuP bs bg g N s t v.e gl w8 (HP.out.below H8.out.bel) Hok.out.1.ok Hokv.out.inn Hok.out.2).mono ?_;rintro e w9 ⟨vS,rfl,hr9,hb9⟩;have hlen:=zi0 s v.e gl;have hlen1:1<=(zbr s v.e gl).length:=by unfold zbr;simp
     obtain⟨L,hL⟩:∃L,zbr s v.e gl=L:=⟨_,rfl⟩;have HL:=zH hL;rw[hL] at hr9 hlen hlen1;obtain⟨gs,capS,rfl⟩:=zam hr9 hlen1;have H9:=zH<|H8.out.below hb9
     have HbX9:=zH<|(hb9.block X (by omega)).trans HbX8.out
     have HW9:Hid (zcA w9 w8.heap.size gs L.length capS L):=hr9;have hgs:=hr9.lt gs rfl;have z9:=hb9.size;clear hL hr9 hb9 H8 HbX8 q2 q3 q4 q5 q6 q7 q8 q9 m0 m1 m2 m3 m4 m5 m6 m7;go_wp2_with fail;have Hsh:Hid (∀st∈L,st.b.length<=100):=by
      show∀st∈L,st.b.length<=100;rw[←HL.out];exact zlx Hok.out.1.ok Hokv.out.inn Hok.out.2
     have hvl:v.b.length<=1000:=by have:=Hokv.out.len;have:=zga x1 y1;omega
     go_loopw[89] (λvi wi=>∃(j g3 cap3:Nat),vi=.int .i64 j/\j<=L.length/\zcN w wi gl s.sp M P D base bo bm g3 cap3 (kn ++ [v.e]) (zaC (zag gl.x gl.y).length v (L.take j) (zcL o))/\zcA wi w8.heap.size gs L.length capS L/\wi.heap[X]?=some (.cells (zcJ v) 237)/\X≠g3/\gs≠g3/\w9.heap.size<=wi.heap.size) (λvi _=>L.length-(intOf vi).toNat)
     case atStart=>exact⟨0,g2,cap,rfl,Nat.zero_le _,H9.out,HW9.out,HbX9.out,by omega,by omega,Nat.le_refl _⟩
     case round=>
      obtain⟨j,g3,cap3,rfl,hj,hR2,hW2,hX2,n1,n2,z2⟩:=hrel;have HR2:=zH hR2;have HW2:=zH hW2;have HX2:=zH hX2;clear hR2 hX2 H9 HW9 HbX9;by_cases hc:j<L.length
      ·have hc':(j:Int)<(L.length:Int):=by omega
       obtain⟨c0,c1,c2,c3,c4,c5,c6,c7,c8,c9⟩:=zh2 (zbt hW2 hc);have hul:(gW L j).b.length<=100:=Hsh.out _ (by rw[zrh hc];exact List.getElem_mem hc);obtain⟨u,hu⟩:∃u,gW L j=u:=⟨_,rfl⟩;have Hu:=zH hu;rw[hu] at c0 c1 c2 c3 c4 c5 c6 c7 c8 c9 hul;clear hW2 hu;go_upto_region 15 with fail
       have hZ:∃w10 Z,wr.alloc (.cells (zcJ u) 237)=w10/\wr.heap.size=Z/\Below wr.heap.size wr w10/\w10.heap[Z]?=some (.cells (zcJ u) 237)/\w10.heap.size=Z+1:=⟨_,_,rfl,rfl,(Below.refl _ _).alloc (Nat.le_refl _) _,zf _ _,by simp⟩;obtain⟨w10,Z,hw10,hZe,b10,hy,zZ⟩:=hZ;simp only[zcJ] at hw10;rw[hw10,hZe];have hx:=(b10.block X (by omega)).trans HX2.out;have HB10:=zH b10;have x0:w10.cell? ⟨X,0,none⟩=some (.string ⟨v.b.toArray⟩):=za hx 0;have x1:w10.cell? ⟨X,1,none⟩=some (.int .i64 v.k):=za hx 1;have x2:w10.cell? ⟨X,2,none⟩=some (.int .i64 v.e.x):=za hx 2;have x3:w10.cell? ⟨X,3,none⟩=some (.int .i64 v.e.y):=za hx 3;have x4:w10.cell? ⟨X,4,none⟩=some (.bool v.e.pend):=za hx 4;have x5:w10.cell? ⟨X,5,none⟩=some (.int .i64 v.e.pen.f):=za hx 5;have x6:w10.cell? ⟨X,6,none⟩=some (.int .i64 v.e.pen.b):=za hx 6;have x7:w10.cell? ⟨X,7,none⟩=some (.bool v.e.pen.bo):=za hx 7;have x8:w10.cell? ⟨X,8,none⟩=some (.bool v.e.pen.un):=za hx 8;have x9:w10.cell? ⟨X,9,none⟩=some (.bool v.e.pen.re):=za hx 9;have y0:w10.cell? ⟨Z,0,none⟩=some (.string ⟨u.b.toArray⟩):=za hy 0;have y1:w10.cell? ⟨Z,1,none⟩=some (.int .i64 u.k):=za hy 1;have y2:w10.cell? ⟨Z,2,none⟩=some (.int .i64 u.e.x):=za hy 2;have y3:w10.cell? ⟨Z,3,none⟩=some (.int .i64 u.e.y):=za hy 3;have y4:w10.cell? ⟨Z,4,none⟩=some (.bool u.e.pend):=za hy 4;have y5:w10.cell? ⟨Z,5,none⟩=some (.int .i64 u.e.pen.f):=za hy 5;have y6:w10.cell? ⟨Z,6,none⟩=some (.int .i64 u.e.pen.b):=za hy 6;have y7:w10.cell? ⟨Z,7,none⟩=some (.bool u.e.pen.bo):=za hy 7;have y8:w10.cell? ⟨Z,8,none⟩=some (.bool u.e.pen.un):=za hy 8;have y9:w10.cell? ⟨Z,9,none⟩=some (.bool u.e.pen.re):=za hy 9;clear hw10 hx hy b10 c0 c1 c2 c3 c4 c5 c6 c7 c8 c9;go_wp2_with fail;go_at_call 226;refine(zvN v u w10 hvl (by omega)).mono ?_;rintro e w11 ⟨rfl,hb11⟩;have HB11:=zH<|HB10.out.trans (hb11.mono (by omega))
       have z11:=hb11.size;obtain⟨y,hy⟩:∃y,zaF v u=y:=⟨_,rfl⟩;have Hy:=zH hy;rw[hy];clear hb11 hy x0 x1 x2 x3 x4 x5 x6 x7 x8 x9 y0 y1 y2 y3 y4 y5 y6 y7 y8 y9;go_upto_region 16 with fail
       have hY:∃w12 Y,w11.alloc (.cells (zcJ y) 237)=w12/\w11.heap.size=Y/\Below wr.heap.size wr w12/\w12.heap[Y]?=some (.cells (zcJ y) 237)/\w11.heap.size<=w12.heap.size:=⟨_,_,rfl,rfl,HB11.out.alloc HB11.out.size _,zf _ _,by simp⟩;obtain⟨w12,Y,hw12,hYe,b12,hx,z12⟩:=hY;simp only[zcJ] at hw12;rw[hw12,hYe];have H12:=zH<|HR2.out.below b12
       have HB12:=zH b12;have x0:w12.cell? ⟨Y,0,none⟩=some (.string ⟨y.b.toArray⟩):=za hx 0;have x1:w12.cell? ⟨Y,1,none⟩=some (.int .i64 y.k):=za hx 1;have x2:w12.cell? ⟨Y,2,none⟩=some (.int .i64 y.e.x):=za hx 2;have x3:w12.cell? ⟨Y,3,none⟩=some (.int .i64 y.e.y):=za hx 3;have x4:w12.cell? ⟨Y,4,none⟩=some (.bool y.e.pend):=za hx 4;have x5:w12.cell? ⟨Y,5,none⟩=some (.int .i64 y.e.pen.f):=za hx 5;have x6:w12.cell? ⟨Y,6,none⟩=some (.int .i64 y.e.pen.b):=za hx 6;have x7:w12.cell? ⟨Y,7,none⟩=some (.bool y.e.pen.bo):=za hx 7;have x8:w12.cell? ⟨Y,8,none⟩=some (.bool y.e.pen.un):=za hx 8;have x9:w12.cell? ⟨Y,9,none⟩=some (.bool y.e.pen.re):=za hx 9;obtain⟨pl,hpl⟩:∃pl,zag gl.x gl.y=pl:=⟨_,rfl⟩;have Hpl:=zH hpl;have d0:w12.cell? ⟨D,0,none⟩=some (.string ⟨pl.toArray⟩):=by rw[←hpl];exact za H12.out.hD 0
       have e1:((({data:=y.b.toArray}:ByteArray).size:Nat):Int)=(y.b.length:Int):=rfl;have e2:((({data:=pl.toArray}:ByteArray).size:Nat):Int)=(pl.length:Int):=rfl;have zr:=HB12.out.size;clear hw12 hx b12 hpl HB10 HB11 hZe;have hlp:(zaC (zag gl.x gl.y).length v (L.take j) (zcL o)).length<100000:=by
        have a:=zgK (n:=(zag gl.x gl.y).length) (w:=v) (L.take j) (zcL o);have b:=zhS HI.out.2.2.2;rw[List.length_take] at a;omega
       have Hlp:=zH hlp;clear hlp;by_cases hyl:y.b.length<pl.length
       ·have hyl':(y.b.length:Int)<(pl.length:Int):=by omega
        go_wp2_with fail;go_at_call 227;refine(zuB bo base g3 cap3 _ y w12 H12.out.hp Hlp.out).mono ?_;rintro e w13 ⟨g4,cap4,rfl,h13,k13,og⟩;have H13:Hid (zcN w w13 gl s.sp M P D base bo bm g4 cap4 (kn ++ [v.e]) (zaC (zag gl.x gl.y).length v (L.take (j+1)) (zcL o))):=by
         show zcN w w13 gl s.sp M P D base bo bm g4 cap4 (kn ++ [v.e]) (zaC (zag gl.x gl.y).length v (L.take (j+1)) (zcL o));rw[zfW _ hc,Hu.out,Hy.out,if_pos (by rw[Hpl.out];exact hyl)];exact H12.out.pushed h13 k13 og
        have HW13:Hid (zcA w13 w8.heap.size gs L.length capS L):=ZH HW2.out (λi e=>by
         have e:gs=i:=by injection e
         rw[←e];exact(k13.block gs (by omega) (by omega)).trans (HB12.out.block gs (by omega)))
        have HX13:=zH<|(k13.block X (by omega) (by omega)).trans ((HB12.out.block X (by omega)).trans HX2.out)
        have z13:=k13.size;have n3:X≠g4/\gs≠g4:=by omega
        clear h13 k13 og x0 x1 x2 x3 x4 x5 x6 x7 x8 x9 d0;go_wp2_with fail;go_roundw
        case rel=>exact⟨j+1,g4,cap4,by go_num,by omega,H13.out,HW13.out,HX13.out,n3.1,n3.2,by omega⟩
        case measure=>simp[intOf];omega
       ·have hyl':¬((y.b.length:Int)<(pl.length:Int)):=by omega
        go_wp2_with fail;have H13:Hid (zcN w w12 gl s.sp M P D base bo bm g3 cap3 (kn ++ [v.e]) (zaC (zag gl.x gl.y).length v (L.take (j+1)) (zcL o))):=by
         show zcN w w12 gl s.sp M P D base bo bm g3 cap3 (kn ++ [v.e]) (zaC (zag gl.x gl.y).length v (L.take (j+1)) (zcL o));rw[zfW _ hc,Hu.out,Hy.out,if_neg (by rw[Hpl.out];exact hyl)];exact H12.out
        have HW13:Hid (zcA w12 w8.heap.size gs L.length capS L):=ZH HW2.out (λi e=>by
         have e:gs=i:=by injection e
         rw[←e];exact HB12.out.block gs (by omega))
        go_roundw
        case rel=>exact⟨j+1,g3,cap3,by go_num,by omega,H13.out,HW13.out,(HB12.out.block X (by omega)).trans HX2.out,n1,n2,by omega⟩
        case measure=>simp[intOf];omega
      ·have ej:j=L.length:=by omega
       have Hej:=zH ej;clear hW2;have hcn:¬((j:Int)<(L.length:Int)):=by omega
       clear ej;go_wp2_with fail;go_roundg k
       case measure=>omega
       case rel=>
        have hat2:gl.isAt (zbD o).e=false:=by rw[Hv.out];exact Hat.out
        have a:=zc7.fresh Hok.out.1 Hok.out.2 HI.out.1 hat2 (by rw[Hv.out];exact Hkb.out);have b:=HI.out.2.2.1;rw[zds,if_neg (by rw[hat2];decide),if_neg (by rw[Hv.out,Hkb.out];decide)] at b;have c:=HR2.out;rw[Hej.out,List.take_length,←HL.out] at c;rw[Hv.out] at a b;exact⟨by omega,g3,cap3,kn ++ [v.e],_,c,a.1,by have:=a.2;have:=HI.out.2.1;omega,b⟩
end
section
open Go.RowKit
attribute [local go_sem ↓] Go.wp_at_zero Go.wp_at_succ
theorem zs5 (a b:zk) (w:World):(binOp .eql 38 a.agg b.agg).run Tryz.prog w=.ok (.bool (a.eqB b)) w:=by
 obtain⟨r,p,⟨f,n,bo,un,re⟩⟩:=a;obtain⟨r',p',⟨f',n',bo',un',re'⟩⟩:=b;go_simp
 unfold zk.eqB Pn.eqB;by_cases h1:r=r'
 ·by_cases h2:p=p'
  ·by_cases h3:f=f'
   ·by_cases h4:n=n'
    ·by_cases h5:bo=bo'
     ·by_cases h6:un=un'
      ·by_cases h7:re=re'
       ·simp[h1,h2,h3,h4,h5,h6,h7]
       ·simp[h1,h2,h3,h4,h5,h6,h7]
      ·simp[h1,h2,h3,h4,h5,h6]
     ·simp[h1,h2,h3,h4,h5]
    ·simp[h1,h2,h3,h4]
   ·simp[h1,h2,h3]
  ·simp[h1,h2]
 ·simp[h1]
theorem zjm (w:World) (a b:Nat):∃q,(w.drewN a).drewN b=w.drewN q:=⟨a+b,by simp[World.drewN,Nat.add_assoc]⟩
theorem zrj {p:Nat->Bool} {n k:Nat} (hk:k<n) (hp:p k=true) (h:zci p n 0=k+zci p (n-k) k):zci p n 0=(k+1)+zci p (n-(k+1)) (k+1):=by
 obtain⟨m,rfl⟩:∃m,n=k+1+m:=⟨n-(k+1),by omega⟩;have e1:k+1+m-k=m+1:=by omega
 have e2:k+1+m-(k+1)=m:=by omega
 rw[h,e1,e2,zci,if_pos hp];omega
theorem zrk {p:Nat->Bool} {n k:Nat} (hk:k<n) (hp:p k=false) (h:zci p n 0=k+zci p (n-k) k):zci p n 0=k:=by
 obtain⟨m,rfl⟩:∃m,n=k+1+m:=⟨n-(k+1),by omega⟩;have e1:k+1+m-k=m+1:=by omega
 rw[h,e1,zci,if_neg (by rw[hp];decide)];rfl
theorem zrl (g off n cap:Nat) (c:Nat->zk) (w:World) (h:∀i,i<n->zv w g (off+i*7) (c i)) (hn:n<=100000):
 Calls Tryz.prog 219 #[.slice (some ⟨g,off,none⟩) n cap] w λe w'=>e=.returned (.int .i64 (zci (λi=>(c i).eqB (c 0)) n 0:Nat))/\∃q,w'=w.drewN q:=by
 have HH:=zH h;clear h;go_in;go_wp2_with fail;go_loopw[3] (λvi wr=>∃k:Nat,vi=.int .i64 k/\k<=n/\zci (λi=>(c i).eqB (c 0)) n 0=k+zci (λi=>(c i).eqB (c 0)) (n-k) k/\∃q,wr=w.drewN q) (λvi _=>n-(intOf vi).toNat)
 case atStart=>exact⟨0,rfl,Nat.zero_le _,by simp,0,rfl⟩
 case round=>
  obtain⟨k,rfl,hk,hr,q,rfl⟩:=hrel;have Hr:=zH hr;clear hr;by_cases hc:k<n
  ·have hc':(k:Int)<(n:Int):=by omega
   have hn0:(0:Int)<(n:Int):=by omega
   obtain⟨a0,a1,a2,a3,a4,a5,a6⟩:=HH.out 0 (by omega);obtain⟨b0,b1,b2,b3,b4,b5,b6⟩:=HH.out k hc;have heq:=λw=>zs5 (c k) (c 0) w;simp only[Nat.zero_mul,Nat.add_zero] at a0 a1 a2 a3 a4 a5 a6;cases he:(c k).eqB (c 0) with
   |true=>
    have He:=zH he;simp only[he] at heq;clear he;go_wp2_with fail;go_quiet (fail);go_wp2_with fail;go_roundw
    case rel=>exact⟨k+1,by go_num,by omega,zrj hc He.out Hr.out,_,rfl⟩
    case measure=>simp[intOf];omega
   |false=>
    have He:=zH he;simp only[he] at heq;clear he;go_wp2_with fail;go_quiet (fail);go_wp2_with fail;go_ret;exact⟨by rw[zrk hc He.out Hr.out];rfl,zjm _ _ _⟩
  ·have ek:k=n:=by omega
   have Hek:=zH ek;have hc':¬((k:Int)<(n:Int)):=by omega
   clear ek;go_wp2_with fail;go_quiet (fail);go_wp2_with fail;go_ret;refine⟨?_,zjm _ _ _⟩;have e:=Hr.out;rw[Hek.out,Nat.sub_self,zci,Nat.add_zero] at e;rw[e];exact congrArg (λx:Nat=>Ending.returned (.int .i64 x)) Hek.out
theorem zcO (a b:zk) (w:World):(binOp .neq 38 a.agg b.agg).run Tryz.prog w=.ok (.bool (!a.eqB b)) w:=by
 obtain⟨r,p,⟨f,n,bo,un,re⟩⟩:=a;obtain⟨r',p',⟨f',n',bo',un',re'⟩⟩:=b;go_simp
 unfold zk.eqB Pn.eqB;by_cases h1:r=r'
 ·by_cases h2:p=p'
  ·by_cases h3:f=f'
   ·by_cases h4:n=n'
    ·by_cases h5:bo=bo'
     ·by_cases h6:un=un'
      ·by_cases h7:re=re'
       ·simp[h1,h2,h3,h4,h5,h6,h7]
       ·simp[h1,h2,h3,h4,h5,h6,h7]
      ·simp[h1,h2,h3,h4,h5,h6]
     ·simp[h1,h2,h3,h4,h5]
    ·simp[h1,h2,h3,h4]
   ·simp[h1,h2,h3]
  ·simp[h1,h2]
 ·simp[h1]
structure PcM (w:World) (po:Nat) (lb lc:Nat->Nat) (W H:Nat) (P:Nat->Nat->zk):Prop where
 row:∀y,y<H->w.cell? ⟨po,y,none⟩=some (.slice (some ⟨lb y,0,none⟩) W (lc y))
 cap:∀y,y<H->W<=lc y
 cel:∀y x,y<H->x<W->zv w (lb y) (x*7) (P x y)
theorem PcM.far {w w':World} {po W H:Nat} {lb lc:Nat->Nat} {P:Nat->Nat->zk} (h:PcM w po lb lc W H P) (hb:∀i,i<w.heap.size->i=po\/(∃y,y<H/\i=lb y)->w'.heap[i]?=w.heap[i]?):PcM w' po lb lc W H P:=
 ⟨λy hy=>by
  have e:=hb po (World.block_lt_of_cell? _ _ (h.row y hy)) (.inl rfl);rw[←h.row y hy];simp[World.cell?,e],h.cap,λy x hy hx=>(h.cel y x hy hx).same (hb _ (h.cel y x hy hx).lt (.inr ⟨y,hy,rfl⟩))⟩
theorem PcM.below {w w':World} {po W H:Nat} {lb lc:Nat->Nat} {P:Nat->Nat->zk} (h:PcM w po lb lc W H P) (hb:Below w.heap.size w w'):PcM w' po lb lc W H P:=h.far (λi hi _=>hb.block i hi)
structure PtM (w:World) (bp po pc:Nat) (lb lc:Nat->Nat) (H:Nat) (P:Nat->Nat->zk) (bs bg g N:Nat) (s:Rs) (t:Pt):Prop where
 c0:w.cell? ⟨bp,0,none⟩=some (.slice (some ⟨po,0,none⟩) H pc)
 c1:w.cell? ⟨bp,1,none⟩=some (.pointer (some ⟨bs,0,none⟩))
 pic:PcM w po lb lc s.W H P
 hs:H=s.H
 hpc:H<=pc
 scr:zh w bs bg g N s t
theorem PtM.below {w w':World} {bp po pc H bs bg g N:Nat} {lb lc:Nat->Nat} {P:Nat->Nat->zk} {s:Rs} {t:Pt} (h:PtM w bp po pc lb lc H P bs bg g N s t) (hb:Below w.heap.size w w'):PtM w' bp po pc lb lc H P bs bg g N s t:=by
 have e:=hb.cells (b:=bp) (World.block_lt_of_cell? _ _ h.c0);exact⟨(e 0).trans h.c0,(e 1).trans h.c1,h.pic.below hb,h.hs,h.hpc,h.scr.below hb⟩
theorem zig (bp po pc:Nat) (lb lc:Nat->Nat) (H:Nat) (P:Nat->Nat->zk) (bs bg g N:Nat) (s:Rs) (t:Pt) (x y:Nat) (w:World) (h:PtM w bp po pc lb lc H P bs bg g N s t) (hx:x<s.W) (hy:y<s.H):
 Calls Tryz.prog 177 #[.pointer (some ⟨bp,0,none⟩),.int .i64 x,.int .i64 y] w λe w'=>e=.returned (.bool (ZL s P x y))/\Below w.heap.size w w':=by
 have HH:=zH h;have hyH:y<H:=by rw[h.hs];exact hy
 have c0:=h.c0;have c1:=h.c1;have r0:=h.pic.row y hyH;obtain⟨a0,a1,a2,a3,a4,a5,a6⟩:=h.pic.cel y x hyH hx;have zb:=World.block_lt_of_cell? _ _ c0;have zp:=World.block_lt_of_cell? _ _ r0;have zl:=World.block_lt_of_cell? _ _ a0;have hneq:=λw=>zcO (s.G x y) (P x y) w;have hx':(x:Int)<(s.W:Int):=by omega
 have hy':(y:Int)<(H:Int):=by omega
 have hd:ZL s P x y = !(s.G x y).eqB (P x y):=rfl;rw[hd];clear hd h;generalize (!(s.G x y).eqB (P x y))=bb at *;go_in;go_wp2_with fail;go_region_held3 (λw'=>w'.cell? ⟨bp,0,none⟩=some (.slice (some ⟨po,0,none⟩) H pc)/\w'.cell? ⟨bp,1,none⟩=some (.pointer (some ⟨bs,0,none⟩))/\w'.cell? ⟨po,y,none⟩=some (.slice (some ⟨lb y,0,none⟩) s.W (lc y))/\w'.cell? ⟨lb y,x*7,none⟩=some (.int .i32 (P x y).r)/\w'.cell? ⟨lb y,x*7+1,none⟩=some (.int .i64 (P x y).p)/\w'.cell? ⟨lb y,x*7+2,none⟩=some (.int .i64 (P x y).n.f)/\w'.cell? ⟨lb y,x*7+3,none⟩=some (.int .i64 (P x y).n.b)/\w'.cell? ⟨lb y,x*7+4,none⟩=some (.bool (P x y).n.bo)/\w'.cell? ⟨lb y,x*7+5,none⟩=some (.bool (P x y).n.un)/\w'.cell? ⟨lb y,x*7+6,none⟩=some (.bool (P x y).n.re)) (simp[*]) (first|(go_at_call 122;refine(znC bs bg g N s t x y _ (HH.out.scr.below (by first|exact Below.refl _ _|exact(Below.refl _ _).drew)) hx hy).mono ?_;rintro e w7 ⟨rfl,hb7⟩;have hb8:=zL hb7;have e4:=hb8.cells (b:=bp) zb;have e5:=hb8.cells (b:=po) zp;have e6:=hb8.cells (b:=lb y) zl;have HB8:=zH<|hb8;clear hb7 hb8));all_goals
  go_wp2_with fail;go_ret;exact⟨rfl,HB8.out⟩
def zpd (P:Nat->Nat->zk) (W:Nat) (c:zk) (y:Nat):Bool:=(P 0 y).eqB c&&decide (W<=zaI P W 0 y)
theorem zlz {f:Nat->Bool} {n k:Nat} (hk:k<n) (hf:f k=false):(List.range n).all f=false:=by
 cases h:(List.range n).all f with
 |false=>rfl
 |true=>
  have:=List.all_eq_true.1 h k (List.mem_range.2 hk);rw[hf] at this;cases this
theorem zrp {f:Nat->Bool} {n:Nat} (h:∀i,i<n->f i=true):(List.range n).all f=true:=List.all_eq_true.2 (λi hi=>h i (List.mem_range.1 hi))
theorem zv.drewN {w:World} {g o:Nat} {c:zk} (h:zv w g o c) (n:Nat):zv (w.drewN n) g o c:=h.same rfl
theorem zmL (po off y0 n pc:Nat) (lb lc:Nat->Nat) (W H:Nat) (P:Nat->Nat->zk) (c:zk) (w:World) (h:PcM w po lb lc W H P) (hn:y0+n=H) (hW:1<=W) (hW2:W<=1000) (hH:H<=1000) (hoff:n=0\/off=y0):
 Calls Tryz.prog 220 #[.slice (some ⟨po,off,none⟩) n pc,c.agg] w λe w'=>e=.returned (.bool (zdt P W H y0 c))/\Below w.heap.size w w':=by
 have HH:=zH h;have Hall:Hid (zdt P W H y0 c=(List.range n).all (λi=>zpd P W c (y0+i))):=by
  show zdt P W H y0 c=_;unfold zdt;rw[show H-y0=n by omega];rfl
 clear h;have Hoff:=zH hoff;clear hoff;obtain⟨M,hM⟩:∃M,w.heap.size=M:=⟨_,rfl⟩;have HM:=zH hM;go_in;go_wp2_with fail;have hA:∃wA,w.alloc (.cells #[.int .i32 c.r,.int .i64 c.p,.int .i64 c.n.f,.int .i64 c.n.b,.bool c.n.bo,.bool c.n.un,.bool c.n.re] 38)=wA/\Below w.heap.size w wA/\zv wA M 0 c/\wA.heap.size=M+1:=by
  subst hM;exact⟨_,rfl,(Below.refl _ _).alloc (Nat.le_refl _) _,zcq w c c.p rfl _,by simp⟩
 obtain⟨wA,hwA,belA,cA,zA⟩:=hA;rw[hwA];have HA:Hid (Below w.heap.size w wA/\PcM wA po lb lc W H P):=⟨belA,HH.out.below belA⟩;have HcA:=zH cA;clear hwA belA cA HH;go_loopw[9] (λvi wr=>∃k:Nat,vi=.int .i64 k/\k<=n/\(∀i,i<k->zpd P W c (y0+i)=true)/\Below wA.heap.size wA wr) (λvi _=>n-(intOf vi).toNat)
 case atStart=>exact⟨0,rfl,Nat.zero_le _,λi hi=>absurd hi (Nat.not_lt_zero _),Below.refl _ _⟩
 case round=>
  obtain⟨k,rfl,hk,hr,hbw⟩:=hrel;have HB:=zH hbw;have HW:Hid (Below w.heap.size w wr/\PcM wr po lb lc W H P):=⟨HA.out.1.trans (hbw.mono HA.out.1.size),HA.out.2.below hbw⟩;have HcW:=zH<|HcA.out.below hbw (by omega)
  clear hbw HA HcA;have Hr:=zH hr;clear hr;by_cases hc:k<n
  ·have hoff2:y0=off:=by have:=Hoff.out;omega
   subst hoff2;have hc':(k:Int)<(n:Int):=by omega
   have hW0:(0:Int)<(W:Int):=by omega
   have r0:=HW.out.2.row (y0+k) (by omega);obtain⟨a0,a1,a2,a3,a4,a5,a6⟩:=HW.out.2.cel (y0+k) 0 (by omega) hW;obtain⟨b0,b1,b2,b3,b4,b5,b6⟩:=HcW.out;have hne:=λw=>zcO (P 0 (y0+k)) c w;simp only[Nat.zero_mul,Nat.zero_add] at a0 a1 a2 a3 a4 a5 a6 b0 b1 b2 b3 b4 b5 b6;have HL:Hid (∀q,Calls Tryz.prog 219 #[.slice (some ⟨lb (y0+k),0,none⟩) W (lc (y0+k))] (wr.drewN q) λe w'=>e=.returned (.int .i64 (zaI P W 0 (y0+k):Nat))/\∃m,w'=(wr.drewN q).drewN m):=λq=>zrl (lb (y0+k)) 0 W (lc (y0+k)) (λi=>P i (y0+k)) (wr.drewN q) (λi hi=>by rw[Nat.zero_add];exact(HW.out.2.cel (y0+k) i (by omega) hi).drewN q) (by omega);have hal:zaI P W 0 (y0+k)<=W:=by have:=zmv (λi=>(P i (y0+k)).eqB (P 0 (y0+k))) (W-0) 0;exact this
   obtain⟨al,hal2⟩:∃al,zaI P W 0 (y0+k)=al:=⟨_,rfl⟩;have Hone:Hid (zpd P W c (y0+k)=((P 0 (y0+k)).eqB c&&decide (W<=al))):=by rw[←hal2];rfl
   rw[hal2] at hal HL;clear hal2;cases he:(P 0 (y0+k)).eqB c with
   |false=>
    have He:Hid (zpd P W c (y0+k)=false):=by
     show _=_;rw[Hone.out,he];rfl
    simp only[he,Bool.not_false] at hne;clear he;go_wp2_with fail;go_quiet ((go_at_call 219;exact Calls.quiet_of (HL.out _)));go_wp2_with fail;go_ret;exact⟨by rw[Hall.out,zlz hc He.out];rfl,by first|exact zcM HW.out.1 _|(rw[←HM.out];exact zcM HW.out.1 _)⟩
   |true=>
    simp only[he,Bool.not_true] at hne;by_cases hl:al<W
    ·have hl':(al:Int)<(W:Int):=by omega
     have He:Hid (zpd P W c (y0+k)=false):=by
      show _=_;rw[Hone.out,he,decide_eq_false (by omega)];rfl
     clear he hl hal;have hWn:0<W:=hW;go_wp2_with fail;go_quiet ((go_at_call 219;exact Calls.quiet_of (HL.out _)));go_wp2_with fail;go_ret;exact⟨by rw[Hall.out,zlz hc He.out];rfl,by first|exact zcM HW.out.1 _|(rw[←HM.out];exact zcM HW.out.1 _)⟩
    ·have hl':¬((al:Int)<(W:Int)):=by omega
     have He:Hid (zpd P W c (y0+k)=true):=by
      show _=_;rw[Hone.out,he,decide_eq_true (by omega)];rfl
     clear he hl hal;have hWn:0<W:=hW;go_wp2_with fail;go_quiet ((go_at_call 219;exact Calls.quiet_of (HL.out _)));go_wp2_with fail;go_roundw
     case rel=>exact⟨k+1,by go_num,by omega,λi hi=>by
      by_cases e:i<k
      ·exact Hr.out i e
      ·rw[show i=k by omega];exact He.out,zcM HB.out _⟩
     case measure=>simp[intOf];omega
  ·have ek:k=n:=by omega
   have Hek:=zH ek;have hc':¬((k:Int)<(n:Int)):=by omega
   clear ek;go_wp2_with fail;go_ret;exact⟨by rw[Hall.out,zrp (λi hi=>Hr.out i (by rw[Hek.out];exact hi))];rfl,by first|exact HW.out.1|(rw[←HM.out];exact HW.out.1)⟩
end
end Go.Proofs.YtjlfibhbfdckpaaGreatDoor
