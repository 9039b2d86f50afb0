import Derived.Test.YtjlfibhbfdckpaaGreatDoorW28
namespace Go.Proofs.YtjlfibhbfdckpaaGreatDoor
set_option maxHeartbeats 64000000
set_option maxRecDepth 100000
section
open Go.RowKit
attribute [local go_sem ↓] Go.wp_at_zero Go.wp_at_succ
def ZW (n v:Int):Int:=if n=0 then v else n
theorem zaA (bs bg g N:Nat) (s:Rs) (t:Pt) (i:Nat) (v:Int) (w:World) (h:zh w bs bg g N s t) (hi:i<8):
 Calls Tryz.prog 204 #[.pointer (some ⟨bs,17,none⟩),.int .i64 i,.int .i64 v] w λe w'=>e=.returned (.int .i64 (ZW (t.nm i) v))/\w'=w:=by
 have c:=h.num i hi;clear h;by_cases h0:t.nm i=0
 ·rw[show ZW (t.nm i) v=v from if_pos h0];rw[h0] at c;go_in;go_wp2;go_ret;exact⟨rfl,rfl⟩
 ·rw[show ZW (t.nm i) v=t.nm i from if_neg h0];go_in;go_wp2;go_ret;exact⟨rfl,rfl⟩
theorem zwN (bs bg g N:Nat) (s:Rs) (t:Pt) (w:World) (h:zh w bs bg g N s t) (c:Nat) (hc:t.cn=c) (hc8:c<=8):
 Calls Tryz.prog 210 #[.pointer (some ⟨bs,17,none⟩)] w λe w'=>e=.returned (.slice (some ⟨bs,17,none⟩) (if c=0 then 1 else c) 8)/\Below w.heap.size w w':=by
 have c25:=h.f25;rw[hc] at c25;obtain⟨m,hm⟩:∃m:Nat,(if c=0 then 1 else c)=m:=⟨_,rfl⟩;have hg:zK c 1=m:=by unfold zK;split at hm<;>split<;>omega
 have hm8:m<=8:=by split at hm<;>omega
 rw[hm];have hm9:(m:Int)<=8:=by omega
 have hm0:(0:Int)<=m:=by omega
 clear h hm;go_in;go_wp2_with fail;go_quiet ((go_at_call 139;exact Calls.quiet_of_same (zcf _ _ _)));go_wp2_with fail;go_ret;exact⟨rfl,Zc _ _⟩
def zcI (c:Int):Int:=if c<1 then 1 else c
def zfu (t:Pt) (d:Int):Pt:=if t.bad=true then t else {t with cn:=zcI t.cn,nm:=zhs t.nm ((zcI t.cn).toNat-1) (zf4 (t.nm ((zcI t.cn).toNat-1)*10+d))}
def ze4 (t:Pt):Pt:=if t.bad=true then t else {t with cn:=zcI t.cn+1,bad:=decide (8<zcI t.cn+1)}
theorem zoP (n:Int):ZU n 9999=zf4 n:=by unfold ZU zf4;rfl
theorem zfT (c:Int):zK c 1=zcI c:=by unfold zK zcI;rfl
theorem zuE (bs bg g N:Nat) (s:Rs) (t:Pt) (d:Int) (w:World) (h:zh w bs bg g N s t) (hcn:t.bad=false->0<=t.cn/\t.cn<=8) (hn:t.bad=false->∀i,i<8->0<=t.nm i/\t.nm i<=9999) (d0:0<=d) (d9:d<=9):
 Calls Tryz.prog 182 #[.pointer (some ⟨bs,17,none⟩),.int .i64 d] w (zV bs bg g N w s (zfu t d) (.tuple #[])):=by
 have HP:=zH h;have f26:=h.f26;have f25:=h.f25;have fz:=h.free;clear h;cases hb:t.bad with
 |true=>
  rw[hb] at f26;rw[show zfu t d=t from if_pos hb];go_in;go_wp2_with fail;exact bodyPost_ret (v:=.tuple #[]) (by simp[results,Tryz.results182,go_sem]) rfl ⟨rfl,HP.out,zd.refl _ _⟩
 |false=>
  rw[hb] at f26;obtain⟨c0,c8⟩:=hcn hb;have hn:=hn hb;obtain⟨i,hi⟩:∃i:Nat,zcI t.cn=(i:Int)+1:=⟨(zcI t.cn-1).toNat,by unfold zcI;split<;>omega⟩;have hi8:i<8:=by unfold zcI at hi;split at hi<;>omega
  have HT:Hid (zfu t d={t with cn:=(i:Int)+1,nm:=zhs t.nm i (zf4 (t.nm i*10+d))}):=by
   show zfu t d=_;unfold zfu;rw[if_neg (by rw[hb];decide),hi,show((i:Int)+1).toNat-1=i by omega]
  have hmg:zK t.cn 1=(i:Int)+1:=by rw[zfT,hi]
  obtain⟨n0,n9⟩:=hn i hi8;have hnum:=HP.out.num i hi8;have HP1:Hid (zh (w.setCell ⟨bs,25,none⟩ (.int .i64 ((i:Int)+1))) bs bg g N s {t with cn:=(i:Int)+1} ):=HP.out.setCn _;have hcap:=zoP (t.nm i*10+d);have hoff:¬25=17+i:=by omega
  generalize hnn:t.nm i=n at *;have HN:=zH hnn;clear hnn;go_in;go_wp2_with (first|(go_at_call 139;refine sM (zcf _ _ _) ?_)|(go_at_call 138;refine sM (zce _ _ _) ?_));clear HP f25 f26 fz hnum;have K1:zd (λi=>i=bs\/i=bg\/i=g) w (w.setCell ⟨bs,25,none⟩ (.int .i64 ((i:Int)+1))):=(zd.refl _ w).setCell ⟨bs,25,none⟩ _ (λ_=>Or.inl rfl);generalize w.setCell ⟨bs,25,none⟩ (.int .i64 ((i:Int)+1))=wa at *;have f25:wa.cell? ⟨bs,25,none⟩=some (.int .i64 ((i:Int)+1)):=HP1.out.f25;have wi:IntKind.i64.wrap ((i:Int)+1-1)=i:=by rw[zm _ (by omega) (by omega)];omega
  have i0:(0:Int)<=i:=by omega
  have i8:(i:Int)<8:=by omega
  go_quiet (fail);have HP2:=zH<|HP1.out.drewN nq
  have K2:=K1.drewN nq;generalize wa.drewN nq=wb at *;clear HP1 K1 f25;have fi:wb.cell? ⟨bs,17+i,none⟩=some (.int .i64 n):=by rw[←HN.out];exact HP2.out.num i hi8
  have fz:=HP2.out.free;go_wp2_with (first|(go_at_call 138;refine sM (zce _ _ _) ?_));go_end0;refine⟨rfl,?_,K2.setCell ⟨bs,17+i,none⟩ _ (λ_=>Or.inl rfl)⟩;rw[HT.out];exact HP2.out.setNum i hi8 _
theorem zoQ (bs bg g N:Nat) (s:Rs) (t:Pt) (w:World) (h:zh w bs bg g N s t) (hcn:t.bad=false->0<=t.cn/\t.cn<=8):
 Calls Tryz.prog 183 #[.pointer (some ⟨bs,17,none⟩)] w (zV bs bg g N w s (ze4 t) (.tuple #[])):=by
 have HP:=zH h;have f26:=h.f26;have f25:=h.f25;have fz:=h.free;clear h;cases hb:t.bad with
 |true=>
  rw[hb] at f26;rw[show ze4 t=t from if_pos hb];go_in;go_wp2_with fail;exact bodyPost_ret (v:=.tuple #[]) (by simp[results,Tryz.results183,go_sem]) rfl ⟨rfl,HP.out,zd.refl _ _⟩
 |false=>
  rw[hb] at f26;obtain⟨c0,c8⟩:=hcn hb;obtain⟨m,hm⟩:∃m:Int,zcI t.cn=m:=⟨_,rfl⟩;have hm8:m<=8:=by unfold zcI at hm;split at hm<;>omega
  have hm0:0<=m:=by unfold zcI at hm;split at hm<;>omega
  have HT:Hid (ze4 t={t with cn:=m+1,bad:=decide (8<m+1)}):=by
   show ze4 t=_;unfold ze4;rw[if_neg (by rw[hb];decide),hm]
  have hmg:zK t.cn 1=m:=by rw[zfT,hm]
  go_in;go_wp2_with (first|(go_at_call 139;refine sM (zcf _ _ _) ?_));go_end0;refine⟨rfl,?_,((zd.refl _ w).setCell ⟨bs,25,none⟩ _ (λ_=>Or.inl rfl)).setCell ⟨bs,26,none⟩ _ (λ_=>Or.inl rfl)⟩;rw[HT.out];exact(HP.out.setCn _).setBad _
theorem zh.setPenF {w:World} {bs bg g N:Nat} {s:Rs} {t:Pt} (h:zh w bs bg g N s t) (v:Int):zh (w.setCell ⟨bs,4,none⟩ (.int .i64 v)) bs bg g N {s with pen:={s.pen with f:=v} } t:=h.store 4 _ _ _ rfl rfl rfl rfl
theorem zh.setPenB {w:World} {bs bg g N:Nat} {s:Rs} {t:Pt} (h:zh w bs bg g N s t) (v:Int):zh (w.setCell ⟨bs,5,none⟩ (.int .i64 v)) bs bg g N {s with pen:={s.pen with b:=v} } t:=h.store 5 _ _ _ rfl rfl rfl rfl
theorem zh.setPenO {w:World} {bs bg g N:Nat} {s:Rs} {t:Pt} (h:zh w bs bg g N s t) (v:Bool):zh (w.setCell ⟨bs,6,none⟩ (.bool v)) bs bg g N {s with pen:={s.pen with bo:=v} } t:=h.store 6 _ _ _ rfl rfl rfl rfl
theorem zh.setPenU {w:World} {bs bg g N:Nat} {s:Rs} {t:Pt} (h:zh w bs bg g N s t) (v:Bool):zh (w.setCell ⟨bs,7,none⟩ (.bool v)) bs bg g N {s with pen:={s.pen with un:=v} } t:=h.store 7 _ _ _ rfl rfl rfl rfl
theorem zh.setPenR {w:World} {bs bg g N:Nat} {s:Rs} {t:Pt} (h:zh w bs bg g N s t) (v:Bool):zh (w.setCell ⟨bs,8,none⟩ (.bool v)) bs bg g N {s with pen:={s.pen with re:=v} } t:=h.store 8 _ _ _ rfl rfl rfl rfl
theorem zmF (bs bg g N:Nat) (s:Rs) (t:Pt) (n:Int) (w:World) (h:zh w bs bg g N s t):
 Calls Tryz.prog 211 #[.pointer (some ⟨bs,4,none⟩),.int .i64 n] w (zV bs bg g N w (zek s n) t (.tuple #[])):=by
 have f4:=h.f4;have f5:=h.f5;have f6:=h.f6;have f7:=h.f7;have f8:=h.f8;have fr:=h.free;have HR:=zH h;clear h;by_cases h0:n=0
 ·subst h0;go_in;go_wp2_with (first|(go_at_call 107;refine sM (zan _ _ _ _) ?_));go_end0;exact⟨rfl,((((HR.out.setPenF 0).setPenB 0).setPenO false).setPenU false).setPenR false,(((((zd.refl _ w).setCell ⟨bs,4,none⟩ _ (λ_=>Or.inl rfl)).setCell ⟨bs,5,none⟩ _ (λ_=>Or.inl rfl)).setCell ⟨bs,6,none⟩ _ (λ_=>Or.inl rfl)).setCell ⟨bs,7,none⟩ _ (λ_=>Or.inl rfl)).setCell ⟨bs,8,none⟩ _ (λ_=>Or.inl rfl)⟩
 by_cases h1:n=1
 ·subst h1;go_in;go_wp2_with (first|(go_at_call 107;refine sM (zan _ _ _ _) ?_));go_end0;exact⟨rfl,HR.out.setPenO true,(zd.refl _ w).setCell ⟨bs,6,none⟩ _ (λ_=>Or.inl rfl)⟩
 by_cases h22:n=22
 ·subst h22;go_in;go_wp2_with (first|(go_at_call 107;refine sM (zan _ _ _ _) ?_));go_end0;exact⟨rfl,HR.out.setPenO false,(zd.refl _ w).setCell ⟨bs,6,none⟩ _ (λ_=>Or.inl rfl)⟩
 by_cases h4:n=4
 ·subst h4;go_in;go_wp2_with (first|(go_at_call 107;refine sM (zan _ _ _ _) ?_));go_end0;exact⟨rfl,HR.out.setPenU true,(zd.refl _ w).setCell ⟨bs,7,none⟩ _ (λ_=>Or.inl rfl)⟩
 by_cases h24:n=24
 ·subst h24;go_in;go_wp2_with (first|(go_at_call 107;refine sM (zan _ _ _ _) ?_));go_end0;exact⟨rfl,HR.out.setPenU false,(zd.refl _ w).setCell ⟨bs,7,none⟩ _ (λ_=>Or.inl rfl)⟩
 by_cases h7:n=7
 ·subst h7;go_in;go_wp2_with (first|(go_at_call 107;refine sM (zan _ _ _ _) ?_));go_end0;exact⟨rfl,HR.out.setPenR true,(zd.refl _ w).setCell ⟨bs,8,none⟩ _ (λ_=>Or.inl rfl)⟩
 by_cases h27:n=27
 ·subst h27;go_in;go_wp2_with (first|(go_at_call 107;refine sM (zan _ _ _ _) ?_));go_end0;exact⟨rfl,HR.out.setPenR false,(zd.refl _ w).setCell ⟨bs,8,none⟩ _ (λ_=>Or.inl rfl)⟩
 by_cases h39:n=39
 ·subst h39;go_in;go_wp2_with (first|(go_at_call 107;refine sM (zan _ _ _ _) ?_));go_end0;exact⟨rfl,HR.out.setPenF 0,(zd.refl _ w).setCell ⟨bs,4,none⟩ _ (λ_=>Or.inl rfl)⟩
 by_cases h49:n=49
 ·subst h49;go_in;go_wp2_with (first|(go_at_call 107;refine sM (zan _ _ _ _) ?_));go_end0;exact⟨rfl,HR.out.setPenB 0,(zd.refl _ w).setCell ⟨bs,5,none⟩ _ (λ_=>Or.inl rfl)⟩
 by_cases hr30:30<=n/\n<=37
 ·have HP:Hid (zek s n={s with pen:={s.pen with f:=n-29} }):=by
   show zek s n=_;unfold zek zdb;rw[if_neg h0,if_neg h1,if_neg h22,if_neg h4,if_neg h24,if_neg h7,if_neg h27,if_neg h39,if_neg h49,if_pos hr30]
  have r0:=hr30.1;have r1:=hr30.2;have b30:Wd.inB n 30 37=true:=by simp[Wd.inB,r0,r1]
  go_in;go_wp2_with (first|(go_at_call 107;refine sM (zan _ _ _ _) ?_));go_end0;refine⟨rfl,?_,(zd.refl _ w).setCell ⟨bs,4,none⟩ _ (λ_=>Or.inl rfl)⟩;rw[HP.out];exact HR.out.setPenF _
 by_cases hr40:40<=n/\n<=47
 ·have HP:Hid (zek s n={s with pen:={s.pen with b:=n-39} }):=by
   show zek s n=_;unfold zek zdb;rw[if_neg h0,if_neg h1,if_neg h22,if_neg h4,if_neg h24,if_neg h7,if_neg h27,if_neg h39,if_neg h49,if_neg hr30,if_pos hr40]
  have r0:=hr40.1;have r1:=hr40.2;have b30:Wd.inB n 30 37=false:=by simp[Wd.inB];omega
  have b40:Wd.inB n 40 47=true:=by simp[Wd.inB,r0,r1]
  go_in;go_wp2_with (first|(go_at_call 107;refine sM (zan _ _ _ _) ?_));go_end0;refine⟨rfl,?_,(zd.refl _ w).setCell ⟨bs,5,none⟩ _ (λ_=>Or.inl rfl)⟩;rw[HP.out];exact HR.out.setPenB _
 have HP:Hid (zek s n=s):=by
  show zek s n=_;unfold zek zdb;rw[if_neg h0,if_neg h1,if_neg h22,if_neg h4,if_neg h24,if_neg h7,if_neg h27,if_neg h39,if_neg h49,if_neg hr30,if_neg hr40]
 have b30:Wd.inB n 30 37=false:=by simp[Wd.inB];omega
 have b40:Wd.inB n 40 47=false:=by simp[Wd.inB];omega
 go_in;go_wp2_with (first|(go_at_call 107;refine sM (zan _ _ _ _) ?_));go_end0;refine⟨rfl,?_,zd.refl _ w⟩;rw[HP.out];exact HR.out
theorem zh5 {s:Rs} (hw:Wf s.W s.H s.G) {x0 x1 how:Int} {Y:Nat} (hY:s.y=Y) (h:∀a:Nat,a<s.W->(zct how false s.x s.y a Y=true↔x0<=a/\(a:Int)<x1)):
 ZX s.W s.H (zaH s.W x0 x1 Y (zS s) s.G) (zbS s how false).G:=by
 unfold zaH zbS;refine zbm hw (λa b ha hb=>?_) (λ_ _ _ _ _=>rfl);by_cases e:b=Y
 ·subst e;have:=h a ha;rw[Bool.eq_iff_iff,this];simp[ha]
 ·have e':¬(b:Int)=s.y:=by omega
  simp[zct,e,e']
theorem zll (bs bg g N:Nat) (s:Rs) (t:Pt) (w:World) (h:zh w bs bg g N s t) (ok:s.Ok):
 Calls Tryz.prog 205 #[.pointer (some ⟨bs,0,none⟩),.int .i64 0] w (zV bs bg g N w (zbS s 0 false) t (.tuple #[])):=by
 have HP:=zH h;obtain⟨Y,hY⟩:∃Y:Nat,s.y=Y:=⟨s.y.toNat,by have:=ok.y0;omega⟩;have hYH:Y<s.H:=by have:=ok.y1;omega
 have HE:Hid (ZX s.W s.H (zaH s.W s.x (s.W:Int) Y (zS s) s.G) (zbS s 0 false).G):=zh5 ok.wf hY (λa ha=>by
  have hY':=hY.symm;simp[zct,hY'];omega)
 have Hwf:=zH ok.wf;have c0:=h.f0;have c1:=h.f1;have c2:=h.f2;rw[hY] at c2;have x0:=ok.x0;have x1:=ok.x1;have w2:=ok.w2;have wx:IntKind.i64.wrap (s.x+1)=s.x+1:=zm _ (by omega) (by omega);have HY:=zH hY;clear h ok hY;go_in;go_wp2_with (first|(go_at_call 126;refine sM (zcC bg g s.W s.H N s.G _ HP.out.gr) ?_));have HD:=zH HP.out.drew;go_region_held3 (λw'=>w'.cell? ⟨bs,1,none⟩=some (.int .i64 s.x)/\w'.cell? ⟨bs,2,none⟩=some (.int .i64 (Y:Int))) (simp[*]) (first|(go_at_call 207;refine(zft bs bg g N s t s.x (s.W:Int) Y _ HD.out Hwf.out hYH).mono ?_;rintro e w3 ⟨rfl,P3,K3⟩;have e1:=P3.f1;have e2:=P3.f2;simp only[HY.out] at e2));go_wp2_with fail;go_end0;exact⟨rfl,P3.congr _ rfl rfl rfl HE.out,((zd.refl _ w).drew).trans K3 (λ_ _ h=>h)⟩
theorem zlm (bs bg g N:Nat) (s:Rs) (t:Pt) (w:World) (h:zh w bs bg g N s t) (ok:s.Ok):
 Calls Tryz.prog 205 #[.pointer (some ⟨bs,0,none⟩),.int .i64 1] w (zV bs bg g N w (zbS s 1 false) t (.tuple #[])):=by
 have HP:=zH h;obtain⟨Y,hY⟩:∃Y:Nat,s.y=Y:=⟨s.y.toNat,by have:=ok.y0;omega⟩;have hYH:Y<s.H:=by have:=ok.y1;omega
 have HE:Hid (ZX s.W s.H (zaH s.W 0 (s.x+1) Y (zS s) s.G) (zbS s 1 false).G):=zh5 ok.wf hY (λa ha=>by
  have hY':=hY.symm;simp[zct,hY'];omega)
 have Hwf:=zH ok.wf;have c0:=h.f0;have c1:=h.f1;have c2:=h.f2;rw[hY] at c2;have x0:=ok.x0;have x1:=ok.x1;have w2:=ok.w2;have wx:IntKind.i64.wrap (s.x+1)=s.x+1:=zm _ (by omega) (by omega);have HY:=zH hY;clear h ok hY;go_in;go_wp2_with (first|(go_at_call 126;refine sM (zcC bg g s.W s.H N s.G _ HP.out.gr) ?_));have HD:=zH HP.out.drew;go_region_held3 (λw'=>w'.cell? ⟨bs,1,none⟩=some (.int .i64 s.x)/\w'.cell? ⟨bs,2,none⟩=some (.int .i64 (Y:Int))) (simp[*]) (first|(go_at_call 207;refine(zft bs bg g N s t 0 (s.x+1) Y _ HD.out Hwf.out hYH).mono ?_;rintro e w3 ⟨rfl,P3,K3⟩;have e1:=P3.f1;have e2:=P3.f2;simp only[HY.out] at e2));go_wp2_with fail;go_end0;exact⟨rfl,P3.congr _ rfl rfl rfl HE.out,((zd.refl _ w).drew).trans K3 (λ_ _ h=>h)⟩
theorem zln (bs bg g N:Nat) (s:Rs) (t:Pt) (w:World) (h:zh w bs bg g N s t) (ok:s.Ok):
 Calls Tryz.prog 205 #[.pointer (some ⟨bs,0,none⟩),.int .i64 2] w (zV bs bg g N w (zbS s 2 false) t (.tuple #[])):=by
 have HP:=zH h;obtain⟨Y,hY⟩:∃Y:Nat,s.y=Y:=⟨s.y.toNat,by have:=ok.y0;omega⟩;have hYH:Y<s.H:=by have:=ok.y1;omega
 have HE:Hid (ZX s.W s.H (zaH s.W 0 (s.W:Int) Y (zS s) s.G) (zbS s 2 false).G):=zh5 ok.wf hY (λa ha=>by
  have hY':=hY.symm;simp[zct,hY'];omega)
 have Hwf:=zH ok.wf;have c0:=h.f0;have c1:=h.f1;have c2:=h.f2;rw[hY] at c2;have x0:=ok.x0;have x1:=ok.x1;have w2:=ok.w2;have wx:IntKind.i64.wrap (s.x+1)=s.x+1:=zm _ (by omega) (by omega);have HY:=zH hY;clear h ok hY;go_in;go_wp2_with (first|(go_at_call 126;refine sM (zcC bg g s.W s.H N s.G _ HP.out.gr) ?_));go_at_call 207;refine(zft bs bg g N s t 0 (s.W:Int) Y _ HP.out Hwf.out hYH).mono ?_;rintro e w3 ⟨rfl,P3,K3⟩;go_wp2_with fail;go_end0;exact⟨rfl,P3.congr _ rfl rfl rfl HE.out,K3⟩
theorem zlo (bs bg g N:Nat) (s:Rs) (t:Pt) (how:Int) (w:World) (h:zh w bs bg g N s t) (h0:¬how=0) (h1:¬how=1) (h2:¬how=2):
 Calls Tryz.prog 205 #[.pointer (some ⟨bs,0,none⟩),.int .i64 how] w (zV bs bg g N w (zbS s how false) t (.tuple #[])):=by
 have HP:=zH h;have HE:Hid (zbS s how false=s):=by
  show zbS s how false=s;unfold zbS;rw[zg2 _ _ _ (λa b=>by simp[zct,h0,h1,h2])]
 have c0:=h.f0;clear h;go_in;go_wp2_with (first|(go_at_call 126;refine sM (zcC bg g s.W s.H N s.G _ HP.out.gr) ?_));go_end0;refine⟨rfl,?_,zd.refl _ w⟩;rw[HE.out];exact HP.out
theorem zh6 (bs bg g N:Nat) (s:Rs) (t:Pt) (how:Int) (w:World) (h:zh w bs bg g N s t) (ok:s.Ok):
 Calls Tryz.prog 205 #[.pointer (some ⟨bs,0,none⟩),.int .i64 how] w (zV bs bg g N w (zbS s how false) t (.tuple #[])):=by
 by_cases h0:how=0
 ·subst h0;exact zll bs bg g N s t w h ok
 by_cases h1:how=1
 ·subst h1;exact zlm bs bg g N s t w h ok
 by_cases h2:how=2
 ·subst h2;exact zln bs bg g N s t w h ok
 exact zlo bs bg g N s t how w h h0 h1 h2
def zdv (s:Rs) (how:Int) (j:Nat):Rs:={s with G:=wrt s.G (λa b=>zct how true s.x s.y a b&&(decide ((b:Int)=s.y)||decide (b<j))) (λ_ _=>blk (zS s))}
theorem zuF (s:Rs) (how:Int):zbS s how false=zdv s how 0:=by
 unfold zbS zdv;congr 1;exact zhg (λa b=>by simp[zct])
theorem zqU {s:Rs} (hw:Wf s.W s.H s.G) (how:Int):ZX s.W s.H (zdv s how s.H).G (zbS s how true).G:=by
 unfold zbS zdv;refine zbm hw (λa b ha hb=>?_) (λ_ _ _ _ _=>rfl);simp[hb]
def zfd (how Y:Int) (j:Nat):Prop:=(how=0/\Y<j)\/(how=1/\(j:Int)<Y)\/how=2
theorem zj1 {s:Rs} (hw:Wf s.W s.H s.G) {how:Int} {j:Nat} (h:¬zfd how s.y j):ZX s.W s.H (zdv s how j).G (zdv s how (j+1)).G:=by
 unfold zdv;refine zbm hw (λa b ha hb=>?_) (λ_ _ _ _ _=>rfl);unfold zfd at h;rw[Bool.eq_iff_iff];simp only[zct,Bool.and_eq_true,Bool.or_eq_true,decide_eq_true_eq,Bool.true_or,and_true];constructor
 ·rintro⟨p,q⟩;exact⟨p,by omega⟩
 ·rintro⟨p,q⟩;exact⟨p,by omega⟩
theorem zh7 {s:Rs} (hw:Wf s.W s.H s.G) {how:Int} {j:Nat} (h:zfd how s.y j):ZX s.W s.H (zaH s.W 0 s.W j (zS s) (zdv s how j).G) (zdv s how (j+1)).G:=by
 unfold zdv zaH;rw[zm6 _ _ _ _ _ (λ_ _ _ _=>rfl)];refine zbm hw (λa b ha hb=>?_) (λa b _ _ _=>by simp);unfold zfd at h;rw[Bool.eq_iff_iff];simp only[zct,Bool.and_eq_true,Bool.or_eq_true,decide_eq_true_eq,Bool.true_or,and_true];constructor
 ·rintro(⟨p,q⟩|⟨⟨⟨p,q⟩,r⟩,u⟩)
  ·exact⟨p,by omega⟩
  ·exact⟨by omega,by omega⟩
 ·rintro⟨p,q⟩;by_cases e:b=j
  ·right;exact⟨⟨⟨e,by omega⟩,by omega⟩,ha⟩
  ·left;exact⟨p,by omega⟩
theorem zlp (bs bg g N:Nat) (s:Rs) (t:Pt) (how:Int) (w:World) (h:zh w bs bg g N s t) (ok:s.Ok):
 Calls Tryz.prog 206 #[.pointer (some ⟨bs,0,none⟩),.int .i64 how] w (zV bs bg g N w (zbS s how true) t (.tuple #[])):=by
 have HP:=zH h;have Hok:=zH ok;have y0:=ok.y0;have y1:=ok.y1;have h2:=ok.h2;clear h ok;go_in;go_wp2_with fail;go_at_call 205;refine(zh6 bs bg g N s t how _ HP.out Hok.out).mono ?_;rintro e wa ⟨rfl,P1,K1⟩;rw[zuF] at P1;have c0:=P1.f0;have HP1:=zH P1;have HK1:=zH K1;clear P1 K1;go_wp2_with (first|(go_at_call 127;refine sM (zbF bg g s.W s.H N (zdv s how 0).G _ HP1.out.gr) ?_));go_loopw[13] (λi w'=>∃j:Nat,j<=s.H/\i=.int .i64 j/\zh w' bs bg g N (zdv s how j) t/\zd (λi=>i=bs\/i=bg\/i=g) w w') (λi _=>s.H-(intOf i).toNat)
 case atStart=>exact⟨0,by omega,rfl,HP1.out,HK1.out⟩
 case round=>
  obtain⟨j,hj,rfl,hPj,hKj⟩:=hrel;have HPj:=zH hPj;have HKj:=zH hKj;have c0:=hPj.f0;have c2:wr.cell? ⟨bs,2,none⟩=some (.int .i64 s.y):=hPj.f2;clear hPj hKj HP1 HK1 HP;by_cases hlt:j<s.H
  ·have hlt':(j:Int)<s.H:=by omega
   by_cases h0:how=0/\s.y<j
   ·obtain⟨rfl,hYj⟩:=h0;have Hg:Hid (zfd 0 s.y j):=Or.inl ⟨rfl,hYj⟩;go_wp2_with (first|(go_at_call 126;refine sM (zcC bg g s.W s.H N (zdv s 0 j).G _ HPj.out.gr) ?_));go_at_call 207;refine(zft bs bg g N (zdv s 0 j) t 0 s.W j _ HPj.out (Hok.out.wf.blk _ _) hlt).mono ?_;rintro e w3 ⟨rfl,P3,K3⟩;have HP3:Hid (zh w3 bs bg g N (zdv s 0 (j+1)) t):=P3.congr _ rfl rfl rfl (zh7 Hok.out.wf Hg.out);have HK3:=zH<|HKj.out.trans K3 (λ_ _ h=>h)
    clear P3 K3 HPj HKj;go_wp2_with fail;exact⟨⟨j+1,by omega,by simp,HP3.out,HK3.out⟩,by simp only[intOf];omega⟩
   by_cases h1:how=1/\(j:Int)<s.y
   ·obtain⟨rfl,hYj⟩:=h1;have Hg:Hid (zfd 1 s.y j):=Or.inr (Or.inl ⟨rfl,hYj⟩);go_wp2_with (first|(go_at_call 126;refine sM (zcC bg g s.W s.H N (zdv s 1 j).G _ HPj.out.gr) ?_));go_at_call 207;refine(zft bs bg g N (zdv s 1 j) t 0 s.W j _ HPj.out (Hok.out.wf.blk _ _) hlt).mono ?_;rintro e w3 ⟨rfl,P3,K3⟩;have HP3:Hid (zh w3 bs bg g N (zdv s 1 (j+1)) t):=P3.congr _ rfl rfl rfl (zh7 Hok.out.wf Hg.out);have HK3:=zH<|HKj.out.trans K3 (λ_ _ h=>h)
    clear P3 K3 HPj HKj;go_wp2_with fail;exact⟨⟨j+1,by omega,by simp,HP3.out,HK3.out⟩,by simp only[intOf];omega⟩
   by_cases h3:how=2
   ·subst h3;have Hg:Hid (zfd 2 s.y j):=Or.inr (Or.inr rfl);go_wp2_with (first|(go_at_call 126;refine sM (zcC bg g s.W s.H N (zdv s 2 j).G _ HPj.out.gr) ?_));go_at_call 207;refine(zft bs bg g N (zdv s 2 j) t 0 s.W j _ HPj.out (Hok.out.wf.blk _ _) hlt).mono ?_;rintro e w3 ⟨rfl,P3,K3⟩;have HP3:Hid (zh w3 bs bg g N (zdv s 2 (j+1)) t):=P3.congr _ rfl rfl rfl (zh7 Hok.out.wf Hg.out);have HK3:=zH<|HKj.out.trans K3 (λ_ _ h=>h)
    clear P3 K3 HPj HKj;go_wp2_with fail;exact⟨⟨j+1,by omega,by simp,HP3.out,HK3.out⟩,by simp only[intOf];omega⟩
   have Hg:Hid (¬zfd how s.y j):=by show¬zfd how s.y j;unfold zfd;omega
   by_cases h4:how=0
   ·subst h4;have hYj:¬s.y<(j:Int):=by omega
    go_wp2_with fail;exact⟨⟨j+1,by omega,by simp,HPj.out.congr _ rfl rfl rfl (zj1 Hok.out.wf Hg.out),HKj.out⟩,by simp only[intOf];omega⟩
   by_cases h5:how=1
   ·subst h5;have hYj:¬(j:Int)<s.y:=by omega
    go_wp2_with fail;exact⟨⟨j+1,by omega,by simp,HPj.out.congr _ rfl rfl rfl (zj1 Hok.out.wf Hg.out),HKj.out⟩,by simp only[intOf];omega⟩
   ·clear h0 h1;go_wp2_with fail;exact⟨⟨j+1,by omega,by simp,HPj.out.congr _ rfl rfl rfl (zj1 Hok.out.wf Hg.out),HKj.out⟩,by simp only[intOf];omega⟩
  ·have hjH:j=s.H:=by omega
   subst hjH;go_wp2_with fail;go_end0;exact⟨rfl,HPj.out.congr _ rfl rfl rfl (zqU Hok.out.wf how),HKj.out⟩
theorem zoR {H:Nat} {k:Int} (h2:H<=20):ZU (ZW k 9999) H=zb9 H k:=by
 unfold ZU ZW zb9
 (repeat' split)<;>omega
theorem zqV (bs bg g N:Nat) (s:Rs) (t:Pt) (n k:Int) (w:World) (h:zh w bs bg g N s t) (ok:s.Ok) (k0:0<=k) (n1:1<=n) (n9:n<=9999):
 Calls Tryz.prog 209 #[.pointer (some ⟨bs,0,none⟩),.int .i64 n,.int .i64 (ZW k 9999)] w (zV bs bg g N w (zaO s n k) t (.tuple #[])):=by
 have HP:=zH h;have c0:=h.f0;have c9:=h.f9;have c10:=h.f10;have fz:=h.free;have h1:=ok.h1;have h2:=ok.h2;have hL:=zoR (H:=s.H) (k:=k) h2;have L1:1<=zb9 s.H k:=by unfold zb9;split<;>omega
 have LH:zb9 s.H k<=s.H:=by unfold zb9;split<;>omega
 have HM:Hid (∀c:Prop,[Decidable c]->(c↔n<zb9 s.H k\/(s.H=1/\n=1))->zaO s n k=if c then ZQ {s with top:=n-1,bot:=zb9 s.H k-1} 0 0 else s):=λc _ hc=>by
  unfold zaO;by_cases q:c
  ·rw[if_pos (hc.1 q),if_pos q]
  ·rw[if_neg (λz=>q (hc.2 z)),if_neg q]
 generalize zb9 s.H k=L at *;generalize ZW k 9999=kk at *;clear h ok;by_cases a:n<L
 ·have HM1:Hid (zaO s n k=ZQ {s with top:=n-1,bot:=L-1} 0 0):=by
   have:=HM.out True (by simp[a]);rwa [if_pos trivial] at this
  go_in;go_wp2_with (first|(go_at_call 127;refine sM (zbF bg g s.W s.H N s.G _ HP.out.gr) ?_)|(go_at_call 138;refine sM (zce _ _ _) ?_));go_at_call 120;refine(zfb bs bg g N {s with top:=n-1,bot:=L-1} t 0 0 _ ((HP.out.setTop _).setBot _)).mono ?_;rintro e w3 ⟨rfl,P3,K3⟩;go_wp2_with fail;go_end0;refine⟨rfl,?_,(((zd.refl _ w).setCell ⟨bs,9,none⟩ _ (λ_=>Or.inl rfl)).setCell ⟨bs,10,none⟩ _ (λ_=>Or.inl rfl)).trans K3 (λ_ _ h=>h)⟩;rw[HM1.out];exact P3
 by_cases b:n=L/\s.H=1
 ·obtain⟨b1,b2⟩:=b;have HM1:Hid (zaO s n k=ZQ {s with top:=n-1,bot:=L-1} 0 0):=by
   have:=HM.out True (by simp;omega);rwa [if_pos trivial] at this
  have b3:((s.H:Int)==1)=true:=by simp[b2]
  have b4:(n==L)=true:=by simp[b1]
  have b5:=a;clear b1 b2 a;go_in;go_wp2_with (first|(go_at_call 127;refine sM (zbF bg g s.W s.H N s.G _ HP.out.gr) ?_)|(go_at_call 138;refine sM (zce _ _ _) ?_));go_at_call 120;refine(zfb bs bg g N {s with top:=n-1,bot:=L-1} t 0 0 _ ((HP.out.setTop _).setBot _)).mono ?_;rintro e w3 ⟨rfl,P3,K3⟩;go_wp2_with fail;go_end0;refine⟨rfl,?_,(((zd.refl _ w).setCell ⟨bs,9,none⟩ _ (λ_=>Or.inl rfl)).setCell ⟨bs,10,none⟩ _ (λ_=>Or.inl rfl)).trans K3 (λ_ _ h=>h)⟩;rw[HM1.out];exact P3
 ·have HM1:Hid (zaO s n k=s):=by
   have:=HM.out False (by simp;omega);rwa [if_neg id] at this
  by_cases b1:n=L
  ·have b3:((s.H:Int)==1)=false:=by simp;omega
   have b4:(n==L)=true:=by simp[b1]
   clear b1 b;go_in;go_wp2_with (first|(go_at_call 127;refine sM (zbF bg g s.W s.H N s.G _ HP.out.gr) ?_)|(go_at_call 138;refine sM (zce _ _ _) ?_));go_end0;refine⟨rfl,?_,zd.refl _ w⟩;rw[HM1.out];exact HP.out
  ·have b4:(n==L)=false:=by simp[b1]
   clear b1 b;go_in;go_wp2_with (first|(go_at_call 127;refine sM (zbF bg g s.W s.H N s.G _ HP.out.gr) ?_)|(go_at_call 138;refine sM (zce _ _ _) ?_));go_end0;refine⟨rfl,?_,zd.refl _ w⟩;rw[HM1.out];exact HP.out
structure za9 (t:Pt) (l:List Int):Prop where
 cn:t.cn=l.length
 le:l.length<=8
 nm:∀i,i<8->t.nm i=l.getD i 0
theorem ZI {n:Int} (h0:0<=n) (h9:n<=9999):1<=Zu n/\Zu n<=9999:=by unfold Zu;split<;>omega
theorem zwO (bs bg g N:Nat) (s:Rs) (t:Pt) (l:List Int) (w:World) (h:zh w bs bg g N s t) (ok:s.Ok) (hl:za9 t l) (hs:zaV l):
 Calls Tryz.prog 184 #[.pointer (some ⟨bs,0,none⟩),.int .u8 65] w (zV bs bg g N w (zJ s l 65) t (.tuple #[])):=by
 have HP:=zH h;have Hok:=zH ok;have hn:=ZI (hs 0).1 (hs 0).2;have hf:=hl.nm 0 (by omega);have hpk:ZW (t.nm 0) 1=Zu (l.getD 0 0):=by rw[hf];rfl
 have x0:=ok.x0;have x1:=ok.x1;have y0:=ok.y0;have y1:=ok.y1;have w2:=ok.w2;have h2:=ok.h2;have HDn:Hid (zJ s l 65=ZQ s s.x (s.y-(Zu (l.getD 0 0)))):=by
  show _=_;simp[zJ]
 have Hq:=zH hf;clear hf hl hs ok h;generalize Zu (l.getD 0 0)=n at *;obtain⟨n1,n9⟩:=hn;have wr1:IntKind.i64.wrap (s.y-n)=s.y-n:=zm _ (by omega) (by omega);have wr2:IntKind.i64.wrap (s.y+n)=s.y+n:=zm _ (by omega) (by omega);have wr3:IntKind.i64.wrap (s.x-n)=s.x-n:=zm _ (by omega) (by omega);have wr4:IntKind.i64.wrap (s.x+n)=s.x+n:=zm _ (by omega) (by omega);have c1:=HP.out.f1;have c2:=HP.out.f2;go_in;go_wp2_with (first|(go_at_call 204;refine sM (zaA bs bg g N s t 0 1 _ HP.out (by omega)) ?_;rw[hpk]));go_region_with (first|(go_at_call 120;refine(zfb bs bg g N s t s.x (s.y-n) _ HP.out.drew).mono ?_;rintro e w5 ⟨rfl,R5,K5⟩));all_goals
  go_end0;refine⟨rfl,?_,((zd.refl _ w).drew).trans K5 (λ_ _ h=>h)⟩;rw[HDn.out];exact R5
theorem zwP (bs bg g N:Nat) (s:Rs) (t:Pt) (l:List Int) (w:World) (h:zh w bs bg g N s t) (ok:s.Ok) (hl:za9 t l) (hs:zaV l):
 Calls Tryz.prog 184 #[.pointer (some ⟨bs,0,none⟩),.int .u8 66] w (zV bs bg g N w (zJ s l 66) t (.tuple #[])):=by
 have HP:=zH h;have Hok:=zH ok;have hn:=ZI (hs 0).1 (hs 0).2;have hf:=hl.nm 0 (by omega);have hpk:ZW (t.nm 0) 1=Zu (l.getD 0 0):=by rw[hf];rfl
 have x0:=ok.x0;have x1:=ok.x1;have y0:=ok.y0;have y1:=ok.y1;have w2:=ok.w2;have h2:=ok.h2;have HDn:Hid (zJ s l 66=ZQ s s.x (s.y+(Zu (l.getD 0 0)))):=by
  show _=_;simp[zJ]
 have Hq:=zH hf;clear hf hl hs ok h;generalize Zu (l.getD 0 0)=n at *;obtain⟨n1,n9⟩:=hn;have wr1:IntKind.i64.wrap (s.y-n)=s.y-n:=zm _ (by omega) (by omega);have wr2:IntKind.i64.wrap (s.y+n)=s.y+n:=zm _ (by omega) (by omega);have wr3:IntKind.i64.wrap (s.x-n)=s.x-n:=zm _ (by omega) (by omega);have wr4:IntKind.i64.wrap (s.x+n)=s.x+n:=zm _ (by omega) (by omega);have c1:=HP.out.f1;have c2:=HP.out.f2;go_in;go_wp2_with (first|(go_at_call 204;refine sM (zaA bs bg g N s t 0 1 _ HP.out (by omega)) ?_;rw[hpk]));go_region_with (first|(go_at_call 120;refine(zfb bs bg g N s t s.x (s.y+n) _ HP.out.drew).mono ?_;rintro e w5 ⟨rfl,R5,K5⟩));all_goals
  go_end0;refine⟨rfl,?_,((zd.refl _ w).drew).trans K5 (λ_ _ h=>h)⟩;rw[HDn.out];exact R5
theorem zwQ (bs bg g N:Nat) (s:Rs) (t:Pt) (l:List Int) (w:World) (h:zh w bs bg g N s t) (ok:s.Ok) (hl:za9 t l) (hs:zaV l):
 Calls Tryz.prog 184 #[.pointer (some ⟨bs,0,none⟩),.int .u8 67] w (zV bs bg g N w (zJ s l 67) t (.tuple #[])):=by
 have HP:=zH h;have Hok:=zH ok;have hn:=ZI (hs 0).1 (hs 0).2;have hf:=hl.nm 0 (by omega);have hpk:ZW (t.nm 0) 1=Zu (l.getD 0 0):=by rw[hf];rfl
 have x0:=ok.x0;have x1:=ok.x1;have y0:=ok.y0;have y1:=ok.y1;have w2:=ok.w2;have h2:=ok.h2;have HDn:Hid (zJ s l 67=ZQ s (s.x+(Zu (l.getD 0 0))) s.y):=by
  show _=_;simp[zJ]
 have Hq:=zH hf;clear hf hl hs ok h;generalize Zu (l.getD 0 0)=n at *;obtain⟨n1,n9⟩:=hn;have wr1:IntKind.i64.wrap (s.y-n)=s.y-n:=zm _ (by omega) (by omega);have wr2:IntKind.i64.wrap (s.y+n)=s.y+n:=zm _ (by omega) (by omega);have wr3:IntKind.i64.wrap (s.x-n)=s.x-n:=zm _ (by omega) (by omega);have wr4:IntKind.i64.wrap (s.x+n)=s.x+n:=zm _ (by omega) (by omega);have c1:=HP.out.f1;have c2:=HP.out.f2;go_in;go_wp2_with (first|(go_at_call 204;refine sM (zaA bs bg g N s t 0 1 _ HP.out (by omega)) ?_;rw[hpk]));go_region_with (first|(go_at_call 120;refine(zfb bs bg g N s t (s.x+n) s.y _ HP.out.drew).mono ?_;rintro e w5 ⟨rfl,R5,K5⟩));all_goals
  go_end0;refine⟨rfl,?_,((zd.refl _ w).drew).trans K5 (λ_ _ h=>h)⟩;rw[HDn.out];exact R5
theorem zwR (bs bg g N:Nat) (s:Rs) (t:Pt) (l:List Int) (w:World) (h:zh w bs bg g N s t) (ok:s.Ok) (hl:za9 t l) (hs:zaV l):
 Calls Tryz.prog 184 #[.pointer (some ⟨bs,0,none⟩),.int .u8 68] w (zV bs bg g N w (zJ s l 68) t (.tuple #[])):=by
 have HP:=zH h;have Hok:=zH ok;have hn:=ZI (hs 0).1 (hs 0).2;have hf:=hl.nm 0 (by omega);have hpk:ZW (t.nm 0) 1=Zu (l.getD 0 0):=by rw[hf];rfl
 have x0:=ok.x0;have x1:=ok.x1;have y0:=ok.y0;have y1:=ok.y1;have w2:=ok.w2;have h2:=ok.h2;have HDn:Hid (zJ s l 68=ZQ s (s.x-(Zu (l.getD 0 0))) s.y):=by
  show _=_;simp[zJ]
 have Hq:=zH hf;clear hf hl hs ok h;generalize Zu (l.getD 0 0)=n at *;obtain⟨n1,n9⟩:=hn;have wr1:IntKind.i64.wrap (s.y-n)=s.y-n:=zm _ (by omega) (by omega);have wr2:IntKind.i64.wrap (s.y+n)=s.y+n:=zm _ (by omega) (by omega);have wr3:IntKind.i64.wrap (s.x-n)=s.x-n:=zm _ (by omega) (by omega);have wr4:IntKind.i64.wrap (s.x+n)=s.x+n:=zm _ (by omega) (by omega);have c1:=HP.out.f1;have c2:=HP.out.f2;go_in;go_wp2_with (first|(go_at_call 204;refine sM (zaA bs bg g N s t 0 1 _ HP.out (by omega)) ?_;rw[hpk]));go_region_with (first|(go_at_call 120;refine(zfb bs bg g N s t (s.x-n) s.y _ HP.out.drew).mono ?_;rintro e w5 ⟨rfl,R5,K5⟩));all_goals
  go_end0;refine⟨rfl,?_,((zd.refl _ w).drew).trans K5 (λ_ _ h=>h)⟩;rw[HDn.out];exact R5
theorem zqW {W H:Nat} {G:Nat->Nat->zk} (hw:Wf W H G) (x0 x1:Int) (y:Nat) (p:Pn):ZX W H (zaH W x0 x1 y p G) (wrt G (rg x0 x1 y) (λ_ _=>blk p)):=by
 unfold zaH;refine zbm hw (λa b ha hb=>?_) (λ_ _ _ _ _=>rfl);rw[Bool.eq_iff_iff,zjt];simp[ha,and_assoc]
theorem zwS (bs bg g N:Nat) (s:Rs) (t:Pt) (l:List Int) (w:World) (h:zh w bs bg g N s t) (ok:s.Ok) (hl:za9 t l) (hs:zaV l):
 Calls Tryz.prog 184 #[.pointer (some ⟨bs,0,none⟩),.int .u8 72] w (zV bs bg g N w (zJ s l 72) t (.tuple #[])):=by
 have HP:=zH h;have Hok:=zH ok;have hn:=ZI (hs 0).1 (hs 0).2;have hk:=ZI (hs 1).1 (hs 1).2;have f0:=(hs 0).1;have f9:=(hs 0).2;have k0:=(hs 1).1;have k9:=(hs 1).2;have hpk:ZW (t.nm 0) 1=Zu (l.getD 0 0):=by rw[hl.nm 0 (by omega)];rfl
 have hpk1:ZW (t.nm 1) 1=Zu (l.getD 1 0):=by rw[hl.nm 1 (by omega)];rfl
 have hpk2:ZW (t.nm 1) 9999=ZW (l.getD 1 0) 9999:=by rw[hl.nm 1 (by omega)]
 have c17:=h.f17;rw[hl.nm 0 (by omega)] at c17;have x0:=ok.x0;have x1:=ok.x1;have y0:=ok.y0;have y1:=ok.y1;have w2:=ok.w2;have h2:=ok.h2;have HDn:Hid (zJ s l 72=ZQ s (Zu (l.getD 1 0)-1) ((Zu (l.getD 0 0))-1)):=by
  show _=_;simp[zJ]
 clear hl hs ok h;generalize l.getD 1 0=kk at *;generalize l.getD 0 0=ff at *;generalize Zu kk=k at *;generalize Zu ff=n at *;obtain⟨n1,n9⟩:=hn;obtain⟨k1,k99⟩:=hk;go_in;go_wp2_with fail;go_at_call 204;refine sM (zaA bs bg g N s t 0 1 _ HP.out (by omega)) ?_;rw[hpk];go_wp2_with fail;go_at_call 204;refine sM (zaA bs bg g N s t 1 1 _ HP.out (by omega)) ?_;rw[hpk1];go_wp2_with fail;go_at_call 120;refine(zfb bs bg g N s t (k-1) (n-1) _ HP.out).mono ?_;rintro e w5 ⟨rfl,P5,K5⟩;go_wp2_with fail;go_end0;refine⟨rfl,?_,K5⟩;rw[HDn.out];exact P5
theorem zwT (bs bg g N:Nat) (s:Rs) (t:Pt) (l:List Int) (w:World) (h:zh w bs bg g N s t) (ok:s.Ok) (hl:za9 t l) (hs:zaV l):
 Calls Tryz.prog 184 #[.pointer (some ⟨bs,0,none⟩),.int .u8 75] w (zV bs bg g N w (zJ s l 75) t (.tuple #[])):=by
 have HP:=zH h;have Hok:=zH ok;have hn:=ZI (hs 0).1 (hs 0).2;have hk:=ZI (hs 1).1 (hs 1).2;have f0:=(hs 0).1;have f9:=(hs 0).2;have k0:=(hs 1).1;have k9:=(hs 1).2;have hpk:ZW (t.nm 0) 1=Zu (l.getD 0 0):=by rw[hl.nm 0 (by omega)];rfl
 have hpk1:ZW (t.nm 1) 1=Zu (l.getD 1 0):=by rw[hl.nm 1 (by omega)];rfl
 have hpk2:ZW (t.nm 1) 9999=ZW (l.getD 1 0) 9999:=by rw[hl.nm 1 (by omega)]
 have c17:=h.f17;rw[hl.nm 0 (by omega)] at c17;have x0:=ok.x0;have x1:=ok.x1;have y0:=ok.y0;have y1:=ok.y1;have w2:=ok.w2;have h2:=ok.h2;have HDn:Hid (zJ s l 75=zbS s (l.getD 0 0) false):=by
  show _=_;simp[zJ]
 clear hl hs ok h;generalize l.getD 1 0=kk at *;generalize l.getD 0 0=ff at *;generalize Zu kk=k at *;generalize Zu ff=n at *;obtain⟨n1,n9⟩:=hn;obtain⟨k1,k99⟩:=hk;go_in;go_wp2_with fail;go_at_call 204;refine sM (zaA bs bg g N s t 0 1 _ HP.out (by omega)) ?_;rw[hpk];go_wp2_with fail;go_at_call 205;refine(zh6 bs bg g N s t ff _ HP.out Hok.out).mono ?_;rintro e w5 ⟨rfl,P5,K5⟩;go_wp2_with fail;go_end0;refine⟨rfl,?_,K5⟩;rw[HDn.out];exact P5
theorem zwU (bs bg g N:Nat) (s:Rs) (t:Pt) (l:List Int) (w:World) (h:zh w bs bg g N s t) (ok:s.Ok) (hl:za9 t l) (hs:zaV l):
 Calls Tryz.prog 184 #[.pointer (some ⟨bs,0,none⟩),.int .u8 74] w (zV bs bg g N w (zJ s l 74) t (.tuple #[])):=by
 have HP:=zH h;have Hok:=zH ok;have hn:=ZI (hs 0).1 (hs 0).2;have hk:=ZI (hs 1).1 (hs 1).2;have f0:=(hs 0).1;have f9:=(hs 0).2;have k0:=(hs 1).1;have k9:=(hs 1).2;have hpk:ZW (t.nm 0) 1=Zu (l.getD 0 0):=by rw[hl.nm 0 (by omega)];rfl
 have hpk1:ZW (t.nm 1) 1=Zu (l.getD 1 0):=by rw[hl.nm 1 (by omega)];rfl
 have hpk2:ZW (t.nm 1) 9999=ZW (l.getD 1 0) 9999:=by rw[hl.nm 1 (by omega)]
 have c17:=h.f17;rw[hl.nm 0 (by omega)] at c17;have x0:=ok.x0;have x1:=ok.x1;have y0:=ok.y0;have y1:=ok.y1;have w2:=ok.w2;have h2:=ok.h2;have HDn:Hid (zJ s l 74=zbS s (l.getD 0 0) true):=by
  show _=_;simp[zJ]
 clear hl hs ok h;generalize l.getD 1 0=kk at *;generalize l.getD 0 0=ff at *;generalize Zu kk=k at *;generalize Zu ff=n at *;obtain⟨n1,n9⟩:=hn;obtain⟨k1,k99⟩:=hk;go_in;go_wp2_with fail;go_at_call 204;refine sM (zaA bs bg g N s t 0 1 _ HP.out (by omega)) ?_;rw[hpk];go_wp2_with fail;go_at_call 206;refine(zlp bs bg g N s t ff _ HP.out Hok.out).mono ?_;rintro e w5 ⟨rfl,P5,K5⟩;go_wp2_with fail;go_end0;refine⟨rfl,?_,K5⟩;rw[HDn.out];exact P5
theorem zwV (bs bg g N:Nat) (s:Rs) (t:Pt) (l:List Int) (w:World) (h:zh w bs bg g N s t) (ok:s.Ok) (hl:za9 t l) (hs:zaV l):
 Calls Tryz.prog 184 #[.pointer (some ⟨bs,0,none⟩),.int .u8 83] w (zV bs bg g N w (zJ s l 83) t (.tuple #[])):=by
 have HP:=zH h;have Hok:=zH ok;have hn:=ZI (hs 0).1 (hs 0).2;have hk:=ZI (hs 1).1 (hs 1).2;have f0:=(hs 0).1;have f9:=(hs 0).2;have k0:=(hs 1).1;have k9:=(hs 1).2;have hpk:ZW (t.nm 0) 1=Zu (l.getD 0 0):=by rw[hl.nm 0 (by omega)];rfl
 have hpk1:ZW (t.nm 1) 1=Zu (l.getD 1 0):=by rw[hl.nm 1 (by omega)];rfl
 have hpk2:ZW (t.nm 1) 9999=ZW (l.getD 1 0) 9999:=by rw[hl.nm 1 (by omega)]
 have c17:=h.f17;rw[hl.nm 0 (by omega)] at c17;have x0:=ok.x0;have x1:=ok.x1;have y0:=ok.y0;have y1:=ok.y1;have w2:=ok.w2;have h2:=ok.h2;have HDn:Hid (zJ s l 83={s with G:=zo s.top s.bot (Zu (l.getD 0 0)) (zS s) s.G}):=by
  show _=_;simp[zJ]
 clear hl hs ok h;generalize l.getD 1 0=kk at *;generalize l.getD 0 0=ff at *;generalize Zu kk=k at *;generalize Zu ff=n at *;obtain⟨n1,n9⟩:=hn;obtain⟨k1,k99⟩:=hk;go_in;go_wp2_with fail;go_at_call 204;refine sM (zaA bs bg g N s t 0 1 _ HP.out (by omega)) ?_;rw[hpk];go_wp2_with fail;go_at_call 208;refine(zjL bs bg g N s t n _ HP.out Hok.out.t0 Hok.out.tb Hok.out.b1).mono ?_;rintro e w5 ⟨rfl,P5,K5⟩;go_wp2_with fail;go_end0;refine⟨rfl,?_,K5⟩;rw[HDn.out];exact P5
theorem zwW (bs bg g N:Nat) (s:Rs) (t:Pt) (l:List Int) (w:World) (h:zh w bs bg g N s t) (ok:s.Ok) (hl:za9 t l) (hs:zaV l):
 Calls Tryz.prog 184 #[.pointer (some ⟨bs,0,none⟩),.int .u8 84] w (zV bs bg g N w (zJ s l 84) t (.tuple #[])):=by
 have HP:=zH h;have Hok:=zH ok;have hn:=ZI (hs 0).1 (hs 0).2;have hk:=ZI (hs 1).1 (hs 1).2;have f0:=(hs 0).1;have f9:=(hs 0).2;have k0:=(hs 1).1;have k9:=(hs 1).2;have hpk:ZW (t.nm 0) 1=Zu (l.getD 0 0):=by rw[hl.nm 0 (by omega)];rfl
 have hpk1:ZW (t.nm 1) 1=Zu (l.getD 1 0):=by rw[hl.nm 1 (by omega)];rfl
 have hpk2:ZW (t.nm 1) 9999=ZW (l.getD 1 0) 9999:=by rw[hl.nm 1 (by omega)]
 have c17:=h.f17;rw[hl.nm 0 (by omega)] at c17;have x0:=ok.x0;have x1:=ok.x1;have y0:=ok.y0;have y1:=ok.y1;have w2:=ok.w2;have h2:=ok.h2;have HDn:Hid (zJ s l 84={s with G:=zo s.top s.bot (-(Zu (l.getD 0 0))) (zS s) s.G}):=by
  show _=_;simp[zJ]
 clear hl hs ok h;generalize l.getD 1 0=kk at *;generalize l.getD 0 0=ff at *;generalize Zu kk=k at *;generalize Zu ff=n at *;obtain⟨n1,n9⟩:=hn;obtain⟨k1,k99⟩:=hk;go_in;go_wp2_with fail;go_at_call 204;refine sM (zaA bs bg g N s t 0 1 _ HP.out (by omega)) ?_;rw[hpk];go_wp2_with fail;go_at_call 208;refine(zjL bs bg g N s t (-n) _ HP.out Hok.out.t0 Hok.out.tb Hok.out.b1).mono ?_;rintro e w5 ⟨rfl,P5,K5⟩;go_wp2_with fail;go_end0;refine⟨rfl,?_,K5⟩;rw[HDn.out];exact P5
theorem zwX (bs bg g N:Nat) (s:Rs) (t:Pt) (l:List Int) (w:World) (h:zh w bs bg g N s t) (ok:s.Ok) (hl:za9 t l) (hs:zaV l):
 Calls Tryz.prog 184 #[.pointer (some ⟨bs,0,none⟩),.int .u8 114] w (zV bs bg g N w (zJ s l 114) t (.tuple #[])):=by
 have HP:=zH h;have Hok:=zH ok;have hn:=ZI (hs 0).1 (hs 0).2;have hk:=ZI (hs 1).1 (hs 1).2;have f0:=(hs 0).1;have f9:=(hs 0).2;have k0:=(hs 1).1;have k9:=(hs 1).2;have hpk:ZW (t.nm 0) 1=Zu (l.getD 0 0):=by rw[hl.nm 0 (by omega)];rfl
 have hpk1:ZW (t.nm 1) 1=Zu (l.getD 1 0):=by rw[hl.nm 1 (by omega)];rfl
 have hpk2:ZW (t.nm 1) 9999=ZW (l.getD 1 0) 9999:=by rw[hl.nm 1 (by omega)]
 have c17:=h.f17;rw[hl.nm 0 (by omega)] at c17;have x0:=ok.x0;have x1:=ok.x1;have y0:=ok.y0;have y1:=ok.y1;have w2:=ok.w2;have h2:=ok.h2;have HDn:Hid (zJ s l 114=zaO s (Zu (l.getD 0 0)) (l.getD 1 0)):=by
  show _=_;simp[zJ]
 clear hl hs ok h;generalize l.getD 1 0=kk at *;generalize l.getD 0 0=ff at *;generalize Zu kk=k at *;generalize Zu ff=n at *;obtain⟨n1,n9⟩:=hn;obtain⟨k1,k99⟩:=hk;go_in;go_wp2_with fail;go_at_call 204;refine sM (zaA bs bg g N s t 0 1 _ HP.out (by omega)) ?_;rw[hpk];go_wp2_with fail;go_at_call 204;refine sM (zaA bs bg g N s t 1 9999 _ HP.out (by omega)) ?_;rw[hpk2];go_wp2_with fail;go_at_call 209;refine(zqV bs bg g N s t n kk _ HP.out Hok.out k0 n1 n9).mono ?_;rintro e w5 ⟨rfl,P5,K5⟩;go_wp2_with fail;go_end0;refine⟨rfl,?_,K5⟩;rw[HDn.out];exact P5
theorem zwY (bs bg g N:Nat) (s:Rs) (t:Pt) (l:List Int) (w:World) (h:zh w bs bg g N s t) (ok:s.Ok) (hl:za9 t l) (hs:zaV l):
 Calls Tryz.prog 184 #[.pointer (some ⟨bs,0,none⟩),.int .u8 88] w (zV bs bg g N w (zJ s l 88) t (.tuple #[])):=by
 have HP:=zH h;have Hok:=zH ok;have hn:=ZI (hs 0).1 (hs 0).2;have hk:=ZI (hs 1).1 (hs 1).2;have f0:=(hs 0).1;have f9:=(hs 0).2;have k0:=(hs 1).1;have k9:=(hs 1).2;have hpk:ZW (t.nm 0) 1=Zu (l.getD 0 0):=by rw[hl.nm 0 (by omega)];rfl
 have hpk1:ZW (t.nm 1) 1=Zu (l.getD 1 0):=by rw[hl.nm 1 (by omega)];rfl
 have hpk2:ZW (t.nm 1) 9999=ZW (l.getD 1 0) 9999:=by rw[hl.nm 1 (by omega)]
 have c17:=h.f17;rw[hl.nm 0 (by omega)] at c17;have x0:=ok.x0;have x1:=ok.x1;have y0:=ok.y0;have y1:=ok.y1;have w2:=ok.w2;have h2:=ok.h2;have HDn:Hid (zJ s l 88={s with G:=wrt s.G (rg s.x (s.x+(Zu (l.getD 0 0))) s.y.toNat) (λ_ _=>blk (zS s))}):=by
  show _=_;simp[zJ]
 clear hl hs ok h;generalize l.getD 1 0=kk at *;generalize l.getD 0 0=ff at *;generalize Zu kk=k at *;generalize Zu ff=n at *;obtain⟨n1,n9⟩:=hn;obtain⟨k1,k99⟩:=hk;go_in;go_wp2_with fail;go_at_call 204;refine sM (zaA bs bg g N s t 0 1 _ HP.out (by omega)) ?_;rw[hpk];obtain⟨Y,hY⟩:∃Y:Nat,s.y=Y:=⟨s.y.toNat,by omega⟩;have hYH:Y<s.H:=by omega
 have c1:=HP.out.f1;have c2:=HP.out.f2;rw[hY] at c2;have HY:=zH hY;clear hY;have wr4:IntKind.i64.wrap (s.x+n)=s.x+n:=zm _ (by omega) (by omega);go_wp2_with fail;have HD:=zH HP.out.drew;go_region_held3 (λw'=>w'.cell? ⟨bs,1,none⟩=some (.int .i64 s.x)/\w'.cell? ⟨bs,2,none⟩=some (.int .i64 (Y:Int))) (simp[*]) (first|(go_at_call 207;refine(zft bs bg g N s t s.x (s.x+n) Y _ HD.out Hok.out.wf hYH).mono ?_;rintro e w3 ⟨rfl,P3,K3⟩;have e1:=P3.f1;have e2:=P3.f2;simp only[HY.out] at e2));go_wp2_with fail;go_end0;refine⟨rfl,?_,((zd.refl _ w).drew).trans K3 (λ_ _ h=>h)⟩;rw[HDn.out];refine P3.congr _ rfl rfl rfl ?_;rw[HY.out];exact zqW Hok.out.wf _ _ _ _
end
end Go.Proofs.YtjlfibhbfdckpaaGreatDoor
