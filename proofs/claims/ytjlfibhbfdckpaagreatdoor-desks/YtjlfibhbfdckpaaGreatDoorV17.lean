import Derived.Test.YtjlfibhbfdckpaaGreatDoorV16
namespace Go.Proofs.YtjlfibhbfdckpaaGreatDoor
set_option maxHeartbeats 64000000
set_option maxRecDepth 100000
section
open Go.RowKit
attribute [local go_sem ↓] Go.wp_at_zero Go.wp_at_succ
def zdv (s:Rs) (how:Int) (j:Nat):Rs:={s with G:=wrt s.G (λa b=>zct how true s.x s.y a b&&(decide ((b:Int)=s.y)||decide (b<j))) (λ_ _=>blk (zS s))}
theorem zuF (s:Rs) (how:Int):zbS s how false=zdv s how 0:=by
 unfold zbS zdv;congr 1;exact zhg (λa b=>by simp[zct])
theorem zqU {s:Rs} (hw:Wf s.W s.H s.G) (how:Int):ZX s.W s.H (zdv s how s.H).G (zbS s how true).G:=by
 unfold zbS zdv;refine zbm hw (λa b ha hb=>?_) (λ_ _ _ _ _=>rfl);simp[hb]
def zfd (how Y:Int) (j:Nat):Prop:=(how=0/\Y<j)\/(how=1/\(j:Int)<Y)\/how=2
theorem zj1 {s:Rs} (hw:Wf s.W s.H s.G) {how:Int} {j:Nat} (h:¬zfd how s.y j):ZX s.W s.H (zdv s how j).G (zdv s how (j+1)).G:=by
 unfold zdv;refine zbm hw (λa b ha hb=>?_) (λ_ _ _ _ _=>rfl);unfold zfd at h;rw[Bool.eq_iff_iff];simp only[zct,Bool.and_eq_true,Bool.or_eq_true,decide_eq_true_eq,Bool.true_or,and_true];constructor
 ·rintro⟨p,q⟩;exact⟨p,by omega⟩
 ·rintro⟨p,q⟩;exact⟨p,by omega⟩
theorem zh7 {s:Rs} (hw:Wf s.W s.H s.G) {how:Int} {j:Nat} (h:zfd how s.y j):ZX s.W s.H (zaH s.W 0 s.W j (zS s) (zdv s how j).G) (zdv s how (j+1)).G:=by
 unfold zdv zaH;rw[zm6 _ _ _ _ _ (λ_ _ _ _=>rfl)];refine zbm hw (λa b ha hb=>?_) (λa b _ _ _=>by simp);unfold zfd at h;rw[Bool.eq_iff_iff];simp only[zct,Bool.and_eq_true,Bool.or_eq_true,decide_eq_true_eq,Bool.true_or,and_true];constructor
 ·rintro(⟨p,q⟩|⟨⟨⟨p,q⟩,r⟩,u⟩)
  ·exact⟨p,by omega⟩
  ·exact⟨by omega,by omega⟩
 ·rintro⟨p,q⟩;by_cases e:b=j
  ·right;exact⟨⟨⟨e,by omega⟩,by omega⟩,ha⟩
  ·left;exact⟨p,by omega⟩
theorem zlp (bs bg g N:Nat) (s:Rs) (t:Pt) (how:Int) (w:World) (h:zh w bs bg g N s t) (ok:s.Ok):
 Calls Tryz.prog 206 #[.pointer (some ⟨bs,0,none⟩),.int .i64 how] w (zV bs bg g N w (zbS s how true) t (.tuple #[])):=by
 have HP:=zH h;have Hok:=zH ok;have y0:=ok.y0;have y1:=ok.y1;have h2:=ok.h2;clear h ok;go_in;go_wp2_with fail;go_at_call 205;refine(zh6 bs bg g N s t how _ HP.out Hok.out).mono ?_;rintro e wa ⟨rfl,P1,K1⟩;rw[zuF] at P1;have c0:=P1.f0;have HP1:=zH P1;have HK1:=zH K1;clear P1 K1;go_wp2_with (first|(go_at_call 127;refine sM (zbF bg g s.W s.H N (zdv s how 0).G _ HP1.out.gr) ?_));go_loopw[13] (λi w'=>∃j:Nat,j<=s.H/\i=.int .i64 j/\zh w' bs bg g N (zdv s how j) t/\zd (λi=>i=bs\/i=bg\/i=g) w w') (λi _=>s.H-(intOf i).toNat)
 case atStart=>exact⟨0,by omega,rfl,HP1.out,HK1.out⟩
 case round=>
  obtain⟨j,hj,rfl,hPj,hKj⟩:=hrel;have HPj:=zH hPj;have HKj:=zH hKj;have c0:=hPj.f0;have c2:wr.cell? ⟨bs,2,none⟩=some (.int .i64 s.y):=hPj.f2;clear hPj hKj HP1 HK1 HP;by_cases hlt:j<s.H
  ·have hlt':(j:Int)<s.H:=by omega
   by_cases h0:how=0/\s.y<j
   ·obtain⟨rfl,hYj⟩:=h0;have Hg:Hid (zfd 0 s.y j):=Or.inl ⟨rfl,hYj⟩;go_wp2_with (first|(go_at_call 126;refine sM (zcC bg g s.W s.H N (zdv s 0 j).G _ HPj.out.gr) ?_));go_at_call 207;refine(zft bs bg g N (zdv s 0 j) t 0 s.W j _ HPj.out (Hok.out.wf.blk _ _) hlt).mono ?_;rintro e w3 ⟨rfl,P3,K3⟩;have HP3:Hid (zh w3 bs bg g N (zdv s 0 (j+1)) t):=P3.congr _ rfl rfl rfl (zh7 Hok.out.wf Hg.out);have HK3:=zH<|HKj.out.trans K3 (λ_ _ h=>h)
    clear P3 K3 HPj HKj;go_wp2_with fail;exact⟨⟨j+1,by omega,by simp,HP3.out,HK3.out⟩,by simp only[intOf];omega⟩
   by_cases h1:how=1/\(j:Int)<s.y
   ·obtain⟨rfl,hYj⟩:=h1;have Hg:Hid (zfd 1 s.y j):=Or.inr (Or.inl ⟨rfl,hYj⟩);go_wp2_with (first|(go_at_call 126;refine sM (zcC bg g s.W s.H N (zdv s 1 j).G _ HPj.out.gr) ?_));go_at_call 207;refine(zft bs bg g N (zdv s 1 j) t 0 s.W j _ HPj.out (Hok.out.wf.blk _ _) hlt).mono ?_;rintro e w3 ⟨rfl,P3,K3⟩;have HP3:Hid (zh w3 bs bg g N (zdv s 1 (j+1)) t):=P3.congr _ rfl rfl rfl (zh7 Hok.out.wf Hg.out);have HK3:=zH<|HKj.out.trans K3 (λ_ _ h=>h)
    clear P3 K3 HPj HKj;go_wp2_with fail;exact⟨⟨j+1,by omega,by simp,HP3.out,HK3.out⟩,by simp only[intOf];omega⟩
   by_cases h3:how=2
   ·subst h3;have Hg:Hid (zfd 2 s.y j):=Or.inr (Or.inr rfl);go_wp2_with (first|(go_at_call 126;refine sM (zcC bg g s.W s.H N (zdv s 2 j).G _ HPj.out.gr) ?_));go_at_call 207;refine(zft bs bg g N (zdv s 2 j) t 0 s.W j _ HPj.out (Hok.out.wf.blk _ _) hlt).mono ?_;rintro e w3 ⟨rfl,P3,K3⟩;have HP3:Hid (zh w3 bs bg g N (zdv s 2 (j+1)) t):=P3.congr _ rfl rfl rfl (zh7 Hok.out.wf Hg.out);have HK3:=zH<|HKj.out.trans K3 (λ_ _ h=>h)
    clear P3 K3 HPj HKj;go_wp2_with fail;exact⟨⟨j+1,by omega,by simp,HP3.out,HK3.out⟩,by simp only[intOf];omega⟩
   have Hg:Hid (¬zfd how s.y j):=by show¬zfd how s.y j;unfold zfd;omega
   by_cases h4:how=0
   ·subst h4;have hYj:¬s.y<(j:Int):=by omega
    go_wp2_with fail;exact⟨⟨j+1,by omega,by simp,HPj.out.congr _ rfl rfl rfl (zj1 Hok.out.wf Hg.out),HKj.out⟩,by simp only[intOf];omega⟩
   by_cases h5:how=1
   ·subst h5;have hYj:¬(j:Int)<s.y:=by omega
    go_wp2_with fail;exact⟨⟨j+1,by omega,by simp,HPj.out.congr _ rfl rfl rfl (zj1 Hok.out.wf Hg.out),HKj.out⟩,by simp only[intOf];omega⟩
   ·clear h0 h1;go_wp2_with fail;exact⟨⟨j+1,by omega,by simp,HPj.out.congr _ rfl rfl rfl (zj1 Hok.out.wf Hg.out),HKj.out⟩,by simp only[intOf];omega⟩
  ·have hjH:j=s.H:=by omega
   subst hjH;go_wp2_with fail;go_end0;exact⟨rfl,HPj.out.congr _ rfl rfl rfl (zqU Hok.out.wf how),HKj.out⟩
theorem zoR {H:Nat} {k:Int} (h2:H<=20):ZU (ZW k 9999) H=zb9 H k:=by
 unfold ZU ZW zb9
 (repeat' split)<;>omega
theorem zqV (bs bg g N:Nat) (s:Rs) (t:Pt) (n k:Int) (w:World) (h:zh w bs bg g N s t) (ok:s.Ok) (k0:0<=k) (n1:1<=n) (n9:n<=9999):
 Calls Tryz.prog 209 #[.pointer (some ⟨bs,0,none⟩),.int .i64 n,.int .i64 (ZW k 9999)] w (zV bs bg g N w (zaO s n k) t (.tuple #[])):=by
 have HP:=zH h;have c0:=h.f0;have c9:=h.f9;have c10:=h.f10;have fz:=h.free;have h1:=ok.h1;have h2:=ok.h2;have hL:=zoR (H:=s.H) (k:=k) h2;have L1:1<=zb9 s.H k:=by unfold zb9;split<;>omega
 have LH:zb9 s.H k<=s.H:=by unfold zb9;split<;>omega
 have HM:Hid (∀c:Prop,[Decidable c]->(c↔n<zb9 s.H k\/(s.H=1/\n=1))->zaO s n k=if c then ZQ {s with top:=n-1,bot:=zb9 s.H k-1} 0 0 else s):=λc _ hc=>by
  unfold zaO;by_cases q:c
  ·rw[if_pos (hc.1 q),if_pos q]
  ·rw[if_neg (λz=>q (hc.2 z)),if_neg q]
 generalize zb9 s.H k=L at *;generalize ZW k 9999=kk at *;clear h ok;by_cases a:n<L
 ·have HM1:Hid (zaO s n k=ZQ {s with top:=n-1,bot:=L-1} 0 0):=by
   have:=HM.out True (by simp[a]);rwa [if_pos trivial] at this
  go_in;go_wp2_with (first|(go_at_call 127;refine sM (zbF bg g s.W s.H N s.G _ HP.out.gr) ?_)|(go_at_call 138;refine sM (zce _ _ _) ?_));go_at_call 120;refine(zfb bs bg g N {s with top:=n-1,bot:=L-1} t 0 0 _ ((HP.out.setTop _).setBot _)).mono ?_;rintro e w3 ⟨rfl,P3,K3⟩;go_wp2_with fail;go_end0;refine⟨rfl,?_,(((zd.refl _ w).setCell ⟨bs,9,none⟩ _ (λ_=>Or.inl rfl)).setCell ⟨bs,10,none⟩ _ (λ_=>Or.inl rfl)).trans K3 (λ_ _ h=>h)⟩;rw[HM1.out];exact P3
 by_cases b:n=L/\s.H=1
 ·obtain⟨b1,b2⟩:=b;have HM1:Hid (zaO s n k=ZQ {s with top:=n-1,bot:=L-1} 0 0):=by
   have:=HM.out True (by simp;omega);rwa [if_pos trivial] at this
  have b3:((s.H:Int)==1)=true:=by simp[b2]
  have b4:(n==L)=true:=by simp[b1]
  have b5:=a;clear b1 b2 a;go_in;go_wp2_with (first|(go_at_call 127;refine sM (zbF bg g s.W s.H N s.G _ HP.out.gr) ?_)|(go_at_call 138;refine sM (zce _ _ _) ?_));go_at_call 120;refine(zfb bs bg g N {s with top:=n-1,bot:=L-1} t 0 0 _ ((HP.out.setTop _).setBot _)).mono ?_;rintro e w3 ⟨rfl,P3,K3⟩;go_wp2_with fail;go_end0;refine⟨rfl,?_,(((zd.refl _ w).setCell ⟨bs,9,none⟩ _ (λ_=>Or.inl rfl)).setCell ⟨bs,10,none⟩ _ (λ_=>Or.inl rfl)).trans K3 (λ_ _ h=>h)⟩;rw[HM1.out];exact P3
 ·have HM1:Hid (zaO s n k=s):=by
   have:=HM.out False (by simp;omega);rwa [if_neg id] at this
  by_cases b1:n=L
  ·have b3:((s.H:Int)==1)=false:=by simp;omega
   have b4:(n==L)=true:=by simp[b1]
   clear b1 b;go_in;go_wp2_with (first|(go_at_call 127;refine sM (zbF bg g s.W s.H N s.G _ HP.out.gr) ?_)|(go_at_call 138;refine sM (zce _ _ _) ?_));go_end0;refine⟨rfl,?_,zd.refl _ w⟩;rw[HM1.out];exact HP.out
  ·have b4:(n==L)=false:=by simp[b1]
   clear b1 b;go_in;go_wp2_with (first|(go_at_call 127;refine sM (zbF bg g s.W s.H N s.G _ HP.out.gr) ?_)|(go_at_call 138;refine sM (zce _ _ _) ?_));go_end0;refine⟨rfl,?_,zd.refl _ w⟩;rw[HM1.out];exact HP.out
structure za9 (t:Pt) (l:List Int):Prop where
 cn:t.cn=l.length
 le:l.length<=8
 nm:∀i,i<8->t.nm i=l.getD i 0
theorem ZI {n:Int} (h0:0<=n) (h9:n<=9999):1<=Zu n/\Zu n<=9999:=by unfold Zu;split<;>omega
theorem zwO (bs bg g N:Nat) (s:Rs) (t:Pt) (l:List Int) (w:World) (h:zh w bs bg g N s t) (ok:s.Ok) (hl:za9 t l) (hs:zaV l):
 Calls Tryz.prog 184 #[.pointer (some ⟨bs,0,none⟩),.int .u8 65] w (zV bs bg g N w (zJ s l 65) t (.tuple #[])):=by
 have HP:=zH h;have Hok:=zH ok;have hn:=ZI (hs 0).1 (hs 0).2;have hf:=hl.nm 0 (by omega);have hpk:ZW (t.nm 0) 1=Zu (l.getD 0 0):=by rw[hf];rfl
 have x0:=ok.x0;have x1:=ok.x1;have y0:=ok.y0;have y1:=ok.y1;have w2:=ok.w2;have h2:=ok.h2;have HDn:Hid (zJ s l 65=ZQ s s.x (s.y-(Zu (l.getD 0 0)))):=by
  show _=_;simp[zJ]
 have Hq:=zH hf;clear hf hl hs ok h;generalize Zu (l.getD 0 0)=n at *;obtain⟨n1,n9⟩:=hn;have wr1:IntKind.i64.wrap (s.y-n)=s.y-n:=zm _ (by omega) (by omega);have wr2:IntKind.i64.wrap (s.y+n)=s.y+n:=zm _ (by omega) (by omega);have wr3:IntKind.i64.wrap (s.x-n)=s.x-n:=zm _ (by omega) (by omega);have wr4:IntKind.i64.wrap (s.x+n)=s.x+n:=zm _ (by omega) (by omega);have c1:=HP.out.f1;have c2:=HP.out.f2;go_in;go_wp2_with (first|(go_at_call 204;refine sM (zaA bs bg g N s t 0 1 _ HP.out (by omega)) ?_;rw[hpk]));go_region_with (first|(go_at_call 120;refine(zfb bs bg g N s t s.x (s.y-n) _ HP.out.drew).mono ?_;rintro e w5 ⟨rfl,R5,K5⟩));all_goals
  go_end0;refine⟨rfl,?_,((zd.refl _ w).drew).trans K5 (λ_ _ h=>h)⟩;rw[HDn.out];exact R5
theorem zwP (bs bg g N:Nat) (s:Rs) (t:Pt) (l:List Int) (w:World) (h:zh w bs bg g N s t) (ok:s.Ok) (hl:za9 t l) (hs:zaV l):
 Calls Tryz.prog 184 #[.pointer (some ⟨bs,0,none⟩),.int .u8 66] w (zV bs bg g N w (zJ s l 66) t (.tuple #[])):=by
 have HP:=zH h;have Hok:=zH ok;have hn:=ZI (hs 0).1 (hs 0).2;have hf:=hl.nm 0 (by omega);have hpk:ZW (t.nm 0) 1=Zu (l.getD 0 0):=by rw[hf];rfl
 have x0:=ok.x0;have x1:=ok.x1;have y0:=ok.y0;have y1:=ok.y1;have w2:=ok.w2;have h2:=ok.h2;have HDn:Hid (zJ s l 66=ZQ s s.x (s.y+(Zu (l.getD 0 0)))):=by
  show _=_;simp[zJ]
 have Hq:=zH hf;clear hf hl hs ok h;generalize Zu (l.getD 0 0)=n at *;obtain⟨n1,n9⟩:=hn;have wr1:IntKind.i64.wrap (s.y-n)=s.y-n:=zm _ (by omega) (by omega);have wr2:IntKind.i64.wrap (s.y+n)=s.y+n:=zm _ (by omega) (by omega);have wr3:IntKind.i64.wrap (s.x-n)=s.x-n:=zm _ (by omega) (by omega);have wr4:IntKind.i64.wrap (s.x+n)=s.x+n:=zm _ (by omega) (by omega);have c1:=HP.out.f1;have c2:=HP.out.f2;go_in;go_wp2_with (first|(go_at_call 204;refine sM (zaA bs bg g N s t 0 1 _ HP.out (by omega)) ?_;rw[hpk]));go_region_with (first|(go_at_call 120;refine(zfb bs bg g N s t s.x (s.y+n) _ HP.out.drew).mono ?_;rintro e w5 ⟨rfl,R5,K5⟩));all_goals
  go_end0;refine⟨rfl,?_,((zd.refl _ w).drew).trans K5 (λ_ _ h=>h)⟩;rw[HDn.out];exact R5
theorem zwQ (bs bg g N:Nat) (s:Rs) (t:Pt) (l:List Int) (w:World) (h:zh w bs bg g N s t) (ok:s.Ok) (hl:za9 t l) (hs:zaV l):
 Calls Tryz.prog 184 #[.pointer (some ⟨bs,0,none⟩),.int .u8 67] w (zV bs bg g N w (zJ s l 67) t (.tuple #[])):=by
 have HP:=zH h;have Hok:=zH ok;have hn:=ZI (hs 0).1 (hs 0).2;have hf:=hl.nm 0 (by omega);have hpk:ZW (t.nm 0) 1=Zu (l.getD 0 0):=by rw[hf];rfl
 have x0:=ok.x0;have x1:=ok.x1;have y0:=ok.y0;have y1:=ok.y1;have w2:=ok.w2;have h2:=ok.h2;have HDn:Hid (zJ s l 67=ZQ s (s.x+(Zu (l.getD 0 0))) s.y):=by
  show _=_;simp[zJ]
 have Hq:=zH hf;clear hf hl hs ok h;generalize Zu (l.getD 0 0)=n at *;obtain⟨n1,n9⟩:=hn;have wr1:IntKind.i64.wrap (s.y-n)=s.y-n:=zm _ (by omega) (by omega);have wr2:IntKind.i64.wrap (s.y+n)=s.y+n:=zm _ (by omega) (by omega);have wr3:IntKind.i64.wrap (s.x-n)=s.x-n:=zm _ (by omega) (by omega);have wr4:IntKind.i64.wrap (s.x+n)=s.x+n:=zm _ (by omega) (by omega);have c1:=HP.out.f1;have c2:=HP.out.f2;go_in;go_wp2_with (first|(go_at_call 204;refine sM (zaA bs bg g N s t 0 1 _ HP.out (by omega)) ?_;rw[hpk]));go_region_with (first|(go_at_call 120;refine(zfb bs bg g N s t (s.x+n) s.y _ HP.out.drew).mono ?_;rintro e w5 ⟨rfl,R5,K5⟩));all_goals
  go_end0;refine⟨rfl,?_,((zd.refl _ w).drew).trans K5 (λ_ _ h=>h)⟩;rw[HDn.out];exact R5
theorem zwR (bs bg g N:Nat) (s:Rs) (t:Pt) (l:List Int) (w:World) (h:zh w bs bg g N s t) (ok:s.Ok) (hl:za9 t l) (hs:zaV l):
 Calls Tryz.prog 184 #[.pointer (some ⟨bs,0,none⟩),.int .u8 68] w (zV bs bg g N w (zJ s l 68) t (.tuple #[])):=by
 have HP:=zH h;have Hok:=zH ok;have hn:=ZI (hs 0).1 (hs 0).2;have hf:=hl.nm 0 (by omega);have hpk:ZW (t.nm 0) 1=Zu (l.getD 0 0):=by rw[hf];rfl
 have x0:=ok.x0;have x1:=ok.x1;have y0:=ok.y0;have y1:=ok.y1;have w2:=ok.w2;have h2:=ok.h2;have HDn:Hid (zJ s l 68=ZQ s (s.x-(Zu (l.getD 0 0))) s.y):=by
  show _=_;simp[zJ]
 have Hq:=zH hf;clear hf hl hs ok h;generalize Zu (l.getD 0 0)=n at *;obtain⟨n1,n9⟩:=hn;have wr1:IntKind.i64.wrap (s.y-n)=s.y-n:=zm _ (by omega) (by omega);have wr2:IntKind.i64.wrap (s.y+n)=s.y+n:=zm _ (by omega) (by omega);have wr3:IntKind.i64.wrap (s.x-n)=s.x-n:=zm _ (by omega) (by omega);have wr4:IntKind.i64.wrap (s.x+n)=s.x+n:=zm _ (by omega) (by omega);have c1:=HP.out.f1;have c2:=HP.out.f2;go_in;go_wp2_with (first|(go_at_call 204;refine sM (zaA bs bg g N s t 0 1 _ HP.out (by omega)) ?_;rw[hpk]));go_region_with (first|(go_at_call 120;refine(zfb bs bg g N s t (s.x-n) s.y _ HP.out.drew).mono ?_;rintro e w5 ⟨rfl,R5,K5⟩));all_goals
  go_end0;refine⟨rfl,?_,((zd.refl _ w).drew).trans K5 (λ_ _ h=>h)⟩;rw[HDn.out];exact R5
theorem zqW {W H:Nat} {G:Nat->Nat->zk} (hw:Wf W H G) (x0 x1:Int) (y:Nat) (p:Pn):ZX W H (zaH W x0 x1 y p G) (wrt G (rg x0 x1 y) (λ_ _=>blk p)):=by
 unfold zaH;refine zbm hw (λa b ha hb=>?_) (λ_ _ _ _ _=>rfl);rw[Bool.eq_iff_iff,zjt];simp[ha,and_assoc]
theorem zwS (bs bg g N:Nat) (s:Rs) (t:Pt) (l:List Int) (w:World) (h:zh w bs bg g N s t) (ok:s.Ok) (hl:za9 t l) (hs:zaV l):
 Calls Tryz.prog 184 #[.pointer (some ⟨bs,0,none⟩),.int .u8 72] w (zV bs bg g N w (zJ s l 72) t (.tuple #[])):=by
 have HP:=zH h;have Hok:=zH ok;have hn:=ZI (hs 0).1 (hs 0).2;have hk:=ZI (hs 1).1 (hs 1).2;have f0:=(hs 0).1;have f9:=(hs 0).2;have k0:=(hs 1).1;have k9:=(hs 1).2;have hpk:ZW (t.nm 0) 1=Zu (l.getD 0 0):=by rw[hl.nm 0 (by omega)];rfl
 have hpk1:ZW (t.nm 1) 1=Zu (l.getD 1 0):=by rw[hl.nm 1 (by omega)];rfl
 have hpk2:ZW (t.nm 1) 9999=ZW (l.getD 1 0) 9999:=by rw[hl.nm 1 (by omega)]
 have c17:=h.f17;rw[hl.nm 0 (by omega)] at c17;have x0:=ok.x0;have x1:=ok.x1;have y0:=ok.y0;have y1:=ok.y1;have w2:=ok.w2;have h2:=ok.h2;have HDn:Hid (zJ s l 72=ZQ s (Zu (l.getD 1 0)-1) ((Zu (l.getD 0 0))-1)):=by
  show _=_;simp[zJ]
 clear hl hs ok h;generalize l.getD 1 0=kk at *;generalize l.getD 0 0=ff at *;generalize Zu kk=k at *;generalize Zu ff=n at *;obtain⟨n1,n9⟩:=hn;obtain⟨k1,k99⟩:=hk;go_in;go_wp2_with fail;go_at_call 204;refine sM (zaA bs bg g N s t 0 1 _ HP.out (by omega)) ?_;rw[hpk];go_wp2_with fail;go_at_call 204;refine sM (zaA bs bg g N s t 1 1 _ HP.out (by omega)) ?_;rw[hpk1];go_wp2_with fail;go_at_call 120;refine(zfb bs bg g N s t (k-1) (n-1) _ HP.out).mono ?_;rintro e w5 ⟨rfl,P5,K5⟩;go_wp2_with fail;go_end0;refine⟨rfl,?_,K5⟩;rw[HDn.out];exact P5
theorem zwT (bs bg g N:Nat) (s:Rs) (t:Pt) (l:List Int) (w:World) (h:zh w bs bg g N s t) (ok:s.Ok) (hl:za9 t l) (hs:zaV l):
 Calls Tryz.prog 184 #[.pointer (some ⟨bs,0,none⟩),.int .u8 75] w (zV bs bg g N w (zJ s l 75) t (.tuple #[])):=by
 have HP:=zH h;have Hok:=zH ok;have hn:=ZI (hs 0).1 (hs 0).2;have hk:=ZI (hs 1).1 (hs 1).2;have f0:=(hs 0).1;have f9:=(hs 0).2;have k0:=(hs 1).1;have k9:=(hs 1).2;have hpk:ZW (t.nm 0) 1=Zu (l.getD 0 0):=by rw[hl.nm 0 (by omega)];rfl
 have hpk1:ZW (t.nm 1) 1=Zu (l.getD 1 0):=by rw[hl.nm 1 (by omega)];rfl
 have hpk2:ZW (t.nm 1) 9999=ZW (l.getD 1 0) 9999:=by rw[hl.nm 1 (by omega)]
 have c17:=h.f17;rw[hl.nm 0 (by omega)] at c17;have x0:=ok.x0;have x1:=ok.x1;have y0:=ok.y0;have y1:=ok.y1;have w2:=ok.w2;have h2:=ok.h2;have HDn:Hid (zJ s l 75=zbS s (l.getD 0 0) false):=by
  show _=_;simp[zJ]
 clear hl hs ok h;generalize l.getD 1 0=kk at *;generalize l.getD 0 0=ff at *;generalize Zu kk=k at *;generalize Zu ff=n at *;obtain⟨n1,n9⟩:=hn;obtain⟨k1,k99⟩:=hk;go_in;go_wp2_with fail;go_at_call 204;refine sM (zaA bs bg g N s t 0 1 _ HP.out (by omega)) ?_;rw[hpk];go_wp2_with fail;go_at_call 205;refine(zh6 bs bg g N s t ff _ HP.out Hok.out).mono ?_;rintro e w5 ⟨rfl,P5,K5⟩;go_wp2_with fail;go_end0;refine⟨rfl,?_,K5⟩;rw[HDn.out];exact P5
theorem zwU (bs bg g N:Nat) (s:Rs) (t:Pt) (l:List Int) (w:World) (h:zh w bs bg g N s t) (ok:s.Ok) (hl:za9 t l) (hs:zaV l):
 Calls Tryz.prog 184 #[.pointer (some ⟨bs,0,none⟩),.int .u8 74] w (zV bs bg g N w (zJ s l 74) t (.tuple #[])):=by
 have HP:=zH h;have Hok:=zH ok;have hn:=ZI (hs 0).1 (hs 0).2;have hk:=ZI (hs 1).1 (hs 1).2;have f0:=(hs 0).1;have f9:=(hs 0).2;have k0:=(hs 1).1;have k9:=(hs 1).2;have hpk:ZW (t.nm 0) 1=Zu (l.getD 0 0):=by rw[hl.nm 0 (by omega)];rfl
 have hpk1:ZW (t.nm 1) 1=Zu (l.getD 1 0):=by rw[hl.nm 1 (by omega)];rfl
 have hpk2:ZW (t.nm 1) 9999=ZW (l.getD 1 0) 9999:=by rw[hl.nm 1 (by omega)]
 have c17:=h.f17;rw[hl.nm 0 (by omega)] at c17;have x0:=ok.x0;have x1:=ok.x1;have y0:=ok.y0;have y1:=ok.y1;have w2:=ok.w2;have h2:=ok.h2;have HDn:Hid (zJ s l 74=zbS s (l.getD 0 0) true):=by
  show _=_;simp[zJ]
 clear hl hs ok h;generalize l.getD 1 0=kk at *;generalize l.getD 0 0=ff at *;generalize Zu kk=k at *;generalize Zu ff=n at *;obtain⟨n1,n9⟩:=hn;obtain⟨k1,k99⟩:=hk;go_in;go_wp2_with fail;go_at_call 204;refine sM (zaA bs bg g N s t 0 1 _ HP.out (by omega)) ?_;rw[hpk];go_wp2_with fail;go_at_call 206;refine(zlp bs bg g N s t ff _ HP.out Hok.out).mono ?_;rintro e w5 ⟨rfl,P5,K5⟩;go_wp2_with fail;go_end0;refine⟨rfl,?_,K5⟩;rw[HDn.out];exact P5
theorem zwV (bs bg g N:Nat) (s:Rs) (t:Pt) (l:List Int) (w:World) (h:zh w bs bg g N s t) (ok:s.Ok) (hl:za9 t l) (hs:zaV l):
 Calls Tryz.prog 184 #[.pointer (some ⟨bs,0,none⟩),.int .u8 83] w (zV bs bg g N w (zJ s l 83) t (.tuple #[])):=by
 have HP:=zH h;have Hok:=zH ok;have hn:=ZI (hs 0).1 (hs 0).2;have hk:=ZI (hs 1).1 (hs 1).2;have f0:=(hs 0).1;have f9:=(hs 0).2;have k0:=(hs 1).1;have k9:=(hs 1).2;have hpk:ZW (t.nm 0) 1=Zu (l.getD 0 0):=by rw[hl.nm 0 (by omega)];rfl
 have hpk1:ZW (t.nm 1) 1=Zu (l.getD 1 0):=by rw[hl.nm 1 (by omega)];rfl
 have hpk2:ZW (t.nm 1) 9999=ZW (l.getD 1 0) 9999:=by rw[hl.nm 1 (by omega)]
 have c17:=h.f17;rw[hl.nm 0 (by omega)] at c17;have x0:=ok.x0;have x1:=ok.x1;have y0:=ok.y0;have y1:=ok.y1;have w2:=ok.w2;have h2:=ok.h2;have HDn:Hid (zJ s l 83={s with G:=zo s.top s.bot (Zu (l.getD 0 0)) (zS s) s.G}):=by
  show _=_;simp[zJ]
 clear hl hs ok h;generalize l.getD 1 0=kk at *;generalize l.getD 0 0=ff at *;generalize Zu kk=k at *;generalize Zu ff=n at *;obtain⟨n1,n9⟩:=hn;obtain⟨k1,k99⟩:=hk;go_in;go_wp2_with fail;go_at_call 204;refine sM (zaA bs bg g N s t 0 1 _ HP.out (by omega)) ?_;rw[hpk];go_wp2_with fail;go_at_call 208;refine(zjL bs bg g N s t n _ HP.out Hok.out.t0 Hok.out.tb Hok.out.b1).mono ?_;rintro e w5 ⟨rfl,P5,K5⟩;go_wp2_with fail;go_end0;refine⟨rfl,?_,K5⟩;rw[HDn.out];exact P5
theorem zwW (bs bg g N:Nat) (s:Rs) (t:Pt) (l:List Int) (w:World) (h:zh w bs bg g N s t) (ok:s.Ok) (hl:za9 t l) (hs:zaV l):
 Calls Tryz.prog 184 #[.pointer (some ⟨bs,0,none⟩),.int .u8 84] w (zV bs bg g N w (zJ s l 84) t (.tuple #[])):=by
 have HP:=zH h;have Hok:=zH ok;have hn:=ZI (hs 0).1 (hs 0).2;have hk:=ZI (hs 1).1 (hs 1).2;have f0:=(hs 0).1;have f9:=(hs 0).2;have k0:=(hs 1).1;have k9:=(hs 1).2;have hpk:ZW (t.nm 0) 1=Zu (l.getD 0 0):=by rw[hl.nm 0 (by omega)];rfl
 have hpk1:ZW (t.nm 1) 1=Zu (l.getD 1 0):=by rw[hl.nm 1 (by omega)];rfl
 have hpk2:ZW (t.nm 1) 9999=ZW (l.getD 1 0) 9999:=by rw[hl.nm 1 (by omega)]
 have c17:=h.f17;rw[hl.nm 0 (by omega)] at c17;have x0:=ok.x0;have x1:=ok.x1;have y0:=ok.y0;have y1:=ok.y1;have w2:=ok.w2;have h2:=ok.h2;have HDn:Hid (zJ s l 84={s with G:=zo s.top s.bot (-(Zu (l.getD 0 0))) (zS s) s.G}):=by
  show _=_;simp[zJ]
 clear hl hs ok h;generalize l.getD 1 0=kk at *;generalize l.getD 0 0=ff at *;generalize Zu kk=k at *;generalize Zu ff=n at *;obtain⟨n1,n9⟩:=hn;obtain⟨k1,k99⟩:=hk;go_in;go_wp2_with fail;go_at_call 204;refine sM (zaA bs bg g N s t 0 1 _ HP.out (by omega)) ?_;rw[hpk];go_wp2_with fail;go_at_call 208;refine(zjL bs bg g N s t (-n) _ HP.out Hok.out.t0 Hok.out.tb Hok.out.b1).mono ?_;rintro e w5 ⟨rfl,P5,K5⟩;go_wp2_with fail;go_end0;refine⟨rfl,?_,K5⟩;rw[HDn.out];exact P5
theorem zwX (bs bg g N:Nat) (s:Rs) (t:Pt) (l:List Int) (w:World) (h:zh w bs bg g N s t) (ok:s.Ok) (hl:za9 t l) (hs:zaV l):
 Calls Tryz.prog 184 #[.pointer (some ⟨bs,0,none⟩),.int .u8 114] w (zV bs bg g N w (zJ s l 114) t (.tuple #[])):=by
 have HP:=zH h;have Hok:=zH ok;have hn:=ZI (hs 0).1 (hs 0).2;have hk:=ZI (hs 1).1 (hs 1).2;have f0:=(hs 0).1;have f9:=(hs 0).2;have k0:=(hs 1).1;have k9:=(hs 1).2;have hpk:ZW (t.nm 0) 1=Zu (l.getD 0 0):=by rw[hl.nm 0 (by omega)];rfl
 have hpk1:ZW (t.nm 1) 1=Zu (l.getD 1 0):=by rw[hl.nm 1 (by omega)];rfl
 have hpk2:ZW (t.nm 1) 9999=ZW (l.getD 1 0) 9999:=by rw[hl.nm 1 (by omega)]
 have c17:=h.f17;rw[hl.nm 0 (by omega)] at c17;have x0:=ok.x0;have x1:=ok.x1;have y0:=ok.y0;have y1:=ok.y1;have w2:=ok.w2;have h2:=ok.h2;have HDn:Hid (zJ s l 114=zaO s (Zu (l.getD 0 0)) (l.getD 1 0)):=by
  show _=_;simp[zJ]
 clear hl hs ok h;generalize l.getD 1 0=kk at *;generalize l.getD 0 0=ff at *;generalize Zu kk=k at *;generalize Zu ff=n at *;obtain⟨n1,n9⟩:=hn;obtain⟨k1,k99⟩:=hk;go_in;go_wp2_with fail;go_at_call 204;refine sM (zaA bs bg g N s t 0 1 _ HP.out (by omega)) ?_;rw[hpk];go_wp2_with fail;go_at_call 204;refine sM (zaA bs bg g N s t 1 9999 _ HP.out (by omega)) ?_;rw[hpk2];go_wp2_with fail;go_at_call 209;refine(zqV bs bg g N s t n kk _ HP.out Hok.out k0 n1 n9).mono ?_;rintro e w5 ⟨rfl,P5,K5⟩;go_wp2_with fail;go_end0;refine⟨rfl,?_,K5⟩;rw[HDn.out];exact P5
theorem zwY (bs bg g N:Nat) (s:Rs) (t:Pt) (l:List Int) (w:World) (h:zh w bs bg g N s t) (ok:s.Ok) (hl:za9 t l) (hs:zaV l):
 Calls Tryz.prog 184 #[.pointer (some ⟨bs,0,none⟩),.int .u8 88] w (zV bs bg g N w (zJ s l 88) t (.tuple #[])):=by
 have HP:=zH h;have Hok:=zH ok;have hn:=ZI (hs 0).1 (hs 0).2;have hk:=ZI (hs 1).1 (hs 1).2;have f0:=(hs 0).1;have f9:=(hs 0).2;have k0:=(hs 1).1;have k9:=(hs 1).2;have hpk:ZW (t.nm 0) 1=Zu (l.getD 0 0):=by rw[hl.nm 0 (by omega)];rfl
 have hpk1:ZW (t.nm 1) 1=Zu (l.getD 1 0):=by rw[hl.nm 1 (by omega)];rfl
 have hpk2:ZW (t.nm 1) 9999=ZW (l.getD 1 0) 9999:=by rw[hl.nm 1 (by omega)]
 have c17:=h.f17;rw[hl.nm 0 (by omega)] at c17;have x0:=ok.x0;have x1:=ok.x1;have y0:=ok.y0;have y1:=ok.y1;have w2:=ok.w2;have h2:=ok.h2;have HDn:Hid (zJ s l 88={s with G:=wrt s.G (rg s.x (s.x+(Zu (l.getD 0 0))) s.y.toNat) (λ_ _=>blk (zS s))}):=by
  show _=_;simp[zJ]
 clear hl hs ok h;generalize l.getD 1 0=kk at *;generalize l.getD 0 0=ff at *;generalize Zu kk=k at *;generalize Zu ff=n at *;obtain⟨n1,n9⟩:=hn;obtain⟨k1,k99⟩:=hk;go_in;go_wp2_with fail;go_at_call 204;refine sM (zaA bs bg g N s t 0 1 _ HP.out (by omega)) ?_;rw[hpk];obtain⟨Y,hY⟩:∃Y:Nat,s.y=Y:=⟨s.y.toNat,by omega⟩;have hYH:Y<s.H:=by omega
 have c1:=HP.out.f1;have c2:=HP.out.f2;rw[hY] at c2;have HY:=zH hY;clear hY;have wr4:IntKind.i64.wrap (s.x+n)=s.x+n:=zm _ (by omega) (by omega);go_wp2_with fail;have HD:=zH HP.out.drew;go_region_held3 (λw'=>w'.cell? ⟨bs,1,none⟩=some (.int .i64 s.x)/\w'.cell? ⟨bs,2,none⟩=some (.int .i64 (Y:Int))) (simp[*]) (first|(go_at_call 207;refine(zft bs bg g N s t s.x (s.x+n) Y _ HD.out Hok.out.wf hYH).mono ?_;rintro e w3 ⟨rfl,P3,K3⟩;have e1:=P3.f1;have e2:=P3.f2;simp only[HY.out] at e2));go_wp2_with fail;go_end0;refine⟨rfl,?_,((zd.refl _ w).drew).trans K3 (λ_ _ h=>h)⟩;rw[HDn.out];refine P3.congr _ rfl rfl rfl ?_;rw[HY.out];exact zqW Hok.out.wf _ _ _ _
def zdw (s:Rs) (l:List Int) (j:Nat):Rs:={s with pen:=((zz l).take j).foldl zdb s.pen}
theorem zb4 (l:List Int):(zz l).length=if l.length=0 then 1 else l.length:=by
 unfold zz;by_cases h:l=[]
 ·subst h;rfl
 ·rw[if_neg h,if_neg (λq=>h (List.eq_nil_of_length_eq_zero q))]
theorem zqX (l:List Int) (j:Nat) (h:j<(zz l).length):(zz l)[j]=l.getD j 0:=by
 unfold zz at h ⊢;by_cases e:l=[]
 ·subst e;simp at h;subst h;rfl
 ·simp only[if_neg e] at h ⊢;simp[List.getD_eq_getElem?_getD,h]
theorem zoS (s:Rs) (l:List Int) (j:Nat) (h:j<(zz l).length):zek (zdw s l j) (l.getD j 0)=zdw s l (j+1):=by
 unfold zek zdw;rw[List.take_succ_eq_append_getElem h,List.foldl_append,zqX l j h];rfl
theorem zqY (s:Rs) (l:List Int):zdw s l (zz l).length=zdf s (zz l):=by
 unfold zdw zdf;rw[List.take_length]
theorem zwZ (bs bg g N:Nat) (s:Rs) (t:Pt) (l:List Int) (w:World) (h:zh w bs bg g N s t) (hl:za9 t l):
 Calls Tryz.prog 184 #[.pointer (some ⟨bs,0,none⟩),.int .u8 109] w (zV bs bg g N w (zJ s l 109) t (.tuple #[])):=by
 have HP:=zH h;have hpk:ZW (t.nm 0) 1=Zu (l.getD 0 0):=by rw[hl.nm 0 (by omega)];rfl
 have HDn:Hid (zJ s l 109=zdw s l (zz l).length):=by
  rw[zqY];show _=_;simp[zJ]
 have Hl:=zH hl;have hle:=hl.le;obtain⟨m,hm⟩:∃m,(zz l).length=m:=⟨_,rfl⟩;have Hm:=zH hm;have Hm':Hid ((if l.length=0 then 1 else l.length)=m):=by rw[←hm];exact(zb4 l).symm
 have m8:m<=8:=by have:=Hm'.out;split at this<;>omega
 clear h hl hm;go_in;go_wp2_with fail;go_at_call 204;refine sM (zaA bs bg g N s t 0 1 _ HP.out (by omega)) ?_;rw[hpk];go_wp2_with fail;go_at_call 210;refine(zwN bs bg g N s t _ HP.out l.length Hl.out.cn Hl.out.le).mono ?_;rintro e wa ⟨rfl,hb⟩;have HP1:Hid (zh wa bs bg g N (zdw s l 0) t):=HP.out.below hb;have HK1:Hid (zd (λi=>i=bs\/i=bg\/i=g) w wa):=zd.below _ hb;rw[Hm'.out];clear hb HP;go_wp2_with fail;clear hpk;go_loopw[144] (λi w'=>∃j:Nat,j<=m/\i=.int .i64 j/\zh w' bs bg g N (zdw s l j) t/\zd (λi=>i=bs\/i=bg\/i=g) w w') (λi _=>m-(intOf i).toNat)
 case atStart=>exact⟨0,by omega,rfl,HP1.out,HK1.out⟩
 case round=>
  obtain⟨j,hj,rfl,hPj,hKj⟩:=hrel;have HPj:=zH hPj;have HKj:=zH hKj;clear hPj hKj HP1 HK1;by_cases hlt:j<m
  ·have hlt':(j:Int)<m:=by omega
   have cj:=HPj.out.num j (by omega);rw[Hl.out.nm j (by omega)] at cj;generalize hq:l.getD j 0=q at *;have Hq:=zH hq;clear hq;go_wp2_with fail;go_at_call 211;refine(zmF bs bg g N (zdw s l j) t q _ HPj.out).mono ?_;rintro e w3 ⟨rfl,P3,K3⟩;have HP3:Hid (zh w3 bs bg g N (zdw s l (j+1)) t):=by
    rw[←zoS s l j (by have:=Hm.out;omega),Hq.out];exact P3
   have HK3:=zH<|HKj.out.trans K3 (λ_ _ h=>h)
   clear P3 K3 HPj HKj cj;go_wp2_with fail;exact⟨⟨j+1,by omega,by simp,HP3.out,HK3.out⟩,by simp only[intOf];omega⟩
  ·have hjm:j=m:=by omega
   subst hjm;go_wp2_with fail;go_end0;refine⟨rfl,?_,HKj.out⟩;rw[HDn.out,Hm.out];exact HPj.out
theorem zw0 (bs bg g N:Nat) (s:Rs) (t:Pt) (l:List Int) (c:Int) (w:World) (h:zh w bs bg g N s t) (hc:¬c=65/\¬c=66/\¬c=67/\¬c=68/\¬c=72/\¬c=75/\¬c=74/\¬c=88/\¬c=83/\¬c=84/\¬c=114/\¬c=109):
 Calls Tryz.prog 184 #[.pointer (some ⟨bs,0,none⟩),.int .u8 c] w (zV bs bg g N w (zJ s l c) t (.tuple #[])):=by
 have HP:=zH h;obtain⟨a1,a2,a3,a4,a5,a6,a7,a8,a9,a10,a11,a12⟩:=hc;have HDn:Hid (zJ s l c=zbn s):=by
  show _=_;simp[zJ,a1,a2,a3,a4,a5,a6,a7,a8,a9,a10,a11,a12]
 clear h;go_in;go_wp2_with (first|(go_at_call 204;refine sM (zaA bs bg g N s t 0 1 _ HP.out (by omega)) ?_));go_end0;refine⟨rfl,?_,zd.refl _ w⟩;rw[HDn.out];exact HP.out.congr _ rfl rfl rfl (λ_ _ _ _=>rfl)
end
end Go.Proofs.YtjlfibhbfdckpaaGreatDoor
