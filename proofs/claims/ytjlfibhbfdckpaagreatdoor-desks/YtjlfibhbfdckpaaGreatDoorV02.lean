import Derived.Test.YtjlfibhbfdckpaaGreatDoorV01
import Derived.Test.YtjlfibhbfdckpaaGreatDoorChecked
import Derived.WalkSpells
import Derived.WalkLawsBesides
import Derived.BigQuiet
namespace Go.Proofs.YtjlfibhbfdckpaaGreatDoor
set_option maxHeartbeats 64000000
set_option maxRecDepth 100000
namespace Wd
def inB (n a b:Int):Bool:=decide (a<=n)&&decide (n<=b)
theorem zm4 {n a b:Int}:inB n a b=true↔a<=n/\n<=b:=by simp[inB]
def validB (n:Int):Bool:=inB n 0 55295||inB n 57344 1114111
def zeroB (n:Int):Bool:=!validB n||decide (n<32)||inB n 127 159||inB n 768 879||inB n 8203 8207
def za5 (n:Int):Bool:=inB n 4352 4447||inB n 11904 42191||inB n 44032 55203||inB n 63744 64255||inB n 65072 65103||inB n 65280 65376||inB n 65504 65510||inB n 127744 128591||inB n 131072 262141
def wd (n:Int):Int:=if zeroB n then 0 else if za5 n then 2 else 1
theorem wd_cases (n:Int):wd n=0\/wd n=1\/wd n=2:=by
 unfold wd;cases zeroB n<;>cases za5 n<;>simp
theorem zke (n:Int):(0<=n/\n<55296/\validB n=true)\/(57343<n/\n<=1114111/\validB n=true)\/(n<0/\validB n=false)\/(55296<=n/\n<=57343/\validB n=false)\/(1114111<n/\validB n=false):=by
 have a:=@zm4 n 0 55295;have b:=@zm4 n 57344 1114111;unfold validB;cases h1:inB n 0 55295<;>cases h2:inB n 57344 1114111<;>simp[h1,h2] at a b ⊢<;>omega
theorem zlN (n:Int):(validB n=false/\zeroB n=true)\/(validB n=true/\n<32/\zeroB n=true)\/(validB n=true/\32<=n/\inB n 127 159=true/\zeroB n=true)
 ∨ (validB n=true/\32<=n/\inB n 127 159=false/\inB n 768 879=true/\zeroB n=true)\/(validB n=true/\32<=n/\inB n 127 159=false/\inB n 768 879=false/\inB n 8203 8207=true/\zeroB n=true)
 ∨ (validB n=true/\32<=n/\inB n 127 159=false/\inB n 768 879=false/\inB n 8203 8207=false/\zeroB n=false):=by
 unfold zeroB;by_cases h0:n<32
 ·cases validB n<;>simp[h0]
 ·have h0':32<=n:=by omega
  cases validB n<;>cases inB n 127 159<;>cases inB n 768 879<;>cases inB n 8203 8207<;>simp[h0,h0']
theorem zlO (n:Int):(inB n 4352 4447=true/\za5 n=true)
 ∨ (inB n 4352 4447=false/\inB n 11904 42191=true/\za5 n=true)
 ∨ (inB n 4352 4447=false/\inB n 11904 42191=false/\inB n 44032 55203=true/\za5 n=true)
 ∨ (inB n 4352 4447=false/\inB n 11904 42191=false/\inB n 44032 55203=false/\inB n 63744 64255=true/\za5 n=true)
 ∨ (inB n 4352 4447=false/\inB n 11904 42191=false/\inB n 44032 55203=false/\inB n 63744 64255=false/\inB n 65072 65103=true/\za5 n=true)
 ∨ (inB n 4352 4447=false/\inB n 11904 42191=false/\inB n 44032 55203=false/\inB n 63744 64255=false/\inB n 65072 65103=false/\inB n 65280 65376=true/\za5 n=true)
 ∨ (inB n 4352 4447=false/\inB n 11904 42191=false/\inB n 44032 55203=false/\inB n 63744 64255=false/\inB n 65072 65103=false/\inB n 65280 65376=false/\inB n 65504 65510=true/\za5 n=true)
 ∨ (inB n 4352 4447=false/\inB n 11904 42191=false/\inB n 44032 55203=false/\inB n 63744 64255=false/\inB n 65072 65103=false/\inB n 65280 65376=false/\inB n 65504 65510=false/\inB n 127744 128591=true/\za5 n=true)
 ∨ (inB n 4352 4447=false/\inB n 11904 42191=false/\inB n 44032 55203=false/\inB n 63744 64255=false/\inB n 65072 65103=false/\inB n 65280 65376=false/\inB n 65504 65510=false/\inB n 127744 128591=false/\inB n 131072 262141=true/\za5 n=true)
 ∨ (inB n 4352 4447=false/\inB n 11904 42191=false/\inB n 44032 55203=false/\inB n 63744 64255=false/\inB n 65072 65103=false/\inB n 65280 65376=false/\inB n 65504 65510=false/\inB n 127744 128591=false/\inB n 131072 262141=false/\za5 n=false):=by
 cases h0:inB n 4352 4447 with
 |true=>simp[za5,h0]
 |false=>
  cases h1:inB n 11904 42191 with
  |true=>simp[za5,h0,h1]
  |false=>
   cases h2:inB n 44032 55203 with
   |true=>simp[za5,h0,h1,h2]
   |false=>
    cases h3:inB n 63744 64255 with
    |true=>simp[za5,h0,h1,h2,h3]
    |false=>
     cases h4:inB n 65072 65103 with
     |true=>simp[za5,h0,h1,h2,h3,h4]
     |false=>
      cases h5:inB n 65280 65376 with
      |true=>simp[za5,h0,h1,h2,h3,h4,h5]
      |false=>
       cases h6:inB n 65504 65510 with
       |true=>simp[za5,h0,h1,h2,h3,h4,h5,h6]
       |false=>
        cases h7:inB n 127744 128591 with
        |true=>simp[za5,h0,h1,h2,h3,h4,h5,h6,h7]
        |false=>
         cases h8:inB n 131072 262141 with
         |true=>simp[za5,h0,h1,h2,h3,h4,h5,h6,h7,h8]
         |false=>
          simp[za5,h0,h1,h2,h3,h4,h5,h6,h7,h8]
def ze5:List (Int × Int):=[(127,159),(768,879),(8203,8207),(55296,57343)]
def zgu:List (Int × Int):=[(4352,4447),(11904,42191),(44032,55203),(63744,64255),(65072,65103),(65280,65376),(65504,65510),(127744,128591),(131072,262141)]
def zem (n:Int) (l:List (Int × Int)):Bool:=l.any λp=>inB n p.1 p.2
theorem zkf (n:Int):zem n zgu=za5 n:=by
 simp[zem,zgu,za5,Bool.or_assoc]
theorem zen (n:Int):zeroB n=(decide (n<32)||decide (1114111<n)||zem n ze5):=by
 rw[Bool.eq_iff_iff];simp[zem,ze5,zeroB,validB,inB];omega
theorem zkg (n:Int) (l:List (Int × Int)) (k:Nat) (a b:Int) (h:l[k]?=some (a,b)) (h1:zem n (l.take k)=false) (h2:inB n a b=false):zem n (l.take (k+1))=false:=by
 rw[List.take_add_one,h];simp only[zem,List.any_append,Option.toList,List.any_cons,List.any_nil,Bool.or_false] at *;simp[h1,h2]
theorem zm5 (n:Int) (l:List (Int × Int)) (k:Nat) (a b:Int) (h:l[k]?=some (a,b)) (h2:inB n a b=true):zem n l=true:=by
 simp only[zem,List.any_eq_true];exact⟨(a,b),List.mem_of_getElem? h,h2⟩
theorem zrM (n:Int) (h:zem n ze5=true):wd n=0:=by simp[wd,zen,h]
theorem ztQ (n:Int) (h1:32<=n) (h2:n<=1114111) (h:zem n ze5=false) (h3:zem n zgu=true):wd n=2:=by
 have a:¬n<32:=by omega
 have b:¬1114111<n:=by omega
 rw[zkf] at h3;simp[wd,zen,h,a,b,h3]
theorem ztR (n:Int) (h1:32<=n) (h2:n<=1114111) (h:zem n ze5=false) (h3:zem n zgu=false):wd n=1:=by
 have a:¬n<32:=by omega
 have b:¬1114111<n:=by omega
 rw[zkf] at h3;simp[wd,zen,h,a,b,h3]
end Wd
namespace Wd
open Go.RowKit
theorem zkl (n a b:Int) (w:World):
 Calls Tryz.prog 189 #[.int .i32 n,.int .i32 a,.int .i32 b] w λe w'=>e=.returned (.bool (inB n a b))/\w'=w:=by
 by_cases h1:a<=n<;>by_cases h2:n<=b;all_goals
  go_in;go_wp2;go_ret;exact⟨by simp[inB,h1,h2],rfl⟩
theorem znL (n:Int) (w:World):
 Calls Tryz.prog 188 #[.int .i32 n] w λe w'=>e=.returned (.bool (validB n))/\w'=w:=by
 rcases zke n with⟨h1,h2,h3⟩|⟨h1,h2,h3⟩|⟨h1,h3⟩|⟨h1,h2,h3⟩|⟨h1,h3⟩;all_goals
  rw[h3];clear h3;go_in;go_wp2;go_ret;exact⟨by simp,rfl⟩
theorem zjx (n:Int) (w:World):
 Calls Tryz.prog 162 #[.int .i32 n] w λe w'=>e=.returned (.bool (zeroB n))/\w'=w:=by
 rcases zlN n with⟨h1,h3⟩|⟨h1,h2,h3⟩|⟨h1,h2,h4,h3⟩|⟨h1,h2,h4,h5,h3⟩|⟨h1,h2,h4,h5,h6,h3⟩|⟨h1,h2,h4,h5,h6,h3⟩;all_goals
  rw[h3];clear h3;go_in;go_wp2_with (first|(go_at_call 188;refine(znL _ _).mono ?_;rintro e w' ⟨rfl,rfl⟩)|(go_at_call 189;refine(zkl _ _ _ _).mono ?_;rintro e w' ⟨rfl,rfl⟩));go_ret;exact⟨by simp[*],rfl⟩
theorem ztV (n:Int) (w:World):
 Calls Tryz.prog 163 #[.int .i32 n] w λe w'=>e=.returned (.bool (za5 n))/\w'=w:=by
 rcases zlO n with⟨h0,hz⟩|⟨h0,h1,hz⟩|⟨h0,h1,h2,hz⟩|⟨h0,h1,h2,h3,hz⟩|⟨h0,h1,h2,h3,h4,hz⟩|⟨h0,h1,h2,h3,h4,h5,hz⟩|⟨h0,h1,h2,h3,h4,h5,h6,hz⟩|⟨h0,h1,h2,h3,h4,h5,h6,h7,hz⟩|⟨h0,h1,h2,h3,h4,h5,h6,h7,h8,hz⟩|⟨h0,h1,h2,h3,h4,h5,h6,h7,h8,hz⟩;all_goals
  rw[hz];clear hz;go_in;go_wp2_with (go_at_call 189;refine(zkl _ _ _ _).mono ?_;rintro e w' ⟨rfl,rfl⟩);go_ret;exact⟨by simp[*],rfl⟩
theorem lettersWidth (n:Int) (w:World):
 Calls Tryz.prog 129 #[.int .i32 n] w λe w'=>e=.returned (.int .i64 (wd n))/\w'=w:=by
 cases h1:zeroB n<;>cases h2:za5 n;all_goals
  go_in;go_wp2_with (first|(go_at_call 162;refine(zjx _ _).mono ?_;rintro e w' ⟨rfl,rfl⟩)|(go_at_call 163;refine(ztV _ _).mono ?_;rintro e w' ⟨rfl,rfl⟩));go_ret;exact⟨by simp[wd,h1,h2],rfl⟩
theorem zdp (n:Int) (w:World):
 Calls Tryz.prog 64 #[.int .i32 n] w λe w'=>e=.returned (.int .i64 (wd n))/\w'=w:=by
 go_in;go_wp2_with (go_at_call 129;refine(lettersWidth _ _).mono ?_;rintro e w' ⟨rfl,rfl⟩);go_ret;exact⟨rfl,rfl⟩
theorem refBetween (n a b:Int) (w:World):
 Calls Tryz.prog 86 #[.int .i64 n,.int .i64 a,.int .i64 b] w λe w'=>e=.returned (.bool (inB n a b))/\w'=w:=by
 by_cases h1:a<=n<;>by_cases h2:n<=b;all_goals
  go_in;go_wp2;go_ret;exact⟨by simp[inB,h1,h2],rfl⟩
def zT (j:Nat):Int:=[127,159,768,879,8203,8207,55296,57343].getD j 0
def wT (j:Nat):Int:=[4352,4447,11904,42191,44032,55203,63744,64255,65072,65103,65280,65376,65504,65510,127744,128591,131072,262141].getD j 0
theorem zvo (k:Nat) (h:k<4):ze5[k]?=some (zT (2*k),zT (2*k+1)):=by
 rcases(by omega:k=0\/k=1\/k=2\/k=3) with rfl|rfl|rfl|rfl<;>rfl
theorem zvp (k:Nat) (h:k<9):zgu[k]?=some (wT (2*k),wT (2*k+1)):=by
 rcases(by omega:k=0\/k=1\/k=2\/k=3\/k=4\/k=5\/k=6\/k=7\/k=8) with rfl|rfl|rfl|rfl|rfl|rfl|rfl|rfl|rfl<;>rfl
def ZY (w:World) (B:Nat):Prop:=(∀j,j<8->w.cell? ⟨B,j,none⟩=some (.int .i64 (zT j)))/\∀j,j<18->w.cell? ⟨B+1,j,none⟩=some (.int .i64 (wT j))
theorem znM (w:World):ZY (((w.alloc (.cells #[.int .i64 127,.int .i64 159,.int .i64 768,.int .i64 879,.int .i64 8203,.int .i64 8207,.int .i64 55296,.int .i64 57343] 3)).alloc (.cells #[.int .i64 4352,.int .i64 4447,.int .i64 11904,.int .i64 42191,.int .i64 44032,.int .i64 55203,.int .i64 63744,.int .i64 64255,.int .i64 65072,.int .i64 65103,.int .i64 65280,.int .i64 65376,.int .i64 65504,.int .i64 65510,.int .i64 127744,.int .i64 128591,.int .i64 131072,.int .i64 262141] 3))) w.heap.size:=by
 constructor
 ·intro j hj;rcases(by omega:j=0\/j=1\/j=2\/j=3\/j=4\/j=5\/j=6\/j=7) with rfl|rfl|rfl|rfl|rfl|rfl|rfl|rfl<;>simp[zT,go_sem]
 ·intro j hj;rcases(by omega:j=0\/j=1\/j=2\/j=3\/j=4\/j=5\/j=6\/j=7\/j=8\/j=9\/j=10\/j=11\/j=12\/j=13\/j=14\/j=15\/j=16\/j=17) with rfl|rfl|rfl|rfl|rfl|rfl|rfl|rfl|rfl|rfl|rfl|rfl|rfl|rfl|rfl|rfl|rfl|rfl<;>simp[wT,go_sem]
theorem ZY.drewN {w:World} {B:Nat} (h:ZY w B) (q:Nat):ZY (w.drewN q) B:=h
theorem refWidth (n:Int) (w:World) (hn1:-2147483648<=n) (hn2:n<=2147483647):
 Calls Tryz.prog 65 #[.int .i32 n] w λe w'=>e=.returned (.int .i64 (wd n))/\Below w.heap.size w w':=by
 by_cases h1:n<32
 ·have hz:wd n=0:=by simp[wd,zen,h1]
  rw[hz];clear hz;go_in;go_wp2;go_ret;exact⟨rfl,((Below.refl _ _).alloc (Nat.le_refl _) _).alloc (by simp) _⟩
 by_cases h2:1114111<n
 ·have hz:wd n=0:=by simp[wd,zen,h2]
  rw[hz];clear hz;go_in;go_wp2;go_ret;exact⟨rfl,((Below.refl _ _).alloc (Nat.le_refl _) _).alloc (by simp) _⟩
 have h1':32<=n:=by omega
 have h2':n<=1114111:=by omega
 clear h1 h2;go_in;go_wp2_with fail;go_loopw[6] (λi w'=>∃m:Nat,m<=8/\m%2=0/\i=.int .i64 m/\Hid (zem n (ze5.take (m/2))=false)/\ZY w' w.heap.size/\Below w.heap.size w w') (λi _=>8-(intOf i).toNat)
 case atStart=>exact⟨0,by omega,by omega,rfl,rfl,znM w,((Below.refl _ _).alloc (Nat.le_refl _) _).alloc (by simp) _⟩
 case round=>
  obtain⟨m,hm,hm2,rfl,hany,hT,hB⟩:=hrel;by_cases hk:m<8
  ·have hat:=zvo (m/2) (by omega);rw[show 2*(m/2)=m from by omega] at hat;have hc0:=hT.1 m (by omega);have hc1:=hT.1 (m+1) (by omega);have hm':(m:Int)+1<8:=by omega
   have Hm2:=zH hm2;clear hm2 hm;have Hat:=zH hat;clear hat;go_wp2_with fail;go_quiet ((go_at_call 86;exact Calls.quiet_of_same (refBetween _ _ _ _)));go_wp2_with fail
   ·have hw:=zrM n (zm5 n ze5 (m/2) _ _ Hat.out (by assumption));go_ret;exact⟨by rw[hw];rfl,hB.trans ⟨rfl,rfl,rfl,Nat.le_refl _,λ_ _=>rfl⟩⟩
   ·have hm2:=Hm2.out;have hst:=zkg n ze5 (m/2) _ _ Hat.out hany.out (by assumption);rw[show m/2+1=(m+2)/2 from by omega] at hst;exact⟨⟨m+2,by omega,by omega,by go_num,hst,hT.drewN _,hB.trans ⟨rfl,rfl,rfl,Nat.le_refl _,λ_ _=>rfl⟩⟩,by simp[intOf];omega⟩
  ·obtain rfl:m=8:=by omega
   have Hz:Hid (zem n ze5=false):=hany;clear hany hk hm hm2;go_wp2_with fail;go_loopw[8] (λi w'=>∃m:Nat,m<=18/\m%2=0/\i=.int .i64 m/\Hid (zem n (zgu.take (m/2))=false)/\ZY w' w.heap.size/\Below w.heap.size w w') (λi _=>18-(intOf i).toNat)
   case atStart=>exact⟨0,by omega,by omega,rfl,rfl,hT,hB⟩
   case round=>
    clear hT hB;obtain⟨m,hm,hm2,rfl,hany,hT,hB⟩:=hrel;by_cases hk:m<18
    ·have hat:=zvp (m/2) (by omega);rw[show 2*(m/2)=m from by omega] at hat;have hc0:=hT.2 m (by omega);have hc1:=hT.2 (m+1) (by omega);have hm':(m:Int)+1<18:=by omega
     have Hm2:=zH hm2;clear hm2 hm;have Hat:=zH hat;clear hat;go_wp2_with fail;go_quiet ((go_at_call 86;exact Calls.quiet_of_same (refBetween _ _ _ _)));go_wp2_with fail
     ·have hw:=ztQ n h1' h2' Hz.out (zm5 n zgu (m/2) _ _ Hat.out (by assumption));go_ret;exact⟨by rw[hw];rfl,hB.trans ⟨rfl,rfl,rfl,Nat.le_refl _,λ_ _=>rfl⟩⟩
     ·have hm2:=Hm2.out;have hst:=zkg n zgu (m/2) _ _ Hat.out hany.out (by assumption);rw[show m/2+1=(m+2)/2 from by omega] at hst;exact⟨⟨m+2,by omega,by omega,by go_num,hst,hT.drewN _,hB.trans ⟨rfl,rfl,rfl,Nat.le_refl _,λ_ _=>rfl⟩⟩,by simp[intOf];omega⟩
    ·obtain rfl:m=18:=by omega
     have hw:=zH<|ztR n h1' h2' Hz.out hany
     clear hany hk hm hm2;go_wp2_with fail;go_ret;exact⟨by rw[hw.out];rfl,hB⟩
end Wd
section
open Wd (wd)
def inG (W H:Nat) (x y:Int):Bool:=decide (0<=x)&&decide (x<W)&&decide (0<=y)&&decide (y<H)
theorem zu {W H:Nat} {x y:Int}:inG W H x y=true↔0<=x/\x<W/\0<=y/\y<H:=by simp[inG,and_assoc]
def setG (W H:Nat) (G:Nat->Nat->zk) (x y:Int) (k:zk):Nat->Nat->zk:=
 if inG W H x y=true then
  upd (if (G x.toNat y.toNat).p=1 then upd G (x.toNat+1) y.toNat (blk (G x.toNat y.toNat).n) else if (G x.toNat y.toNat).p=2 then upd G (x.toNat-1) y.toNat (blk (G x.toNat y.toNat).n) else G) x.toNat y.toNat k
 else G
structure Wf (W H:Nat) (G:Nat->Nat->zk):Prop where
 part:∀x y,x<W->y<H->((G x y).p=0/\wd (G x y).r=1)\/((G x y).p=1/\wd (G x y).r=2)\/((G x y).p=2/\wd (G x y).r=2)
 head:∀x y,x<W->y<H->(G x y).p=1->x+1<W/\G (x+1) y=⟨(G x y).r,2,(G x y).n⟩
 tail:∀x y,x<W->y<H->(G x y).p=2->1<=x/\G (x-1) y=⟨(G x y).r,1,(G x y).n⟩
def wrt (G:Nat->Nat->zk) (P:Nat->Nat->Bool) (v:Nat->Nat->zk):Nat->Nat->zk:=λa b=>
 if P a b=true then v a b else if ((G a b).p=1/\P (a+1) b=true)\/((G a b).p=2/\1<=a/\P (a-1) b=true) then blk (G a b).n else G a b
def pt (x y:Nat):Nat->Nat->Bool:=λa b=>decide (a=x)&&decide (b=y)
theorem zcR {x y a b:Nat}:pt x y a b=true↔a=x/\b=y:=by simp[pt]
def ZX (W H:Nat) (G K:Nat->Nat->zk):Prop:=∀x y,x<W->y<H->G x y=K x y
theorem ZX.symm {W H:Nat} {G K:Nat->Nat->zk} (h:ZX W H G K):ZX W H K G:=λx y hx hy=>(h x y hx hy).symm
theorem ZX.trans {W H:Nat} {G K L:Nat->Nat->zk} (h:ZX W H G K) (k:ZX W H K L):ZX W H G L:=λx y hx hy=>(h x y hx hy).trans (k x y hx hy)
theorem Zp.congr {w:World} {bc g cap W H N:Nat} {G K:Nat->Nat->zk} (h:Zp w bc g cap W H N G) (e:ZX W H G K):Zp w bc g cap W H N K:=
 ⟨h.blk,⟨λx y hx hy=>by rw[←e x y hx hy];exact h.grid.cel x y hx hy,h.grid.free⟩,h.hN,h.ne,h.w1,h.w2,h.h1,h.h2⟩
theorem Wf.congr {W H:Nat} {G K:Nat->Nat->zk} (h:Wf W H G) (e:ZX W H G K):Wf W H K:=by
 refine⟨λx y hx hy=>?_,λx y hx hy hp=>?_,λx y hx hy hp=>?_⟩
 ·rw[←e x y hx hy];exact h.part x y hx hy
 ·rw[←e x y hx hy] at hp ⊢;obtain⟨a,b⟩:=h.head x y hx hy hp;exact⟨a,by rw[←e _ _ a hy];exact b⟩
 ·rw[←e x y hx hy] at hp ⊢;obtain⟨a,b⟩:=h.tail x y hx hy hp;exact⟨a,by rw[←e _ _ (by omega) hy];exact b⟩
theorem ze6:wd 32=1:=by decide
theorem zgv (n:Pn):(blk n).n=n:=rfl
theorem zm6 (G:Nat->Nat->zk) (P Q:Nat->Nat->Bool) (v u:Nat->Nat->zk) (hv:∀a b,P a b=true->Q a b=false->(v a b).p=0):
 wrt (wrt G P v) Q u=wrt G (λa b=>P a b||Q a b) (λa b=>if Q a b=true then u a b else v a b):=by
 funext a b;unfold wrt;by_cases hQ:Q a b=true
 ·simp[hQ]
 ·have hQ':Q a b=false:=by simpa using hQ
  by_cases hP:P a b=true
  ·have:=hv a b hP hQ';simp[hQ',hP,this]
  ·have hP':P a b=false:=by simpa using hP
   simp only[hQ',hP',Bool.false_eq_true,if_false,Bool.or_false,Bool.or_eq_true];by_cases h1:((G a b).p=1/\P (a+1) b=true)\/((G a b).p=2/\1<=a/\P (a-1) b=true)
   ·rw[if_pos h1];have h2:((G a b).p=1/\(P (a+1) b=true\/Q (a+1) b=true))\/((G a b).p=2/\1<=a/\(P (a-1) b=true\/Q (a-1) b=true)):=by
     rcases h1 with⟨p,q⟩|⟨p,q,r⟩
     ·exact .inl ⟨p,.inl q⟩
     ·exact .inr ⟨p,q,.inl r⟩
    rw[if_pos h2];simp[blk]
   ·rw[if_neg h1];by_cases h3:((G a b).p=1/\Q (a+1) b=true)\/((G a b).p=2/\1<=a/\Q (a-1) b=true)
    ·have h2:((G a b).p=1/\(P (a+1) b=true\/Q (a+1) b=true))\/((G a b).p=2/\1<=a/\(P (a-1) b=true\/Q (a-1) b=true)):=by
      rcases h3 with⟨p,q⟩|⟨p,q,r⟩
      ·exact .inl ⟨p,.inr q⟩
      ·exact .inr ⟨p,q,.inr r⟩
     rw[if_pos h3,if_pos h2]
    ·have h2:¬(((G a b).p=1/\(P (a+1) b=true\/Q (a+1) b=true))\/((G a b).p=2/\1<=a/\(P (a-1) b=true\/Q (a-1) b=true))):=by
      rintro(⟨p,q|q⟩|⟨p,q,r|r⟩)
      ·exact h1 (.inl ⟨p,q⟩)
      ·exact h3 (.inl ⟨p,q⟩)
      ·exact h1 (.inr ⟨p,q,r⟩)
      ·exact h3 (.inr ⟨p,q,r⟩)
     rw[if_neg h3,if_neg h2]
theorem Wf.wr_of {W H:Nat} {G:Nat->Nat->zk} (h:Wf W H G) {P:Nat->Nat->Bool} {v:Nat->Nat->zk}
 (hp:∀x y,x<W->y<H->P x y=true->((v x y).p=0/\wd (v x y).r=1)\/((v x y).p=1/\wd (v x y).r=2)\/((v x y).p=2/\wd (v x y).r=2))
 (hh:∀x y,x<W->y<H->P x y=true->(v x y).p=1->x+1<W/\P (x+1) y=true/\v (x+1) y=⟨(v x y).r,2,(v x y).n⟩)
 (ht:∀x y,x<W->y<H->P x y=true->(v x y).p=2->1<=x/\P (x-1) y=true/\v (x-1) y=⟨(v x y).r,1,(v x y).n⟩):Wf W H (wrt G P v):=by
 refine⟨λx y hx hy=>?_,λx y hx hy hq=>?_,λx y hx hy hq=>?_⟩
 ·unfold Go.Proofs.YtjlfibhbfdckpaaGreatDoor.wrt;split
  ·exact hp x y hx hy ‹_›
  ·split
   ·exact .inl ⟨rfl,ze6⟩
   ·exact h.part x y hx hy
 ·unfold Go.Proofs.YtjlfibhbfdckpaaGreatDoor.wrt at hq ⊢;by_cases hP:P x y=true
  ·rw[if_pos hP] at hq ⊢;obtain⟨a,b,c⟩:=hh x y hx hy hP hq;exact⟨a,by rw[if_pos b];exact c⟩
  ·rw[if_neg hP] at hq ⊢;split at hq
   ·simp[blk] at hq
   ·rename_i hn;rw[if_neg hn];obtain⟨a,b⟩:=h.head x y hx hy hq;have hP1:¬P (x+1) y=true:=λe=>hn (.inl ⟨hq,e⟩);refine⟨a,?_⟩;rw[if_neg hP1,if_neg,b];rw[b];simp[hP]
 ·unfold Go.Proofs.YtjlfibhbfdckpaaGreatDoor.wrt at hq ⊢;by_cases hP:P x y=true
  ·rw[if_pos hP] at hq ⊢;obtain⟨a,b,c⟩:=ht x y hx hy hP hq;exact⟨a,by rw[if_pos b];exact c⟩
  ·rw[if_neg hP] at hq ⊢;split at hq
   ·simp[blk] at hq
   ·rename_i hn;rw[if_neg hn];obtain⟨a,b⟩:=h.tail x y hx hy hq;have hP1:¬P (x-1) y=true:=λe=>hn (.inr ⟨hq,a,e⟩);refine⟨a,?_⟩;have e1:x-1+1=x:=by omega
    rw[if_neg hP1,if_neg,b];rw[b,e1];simp[hP]
theorem Wf.wrWhole {W H:Nat} {G:Nat->Nat->zk} (h:Wf W H G) {P:Nat->Nat->Bool} {v:Nat->Nat->zk} (hv:∀x y,x<W->y<H->P x y=true->(v x y).p=0/\wd (v x y).r=1):Wf W H (wrt G P v):=
 h.wr_of (λx y hx hy hP=>.inl (hv x y hx hy hP)) (λx y hx hy hP h1=>by have:=(hv x y hx hy hP).1;omega) (λx y hx hy hP h1=>by have:=(hv x y hx hy hP).1;omega)
theorem zeR {W H:Nat} {G:Nat->Nat->zk} (h:Wf W H G) {x y:Nat} (hx:x<W) (hy:y<H) (k:zk):ZX W H (setG W H G x y k) (wrt G (pt x y) (λ_ _=>k)):=by
 intro a b ha hb;have hin:inG W H x y=true:=zu.2 (by omega);unfold setG wrt;rw[if_pos hin];simp only[Int.toNat_natCast,zcR];unfold upd;by_cases e:a=x/\b=y
 ·rw[if_pos e,if_pos e]
 ·rw[if_neg e,if_neg e];by_cases p1:(G x y).p=1
  ·obtain⟨q1,q2⟩:=h.head x y hx hy p1;rw[if_pos p1];by_cases e2:a=x+1/\b=y
   ·obtain⟨rfl,rfl⟩:=e2;rw[if_pos ⟨rfl,rfl⟩,if_pos (.inr ⟨by rw[q2],by omega,by omega,rfl⟩),q2]
   ·rw[if_neg e2,if_neg];rintro(⟨r1,r2,r3⟩|⟨r1,r2,r3,r4⟩)
    ·subst r3;obtain⟨s1,s2⟩:=h.head a b ha hb r1;rw[r2] at s2;rw[s2] at p1;exact absurd p1 (by simp)
    ·exact e2 ⟨by omega,r4⟩
  ·rw[if_neg p1];by_cases p2:(G x y).p=2
   ·obtain⟨q1,q2⟩:=h.tail x y hx hy p2;rw[if_pos p2];by_cases e2:a=x-1/\b=y
    ·obtain⟨rfl,rfl⟩:=e2;rw[if_pos ⟨rfl,rfl⟩,if_pos (.inl ⟨by rw[q2],by omega,rfl⟩),q2]
    ·rw[if_neg e2,if_neg];rintro(⟨r1,r2,r3⟩|⟨r1,r2,r3,r4⟩)
     ·exact e2 ⟨by omega,r3⟩
     ·subst r4;obtain⟨s1,s2⟩:=h.tail a b ha hb r1;rw[r3] at s2;rw[s2] at p2;exact absurd p2 (by simp)
   ·rw[if_neg p2,if_neg];rintro(⟨r1,r2,r3⟩|⟨r1,r2,r3,r4⟩)
    ·subst r3;obtain⟨s1,s2⟩:=h.head a b ha hb r1;rw[r2] at s2;rw[s2] at p2;exact p2 rfl
    ·subst r4;obtain⟨s1,s2⟩:=h.tail a b ha hb r1;rw[r3] at s2;rw[s2] at p1;exact p1 rfl
theorem Wf.half {W H:Nat} {G:Nat->Nat->zk} (h:Wf W H G) (x y:Int):inG W H x y=true->((G x.toNat y.toNat).p=1->x+1<W)/\((G x.toNat y.toNat).p=2->1<=x):=by
 intro hin;obtain⟨a,b,c,d⟩:=zu.1 hin;refine⟨λhp=>?_,λhp=>?_⟩
 ·have:=(h.head x.toNat y.toNat (by omega) (by omega) hp).1;omega
 ·have:=(h.tail x.toNat y.toNat (by omega) (by omega) hp).1;omega
def rg (f t:Int) (y:Nat):Nat->Nat->Bool:=λa b=>decide (b=y)&&decide (f<=a)&&decide ((a:Int)<t)
theorem zjt {f t:Int} {y a b:Nat}:rg f t y a b=true↔b=y/\f<=a/\(a:Int)<t:=by simp[rg,and_assoc]
theorem zhg {G:Nat->Nat->zk} {P Q:Nat->Nat->Bool} {v:Nat->Nat->zk} (h:∀a b,P a b=Q a b):wrt G P v=wrt G Q v:=by
 have:P=Q:=by funext a b;exact h a b
 rw[this]
theorem zg2 (G:Nat->Nat->zk) (P:Nat->Nat->Bool) (v:Nat->Nat->zk) (h:∀a b,P a b=false):wrt G P v=G:=by
 funext a b;simp[wrt,h]
theorem zkh (G:Nat->Nat->zk) (f t:Int) (x y:Nat) (n:Pn) (h1:f<=x) (h2:(x:Int)<t):
 wrt (wrt G (λa b=>rg f t y a b&&decide (a<x)) (λ_ _=>blk n)) (pt x y) (λ_ _=>blk n)=wrt G (λa b=>rg f t y a b&&decide (a<x+1)) (λ_ _=>blk n):=by
 rw[zm6 _ _ _ _ _ (λ_ _ _ _=>rfl)];have e:(λa b=>if pt x y a b=true then blk n else blk n)=λ(_ _:Nat)=>blk n:=by funext a b;simp
 rw[e];refine zhg λa b=>?_;rw[Bool.eq_iff_iff];simp[rg,pt];omega
theorem Wf.blk {W H:Nat} {G:Nat->Nat->zk} (h:Wf W H G) (P:Nat->Nat->Bool) (n:Pn):Wf W H (wrt G P (λ_ _=>blk n)):=
 h.wrWhole (λ_ _ _ _ _=>⟨rfl,ze6⟩)
theorem zbm {W H:Nat} {G:Nat->Nat->zk} (h:Wf W H G) {P Q:Nat->Nat->Bool} {v u:Nat->Nat->zk} (e:∀a b,a<W->b<H->P a b=Q a b) (ev:∀a b,a<W->b<H->P a b=true->v a b=u a b):ZX W H (wrt G P v) (wrt G Q u):=by
 intro a b ha hb;unfold wrt;rw[e a b ha hb];by_cases hQ:Q a b=true
 ·rw[if_pos hQ,if_pos hQ];exact ev a b ha hb (by rw[e a b ha hb];exact hQ)
 ·rw[if_neg hQ,if_neg hQ];have c:(((G a b).p=1/\P (a+1) b=true)\/((G a b).p=2/\1<=a/\P (a-1) b=true))↔(((G a b).p=1/\Q (a+1) b=true)\/((G a b).p=2/\1<=a/\Q (a-1) b=true)):=by
   constructor
   ·rintro(⟨p,q⟩|⟨p,q,r⟩)
    ·exact .inl ⟨p,by rw[←e _ _ (h.head a b ha hb p).1 hb];exact q⟩
    ·exact .inr ⟨p,q,by rw[←e _ _ (by omega) hb];exact r⟩
   ·rintro(⟨p,q⟩|⟨p,q,r⟩)
    ·exact .inl ⟨p,by rw[e _ _ (h.head a b ha hb p).1 hb];exact q⟩
    ·exact .inr ⟨p,q,by rw[e _ _ (by omega) hb];exact r⟩
  by_cases hc:((G a b).p=1/\P (a+1) b=true)\/((G a b).p=2/\1<=a/\P (a-1) b=true)
  ·rw[if_pos hc,if_pos (c.1 hc)]
  ·rw[if_neg hc,if_neg (λx=>hc (c.2 x))]
def zR (W H:Nat) (G:Nat->Nat->zk) (x y:Int) (r:Int) (n:Pn):Nat->Nat->zk:=
 if wd r=1 then setG W H G x y ⟨r,0,n⟩
 else if inG W H x y=true/\inG W H (x+1) y=true then upd (upd (setG W H (setG W H G x y (blk n)) (x+1) y (blk n)) x.toNat y.toNat ⟨r,1,n⟩) (x.toNat+1) y.toNat ⟨r,2,n⟩
 else setG W H (setG W H G x y (blk n)) (x+1) y (blk n)
theorem Wf.set {W H:Nat} {G:Nat->Nat->zk} (h:Wf W H G) (x y:Int) (k:zk) (hp:k.p=0) (hr:wd k.r=1):Wf W H (setG W H G x y k):=by
 cases hin:inG W H x y with
 |false=>simp[setG,hin];exact h
 |true=>
  obtain⟨a,b,c,d⟩:=zu.1 hin;obtain⟨x,rfl⟩:=Int.eq_ofNat_of_zero_le a;obtain⟨y,rfl⟩:=Int.eq_ofNat_of_zero_le c;exact(h.wrWhole (P:=pt x y) (v:=λ_ _=>k) (λ_ _ _ _ _=>⟨hp,hr⟩)).congr (zeR h (by omega) (by omega) k).symm
theorem Wf.setBlk {W H:Nat} {G:Nat->Nat->zk} (h:Wf W H G) (x y:Int) (n:Pn):Wf W H (setG W H G x y (Go.Proofs.YtjlfibhbfdckpaaGreatDoor.blk n)):=h.set x y _ rfl ze6
theorem ZX.upd {W H:Nat} {G K:Nat->Nat->zk} (h:ZX W H G K) (x y:Nat) (c:zk):ZX W H (upd G x y c) (upd K x y c):=λa b ha hb=>by
 unfold Go.Proofs.YtjlfibhbfdckpaaGreatDoor.upd;split
 ·rfl
 ·exact h a b ha hb
theorem zm7 (G:Nat->Nat->zk) (P:Nat->Nat->Bool) (v:Nat->Nat->zk) (x y:Nat) (c:zk) (hP:P x y=true):upd (wrt G P v) x y c=wrt G P (upd v x y c):=by
 funext a b;unfold upd wrt;by_cases e:a=x/\b=y
 ·obtain⟨rfl,rfl⟩:=e;simp[hP]
 ·simp[e]
theorem zdT {W H:Nat} {G:Nat->Nat->zk} (h:Wf W H G) {x y:Nat} (hx:x<W) (hy:y<H) (r:Int) (n:Pn) (hr:wd r=1):ZX W H (zR W H G x y r n) (wrt G (pt x y) (λ_ _=>⟨r,0,n⟩)):=by
 unfold zR;rw[if_pos hr];exact zeR h hx hy _
def pt2 (x y:Nat):Nat->Nat->Bool:=λa b=>pt x y a b||pt (x+1) y a b
def wide (x:Nat) (r:Int) (n:Pn):Nat->Nat->zk:=λa _=>if a=x then⟨r,1,n⟩ else⟨r,2,n⟩
theorem zcS {W H:Nat} {G:Nat->Nat->zk} (h:Wf W H G) {x y:Nat} (hx:x+1<W) (hy:y<H) (r:Int) (n:Pn) (hr:wd r=2):ZX W H (zR W H G x y r n) (wrt G (pt2 x y) (wide x r n)):=by
 have i1:inG W H x y=true:=zu.2 (by omega);have i2:inG W H ((x:Int)+1) y=true:=zu.2 (by omega);unfold zR;rw[if_neg (by omega),if_pos ⟨i1,i2⟩];simp only[Int.toNat_natCast];have h1:=zeR h (x:=x) (y:=y) (by omega) hy (Go.Proofs.YtjlfibhbfdckpaaGreatDoor.blk n);have w1:Wf W H (setG W H G x y (Go.Proofs.YtjlfibhbfdckpaaGreatDoor.blk n)):=h.setBlk _ _ _;have h2:=zeR w1 (x:=x+1) (y:=y) hx hy (Go.Proofs.YtjlfibhbfdckpaaGreatDoor.blk n);have e2:ZX W H (wrt (setG W H G x y (Go.Proofs.YtjlfibhbfdckpaaGreatDoor.blk n)) (pt (x+1) y) (λ_ _=>Go.Proofs.YtjlfibhbfdckpaaGreatDoor.blk n)) (wrt (wrt G (pt x y) (λ_ _=>Go.Proofs.YtjlfibhbfdckpaaGreatDoor.blk n)) (pt (x+1) y) (λ_ _=>Go.Proofs.YtjlfibhbfdckpaaGreatDoor.blk n)):=by
  intro a b ha hb;unfold wrt;have:=h1 a b ha hb;unfold wrt at this;rw[this]
 rw[zm6 _ _ _ _ _ (λ_ _ _ _=>rfl)] at e2;have e3:=((h2.trans e2).upd x y ⟨r,1,n⟩).upd (x+1) y ⟨r,2,n⟩;rw[zm7 _ _ _ _ _ _ (by simp[pt]),zm7 _ _ _ _ _ _ (by simp[pt])] at e3;refine e3.trans (zbm h (λ_ _ _ _=>rfl) (λa b _ _ hp=>?_));simp[pt] at hp;unfold upd wide;rcases hp with⟨rfl,rfl⟩|⟨rfl,rfl⟩
 ·simp
 ·simp
theorem Wf.wide {W H:Nat} {G:Nat->Nat->zk} (h:Wf W H G) {x y:Nat} (hx:x+1<W) (r:Int) (n:Pn) (hr:wd r=2):Wf W H (wrt G (pt2 x y) (Go.Proofs.YtjlfibhbfdckpaaGreatDoor.wide x r n)):=by
 refine h.wr_of (λa b _ _ hp=>?_) (λa b _ _ hp hq=>?_) (λa b _ _ hp hq=>?_)
 ·unfold Go.Proofs.YtjlfibhbfdckpaaGreatDoor.wide;split
  ·exact .inr (.inl ⟨rfl,hr⟩)
  ·exact .inr (.inr ⟨rfl,hr⟩)
 ·unfold Go.Proofs.YtjlfibhbfdckpaaGreatDoor.wide at hq ⊢;split at hq
  ·subst a;simp[pt2,pt] at hp ⊢;exact⟨hx,hp⟩
  ·simp at hq
 ·unfold Go.Proofs.YtjlfibhbfdckpaaGreatDoor.wide at hq ⊢;split at hq
  ·simp at hq
  ·simp[pt2,pt] at hp;rename_i hne;obtain⟨rfl,rfl⟩:a=x+1/\b=y:=by omega
   simp[pt2,pt]
end
end Go.Proofs.YtjlfibhbfdckpaaGreatDoor
