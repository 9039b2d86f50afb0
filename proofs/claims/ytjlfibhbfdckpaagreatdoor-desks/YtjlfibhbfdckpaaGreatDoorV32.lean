import Derived.Test.YtjlfibhbfdckpaaGreatDoorV31
namespace Go.Proofs.YtjlfibhbfdckpaaGreatDoor
set_option maxHeartbeats 64000000
set_option maxRecDepth 100000
section
open Go.RowKit
open Wd (wd)
attribute [local go_sem ↓] Go.wp_at_zero Go.wp_at_succ
theorem zoq (s:ByteArray) (w:World) (hs:s.size<=200):
 Calls Tryz.prog 82 #[.string s] w λe w'=>∃v,e=.returned v/\w'.ownsRow w.heap.size 21 1 v (Zh s s.size 0).length (zbM (Zh s s.size 0))/\(Zh s s.size 0).length<=200/\Below w.heap.size w w':=by
 go_in;go_wp2_with fail;go_loopw[3,4] (λu i w'=>∃(pos f:Nat) (rs:List Int),i=.int .i64 pos/\Let s w u pos f rs w') (λ_ i _=>s.size-(intOf i).toNat)
 case atStart=>exact⟨0,s.size,[],rfl,⟨by omega,World.ownsRow_nil _ _ _ _,rfl,by omega,by simp,Below.refl _ _⟩⟩
 case round=>
  obtain⟨pos,f,rs,rfl,hL⟩:=hrel;generalize u3=u at *;have HL:Hid (Let s w u pos f rs wr):=hL;by_cases hlt:pos<s.size
  ·have ha:s[pos].toNat<256:=s[pos].toNat_lt;have hlt':(pos:Int)<(s.size:Int):=by omega
   have HR:Hid (wr.ownsRow w.heap.size 21 1 u rs.length (zbM rs)):=hL.row;have hB:Below w.heap.size w wr:=hL.bel;have hrs:rs.length<=200:=by have:=hL.short;omega
   have e0:(s.get! pos).toNat=s[pos].toNat:=by rw[zc4 s pos hlt]
   have E0:Hid ((s.get! pos).toNat=s[pos].toNat):=e0;clear hL e0;by_cases h0:(s[pos].toNat:Int)<128;have hd:Hid (((Utf8.decode s pos).1:Int)=(s[pos].toNat:Int)/\(Utf8.decode s pos).2=1):=by
    show _/\_;rw[zb1 s pos _ _ _ _ _ rfl E0.out rfl rfl rfl,zom (by omega)];exact⟨rfl,rfl⟩
   rotate_left;have h0':128<=s[pos].toNat:=by omega
   rcases zkQ s[pos] h0' with⟨hl,hc⟩|⟨hl,hc1,hc2⟩|⟨hl,hc1,hc2⟩|⟨hl,hc1,hc2⟩;have hd:Hid (((Utf8.decode s pos).1:Int)=65533/\(Utf8.decode s pos).2=1):=by
    show _/\_;rw[zb1 s pos _ _ _ _ _ rfl E0.out rfl rfl rfl,zqk h0' hc ha];exact⟨rfl,rfl⟩
   clear hc;rotate_left;by_cases hn:pos+2<=s.size;have hn':(pos:Int)+2<=(s.size:Int):=by omega
   have p1:pos+1<s.size:=by omega
   have l1:s[pos+1].toNat<256:=s[pos+1].toNat_lt;have E1:Hid ((s.get! (pos+1)).toNat=s[pos+1].toNat):=by show _=_;rw[zc4 s (pos+1) p1]
   have x1:=zsq s pos (by omega);have x2:=zui s pos (by omega);have q1a:(0:Int)<=(pos:Int)+1:=by omega
   have q1b:(pos:Int)<=(pos:Int)+1:=by omega
   have q1t:((pos:Int)+1).toNat=pos+1:=by omega
   have q1c:(pos:Int)+1<=(s.size:Int):=by omega
   have q1d:(pos:Int)+1<(s.size:Int):=by omega
   have q2a:(0:Int)<=(pos:Int)+2:=by omega
   have q2b:(pos:Int)<=(pos:Int)+2:=by omega
   have q2t:((pos:Int)+2).toNat=pos+2:=by omega
   by_cases g1:zq [s[pos]] s[pos+1].toNat=true;have g1':zbb s[pos].toNat<=s[pos+1].toNat/\(s[pos+1].toNat:Int)<=Z6 s[pos].toNat:=by simpa[zq] using g1
   unfold zbb Z6 at g1';have m1:128<=s[pos+1].toNat/\s[pos+1].toNat<=191:=by split at g1'<;>split at g1'<;>omega
   have hv:Hid (Zn [s[pos],s[pos+1]]=64*((s[pos].toNat:Int)-192)+s[pos+1].toNat-128):=rfl;have rb1:-2147483648<=Zn [s[pos],s[pos+1]]:=by have:=hv.out;omega
   have rb2:Zn [s[pos],s[pos+1]]<=2147483647:=by have:=hv.out;omega
   have hd:Hid (((Utf8.decode s pos).1:Int)=Zn [s[pos],s[pos+1]]/\(Utf8.decode s pos).2=2):=by
    show _/\_;rw[zb1 s pos _ _ _ _ _ rfl E0.out E1.out rfl rfl,zsp (by omega) (by omega) (by omega) (by omega) (by omega)];exact⟨by rw[hv.out];simp only[];omega,rfl⟩
   clear g1';rotate_left;have g1f:zq [s[pos]] s[pos+1].toNat=false:=by simpa using g1
   have m1:s[pos+1].toNat<128\/191<s[pos+1].toNat:=by
    have q:¬(zbb s[pos].toNat<=s[pos+1].toNat/\(s[pos+1].toNat:Int)<=Z6 s[pos].toNat):=by simpa[zq] using g1
    unfold zbb Z6 at q;rw[if_neg (by omega),if_neg (by omega),if_neg (by omega),if_neg (by omega)] at q;omega
   have hd:Hid (((Utf8.decode s pos).1:Int)=65533/\(Utf8.decode s pos).2=1):=by
    show _/\_;rw[zb1 s pos _ _ _ _ _ rfl E0.out E1.out rfl rfl,zhD (by omega) (by omega) (.inr m1)];exact⟨rfl,rfl⟩
   clear g1;rotate_left;have hn':¬(pos:Int)+2<=(s.size:Int):=by omega
   have hd:Hid (((Utf8.decode s pos).1:Int)=65533/\(Utf8.decode s pos).2=1):=by
    show _/\_;rw[zb1 s pos _ _ _ _ _ rfl E0.out rfl rfl rfl,zhD (by omega) (by omega) (.inl (by omega))];exact⟨rfl,rfl⟩
   rotate_left;by_cases hn:pos+3<=s.size;have hn':(pos:Int)+3<=(s.size:Int):=by omega
   have p1:pos+1<s.size:=by omega
   have l1:s[pos+1].toNat<256:=s[pos+1].toNat_lt;have E1:Hid ((s.get! (pos+1)).toNat=s[pos+1].toNat):=by show _=_;rw[zc4 s (pos+1) p1]
   have p2:pos+2<s.size:=by omega
   have l2:s[pos+2].toNat<256:=s[pos+2].toNat_lt;have E2:Hid ((s.get! (pos+2)).toNat=s[pos+2].toNat):=by show _=_;rw[zc4 s (pos+2) p2]
   have x1:=zsq s pos (by omega);have x2:=zui s pos (by omega);have x3:=zvI s pos (by omega);have q1a:(0:Int)<=(pos:Int)+1:=by omega
   have q1b:(pos:Int)<=(pos:Int)+1:=by omega
   have q1t:((pos:Int)+1).toNat=pos+1:=by omega
   have q1c:(pos:Int)+1<=(s.size:Int):=by omega
   have q1d:(pos:Int)+1<(s.size:Int):=by omega
   have q2a:(0:Int)<=(pos:Int)+2:=by omega
   have q2b:(pos:Int)<=(pos:Int)+2:=by omega
   have q2t:((pos:Int)+2).toNat=pos+2:=by omega
   have q2c:(pos:Int)+2<=(s.size:Int):=by omega
   have q2d:(pos:Int)+2<(s.size:Int):=by omega
   have r2a:(0:Int)<=(pos:Int)+1+1:=by omega
   have r2b:(pos:Int)<=(pos:Int)+1+1:=by omega
   have r2t:((pos:Int)+1+1).toNat=pos+2:=by omega
   have r2c:(pos:Int)+1+1<=(s.size:Int):=by omega
   have r2d:(pos:Int)+1+1<(s.size:Int):=by omega
   have q3a:(0:Int)<=(pos:Int)+3:=by omega
   have q3b:(pos:Int)<=(pos:Int)+3:=by omega
   have q3t:((pos:Int)+3).toNat=pos+3:=by omega
   by_cases g1:zq [s[pos]] s[pos+1].toNat=true;have g1':zbb s[pos].toNat<=s[pos+1].toNat/\(s[pos+1].toNat:Int)<=Z6 s[pos].toNat:=by simpa[zq] using g1
   unfold zbb Z6 at g1';have m1:(if s[pos].toNat=224 then 160 else 128)<=s[pos+1].toNat/\s[pos+1].toNat<=(if s[pos].toNat=237 then 159 else 191):=by
    repeat' split at g1'
    all_goals (repeat' split)<;>omega
   have m1a:128<=s[pos+1].toNat/\s[pos+1].toNat<=191:=by
    repeat' split at m1
    all_goals omega
   clear g1';by_cases g2:128<=s[pos+2].toNat/\s[pos+2].toNat<=191;have g2t:zq [s[pos],s[pos+1]] s[pos+2].toNat=true:=by simp[zq];omega
   have hv:Hid (Zn [s[pos],s[pos+1],s[pos+2]]=64*(64*((s[pos].toNat:Int)-224)+s[pos+1].toNat-128)+s[pos+2].toNat-128):=rfl;have rb1:-2147483648<=Zn [s[pos],s[pos+1],s[pos+2]]:=by have:=hv.out;omega
   have rb2:Zn [s[pos],s[pos+1],s[pos+2]]<=2147483647:=by have:=hv.out;omega
   have hd:Hid (((Utf8.decode s pos).1:Int)=Zn [s[pos],s[pos+1],s[pos+2]]/\(Utf8.decode s pos).2=3):=by
    show _/\_;rw[zb1 s pos _ _ _ _ _ rfl E0.out E1.out E2.out rfl,zon (by omega) (by omega) (by omega) m1.1 m1.2 g2.1 g2.2];exact⟨by rw[hv.out];simp only[];omega,rfl⟩
   clear m1;rotate_left;have g2f:zq [s[pos],s[pos+1]] s[pos+2].toNat=false:=by simp[zq];omega
   have m2:s[pos+2].toNat<128\/191<s[pos+2].toNat:=by omega
   have hd:Hid (((Utf8.decode s pos).1:Int)=65533/\(Utf8.decode s pos).2=1):=by
    show _/\_;rw[zb1 s pos _ _ _ _ _ rfl E0.out E1.out E2.out rfl,zfn (by omega) (by omega) (.inr (.inr (.inr m2)))];exact⟨rfl,rfl⟩
   clear m1 g2;rotate_left;have g1f:zq [s[pos]] s[pos+1].toNat=false:=by simpa using g1
   have m1:s[pos+1].toNat<(if s[pos].toNat=224 then 160 else 128)\/(if s[pos].toNat=237 then 159 else 191)<s[pos+1].toNat:=by
    have q:¬(zbb s[pos].toNat<=s[pos+1].toNat/\(s[pos+1].toNat:Int)<=Z6 s[pos].toNat):=by simpa[zq] using g1
    unfold zbb Z6 at q
    repeat' split at q
    all_goals (repeat' split)<;>omega
   have hd:Hid (((Utf8.decode s pos).1:Int)=65533/\(Utf8.decode s pos).2=1):=by
    show _/\_;rw[zb1 s pos _ _ _ _ _ rfl E0.out E1.out E2.out rfl,zfn (by omega) (by omega) (m1.elim (λq=>.inr (.inl q)) (λq=>.inr (.inr (.inl q))))];exact⟨rfl,rfl⟩
   clear m1 g1;rotate_left;have hn':¬(pos:Int)+3<=(s.size:Int):=by omega
   have hd:Hid (((Utf8.decode s pos).1:Int)=65533/\(Utf8.decode s pos).2=1):=by
    show _/\_;rw[zb1 s pos _ _ _ _ _ rfl E0.out rfl rfl rfl,zfn (by omega) (by omega) (.inl (by omega))];exact⟨rfl,rfl⟩
   rotate_left;by_cases hn:pos+4<=s.size;have hn':(pos:Int)+4<=(s.size:Int):=by omega
   have p1:pos+1<s.size:=by omega
   have l1:s[pos+1].toNat<256:=s[pos+1].toNat_lt;have E1:Hid ((s.get! (pos+1)).toNat=s[pos+1].toNat):=by show _=_;rw[zc4 s (pos+1) p1]
   have p2:pos+2<s.size:=by omega
   have l2:s[pos+2].toNat<256:=s[pos+2].toNat_lt;have E2:Hid ((s.get! (pos+2)).toNat=s[pos+2].toNat):=by show _=_;rw[zc4 s (pos+2) p2]
   have p3:pos+3<s.size:=by omega
   have l3:s[pos+3].toNat<256:=s[pos+3].toNat_lt;have E3:Hid ((s.get! (pos+3)).toNat=s[pos+3].toNat):=by show _=_;rw[zc4 s (pos+3) p3]
   have x1:=zsq s pos (by omega);have x2:=zui s pos (by omega);have x3:=zvI s pos (by omega);have x4:=zwF s pos (by omega);have q1a:(0:Int)<=(pos:Int)+1:=by omega
   have q1b:(pos:Int)<=(pos:Int)+1:=by omega
   have q1t:((pos:Int)+1).toNat=pos+1:=by omega
   have q1c:(pos:Int)+1<=(s.size:Int):=by omega
   have q1d:(pos:Int)+1<(s.size:Int):=by omega
   have q2a:(0:Int)<=(pos:Int)+2:=by omega
   have q2b:(pos:Int)<=(pos:Int)+2:=by omega
   have q2t:((pos:Int)+2).toNat=pos+2:=by omega
   have q2c:(pos:Int)+2<=(s.size:Int):=by omega
   have q2d:(pos:Int)+2<(s.size:Int):=by omega
   have r2a:(0:Int)<=(pos:Int)+1+1:=by omega
   have r2b:(pos:Int)<=(pos:Int)+1+1:=by omega
   have r2t:((pos:Int)+1+1).toNat=pos+2:=by omega
   have r2c:(pos:Int)+1+1<=(s.size:Int):=by omega
   have r2d:(pos:Int)+1+1<(s.size:Int):=by omega
   have q3a:(0:Int)<=(pos:Int)+3:=by omega
   have q3b:(pos:Int)<=(pos:Int)+3:=by omega
   have q3t:((pos:Int)+3).toNat=pos+3:=by omega
   have q3c:(pos:Int)+3<=(s.size:Int):=by omega
   have q3d:(pos:Int)+3<(s.size:Int):=by omega
   have r3a:(0:Int)<=(pos:Int)+1+1+1:=by omega
   have r3b:(pos:Int)<=(pos:Int)+1+1+1:=by omega
   have r3t:((pos:Int)+1+1+1).toNat=pos+3:=by omega
   have r3c:(pos:Int)+1+1+1<=(s.size:Int):=by omega
   have r3d:(pos:Int)+1+1+1<(s.size:Int):=by omega
   have q4a:(0:Int)<=(pos:Int)+4:=by omega
   have q4b:(pos:Int)<=(pos:Int)+4:=by omega
   have q4t:((pos:Int)+4).toNat=pos+4:=by omega
   by_cases g1:zq [s[pos]] s[pos+1].toNat=true;have g1':zbb s[pos].toNat<=s[pos+1].toNat/\(s[pos+1].toNat:Int)<=Z6 s[pos].toNat:=by simpa[zq] using g1
   unfold zbb Z6 at g1';have m1:(if s[pos].toNat=240 then 144 else 128)<=s[pos+1].toNat/\s[pos+1].toNat<=(if s[pos].toNat=244 then 143 else 191):=by
    repeat' split at g1'
    all_goals (repeat' split)<;>omega
   have m1a:128<=s[pos+1].toNat/\s[pos+1].toNat<=191:=by
    repeat' split at m1
    all_goals omega
   clear g1';by_cases g2:128<=s[pos+2].toNat/\s[pos+2].toNat<=191;have g2t:zq [s[pos],s[pos+1]] s[pos+2].toNat=true:=by simp[zq];omega
   by_cases g3:128<=s[pos+3].toNat/\s[pos+3].toNat<=191;have g3t:zq [s[pos],s[pos+1],s[pos+2]] s[pos+3].toNat=true:=by simp[zq];omega
   have hv:Hid (Zn [s[pos],s[pos+1],s[pos+2],s[pos+3]]=64*(64*(64*((s[pos].toNat:Int)-240)+s[pos+1].toNat-128)+s[pos+2].toNat-128)+s[pos+3].toNat-128):=rfl;have rb1:-2147483648<=Zn [s[pos],s[pos+1],s[pos+2],s[pos+3]]:=by have:=hv.out;omega
   have rb2:Zn [s[pos],s[pos+1],s[pos+2],s[pos+3]]<=2147483647:=by have:=hv.out;omega
   have hd:Hid (((Utf8.decode s pos).1:Int)=Zn [s[pos],s[pos+1],s[pos+2],s[pos+3]]/\(Utf8.decode s pos).2=4):=by
    show _/\_;rw[zb1 s pos _ _ _ _ _ rfl E0.out E1.out E2.out E3.out,zql (by omega) (by omega) (by omega) m1.1 m1.2 g2.1 g2.2 g3.1 g3.2];exact⟨by rw[hv.out];simp only[];omega,rfl⟩
   clear m1;rotate_left;have g3f:zq [s[pos],s[pos+1],s[pos+2]] s[pos+3].toNat=false:=by simp[zq];omega
   have m3:s[pos+3].toNat<128\/191<s[pos+3].toNat:=by omega
   have hd:Hid (((Utf8.decode s pos).1:Int)=65533/\(Utf8.decode s pos).2=1):=by
    show _/\_;rw[zb1 s pos _ _ _ _ _ rfl E0.out E1.out E2.out E3.out,zd4 (by omega) (by omega) (.inr (.inr (.inr (.inr (.inr m3)))))];exact⟨rfl,rfl⟩
   clear m1 g3;rotate_left;have g2f:zq [s[pos],s[pos+1]] s[pos+2].toNat=false:=by simp[zq];omega
   have m2:s[pos+2].toNat<128\/191<s[pos+2].toNat:=by omega
   have hd:Hid (((Utf8.decode s pos).1:Int)=65533/\(Utf8.decode s pos).2=1):=by
    show _/\_;rw[zb1 s pos _ _ _ _ _ rfl E0.out E1.out E2.out E3.out,zd4 (by omega) (by omega) (.inr (.inr (.inr (m2.elim .inl (λq=>.inr (.inl q))))))];exact⟨rfl,rfl⟩
   clear m1 g2;rotate_left;have g1f:zq [s[pos]] s[pos+1].toNat=false:=by simpa using g1
   have m1:s[pos+1].toNat<(if s[pos].toNat=240 then 144 else 128)\/(if s[pos].toNat=244 then 143 else 191)<s[pos+1].toNat:=by
    have q:¬(zbb s[pos].toNat<=s[pos+1].toNat/\(s[pos+1].toNat:Int)<=Z6 s[pos].toNat):=by simpa[zq] using g1
    unfold zbb Z6 at q
    repeat' split at q
    all_goals (repeat' split)<;>omega
   have hd:Hid (((Utf8.decode s pos).1:Int)=65533/\(Utf8.decode s pos).2=1):=by
    show _/\_;rw[zb1 s pos _ _ _ _ _ rfl E0.out E1.out E2.out E3.out,zd4 (by omega) (by omega) (m1.elim (λq=>.inr (.inl q)) (λq=>.inr (.inr (.inl q))))];exact⟨rfl,rfl⟩
   clear m1 g1;rotate_left;have hn':¬(pos:Int)+4<=(s.size:Int):=by omega
   have hd:Hid (((Utf8.decode s pos).1:Int)=65533/\(Utf8.decode s pos).2=1):=by
    show _/\_;rw[zb1 s pos _ _ _ _ _ rfl E0.out rfl rfl rfl,zd4 (by omega) (by omega) (.inl (by omega))];exact⟨rfl,rfl⟩
   rotate_left;all_goals
    go_wp2_with (first|(go_at_call 134;refine sM (zfK _ _ (by omega) (by omega)) ?_));refine wp_loop_rounds 4 ?_;rw[rounds_succ];go_wp2_with (first|fail);try
     (go_region_with (first|(go_at_call 135;refine sM (zhE _ _ _ (by omega) (by omega)) ?_))
      replace HR:Hid (wr.drew.ownsRow w.heap.size 21 1 u rs.length (zbM rs)):=HR.out;replace hB:Below w.heap.size w wr.drew:=hB.trans ((Zc wr 1).mono hB.size);generalize wr.drew=wd0 at *;go_wp2_with fail;rw[rounds_succ];go_wp2_with (first|(go_at_call 136;refine sM (zhH _ _ _ (by omega) (by omega) (by omega) (by omega)) ?_)|fail);try
       (go_region_with (first|(go_at_call 135;refine sM (zhF _ _ _ _ (by omega) (by omega)) ?_))
        replace HR:Hid (wd0.drew.ownsRow w.heap.size 21 1 u rs.length (zbM rs)):=HR.out;replace hB:Below w.heap.size w wd0.drew:=hB.trans ((Zc wd0 1).mono hB.size);generalize wd0.drew=wd1 at *;go_wp2_with fail;rw[rounds_succ];go_wp2_with (first|(go_at_call 136;refine sM (zhI _ _ _ _ (by omega) (by omega) (by omega) (by omega) (by omega) (by omega)) ?_)|fail);try
         (go_region_with (first|(go_at_call 135;refine sM (zhG _ _ _ _ _ (by omega) (by omega)) ?_))
          replace HR:Hid (wd1.drew.ownsRow w.heap.size 21 1 u rs.length (zbM rs)):=HR.out;replace hB:Below w.heap.size w wd1.drew:=hB.trans ((Zc wd1 1).mono hB.size);generalize wd1.drew=wd2 at *;go_wp2_with fail;rw[rounds_succ];go_wp2_with (first|(go_at_call 136;refine sM (zhJ _ _ _ _ _ (by omega) (by omega) (by omega) (by omega) (by omega) (by omega) (by omega) (by omega)) ?_)|fail))))
    go_at_call 65;refine(Wd.refWidth _ _ (by omega) (by omega)).mono ?_;rintro e w2 ⟨rfl,b2⟩;have HR2:Hid (w2.ownsRow w.heap.size 21 1 u rs.length (zbM rs)):=zcd HR.out (λi hi=>b2.block _ (HR.out.lt i hi).2);have B2:Below w.heap.size w w2:=hB.trans (b2.mono hB.size);have s2:=B2.size;clear b2 hB HR;by_cases hz:wd ((Utf8.decode s pos).1:Int)=0
    focus
     have hsn:znp ((Utf8.decode s pos).1:Int)=65533:=if_pos hz
    rotate_left
    focus
     have hsn:znp ((Utf8.decode s pos).1:Int)=(Utf8.decode s pos).1:=if_neg hz
    all_goals
     rw[hd.out.1] at hz hsn;replace hsn:=zH hsn;go_wp2_with (first|(at_builtin;refine zf7 _ (by rfl) (.tmp 75) (.tmp 77) (by rfl) w.heap.size u rs _ rs.length rfl (by rfl) (zcd HR2.out (λi hi=>Below.heap_alloc _ _ _ (HR2.out.lt i hi).2)) w2.heap.size (by rfl) (zae _ _ _ (by simp)) (by omega) (by simp;omega) ?_;intro g7 cap7 w7 hr7 hg7 ho7 hl7));have B7:Below w.heap.size w w7:=(B2.alloc B2.size _).grown hg7 (by simp;omega) (λi hi=>(HR2.out.lt i hi).1);have HF:∃f' rs',Let s w (.slice (some ⟨g7,0,none⟩) (rs.length+1) cap7) (pos+(Utf8.decode s pos).2) f' rs' w7:=HL.out.step hlt ⟨hd.out.1,rfl⟩ (by rw[hsn.out];exact hr7) B7 (by have:=hd.out.2;omega);rw[hd.out.2] at HF;replace HF:=zH HF;clear hr7 hg7 ho7 B7 hsn;go_wp2_with fail;go_roundw
     case rel=>
      obtain⟨f',rs',h⟩:=HF.out;exact⟨_,f',rs',by go_num,h⟩
     case measure=>simp[intOf];omega
  ·have hlt':¬(pos:Int)<(s.size:Int):=by omega
   have HF:Hid (wr.ownsRow w.heap.size 21 1 u (Zh s s.size 0).length (zbM (Zh s s.size 0))/\(Zh s s.size 0).length<=200):=by
    have e:=hL.all;have:Zh s f pos=[]:=by cases f with
     |zero=>rfl
     |succ f=>show(if pos<s.size then _ else _)=_;rw[if_neg hlt]
    rw[this,List.append_nil] at e;rw[←e];exact⟨hL.row,by have:=hL.short;have:=hL.le;omega⟩
   have hB:Below w.heap.size w wr:=hL.bel;clear hL;go_wp2_with fail;go_ret;exact⟨u,rfl,HF.out.1,HF.out.2,hB⟩
end
end Go.Proofs.YtjlfibhbfdckpaaGreatDoor
