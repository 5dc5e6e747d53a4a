/- Texts put together:EG,AE,WM,WN,WO,AF. -/
import Derived.Test.YtmdhainabeljpaaGreatDoorBxr15
set_option linter.unusedVariables false
set_option maxRecDepth 100000
set_option maxHeartbeats 16000000
namespace Go.Proofs.YtmdhainabeljpaaGreatDoor
open Go.RowKit Go.Shelf
attribute [local go_sem] jil
def EdV(w:World)(v:Value)(eds:List Ed):Prop :=
 ∃A cap,v=.slice A eds.length cap/\eds.length<=cap/\∀(i:Nat) (ed:Ed),eds[i]?=some ed->∃b off fv,A=some ⟨b,off,none⟩/\b<w.heap.size/\w.cell? ⟨b,off+i*3,none⟩=some (.int .i64 ed.kind)/\w.cell? ⟨b,off+i*3+1,none⟩=some (.int .i64 ed.id)/\w.cell? ⟨b,off+i*3+1+1,none⟩=some fv/\jhx w fv ed.fields
def jgw(eds:List Ed):Prop:=∀ed∈eds,jhP ed.fields
structure jeQ(fs:List Fld):Prop where
 len:fs.length<=1000000
 each:∀f∈fs,f.1.length<=100000/\f.2.length<=100000
def Wp(eds:List Ed):Prop:=∀ed∈eds,jeQ ed.fields
theorem yR.mono{lo lo':Nat}{w:World}{u:Value}{a:Int}{n:Nat}(h:yR lo w u a n)(hl:lo'<=lo):yR lo' w u a n:=by
 obtain⟨h1,h2⟩:=h
 refine⟨h1,?_⟩
 rcases h2 with h2|⟨k,h3,h4⟩
 ·exact .inl h2
 exact .inr ⟨k,h3.mono hl,h4⟩
theorem yR.fault{lo:Nat}{w:World}{u:Value}{k n:Nat}(h:jz lo w u k n)(hn:n≠0)(h11:n<=11):yR lo w u (k:Nat) n:=⟨h11,.inr ⟨k,h,rfl,hn⟩⟩
theorem jcL{lo:Nat}(k n:Nat)(a:Int)(u:Value)(w:World)(h:yR lo w u a n)(hn:n≠0)(hg:ErrT w):
  Calls Tryz.prog 124 #[.int .i64 (k:Nat),u] w fun e w'=>∃u',e=.returned u'/\Below w.heap.size w w'/\jz w.heap.size w' u' k n:=by
 obtain⟨_,h⟩:=h
 obtain⟨wa,hwa⟩:∃wa,wa=w.alloc (.cells #[.pointer none] 54):=⟨_,rfl⟩
 have hba:Below w.heap.size w wa:=by rw[hwa];exact(jh8 _ w).alloc (jh6 _) _
 have hga:ErrT wa:=hg.below hba (jh6 _)
 have ht:wa.cell? ⟨w.heap.size,0,none⟩=some (.pointer none):=by rw[hwa];simp
 have hf:wa.frozen? ⟨w.heap.size,0,none⟩=false:=by rw[hwa];simp
 have hz:wa.heap.size=w.heap.size+1:=by rw[hwa];simp
 rcases h with ⟨rfl,_⟩|⟨k',⟨q,_,rfl,hq⟩,_,_⟩
 ·rw[zk n (by omega)]
  have HM:=jh5 (jgt (n:Int) ⟨w.heap.size,0,none⟩ wa hga)
  have HBA:=jh5 hba
  have FIN:Hid (∀W,Below wa.heap.size wa W->jz w.heap.size (W.alloc (.cells #[.int .i64 (k:Nat),.iface 43 (.int .i64 (n:Nat))] 56)) (.iface 54 (.pointer (some ⟨W.heap.size,0,none⟩))) k n):=by
   intro W hW
   rw[<- zk n (by omega)]
   exact jz.new W k n _ _ rfl (by have:=hW.size;omega)
  clear hba hga ht hf
  subst hwa
  go_enter Tryz.func124,Tryz.ntmps124
  go_wp2_with fail
  refine HM.out.mono ?_
  rintro e w2 ⟨rfl,b2⟩
  have F2:=FIN.out w2 b2
  have B2:Below w.heap.size w w2:=HBA.out.trans (b2.mono HBA.out.size)
  go_wp2_with fail
  go_ret
  exact⟨_,rfl,B2.alloc B2.size _,F2⟩
 have hql:=hq.lt
 have HM:=jh5 (jhl ⟨q,0,none⟩ ⟨w.heap.size,0,none⟩ (.pointer none) wa hga ht hf)
 have HBA:=jh5 hba
 have HQ:Hid (∀w1,Below wa.heap.size wa w1->(w1.setCell ⟨w.heap.size,0,none⟩ (.pointer (some ⟨q,0,none⟩))).cell? ⟨w.heap.size,0,none⟩=some (.pointer (some ⟨q,0,none⟩))/\(w1.setCell ⟨w.heap.size,0,none⟩ (.pointer (some ⟨q,0,none⟩))).cell? ⟨q,1,none⟩=some (.iface 43 (.int .i64 (n:Nat)))/\Below w.heap.size w (w1.setCell ⟨w.heap.size,0,none⟩ (.pointer (some ⟨q,0,none⟩)))):=by
  intro w1 b1
  have hb:Below w.heap.size w w1:=hba.trans (b1.mono hba.size)
  have c1:jd w1 w.heap.size 54 #[.pointer none]:=jb (by rw[hwa];exact jd.new _ _ _) b1 (by omega)
  have c1':=c1.set 0 (.pointer (some ⟨q,0,none⟩))
  have cq:jd w1 q 56 #[.int .i64 k',Zy n]:=jb hq hb hql
  have cq':jd (w1.setCell ⟨w.heap.size,0,none⟩ (.pointer (some ⟨q,0,none⟩))) q 56 #[.int .i64 k',Zy n]:=cq.other (p:=⟨w.heap.size,0,none⟩) (by show q≠w.heap.size;omega) _
  refine⟨?_,?_,hb.setCell (p:=⟨w.heap.size,0,none⟩) (jh6 _) _⟩
  ·rw[c1'.cell 0];rfl
  rw[<- zk n (by omega),cq'.cell 1];rfl
 have FIN:Hid (∀W:World,w.heap.size<=W.heap.size->jz w.heap.size (W.alloc (.cells #[.int .i64 (k:Nat),.iface 43 (.int .i64 (n:Nat))] 56)) (.iface 54 (.pointer (some ⟨W.heap.size,0,none⟩))) k n):=by
  intro W hW
  rw[<- zk n (by omega)]
  exact jz.new W k n _ _ rfl hW
 clear hba hga ht hf hq
 subst hwa
 go_enter Tryz.func124,Tryz.ntmps124
 go_wp2_with fail
 refine HM.out.mono ?_
 rintro e w2 ⟨rfl,w1,b1,hw2⟩
 obtain⟨c1,c2,hb⟩:=HQ.out w1 b1
 rw[<- hw2]at c1 c2 hb
 have F2:=FIN.out w2 hb.size
 clear hw2 HQ b1 HM
 go_wp2_with fail
 go_ret
 exact⟨_,rfl,hb.alloc hb.size _,F2⟩
theorem jc2(ed:Ed)(fv:Value)(w:World)(h:Wo w fv ed.fields)(hf:jeQ ed.fields):
  Calls Tryz.prog 123 #[.agg #[.int .i64 ed.kind,.int .i64 ed.id,fv]] w fun e w'=>∃u a,e=.returned u/\Below w.heap.size w w'/\yR w.heap.size w' u a (zw ed):=by
 obtain⟨fa,fc,rfl,_,_⟩:=_root_.id h
 obtain⟨wa,hwa⟩:∃wa,wa=w.alloc (.cells #[.int .i64 ed.kind,.int .i64 ed.id,.slice fa ed.fields.length fc] 40):=⟨_,rfl⟩
 have hba:Below w.heap.size w wa:=by rw[hwa];exact(jh8 _ w).alloc (jh6 _) _
 have HC:=jh5 (jgn ed.fields (.slice fa ed.fields.length fc) wa (h.below hba (jh6 _)) (by have:=hf.len;omega) (fun f hm=>by have:=hf.each f hm;omega))
 have HB:=jh5 hba
 have GE:=jh5 (show zw ed=if ed.kind=1\/ed.kind=3 then Ju ed.fields else if ed.kind=2/\ed.fields.length=0 then 0 else 2 from rfl)
 have FIN:Hid (∀W u,yR wa.heap.size W u (Jo ed.fields) (Ju ed.fields)->zw ed=Ju ed.fields->∃a,yR w.heap.size W u a (zw ed)):=by
  intro W u hz hg
  rw[hg]
  exact⟨_,hz.mono hba.size⟩
 have HZ:Hid (∀W u,jbn wa.heap.size W u ed.fields->yR wa.heap.size W u (Jo ed.fields) (Ju ed.fields)):=fun W u h=>yR.of h
 have E0:Hid (∀W,zw ed=0->yR w.heap.size W .nilIface (-9) (zw ed)):=fun W h=>by rw[h];exact yR.none _ _
 have E2:Hid (∀W,zw ed=2->yR w.heap.size W (.iface 43 (.int .i64 2)) (-9) (zw ed)):=fun W h=>by rw[h];exact yR.err _ _ 2 (by decide)
 have hlz:((ed.fields.length:Int)==0)=decide (ed.fields.length=0):=by
  rw[jiX];simp
 clear hba h
 subst hwa
 generalize hgg:zw ed=ge at *
 generalize Ju ed.fields=cn at *
 generalize Jo ed.fields=ca at *
 generalize ed.fields.length=fl at *
 generalize ed.kind=kk at *
 generalize ed.id=ii at *
 clear hgg
 by_cases h1:kk=1
 ·subst h1
  have hg:ge=cn:=by rw[GE.out,if_pos (.inl rfl)]
  go_enter Tryz.func123,Tryz.ntmps123
  go_wp2_with fail
  refine HC.out.mono ?_
  rintro e w2 ⟨u,rfl,b2,hu⟩
  obtain⟨a,F2⟩:=FIN.out w2 u (HZ.out w2 u hu) hg
  go_wp2_with fail
  go_ret
  first | exact⟨_,rfl,HB.out.trans (b2.mono HB.out.size),a,F2⟩ | exact⟨_,a,rfl,HB.out.trans (b2.mono HB.out.size),F2⟩
 by_cases h3:kk=3
 ·subst h3
  have hg:ge=cn:=by rw[GE.out,if_pos (.inr rfl)]
  go_enter Tryz.func123,Tryz.ntmps123
  go_wp2_with fail
  refine HC.out.mono ?_
  rintro e w2 ⟨u,rfl,b2,hu⟩
  obtain⟨a,F2⟩:=FIN.out w2 u (HZ.out w2 u hu) hg
  go_wp2_with fail
  go_ret
  first | exact⟨_,rfl,HB.out.trans (b2.mono HB.out.size),a,F2⟩ | exact⟨_,a,rfl,HB.out.trans (b2.mono HB.out.size),F2⟩
 have q1:(kk==1)=false:=by simpa using h1
 have q3:(kk==3)=false:=by simpa using h3
 by_cases h2:kk=2
 ·subst h2
  by_cases h0:fl=0
  ·have hg:ge=0:=by rw[GE.out,if_neg (by omega),if_pos ⟨rfl,h0⟩]
   have F:=E0.out (w.alloc (.cells #[.int .i64 2,.int .i64 ii,.slice fa fl fc] 40)) hg
   clear hg GE E0 E2 FIN HZ
   subst h0
   go_enter Tryz.func123,Tryz.ntmps123
   go_wp2_with fail
   go_ret
   first | exact⟨_,rfl,HB.out,_,F⟩ | exact⟨_,_,rfl,HB.out,F⟩
  have hg:ge=2:=by rw[GE.out,if_neg (by omega),if_neg (by intro h;exact h0 h.2)]
  have F:=E2.out (w.alloc (.cells #[.int .i64 2,.int .i64 ii,.slice fa fl fc] 40)) hg
  clear hg GE E0 E2 FIN HZ
  rw[decide_eq_false h0]at hlz
  go_enter Tryz.func123,Tryz.ntmps123
  go_wp2_with fail
  go_ret
  first | exact⟨_,rfl,HB.out,_,F⟩ | exact⟨_,_,rfl,HB.out,F⟩
 have q2:(kk==2)=false:=by simpa using h2
 have hg:ge=2:=by rw[GE.out,if_neg (by omega),if_neg (by intro h;exact h2 h.1)]
 have F:=E2.out (w.alloc (.cells #[.int .i64 kk,.int .i64 ii,.slice fa fl fc] 40)) hg
 clear hg GE E0 E2 FIN HZ
 go_enter Tryz.func123,Tryz.ntmps123
 go_wp2_with fail
 go_ret
 first | exact⟨_,rfl,HB.out,_,F⟩ | exact⟨_,_,rfl,HB.out,F⟩
theorem Um(eds:List Ed)(v:Value)(w:World)(h:EdV w v eds)(hl:eds.length<=1000000)(hf:Wp eds)(hg:ErrT w):
  Calls Tryz.prog 87 #[v] w fun e w'=>∃u,e=.returned u/\Below w.heap.size w w'/\yR w.heap.size w' u (yx eds).1 (yx eds).2:=by
 obtain⟨A,cap,rfl,hle,hc⟩:=h
 have PC:=jh5 hc
 have HF:=jh5 hf
 have HG:=jh5 hg
 clear hc hf hg
 by_cases h0:eds.length=0
 ·have e0:yx eds=(-9,1):=by unfold yx;rw[if_pos (by omega)]
  rw[e0,h0]
  have F:=yR.err w.heap.size w 1 (by decide)
  rw[show Zy 1=.iface 43 (.int .i64 1) from rfl]at F
  go_enter Tryz.func87,Tryz.ntmps87
  go_wp2_with fail
  go_ret
  exact⟨_,rfl,jh8 _ _,F⟩
 have q0:((eds.length:Int)==0)=false:=by simp;intro h;exact h0 (by rw[h];rfl)
 by_cases h40:40<eds.length
 ·have e0:yx eds=(-9,1):=by unfold yx;rw[if_pos (by omega)]
  rw[e0]
  have F:=yR.err w.heap.size w 1 (by decide)
  rw[show Zy 1=.iface 43 (.int .i64 1) from rfl]at F
  go_enter Tryz.func87,Tryz.ntmps87
  go_wp2_with fail
  go_ret
  exact⟨_,rfl,jh8 _ _,F⟩
 have e1:yx eds=ye 0 eds:=by unfold yx;rw[if_neg (by omega)]
 rw[e1]
 go_enter Tryz.func87,Tryz.ntmps87
 go_wp2_with fail
 go_loopw [17] (fun i wr=>∃k:Nat,k<=eds.length/\i=.int .i64 k/\(∀x∈eds.take k,zw x=0)/\Below w.heap.size w wr) (fun i _=>eds.length-(intOf i).toNat)
 case atStart=>exact⟨0,jii _,rfl,(fun x hx=>by simp at hx),jh8 _ _⟩
 case round =>
 obtain⟨k,hk,rfl,hsm,hb⟩:=hrel
 by_cases hlt:k<eds.length
 ·obtain⟨ed,hed⟩:∃ed,eds[k]?=some ed:=⟨_,jia hlt⟩
  obtain⟨b,off,fv,rfl,hbb,c0,c1,c2,hfl⟩:=PC.out k ed hed
  obtain⟨fa,fc,rfl,_,_⟩:=_root_.id hfl.1
  replace c0:=(hb.cell (p:=⟨b,off+k*3,none⟩) hbb).trans c0
  replace c1:=(hb.cell (p:=⟨b,off+k*3+1,none⟩) hbb).trans c1
  replace c2:=(hb.cell (p:=⟨b,off+k*3+1+1,none⟩) hbb).trans c2
  obtain⟨wa,hwa⟩:∃wa,wa=wr.alloc (.cells #[.int .i64 ed.kind,.int .i64 ed.id,.slice fa ed.fields.length fc] 40):=⟨_,rfl⟩
  have hba:Below w.heap.size w wa:=by rw[hwa];exact hb.alloc hb.size _
  have CK:=jh5 (jc2 ed (.slice fa ed.fields.length fc) wa (hfl.1.below hba (jh6 _)) (HF.out ed (jim hed)))
  have SM:Hid (zw ed=0->∀x∈eds.take (k+1),zw x=0):=fun hz x hx=>by
   rw[take_snoc hed]at hx
   rcases List.mem_append.1 hx with hx|hx
   ·exact hsm x hx
   rw[List.mem_singleton.1 hx];exact hz
  have AT:Hid (zw ed≠0->ye 0 eds=(((k:Nat):Int),zw ed)):=fun hz=>by rw[XH eds 0 k ed hsm hed hz,jiH]
  have HBA:=jh5 hba
  have hle11:=jd9 ed
  clear hed hsm hfl hba
  generalize zw ed=ge at *
  subst hwa
  go_wp2_with fail
  refine CK.out.mono ?_
  rintro e w2 ⟨u,a,rfl,b2,hz⟩
  have B2:=jh5 (HBA.out.trans (b2.mono HBA.out.size))
  by_cases hg0:ge=0
  ·subst hg0
   obtain⟨_,⟨rfl,_⟩|⟨_,_,_,hx⟩⟩:=hz
   ·have SM1:=jh5 (SM.out rfl)
    clear SM AT CK
    rw[show Zy 0=.nilIface from rfl]
    go_wp2_with fail
    go_roundw
    case rel=>exact⟨k+1,hlt,by go_num,SM1.out,B2.out⟩
    case measure=>simp[intOf];omega
   exact absurd rfl hx
  have FA:=jh5 (jcL k ge a u w2 hz hg0 (HG.out.below B2.out (jh6 _)))
  have AT1:=AT.out hg0
  have hform:(∃z,u=.iface 43 (.int .i64 z))\/∃q,u=.iface 54 (.pointer (some ⟨q,0,none⟩)):=by
   obtain⟨_,⟨rfl,_⟩|⟨_,⟨q,_,rfl,_⟩,_,_⟩⟩:=hz
   ·rw[zk ge (by omega)];exact .inl ⟨_,rfl⟩
   exact .inr ⟨q,rfl⟩
  clear hz SM AT CK
  rcases hform with ⟨z,rfl⟩|⟨q,rfl⟩
  all_goals
   go_wp2_with fail
   refine FA.out.mono ?_
   rintro e w3 ⟨u',rfl,b3,hfa⟩
   have Z3:Hid (yR w.heap.size w3 u' (ye 0 eds).1 (ye 0 eds).2):=by
    show yR _ _ _ _ _
    rw[AT1];exact yR.fault (hfa.mono B2.out.size) hg0 hle11
   have B3:=jh5 (B2.out.trans (b3.mono B2.out.size))
   clear hfa b3
   go_wp2_with fail
   go_ret
   exact⟨_,rfl,B3.out,Z3.out⟩
 obtain rfl:k=eds.length:=by omega
 rw[jiF]at hsm
 have HZ:yR w.heap.size wr .nilIface (ye 0 eds).1 (ye 0 eds).2:=by rw[Vn eds 0 hsm];exact yR.none w.heap.size wr
 clear PC hsm
 go_wp2_with fail
 go_ret
 exact⟨_,rfl,hb,HZ⟩
theorem vD{P:Program}{w w':World}{N:Nat}{name:String}{cs:Array Value}(h:w.var? P name=some cs)(hb:Below N w w')(hN:w.heap.size<=N):w'.var? P name=some cs:=by
 unfold World.var? at *
 cases hg:P.globalNamed name with
 | none=>simp[hg]at h
 | some g =>
 simp only[hg,Option.bind_some]at h ⊢
 have hlt:g<w.heap.size:=by
  rcases jir g w.heap.size with h'|h'
  ·exact h'
  rw[jiI h']at h;simp at h
 rw[hb.block g (by omega)]
 exact h
structure Tabs(w:World):Prop where
 err:ErrT w
 pow:Lib.TabIs Tryz.prog w "internal/strconv.uint64pow10" .u64 Lib.pow10Tab
 syn:∃tp p,w.var? Tryz.prog "strconv.ErrSyntax" = some #[.iface tp p]
 ran:∃tp p,w.var? Tryz.prog "strconv.ErrRange" = some #[.iface tp p]
theorem Tabs.below{w w':World}{N:Nat}(h:Tabs w)(hb:Below N w w')(hN:w.heap.size<=N):Tabs w':=by
 obtain⟨a,b,⟨t1,p1,c⟩,⟨t2,p2,d⟩⟩:=h
 exact⟨a.below hb hN,vD b hb hN,⟨t1,p1,vD c hb hN⟩,⟨t2,p2,vD d hb hN⟩⟩
theorem jfe(a b:List UInt8):((B a).toList==(B b).toList)=decide (a=b):=by rw[jiu,jiu,ji,ji,jiX];simp
theorem Qg(k:Int)(w:World):Calls Tryz.prog 126 #[.int .i64 k] w fun e w'=>e=.returned (.string (B (zZ k)))/\w'=w:=by
 unfold zZ
 by_cases h1:k=1
 ·subst h1
  go_enter Tryz.func126,Tryz.ntmps126
  go_wp2_with fail
  go_ret
  exact⟨rfl,rfl⟩
 have q1:(k==1)=false:=by simpa using h1
 rw[if_neg h1]
 by_cases h2:k=2
 ·subst h2
  go_enter Tryz.func126,Tryz.ntmps126
  go_wp2_with fail
  go_ret
  exact⟨rfl,rfl⟩
 have q2:(k==2)=false:=by simpa using h2
 rw[if_neg h2]
 by_cases h3:k=3
 ·subst h3
  go_enter Tryz.func126,Tryz.ntmps126
  go_wp2_with fail
  go_ret
  exact⟨rfl,rfl⟩
 have q3:(k==3)=false:=by simpa using h3
 rw[if_neg h3]
 go_enter Tryz.func126,Tryz.ntmps126
 go_wp2_with fail
 go_ret
 exact⟨rfl,rfl⟩
theorem yr{w:World}(n:Nat)(os:Array Obj):Below w.heap.size w (Go.Sort.grow (w.drewN n) os) :=
 ⟨rfl,rfl,rfl,by rw[Go.Sort.size_grow];exact Nat.le_add_right _ _,fun k hk=>jkn _ _ hk⟩
theorem jci(ed:Ed)(fv:Value)(hi:I64 ed.id)(w:World)(ht:Tabs w):
  Calls Tryz.prog 89 #[.agg #[.int .i64 ed.kind,.int .i64 ed.id,fv]] w fun e w'=>e=.returned (.string (B (jV ed.kind ed.id)))/\Below w.heap.size w w':=by
 obtain⟨wa,hwa⟩:∃wa,wa=w.alloc (.cells #[.int .i64 ed.kind,.int .i64 ed.id,fv] 40):=⟨_,rfl⟩
 have hba:Below w.heap.size w wa:=by rw[hwa];exact(jh8 _ w).alloc (jh6 _) _
 have HB:=jh5 hba
 have IT:=jh5 (Tryz.strconv_Itoa ed.id hi.1 hi.2 wa (ht.below hba (jh6 _)).pow)
 have WD:=jh5 (Qg ed.kind wa)
 have hil:=Lib.itoa_length_le ed.id hi.1 hi.2
 have k0:wa.cell? ⟨w.heap.size,0,none⟩=some (.int .i64 ed.kind):=by rw[hwa];simp
 have k1:wa.cell? ⟨w.heap.size,1,none⟩=some (.int .i64 ed.id):=by rw[hwa];simp
 by_cases hk:ed.kind=1\/ed.kind=2\/ed.kind=3
 ·have e3:Hid (∀z:ByteArray,z=(⟨(Lib.itoa ed.id).toArray⟩:ByteArray)->(⟨#[32]⟩:ByteArray)++B (zZ ed.kind) ++ ⟨#[32]⟩++z=B (jV ed.kind ed.id)):=by
   rintro z rfl
   unfold jV
   rw[if_pos hk,show(⟨#[32]⟩:ByteArray)=B [32] from rfl,show(⟨(Lib.itoa ed.id).toArray⟩:ByteArray)=B (Lib.itoa ed.id) from rfl,jj,jj,jj]
   congr 1;simp
  have hne:((B (zZ ed.kind))==(⟨#[]⟩:ByteArray))=false:=by
   rcases hk with h|h|h<;>rw[h]<;>decide
  have hne2:(B (zZ ed.kind)).toList.isEmpty=false:=by
   rcases hk with h|h|h<;>rw[h]<;>decide +kernel
  have hws:(B (zZ ed.kind)).size<=7:=by rw[je];rcases hk with h | h | h<;>rw[h]<;>decide
  have his:(⟨(Lib.itoa ed.id).toArray⟩:ByteArray).size<=21:=by show(Lib.itoa ed.id).toArray.size<=21;simpa using hil
  generalize (⟨(Lib.itoa ed.id).toArray⟩:ByteArray)=z at *
  generalize B (zZ ed.kind)=wd at *
  have s1:((⟨#[32]⟩:ByteArray)++wd).size<=8:=by rw[jiN];show 1+_<=_;omega
  have s2:((⟨#[32]⟩:ByteArray)++wd ++ ⟨#[32]⟩).size<=9:=by rw[jiN];show _+1<=_;omega
  clear hba ht
  subst hwa
  go_enter Tryz.func89,Tryz.ntmps89
  go_wp2_with fail
  refine WD.out.mono ?_
  rintro e w2 ⟨rfl,rfl⟩
  go_wp2_with fail
  refine IT.out.mono ?_
  rintro e w3 ⟨rfl,n,os,rfl⟩
  have B3:=jh5 (HB.out.trans ((yr n os).mono HB.out.size))
  go_wp2_with fail
  go_ret
  exact⟨by rw[e3.out _ rfl];rfl,B3.out⟩
 have e0:zZ ed.kind=[]:=by
  unfold zZ
  rw[if_neg (by omega),if_neg (by omega),if_neg (by omega)]
 have e1:jV ed.kind ed.id=[]:=by unfold jV;rw[if_neg hk]
 rw[e0]at WD
 rw[e1]
 rw[show B []=(⟨#[]⟩:ByteArray) from rfl]at WD ⊢
 clear hba ht
 subst hwa
 go_enter Tryz.func89,Tryz.ntmps89
 go_wp2_with fail
 refine WD.out.mono ?_
 rintro e w2 ⟨rfl,rfl⟩
 go_wp2_with fail
 go_ret
 exact⟨rfl,HB.out⟩
end Go.Proofs.YtmdhainabeljpaaGreatDoor
namespace Go.Proofs.YtmdhainabeljpaaGreatDoor
open Go.RowKit Go.Shelf
theorem jcx:∀(l:List UInt8) (k:Nat),l[k]?=some 10->(∀j,j<k->l[j]?≠some 10)->zY l=l.take k/\nl l=true/\qy l=k+1
 | [],k,h,_=>by simp at h
 | a::t,0,h,_=>by
  have:a=10:=by simpa using h
  subst this
  exact⟨rfl,rfl,rfl⟩
 | a::t,k+1,h,hn=>by
  have ha:a≠10:=fun e=>hn 0 (by omega) (by rw[e];rfl)
  obtain⟨h1,h2,h3⟩:=jcx t k (by simpa using h) (fun j hj=>by have:=hn (j+1) (by omega);simpa using this)
  have e1:zY (a::t)=a::zY t:=by simp[zY,ha]
  have e2:nl (a::t)=nl t:=by simp[nl,Ne.symm ha]
  refine⟨by rw[e1,h1];rfl,by rw[e2,h2],?_⟩
  unfold qy at h3 ⊢
  rw[e1,e2,jic];omega
theorem xo:∀(l:List UInt8),(∀j:Nat,l[j]?≠some 10)->zY l=l/\nl l=false/\qy l=l.length
 | [],_=>⟨rfl,rfl,rfl⟩
 | a::t,hn=>by
  have ha:a≠10:=fun e=>hn 0 (by rw[e];rfl)
  obtain⟨h1,h2,h3⟩:=xo t (fun j=>by have:=hn (j+1);simpa using this)
  have e1:zY (a::t)=a::zY t:=by simp[zY,ha]
  have e2:nl (a::t)=nl t:=by simp[nl,Ne.symm ha]
  refine⟨by rw[e1,h1],by rw[e2,h2],?_⟩
  unfold qy at h3 ⊢
  rw[e1,e2,jic];simp only[jic];omega
def cellsOf(xs:List Ln):List Value:=xs.flatMap fun x=>(zO x).toList
theorem Qb(xs:List Ln)(x:Ln):cellsOf (xs++[x])=cellsOf xs++(zO x).toList:=by unfold cellsOf;simp
theorem QV(x:Ln):(zO x).toList.length=4:=rfl
theorem qU:∀(pre:List Ln) (x:Ln) (post:List Ln) (j:Nat),j<4->(cellsOf (pre++x::post))[pre.length*4+j]?=(zO x).toList[j]?
 | [],x,post,j,hj=>by
  show((zO x).toList++cellsOf post)[_]?=_
  rw[jiT (by rw[QV];simp;omega)];simp
 | y::pre,x,post,j,hj=>by
  show((zO y).toList++cellsOf (pre++x::post))[_]?=_
  rw[jiD (by rw[QV];simp;omega),QV]
  rw[show(y::pre).length*4+j-4=pre.length*4+j by simp;omega]
  exact qU pre x post j hj
theorem jgZ:(Tryz.prog.info? 60).map (fun i=>(i.zero,i.size,i.bytes))=some (some (.agg #[.int .i64 0,.int .i64 0,.string ⟨#[]⟩,.bool false]),4,40):=by kernel_rfl
theorem KC(W:World)(x:Ln)(t:TypeId):∀j u,(zO x).toList[j]?=some u->(W.alloc (.cells (zO x) t)).cell? ((⟨W.heap.size,0,none⟩:Addr).add j)=some u:=by
 intro j u h
 have hadd:(⟨W.heap.size,0,none⟩:Addr).add j=⟨W.heap.size,j,none⟩:=by unfold Addr.add;split<;>simp_all
 rw[hadd]
 have:=(jd.new W t (zO x)).cell j
 rw[this]
 simpa using h
theorem ja1(s:ByteArray)(a b:Nat):s.extract a b=⟨((s.data.toList.drop a).take (b-a)).toArray⟩:=by
 rw[<- jjX (s.extract a b),ji7]
structure jbl(l:List UInt8)(k at_:Nat)(pre:List Ln):Prop where
 split:jf l=pre++jS pre.length at_ (l.drop at_)
 le:at_<=k
 none:∀j,at_<=j->j<k->l[j]?≠some 10
 short:pre.length<=at_
theorem jbl.start(l:List UInt8):jbl l 0 0 []:=⟨rfl,jh6 _,fun j _ h=>absurd h (jkb j),jh6 _⟩
theorem jbl.step{l:List UInt8}{k at_:Nat}{pre:List Ln}(h:jbl l k at_ pre)(hk:l[k]?≠some 10):jbl l (k+1) at_ pre :=
 ⟨h.split,Nat.le_succ_of_le h.le,fun j a b=>by
  by_cases e:j=k
  ·subst e;exact hk
  exact h.none j a (by omega),h.short⟩
theorem jbl.line{l:List UInt8}{k at_:Nat}{pre:List Ln}(h:jbl l k at_ pre)(hk:l[k]?=some 10):
  jbl l (k+1) (k+1) (pre++[⟨pre.length,at_,(l.drop at_).take (k-at_),true⟩]):=by
 have hle:=h.le
 have h1:(l.drop at_)[k-at_]?=some 10:=by rw[jiZ,show at_+(k-at_)=k by omega];exact hk
 have h2:∀j,j<k-at_->(l.drop at_)[j]?≠some 10:=fun j hj=>by rw[jiZ];exact h.none _ (by omega) (by omega)
 obtain⟨a,b,c⟩:=jcx _ _ h1 h2
 have hne:l.drop at_≠[]:=by intro e;rw[e]at h1;simp at h1
 have hs:=h.split
 rw[js _ _ _ hne,a,b,c,jji,show at_+(k-at_+1)=k+1 by omega]at hs
 refine⟨?_,jh6 _,fun j x y=>by omega,by rw[jh7];have:=h.short;simp;omega⟩
 rw[hs,jip,jh7];rfl
theorem jbl.last{l:List UInt8}{k at_:Nat}{pre:List Ln}(h:jbl l k at_ pre)(hk:k=l.length):
  jf l=if at_<l.length then pre++[⟨pre.length,at_,l.drop at_,false⟩] else pre:=by
 have hs:=h.split
 by_cases hlt:at_<l.length
 ·rw[if_pos hlt]
  have hne:l.drop at_≠[]:=by intro e;have:=congrArg List.length e;simp at this;omega
  have h2:∀j:Nat,(l.drop at_)[j]?≠some 10:=fun j=>by
   rw[jiZ]
   by_cases q:at_+j<k
   ·exact h.none _ (by omega) q
   rw[jis (by omega)];simp
  obtain⟨a,b,c⟩:=xo _ h2
  rw[js _ _ _ hne,a,b,c,ji6,jq]at hs
  exact hs
 rw[if_neg hlt]
 rw[ji0 (by omega),jq,jix]at hs
 exact hs
theorem vR(s:ByteArray)(hs:s.size<=1000000)(w:World):
  Calls Tryz.prog 19 #[.string s] w fun e w'=>∃v,e=.returned v/\w'.ownsRow w.heap.size 60 4 v (jf s.data.toList).length (cellsOf (jf s.data.toList))/\Below w.heap.size w w':=by
 have N5:=jh5 (jij s)
 obtain⟨i0,hi,hz0,hz1,hz2⟩:=info_parts jgZ
 go_enter Tryz.func19,Tryz.ntmps19
 go_wp2
 go_loopw [3,4,5] (fun v a i wr=>∃(k at_:Nat) (pre:List Ln),k<=s.size/\i=.int .i64 k/\a=.int .i64 at_/\jbl s.data.toList k at_ pre/\(∃ao cap,v=.slice ao pre.length cap/\wr.ownsRow w.heap.size 60 4 (.slice ao pre.length cap) pre.length (cellsOf pre))/\Below w.heap.size w wr)
  (fun _ _ i _=>s.size-(intOf i).toNat)
 case atStart=>exact⟨0,0,[],jii _,rfl,rfl,jbl.start _,⟨none,0,rfl,World.ownsRow_nil _ _ _ _⟩,jh8 _ _⟩
 case round =>
 obtain⟨k,at_,pre,hk,rfl,rfl,hu,⟨ao,cap,rfl,hown⟩,hb⟩:=hrel
 by_cases hlt:k<s.size
 ·have e:s.data.toList[k]?=some s[k]:=by
   rw[jia (by rw[<- jij];exact hlt)];rfl
  have E:=jh5 e
  clear e
  have q2:=zV (c:=s[k]) (d:=10) 10 rfl
  cases h5:(s[k]==10) with
  | false =>
   rw[h5]at q2
   have hu':=hu.step (k:=k) (by rw[E.out];simpa using h5)
   go_wp2
   go_roundw
   case rel=>exact⟨k+1,at_,pre,hlt,by go_num,rfl,hu',⟨ao,cap,rfl,hown⟩,hb⟩
   case measure=>simp[intOf];omega
  | true =>
  rw[h5]at q2
  have hu':=hu.line (k:=k) (by rw[E.out];simpa using h5)
  have he:=ja1 s at_ k
  generalize (s.data.toList.drop at_).take (k-at_)=tx at *
  have z1:=hu.le
  have z2:=hu.short
  have hc:=KC wr ⟨pre.length,at_,tx,true⟩ 60
  dsimp only[zO]at hc
  have HC:=jh5 hc
  clear hc
  go_wp2_with (at_builtin;refine wpList_append_own _ rfl _ _ 57 rfl w.heap.size 60 i0 _ 4 40 Tryz.underlying57 hi hz0 hz1 hz2 rfl (by decide) _ _ _ rfl (hown.alloc _) ⟨wr.heap.size,0,none⟩ 1 1 _ rfl rfl HC.out ?c2 ?c3 ?c4 ?c5 ?_)
  case c2=>intro u hu;simp at hu;rcases hu with rfl | rfl | rfl | rfl<;>rfl
  case c3=>unfold maxLen;omega
  case c4=>omega
  case c5=>have:=hb.size;simp;omega
  intro v' w1 hown' hgrow _
  obtain⟨g',cap',rfl⟩:=ownsRow_succ hown'
  have hb1:Below w.heap.size w w1:=(hb.alloc hb.size _).grown hgrow (by have:=hb.size;simp;omega) (fun j ej=>(hown.lt j ej).1)
  go_wp2
  go_roundw
  case rel =>
   refine⟨k+1,k+1,_,hlt,by go_num,by go_num,hu',⟨some ⟨g',0,none⟩,cap',?_,?_⟩,hb1⟩
   ·rw[jh7];rfl
   rw[jh7,Qb];exact hown'
  case measure=>simp[intOf];omega
 obtain rfl:k=s.size:=by omega
 have hl:=hu.last N5.out
 have z1:=hu.le
 have z2:=hu.short
 by_cases h6:at_<s.size
 ·rw[if_pos (by rw[<- N5.out];exact h6)]at hl
  have HL:=jh5 hl
  have he:s.extract at_ s.size=⟨(s.data.toList.drop at_).toArray⟩:=by rw[<- jjX (s.extract at_ s.size),jjG]
  clear hl hu
  generalize s.data.toList.drop at_=tx at *
  have hc:=KC wr ⟨pre.length,at_,tx,false⟩ 60
  dsimp only[zO]at hc
  have HC:=jh5 hc
  clear hc
  go_wp2_with (at_builtin;refine wpList_append_own _ rfl _ _ 57 rfl w.heap.size 60 i0 _ 4 40 Tryz.underlying57 hi hz0 hz1 hz2 rfl (by decide) _ _ _ rfl (hown.alloc _) ⟨wr.heap.size,0,none⟩ 1 1 _ rfl rfl HC.out ?d2 ?d3 ?d4 ?d5 ?_)
  case d2=>intro u hu;simp at hu;rcases hu with rfl | rfl | rfl | rfl<;>rfl
  case d3=>unfold maxLen;omega
  case d4=>omega
  case d5=>have:=hb.size;simp;omega
  intro v' w1 hown' hgrow _
  have hb1:Below w.heap.size w w1:=(hb.alloc hb.size _).grown hgrow (by have:=hb.size;simp;omega) (fun j ej=>(hown.lt j ej).1)
  go_wp2
  go_ret
  refine⟨v',rfl,?_,hb1⟩
  rw[HL.out,jh7,Qb];exact hown'
 rw[if_neg (by rw[<- N5.out];exact h6)]at hl
 have HL:=jh5 hl
 clear hl hu
 go_wp2
 go_ret
 refine⟨_,rfl,?_,hb⟩
 rw[HL.out];exact hown
end Go.Proofs.YtmdhainabeljpaaGreatDoor
namespace Go.Proofs.YtmdhainabeljpaaGreatDoor
open Go.RowKit Go.Shelf
attribute [local go_sem] jil
def xn(j:List UInt8)(xs:List Ln):List UInt8:=xs.flatMap fun x=>j++x.bytes
theorem JM(j:List UInt8)(pre:List Ln)(x:Ln):xn j (pre++[x])=xn j pre++j++x.text++(Vj x.ended).data.toList:=by
 have e:(Vj x.ended).data.toList=if x.ended then [10] else []:=by unfold Vj;cases x.ended<;>rfl
 rw[e]
 simp[xn,Ln.bytes]
theorem Xp(j:List UInt8)(n m:Nat):∀xs:List Ln,(∀x∈xs,x.bytes.length<=m)->xs.length<=n->j.length<=m->(xn j xs).length<=n*(2*m)
 | [],_,_,_=>by simp[xn]
 | x::xs,h,hn,hj=>by
  obtain⟨n,rfl⟩:∃k,n=k+1:=⟨n-1,by simp at hn;omega⟩
  have ih:=Xp j n m xs (fun y hy=>h y (jif _ hy)) (by simpa using hn) hj
  have h1:=h x jig
  have e:xn j (x::xs)=j++x.bytes++xn j xs:=by simp[xn]
  rw[e,Nat.add_mul]
  simp only[jh7]
  omega
def jhv(w:World)(z R:Nat)(j:List UInt8)(pre:List Ln)(W:World):Prop :=
 Boxed W z 9 (.string ⟨j.toArray⟩)/\Bld (z+1) R (xn j pre) W/\Below w.heap.size w W
theorem jaO(s:ByteArray)(hs:s.size<=1000000)(sl:Value)(j:List UInt8)(hj:j.length<=1000000)(w:World)
  (hjoin:Calls Tryz.prog 128 #[sl,.string ⟨#[]⟩] w fun e w'=>e=.returned (.string ⟨j.toArray⟩)/\Below w.heap.size w w') :
  Calls Tryz.prog 91 #[.string s,sl] w fun e w'=>e=.returned (.string ⟨(xn j (jf s.data.toList)).toArray⟩)/\Below w.heap.size w w':=by
 have hpos:∀x∈jf s.data.toList,x.bytes.length<=1000000:=by
  intro x hx
  have e:=jB s.data.toList
  obtain⟨a,b,hab⟩:=jjT hx
  rw[hab,jiG,jio]at e
  have:=congrArg List.length e
  rw[<- jij]at this
  simp only[jh7]at this
  omega
 have hll:=zD s.data.toList
 rw[<- jij]at hll
 obtain⟨xs,hxs⟩:∃xs,jf s.data.toList=xs:=⟨_,rfl⟩
 rw[hxs]at hpos hll ⊢
 have HXS:=jh5 hxs
 clear hxs
 refine callsIn_wide (n:=9).1 ?_
 refine callsIn_of_wp_marks Tryz.func91 rfl trivial ?_ rfl
 simp only[Tryz.ntmps91,jjw,jic,jiW,Nat.reduceAdd,Nat.reduceSub,jjm,jjn,jjx,jjp,ji4,jiq]
 gi_wp2_with fail
 refine⟨trivial,(callsIn_wide.2 hjoin).mono ?_⟩
 rintro e w1 ⟨rfl,hb1⟩
 have zs:=hb1.size
 gi_wp2_with fail
 refine⟨trivial,(callsIn_wide.2 (yj s _)).mono ?_⟩
 rintro e w3 ⟨rfl,rfl⟩
 gi_wp2_with fail
 have k5:=jjV w1 9 (.string ⟨j.toArray⟩)
 have kb:=Bld.new (w1.alloc (.cells #[.string ⟨j.toArray⟩] 9)) (w1.heap.size+8)
 rw[jiO]at kb
 have k7:=Vr w1 (.cells #[.string ⟨j.toArray⟩] 9) (.cells #[.pointer none,.slice none 0 0] 137) 9 (.string s)
 have HH:=qQ s (w1.heap.size+2) _ k7 (by omega)
 rw[HXS.out]at HH
 have hz:(((w1.alloc (.cells #[.string ⟨j.toArray⟩] 9)).alloc (.cells #[.pointer none,.slice none 0 0] 137)).alloc (.cells #[.string s] 9)).heap.size=w1.heap.size+3:=by simp
 have ab:∀k,k<=5->Js (w1.heap.size+3) k (jhv w w1.heap.size (w1.heap.size+8) j):=fun k hk pre W W' h ht =>
  ⟨ht.box h.1 (.inl (by omega)),h.2.1.turned ht (by omega) (by omega),h.2.2.trans (ht.below (by omega) h.2.2.size)⟩
 have init:jhv w w1.heap.size (w1.heap.size+8) j [] (((w1.alloc (.cells #[.string ⟨j.toArray⟩] 9)).alloc (.cells #[.pointer none,.slice none 0 0] 137)).alloc (.cells #[.string s] 9)) :=
  ⟨(k5.alloc _).alloc _,kb.alloc _,((hb1.alloc (by omega) _).alloc (by simp;omega) _).alloc (by simp;omega) _⟩
 refine vy (gf:=68) (lb:=#[.pointer (some ⟨w1.heap.size+2,0,none⟩)]) rfl (enters_of Tryz.func68 (by kernel_rfl) rfl) HH (fun _=>rfl)
  (jhv w w1.heap.size (w1.heap.size+8) j) (fun _ _ _=>False) (by rw[hz];exact ab _ (by omega)) (fun _ _ _ _ hs _=>hs) init
  (fun a pre x a' W=>∃Bx,w1.heap.size+3+5<=Bx/\a'={tmps:=(a.tmps.setIfInBounds 12 (.agg (zO x))).setIfInBounds 7 (.pointer (some ⟨Bx,0,none⟩)),defers:=[]}/\jd W Bx 76 (zO x) /\
   jhv w w1.heap.size (w1.heap.size+8) j pre W)
  ?hM ?assign ?body ?done ?stop
 case hM =>
  rw[hz]
  rintro a pre x a' _ W W' ⟨Bx,h1,h2,h3,h4⟩ ht
  exact⟨Bx,h1,h2,(ht.same Bx h3.lt (.inr (by omega))).trans h3,ab 2 (by omega) pre W W' h4 ht⟩
 case assign =>
  rw[hz]
  intro l pre x post W hx hsz hi
  clear hx
  dsimp only[zO]
  gi_wp2
  exact⟨(yh.refl _ _ W).alloc hsz _,W.heap.size,by omega,rfl,jd.new _ _ _,hi.1.alloc _,hi.2.1.alloc _,hi.2.2.alloc hi.2.2.size _⟩
 case body =>
  rw[hz]
  rintro l pre x post a' W hx hsz ⟨Bx,hB,rfl,hc,h1,h2,h3⟩
  have hlen:(xn j (pre++[x])).length<=1000000*(2*1000000):=by
   refine Xp j 1000000 1000000 _ (fun y hy=>hpos y ?_) ?_ hj
   ·rw[hx]
    rcases List.mem_append.1 hy with h|h
    ·exact jjt _ h
    rw[List.mem_singleton.1 h];simp
   have:=congrArg List.length hx
   simp at this ⊢
   omega
  rw[JM]at hlen
  simp only[jh7,<- jij]at hlen
  have HS:=jh5 (JM j pre x)
  clear hx
  simp only[jiw,jiU,jiV,zO]at hc ⊢
  have c5:=h1.cell
  have hne:Bx≠w1.heap.size+1:=by omega
  obtain⟨en,hen⟩:∃en,x.ended=en:=⟨_,rfl⟩
  rw[hen]at hlen hc ⊢
  gi_wp2_with fail
  refine⟨trivial,((callsIn_wide.2 (ZF (w1.heap.size+1) (w1.heap.size+8) _ ⟨j.toArray⟩ W h2 (by omega) (by omega) ?_)).inRound l).mono ?_⟩
  ·have:(⟨j.toArray⟩:ByteArray).size=j.length:=by simp[ByteArray.size]
   omega
  rintro e W1 ⟨rfl,b1,o1⟩
  have m1:jd W1 Bx 76 _:=o1.other hc hne (by decide)
  have p2:W1.cell? ⟨Bx,2,none⟩=some (.string ⟨x.text.toArray⟩):=m1.cell 2
  have z1:=o1.size
  gi_wp2_with fail
  refine⟨trivial,((callsIn_wide.2 (ZF (w1.heap.size+1) (w1.heap.size+8) _ ⟨x.text.toArray⟩ W1 b1 (by omega) (by omega) ?_)).inRound l).mono ?_⟩
  ·have e1:(⟨x.text.toArray⟩:ByteArray).size=x.text.length:=by simp[ByteArray.size]
   simp only[jh7,e1]
   omega
  rintro e W2 ⟨rfl,b2,o2⟩
  have m2:jd W2 Bx 76 _:=o2.other m1 hne (by decide)
  have z2:=o2.size
  have q0:W2.cell? ⟨Bx,0,none⟩=some (.int .i64 x.no):=m2.cell 0
  have q1:W2.cell? ⟨Bx,1,none⟩=some (.int .i64 x.at_):=m2.cell 1
  have q2:W2.cell? ⟨Bx,2,none⟩=some (.string ⟨x.text.toArray⟩):=m2.cell 2
  have q3:W2.cell? ⟨Bx,3,none⟩=some (.bool en):=m2.cell 3
  gi_wp2_with fail
  refine⟨trivial,((callsIn_wide.2 (Ui _ _ _ _ _)).inRound l).mono ?_⟩
  rintro e W3 ⟨rfl,rfl⟩
  gi_wp2_with fail
  refine⟨trivial,((callsIn_wide.2 (ZF (w1.heap.size+1) (w1.heap.size+8) _ (Vj en) _ (b2.alloc _) (by omega) (by simp;omega) ?_)).inRound l).mono ?_⟩
  ·have e1:(⟨x.text.toArray⟩:ByteArray).size=x.text.length:=by simp[ByteArray.size]
   simp only[jh7]
   omega
  rintro e W4 ⟨rfl,b3,o3⟩
  gi_wp2_with fail
  have oo:=((o1.trans o2).alloc (.cells #[.int .i64 x.no,.int .i64 x.at_,.string ⟨x.text.toArray⟩,.bool en] 76)).trans o3
  refine⟨oo.stay (by omega) (by omega) (by omega),oo.box h1 (by omega) (by omega),?_,h3.trans (oo.below (by omega) (by omega) (by have:=h3.size;omega))⟩
  rw[HS.out,hen]
  exact b3
 case done =>
  rw[hz]
  rintro W ⟨h1,h2,h3⟩ hmark
  have zW:w1.heap.size+3<W.heap.size:=(Array.getElem?_eq_some_iff.1 hmark).1
  gi_wp2_with fail
  refine⟨trivial,(callsIn_wide.2 (Tryz.Builder_String_any_k w.heap.size (w1.heap.size+1) _ W (h2.library (by omega) (by omega)) (by omega))).mono ?_⟩
  rintro e W1 ⟨rfl,_,g2,g3⟩
  have hK:W1.heap[w1.heap.size+3]?=some (.deferred (some [])):=g3 _ _ hmark (by simp) (fun c fz e=>by cases e)
  gi_wp2
  refine⟨by simp,.inl ⟨_,_,rfl,run_takeDeferred hK,?_⟩⟩
  refine⟨_,results_tmp rfl _ _ _,rfl,(h3.trans g2).trans (belowK_b (w:=w) (jh6 _) W1 _ _ _ (by omega) hK rfl rfl)⟩
 case stop=>exact fun _ _ _ _ h=>h.elim
theorem jaN(s a:ByteArray)(hs:s.size<=1000000)(ha:a.size<=100000)(bk:Nat)(w:World)(h0:w.cell? ⟨bk,0,none⟩=some (.string a))(hbk:bk<w.heap.size):
  Calls Tryz.prog 91 #[.string s,.slice (some ⟨bk,0,none⟩) 1 1] w fun e w'=>e=.returned (.string ⟨(xn a.data.toList (jf s.data.toList)).toArray⟩)/\Below w.heap.size w w':=by
 refine jaO s hs _ _ (by rw[<- jij];omega) w ?_
 have hj:Lib.join ([a].map (·.data.toList)) (⟨#[]⟩:ByteArray).data.toList=a.data.toList:=by simp[Lib.join]
 have:=Tryz.strings_Join bk 0 1 [a] ⟨#[]⟩ w (fun j x hx=>by
  match j,hx with
  | 0,hx=>cases hx;exact h0) hbk (by simp) (by simp) (by rw[hj,<- Lib.size_eq];omega)
 rw[hj]at this
 exact this
theorem Xz{fs:List Fld}(h:xQ fs):(zo fs).length<=4000*fs.length:=by
 replace h:=h.each
 induction fs with
 | nil=>exact jh6 _
 | cons f r ih =>
 have e:zo (f::r)=jr (jO f.1 f.2)++zo r:=by unfold zo;rw[jio]
 obtain⟨a,b⟩:=h f jig
 have:=jbz (k:=f.1) (v:=f.2) (by unfold jR;rw[if_pos a,if_pos b])
 rw[e,jh7,jic]
 have:=ih (fun x hx=>h x (jif _ hx))
 omega
theorem xQ.foldN{fs:List Fld}(h:xQ fs):foldN fs=0:=Xy fs fun f hf=>by
 obtain⟨a,b⟩:=h.each f hf
 unfold jR;rw[if_pos a,if_pos b]
theorem xQ.foldT{fs:List Fld}(h:xQ fs):foldT fs=zo fs:=by unfold Proofs.YtmdhainabeljpaaGreatDoor.foldT;rw[if_pos h.foldN]
theorem Jc{k:List UInt8}(h:ju k=true):k.length<=32:=(vz h).2.1
theorem xQ.small{fs:List Fld}(h:xQ fs):∀f∈fs,f.1.length<=100000/\f.2.length<=100000:=fun f hf=>by
 obtain⟨a,b⟩:=h.each f hf
 have:=Jc a
 omega
theorem jg0(ls:List Ln):(ls.flatMap (fun x=>[32,32]++x.bytes)).length=2*ls.length+(ls.flatMap Ln.bytes).length:=by
 induction ls with
 | nil=>rfl
 | cons x r ih =>
 rw[jio,jio,jh7,jh7,ih,jh7,jic]
 simp only[jic,jiW]
 omega
theorem JS{ed:Ed}(h:xQ ed.fields):edT ed=(jV ed.kind ed.id++[10])++xn [32,32] (jf (zo ed.fields)):=by
 rw[jfa h];unfold xn;simp
theorem jcQ{ed:Ed}(h:xQ ed.fields)(hi:I64 ed.id):(edT ed).length<=600000:=by
 have h1:=Xz h
 have h2:=h.len
 have h3:=zD (zo ed.fields)
 have h4:=Lib.itoa_length_le ed.id hi.1 hi.2
 have h5:(jV ed.kind ed.id).length<=40:=by
  unfold jV
  split
  ·rename_i hk
   have:(zZ ed.kind).length<=7:=by rcases hk with e | e | e<;>rw[e]<;>decide
   rw[jic,jh7,jic];omega
  simp
 rw[jfa h,jh7,jic,jg0,jB]
 omega
def jhQ(w w':World)(eds:List Ed)(e:Ending):Prop :=
 Below w.heap.size w w'/\(((yx eds).2=0/\e=.returned (.tuple #[.string (B (jC eds)),.nilIface]))\/((yx eds).2≠0/\∃u,e=.returned (.tuple #[.string ⟨#[]⟩,u])/\yR w.heap.size w' u (yx eds).1 (yx eds).2))
theorem ja3(eds:List Ed)(v:Value)(w:World)(h:EdV w v eds)(hl:eds.length<=1000000)(hf:Wp eds)(hi:∀ed∈eds,I64 ed.id)(ht:Tabs w):
  Calls Tryz.prog 43 #[v] w fun e w'=>jhQ w w' eds e:=by
 have CK:=jh5 (Um eds v w h hl hf ht.err)
 obtain⟨A,cap,rfl,hle,hc⟩:=h
 have PC:=jh5 hc
 have HT:=jh5 ht
 have HI:=jh5 hi
 clear hc hf ht hi
 go_enter Tryz.func43,Tryz.ntmps43
 go_wp2_with fail
 refine CK.out.mono ?_
 rintro e w1 ⟨u,rfl,b1,hz⟩
 by_cases h0:(yx eds).2=0
 ·obtain⟨⟨g1,g40⟩,GD⟩:=xy h0
  have GDH:=jh5 GD
  obtain rfl:u=.nilIface:=by
   obtain⟨_,⟨rfl,_⟩|⟨_,_,_,hx⟩⟩:=hz
   ·rw[h0];rfl
   exact absurd h0 hx
  have B1:=jh5 b1
  have Z0:=jh5 h0
  have hz1:=b1.size
  have NB:=Bld.new w1 (w1.heap.size+1)
  have NBB:Below w.heap.size w (w1.alloc (.cells #[.pointer none,.slice none 0 0] 137)):=b1.alloc b1.size _
  clear hz GD b1 CK h0
  go_wp2_with fail
  go_loopw [17] (fun i wr=>∃k:Nat,k<=eds.length/\i=.int .i64 k/\Bld w1.heap.size (w1.heap.size+1) (jC (eds.take k)) wr/\(jC (eds.take k)).length<=600000*k/\Below w.heap.size w wr/\w1.heap.size<wr.heap.size) (fun i _=>eds.length-(intOf i).toNat)
  case atStart=>exact⟨0,jii _,rfl,NB,jh6 _,NBB,by simp⟩
  case round =>
  obtain⟨k,hk,rfl,hbl,hbt,hb,hzr⟩:=hrel
  by_cases hlt:k<eds.length
  ·obtain⟨ed,hed⟩:∃ed,eds[k]?=some ed:=⟨_,jia hlt⟩
   obtain⟨b,off,fv,rfl,hbb,c0,c1,c2,hfl⟩:=PC.out k ed hed
   obtain⟨fa,fc,rfl,_,_⟩:=_root_.id hfl.1
   replace c0:=(hb.cell (p:=⟨b,off+k*3,none⟩) hbb).trans c0
   replace c1:=(hb.cell (p:=⟨b,off+k*3+1,none⟩) hbb).trans c1
   replace c2:=(hb.cell (p:=⟨b,off+k*3+1+1,none⟩) hbb).trans c2
   have hge:=GDH.out ed (jim hed)
   have hie:=HI.out ed (jim hed)
   have GF:=Jd hge
   have TK:Hid (jC (eds.take (k+1))=jC (eds.take k)++((jV ed.kind ed.id++[10])++xn [32,32] (jf (zo ed.fields)))):=by
    show _=_
    rw[take_snoc hed,Vt,JS GF]
   have ELE:=jcQ GF hie
   rw[JS GF]at ELE
   obtain⟨wa,hwa⟩:∃wa,wa=wr.alloc (.cells #[.int .i64 ed.kind,.int .i64 ed.id,.slice fa ed.fields.length fc] 40):=⟨_,rfl⟩
   have hsr:=hb.size
   have hba:Below wr.heap.size wr wa:=by rw[hwa];exact(jh8 _ wr).alloc (jh6 _) _
   have hwz:wa.heap.size=wr.heap.size+1:=by rw[hwa];simp
   have cx:jd wa wr.heap.size 40 #[.int .i64 ed.kind,.int .i64 ed.id,.slice fa ed.fields.length fc]:=by rw[hwa];exact jd.new _ _ _
   have d0:=cx.cell 0
   have d1:=cx.cell 1
   have d2:=cx.cell 2
   have hB:=hb.trans (hba.mono hsr)
   have LNE:=jh5 (jci ed (.slice fa ed.fields.length fc) hie wa (HT.out.below hB (jh6 _)))
   have blA:=hbl.kept hba (jh6 _)
   have BLA:=jh5 blA
   have HBA:=jh5 hB
   have CX:=jh5 cx
   have FLD:Hid (∀W,Below w.heap.size w W->Calls Tryz.prog 90 #[.slice fa ed.fields.length fc] W fun e w'=>e=.returned (.tuple #[.string (B (zo ed.fields)),.nilIface])/\Below W.heap.size W w'):=fun W hW=>by
    have:=jeg ed.fields (.slice fa ed.fields.length fc) W (hfl.1.below hW (jh6 _)) (by have:=GF.len;omega) GF.small
    rw[GF.foldT,GF.foldN]at this
    exact this
   have fle:=Xz GF
   have fl40:=GF.len
   have FLE:(B (zo ed.fields)).size<=160000:=by rw[je];omega
   clear hed hfl hbl blA hba hB cx hge hie GF hbb fle fl40
   have WRL:Hid (∀(l:List UInt8) (s:ByteArray) (W:World),Bld w1.heap.size (w1.heap.size+1) l W->wr.heap.size<W.heap.size->l.length+s.size<=140737488355328 ->
     Calls Tryz.prog 88 #[.pointer (some ⟨w1.heap.size,0,none⟩),.string s] W fun e W'=>e=.returned (.tuple #[.int .i64 s.size,.nilIface])/\Bld w1.heap.size (w1.heap.size+1) (l++s.data.toList) W'/\qE w1.heap.size (w1.heap.size+1) W W'):=fun l s W h1 h2 h3=>ZF _ _ l s W h1 (by omega) (by omega) h3
   have LE1:(B (jV ed.kind ed.id)).size+1+(xn [32,32] (jf (zo ed.fields))).length<=600000:=by
    rw[je];rw[jh7,jh7]at ELE;exact ELE
   have DL:=jh5 (ji (jV ed.kind ed.id))
   have DF:=jh5 (ji (zo ed.fields))
   have IND:Hid (∀W,Calls Tryz.prog 91 #[.string (B (zo ed.fields)),.slice (some ⟨W.heap.size,0,none⟩) 1 1] (W.alloc (.cells #[.string ⟨#[32,32]⟩] 9)) fun e W'=>e=.returned (.string (B (xn [32,32] (jf (zo ed.fields)))))/\Below W.heap.size W W'):=fun W=>by
    refine(jaN _ ⟨#[32,32]⟩ (by omega) (by decide) W.heap.size _ (by simp) (by simp)).mono ?_
    rintro e W' ⟨rfl,b⟩
    refine⟨?_,((jh8 _ W).alloc (jh6 _) _).trans (b.mono (by simp))⟩
    rw[show(⟨#[32,32]⟩:ByteArray).data.toList=[32,32] from rfl,ji];rfl
   have DI:=jh5 (ji (xn [32,32] (jf (zo ed.fields))))
   have LEI:(B (xn [32,32] (jf (zo ed.fields)))).size=(xn [32,32] (jf (zo ed.fields))).length:=je _
   have LEL:(B (jV ed.kind ed.id)).size=(jV ed.kind ed.id).length:=je _
   clear DF
   generalize hIND:B (xn [32,32] (jf (zo ed.fields)))=ind at *
   generalize hIL:xn [32,32] (jf (zo ed.fields))=indl at *
   generalize hLA:B (jV ed.kind ed.id)=la at *
   generalize hLL:jV ed.kind ed.id=lal at *
   generalize hFG:B (zo ed.fields)=fg at *
   generalize hBT:jC (eds.take k)=bt at *
   clear hIND hIL hLA hLL hFG d0 d1 d2
   have D2:Hid (∀W,jd W wr.heap.size 40 #[.int .i64 ed.kind,.int .i64 ed.id,.slice fa ed.fields.length fc]->W.cell? ⟨wr.heap.size,2,none⟩=some (.slice fa ed.fields.length fc)):=fun W h=>by rw[h.cell];rfl
   subst hwa
   go_wp2_with fail
   refine LNE.out.mono ?_
   rintro e w2 ⟨rfl,b2⟩
   have hs2:=b2.size
   rw[hwz]at hs2
   have bl2:=BLA.out.kept b2 (jh6 _)
   have HB2:=jh5 (HBA.out.trans (b2.mono HBA.out.size))
   have cx2:=jb CX.out b2 (by rw[hwz];omega)
   clear b2 LNE BLA
   go_wp2_with fail
   refine(WRL.out _ _ w2 bl2 (by omega) (by omega)).mono ?_
   rintro e w3 ⟨rfl,bl3,o3⟩
   have hs3:=o3.size
   have cx3:jd w3 wr.heap.size 40 _:=o3.other cx2 (by omega) (by decide)
   have HB3:=jh5 (HB2.out.trans (o3.below (by omega) (by omega) (by omega)))
   rw[DL.out]at bl3
   clear o3 cx2 bl2
   go_wp2_with fail
   refine(WRL.out _ ⟨#[10]⟩ w3 bl3 (by omega) (by rw[jh7];show _+1<=_;omega)).mono ?_
   rintro e w4 ⟨rfl,bl4,o4⟩
   have hs4:=o4.size
   have cx4:jd w4 wr.heap.size 40 _:=o4.other cx3 (by omega) (by decide)
   have HB4:=jh5 (HB3.out.trans (o4.below (by omega) (by omega) (by omega)))
   have BL4:=jh5 bl4
   have d2:=D2.out w4 cx4
   have FL4:=jh5 (FLD.out w4 HB4.out)
   clear o4 cx3 bl3 bl4 FLD cx4
   go_wp2_with fail
   refine FL4.out.mono ?_
   rintro e w5 ⟨rfl,b5⟩
   have hs5:=b5.size
   have bl5:=BL4.out.kept b5 (jh6 _)
   have HB5:=jh5 (HB4.out.trans (b5.mono HB4.out.size))
   have BL5:=jh5 bl5
   have IN5:=jh5 (IND.out w5)
   clear b5 bl5 FL4 BL4 IND
   go_wp2_with fail
   refine IN5.out.mono ?_
   rintro e w6 ⟨rfl,b6⟩
   have hs6:=b6.size
   have bl6:=BL5.out.kept b6 (jh6 _)
   have HB6:=jh5 (HB5.out.trans (b6.mono HB5.out.size))
   clear b6 IN5 BL5
   go_wp2_with fail
   refine(WRL.out _ _ w6 bl6 (by omega) (by rw[jh7,jh7];show _+1+_<=_;omega)).mono ?_
   rintro e w7 ⟨rfl,bl7,o7⟩
   have hs7:=o7.size
   have HB7:=jh5 (HB6.out.trans (o7.below (by omega) (by omega) (by omega)))
   rw[DI.out]at bl7
   have BL7:=jh5 bl7
   clear o7 bl6 bl7
   go_wp2_with fail
   go_roundw
   case rel =>
    have eT:jC (eds.take (k+1))=bt++lal++(⟨#[10]⟩:ByteArray).data.toList++indl:=by
     rw[TK.out,show(⟨#[10]⟩:ByteArray).data.toList=[10] from rfl];simp
    refine⟨k+1,hlt,by go_num,by rw[eT];exact BL7.out,?_,HB7.out,by omega⟩
    rw[eT,jh7,jh7,jh7]
    show _+_+1+_<=_
    omega
   case measure=>simp[intOf];omega
  obtain rfl:k=eds.length:=by omega
  rw[jiF]at hbl
  have Z:=jh5 Z0.out
  clear PC HT HI GDH hbt
  have hbs:=hb.size
  go_wp2_with fail
  refine(Tryz.Builder_String_any_k w1.heap.size w1.heap.size _ wr (hbl.library (jh6 _) (by omega)) (by omega)).mono ?_
  rintro e w5 ⟨rfl,_,b5,_⟩
  have B5:=jh5 (hb.trans (b5.mono hz1))
  go_wp2_with fail
  go_ret2
  exact⟨B5.out,.inl ⟨Z.out,rfl⟩⟩
 have NZ:=jh5 h0
 have Z1:=jh5 hz
 have B1:=jh5 b1
 obtain⟨_,⟨rfl,hx⟩|⟨kk,⟨q,_,rfl,_⟩,_,_⟩⟩:=hz
 ·obtain⟨n,hn⟩:∃n,n=(yx eds).2:=⟨_,rfl⟩
  have hpos:0<(yx eds).2:=jjr h0
  have ZR:Hid (jhQ w w1 eds (.returned (.tuple #[.string ⟨#[]⟩,Zy (yx eds).2]))):=⟨B1.out,.inr ⟨h0,_,rfl,Z1.out⟩⟩
  rw[zk _ hpos]at ZR ⊢
  clear CK Z1 hx b1 PC
  generalize ((yx eds).2:Int)=zz at *
  go_wp2_with fail
  go_ret2
  exact ZR.out
 have ZR:Hid (jhQ w w1 eds (.returned (.tuple #[.string ⟨#[]⟩,.iface 54 (.pointer (some ⟨q,0,none⟩))]))):=⟨B1.out,.inr ⟨h0,_,rfl,Z1.out⟩⟩
 clear CK Z1 b1 PC
 go_wp2_with fail
 go_ret2
 exact ZR.out
end Go.Proofs.YtmdhainabeljpaaGreatDoor
