import PyProof.Rows.All
import Wide.All
import OpenK.AllK
import Wide.FinOn
import Lean
import PyProof.EqAt
import PyProof.EqKinds
import PyProof.TupleCall
import PyProof.Rows.Range3
import PyProof.Rows.FStr
import PyProof.Rows.ListMulArg
import KE.KSortTup
import KE.LcSums
import PyProof.SeqI3
import KE.KMinBuiltin
import KE.IntBitsLaws
import PyProof.ListRange
import PyProof.TupleOfSeq
import PySem.Challenge.RW_holdplaces_k62_whole_twins_bar
set_option Elab.async false
set_option bootstrap.genMatcherCode false
set_option maxHeartbeats 8000000
set_option maxRecDepth 100000
set_option linter.all false
noncomputable section
open PyProof.Rows renaming callWith_type1→eT,pendingOf→a7,wpS_bind→ar,wpS_pure→au,IntsAre→bp,SortSt→aI,seqObj→aJ,mirror→aW,arrOf→ah,Keyed→ao
open PySem.Builtin.List renaming listExtendWith→eU
open PySem.Builtin.SmallTypes renaming nextOf→cH
open List renaming drop_eq_getElem_cons→dg,take_append_drop→bE,mem_append_right→bK,mem_cons_of_mem→aM,mem_cons_self→aO,length_append→cb,size_toArray→aS,append_assoc→bq,flatMap_cons→bX,lookup_cons→bC,not_mem_nil→bS,length_cons→cf,all_eq_true→cy,length_take→cz,getElem_mem→cK,filter_cons→dj,length_map→aR,mem_filter→bP,append_nil→bZ,replicate→b6,mem_cons→aF,map_cons→aQ,mem_map→aP,map_map→cg,range→bu
open Option renaming bind_eq_some_iff→aK,map_eq_some_iff→bB,bind_eq_bind→aL
open PySem.Around renaming under_plainId→cn
open Array renaming length_toList→a9,toList_append→bg
open PySem renaming mem_of_lookup→cq,wpAny_truthy_bool→bH,wpAny_newObj_type→cJ,wpAny_call_entry→bY,codeAny_builtin→bV,wpAny_holding→bF,Comprehension→b8,bootBuiltins→bN,mainGlobals→aE,sizeLine_eq→bt,wpAny_field→b9,wpAny_bind→ag,wpAny_pure→aw,wpAny_mono→bQ,compareOp→bh,cellsFrom→bw,sizeLine→aV,NameKind→aY,SetTable→aZ,starEach→bf,Program→aC,Shared→af,Around→aA,Value→ae,wpAny→ak,model→aq,World→av,Scope→a8
open Bool renaming false_eq_true→a_,false_ne_true→cw,not_eq_true'→bR,and_eq_true→aU,or_eq_true→cA
open Nat renaming lt_of_lt_of_le→bA,lt_succ_of_lt→bO,le_of_not_lt→dk,lt_irrefl→bM,ne_of_lt→aX,le_trans→bD,le_refl→aD,zero_le→br
open PySem.W renaming mg_none_of→dh,kia_one→bT,kitOne→cB,keepIn→cL,Frag→aB,nsIn→aG,fnOf→cC
open Option.some renaming injEq→cx,inj→bU
open ForInStep renaming yield→cQ
open PySem.Heap renaming size_push→bL,lt_size→aH
open PySem.NameKind renaming free→b7
open PySem.Str renaming ofString→aN
open PySem.Obj renaming mapSeq→ba
open False renaming elim→bI
open PySem.Value renaming type→bJ,none→bW,ref→bx
open And renaming intro→az
set_option Elab.async false
namespace L2
open PySem PySem.Spec PyProof.Rows
abbrev Key:=Sum Int Str
noncomputable def oO:Key->ae->Bool
 | .inl k,v=>ae.isInt k v
 | .inr x,v=>ae.isStrOf x v
noncomputable def vJ(w:av):Key->Int
 | .inl k=>hashInt k
 | .inr x=>hashStr w x
theorem zI:∀{k:Key}{v:ae},oO k v=true->(∃i t,k=Sum.inl i/\v=ae.int i t)\/(∃x t,k=Sum.inr x/\v=ae.str x t)
 | .inl i,v,h=>by
  obtain⟨t,e⟩:=ae.isInt_shape (k:=i) (v:=v) h;exact .inl ⟨i,t,rfl,e⟩
 | .inr x,v,h=>by
  obtain⟨t,e⟩:=ae.isStrOf_shape (x:=x) (v:=v) h;exact .inr ⟨x,t,rfl,e⟩
theorem Bx(a b:Int):decide ((Sum.inl a:Key)=Sum.inl b)=(a==b):=by
 by_cases e:a=b
 ·subst e;simp
 ·have h:¬ (Sum.inl a:Key)=Sum.inl b:=λq=>e (Sum.inl.inj q)
  rw[decide_eq_false h];exact(beq_eq_false_iff_ne.mpr e).symm
theorem yH(a b:Str):decide ((Sum.inr a:Key)=Sum.inr b)=decide (a=b):=by
 by_cases e:a=b
 ·subst e;simp
 ·have h:¬ (Sum.inr a:Key)=Sum.inr b:=λq=>e (Sum.inr.inj q)
  rw[decide_eq_false h,decide_eq_false e]
theorem Ax(a:Int)(b:Str):decide ((Sum.inl a:Key)=Sum.inr b)=false:=decide_eq_false (λq=>nomatch q)
theorem uE(a:Str)(b:Int):decide ((Sum.inr a:Key)=Sum.inl b)=false:=decide_eq_false (λq=>nomatch q)
noncomputable def jI(prog:aC)(w:av):PySem.KeyKind prog w Key where
 is:=oO
 hash:=vJ w
 inj:=λv a b ha hb=>by
  rcases zI ha with ⟨i,t,rfl,rfl⟩|⟨x,t,rfl,rfl⟩
  ·rcases zI hb with ⟨j,u,rfl,e⟩|⟨y,u,rfl,e⟩
   ·injection e with e1 _;rw[e1]
   ·exact nomatch e
  ·rcases zI hb with ⟨j,u,rfl,e⟩|⟨y,u,rfl,e⟩
   ·exact nomatch e
   ·injection e with e1 _;rw[e1]
 byValue:=λk v h=>by
  rcases zI h with ⟨i,t,rfl,rfl⟩|⟨x,t,rfl,rfl⟩<;>rfl
 pyHash:=λhv h=>by
  rcases zI hv with ⟨i,t,rfl,rfl⟩|⟨x,t,rfl,rfl⟩
  ·exact wpAny_pyHash_int h
  ·exact wpAny_pyHash_str h
 eqBool:=λhu hv h=>by
  rcases zI hu with ⟨i,t,rfl,rfl⟩|⟨x,t,rfl,rfl⟩
  ·rcases zI hv with ⟨j,u,rfl,rfl⟩|⟨y,u,rfl,rfl⟩
   ·rw[Bx]at h;exact wpAny_eqBool_int h
   ·rw[Ax]at h;exact SeqAt.EqAt.int_str i t y u _ _ _ _ h
  ·rcases zI hv with ⟨j,u,rfl,rfl⟩|⟨y,u,rfl,rfl⟩
   ·rw[uE]at h;exact SeqAt.EqAt.str_int x t j u _ _ _ _ h
   ·rw[yH]at h;exact wpAny_eqBool_str h
 «strs»:=λk x t v h=>by
  rcases zI h with ⟨i,u,rfl,e⟩|⟨y,u,rfl,e⟩
  ·exact nomatch e
  ·injection e with e1 _
   subst e1;cases v<;>rfl
inductive V where
 |non|bl (b:Bool)|int (i:Int)|str (x:Str)|byt (b:Array UInt8)|flt (b:UInt64)|ref (a:Addr)|ty (n:String)
 deriving DecidableEq
noncomputable def RelV:V->ae->Prop
 | .non,u=>u=bW
 | .bl b,u=>u=ae.bool b
 | .int i,u=>∃t,u=ae.int i t
 | .str x,u=>∃t,u=ae.str x t
 | .byt b,u=>∃t,u=ae.bytes b t
 | .flt b,u=>∃t,u=ae.float b t
 | .ref a,u=>u=bx a
 | .ty n,u=>u=bJ n
abbrev Vals:List V->List ae->Prop:=Paired RelV
theorem Vals.length{xs:List V}{us:List ae}(r:Vals xs us):xs.length=us.length:=Paired.length r
theorem Vals.get:∀{xs:List V}{us:List ae}{i:Nat}{x:V},Vals xs us->xs[i]? = some x->∃u,us[i]? = some u/\RelV x u
 |_,_,_,_,.nil,e=>by simp at e
 |_,_,0,_,.cons r _,e=>by simp at e;subst e;exact⟨_,rfl,r⟩
 |_,_,i+1,x,.cons _ t,e=>by
  obtain⟨u,h1,h2⟩:=Vals.get (i:=i) (x:=x) t (by simpa using e);exact⟨u,by simpa using h1,h2⟩
theorem Vals.set{x:V}{u:ae}(r:RelV x u):∀{xs:List V}{us:List ae} (i:Nat),Vals xs us->Vals (xs.set i x) (us.set i u)
 |_,_,_,.nil=>.nil
 |_,_,0,.cons _ t=>.cons r t
 |_,_,i+1,.cons q t=>.cons q (Vals.set r i t)
theorem Vals.append:∀{xs ys:List V}{us ws:List ae},Vals xs us->Vals ys ws->Vals (xs++ys) (us++ws)
 |_,_,_,_,.nil,s=>s
 |_,_,_,_,.cons r t,s=>.cons r (Vals.append t s)
theorem Vals.take:∀{xs:List V}{us:List ae} (n:Nat),Vals xs us->Vals (xs.take n) (us.take n)
 |_,_,0,_=>.nil
 |_,_,_+1,.nil=>.nil
 |_,_,n+1,.cons r t=>.cons r (Vals.take n t)
theorem Vals.drop:∀{xs:List V}{us:List ae} (n:Nat),Vals xs us->Vals (xs.drop n) (us.drop n)
 |_,_,0,r=>r
 |_,_,_+1,.nil=>.nil
 |_,_,n+1,.cons _ t=>Vals.drop n t
noncomputable def lH:Option V->Option ae->Prop
 |some v,some u=>RelV v u
 |none,none=>True
 |_,_=>False
noncomputable def KV{κ:Type}:List (κ×V)->List (κ×ae)->Prop:=Paired λ(p:κ×V) (q:κ×ae)=>p.1=q.1/\RelV p.2 q.2
noncomputable def kV:Key->V
 | .inl i=>.int i
 | .inr x=>.str x
inductive HO where
 |lst (xs:List V)
 |tup (xs:List V)
 |dK (kvs:List (Key×V))|dT (kvs:List (List Key×V))
 |set (S:Int->Bool) (n:Nat)
 |ins (C dx:Addr) (fs:List (Str×V))
 |own (x:Addr)
 |xd (fs:List (Str×V))
 |met (f x:Addr)
 |rng (lo hi:Int)
 |frz (o:Obj) (u:HO)
 |tbl (ps:Array ae)
 |ext (φ:Heap->Prop)
abbrev Hp:=Addr->Option HO
noncomputable def upd(H:Hp)(a:Addr)(o:HO):Hp:=λb=>if b=a then some o else H b
theorem zm{H:Hp}{a:Addr}{o:HO}:upd H a o a=some o:=by unfold upd;rw[if_pos rfl]
theorem qt{H:Hp}{a b:Addr}{o:HO}(h:b≠a):upd H a o b=H b:=by unfold upd;rw[if_neg h]
theorem gH{H:Hp}{a b:Addr}{o:HO}(h:H a=some o)(h':H b=none):a≠b:=by
 intro e;subst e;rw[h]at h';cases h'
section
variable(P:aC)(w:av)
noncomputable def zS(H:Hp)(h:Heap)(a:Addr):HO->Prop
 | .lst xs=>xs.length<=aV/\∃(its:List ae) (n:Nat),Vals xs its/\h.get? a=some {cls:=.type "list",data:=.seq its.toArray n}
 | .tup xs=>xs.length<=aV/\∃its:List ae,Vals xs its/\IsTup h a its.toArray
 | .dK kvs=>kvs.length<=aV/\(a==sysModules)=false/\∃vs,KV kvs vs/\h.DictOf (jI P w) a vs
 | .dT kvs=>kvs.length<=aV/\(a==sysModules)=false/\∃xs:List (List Key×Addr×ae),
   Paired (λ(p:List Key×V) (q:List Key×Addr×ae)=>p.1=q.1/\H q.2.1=some (.tup (p.1.map kV))/\RelV p.2 q.2.2) kvs xs /\
   ∃o es ep,h.get? a=some o/\o.ExactDict/\o.data=.dict es ep/\es.toList=xs.map (entryOfKey (tupleKind (jI P w)))/\(xs.map (·.1)).Nodup
 | .set S n=>h.SetOf (intKind P w) a S n
 | .ins C dx fs=>H dx=some (.own a)/\fs.length<=1000/\dx≠a/\h.get? a=some (PySem.W.instObj C dx) /\
   ∃mA,h.Ns1 dx mA/\(∀f,lH (fs.lookup f) (mA f))/\PySem.Within mA (fs.map (·.1))
 | .own _=>∃o,h.get? a=some o
 | .xd fs=>∃mA,h.Ns1 a mA/\∀f,lH (fs.lookup f) (mA f)
 | .rng lo hi=>∃t u v,h.get? a=some {cls:=.type "range",data:=.fields #[.int lo t,.int hi u,.int 1 v]}
 | .frz o u=>h.get? a=some o/\zS H h a u
 | .tbl ps=>h.get? a=some {cls:=.none,data:=.fields ps}
 | .met f x=>h.get? a=some (PySem.W.methodObj (.ref f) (.ref x))
 | .ext φ=>φ h/\(∃o,h.get? a=some o)/\∀h1 h2:Heap,φ h1->(∀o,h1.get? a=some o->h2.get? a=some o)->φ h2
noncomputable def HOk(H:Hp)(h:Heap):Prop:=∀a o,H a=some o->zS P w H h a o
end
section
variable{P:aC}{w:av}{H H':Hp}{h h':Heap}{a:Addr}{o:HO}
theorem zS.lt(x:zS P w H h a o):a<h.objs.size:=by
 cases o with
 |lst xs=>obtain⟨_,_,_,_,e⟩:=x;exact aH e
 |tup xs=>obtain⟨_,_,_,p⟩:=x;exact p.lt
 |dK kvs=>obtain⟨_,_,_,_,o,_,_,e,_⟩:=x;exact aH e
 |dT kvs=>obtain⟨_,_,_,_,o,_,_,e,_⟩:=x;exact aH e
 |set S n=>obtain⟨o,_,_,_,e,_⟩:=x;exact aH e
 |ins C dx fs=>obtain⟨_,_,_,e,_⟩:=x;exact aH e
 |own y=>obtain⟨_,e⟩:=x;exact aH e
 |xd fs=>obtain⟨_,⟨_,_,_,e,_⟩,_⟩:=x;exact aH e
 |rng lo hi=>obtain⟨_,_,_,e⟩:=x;exact aH e
 |frz ob u=>obtain⟨e,_⟩:=x;exact aH e
 |tbl ps=>exact aH (show h.get? a=some _ from x)
 |met f y=>exact aH (show h.get? a=some _ from x)
 |ext φ=>obtain⟨_,⟨_,e⟩,_⟩:=x;exact aH e
theorem Paired.mapP{α β:Type}{F G:α->β->Prop}:∀{l₁:List α}{l₂:List β},Paired F l₁ l₂->(∀a b,F a b->G a b)->Paired G l₁ l₂
 |_,_,.nil,_=>.nil
 |_,_,.cons r t,f=>.cons (f _ _ r) (Paired.mapP t f)
theorem zS.stay(x:zS P w H h a o)(k:∀b u,(b=a\/H b=some (.own a))->h.get? b=some u->h'.get? b=some u)
  (ho:∀b,H b=some (.own a)->H' b=some (.own a)) (ht:∀b xs,H b=some (.tup xs)->H' b=some (.tup xs)):zS P w H' h' a o:=by
 induction o with
 |lst xs=>obtain⟨z,its,n,r,e⟩:=x;exact⟨z,its,n,r,k _ _ (.inl rfl) e⟩
 |tup xs=>obtain⟨z,its,r,ob,e,c⟩:=x;exact⟨z,its,r,ob,k _ _ (.inl rfl) e,c⟩
 |dK kvs=>obtain⟨z,y,vs,r,ob,es,ep,e,c⟩:=x;exact⟨z,y,vs,r,ob,es,ep,k _ _ (.inl rfl) e,c⟩
 |dT kvs=>
  obtain⟨z,y,xs,r,ob,es,ep,e,c⟩:=x;exact⟨z,y,xs,Paired.mapP r λp q z=>⟨z.1,ht _ _ z.2.1,z.2.2⟩,ob,es,ep,k _ _ (.inl rfl) e,c⟩
 |set S n=>obtain⟨ob,es,ep,t,e,c⟩:=x;exact⟨ob,es,ep,t,k _ _ (.inl rfl) e,c⟩
 |ins C dx fs=>
  obtain⟨d,z,ne,e,mA,⟨od,es,ep,e2,c⟩,r⟩:=x;exact⟨ho _ d,z,ne,k _ _ (.inl rfl) e,mA,⟨od,es,ep,k _ _ (.inr d) e2,c⟩,r⟩
 |own y=>obtain⟨ob,e⟩:=x;exact⟨ob,k _ _ (.inl rfl) e⟩
 |xd fs=>obtain⟨mA,⟨od,es,ep,e,c⟩,r⟩:=x;exact⟨mA,⟨od,es,ep,k _ _ (.inl rfl) e,c⟩,r⟩
 |rng lo hi=>obtain⟨t,u,v,e⟩:=x;exact⟨t,u,v,k _ _ (.inl rfl) e⟩
 |frz ob u ih=>obtain⟨e,q⟩:=x;exact⟨k _ _ (.inl rfl) e,ih q⟩
 |tbl ps=>
  have e:h.get? a=some {cls:=.none,data:=.fields ps}:=x;show h'.get? a=some {cls:=.none,data:=.fields ps};exact k a _ (.inl rfl) e
 |met f y=>
  have e:h.get? a=some (PySem.W.methodObj (.ref f) (.ref y)):=x;show h'.get? a=some (PySem.W.methodObj (.ref f) (.ref y));exact k a _ (.inl rfl) e
 |ext φ=>obtain⟨p,⟨o,e⟩,st⟩:=x;exact⟨st _ _ p λo q=>k _ _ (.inl rfl) q,⟨o,k _ _ (.inl rfl) e⟩,st⟩
theorem HOk.lt(x:HOk P w H h)(e:H a=some o):a<h.objs.size:=(x a o e).lt
theorem HOk.fresh(x:HOk P w H h)(e:h.objs.size<=a):H a=none:=by
 cases q:H a with
 |none=>rfl
 |some u=>exact absurd (bA (x.lt q) e) (bM _)
theorem HOk.kept(x:HOk P w H h)(k:∀b u,h.get? b=some u->h'.get? b=some u):HOk P w H h':=λa o e=>
 (x a o e).stay (λb u _ q=>k b u q) (λ_ q=>q) λ_ _ q=>q
theorem HOk.laid(x:HOk P w H h)(k:∀b u,h.get? b=some u->h'.get? b=some u)(hp:h.objs.size<=a)(new:zS P w (upd H a o) h' a o):HOk P w (upd H a o) h':=λb u e=>by
 have hn:=x.fresh hp;by_cases hb:b=a
 ·subst hb;rw[zm]at e;cases e;exact new
 ·rw[qt hb]at e;exact(x b u e).stay (λc v _ q=>k c v q) (λc q=>by rw[qt (gH q hn)];exact q) λc xs q=>by rw[qt (gH q hn)];exact q
end
noncomputable def Rd(H:Hp)(a:Addr)(u:HO):Prop:=H a=some u\/∃o,H a=some (.frz o u)
theorem Rd.of{H:Hp}{a:Addr}{u:HO}(h:H a=some u):Rd H a u:=.inl h
theorem Rd.ok{P:aC}{w:av}{H:Hp}{h:Heap}{a:Addr}{u:HO}(r:Rd H a u)(x:HOk P w H h):zS P w H h a u:=by
 rcases r with r|⟨o,r⟩
 ·exact x a u r
 ·obtain⟨_,q⟩:=x a _ r;exact q
noncomputable def Mut:Option HO->Prop
 |some (.lst _)=>True
 |some (.dK _)=>True
 |some (.dT _)=>True
 |some (.set _ _)=>True
 |some (.ins _ _ _)=>True
 |some (.ext _)=>True
 |_=>False
section
variable{P:aC}{w:av}{H:Hp}{h h':Heap}{x e:Addr}{o':HO}
theorem HOk.write(ok:HOk P w H h)(mu:Mut (H x))(he:e=x\/H e=some (.own x))(k:∀b u,b≠e->h.get? b=some u->h'.get? b=some u)(heo:∃u,h'.get? e=some u)
  (new:zS P w (upd H x o') h' x o'):HOk P w (upd H x o') h':=λb u q=>by
 have nown:∀c y,H c=some (.own y)->c≠x:=λc y r z=>by subst z;rw[r]at mu;exact mu
 have ntup:∀c xs,H c=some (.tup xs)->c≠x:=λc xs r z=>by subst z;rw[r]at mu;exact mu
 by_cases hb:b=x
 ·subst hb;rw[zm]at q;cases q;exact new
 ·rw[qt hb]at q;by_cases hbe:b=e
  ·have q':H b=some (.own x):=by
    rcases he with z|z
    ·exact absurd (hbe.trans z) hb
    ·rw[hbe];exact z
   rw[q]at q';cases q';obtain⟨v,hv⟩:=heo;exact⟨v,by rw[hbe];exact hv⟩
  ·refine(ok b u q).stay (λc v hc r=>k c v ?_ r) (λc r=>by rw[qt (nown c b r)];exact r) λc xs r=>by rw[qt (ntup c xs r)];exact r
   rcases hc with rfl|hc
   ·exact hbe
   ·rintro rfl;rcases he with z|z
    ·exact nown c b hc z
    ·rw[hc]at z;cases z;exact hb rfl
end
structure Un(fs ex:List Addr)(H H':Hp)(h h':Heap):Prop where
 keep:∀b o,h.get? b=some o->H b=none->b∉fs->b∉ex->h'.get? b=some o
 slot:∀b o,h.get? b=some o->H b=none->b∈fs->b∉ex->∃sl,h'.get? b=some {o with slots:=sl}
 free:∀b o,h.get? b=some o->H b=none->b∉ex->H' b=none
 there:∀b o,h.get? b=some o->b∉ex->∃o',h'.get? b=some o'
 tups:∀b xs,H b=some (.tup xs)->H' b=some (.tup xs)
 frzs:∀b o u,H b=some (.frz o u)->H' b=some (.frz o u)
 tbls:∀b ps,H b=some (.tbl ps)->∃more,H' b=some (.tbl (ps++more))
section
variable{fs fs' ex ex':List Addr}{H H1 H2:Hp}{h h1 h2 h':Heap}{a x e:Addr}{o:HO}
theorem Un.any(u:Un fs ex H H1 h h1){b:Addr}{ob:Obj}(q:h.get? b=some ob)(n:H b=none)(hx:b∉ex):∃sl,h1.get? b=some {ob with slots:=sl}:=by
 by_cases hb:b∈fs
 ·exact u.slot b ob q n hb hx
 ·exact⟨ob.slots,u.keep b ob q n hb hx⟩
theorem Un.kept(k:∀b u,h.get? b=some u->h'.get? b=some u):Un fs ex H H h h':=
 ⟨λb ob q _ _ _=>k b ob q,λb ob q _ _ _=>⟨ob.slots,k b ob q⟩,λ_ _ _ n _=>n,λb ob q _=>⟨ob,k b ob q⟩,λ_ _ q=>q,λ_ _ _ q=>q,λ_ ps q=>⟨#[],by rw[q];simp⟩⟩
theorem Un.refl:Un fs ex H H h h:=Un.kept λ_ _ q=>q
theorem Un.laid(k:∀b u,h.get? b=some u->h'.get? b=some u)(hp:h.objs.size<=a)(hn:H a=none):Un fs ex H (upd H a o) h h' where
 keep:=λb u q _ _ _=>k b u q
 slot:=λb u q _ _ _=>⟨u.slots,k b u q⟩
 free:=λb u q n _=>by rw[qt (aX (bA (aH q) hp))];exact n
 there:=λb u q _=>⟨u,k b u q⟩
 tups:=λb xs q=>by rw[qt (gH q hn)];exact q
 frzs:=λb u xs q=>by rw[qt (gH q hn)];exact q
 tbls:=λb ps q=>⟨#[],by rw[qt (gH q hn),q];simp⟩
theorem Un.write(mu:Mut (H x))(he:e=x\/H e=some (.own x))(k:∀b u,b≠e->h.get? b=some u->h'.get? b=some u)(heo:∃u,h'.get? e=some u):Un fs ex H (upd H x o) h h':=by
 have hx:∀b,H b=none->b≠x:=λb n z=>by subst z;rw[n]at mu;exact mu
 have hb:∀b,H b=none->b≠e:=λb n z=>by
  subst z;rcases he with r|r
  ·exact hx b n r
  ·rw[n]at r;cases r
 have hm:∀b u,H b=some u->¬ Mut (some u)->b≠x:=λb u q nm z=>by subst z;rw[q]at mu;exact nm mu
 refine⟨λb u q n _ _=>k b u (hb b n) q,λb u q n _ _=>⟨u.slots,k b u (hb b n) q⟩,λb u q n _=>by rw[qt (hx b n)];exact n,λb u q _=>?_,
  λb xs q=>by rw[qt (hm b _ q λz=>z)];exact q,λb u xs q=>by rw[qt (hm b _ q λz=>z)];exact q,λb ps q=>⟨#[],by rw[qt (hm b _ q λz=>z),q];simp⟩⟩
 by_cases hbe:b=e
 ·subst hbe;exact heo
 ·exact⟨u,k b u hbe q⟩
end
noncomputable def trk(h:Heap)(H:Hp):List Addr:=(bu h.objs.size).filter λa=>(H a).isSome
noncomputable def eJ(h:Heap)(H:Hp):Heap:=PySem.W.hideAll h (trk h H)
theorem yZ(h:Heap)(H:Hp):(eJ h H).objs.size=h.objs.size:=PySem.W.hideAll_size _ _
theorem we{h:Heap}{H:Hp}{b:Addr}{o:Obj}(e:h.get? b=some o)(n:H b=none):(eJ h H).get? b=some o:=
 PySem.W.hideAll_get _ e λhm=>by
  have q:(H b).isSome=true:=(bP.mp hm).2;rw[n]at q;simp at q
theorem vW{h:Heap}{H:Hp}{b:Addr}{o:Obj}(e:(eJ h H).get? b=some o):h.get? b=some o/\H b=none:=by
 have e':h.get? b=some o:=PySem.W.of_hideAll (trk h H) e;refine⟨e',?_⟩;cases q:H b with
 |none=>rfl
 |some x=>
  have hm:b∈trk h H:=bP.mpr ⟨List.mem_range.mpr (aH e'),by simp[q]⟩;have z:(eJ h H).get? b=none:=PySem.W.hideAll_none (trk h H) hm;rw[z]at e;cases e
noncomputable def dP(g h:Heap)(L:Addr):List (Addr×Obj):=(bu h.objs.size).filterMap λa=>if a=L\/(g.get? a).isSome=true then none else (h.get? a).map λo=>(a,o)
theorem ki{g h:Heap}{L a:Addr}{o:Obj}(h1:a≠L)(h2:g.get? a=none)(h3:h.get? a=some o):(a,o)∈dP g h L:=
 List.mem_filterMap.mpr ⟨a,List.mem_range.mpr (aH h3),by simp[h1,h2,h3]⟩
theorem tO{g h:Heap}{L:Addr}{p:Addr×Obj}(hp:p∈dP g h L):p.1≠L/\g.get? p.1=none/\h.get? p.1=some p.2:=by
 obtain⟨b,_,e⟩:=List.mem_filterMap.mp hp;split at e
 ·cases e
 ·rename_i hn
  cases q:h.get? b with
  |none=>rw[q]at e;simp at e
  |some u=>
   rw[q]at e;simp only[Option.map_some,cx]at e;subst e;refine⟨λz=>hn (.inl z),?_,q⟩;show g.get? b=none;cases r:g.get? b with
   |none=>rfl
   |some v=>exact(hn (.inr (by simp[r]))).elim
noncomputable def rest(g h:Heap)(L d:Addr):List (Addr×Obj):=(dP g h L).filter λp=>decide (p.1≠d)
theorem m5{g h:Heap}{L:Addr}:News g L h (dP g h L):=λp hp=>let ⟨a,b,c⟩:=tO hp;⟨c,a,b⟩
structure Mod(K:aB)(mg:Str->Option ae)(base:Heap):Prop where
 kin:K.In base
 glob:base.Ns aE mg
 blt:∃mb,base.Ns builtinsNs mb/\∀x:Str,x≠"__name__"->mb x=bN x
 nolimit:base.NoLimit
structure Cx where
 prog:aC
 w:av
 K:aB
 mg:Str->Option ae
 base:Heap
 A:aA
 N:List Str
 s₀:af
 H₀:Hp
 env:Env
 outer:List Env
 stack:List Env
 ex:List Addr
 fn:Str->Bool
 calm:Bool
 pn:List (Addr×Obj)
 xe:ae->af->Prop
noncomputable def frs(l:List Env):List Addr:=l.filterMap (·.frame)
abbrev Cx.fs(X:Cx):List Addr:=frs X.outer
noncomputable def fB(sc:a8)(x:Str):Prop:=sc.names.lookup x=some .local\/sc.names.lookup x=some .cell\/sc.names.lookup x=some .free
noncomputable def Loc(sc:a8)(x:Str):Prop:=sc.names.lookup x=some .local\/sc.names.lookup x=some .cell
noncomputable def Look(env:Env)(h:Heap)(m:Str->Option ae)(x:Str)(u:ae):Prop:=
 (env.kindOf x=some .local/\m x=some u)\/((env.kindOf x=some .cell\/env.kindOf x=some .free)/\∃c,env.cells.lookup x=some c/\h.IsCell c (some u))
structure Cx.Ok(X:Cx):Prop where
 mod:Mod X.K X.mg X.base
 kind:X.env.scope.kind=.function
 glob:X.env.globals=aE
 blt:X.env.builtins=builtinsNs
 above:X.s₀.heap.objs.size<=X.env.locals
 inj:∀x y c,X.env.cells.lookup x=some c->X.env.cells.lookup y=some c->x=y
 has:∀x,(X.env.kindOf x=some .cell\/X.env.kindOf x=some .free)->∃c,X.env.cells.lookup x=some c
 cab:∀x c,X.fn x=true->X.env.cells.lookup x=some c->X.s₀.heap.objs.size<=c
 hd:X.calm=true->X.A.handled=none
 frames:X.A.frames=some X.stack
 stk:X.stack=X.outer\/(X.stack=X.env::X.outer/\X.env.frame=some X.env.locals)
 exf:∀b∈X.ex,b≠X.env.locals/\∀x c,X.env.cells.lookup x=some c->c≠b
 bs:∀b o,X.base.get? b=some o->X.s₀.heap.get? b=some o/\X.H₀ b=none
 bsz:X.base.objs.size<=X.s₀.heap.objs.size
 noex:∀b o,X.base.get? b=some o->b∉X.ex
 exfs:∀b∈X.ex,b∉X.fs
 funs:X.s₀.heap.FunFrames X.base X.outer
 frf:∀b∈X.fs,X.H₀ b=none
structure Inv(X:Cx)(pins:List (Addr×Obj))(σ:List (Option V))(H:Hp)(s:af):Prop where
 ok:X.Ok
 os:s.os=X.s₀.os
 bare:AllBare s.gens
 base:Un X.fs X.ex X.H₀ H X.s₀.heap s.heap
 loc:∃m,s.heap.Ns X.env.locals m/\∀(i:Nat) (x:Str) (v:V),X.N[i]? = some x->σ[i]? = some (some v)->fB X.env.scope x->∃u,RelV v u/\Look X.env s.heap m x u
 cell:∀x c,X.env.cells.lookup x=some c->∃v,s.heap.IsCell c v
 free:H X.env.locals=none
 freeC:∀x c,X.env.cells.lookup x=some c->H c=none
 pin:∀p∈X.pn++pins,s.heap.get? p.1=some p.2/\H p.1=none/\p.1≠X.env.locals/\p.1∉X.fs/\∀v,p.2.data≠.cell v
 hok:HOk X.prog X.w H s.heap
 len:σ.length=X.N.length
section
variable{X:Cx}{pins:List (Addr×Obj)}{σ:List (Option V)}{H H':Hp}{s:af}{h':Heap}
theorem Cx.Ok.nofr(ok:X.Ok){b:Addr}{o:Obj}(e:X.base.get? b=some o):b∉X.fs:=λhb=>by
 have:=(ok.funs.mem hb).1;rw[e]at this;cases this
theorem Inv.bs(I:Inv X pins σ H s):∀b o,X.base.get? b=some o->s.heap.get? b=some o/\H b=none:=λb o e=>
 ⟨I.base.keep b o (I.ok.bs b o e).1 (I.ok.bs b o e).2 (I.ok.nofr e) (I.ok.noex b o e),I.base.free b o (I.ok.bs b o e).1 (I.ok.bs b o e).2 (I.ok.noex b o e)⟩
theorem Inv.bk(I:Inv X pins σ H s):∀b o,X.base.get? b=some o->s.heap.get? b=some o:=λb o e=>(I.bs b o e).1
theorem Inv.mod(I:Inv X pins σ H s):Mod X.K X.mg X.base:=I.ok.mod
theorem Inv.kIn(I:Inv X pins σ H s):X.K.In s.heap:=I.ok.mod.kin.keeps I.bk
theorem Inv.nolimit(I:Inv X pins σ H s):s.heap.NoLimit:=I.ok.mod.nolimit.keeps I.bk
theorem Inv.fr(I:Inv X pins σ H s):∃m,Fr X.base X.env.locals s.heap m:=
 let ⟨m,hn,_⟩:=I.loc
 ⟨m,hn,I.bk,bD I.ok.bsz I.ok.above⟩
theorem Inv.lt(I:Inv X pins σ H s):X.env.locals<s.heap.objs.size:=let ⟨_,hn,_⟩:=I.loc;hn.lt
theorem Inv.sz(I:Inv X pins σ H s):X.s₀.heap.objs.size<=s.heap.objs.size:=bD I.ok.above (Nat.le_of_lt I.lt)
theorem Inv.nofs(I:Inv X pins σ H s){a:Addr}(h:s.heap.objs.size<=a):a∉X.fs:=λhb=>by
 obtain⟨_,o,ho,_⟩:=I.ok.funs.mem hb;exact absurd (bA (aH ho) (bD I.sz h)) (bM _)
theorem Inv.cne(I:Inv X pins σ H s):∀x c,X.env.cells.lookup x=some c->c≠X.env.locals:=λx c e z=>by
 obtain⟨v,o,ho,hd⟩:=I.cell x c e;obtain⟨m,⟨o',es,ep,ho',hd',_⟩,_⟩:=I.loc;rw[z,ho']at ho;cases ho;rw[hd']at hd;cases hd
theorem Inv.funs(I:Inv X pins σ H s):s.heap.FunFrames X.base X.outer:=by
 have all:∀(l:List Env),(∀b∈frs l,b∈X.fs)->X.s₀.heap.FunFrames X.base l->s.heap.FunFrames X.base l:=by
  intro l
  induction l with
  |nil=>intro _ _;trivial
  |cons env r ih=>
   intro hs hl;obtain⟨hk,⟨L,o,hf,hn,ho,hd⟩,hr⟩:=hl;have hL:L∈X.fs:=hs L (by unfold frs;rw[List.filterMap_cons,hf];exact aO);obtain⟨sl,e⟩:=I.base.slot L o ho (I.ok.frf L hL) hL λz=>I.ok.exfs L z hL
   exact⟨hk,⟨L,_,hf,hn,e,hd⟩,ih (λb hb=>hs b (by unfold frs;rw[List.filterMap_cons,hf];exact aM _ hb)) hr⟩
 exact all X.outer (λ_ hb=>hb) I.ok.funs
theorem Inv.stack(I:Inv X pins σ H s):s.heap.FunFrames X.base X.stack:=by
 rcases I.ok.stk with e|⟨e,hf⟩
 ·rw[e];exact I.funs
 ·rw[e];obtain⟨m,hn,_⟩:=I.loc;refine .cons (by rw[I.ok.kind];decide) hf hn ?_ I.funs;exact Heap.get?_none_of_le (bD I.ok.bsz I.ok.above)
theorem Inv.stkSub(I:Inv X pins σ H s):∀b∈frs X.stack,b∈X.env.locals::X.fs:=λb hb=>by
 rcases I.ok.stk with e|⟨e,hf⟩
 ·rw[e]at hb;exact aM _ hb
 ·rw[e]at hb;unfold frs at hb;rw[List.filterMap_cons,hf]at hb;exact hb
theorem Inv.stkFree(I:Inv X pins σ H s):∀b∈frs X.stack,H b=none:=λb hb=>by
 rcases aF.mp (I.stkSub b hb)with e|hb
 ·rw[e];exact I.free
 ·obtain⟨_,o,ho,_⟩:=I.ok.funs.mem hb;exact I.base.free b o ho (I.ok.frf b hb) λz=>I.ok.exfs b z hb
theorem Inv.step{g':Array GenState}{t':Nat}{d':Drawn}{ch:List Addr}(I:Inv X pins σ H s)
  (hch:∀b∈ch,(b∈X.ex\/X.s₀.heap.objs.size<=b)/\b≠X.env.locals/\(∀x c,X.env.cells.lookup x=some c->c≠b)/\∀p∈X.pn++pins,p.1≠b)
  (keep:∀b o,b≠X.env.locals->b∉X.fs->b∉ch->s.heap.get? b=some o->H b=none->h'.get? b=some o)
  (slot:∀b o,b≠X.env.locals->b∈X.fs->b∉ch->s.heap.get? b=some o->H b=none->∃sl,h'.get? b=some {o with slots:=sl}) (free:∀b o,b∉ch->s.heap.get? b=some o->H b=none->H' b=none)
  (there:∀b o,b∉ch->s.heap.get? b=some o->∃o',h'.get? b=some o')
  (tups:∀b xs,H b=some (.tup xs)->H' b=some (.tup xs)) (frzs:∀b o u,H b=some (.frz o u)->H' b=some (.frz o u)) (tbls:∀b ps,H b=some (.tbl ps)->∃more,H' b=some (.tbl (ps++more)))
  (ns:∀m,s.heap.Ns X.env.locals m->h'.Ns X.env.locals m) (hok:HOk X.prog X.w H' h') (hg:AllBare g') :
  Inv X pins σ H' {s with heap:=h',gens:=g',drawn:=d',toks:=t'}:=by
 have neL:∀b o,X.s₀.heap.get? b=some o->b≠X.env.locals:=λb o e=>aX (bA (aH e) I.ok.above)
 have neC:∀b o,X.s₀.heap.get? b=some o->b∉X.ex->b∉ch:=λb o e hx hb=>by
  rcases(hch b hb).1 with z|z
  ·exact hx z
  ·exact absurd (bA (aH e) z) (bM _)
 have cellK:∀x c,X.env.cells.lookup x=some c->∀v,s.heap.IsCell c v->h'.IsCell c v:=λx c e v ⟨o,ho,hd⟩=>by
  have nch:c∉ch:=λz=>(hch c z).2.2.1 x c e rfl
  by_cases hc:c∈X.fs
  ·obtain⟨sl,q⟩:=slot c o (I.cne x c e) hc nch ho (I.freeC x c e);exact⟨_,q,hd⟩
  ·exact⟨o,keep c o (I.cne x c e) hc nch ho (I.freeC x c e),hd⟩
 refine⟨I.ok,I.os,hg,⟨λb o e n hb hx=>?_,λb o e n hb hx=>?_,λb o e n hx=>?_,λb o e hx=>?_,λb xs e=>tups b xs (I.base.tups b xs e),λb o xs e=>frzs b o xs (I.base.frzs b o xs e),λb ps e=>?_⟩,?_,λx c e=>?_,?_,λx c e=>?_,λp hp=>?_,hok,I.len⟩
 ·exact keep b o (neL b o e) hb (neC b o e hx) (I.base.keep b o e n hb hx) (I.base.free b o e n hx)
 ·obtain⟨sl,e1⟩:=I.base.slot b o e n hb hx;obtain⟨sl',e2⟩:=slot b _ (neL b o e) hb (neC b o e hx) e1 (I.base.free b o e n hx);exact⟨sl',e2⟩
 ·obtain⟨o',e1⟩:=I.base.there b o e hx;exact free b o' (neC b o e hx) e1 (I.base.free b o e n hx)
 ·obtain⟨o',e1⟩:=I.base.there b o e hx;exact there b o' (neC b o e hx) e1
 ·obtain⟨m1,e1⟩:=I.base.tbls b ps e;obtain⟨m2,e2⟩:=tbls b _ e1;exact⟨m1++m2,by rw[e2,Array.append_assoc]⟩
 ·obtain⟨m,hn,hl⟩:=I.loc;refine⟨m,ns m hn,λi x v e1 e2 e3=>?_⟩;obtain⟨u,r,l⟩:=hl i x v e1 e2 e3;refine⟨u,r,?_⟩;rcases l with l|⟨k,c,e,z⟩
  ·exact .inl l
  ·exact .inr ⟨k,c,e,cellK x c e _ z⟩
 ·obtain⟨v,z⟩:=I.cell x c e;exact⟨v,cellK x c e v z⟩
 ·obtain⟨m,⟨o,_,_,ho,_⟩,_⟩:=I.loc;exact free _ o (λz=>(hch _ z).2.1 rfl) ho I.free
 ·obtain⟨v,o,ho,hd⟩:=I.cell x c e;exact free c o (λz=>(hch c z).2.2.1 x c e rfl) ho (I.freeC x c e)
 ·obtain⟨e,n,ne,nf,d⟩:=I.pin p hp;have nch:p.1∉ch:=λz=>(hch p.1 z).2.2.2 p hp rfl
  exact⟨keep p.1 p.2 ne nf nch e n,free p.1 p.2 nch e n,ne,nf,d⟩
theorem Inv.un{t':Nat}(I:Inv X pins σ H s)(u:Un X.fs [] H H' s.heap h')(hok:HOk X.prog X.w H' h'):Inv X pins σ H' {s with heap:=h',toks:=t'}:=by
 obtain⟨m,⟨o,es,ep,ho,r⟩,_⟩:=id I.loc;obtain⟨sl,hL⟩:=u.any ho I.free (by simp);exact I.step (g':=s.gens) (d':=s.drawn) (ch:=[]) (λ_ z=>nomatch z) (λb o _ hb _ e n=>u.keep b o e n hb (by simp)) (λb o _ hb _ e n=>u.slot b o e n hb (by simp)) (λb o _ e n=>u.free b o e n (by simp)) (λb o _ e=>u.there b o e (by simp)) u.tups u.frzs u.tbls (λm' hm=>by
  obtain⟨o',es',ep',ho',r'⟩:=hm;rw[ho]at ho';cases ho';exact⟨_,es',ep',hL,r'⟩) hok I.bare
theorem Inv.call{g':Array GenState}{t':Nat}{d':Drawn}{ch:List Addr}(I:Inv X pins σ H s)(u:Un (frs X.stack) ch H H' s.heap h')(hok:HOk X.prog X.w H' h')(hg:AllBare g')
  (hch:∀b∈ch,(b∈X.ex\/X.s₀.heap.objs.size<=b)/\b≠X.env.locals/\(∀x c,X.env.cells.lookup x=some c->c≠b)/\∀p∈X.pn++pins,p.1≠b) :
  Inv X pins σ H' {s with heap:=h',gens:=g',drawn:=d',toks:=t'}:=by
 obtain⟨m,⟨o,es,ep,ho,r⟩,_⟩:=id I.loc;obtain⟨sl,hL⟩:=u.any ho I.free λz=>(hch _ z).2.1 rfl
 exact I.step (ch:=ch) hch (λb o hL hb hc e n=>u.keep b o e n (λz=>(aF.mp (I.stkSub b z)).elim hL hb) hc) (λb o _ _ hc e n=>u.any e n hc) (λb o hc e n=>u.free b o e n hc) (λb o hc e=>u.there b o e hc) u.tups u.frzs u.tbls (λm' hm=>by
  obtain⟨o',es',ep',ho',r'⟩:=hm;rw[ho]at ho';cases ho';exact⟨_,es',ep',hL,r'⟩) hok hg
theorem Inv.turned{t':Nat}{it:Addr}(I:Inv X pins σ H s)(k:∀b o,b≠it->s.heap.get? b=some o->h'.get? b=some o)(hn:H it=none)(hL:it≠X.env.locals)
  (h1:it∈X.ex\/X.s₀.heap.objs.size<=it) (h2:∀x c,X.env.cells.lookup x=some c->c≠it) (h3:∀p∈X.pn++pins,p.1≠it):Inv X pins σ H {s with heap:=h',toks:=t'}:=by
 have nit:∀b u,H b=some u->b≠it:=λb u e z=>by rw[z,hn]at e;cases e
 refine I.step (g':=s.gens) (d':=s.drawn) (ch:=[it]) (λb hb=>?_) (λb o _ _ hc e _=>k b o (λz=>hc (by simp[z])) e) (λb o _ _ hc e _=>⟨o.slots,k b o (λz=>hc (by simp[z])) e⟩) (λ_ _ _ _ n=>n)
  (λb o hc e=>⟨o,k b o (λz=>hc (by simp[z])) e⟩) (λ_ _ e=>e) (λ_ _ _ e=>e) (λb ps e=>⟨#[],by rw[e];simp⟩) (λm hm=>?_) (λb u e=>?_) I.bare
 ·have e:b=it:=by simpa using hb
  subst e;exact⟨h1,hL,h2,h3⟩
 ·obtain⟨o,es,ep,ho,r⟩:=hm;exact⟨o,es,ep,k _ o (Ne.symm hL) ho,r⟩
 ·refine(I.hok b u e).stay (λc v hc q=>k c v ?_ q) (λ_ q=>q) λ_ _ q=>q
  rcases hc with z|z
  ·rw[z];exact nit b u e
  ·exact nit c _ z
theorem Inv.tok(I:Inv X pins σ H s)(t:Nat):Inv X pins σ H {s with toks:=t}:=I.un (h':=s.heap) (t':=t) Un.refl I.hok
theorem Inv.kept{t':Nat}(I:Inv X pins σ H s)(k:∀b u,s.heap.get? b=some u->h'.get? b=some u):Inv X pins σ H {s with heap:=h',toks:=t'}:=I.un (Un.kept k) (I.hok.kept k)
theorem Inv.laid{a:Addr}{o:HO}{t':Nat}(I:Inv X pins σ H s)(k:∀b u,s.heap.get? b=some u->h'.get? b=some u)(hp:s.heap.objs.size<=a)(new:zS X.prog X.w (upd H a o) h' a o) :
  Inv X pins σ (upd H a o) {s with heap:=h',toks:=t'}:=I.un (Un.laid k hp (I.hok.fresh hp)) (I.hok.laid k hp new)
theorem Inv.write{x e:Addr}{o:HO}{t':Nat}(I:Inv X pins σ H s)(mu:Mut (H x))(he:e=x\/H e=some (.own x))(k:∀b u,b≠e->s.heap.get? b=some u->h'.get? b=some u)(heo:∃u,h'.get? e=some u)
  (new:zS X.prog X.w (upd H x o) h' x o):Inv X pins σ (upd H x o) {s with heap:=h',toks:=t'}:=I.un (Un.write mu he k heo) (I.hok.write mu he k heo new)
theorem Inv.pins_of{pins':List (Addr×Obj)}(I:Inv X pins σ H s)(h:∀p∈pins',s.heap.get? p.1=some p.2/\H p.1=none/\p.1≠X.env.locals/\p.1∉X.fs/\∀v,p.2.data≠.cell v):Inv X pins' σ H s:=
 ⟨I.ok,I.os,I.bare,I.base,I.loc,I.cell,I.free,I.freeC,λp hp=>(List.mem_append.mp hp).elim (λz=>I.pin p (List.mem_append_left _ z)) (h p),I.hok,I.len⟩
theorem oY{N:List Str}(hN:N.Nodup){i j:Nat}{x:Str}(a:N[i]? = some x)(b:N[j]? = some x):i=j:=by
 obtain⟨h1,e1⟩:=List.getElem?_eq_some_iff.mp a;obtain⟨h2,e2⟩:=List.getElem?_eq_some_iff.mp b;exact(List.getElem_inj hN).mp (e1.trans e2.symm)
theorem oy{M:Model}{A:aA}{E:ae->af->Prop}{i:Nat}{x:Str}{v:V}{u:ae}{Q:Unit->af->Prop}(I:Inv X pins σ H s)(hN:X.N.Nodup)(hi:X.N[i]? = some x)(hx:Loc X.env.scope x)(r:RelV v u)
  (h:∀s',Inv X pins (σ.set i (some v)) H s'->(∃a,Heap.SameBut a s.heap s'.heap/\(a=X.env.locals\/X.env.cells.lookup x=some a))->Q () s') (hf:X.fn x=true\/X.env.scope.names.lookup x=some .local:=by first|exact .inl rfl|exact .inr rfl|assumption):ak M A (storeName X.env x u) Q E s:=by
 obtain⟨m,hn,hl⟩:=id I.loc;have hcls:(X.env.scope.kind==.class||(X.env.scope.kind==.module&&X.env.locals != X.env.globals))=false:=by rw[I.ok.kind];rfl
 have hiσ:i<σ.length:=by rw[I.len];exact(List.getElem?_eq_some_iff.mp hi).1
 have cne:=I.cne;have tracked:∀{a:Addr}{h':Heap},(∃o,s.heap.get? a=some o/\H a=none)->Heap.SameBut a s.heap h'->HOk X.prog X.w H h':=λ{a h'} ha hs b ob e=>by
  obtain⟨_,_,hfree⟩:=ha;refine(I.hok b ob e).stay (λc w' hc q=>(hs.2 c ?_).trans q) (λ_ q=>q) λ_ _ q=>q
  rintro rfl;rcases hc with rfl|hc
  ·rw[hfree]at e;cases e
  ·rw[hfree]at hc;cases hc
 rcases hx with hk|hk
 ·refine wpAny_storeName_local hk hn (λh' hn' hs=>?_) hcls;obtain⟨oL,_,_,hoL,_⟩:=id hn;refine h _ ⟨I.ok,I.os,I.bare,⟨λb o e n hb hx=>?_,λb o e n hb hx=>?_,I.base.free,λb o e hx=>?_,I.base.tups,I.base.frzs,I.base.tbls⟩,⟨_,hn',λj y v' e1 e2 e3=>?_⟩,λy c e=>?_,I.free,I.freeC,λp hp=>?_,tracked ⟨oL,hoL,I.free⟩ hs,by simpa using I.len⟩ ⟨_,hs,.inl rfl⟩
  ·exact(hs.2 b (aX (bA (aH e) I.ok.above))).trans (I.base.keep b o e n hb hx)
  ·obtain⟨sl,e1⟩:=I.base.slot b o e n hb hx;exact⟨sl,(hs.2 b (aX (bA (aH e) I.ok.above))).trans e1⟩
  ·obtain⟨o',e1⟩:=I.base.there b o e hx;exact⟨o',(hs.2 b (aX (bA (aH e) I.ok.above))).trans e1⟩
  ·by_cases hj:j=i
   ·subst hj;rw[hi]at e1;cases e1;rw[List.getElem?_set_self hiσ]at e2;cases e2;exact⟨u,r,.inl ⟨hk,by simp⟩⟩
   ·rw[List.getElem?_set_ne (Ne.symm hj)]at e2;obtain⟨u',r',q⟩:=hl j y v' e1 e2 e3;refine⟨u',r',?_⟩;rcases q with ⟨k,e⟩|⟨k,c,e,z⟩
    ·refine .inl ⟨k,?_⟩;have:y≠x:=λe=>hj (oY hN e1 (e▸hi))
     simp[this,e]
    ·exact .inr ⟨k,c,e,z.sameBut hs (cne y c e)⟩
  ·obtain⟨w',z⟩:=I.cell y c e;exact⟨w',z.sameBut hs (cne y c e)⟩
  ·obtain⟨e,n,ne,nf,d⟩:=I.pin p hp;exact⟨(hs.2 p.1 ne).trans e,n,ne,nf,d⟩
 ·have hfn:X.fn x=true:=by
   rcases hf with z|z
   ·exact z
   ·rw[z]at hk;cases hk
  obtain⟨c,hc⟩:=I.ok.has x (.inl hk);obtain⟨w',z⟩:=I.cell x c hc;refine wpAny_storeName_cell I.ok.kind hk hc z (λh' hc' hs=>?_);obtain⟨oc,hoc,hocd⟩:=id z;refine h {s with heap:=h'} ⟨I.ok,I.os,I.bare,⟨λb o e n hb hx=>?_,λb o e n hb hx=>?_,I.base.free,λb o e hx=>?_,I.base.tups,I.base.frzs,I.base.tbls⟩,⟨m,hn.sameBut hs (Ne.symm (cne x c hc)),λj y v' e1 e2 e3=>?_⟩,λy c' e=>?_,I.free,I.freeC,λp hp=>?_,tracked ⟨oc,hoc,I.freeC x c hc⟩ hs,by simpa using I.len⟩ ⟨c,hs,.inr hc⟩
  ·exact(hs.2 b (aX (bA (aH e) (I.ok.cab x c hfn hc)))).trans (I.base.keep b o e n hb hx)
  ·obtain⟨sl,e1⟩:=I.base.slot b o e n hb hx;exact⟨sl,(hs.2 b (aX (bA (aH e) (I.ok.cab x c hfn hc)))).trans e1⟩
  ·obtain⟨o',e1⟩:=I.base.there b o e hx;exact⟨o',(hs.2 b (aX (bA (aH e) (I.ok.cab x c hfn hc)))).trans e1⟩
  ·by_cases hj:j=i
   ·subst hj;rw[hi]at e1;cases e1;rw[List.getElem?_set_self hiσ]at e2;cases e2;exact⟨u,r,.inr ⟨.inl hk,c,hc,hc'⟩⟩
   ·rw[List.getElem?_set_ne (Ne.symm hj)]at e2;obtain⟨u',r',q⟩:=hl j y v' e1 e2 e3;refine⟨u',r',?_⟩;rcases q with q|⟨k,c',e,z'⟩
    ·exact .inl q
    ·refine .inr ⟨k,c',e,z'.sameBut hs ?_⟩;rintro rfl;exact hj (oY hN e1 (I.ok.inj _ _ _ e hc▸hi))
  ·by_cases hcc:c'=c
   ·subst hcc;exact⟨_,hc'⟩
   ·obtain⟨w2,z2⟩:=I.cell y c' e;exact⟨w2,z2.sameBut hs hcc⟩
  ·obtain⟨e,n,ne,nf,d⟩:=I.pin p hp;refine⟨(hs.2 p.1 ?_).trans e,n,ne,nf,d⟩;intro q;rw[q,hoc]at e;have q':oc=p.2:=bU e;exact d w' (by rw[<-q'];exact hocd)
theorem nU{M:Model}{A:aA}{E:ae->af->Prop}{i:Nat}{x:Str}{v:V}{u:ae}{Q:Unit->af->Prop}(I:Inv X pins σ H s)(hN:X.N.Nodup)(hi:X.N[i]? = some x)(hx:Loc X.env.scope x)(r:RelV v u)
  (h:∀s',Inv X pins (σ.set i (some v)) H s'->Q () s') (hf:X.fn x=true\/X.env.scope.names.lookup x=some .local:=by first|exact .inl rfl|exact .inr rfl|assumption):ak M A (storeName X.env x u) Q E s:=
 oy I hN hi hx r (λs' I' _=>h s' I') hf
theorem Inv.call'{s':af}{ch:List Addr}(I:Inv X pins σ H s)(ho:s'.os=s.os)(u:Un (frs X.stack) ch H H' s.heap s'.heap)(hok:HOk X.prog X.w H' s'.heap)(hg:AllBare s'.gens)
  (hch:∀b∈ch,(b∈X.ex\/X.s₀.heap.objs.size<=b)/\b≠X.env.locals/\(∀x c,X.env.cells.lookup x=some c->c≠b)/\∀p∈X.pn++pins,p.1≠b):Inv X pins σ H' s':=by
 obtain⟨h',g',d',t',o'⟩:=s';have e:o'=s.os:=ho;subst e;exact I.call (g':=g') (t':=t') (d':=d') u hok hg hch
end
abbrev XK:=ae->Option Addr->Hp->Prop
abbrev St:=List (Option V)
abbrev VK:=V->Hp->Prop
abbrev TE:=St->Hp->VK->Prop
abbrev TT:=St->Hp->(Bool->Hp->Prop)->Prop
abbrev TA:=St->Hp->(List V->Hp->Prop)->Prop
structure Ends where
 nx:St->Hp->Prop
 rt:VK
 bk:St->Hp->Prop:=λ_ _=>False
 ct:St->Hp->Prop:=λ_ _=>False
abbrev TS:=Ends->St->Hp->Prop
noncomputable def EP(X:Cx)(pins:List (Addr×Obj))(σ:St)(Q:VK)(u:ae)(s':af):Prop:=∃v H',Inv X pins σ H' s'/\RelV v u/\Q v H'
noncomputable def TP(X:Cx)(pins:List (Addr×Obj))(σ:St)(Q:Bool->Hp->Prop)(b:Bool)(s':af):Prop:=∃H',Inv X pins σ H' s'/\Q b H'
noncomputable def AP(X:Cx)(pins:List (Addr×Obj))(σ:St)(Q:List V->Hp->Prop)(us:List ae)(s':af):Prop:=∃vs H',Inv X pins σ H' s'/\Vals vs us/\Q vs H'
noncomputable def SP(X:Cx)(pins:List (Addr×Obj))(D:Ends)(f:Flow)(s':af):Prop:=
 match f with
 | .next=>∃σ' H',Inv X pins σ' H' s'/\D.nx σ' H'
 | .brk=>∃σ' H',Inv X pins σ' H' s'/\D.bk σ' H'
 | .cont=>∃σ' H',Inv X pins σ' H' s'/\D.ct σ' H'
 | .ret u=>∃v σ' H',Inv X pins σ' H' s'/\RelV v u/\D.rt v H'
noncomputable def PE(X:Cx)(e:Expr)(t:TE):Prop:=
 ∀(pins:List (Addr×Obj)) (s:af) (σ:St) (H:Hp) (Q:VK),Inv X pins σ H s->t σ H Q->ak (aq X.prog X.w) X.A (eval e X.env) (EP X pins σ Q) X.xe s
noncomputable def PT(X:Cx)(e:Expr)(t:TT):Prop:=
 ∀(pins:List (Addr×Obj)) (s:af) (σ:St) (H:Hp) (Q:Bool->Hp->Prop),Inv X pins σ H s->t σ H Q->ak (aq X.prog X.w) X.A (isTrue e X.env (eval e X.env)) (TP X pins σ Q) X.xe s
noncomputable def PW(X:Cx)(e:Expr)(t:TT):Prop:=
 ∀(whole:Sem ae) (pins:List (Addr×Obj)) (s:af) (σ:St) (H:Hp) (Q:Bool->Hp->Prop),Inv X pins σ H s->t σ H Q->ak (aq X.prog X.w) X.A (isTrue e X.env whole) (TP X pins σ Q) X.xe s
theorem PW.pt{X:Cx}{e:Expr}{t:TT}(h:PW X e t):PT X e t:=h _
noncomputable def PA(X:Cx)(es:List Expr)(t:TA):Prop:=
 ∀(pos:Pos) (pins:List (Addr×Obj)) (s:af) (σ:St) (H:Hp) (Q:List V->Hp->Prop),Inv X pins σ H s->t σ H Q->ak (aq X.prog X.w) X.A (spliced (backTo pos (bf es X.env))) (AP X pins σ Q) X.xe s
noncomputable def PS(X:Cx)(st:Stmt)(t:TS):Prop:=
 ∀(pins:List (Addr×Obj)) (s:af) (σ:St) (H:Hp) (D:Ends),Inv X pins σ H s->t D σ H->ak (aq X.prog X.w) X.A (exec st X.env) (SP X pins D) X.xe s
noncomputable def PSs(X:Cx)(st:List Stmt)(t:TS):Prop:=
 ∀(pins:List (Addr×Obj)) (s:af) (σ:St) (H:Hp) (D:Ends),Inv X pins σ H s->t D σ H->ak (aq X.prog X.w) X.A (execs st X.env) (SP X pins D) X.xe s
theorem thn{α:Type}{t:Sem α}{Q Q':α->af->Prop}{M:Model}{A:aA}{E:ae->af->Prop}{s:af}(h:ak M A t Q E s)(hQ:∀a s,Q a s->Q' a s):ak M A t Q' E s:=bQ h hQ λ_ _ x=>x
section
variable{X:Cx}
theorem bin{a b:Expr}{ta tb:TE}(ha:PE X a ta)(hb:PE X b tb){pins:List (Addr×Obj)}{s:af}{σ:St}{H:Hp}{R:V->V->Hp->Prop}(I:Inv X pins σ H s)(h:ta σ H λx H1=>tb σ H1 λy H2=>R x y H2)
  {α:Type}{Q:α->af->Prop}{f:ae->ae->Sem α}
  (hf:∀v u s2 x y H2,Inv X pins σ H2 s2->RelV x v->RelV y u->R x y H2->ak (aq X.prog X.w) X.A (f v u) Q X.xe s2) :
  ak (aq X.prog X.w) X.A (eval a X.env) (λv s₁=>ak (aq X.prog X.w) X.A (eval b X.env) (λu s₂=>ak (aq X.prog X.w) X.A (f v u) Q X.xe s₂) X.xe s₁) X.xe s:=by
 refine thn (ha pins s σ H _ I h) λv s1 ⟨x,H1,I1,r1,q1⟩=>?_
 refine thn (hb pins s1 σ H1 _ I1 q1) λu s2 ⟨y,H2,I2,r2,q2⟩=>?_
 exact hf v u s2 x y H2 I2 r1 r2 q2
noncomputable def gA(i:Nat):TE:=λσ H Q=>∃v,σ[i]? = some (some v)/\Q v H
noncomputable def tC(v:V):TE:=λ_ H Q=>Q v H
theorem iB{i:Nat}{x:Str}{pos:Pos}(hN:X.N[i]? = some x)(hv:fB X.env.scope x)(hd:(x==("__debug__" : Str))=false:=by decide)(hcd:(x==("__classdict__" : Str))=false:=by decide):PE X (.Name x pos) (gA i):=by
 intro pins s σ H Q I h;obtain⟨v,e,h⟩:=h;obtain⟨m,hn,hl⟩:=I.loc;obtain⟨u,r,l⟩:=hl i x v hN e hv;have fin:EP X pins σ Q u s:=⟨v,H,I,r,h⟩
 rcases l with ⟨hk,hm⟩|⟨hk,c,hc,hcell⟩
 ·exact wpAny_Name (wpAny_loadName_local I.ok.kind hk hn hm fin) hd
 ·rcases hk with hk|hk
  ·exact wpAny_Name (wpAny_loadName_cell I.ok.kind hk hc hcell fin) hd
  ·exact wpAny_Name (wpAny_loadName_free I.ok.kind hk hc hcell fin hcd) hd
theorem AB{i j pos}:PE X (.Constant (.int i) j pos) (tC (.int i)):=λ_ _ _ H _ I h=>wpAny_Constant_int ⟨.int i,H,I.tok _,⟨_,rfl⟩,h⟩
theorem vO{b j pos}:PE X (.Constant (.bool b) j pos) (tC (.bl b)):=λ_ _ _ H _ I h=>Constant_bool ⟨.bl b,H,I,rfl,h⟩
theorem A8{j pos}:PE X (.Constant .none j pos) (tC .non):=λ_ _ _ H _ I h=>Constant_none ⟨.non,H,I,rfl,h⟩
theorem uP{x j pos}:PE X (.Constant (.str x) j pos) (tC (.str x)):=λ_ _ _ H _ I h=>Calls.Constant_str ⟨.str x,H,I.tok _,⟨_,rfl⟩,h⟩
noncomputable def Gl(X:Cx)(x:Str):Prop:=X.env.kindOf x=some .globalImplicit
theorem lA{E:ae->af->Prop}{pins:List (Addr×Obj)}{s:af}{σ:St}{H:Hp}{x:Str}{u:ae}{pos:Pos}{Q:ae->af->Prop}(I:Inv X pins σ H s)(hg:Gl X x)(hm:X.mg x=some u)(h:Q u s)
  (hd:(x==("__debug__" : Str))=false:=by decide):ak (aq X.prog X.w) X.A (eval (.Name x pos) X.env) Q E s:=
 Calls.Name_function_global I.ok.kind hg (Calls.loadGlobal_global (by rw[I.ok.glob];exact I.mod.glob.keeps I.bk) hm h) hd
theorem eP{E:ae->af->Prop}{pins:List (Addr×Obj)}{s:af}{σ:St}{H:Hp}{x:Str}{u:ae}{pos:Pos}{Q:ae->af->Prop}(I:Inv X pins σ H s)(hg:Gl X x)(hm:X.mg x=none)(hv:bN x=some u)(h:Q u s)
  (hn:x≠"__name__":=by decide) (hd:(x==("__debug__" : Str))=false:=by decide):ak (aq X.prog X.w) X.A (eval (.Name x pos) X.env) Q E s:=by
 obtain⟨mb,h1,h2⟩:=I.mod.blt;exact Calls.Name_function_global I.ok.kind hg (Calls.loadGlobal_builtin (by rw[I.ok.glob];exact I.mod.glob.keeps I.bk) hm (by rw[I.ok.blt];exact h1.keeps I.bk) ((h2 x hn).trans hv) h) hd
theorem kM{x:Str}{v:V}{u:ae}{pos:Pos}(hg:Gl X x)(hm:X.mg x=some u)(r:RelV v u)(hd:(x==("__debug__" : Str))=false:=by decide):PE X (.Name x pos) (tC v):=
 λ_ _ _ H _ I h=>lA I hg hm ⟨v,H,I,r,h⟩ hd
theorem Ds{x:Str}{v:V}{u:ae}{pos:Pos}(hg:Gl X x)(hm:X.mg x=none)(hv:bN x=some u)(r:RelV v u)(hn:x≠"__name__":=by decide)(hd:(x==("__debug__" : Str))=false:=by decide):PE X (.Name x pos) (tC v):=
 λ_ _ _ H _ I h=>eP I hg hm hv ⟨v,H,I,r,h⟩ hn hd
variable{a b:Expr}{ta tb:TE}{pos:Pos}
variable{tA tB':TT}{rest:List Expr}
noncomputable def yb(t u:TT):TT:=λσ H Q=>t σ H λc H1=>if c=true then u σ H1 Q else Q false H1
noncomputable def tOr(t u:TT):TT:=λσ H Q=>t σ H λc H1=>if c=true then Q true H1 else u σ H1 Q
noncomputable def Cg(t:TT):TT:=λσ H Q=>t σ H λc H1=>Q (!c) H1
theorem uh(ha:PT X a tA):PW X (.BoolOp .And [a] pos) tA:=by
 intro wh pins s σ H Q I h;refine isTrue_and (thn (ha pins s σ H Q I h) λc s1 e=>?_);cases c with
 |true=>exact isTrue_and_nil e
 |false=>exact e
theorem Bd(ha:PT X a tA):PW X (.BoolOp .Or [a] pos) tA:=by
 intro wh pins s σ H Q I h;refine isTrue_or (thn (ha pins s σ H Q I h) λc s1 e=>?_);cases c with
 |false=>exact isTrue_or_nil e
 |true=>exact e
theorem DO(ha:PT X a tA)(hb:PW X (.BoolOp .And (b::rest) pos) tB'):PW X (.BoolOp .And (a::b::rest) pos) (yb tA tB'):=by
 intro wh pins s σ H Q I h;refine isTrue_and (thn (ha pins s σ H _ I h) λc s1 ⟨H1,I1,q1⟩=>?_);cases c with
 |true=>exact hb wh pins s1 σ H1 Q I1 q1
 |false=>exact⟨H1,I1,q1⟩
theorem ya(ha:PT X a tA)(hb:PW X (.BoolOp .Or (b::rest) pos) tB'):PW X (.BoolOp .Or (a::b::rest) pos) (tOr tA tB'):=by
 intro wh pins s σ H Q I h;refine isTrue_or (thn (ha pins s σ H _ I h) λc s1 ⟨H1,I1,q1⟩=>?_);cases c with
 |true=>exact⟨H1,I1,q1⟩
 |false=>exact hb wh pins s1 σ H1 Q I1 q1
theorem yf(ha:PT X a tA):PT X (.UnaryOp .Not a pos) (Cg tA):=by
 intro pins s σ H Q I h;exact isTrue_not (ha pins s σ H (λc H1=>Q (!c) H1) I h)
noncomputable def yV(ta tb:TE):TE:=λσ H Q=>ta σ H λx H1=>∃c,x=.bl c/\if c=true then tb σ H1 Q else Q (.bl false) H1
noncomputable def uX(ta tb:TE):TE:=λσ H Q=>ta σ H λx H1=>∃c,x=.bl c/\if c=true then Q (.bl true) H1 else tb σ H1 Q
noncomputable def DC(ta:TE):TE:=λσ H Q=>ta σ H λx H1=>∃c,x=.bl c/\Q (.bl (!c)) H1
theorem sQ{op}{t:TE}(h:PE X a t):PE X (.BoolOp op [a] pos) t:=λpins s σ H Q I hw=>BoolOp_one (h pins s σ H Q I hw)
theorem uO(ha:PE X a ta)(hb:PE X (.BoolOp .And (b::rest) pos) tb):PE X (.BoolOp .And (a::b::rest) pos) (yV ta tb):=by
 intro pins s σ H Q I h;refine BoolOp_and (thn (ha pins s σ H _ I h) λv s1 ⟨x,H1,I1,r1,q1⟩=>?_);obtain⟨c,rfl,q1⟩:=q1;cases r1;refine bH ?_;cases c with
 |true=>exact hb pins s1 σ H1 Q I1 q1
 |false=>exact⟨.bl false,H1,I1,rfl,q1⟩
theorem vt(ha:PE X a ta)(hb:PE X (.BoolOp .Or (b::rest) pos) tb):PE X (.BoolOp .Or (a::b::rest) pos) (uX ta tb):=by
 intro pins s σ H Q I h;refine BoolOp_or (thn (ha pins s σ H _ I h) λv s1 ⟨x,H1,I1,r1,q1⟩=>?_);obtain⟨c,rfl,q1⟩:=q1;cases r1;refine bH ?_;cases c with
 |false=>exact hb pins s1 σ H1 Q I1 q1
 |true=>exact⟨.bl true,H1,I1,rfl,q1⟩
theorem CU(ha:PE X a ta):PE X (.UnaryOp .Not a pos) (DC ta):=by
 intro pins s σ H Q I h;refine UnaryOp_ (thn (ha pins s σ H _ I h) λv s1 ⟨x,H1,I1,r1,q1⟩=>?_);obtain⟨c,rfl,q1⟩:=q1;cases r1;exact not_of (bH ⟨.bl (!c),H1,I1,rfl,q1⟩)
noncomputable def tIf(t:TT)(ta tb:TE):TE:=λσ H Q=>t σ H λc H1=>if c=true then ta σ H1 Q else tb σ H1 Q
theorem BO{c:Expr}(hc:PT X c tA)(ha:PE X a ta)(hb:PE X b tb):PE X (.IfExp c a b pos) (tIf tA ta tb):=by
 intro pins s σ H Q I h;refine wpAny_IfExp (thn (hc pins s σ H _ I h) λd s1 ⟨H1,I1,q1⟩=>?_);cases d with
 |true=>exact ha pins s1 σ H1 Q I1 q1
 |false=>exact hb pins s1 σ H1 Q I1 q1
end
noncomputable def SqL(K:aB)(H:Hp)(a:Addr)(xs:List V):Prop:=
 Rd H a (.lst xs) \/
  ∃(o:Obj) (its:Array ae) (n:Nat),K.lookup a=some o/\o.cls=.type "list"/\o.dict=none/\o.data=.seq its n/\its.size<=aV/\Vals xs its.toList
noncomputable def SqT(K:aB)(H:Hp)(a:Addr)(xs:List V):Prop:=
 Rd H a (.tup xs) \/
  ∃(o:Obj) (its:Array ae) (n:Nat),K.lookup a=some o/\o.cls=.type "tuple"/\o.data=.seq its n/\its.size<=aV/\Vals xs its.toList
noncomputable def Cr:ae->Option V
 | .none=>some .non
 | .bool b=>some (.bl b)
 | .int i _=>some (.int i)
 | .str x _=>some (.str x)
 | .bytes b _=>some (.byt b)
 | .float b _=>some (.flt b)
 | .ref a=>some (.ref a)
 | .type n=>some (.ty n)
 |_=>none
theorem RelV.abs{x:V}{u:ae}(r:RelV x u):Cr u=some x:=by
 cases x with
 |non=>cases r;rfl
 |bl _=>cases r;rfl
 |int _=>obtain⟨t,rfl⟩:=r;rfl
 |str _=>obtain⟨t,rfl⟩:=r;rfl
 |byt _=>obtain⟨t,rfl⟩:=r;rfl
 |flt _=>obtain⟨t,rfl⟩:=r;rfl
 |ref _=>cases r;rfl
 |ty _=>cases r;rfl
theorem RelV.inj{x y:V}{u:ae}(r:RelV x u)(q:RelV y u):x=y:=bU (r.abs.symm.trans q.abs)
theorem Vals.inj{xs ys:List V}{us:List ae}(h:Vals xs us)(h':Vals ys us):xs=ys:=by
 induction h generalizing ys with
 |nil=>cases h';rfl
 |cons r t ih=>cases h' with
  |cons r' t'=>rw[r.inj r',ih t']
section
variable{X:Cx}{pins:List (Addr×Obj)}{σ:St}{H:Hp}{s:af}{a:Addr}{xs ys:List V}
theorem SqL.of{K:aB}(h:H a=some (.lst xs)):SqL K H a xs:=.inl (.inl h)
theorem SqT.of{K:aB}(h:H a=some (.tup xs)):SqT K H a xs:=.inl (.inl h)
theorem Inv.list(I:Inv X pins σ H s)(h:SqL X.K H a xs):∃its:List ae,Vals xs its/\PlainL s.heap a its.toArray/\xs.length<=sizeLine:=by
 rcases h with h|⟨o,its,n,hk,hc,hd,hs,hz,r⟩
 ·obtain⟨z,its,n,r,e⟩:=h.ok I.hok;exact⟨its,r,⟨_,n,e,rfl,rfl,rfl⟩,z⟩
 ·refine⟨its.toList,r,⟨o,n,I.kIn a o hk,hc,hd,by simpa using hs⟩,?_⟩;have e:=r.length;simp only[a9]at e;lia
theorem Inv.tuple(I:Inv X pins σ H s)(h:SqT X.K H a xs):∃its:List ae,Vals xs its/\IsTup s.heap a its.toArray/\xs.length<=sizeLine:=by
 rcases h with h|⟨o,its,n,hk,hc,hs,hz,r⟩
 ·obtain⟨z,its,r,p⟩:=h.ok I.hok;exact⟨its,r,p,z⟩
 ·refine⟨its.toList,r,⟨o,I.kIn a o hk,hc,n,by simpa using hs⟩,?_⟩;have e:=r.length;simp only[a9]at e;lia
theorem Inv.list_inj(I:Inv X pins σ H s)(h:SqL X.K H a xs)(h':SqL X.K H a ys):xs=ys:=by
 obtain⟨its,r,⟨o,n,e,_,_,d⟩,_⟩:=I.list h;obtain⟨its',r',⟨o',n',e',_,_,d'⟩,_⟩:=I.list h';rw[e]at e';cases e';rw[d]at d';injection d' with d1 _
 have:its=its':=by simpa using congrArg Array.toList d1
 subst this;exact r.inj r'
theorem Inv.tuple_inj(I:Inv X pins σ H s)(h:SqT X.K H a xs)(h':SqT X.K H a ys):xs=ys:=by
 obtain⟨its,r,⟨o,e,_,n,d⟩,_⟩:=I.tuple h;obtain⟨its',r',⟨o',e',_,n',d'⟩,_⟩:=I.tuple h';rw[e]at e';cases e';rw[d]at d';injection d' with d1 _
 have:its=its':=by simpa using congrArg Array.toList d1
 subst this;exact r.inj r'
end
abbrev Cx.wish(X:Cx)(E:ae->af->Prop):Cx:={X with xe:=E}
abbrev Cx.nox(X:Cx):Cx:=X.wish λ_ _=>False
theorem Cx.Ok.wish{X:Cx}(ok:X.Ok)(E:ae->af->Prop):(X.wish E).Ok:=
 ⟨ok.mod,ok.kind,ok.glob,ok.blt,ok.above,ok.inj,ok.has,ok.cab,ok.hd,ok.frames,ok.stk,ok.exf,ok.bs,ok.bsz,ok.noex,ok.exfs,ok.funs,ok.frf⟩
theorem Cx.Ok.unwish{X:Cx}{E:ae->af->Prop}(ok:(X.wish E).Ok):X.Ok:=
 ⟨ok.mod,ok.kind,ok.glob,ok.blt,ok.above,ok.inj,ok.has,ok.cab,ok.hd,ok.frames,ok.stk,ok.exf,ok.bs,ok.bsz,ok.noex,ok.exfs,ok.funs,ok.frf⟩
section
variable{X:Cx}{pins:List (Addr×Obj)}{σ:St}{H:Hp}{s:af}{E:ae->af->Prop}
theorem Inv.wish(I:Inv X pins σ H s)(E:ae->af->Prop):Inv (X.wish E) pins σ H s:=⟨I.ok.wish E,I.os,I.bare,I.base,I.loc,I.cell,I.free,I.freeC,I.pin,I.hok,I.len⟩
theorem Inv.unwish(I:Inv (X.wish E) pins σ H s):Inv X pins σ H s:=⟨I.ok.unwish,I.os,I.bare,I.base,I.loc,I.cell,I.free,I.freeC,I.pin,I.hok,I.len⟩
theorem SP.unwish{D:Ends}{f:Flow}{s':af}(h:SP (X.wish E) pins D f s'):SP X pins D f s':=by
 cases f with
 |next=>obtain⟨σ',H',I,q⟩:=h;exact⟨σ',H',I.unwish,q⟩
 |brk=>obtain⟨σ',H',I,q⟩:=h;exact⟨σ',H',I.unwish,q⟩
 |cont=>obtain⟨σ',H',I,q⟩:=h;exact⟨σ',H',I.unwish,q⟩
 |ret u=>obtain⟨v,σ',H',I,r,q⟩:=h;exact⟨v,σ',H',I.unwish,r,q⟩
end
section
variable{X:Cx}{st:Stmt}{rest:List Stmt}{t u:TS}{e:Expr}{te:TE}{pos:Pos}
noncomputable def eI:TS:=λD σ H=>D.nx σ H
noncomputable def DL(t u:TS):TS:=λD σ H=>t {D with nx:=u D} σ H
theorem DQ:PSs X [] eI:=λ_ _ σ H _ I h=>wpAny_execs_nil ⟨σ,H,I,h⟩
theorem tM(h1:PS X st t)(h2:PSs X rest u):PSs X (st::rest) (DL t u):=by
 intro pins s σ H D I h;refine wpAny_execs_cons (thn (h1 pins s σ H {D with nx:=u D} I h) λf s1 q=>?_);cases f with
 |next=>
  obtain⟨σ',H',I',q⟩:=q;exact h2 pins s1 σ' H' D I' q
 |ret v=>exact q
 |brk=>exact q
 |cont=>exact q
noncomputable def BA:TS:=λD σ H=>D.bk σ H
noncomputable def C7:TS:=λD σ H=>D.ct σ H
theorem yD:PS X (.Pass pos) eI:=λ_ _ σ H _ I h=>wpAny_Pass ⟨σ,H,I,h⟩
theorem Dr:PS X (.Break pos) BA:=λ_ _ σ H _ I h=>wpAny_Break ⟨σ,H,I,h⟩
theorem Bp:PS X (.Continue pos) C7:=λ_ _ σ H _ I h=>wpAny_Continue ⟨σ,H,I,h⟩
theorem Inv.quiet{pins:List (Addr×Obj)}{σ:St}{H:Hp}{s:af}(I:Inv X pins σ H s):interactive X.env=false:=by simp[interactive,I.ok.kind]
noncomputable def yM(te:TE):TS:=λD σ H=>te σ H λ_ H1=>D.nx σ H1
theorem jG(he:PE X e te)(hs:swapsWith e none pos.line X.env=pure false:=by rfl):PS X (.Expr e pos) (yM te):=by
 intro pins s σ H D I h;exact wpAny_Expr_any (thn (he pins s σ H _ I h) λv s1 ⟨x,H1,I1,r1,q1⟩=>⟨σ,H1,I1,q1⟩) I.quiet hs
noncomputable def vx(te:TE):TS:=λD σ H=>te σ H D.rt
theorem m9(he:PE X e te):PS X (.Return (some e) pos) (vx te):=by
 intro pins s σ H D I h;exact wpAny_Return_some (thn (he pins s σ H _ I h) λv s1 ⟨x,H1,I1,r1,q1⟩=>⟨x,σ,H1,I1,r1,q1⟩)
noncomputable def B6:TS:=λD _ H=>D.rt .non H
theorem wB:PS X (.Return none pos) B6:=λ_ _ σ H _ I h=>wpAny_Return_none ⟨.non,σ,H,I,rfl,h⟩
noncomputable def fg(c:TT)(t u:TS):TS:=λD σ H=>c σ H λb H1=>if b=true then t D σ H1 else u D σ H1
theorem DR{c:Expr}{a b:List Stmt}{tc:TT}(hc:PT X c tc)(ha:PSs X a t)(hb:PSs X b u):PS X (.If c a b pos) (fg tc t u):=by
 intro pins s σ H D I h;refine wpAny_If (thn (hc pins s σ H _ I h) λd s1 ⟨H1,I1,q1⟩=>?_);cases d with
 |true=>exact ha pins s1 σ H1 D I1 q1
 |false=>exact hb pins s1 σ H1 D I1 q1
end
abbrev TG:=V->St->Hp->(St->Hp->Prop)->Prop
abbrev TGs:=List V->St->Hp->(St->Hp->Prop)->Prop
noncomputable def PG(X:Cx)(target:Expr)(t:TG):Prop:=
 ∀(pins:List (Addr×Obj)) (s:af) (σ:St) (H:Hp) (v:V) (u:ae) (Q:St->Hp->Prop),Inv X pins σ H s->RelV v u->t v σ H Q ->
  ak (aq X.prog X.w) X.A (assign target X.env u) (λ_ s'=>∃σ' H',Inv X pins σ' H' s'/\Q σ' H') X.xe s
noncomputable def PGs(X:Cx)(ts:List Expr)(t:TGs):Prop:=
 ∀(pins:List (Addr×Obj)) (s:af) (σ:St) (H:Hp) (vs:List V) (us:List ae) (Q:St->Hp->Prop),Inv X pins σ H s->Vals vs us->t vs σ H Q ->
  ak (aq X.prog X.w) X.A (assignInOrder ((assignEach ts X.env).map (·.2)) us) (λ_ s'=>∃σ' H',Inv X pins σ' H' s'/\Q σ' H') X.xe s
abbrev lG:=V->V->V->Hp->(Hp->Prop)->Prop
noncomputable def pG(X:Cx)(t:lG):Prop:=
 ∀(pins:List (Addr×Obj)) (s:af) (σ:St) (H:Hp) (o i v:V) (ov iv u:ae) (Q:Hp->Prop),Inv X pins σ H s->RelV o ov->RelV i iv->RelV v u->t o i v H Q ->
  ak (aq X.prog X.w) X.A (setItem ov iv u) (λ_ s'=>∃H',Inv X pins σ H' s'/\Q H') X.xe s
section
variable{X:Cx}{pos:Pos}
noncomputable def eZ(i:Nat):TG:=λv σ H Q=>Q (σ.set i (some v)) H
theorem Az{i:Nat}{x:Str}(hN:X.N.Nodup)(hi:X.N[i]? = some x)(hx:Loc X.env.scope x)(hf:X.fn x=true\/X.env.scope.names.lookup x=some .local:=by first|exact .inl rfl|exact .inr rfl|assumption):PG X (.Name x pos) (eZ i):=by
 intro pins s σ H v u Q I r h;exact wpAny_assign_Name (nU I hN hi hx r (λs' I'=>⟨_,H,I',h⟩) hf)
noncomputable def nW:TGs:=λvs σ H Q=>vs=[]/\Q σ H
noncomputable def mv(t:TG)(u:TGs):TGs:=λvs σ H Q=>∃v r,vs=v::r/\t v σ H λσ' H'=>u r σ' H' Q
theorem tI:PGs X [] nW:=by
 intro pins s σ H vs us Q I r h;obtain⟨e,h⟩:=h;subst e;cases r;exact assignInOrder_nil ⟨σ,H,I,h⟩
theorem CD{e:Expr}{es:List Expr}{t:TG}{u:TGs}(h1:PG X e t)(h2:PGs X es u)
  (hs:(assignEach (e::es) X.env).map (·.2)=assign e X.env::(assignEach es X.env).map (·.2):=by rfl):PGs X (e::es) (mv t u):=by
 intro pins s σ H vs us Q I r h;obtain⟨v,vr,e1,h⟩:=h;subst e1;cases r with
 |cons r rr=>
  rw[hs];refine assignInOrder_cons (thn (h1 pins s σ H _ _ _ I r h) λ_ s1 ⟨σ1,H1,I1,q1⟩=>?_);exact h2 pins s1 σ1 H1 _ _ Q I1 rr q1
noncomputable def lW(K:aB)(n:Nat)(t:TGs):TG:=λv σ H Q=>∃a xs,v=.ref a/\SqT K H a xs/\xs.length=n/\t xs σ H Q
theorem Cq{es:List Expr}{k:Nat}{t:TGs}{n:Nat}(hc:X.calm=true)(h:PGs X es t)
  (hn:(assignEach es X.env).length=n:=by rfl) (hst:(assignEach es X.env).findIdx? (·.1)=none:=by rfl):PG X (.Tuple es k pos) (lW X.K n t):=by
 intro pins s σ H v u Q I r hw;obtain⟨a,xs,e1,hq,hl,hw⟩:=hw;subst e1;cases r;obtain⟨its,rv,ht,hz⟩:=I.tuple hq;refine assign_Tuple_tuple (I.ok.hd hc) ht (by simp[hn,<-hl,rv.length]) hst λh' hx=>?_
 have I1:Inv X pins σ H {s with heap:=h'}:=I.kept (t':=s.toks) λb o e=>hx b o (aX (aH e)) e
 exact h pins _ σ H xs _ Q I1 (by simpa using rv) hw
noncomputable def nq(to ti:TE)(t:lG):TG:=λv σ H Q=>to σ H λo H1=>ti σ H1 λi H2=>t o i v H2 λH3=>Q σ H3
theorem CA{o i:Expr}{to ti:TE}{t:lG}(ho:PE X o to)(hi:PE X i ti)(hs:pG X t)
  (ha:∀v,assign (.Subscript o i pos) X.env v=(do
   let ov <-holding [v] (eval o X.env)
   let iv <-holding [v,ov] (eval i X.env)
   standAt pos
   holding [v,ov,iv] (setItem ov iv v)
   release [v,ov,iv] []):=by intro _;rfl):PG X (.Subscript o i pos) (nq to ti t):=by
 intro pins s σ H v u Q I r h;rw[ha];refine ag (bF (thn (ho pins s σ H _ I h) λov s1 ⟨x,H1,I1,r1,q1⟩=>?_));refine ag (bF (thn (hi pins s1 σ H1 _ I1 q1) λiv s2 ⟨y,H2,I2,r2,q2⟩=>?_));refine ag (wpAny_standAt (ag (bF (thn (hs pins s2 σ H2 x y v ov iv u _ I2 r1 r2 r q2) λ_ s3 ⟨H3,I3,q3⟩=>?_))));exact wpAny_release ⟨σ,H3,I3,q3⟩
noncomputable def iZ(te:TE)(g:TG):TS:=λD σ H=>te σ H λx H1=>g x σ H1 D.nx
theorem nZ{tg e:Expr}{te:TE}{g:TG}(he:PE X e te)(hg:PG X tg g)(hs:swapsWithSole [tg] e pos.line X.env=pure false:=by rfl)(hw:swappedStores [tg] e X.env=pure none:=by rfl)
  (h1:(assignEach [tg] X.env).map (·.2)=[assign tg X.env]:=by rfl):PS X (.Assign [tg] e pos) (iZ te g):=by
 intro pins s σ H D I h;refine wpAny_Assign_stores (thn (he pins s σ H _ I h) λv s1 ⟨x,H1,I1,r1,q1⟩=>?_) hs hw;rw[h1];exact thn (hg pins s1 σ H1 x v _ I1 r1 q1) λ_ s2 q=>q
theorem nh{i:Nat}{x:Str}{e:Expr}{te:TE}{pos':Pos}(hN:X.N.Nodup)(hi:X.N[i]? = some x)(hx:Loc X.env.scope x)(he:PE X e te)(hs:swapsWith e (some (.Name x pos')) pos.line X.env=pure false:=by rfl)(hf:X.fn x=true\/X.env.scope.names.lookup x=some .local:=by first|exact .inl rfl|exact .inr rfl|assumption) :
  PS X (.Assign [.Name x pos'] e pos) (iZ te (eZ i)):=by
 intro pins s σ H D I h;refine wpAny_Assign_Name (thn (he pins s σ H _ I h) λv s1 ⟨y,H1,I1,r1,q1⟩=>?_) hs;exact nU I1 hN hi hx r1 (λs2 I2=>⟨_,H1,I2,q1⟩) hf
end
section
variable{X:Cx}{pos:Pos}
end
structure It where
 go:Nat->Hp->Prop
 yld:Nat->Hp->V->Hp->Prop
 stop:Nat->Hp->Prop
noncomputable def c_(X:Cx)(pins:List (Addr×Obj))(H:Hp)(b:Addr):Prop:=
 H b=none/\b≠X.env.locals/\b∉X.fs/\(b∈X.ex\/X.s₀.heap.objs.size<=b)/\(∀x c,X.env.cells.lookup x=some c->c≠b)/\∀p∈X.pn++pins,p.1≠b
theorem Inv.fpOk{X:Cx}{pins:List (Addr×Obj)}{σ:St}{H H':Hp}{s:af}{b:Addr}(I:Inv X pins σ H s)(hb:s.heap.objs.size<=b)(hn:H' b=none):c_ X pins H' b:=by
 refine⟨hn,Nat.ne_of_gt (bA I.lt hb),I.nofs hb,.inr (bD I.sz hb),λx c e z=>?_,λp hp z=>?_⟩
 ·obtain⟨v,q⟩:=I.cell x c e;exact absurd (bA q.lt (by rw[z];exact hb)) (bM _)
 ·exact absurd (bA (aH (I.pin p hp).1) (by rw[z];exact hb)) (bM _)
structure Turn(P:aC)(w:av)(K:aB)(tg:Expr)(J:It)(fp:List Addr)(it:Addr)(tn:Nat->Heap->Prop):Prop where
 mem:it∈fp
 obj:∀i h,tn i h->∀b∈fp,∃o,h.get? b=some o/\∀v,o.data≠.cell v
 keep:∀i h h',tn i h->(∀b∈fp,∀o,h.get? b=some o->h'.get? b=some o)->tn i h'
 item:∀(X:Cx),X.prog=P->X.w=w->X.K=K->X.calm=true->∀(i:Nat) (pins:List (Addr×Obj)) (s:af) (σ:St) (H:Hp) (E:ae->af->Prop),Inv X pins σ H s->(∀b∈fp,c_ X pins H b)->tn i s.heap->J.go i H ->
  ak (aq P w) X.A (pyNext (.ref it)) (λr s1=>∃u,r=some u /\
   ak (aq P w) X.A (letOwnedTupleGo tg (.ref it) u) (λ_ s2=>∃x H',Inv X pins σ H' s2/\RelV x u/\J.yld i H x H'/\tn (i+1) s2.heap/\∀b∈fp,H' b=none) E s1) E s
 done:∀(X:Cx),X.prog=P->X.w=w->X.K=K->X.calm=true->∀(i:Nat) (pins:List (Addr×Obj)) (s:af) (σ:St) (H:Hp) (E:ae->af->Prop),Inv X pins σ H s->(∀b∈fp,c_ X pins H b)->tn i s.heap->J.stop i H ->
  ak (aq P w) X.A (pyNext (.ref it)) (λr s1=>r=none/\Inv X pins σ H s1) E s
 self:∀(A:aA) (i:Nat) (s:af) (Q:ae->af->Prop) (E:ae->af->Prop),tn i s.heap->Q (.ref it) s->ak (aq P w) A (pyIter (.ref it)) Q E s
abbrev TI:=St->Hp->(It->Hp->Prop)->Prop
noncomputable def PIE(X:Cx)(pins:List (Addr×Obj))(σ:St)(tg:Expr)(R:It->Hp->Prop)(itv:ae)(s2:af):Prop:=
 ∃(it:Addr) (fp:List Addr) (tn:Nat->Heap->Prop) (J:It) (H':Hp),itv=.ref it/\Inv X pins σ H' s2/\Turn X.prog X.w X.K tg J fp it tn/\tn 0 s2.heap/\(∀b∈fp,c_ X pins H' b)/\R J H'
noncomputable def PI(X:Cx)(tg iter:Expr)(wi:TI):Prop:=
 ∀(pins:List (Addr×Obj)) (s:af) (σ:St) (H:Hp) (R:It->Hp->Prop),Inv X pins σ H s->wi σ H R ->
  ak (aq X.prog X.w) X.A (eval iter X.env) (λv s1=>ak (aq X.prog X.w) X.A (pyIter v) (PIE X pins σ tg R) X.xe s1) X.xe s
theorem kZ{M:Model}{A:aA}{E:ae->af->Prop}{s:af}{tg:Expr}{it:Addr}{u:ae}{o:Obj}{n:String}{vs:Array ae}{Q:Unit->af->Prop}(ho:s.heap.get? it=some o)(hc:o.cls=.type n)(hd:o.data=.fields vs)
  (hn:["enumerate","zip","dict_itemiterator","dict_reverseitemiterator","odict_iterator","itertools.zip_longest","itertools.pairwise"].contains n=false) (hQ:Q () s):ak M A (letOwnedTupleGo tg (.ref it) u) Q E s:=by
 unfold letOwnedTupleGo;cases tg<;>first
  |exact aw hQ
  | (cases u<;>first
    |exact aw hQ
    | (refine ag (wpAny_load ho ?_)
       rw[hc,hd];show ak M A (if (["enumerate","zip","dict_itemiterator","dict_reverseitemiterator","odict_iterator","itertools.zip_longest","itertools.pairwise"].contains n&&vs[0]? == some (rawInt _))=true then _ else _) Q E s;rw[if_neg (by intro h;rw[hn,Bool.false_and]at h;cases h)];exact aw hQ))
noncomputable def Itl(K:aB)(a:Addr):It:=
 ⟨λi H=>∃xs x,SqL K H a xs/\xs[i]? = some x,λi H x H'=>H'=H/\∀xs,SqL K H a xs->xs[i]? = some x,λi H=>∃xs,SqL K H a xs/\xs.length<=i⟩
noncomputable def Itt(K:aB)(a:Addr):It:=
 ⟨λi H=>∃xs x,SqT K H a xs/\xs[i]? = some x,λi H x H'=>H'=H/\∀xs,SqT K H a xs->xs[i]? = some x,λi H=>∃xs,SqT K H a xs/\xs.length<=i⟩
noncomputable def Itr(lo:Int)(n:Nat):It:=⟨λi _=>i<n,λi H x H'=>H'=H/\x=.int (lo+i),λi _=>n<=i⟩
theorem wy{P:aC}{w:av}{K:aB}{tg:Expr}(a it:Addr):Turn P w K tg (Itl K a) [it] it (λi h=>h.IsListIter it a i) where
 mem:=by simp
 obj:=λi h st b hb=>by
  have e:b=it:=by simpa using hb
  subst e;obtain⟨o,e,c,d⟩:=st;exact⟨o,e,λv z=>by rw[d]at z;cases z⟩
 keep:=λi h h' st k=>st.at λo e=>k it (by simp) o e
 item:=by
  intro X hP hw hK hc i pins s σ H E I hf st hg;subst hP hw hK;obtain⟨xs,x,hq,hx⟩:=hg;obtain⟨its,rv,p,hz⟩:=I.list hq;obtain⟨u,hu,ru⟩:=rv.get hx;obtain⟨f0,f1,f2,f3,f4,f5⟩:=hf it (by simp);refine wpAny_pyNext_list_item st p.isList (x:=u) (by simpa using hu) λh' st' sb=>?_
  have I1:Inv X pins σ H {s with heap:=h'}:=I.turned (t':=s.toks) (λb o hb e=>(sb.2 b hb).trans e) f0 f1 f3 f4 f5;obtain⟨o,e,c,d⟩:=id st';exact⟨u,rfl,kZ (s:={s with heap:=h'}) e c d (by decide) ⟨x,H,I1,ru,⟨rfl,λys hy=>by rw[I.list_inj hy hq];exact hx⟩,st',λb hb=>(hf b hb).1⟩⟩
 done:=by
  intro X hP hw hK hc i pins s σ H E I hf st hg;subst hP hw hK;obtain⟨xs,hq,hx⟩:=hg;obtain⟨its,rv,p,hz⟩:=I.list hq;obtain⟨f0,f1,f2,f3,f4,f5⟩:=hf it (by simp);have hl:=rv.length;exact wpAny_pyNext_list_end (I.ok.hd hc) st p.isList (by simp;lia) λh' eb=>⟨rfl,I.turned (t':=s.toks) (λb o hb e=>eb b o hb e) f0 f1 f3 f4 f5⟩
 self:=λ_ _ _ _ _ st h=>wpAny_pyIter_listiter st h
theorem vy{P:aC}{w:av}{K:aB}{tg:Expr}(a it:Addr):Turn P w K tg (Itt K a) [it] it (λi h=>h.IsTupleIter it a i) where
 mem:=by simp
 obj:=λi h st b hb=>by
  have e:b=it:=by simpa using hb
  subst e;obtain⟨o,e,c,d⟩:=st;exact⟨o,e,λv z=>by rw[d]at z;cases z⟩
 keep:=λi h h' st k=>st.at λo e=>k it (by simp) o e
 item:=by
  intro X hP hw hK hc i pins s σ H E I hf st hg;subst hP hw hK;obtain⟨xs,x,hq,hx⟩:=hg;obtain⟨its,rv,p,hz⟩:=I.tuple hq;obtain⟨u,hu,ru⟩:=rv.get hx;obtain⟨f0,f1,f2,f3,f4,f5⟩:=hf it (by simp);refine wpAny_pyNext_tuple_item st (show s.heap.IsTuple a its.toArray from p) (x:=u) (by simpa using hu) λh' st' sb=>?_
  have I1:Inv X pins σ H {s with heap:=h'}:=I.turned (t':=s.toks) (λb o hb e=>(sb.2 b hb).trans e) f0 f1 f3 f4 f5;obtain⟨o,e,c,d⟩:=id st';exact⟨u,rfl,kZ (s:={s with heap:=h'}) e c d (by decide) ⟨x,H,I1,ru,⟨rfl,λys hy=>by rw[I.tuple_inj hy hq];exact hx⟩,st',λb hb=>(hf b hb).1⟩⟩
 done:=by
  intro X hP hw hK hc i pins s σ H E I hf st hg;subst hP hw hK;obtain⟨xs,hq,hx⟩:=hg;obtain⟨its,rv,p,hz⟩:=I.tuple hq;obtain⟨f0,f1,f2,f3,f4,f5⟩:=hf it (by simp);have hl:=rv.length;exact wpAny_pyNext_tuple_end (I.ok.hd hc) st (show s.heap.IsTuple a its.toArray from p) (by simp;lia) λh' eb=>⟨rfl,I.turned (t':=s.toks) (λb o hb e=>eb b o hb e) f0 f1 f3 f4 f5⟩
 self:=λ_ _ _ _ _ st h=>wpAny_pyIter_tupleiter st h
theorem sO{P:aC}{w:av}{K:aB}{tg:Expr}(it:Addr)(lo:Int)(n:Nat):Turn P w K tg (Itr lo n) [it] it (λi h=>IsRangeIter h it (lo+(i:Nat) * 1) ((n:Int)-(i:Nat)) 1) where
 mem:=by simp
 obj:=λi h st b hb=>by
  have e:b=it:=by simpa using hb
  subst e;exact⟨_,st,λv z=>by
   have z':Data.fields _=Data.cell v:=z;cases z'⟩
 keep:=λi h h' st k=>k it (by simp) _ st
 item:=by
  intro X hP hw hK hc i pins s σ H E I hf st hg;subst hP hw hK;obtain⟨f0,f1,f2,f3,f4,f5⟩:=hf it (by simp);have W:=Walks.range (prog:=X.prog) (w:=X.w) (I.ok.hd hc) it lo 1 n;refine W.item i s _ _ hg st λv h' tk hv st' kk=>?_
  obtain⟨t,rfl⟩:=hv;have I1:Inv X pins σ H {s with heap:=h',toks:=tk}:=I.turned (λb o hb e=>kk b o (by simpa using hb) e) f0 f1 f3 f4 f5;refine⟨_,rfl,kZ (s:={s with heap:=h',toks:=tk}) (n:="range_iterator") st' rfl rfl (by decide) ⟨.int (lo+i),H,I1,⟨t,?_⟩,⟨rfl,rfl⟩,st',λb hb=>(hf b hb).1⟩⟩;rw[Int.mul_one]
 done:=by
  intro X hP hw hK hc i pins s σ H E I hf st hg;subst hP hw hK;obtain⟨f0,f1,f2,f3,f4,f5⟩:=hf it (by simp);exact wpAny_pyNext_range_end (I.ok.hd hc) st (by have:n<=i:=hg;lia) λh' eb=>⟨rfl,I.turned (t':=s.toks) (λb o hb e=>eb b o hb e) f0 f1 f3 f4 f5⟩
 self:=λ_ _ _ _ _ st h=>wpAny_pyIter_rangeiter st h
section
variable{X:Cx}{tg:Expr}
noncomputable def sR(K:aB)(tl:TE):TI:=λσ H R=>tl σ H λx H1=>∃a,x=.ref a/\(∃xs,SqL K H1 a xs)/\R (Itl K a) H1
noncomputable def uY(K:aB)(tl:TE):TI:=λσ H R=>tl σ H λx H1=>∃a,x=.ref a/\(∃xs,SqT K H1 a xs)/\R (Itt K a) H1
theorem Cy{l:Expr}{tl:TE}(hl:PE X l tl):PI X tg l (sR X.K tl):=by
 intro pins s σ H R I h;refine thn (hl pins s σ H _ I h) λv s1 ⟨x,H1,I1,r1,q1⟩=>?_
 obtain⟨a,e,⟨xs,hq⟩,q⟩:=q1;subst e;cases r1;obtain⟨its,rv,p,hz⟩:=I1.list hq;refine wpAny_pyIter_list p.isList ?_;refine⟨s1.heap.objs.size,[s1.heap.objs.size],_,_,H1,rfl,I1.kept (t':=s1.toks) λb o e=>Heap.get?_push_of_some _ e,wy a _,⟨_,Heap.get?_push_size _ rfl,rfl,rfl⟩,λb hb=>?_,q⟩;have e:b=s1.heap.objs.size:=by simpa using hb
 subst e;exact I1.fpOk (aD _) (I1.hok.fresh (aD _))
theorem t4{l:Expr}{tl:TE}(hl:PE X l tl):PI X tg l (uY X.K tl):=by
 intro pins s σ H R I h;refine thn (hl pins s σ H _ I h) λv s1 ⟨x,H1,I1,r1,q1⟩=>?_
 obtain⟨a,e,⟨xs,hq⟩,q⟩:=q1;subst e;cases r1;obtain⟨its,rv,p,hz⟩:=I1.tuple hq;refine wpAny_pyIter_tuple (show s1.heap.IsTuple a its.toArray from p) ?_;refine⟨s1.heap.objs.size,[s1.heap.objs.size],_,_,H1,rfl,I1.kept (t':=s1.toks) λb o e=>Heap.get?_push_of_some _ e,vy a _,⟨_,Heap.get?_push_size _ rfl,rfl,rfl⟩,λb hb=>?_,q⟩;have e:b=s1.heap.objs.size:=by simpa using hb
 subst e;exact I1.fpOk (aD _) (I1.hok.fresh (aD _))
theorem r0{pins:List (Addr×Obj)}{σ:St}{H:Hp}{s:af}{R:It->Hp->Prop}{E:ae->af->Prop}{lo hi:Int}{t u v:Tok}{tk:Nat}(I:Inv X pins σ H s)(h1:-(2^62)<=lo)(h2:lo<2^62)(h3:-(2^62)<=hi)(h4:hi<2^62)
  (q:R (Itr lo (hi-lo).toNat) H):ak (aq X.prog X.w) X.A (pyIter (.ref s.heap.objs.size)) (PIE X pins σ tg R) E {s with heap:=s.heap.push {cls:=.type "range",data:=.fields #[.int lo t,.int hi u,.int 1 v]},toks:=tk}:=by
 refine wpAny_pyIter_range (IsRange.new ..) (small_one h1 h2 h3 h4) ?_;have I1:Inv X pins σ H {s with heap:=s.heap.push {cls:=.type "range",data:=.fields #[.int lo t,.int hi u,.int 1 v]},toks:=tk}:=I.kept λb o e=>Heap.get?_push_of_some _ e
 refine⟨(s.heap.push {cls:=.type "range",data:=.fields #[.int lo t,.int hi u,.int 1 v]}).objs.size,[(s.heap.push {cls:=.type "range",data:=.fields #[.int lo t,.int hi u,.int 1 v]}).objs.size],_,_,H,rfl,
  I1.kept (t':=tk) λb o e=>Heap.get?_push_of_some _ e,sO _ lo (hi-lo).toNat,?_,λb hb=>?_,q⟩
 ·have e1:lo+((0:Nat):Int) * 1=lo:=by simp
  have e2:(((hi-lo).toNat:Nat):Int)-((0:Nat):Int)=Builtin.Range.rangeSize lo hi 1:=by rw[rangeSize_one];split<;>lia
  show IsRangeIter _ _ (lo+((0:Nat):Int) * 1) ((((hi-lo).toNat:Nat):Int)-((0:Nat):Int)) 1;rw[e1,e2];exact Heap.get?_push_size _ rfl
 ·have e:b=(s.heap.push {cls:=.type "range",data:=.fields #[.int lo t,.int hi u,.int 1 v]}).objs.size:=by simpa using hb
  subst e;exact I1.fpOk (aD _) (I1.hok.fresh (aD _))
noncomputable def sH(ta:TA):TI:=λσ H R=>ta σ H λvs H1=>∃j:Int,vs=[.int j]/\-(2^62)<=j/\j<2^62/\R (Itr 0 j.toNat) H1
noncomputable def sN(ta:TA):TI:=λσ H R=>ta σ H λvs H1=>∃i j:Int,vs=[.int i,.int j]/\(-(2^62)<=i/\i<2^62/\-(2^62)<=j/\j<2^62)/\R (Itr i (j-i).toNat) H1
theorem CF{a:Expr}{ta:TA}{p pos:Pos}(hg:Gl X "range")(hm:X.mg "range" = none)(ha:PA X [a] ta)(hs:bf [a] X.env=[(false,eval a X.env)]:=by rfl):PI X tg (.Call (.Name "range" p) [a] [] pos) (sH ta):=by
 intro pins s σ H R I h;refine Call_ (eP I hg hm boot_range (eT (thn (ha pos pins s σ H _ I h) λus s1 ⟨vs,H1,I1,r1,q1⟩=>?_) hs rfl));obtain⟨j,e,q1,q2,q⟩:=q1;subst e;cases r1 with
 |cons r rr=>
  cases rr;obtain⟨t,rfl⟩:=r;exact call_range_1 (r0 I1 (by lia) (by lia) q1 q2 (by simpa using q))
theorem Aw{a b:Expr}{ta:TA}{p pos:Pos}(hg:Gl X "range")(hm:X.mg "range" = none)(ha:PA X [a,b] ta)(hs:bf [a,b] X.env=[(false,eval a X.env),(false,eval b X.env)]:=by rfl)(hs2:bf [b] X.env=[(false,eval b X.env)]:=by rfl) :
  PI X tg (.Call (.Name "range" p) [a,b] [] pos) (sN ta):=by
 intro pins s σ H R I h;refine Call_ (eP I hg hm boot_range (eT (thn (ha pos pins s σ H _ I h) λus s1 ⟨vs,H1,I1,r1,q1⟩=>?_) (by rw[hs,hs2]) (by rw[hs2];rfl)));obtain⟨i,j,e,⟨q1,q2,q3,q4⟩,q⟩:=q1;subst e;cases r1 with
 |cons r rr=>
  cases rr with
  |cons r' rr=>
   cases rr;obtain⟨t,rfl⟩:=r;obtain⟨t',rfl⟩:=r';exact call_range_2 (r0 I1 q1 q2 q3 q4 q)
noncomputable def iG(wi:TI)(g:TG)(tb:TS):TS:=λD σ H=>wi σ H λJ H1=>∃W:Nat->Nat->St->Hp->Prop,(∃m,W 0 m σ H1)/\∀i m σ H,W i m σ H ->
 (J.stop i H/\D.nx σ H)\/(J.go i H/\∃N:St->Hp->Prop,(∀σ' H',N σ' H'->∃m',m'<m/\W (i+1) m' σ' H')/\∀x H',J.yld i H x H'->g x σ H' λσ2 H2=>tb {D with nx:=N,ct:=N,bk:=D.nx} σ2 H2)
noncomputable def iw(fp:List Addr)(h:Heap):List (Addr×Obj):=fp.filterMap λb=>(h.get? b).map λo=>(b,o)
theorem jd{fp:List Addr}{h:Heap}{b:Addr}{o:Obj}(hb:b∈fp)(e:h.get? b=some o):(b,o)∈iw fp h:=List.mem_filterMap.mpr ⟨b,hb,by rw[e];rfl⟩
theorem C8{fp:List Addr}{h:Heap}{p:Addr×Obj}(hp:p∈iw fp h):p.1∈fp/\h.get? p.1=some p.2:=by
 obtain⟨b,hb,e⟩:=List.mem_filterMap.mp hp;cases q:h.get? b with
 |none=>rw[q]at e;cases e
 |some o=>
  rw[q]at e;have e':(b,o)=p:=bU e;subst e';exact⟨hb,q⟩
theorem Inv.pinned{pins:List (Addr×Obj)}{σ:St}{H:Hp}{s:af}{fp:List Addr}(I:Inv X pins σ H s)(hf:∀b∈fp,c_ X pins H b)(ho:∀b∈fp,∃o,s.heap.get? b=some o/\∀v,o.data≠.cell v):Inv X (pins++iw fp s.heap) σ H s:=
 I.pins_of λp hp=>(List.mem_append.mp hp).elim (λz=>I.pin p (bK _ z)) λz=>by
  obtain⟨hb,e⟩:=C8 z;obtain⟨f0,f1,f2,_⟩:=hf p.1 hb;obtain⟨o,e',d⟩:=ho p.1 hb;rw[e]at e';cases e';exact⟨e,f0,f1,f2,d⟩
theorem Inv.unpinned{pins pl:List (Addr×Obj)}{σ:St}{H:Hp}{s:af}(I:Inv X (pins++pl) σ H s):Inv X pins σ H s:=I.pins_of λp hp=>I.pin p (bK _ (List.mem_append_left _ hp))
theorem ub{iter:Expr}{body:List Stmt}{wi:TI}{g:TG}{tb:TS}{pos:Pos}(hp:PassesOwn (aq X.prog X.w) X.A X.env X.xe)(hc:X.calm=true)(hi:PI X tg iter wi)(hg:PG X tg g)(hb:PSs X body tb)
  (hs:∀x,foldedSetIterable iter X.env x=pure x:=by intro _;rfl):PS X (.For tg iter body [] pos) (iG wi g tb):=by
 intro pins s σ H D I h;refine wpAny_For (thn (hi pins s σ H _ I h) λv s1 h1=>thn h1 λitv s2 h2=>?_) hs;obtain⟨it,fp,tn,J,H2,e,I2,T,st2,f2,W,⟨m0,w0⟩,turn⟩:=h2;subst e
 -- what stays true of the iterator's objects through the loop
 have stat:∀{H':Hp},(∀b∈fp,H' b=none)->∀b∈fp,c_ X pins H' b:=λhn b hb=>⟨hn b hb,(f2 b hb).2⟩
 refine codeAny_forLoop_any (λn s'=>∃i σ' H',Inv X pins σ' H' s'/\tn i s'.heap/\(∀b∈fp,H' b=none)/\W i n σ' H') ?_ m0 ⟨0,σ,H2,I2,st2,λb hb=>(f2 b hb).1,w0⟩;rintro n s3 ⟨i,σ3,H3,I3,st3,fr3,w3⟩;rcases turn i n σ3 H3 w3 with ⟨stop,qn⟩|⟨go,N,hN,step⟩
 ·refine wpAny_passesOwn hp (thn (T.done X rfl rfl rfl hc i pins s3 σ3 H3 X.xe I3 (stat fr3) st3 stop) λr s4 ⟨hr,I4⟩=>?_);subst hr;exact wpAny_execs_nil ⟨σ3,H3,I4,qn⟩
 ·refine wpAny_passesOwn hp (thn (T.item X rfl rfl rfl hc i pins s3 σ3 H3 X.xe I3 (stat fr3) st3 go) λr s4 ⟨u,hr,h4⟩=>?_);subst hr;refine wpAny_passesOwn hp (thn h4 λ_ s5 ⟨x,H5,I5,r5,y5,st5,fr5⟩=>?_);have I5':=I5.pinned (stat fr5) (T.obj _ _ st5);refine wpAny_passesOwn hp (thn (hg _ s5 σ3 H5 x u _ I5' r5 (step x H5 y5)) λ_ s6 ⟨σ6,H6,I6,q6⟩=>?_);refine wpAny_passesOwn hp (thn (hb _ s6 σ6 H6 _ I6 q6) λf s7 q7=>?_);have again:∀{σ7:St}{H7:Hp},Inv X (pins++iw fp s5.heap) σ7 H7 s7->N σ7 H7->∃m,m<n/\∃i σ' H',Inv X pins σ' H' s7/\tn i s7.heap/\(∀b∈fp,H' b=none)/\W i m σ' H':=λ{σ7 H7} I7 n7=>by
   obtain⟨m',hm,w7⟩:=hN σ7 H7 n7;refine⟨m',hm,i+1,σ7,H7,I7.unpinned,T.keep _ _ _ st5 λb hb o e=>(I7.pin (b,o) (bK _ (bK _ (jd hb e)))).1,λb hb=>?_,w7⟩;obtain⟨o,e,d⟩:=T.obj _ _ st5 b hb;exact(I7.pin (b,o) (bK _ (bK _ (jd hb e)))).2.1
  cases f with
  |next=>obtain⟨σ7,H7,I7,n7⟩:=q7;exact again I7 n7
  |cont=>obtain⟨σ7,H7,I7,n7⟩:=q7;exact again I7 n7
  |brk=>obtain⟨σ7,H7,I7,q7⟩:=q7;exact⟨σ7,H7,I7.unpinned,q7⟩
  |ret v=>obtain⟨x7,σ7,H7,I7,r7,q7⟩:=q7;exact⟨x7,σ7,H7,I7.unpinned,r7,q7⟩
end
abbrev R2:=V->V->Hp->VK->Prop
noncomputable def OpR(X:Cx)(f:ae->ae->Sem ae)(r:R2):Prop:=
 ∀(pins:List (Addr×Obj)) (s:af) (σ:St) (H:Hp) (x y:V) (v u:ae) (Q:VK),Inv X pins σ H s->RelV x v->RelV y u->r x y H Q ->
  ak (aq X.prog X.w) X.A (f v u) (EP X pins σ Q) X.xe s
noncomputable def qU(X:Cx)(f:ae)(r:List V->Hp->VK->Prop):Prop:=
 ∀(pins:List (Addr×Obj)) (s:af) (σ:St) (H:Hp) (xs:List V) (us:List ae) (Q:VK),Inv X pins σ H s->Vals xs us->r xs H Q ->
  ak (aq X.prog X.w) X.A (call f us) (EP X pins σ Q) X.xe s
noncomputable def y8(X:Cx)(r:V->Hp->(Bool->Hp->Prop)->Prop):Prop:=
 ∀(pins:List (Addr×Obj)) (s:af) (σ:St) (H:Hp) (x:V) (v:ae) (Q:Bool->Hp->Prop),Inv X pins σ H s->RelV x v->r x H Q ->
  ak (aq X.prog X.w) X.A (truthy v) (TP X pins σ Q) X.xe s
noncomputable def tOp(r:R2)(ta tb:TE):TE:=λσ H Q=>ta σ H λx H1=>tb σ H1 λy H2=>r x y H2 Q
noncomputable def rI(C:Int->Int->Prop)(g:Int->Int->V):R2:=λx y H Q=>∃i j,x=.int i/\y=.int j/\C i j/\Q (g i j) H
noncomputable def rI0(g:Int->Int->V):R2:=λx y H Q=>∃i j,x=.int i/\y=.int j/\Q (g i j) H
section
variable{X:Cx}{a b c:Expr}{ta tb tc:TE}{pos:Pos}
theorem kr(ha:PE X a ta)(hb:PE X b tb){pins:List (Addr×Obj)}{s:af}{σ:St}{H:Hp}{R:V->V->Hp->Prop}(I:Inv X pins σ H s)
  (h:ta σ H λx H1=>tb σ H1 λy H2=>R x y H2) {Q:ae->af->Prop}{f:ae->ae->Sem ae}
  (hf:∀v u s2 x y H2,Inv X pins σ H2 s2->RelV x v->RelV y u->R x y H2->ak (aq X.prog X.w) X.A (f v u) Q X.xe s2) :
  ak (aq X.prog X.w) X.A (eval a X.env) (λv s₁=>ak (aq X.prog X.w) X.A (eval b X.env) (λu s₂=>ak (aq X.prog X.w) X.A (f v u) Q X.xe s₂) X.xe s₁) X.xe s:=by
 refine thn (ha pins s σ H _ I h) λv s1 ⟨x,H1,I1,r1,q1⟩=>?_
 refine thn (hb pins s1 σ H1 _ I1 q1) λu s2 ⟨y,H2,I2,r2,q2⟩=>?_
 exact hf v u s2 x y H2 I2 r1 r2 q2
theorem yP{op:Operator}{r:R2}(ho:OpR X (binaryOp op) r)(ha:PE X a ta)(hb:PE X b tb):PE X (.BinOp a op b pos) (tOp r ta tb):=by
 intro pins s σ H Q I h;exact wpAny_BinOp (kr ha hb I h λv u s2 x y H2 I2 rx ry q=>ho pins s2 σ H2 x y v u Q I2 rx ry q)
theorem opI{f:ae->ae->Sem ae}{C:Int->Int->Prop}{g:Int->Int->Int}
  (rule:∀(i j:Int) (t u:Tok) (s:af) (Q:ae->af->Prop) (E:ae->af->Prop),C i j->Q (.int (g i j) s.toks) {s with toks:=s.toks+1}->ak (aq X.prog X.w) X.A (f (.int i t) (.int j u)) Q E s) :
  OpR X f (rI C λi j=>.int (g i j)):=by
 intro pins s σ H x y v u Q I rx ry h;obtain⟨i,j,rfl,rfl,hc,q⟩:=h;obtain⟨t,rfl⟩:=rx;obtain⟨t',rfl⟩:=ry;exact rule i j t t' s _ _ hc ⟨.int (g i j),H,I.tok _,⟨_,rfl⟩,q⟩
theorem oU{f:ae->ae->Sem ae}{g:Int->Int->Int}
  (rule:∀(i j:Int) (t u:Tok) (s:af) (Q:ae->af->Prop) (E:ae->af->Prop),Q (.int (g i j) s.toks) {s with toks:=s.toks+1}->ak (aq X.prog X.w) X.A (f (.int i t) (.int j u)) Q E s) :
  OpR X f (rI0 λi j=>.int (g i j)):=by
 intro pins s σ H x y v u Q I rx ry h;obtain⟨i,j,rfl,rfl,q⟩:=h;obtain⟨t,rfl⟩:=rx;obtain⟨t',rfl⟩:=ry;exact rule i j t t' s _ _ ⟨.int (g i j),H,I.tok _,⟨_,rfl⟩,q⟩
theorem jx{f:ae->ae->Sem ae}{g:Int->Int->Bool}
  (rule:∀(i j:Int) (t u:Tok) (s:af) (Q:ae->af->Prop) (E:ae->af->Prop),Q (.bool (g i j)) s->ak (aq X.prog X.w) X.A (f (.int i t) (.int j u)) Q E s) :
  OpR X f (rI0 λi j=>.bl (g i j)):=by
 intro pins s σ H x y v u Q I rx ry h;obtain⟨i,j,rfl,rfl,q⟩:=h;obtain⟨t,rfl⟩:=rx;obtain⟨t',rfl⟩:=ry;exact rule i j t t' s _ _ ⟨.bl (g i j),H,I,rfl,q⟩
noncomputable def lL(i j:Int):Prop:=(-(2^64)<i/\i<2^64)\/(-(2^64)<j/\j<2^64)
theorem lL.ok{i j:Int}(h:lL i j):IntMulOk i j:=by
 rcases h with ⟨h1,h2⟩|⟨h1,h2⟩
 ·exact .of_left (intBits_le_64 h1 h2)
 ·exact .of_right (intBits_le_64 h1 h2)
theorem Ca(k:Nat):(0:Int)<=2^k:=by
 rw[two_pow_cast];exact Int.natCast_nonneg _
theorem Dt:OpR X (binaryOp .Add) (rI0 λi j=>.int (i+j)):=oU λ_ _ _ _ _ _ _ q=>add_int q
theorem vz:OpR X (binaryOp .Sub) (rI0 λi j=>.int (i-j)):=oU λ_ _ _ _ _ _ _ q=>sub_int q
theorem CI:OpR X (binaryOp .Mult) (rI lL λi j=>.int (i * j)):=opI λ_ _ _ _ _ _ _ hc q=>mul_int q hc.ok
theorem A_:OpR X (binaryOp .Mod) (rI (λ_ j=>0<j) λi j=>.int (i%j)):=opI λi j _ _ _ _ _ hc q=>by
 have h1:(0:Int)<j:=hc;exact mod_int' (by lia) (by rw[Int.fmod_eq_emod_of_nonneg i (by lia)];exact q)
theorem BF:OpR X (binaryOp .RShift) (rI (λ_ j=>0<=j) λi j=>.int (i/2^j.toNat)):=opI λi j _ _ _ _ _ hc q=>
 rshift_int hc (by rw[Int.fdiv_eq_ediv_of_nonneg i (Ca _)];exact q)
end
section
variable{X:Cx}{a b c:Expr}{ta tb tc:TE}{pos:Pos}
theorem iR{pins:List (Addr×Obj)}{σ:St}{H:Hp}{s:af}{Q:VK}{k k':Bool}(I:Inv X pins σ H s)(q:Q (.bl k) H)(e:k=k'):EP X pins σ Q (.bool k') s:=by
 subst e;exact⟨.bl k,H,I,rfl,q⟩
theorem xw:OpR X (bh .Lt) (rI0 λi j=>.bl (decide (i<j))):=jx λ_ _ _ _ _ _ _ q=>lt_int q
theorem AG:OpR X (bh .LtE) (rI0 λi j=>.bl (decide (i<=j))):=jx λ_ _ _ _ _ _ _ q=>le_int q
theorem s9:OpR X (bh .Gt) (rI0 λi j=>.bl (decide (j<i))):=jx λ_ _ _ _ _ _ _ q=>gt_int q
theorem wu:OpR X (bh .GtE) (rI0 λi j=>.bl (decide (j<=i))):=jx λ_ _ _ _ _ _ _ q=>ge_int q
theorem BM:OpR X (bh .Is) (λx y H Q=>y=.non/\Q (.bl (decide (x=.non))) H):=by
 intro pins s σ H x y v u Q I rx ry h;obtain⟨rfl,q⟩:=h;cases ry;refine is_none_gen (iR I q ?_);cases x<;>first
  | (cases rx;rfl)
  | (obtain⟨t,rfl⟩:=rx;rfl)
theorem B7:OpR X (bh .IsNot) (λx y H Q=>y=.non/\Q (.bl (!decide (x=.non))) H):=by
 intro pins s σ H x y v u Q I rx ry h;obtain⟨rfl,q⟩:=h;cases ry;refine isnot_none_gen (iR I q ?_);cases x<;>first
  | (cases rx;rfl)
  | (obtain⟨t,rfl⟩:=rx;rfl)
theorem OpR.or{f:ae->ae->Sem ae}{r r':R2}(h:OpR X f r)(h':OpR X f r'):OpR X f (λx y H Q=>r x y H Q\/r' x y H Q):=by
 intro pins s σ H x y v u Q I rx ry q;rcases q with q|q
 ·exact h pins s σ H x y v u Q I rx ry q
 ·exact h' pins s σ H x y v u Q I rx ry q
theorem CW{op:CmpOp}{r:R2}(ho:OpR X (bh op) r)(ha:PE X a ta)(hb:PE X b tb)(hm:behindInMarks op b=false):PE X (.Compare a [op] [b] pos) (tOp r ta tb):=by
 intro pins s σ H Q I h;exact wpAny_Compare1 (kr ha hb I h λv u s2 x y H2 I2 rx ry q=>ho pins s2 σ H2 x y v u Q I2 rx ry q) hm
noncomputable def lK(t:TE):TT:=λσ H Q=>t σ H λx H'=>∃k,x=.bl k/\Q k H'
theorem vK{op:CmpOp}{r:R2}(ho:OpR X (bh op) r)(ha:PE X a ta)(hb:PE X b tb)(hm:behindInMarks op b=false):PT X (.Compare a [op] [b] pos) (lK (tOp r ta tb)):=by
 intro pins s σ H Q I h;refine wpAny_isTrue_Compare1 (thn (ha pins s σ H _ I h) λv s1 ⟨x,H1,I1,r1,q1⟩=>thn (hb pins s1 σ H1 _ I1 q1) λu s2 ⟨y,H2,I2,r2,q2⟩=>
  thn (ho pins s2 σ H2 x y v u _ I2 r1 r2 q2) λc s3 ⟨z,H3,I3,r3,k,e,q3⟩=>?_) hm
 subst e;cases r3;exact bH ⟨H3,I3,q3⟩
noncomputable def oW(r r':R2)(ta tb tc:TE):TE:=λσ H Q=>ta σ H λx H1=>tb σ H1 λy H2=>r x y H2 λz H3=>∃k,z=.bl k /\
 (if k=true then tc σ H3 λw' H4=>r' y w' H4 Q else Q (.bl false) H3)
theorem tP{op op':CmpOp}{r r':R2}(ho:OpR X (bh op) r)(ho':OpR X (bh op') r')(ha:PE X a ta)(hb:PE X b tb)(hc:PE X c tc)
  (hm:lastMarks [op,op'] [b,c]=false:=by with_unfolding_all rfl):PE X (.Compare a [op,op'] [b,c] pos) (oW r r' ta tb tc):=by
 intro pins s σ H Q I h;refine Compare_chain (thn (ha pins s σ H _ I h) λv s1 ⟨x,H1,I1,r1,q1⟩=>chain_link (thn (hb pins s1 σ H1 _ I1 q1) λu s2 ⟨y,H2,I2,r2,q2⟩=>
  thn (ho pins s2 σ H2 x y v u _ I2 r1 r2 q2) λd s3 ⟨z,H3,I3,r3,k,e,q3⟩=>?_)) hm
 subst e;cases r3;refine bH ?_;cases k with
 |false=>exact ite_ff ⟨.bl false,H3,I3,rfl,q3⟩
 |true=>exact ite_tt (chain_last (thn (hc pins s3 σ H3 _ I3 q3) λw' s4 ⟨z',H4,I4,r4,q4⟩=>ho' pins s4 σ H4 y z' u w' Q I4 r2 r4 q4))
theorem tq{op op':CmpOp}{r r':R2}(ho:OpR X (bh op) r)(ho':OpR X (bh op') r')(ha:PE X a ta)(hb:PE X b tb)(hc:PE X c tc)
  (hm:lastMarks [op,op'] [b,c]=false:=by with_unfolding_all rfl):PT X (.Compare a [op,op'] [b,c] pos) (lK (oW r r' ta tb tc)):=by
 intro pins s σ H Q I h;refine isTrue_chain (thn (ha pins s σ H _ I h) λv s1 ⟨x,H1,I1,r1,q1⟩=>test_link (thn (hb pins s1 σ H1 _ I1 q1) λu s2 ⟨y,H2,I2,r2,q2⟩=>
  thn (ho pins s2 σ H2 x y v u _ I2 r1 r2 q2) λd s3 ⟨z,H3,I3,r3,k,e,q3⟩=>?_)) hm
 subst e;cases r3;refine bH ?_;cases k with
 |false=>
  obtain⟨k',e',q'⟩:=q3;cases e';exact ite_ff ⟨H3,I3,q'⟩
 |true=>
  refine ite_tt (test_last (thn (hc pins s3 σ H3 _ I3 q3) λw' s4 ⟨z',H4,I4,r4,q4⟩=>thn (ho' pins s4 σ H4 y z' u w' _ I4 r2 r4 q4) λd' s5 ⟨z2,H5,I5,r5,k2,e2,q5⟩=>?_));subst e2;cases r5;exact bH ⟨H5,I5,q5⟩
noncomputable def kK(K:aB)(x:V)(H:Hp)(k:Bool):Prop:=
 match x with
 | .non=>k=false
 | .bl b=>k=b
 | .int i=>k=(i != 0)
 | .str y=>y.length<=aV/\k=((y.length:Int) != 0)
 | .byt y=>y.size<=aV/\k=((y.size:Int) != 0)
 | .ref p=>(∃xs,SqL K H p xs/\k = !xs.isEmpty)\/(∃xs,SqT K H p xs/\k = !xs.isEmpty)\/∃kvs,H p=some (.dK kvs)/\k = !kvs.isEmpty
 |_=>False
theorem De{κ:Type}{kvs:List (κ×V)}{vs:List (κ×ae)}(r:KV kvs vs):(!vs.isEmpty) = !kvs.isEmpty:=by
 cases r<;>rfl
theorem rj{xs:List V}{its:List ae}(r:Vals xs its):(!its.toArray.isEmpty) = !xs.isEmpty:=by
 cases r<;>simp
theorem f_:(aV:Nat)<2^63:=by rw[bt];decide
theorem yO:y8 X (λx H Q=>∃k,kK X.K x H k/\Q k H):=by
 intro pins s σ H x v Q I rx h;obtain⟨k,e,q⟩:=h;have hl:=f_;have hs:aV=16777216:=bt;cases x with
 |non=>
  cases rx;have e':k=false:=e;subst e';exact truthy_none ⟨H,I,q⟩
 |bl b=>
  cases rx;have e':k=b:=e;subst e';exact bH ⟨H,I,q⟩
 |int i=>
  obtain⟨t,rfl⟩:=rx;have e':k=(i != 0):=e;subst e';exact PySem.P.truthy_int ⟨H,I,q⟩
 |str y=>
  obtain⟨t,rfl⟩:=rx;obtain⟨hy,e'⟩:y.length<=aV/\k=((y.length:Int) != 0):=e;subst e';exact PySem.P.truthy_str (by lia) ⟨H,I.tok _,q⟩
 |byt y=>
  obtain⟨t,rfl⟩:=rx;obtain⟨hy,e'⟩:y.size<=aV/\k=((y.size:Int) != 0):=e;subst e';exact PySem.W.truthy_bytes (by lia) ⟨H,I.tok _,q⟩
 |ref p=>
  cases rx;have e':(∃xs,SqL X.K H p xs/\k = !xs.isEmpty)\/(∃xs,SqT X.K H p xs/\k = !xs.isEmpty)\/∃kvs,H p=some (.dK kvs)/\k = !kvs.isEmpty:=e;rcases e' with ⟨xs,hx,e'⟩|⟨xs,hx,e'⟩|⟨kvs,hx,e'⟩
  ·subst e';obtain⟨its,r,pl,hz⟩:=I.list hx;have hlen:=r.length;exact wpAny_truthy_list pl.isList (by simp only[aS];lia) ⟨H,I.tok _,by rw[rj r];exact q⟩
  ·subst e';obtain⟨its,r,pl,hz⟩:=I.tuple hx;have hlen:=r.length;exact truthy_tuple pl (by simp only[aS];lia) ⟨H,I.tok _,by rw[rj r];exact q⟩
  ·subst e';obtain⟨hz,hS,vs,r,m⟩:kvs.length<=aV/\(p==sysModules)=false/\∃vs,KV kvs vs/\s.heap.DictOf (jI X.prog X.w) p vs:=I.hok p _ hx;have hlen:kvs.length=vs.length:=Paired.length r;exact wpAny_truthy_dict hS m (by lia) ⟨H,I.tok _,by rw[De r];exact q⟩
 |_=>exact(show False from e).elim
theorem Aq(ha:PE X a ta)(he:∀whole,isTrue a X.env whole=(do let v <-whole;standAt a.pos;holding [v] (truthy v))) :
  PT X a (λσ H Q=>ta σ H λx H'=>∃k,kK X.K x H' k/\Q k H'):=by
 intro pins s σ H Q I h;exact isTrue_plain (thn (ha pins s σ H _ I h) λv s1 ⟨x,H1,I1,r1,q1⟩=>yO pins s1 σ H1 x v Q I1 r1 q1) (he _)
theorem vals1{x:V}{us:List ae}(r:Vals [x] us):∃u,us=[u]/\RelV x u:=by
 cases r with
 |cons r1 r2=>cases r2;exact⟨_,rfl,r1⟩
theorem vals2{x y:V}{us:List ae}(r:Vals [x,y] us):∃u w',us=[u,w']/\RelV x u/\RelV y w':=by
 cases r with
 |cons r1 r2=>
  cases r2 with
  |cons r3 r4=>cases r4;exact⟨_,_,rfl,r1,r3⟩
theorem xK(hc:X.calm=true):qU X (.builtin "max") (λxs H Q=>∃i j,xs=[.int i,.int j]/\Q (.int (if j>i then j else i)) H):=by
 intro pins s σ H xs us Q I r h;obtain⟨i,j,rfl,q⟩:=h;obtain⟨u,w',rfl,⟨t,rfl⟩,⟨t',rfl⟩⟩:=vals2 r;refine max_two_ints (I.ok.hd hc) λh' tk k=>⟨_,H,I.kept k,?_,q⟩
 by_cases hj:j>i
 ·rw[if_pos hj,if_pos hj];exact⟨_,rfl⟩
 ·rw[if_neg hj,if_neg hj];exact⟨_,rfl⟩
theorem uR(hc:X.calm=true):qU X (.builtin "min") (λxs H Q=>∃i j,xs=[.int i,.int j]/\Q (.int (if j<i then j else i)) H):=by
 intro pins s σ H xs us Q I r h;obtain⟨i,j,rfl,q⟩:=h;obtain⟨u,w',rfl,⟨t,rfl⟩,⟨t',rfl⟩⟩:=vals2 r;refine min_two_ints (I.ok.hd hc) λh' tk k=>⟨_,H,I.kept k,?_,q⟩
 by_cases hj:j<i
 ·rw[if_pos hj,if_pos hj];exact⟨_,rfl⟩
 ·rw[if_neg hj,if_neg hj];exact⟨_,rfl⟩
end
structure ka(h:Heap)(x dx C:Addr)(mA:Str->Option ae):Prop where
 obj:h.get? x=some (PySem.W.instObj C dx)
 ns:h.Ns1 dx mA
 ne:dx≠x
theorem uC{h:Heap}{dx:Addr}{mA:Str->Option ae}(n:h.Ns1 dx mA):∃od,h.get? dx=some od/\∀name,PySem.W.lookIn name od=some (mA name):=by
 obtain⟨o,es,ep,ho,hd,hk,_,hm⟩:=n;refine⟨o,ho,λname=>?_⟩;have e:=hm name;unfold nsFind findBy at e;rw[<-Array.find?_toList]at e;unfold PySem.W.lookIn;rw[hd];dsimp only;split
 ·rename_i y q
  rw[q]at e;exact congrArg some e
 ·rename_i q
  rw[q]at e;have a:es.toList.any (·.refKey)=false:=by
   rw[List.any_eq_false];intro y hy;obtain⟨z,t,hkey⟩:=hk y (Array.mem_toList_iff.mp hy);simp[DictEntry.refKey,hkey]
  have a':¬ es.toList.any (·.refKey)=true:=by rw[a];exact cw
  rw[if_neg a'];exact congrArg some e
theorem ka.look{h:Heap}{x dx C:Addr}{mA:Str->Option ae}(I:ka h x dx C mA):∃od,PySem.W.InstAt h x (PySem.W.instObj C dx) C (some od)/\∀name,PySem.W.lookIn name od=some (mA name):=
 let ⟨od,ho,hl⟩:=uC I.ns
 ⟨od,⟨I.obj,rfl,rfl,ho⟩,hl⟩
section
variable{prog:aC}{w:av}{A:aA}{E:ae->af->Prop}{s:af}{K:aB}{x dx C f:Addr}{mA:Str->Option ae}{name:Str}{v:ae}
end
section
variable{P:aC}{w:av}{H H':Hp}{h h':Heap}{a C dx:Addr}{fs fs':List (Str×V)}
theorem tW(hok:HOk P w H h)(e:H a=some (.ins C dx fs)):∃mA,ka h a dx C mA/\(∀f,lH (fs.lookup f) (mA f))/\PySem.Within mA (fs.map (·.1))/\fs.length<=1000/\H dx=some (.own a):=by
 obtain⟨d,z,ne,ob,mA,n,r,q⟩:=(show zS P w H h a (.ins C dx fs)from hok a _ e)
 exact⟨mA,⟨ob,n,ne⟩,r,q,z,d⟩
end
structure Cls(K:aB)(C:Addr):Prop where
 pg:PySem.W.plainGet K C Str.empty=true
 hd:PySem.W.hasDictIn K C=true
 po:PySem.W.plainOver K C=true
 sa:PySem.W.findIn K (.ref C) "__setattr__" = some (some (.builtin "object.__setattr__"))
theorem Cls.get{K:aB}{C:Addr}(c:Cls K C)(f:Str):PySem.W.plainGet K C f=true:=c.pg
section
variable{X:Cx}{pins:List (Addr×Obj)}{σ:St}{H:Hp}{s:af}{a C dx:Addr}{fs:List (Str×V)}{f:Str}{v:V}{A:aA}{E:ae->af->Prop}
end
section
variable{X:Cx}{o e value:Expr}{f:Str}{pos pos' tpos:Pos}{ta tv:TE}
end
section
variable{X:Cx}{pins:List (Addr×Obj)}{σ:St}{H:Hp}{s:af}{A:aA}{E:ae->af->Prop}{Q:ae->af->Prop}{c:ae}{b:Bool}
inductive dy(K:aB)(H:Hp):V->ae->Prop where
 |non:dy K H .non (.type "NoneType")
 |bl (x:Bool):dy K H (.bl x) (.type "bool")
 |int (i:Int):dy K H (.int i) (.type "int")
 |str (x:Str):dy K H (.str x) (.type "str")
 |flt (x:UInt64):dy K H (.flt x) (.type "float")
 |lst {a:Addr}{xs:List V} (e:H a=some (.lst xs)):dy K H (.ref a) (.type "list")
 |frz {a:Addr}{o:Obj}{xs:List V} (e:H a=some (.frz o (.lst xs))):dy K H (.ref a) (.type "list")
 |tup {a:Addr}{xs:List V} (e:H a=some (.tup xs)):dy K H (.ref a) (.type "tuple")
 |dK {a:Addr}{kvs:List (Key×V)} (e:H a=some (.dK kvs)):dy K H (.ref a) (.type "dict")
 |dT {a:Addr}{kvs:List (List Key×V)} (e:H a=some (.dT kvs)):dy K H (.ref a) (.type "dict")
 |ins {a C dx:Addr}{fs:List (Str×V)} (e:H a=some (.ins C dx fs)) (cl:Cls K C) (ha:PySem.W.findIn K (.ref C) "__class__" = some (some (.builtin "object.__class__")))
   (hn:PySem.W.specialIn K (.builtin "object.__class__") "__get__" = some (some (.builtin "getset_descriptor.__get__"))) (htk:PySem.W.takesIn K (.builtin "object.__class__")=some true)
   (hm:PySem.W.mroIn K C (.type "object")=some true):dy K H (.ref a) (.ref C)
theorem gQ{x:V}{u t:ae}(I:Inv X pins σ H s)(rx:RelV x u)(ty:dy X.K H x t)(e:cB X.K t c=some b)(h:∀tk,Q (.bool b) {s with toks:=tk}) :
  ak (aq X.prog X.w) A (call (.builtin "isinstance") [u,c]) Q E s:=by
 cases ty with
 |non=>cases (show u=bW from rx);exact bT PySem.W.kitx_none I.kIn True.intro e (λz=>nomatch z) h
 |bl y=>cases (show u=ae.bool y from rx);exact bT PySem.W.kitx_bool I.kIn True.intro e (λz=>nomatch z) h
 |int i=>obtain⟨t,q⟩:=(show ∃t,u=ae.int i t from rx);cases q;exact bT PySem.W.kitx_int I.kIn True.intro e (λz=>nomatch z) h
 |str y=>obtain⟨t,q⟩:=(show ∃t,u=ae.str y t from rx);cases q;exact bT PySem.W.kitx_str I.kIn True.intro e (λz=>nomatch z) h
 |flt y=>obtain⟨t,q⟩:=(show ∃t,u=ae.float y t from rx);cases q;exact bT PySem.W.kitx_float I.kIn True.intro e (λz=>nomatch z) h
 | @lst a xs ea=>
  cases (show u=bx a from rx);obtain⟨_,_,n,_,h1⟩:=(show zS X.prog X.w H s.heap a (.lst xs)from I.hok a _ ea)
  exact bT PySem.W.kitx_list I.kIn ⟨_,h1,rfl⟩ e (λz=>nomatch z) h
 | @frz a ob xs ea=>
  cases (show u=bx a from rx);obtain⟨_,_,_,n,_,h1⟩:=(show zS X.prog X.w H s.heap a (.frz ob (.lst xs))from I.hok a _ ea)
  exact bT PySem.W.kitx_list I.kIn ⟨_,h1,rfl⟩ e (λz=>nomatch z) h
 | @tup a xs ea=>
  cases (show u=bx a from rx);obtain⟨_,_,_,p⟩:=(show zS X.prog X.w H s.heap a (.tup xs)from I.hok a _ ea)
  obtain⟨o,h1,h2,_⟩:=p;exact bT PySem.W.kitx_tuple I.kIn ⟨o,h1,h2⟩ e (λz=>nomatch z) h
 | @dK a kvs ea=>
  cases (show u=bx a from rx);obtain⟨_,_,vs,_,p⟩:=(show zS X.prog X.w H s.heap a (.dK kvs)from I.hok a _ ea)
  obtain⟨o,es,ep,h1,h2,_⟩:=p;exact bT PySem.W.kitx_dict I.kIn ⟨o,h1,h2.1⟩ e (λz=>nomatch z) h
 | @dT a kvs ea=>
  cases (show u=bx a from rx);obtain⟨_,_,xs,_,o,es,ep,h1,h2,_⟩:=(show zS X.prog X.w H s.heap a (.dT kvs)from I.hok a _ ea)
  exact bT PySem.W.kitx_dict I.kIn ⟨o,h1,h2.1⟩ e (λz=>nomatch z) h
 | @ins a C dx fs ea cl ha hn htk hm=>
  cases (show u=bx a from rx);obtain⟨mA,O,_⟩:=tW I.hok ea;obtain⟨od,J,_⟩:=O.look;exact bT (PySem.W.kitx_own (cl.get _) cl.hd ha hn htk hm) I.kIn J e (λz=>nomatch z) h
end
structure cD(k:Nat)(A:aA):Prop where
 hd:A.handled=none
 dp:A.depth+3 * k+5<recursionLimit
 un:A.units+16 * k+200<cLine
theorem cD.deeper{k:Nat}{A:aA}(r:cD (k+1) A)(env:Env):cD k (A.deeper env):=
 ⟨r.hd,by have:=r.dp;show A.depth+1+3 * k+5<_;lia,by have:=r.un;show A.units+3+16 * k+200<_;lia⟩
theorem cD.depth{k:Nat}{A:aA}(r:cD k A):A.depth<recursionLimit:=by have:=r.dp;lia
theorem cD.units{k:Nat}{A:aA}(r:cD k A):A.units+64<cLine:=by have:=r.un;lia
noncomputable def hV:TA:=λ_ H Q=>Q [] H
noncomputable def iC(ta:TE)(tr:TA):TA:=λσ H Q=>ta σ H λx H1=>tr σ H1 λxs H2=>Q (x::xs) H2
section
variable{X:Cx}{e:Expr}{es:List Expr}{te:TE}{t:TA}{pos:Pos}
theorem zX:PA X [] hV:=λ_ _ _ _ H Q I h=>Calls.spliced_nil ⟨[],H,I,.nil,h⟩
theorem zv(ha:PE X e te)(hr:PA X es t)(hs:bf (e::es) X.env=(false,eval e X.env)::bf es X.env:=by rfl):PA X (e::es) (iC te t):=by
 intro pos pins s σ H Q I h;rw[hs];show ak _ _ (spliced ((false,eval e X.env)::backTo pos (bf es X.env))) _ _ s;refine Calls.spliced_cons (thn (ha pins s σ H _ I h) λu s1 ⟨x,H1,I1,r1,q1⟩=>?_);exact thn (hr pos pins s1 σ H1 _ I1 q1) λus s2 ⟨xs,H2,I2,r2,q2⟩=>⟨x::xs,H2,I2,.cons r1 r2,q2⟩
noncomputable def xn(t:TA):TE:=λσ H Q=>t σ H λxs H1=>xs.length<=aV/\∀p,H1 p=none->Q (.ref p) (upd H1 p (.tup xs))
noncomputable def AE(t:TA):TE:=λσ H Q=>t σ H λxs H1=>xs.length<=aV/\∀p,H1 p=none->Q (.ref p) (upd H1 p (.lst xs))
theorem Ak{x1}(h:PA X es t):PE X (.Tuple es x1 pos) (xn t):=by
 intro pins s σ H Q I hq;refine wpAny_Tuple_spliced (thn (h pos pins s σ H _ I hq) λus s1 ⟨xs,H1,I1,r,z,q⟩=>⟨by rw[<-r.length];exact z,?_⟩);have hf:H1 s1.heap.objs.size=none:=I1.hok.fresh (aD _);refine⟨.ref s1.heap.objs.size,upd H1 s1.heap.objs.size (.tup xs),I1.laid (t':=s1.toks) (λb u e=>Heap.get?_push_of_some _ e) (aD _) ?_,rfl,q _ hf⟩;exact⟨z,us,r,⟨_,Heap.get?_push_size _ rfl,rfl,_,rfl⟩⟩
theorem DK(h:PA X es t):PE X (.List es pos) (AE t):=by
 intro pins s σ H Q I hq;refine wpAny_List_spliced (thn (h pos pins s σ H _ I hq) λus s1 ⟨xs,H1,I1,r,z,q⟩=>⟨by rw[<-r.length];exact z,?_⟩);have hf:H1 s1.heap.objs.size=none:=I1.hok.fresh (aD _);refine⟨.ref s1.heap.objs.size,upd H1 s1.heap.objs.size (.lst xs),I1.laid (t':=s1.toks) (λb u e=>Heap.get?_push_of_some _ e) (aD _) ?_,rfl,q _ hf⟩;exact⟨z,us,0,r,Heap.get?_push_size _ rfl⟩
end
abbrev Sp:=List V->Hp->VK->XK->Prop
abbrev CXT:=List Env->Hp->af->XK->ae->af->Prop
structure gL(P:aC)(w:av)(K:aB)(mg:Str->Option ae)(base:Heap)(A:aA)(outer:List Env)(s:af)(H:Hp):Prop where
 frames:A.frames=some outer
 mod:Mod K mg base
 bs:∀b o,base.get? b=some o->s.heap.get? b=some o/\H b=none
 bsz:base.objs.size<=s.heap.objs.size
 funs:s.heap.FunFrames base outer
 frf:∀b∈frs outer,H b=none
 hok:HOk P w H s.heap
 bare:AllBare s.gens
noncomputable def CE(outer:List Env)(P:aC)(w:av)(H:Hp)(s:af)(Q:VK)(u:ae)(s':af):Prop:=
 ∃v H',s'.os=s.os/\AllBare s'.gens/\Un (frs outer) [] H H' s.heap s'.heap/\HOk P w H' s'.heap/\RelV v u/\Q v H'
noncomputable def CR(CX:CXT)(outer:List Env)(P:aC)(w:av)(H:Hp)(s:af)(Q:VK)(E:XK)(r:Result)(s':af):Prop:=
 match r with
 | .ok (.ret u)=>CE outer P w H s Q u s'
 | .ok _=>False
 | .error e=>CX outer H s E e s'
structure eY(P:aC)(w:av)(K:aB)(mg:Str->Option ae)(base:Heap)(CX:CXT)(k:Nat)(f:Addr)(fd:FuncData)(ps:List Str)(sp:Sp):Prop where
 len:∀vs H Q E,sp vs H Q E->vs.length=ps.length
 run:∀(A:aA) (outer:List Env) (s:af) (H:Hp) (args:Args) (us:List ae) (vs:List V) (Q:VK) (E:XK),cD k A->gL P w K mg base A outer s H->BindsTo s fd args (ps.zip us)->Vals vs us->sp vs H Q E ->
  codeAny (aq P w) A (.call (.ref f) args) (CR CX outer P w H s Q E) s
section
variable{X:Cx}{pins:List (Addr×Obj)}{σ:St}{H:Hp}{s s':af}
theorem Inv.env0(I:Inv X pins σ H s):gL X.prog X.w X.K X.mg X.base X.A X.stack s H:=
 ⟨I.ok.frames,I.ok.mod,I.bs,bD I.ok.bsz I.sz,I.stack,I.stkFree,I.hok,I.bare⟩
theorem Inv.after{Q:VK}{u:ae}(I:Inv X pins σ H s)(h:CE X.stack X.prog X.w H s Q u s'):EP X pins σ Q u s':=by
 obtain⟨v,H',os,bare,un,hok,r,q⟩:=h;obtain⟨hh,g,d,t,os'⟩:=s';obtain rfl:os'=s.os:=os;exact⟨v,H',I.call (h':=hh) (g':=g) (d':=d) (t':=t) (ch:=[]) un hok bare (λb z=>absurd z (by simp)),r,q⟩
end
noncomputable def kD(sp:Sp)(dvs:List V)(E:XK)(t:TA):TE:=λσ H Q=>t σ H λvs H1=>sp (vs++dvs) H1 Q E
noncomputable def Binds(K:aB)(fd:FuncData)(ps:List Str)(ds:List ae):Prop:=
 ∀(s:af) (us:List ae),K.In s.heap->(us++ds).length=ps.length->BindsTo s fd ⟨us,[]⟩ (ps.zip (us++ds))
theorem Binds.all{K:aB}{fd:FuncData}{ps:List Str}(h:∀us:List ae,us.length=ps.length->bindArgs fd ⟨us,[]⟩=pure (ps.zip us)):Binds K fd ps []:=λs us _ hl=>by
 rw[bZ]at hl ⊢;exact .of_eq (h us hl)
noncomputable def Passes(CX:CXT)(X:Cx)(E:XK):Prop:=∀(pins:List (Addr×Obj)) (σ:St) (H:Hp) (s:af) (e:ae) (s':af),Inv X pins σ H s->CX X.stack H s E e s'->X.xe e s'
section
variable{X:Cx}{CX:CXT}{k:Nat}{f C:Addr}{fd:FuncData}{ps:List Str}{sp:Sp}{dvs:List V}{ds:List ae}{E:XK}{x m:Str}{p pos apos:Pos}{e o:Expr}{es:List Expr}{ta:TE}{t:TA}
theorem wm{pins:List (Addr×Obj)}{σ:St}{H:Hp}{s:af}{Q:VK}{us:List ae}{vs:List V}(F:eY X.prog X.w X.K X.mg X.base CX k f fd ps sp)(hr:cD k X.A)(hb:Binds X.K fd ps ds)(hd:Vals dvs ds)(hx:Passes CX X E)
  (I:Inv X pins σ H s) (r:Vals vs us) (h:sp (vs++dvs) H Q E):ak (aq X.prog X.w) X.A (call (.ref f) us) (EP X pins σ Q) X.xe s:=by
 have r2:Vals (vs++dvs) (us++ds):=r.append hd;have hl:(us++ds).length=ps.length:=by rw[<-r2.length];exact F.len _ _ _ _ h
 refine wpAny_call (codeAny_mono (F.run X.A X.stack s H ⟨us,[]⟩ (us++ds) (vs++dvs) Q E hr I.env0 (hb s us I.kIn hl) r2 h) λr s' hq=>?_);cases r with
 |error e=>exact hx pins σ H s e s' I hq
 |ok fl=>
  cases fl with
  |ret u=>exact I.after hq
  |next=>exact bI hq
  |brk=>exact bI hq
  |cont=>exact bI hq
theorem vp(F:eY X.prog X.w X.K X.mg X.base CX k f fd ps sp)(hr:cD k X.A)(hg:Gl X x)(hm:X.mg x=some (.ref f))(hk:cL X.K (.ref f)=true)(hb:Binds X.K fd ps ds)(hd:Vals dvs ds)(hx:Passes CX X E)
  (ha:PA X (e::es) t) (hdb:(x==("__debug__" : Str))=false:=by decide) (he:bf (e::es) X.env=(false,eval e X.env)::bf es X.env:=by rfl) (hpl:(backTo pos (bf es X.env)).any (·.1)=false:=by rfl) :
  PE X (.Call (.Name x p) (e::es) [] pos) (kD sp dvs E t):=by
 intro pins s σ H Q I h;refine wpAny_Call_Name_kw (lA I hg hm ?_ hdb);refine PySem.W.callWith_K (h₀:=X.base) I.ok.mod.kin hk (thn (ha pos pins s σ H _ I h) λus s1 ⟨vs,H1,I1,r,q⟩=>⟨I1.kIn,?_⟩) he hpl;exact wm F hr hb hd hx I1 r q
end
section
variable{X:Cx}{CX:CXT}{k:Nat}{f C:Addr}{fd:FuncData}{ps ks:List Str}{sp:Sp}{E:XK}{x m:Str}{p pos apos kpos:Pos}{e o:Expr}{es:List Expr}{kws:List Keyword}{te ta:TE}{t tk:TA}{nm:Option Str}
variable{g:List ae->List ae->List ae}{gV:List V->List V->List V}
end
structure gP(N P:List Str)(sc:a8):Prop where
 kind:sc.kind=.function
 co:sc.isCoroutine=false
 gen:sc.isGenerator=false
 nd:N.Nodup
 pre:N.take P.length=P
 par:∀x∈P,sc.names.lookup x=some .local\/sc.names.lookup x=some .cell
 nofree:∀y∈sc.names,y.2≠.free
theorem og{kindOf:Str->Option aY}{x:Str}:∀{binds:List (Str×ae)}{m:Str->Option ae},(∀v,(x,v)∉binds)->bindL kindOf binds m x=m x
 | [],_,_=>rfl
 | (n,v)::r,m,h=>by
  unfold bindL;rw[og λw hw=>h w (aM _ hw)];split
  ·have:x≠n:=by rintro rfl;exact h v aO
   simp[this]
  ·rfl
theorem nG{kindOf:Str->Option aY}{x:Str}:∀{binds:List (Str×ae)}{m:Str->Option ae},(∀v,(x,v)∉binds)->bindC kindOf binds m x=m x
 | [],_,_=>rfl
 | (n,v)::r,m,h=>by
  unfold bindC;rw[nG λw hw=>h w (aM _ hw)];split
  ·rfl
  ·have:x≠n:=by rintro rfl;exact h v aO
   simp[this]
theorem nr{kindOf:Str->Option aY}{x:Str}{v:ae}:∀{P:List Str}{vs:List ae}{i:Nat}{m:Str->Option ae},P.Nodup->P[i]? = some x->vs[i]? = some v->kindOf x=some .local ->
  bindL kindOf (P.zip vs) m x=some v
 | [],_,_,_,_,h,_,_=>by simp at h
 |_::_,[],_,_,_,_,h,_=>by simp at h
 |p::P,w::vs,0,m,nd,h1,h2,hk=>by
  simp at h1 h2;subst h1;subst h2;show bindL kindOf ((p,w)::P.zip vs) m p=_;unfold bindL;rw[og λv hv=>(List.nodup_cons.mp nd).1 (List.of_mem_zip hv).1,if_pos hk];simp
 |p::P,w::vs,i+1,m,nd,h1,h2,hk=>by
  show bindL kindOf ((p,w)::P.zip vs) m x=_;unfold bindL;exact nr (i:=i) (List.nodup_cons.mp nd).2 (by simpa using h1) (by simpa using h2) hk
theorem pv{kindOf:Str->Option aY}{x:Str}{v:ae}:∀{P:List Str}{vs:List ae}{i:Nat}{m:Str->Option ae},P.Nodup->P[i]? = some x->vs[i]? = some v->kindOf x≠some .local ->
  bindC kindOf (P.zip vs) m x=some v
 | [],_,_,_,_,h,_,_=>by simp at h
 |_::_,[],_,_,_,_,h,_=>by simp at h
 |p::P,w::vs,0,m,nd,h1,h2,hk=>by
  simp at h1 h2;subst h1;subst h2;show bindC kindOf ((p,w)::P.zip vs) m p=_;unfold bindC;rw[nG λv hv=>(List.nodup_cons.mp nd).1 (List.of_mem_zip hv).1,if_neg hk];simp
 |p::P,w::vs,i+1,m,nd,h1,h2,hk=>by
  show bindC kindOf ((p,w)::P.zip vs) m x=_;unfold bindC;exact pv (i:=i) (List.nodup_cons.mp nd).2 (by simpa using h1) (by simpa using h2) hk
noncomputable def start(N:List Str)(vs:List V):St:=vs.map some++b6 (N.length-vs.length) none
noncomputable def eM(CX:CXT)(P:aC)(w:av)(K:aB)(mg:Str->Option ae)(base:Heap)(N:List Str)(qual:Str)(scope:a8)(f:Addr)(cd:ae)(A:aA)(outer:List Env)(s:af)(H:Hp)(E:XK):Cx where
 prog:=P
 w:=w
 K:=K
 mg:=mg
 base:=base
 A:=A.deeper (envOfC qual scope s.heap.objs.size f cd)
 N:=N
 s₀:=s
 H₀:=H
 env:=envOfC qual scope s.heap.objs.size f cd
 outer:=outer
 stack:=envOfC qual scope s.heap.objs.size f cd::outer
 ex:=[]
 calm:=true
 fn:=λ_=>true
 pn:=[]
 xe:=λe s'=>ak (aq P w) (A.deeper (envOfC qual scope s.heap.objs.size f cd)) (leaving (envOfC qual scope s.heap.objs.size f cd) e) (λ_ s''=>CX outer H s E e s'') (λe' s''=>CX outer H s E e' s'') s'
theorem jB{sc:a8}{n:Nat}{x:Str}(h:sc.names.lookup x=some .cell):∃c,(bw n sc.names []).lookup x=some c:=by
 have q:=PySem.W.cellsFrom_some sc.names n [] (.inl h);exact Option.isSome_iff_exists.mp q
theorem sI{CX:CXT}{P:aC}{w:av}{K:aB}{mg:Str->Option ae}{base:Heap}{N ps:List Str}{qual:Str}{scope:a8}{f:Addr}{cd:ae}{A:aA}{outer:List Env}{s s1:af}{H:Hp}{E:XK}{us:List ae}{vs:List V}
  (S:gP N ps scope) (hd:A.handled=none) (e0:gL P w K mg base A outer s H) (hl:vs.length=ps.length) (r:Vals vs us)
  (x:InCallC s s.heap.objs.size (bindL (envOfC qual scope s.heap.objs.size f cd).kindOf (ps.zip us) λ_=>none) (bw (s.heap.objs.size+1) scope.names []) (bindC (envOfC qual scope s.heap.objs.size f cd).kindOf (ps.zip us) λ_=>none) s1) :
  Inv (eM CX P w K mg base N qual scope f cd A outer s H E) [] (start N vs) H s1:=by
 have hpl:ps.length<=N.length:=by have:=congrArg List.length S.pre;rw[cz]at this;lia
 obtain⟨h1,tk,rfl,hk⟩:=x.done;have noA:∀b:Addr,b∉(eM CX P w K mg base N qual scope f cd A outer s H E).ex:=λb z=>absurd (show b∈([]:List Addr)from z) (by simp)
 refine⟨⟨e0.mod,S.kind,rfl,rfl,aD _,λy z c h1 h2=>?_,λy hy=>?_,λy c _ h=>?_,λ_=>hd,aA.frames_deeper e0.frames,.inr ⟨rfl,rfl⟩,λb z=>absurd z (noA b),e0.bs,e0.bsz,λb _ _=>noA b,λb z=>absurd z (noA b),e0.funs,e0.frf⟩,
  rfl,e0.bare,Un.kept hk,⟨_,x.toInCall.ns,λi y v h1 h2 h3=>?_⟩,λy c h=>⟨_,x.cell y c h⟩,e0.hok.fresh (aD _),λy c h=>?_,λp hp=>absurd (show p∈([]:List (Addr×Obj))from hp) (by simp),e0.hok.kept hk,?_⟩
 ·exact name_of_addr x.apart (cq h1) (cq h2)
 ·have hy:scope.names.lookup y=some .cell\/scope.names.lookup y=some .free:=hy;rcases hy with hy|hy
  ·exact jB hy
  ·exact absurd rfl (S.nofree _ (cq hy))
 ·exact Nat.le_of_lt (x.above y c (cq h))
 ·have hi:i<vs.length:=by
   unfold start at h2;by_cases hi:i<vs.length
   ·exact hi
   ·rw[List.getElem?_append_right (by simpa using hi)]at h2;rw[List.getElem?_replicate]at h2;split at h2<;>cases h2
  have ha:vs[i]? = some v:=by
   unfold start at h2;rw[List.getElem?_append_left (by simpa using hi),List.getElem?_map]at h2;cases e:vs[i]? with
   |none=>rw[e]at h2;cases h2
   |some a=>rw[e]at h2;cases h2;rfl
  obtain⟨u,hu,rv⟩:=r.get ha;have hp:ps[i]? = some y:=by
   rw[<-S.pre,List.getElem?_take_of_lt (by lia)];exact h1
  have ndP:ps.Nodup:=by rw[<-S.pre];exact S.nd.sublist (List.take_sublist _ _)
  refine⟨u,rv,?_⟩;rcases S.par y (List.mem_of_getElem? hp)with k|k
  ·exact .inl ⟨k,nr ndP hp hu k⟩
  ·obtain⟨c,e⟩:=jB (n:=s.heap.objs.size+1) k;refine .inr ⟨.inl k,c,e,?_⟩;have q:=x.cell y c e;rw[pv ndP hp hu (by show scope.names.lookup y≠_;rw[k];decide)]at q;exact q
 ·exact e0.hok.fresh (Nat.le_of_lt (x.above y c (cq h)))
 ·unfold start;show _=N.length;rw[cb,aR,List.length_replicate];lia
theorem uA{CX:CXT}{P:aC}{w:av}{K:aB}{mg:Str->Option ae}{base:Heap}{k:Nat}{f:Addr}{name qual:Str}{params:Arguments}{body:List Stmt}{scope:a8}{dV kV doc pm cdv ct oc:ae}{an od:Option Addr}
  {osl:Array (Option ae)}{N ps:List Str}{sp:Sp} (lk:K.lookup f=some ⟨oc,od,.func (cC name qual params body scope dV kV doc pm an cdv ct),osl⟩) (hcd:PySem.W.codeIn K cdv qual=true) (S:gP N ps scope)
  (len:∀vs H Q E,sp vs H Q E->vs.length=ps.length)
  (hbody:∀(A:aA) (outer:List Env) (s:af) (H:Hp) (vs:List V) (Q:VK) (E:XK),cD k (A.deeper (envOfC qual scope s.heap.objs.size f cdv))->sp vs H Q E ->
   ∃t,PSs (eM CX P w K mg base N qual scope f cdv A outer s H E) body t/\t {nx:=λ_ H'=>Q .non H',rt:=Q} (start N vs) H) :
  eY P w K mg base CX (k+1) f (cC name qual params body scope dV kV doc pm an cdv ct) ps sp:=by
 refine⟨len,λA outer s H args us vs Q E hr e0 hb r hsp=>?_⟩;have hl:=len _ _ _ _ hsp;have KX:K.In s.heap:=e0.mod.kin.keeps λb o e=>(e0.bs b o e).1
 have lim:s.heap.NoLimit:=e0.mod.nolimit.keeps λb o e=>(e0.bs b o e).1
 have hkind:∀y∈ps.zip us,scope.names.lookup y.1=some .local\/(scope.names.lookup y.1=some .cell/\((bw (s.heap.objs.size+1) scope.names []).lookup y.1).isSome=true):=λ⟨n,v⟩ hy=>by
  rcases S.par n (List.of_mem_zip hy).1 with q|q
  ·exact .inl q
  ·exact .inr ⟨q,PySem.W.cellsFrom_some _ _ _ (.inl q)⟩
 refine codeAny_call_function hr.depth (KX _ _ lk) rfl S.co S.gen rfl (PySem.W.codeRec_of KX hcd) (hb _ _ _ _ ?_);refine wpAny_newFunctionEnv_cells S.kind hkind λenv he s1 x=>?_
 subst he;refine⟨lim.keeps x.toInCall.keep,codeAny_func ?_⟩;obtain⟨t,ht,hq⟩:=hbody A outer s H vs Q E (hr.deeper _) hsp;have I:Inv (eM CX P w K mg base N qual scope f cdv A outer s H E) [] (start N vs) H s1:=sI S hr.hd e0 hl r x;refine bQ (ht [] s1 (start N vs) H _ I hq) (λfl s' hs=>?_) λe s' hs=>hs
 have fin:∀{σ':St}{H':Hp}{v:V}{u:ae},Inv (eM CX P w K mg base N qual scope f cdv A outer s H E) [] σ' H' s'->RelV v u->Q v H'->CE outer P w H s Q u s':=
  λ{σ' H' v u} J rv q=>⟨v,H',J.os,J.bare,J.base,J.hok,rv,q⟩
 cases fl with
 |ret u=>
  obtain⟨v,σ',H',J,rv,q⟩:=hs;exact fin J rv q
 |next=>
  obtain⟨σ',H',J,q⟩:=hs;exact fin (v:=V.non) (u:=bW) J rfl q
 |brk=>
  obtain⟨_,_,_,q⟩:=hs;exact bI q
 |cont=>
  obtain⟨_,_,_,q⟩:=hs;exact bI q
section
variable{X:Cx}{x:Str}{p pos:Pos}{e:Expr}{es:List Expr}{t:TA}{id T:String}{r:List V->Hp->VK->Prop}
noncomputable def tCB(r:List V->Hp->VK->Prop)(t:TA):TE:=λσ H Q=>t σ H λvs H1=>r vs H1 Q
theorem kU(hc:qU X (.builtin id) r)(hg:Gl X x)(hm:X.mg x=none)(hv:bN x=some (.builtin id))(ha:PA X (e::es) t)(hn:x≠"__name__":=by decide)(hdb:(x==("__debug__" : Str))=false:=by decide)
  (he:bf (e::es) X.env=(false,eval e X.env)::bf es X.env:=by rfl) (hpl:(backTo pos (bf es X.env)).any (·.1)=false:=by rfl):PE X (.Call (.Name x p) (e::es) [] pos) (tCB r t):=by
 intro pins s σ H Q I h;refine wpAny_Call_Name_kw (eP I hg hm hv ?_ hn hdb);exact PyProof.Rows.callWith_builtin1 (thn (ha pos pins s σ H _ I h) λus s1 ⟨vs,H1,I1,r1,q1⟩=>hc pins s1 σ H1 vs us Q I1 r1 q1) he hpl
theorem gF(hc:qU X (.type T) r)(hg:Gl X x)(hm:X.mg x=none)(hv:bN x=some (.type T))(ha:PA X (e::es) t)(hn:x≠"__name__":=by decide)(hdb:(x==("__debug__" : Str))=false:=by decide)
  (he:bf (e::es) X.env=(false,eval e X.env)::bf es X.env:=by rfl) (hpl:(backTo pos (bf es X.env)).any (·.1)=false:=by rfl):PE X (.Call (.Name x p) (e::es) [] pos) (tCB r t):=by
 intro pins s σ H Q I h;refine wpAny_Call_Name_kw (eP I hg hm hv ?_ hn hdb);exact eT (thn (ha pos pins s σ H _ I h) λus s1 ⟨vs,H1,I1,r1,q1⟩=>hc pins s1 σ H1 vs us Q I1 r1 q1) he hpl
end
end L2
namespace HT
open PySem PyProof.Rows
noncomputable def lexLt:List Int->List Int->Bool
 | [],[]=>false
 | [],_::_=>true
 |_::_,[]=>false
 |x::xs,y::ys=>if x=y then lexLt xs ys else decide (x<y)
theorem rH(x y:Int)(xs ys:List Int):lexLt (x::xs) (y::ys)=if x=y then lexLt xs ys else decide (x<y):=rfl
theorem mC:lexLt [] []=false:=rfl
theorem nk(y:Int)(ys:List Int):lexLt [] (y::ys)=true:=rfl
theorem sD(x:Int)(xs:List Int):lexLt (x::xs) []=false:=rfl
theorem Ai(A:aA)(s:af)(a:Int)(t:Tok)(c:Int)(u:Tok):∃e,SeqAt.EqAt A s (.int a t) (.int c u) e/\(e=true↔a=c):=
 ⟨(a==c),SeqAt.EqAt.int_int a t c u,by simp⟩
theorem wg(A:aA)(s:af)(a:Int)(t:Tok)(c:Int)(u:Tok)(prog:aC)(w:av)(E:ae->af->Prop)(Q:ae->af->Prop)(h:Q (.bool (decide (a<c))) s) :
  ak (aq prog w) A (richCompare .Lt (.int a t) (.int c u)) Q E s:=
 (PyProof.Rows.lt_int h:ak (aq prog w) A (bh .Lt (.int a t) (.int c u)) Q E s)
section
open PySem.SeqAt
open PySem.AutoSeq1 (wpAny_loadPart')
open PySem.MeetsSeq PySem.MeetsSeq2 PySem.MeetsSeq3
theorem l6(l b:Addr)(items items2:Array ae)(n n2:Nat)(dd dd2:Option Addr)(sl sl2:Array (Option ae))(ns ms:List Int)(hi:bp items.toList ns)(hj:bp items2.toList ms) :
  Meets (Builtin.«tuple.__lt__» ⟨[.ref l,.ref b],[]⟩)
   (λ_ R s=>s.heap.get? l=some {cls:=.type "tuple",dict:=dd,data:=.seq items n,slots:=sl}/\s.heap.get? b=some {cls:=.type "tuple",dict:=dd2,data:=.seq items2 n2,slots:=sl2} /\
    R (.ok (.ret (.bool (lexLt ns ms)))) s):=
 .of_wp λprog w A R s h=>by
  obtain⟨hp,g,d,tk,os⟩:=s;obtain⟨hl,hb,h⟩:=h;have f2:=AutoSeq1.sub_tuple_tuple;have z1:items.size=ns.length:=by rw[<-hi.length];simp
  have z2:items2.size=ms.length:=by rw[<-hj.length];simp
  wp_walk using wpAny_loadPart' hl,wpAny_loadPart' hb,wpAny_forIn_list _ (λrest b s'=>b.1=none/\s'=⟨hp,g,d,tk,os⟩/\∃(vs ws:List ae) (ns' ms':List Int),rest=vs.zip ws /\
   bp vs ns'/\bp ws ms'/\ns'.length+items2.size=ms'.length+items.size/\R (.ok (.ret (.bool (lexLt ns' ms')))) ⟨hp,g,d,tk,os⟩) _
  case turn=>
   rintro⟨y,x⟩ rest b s' ⟨hb',rfl,vs,ws,ns',ms',hz,hvi,hwi,hlen,hR⟩;cases hvi with
   |nil=>rw[List.zip_nil_left]at hz;cases hz
   |cons a t hvi'=>
    cases hwi with
    |nil=>rw[List.zip_nil_right]at hz;cases hz
    |cons c u hwi'=>
     rw[List.zip_cons_cons]at hz;injection hz with hyx hrest
     injection hyx with hy hx
     subst hy hx;rw[rH]at hR;simp only[cf]at hlen;obtain⟨e,he,hiff⟩:=Ai A.in1 ⟨hp,g,d,tk,os⟩ a t c u;refine ag (he prog w _ _ ?_);cases e with
     |true=>
      rw[if_pos (hiff.mp rfl)]at hR
      wp_walk
      exact⟨rfl,rfl,_,_,_,_,hrest,hvi',hwi',by lia,hR⟩
     |false=>
      rw[if_neg (λq=>absurd (hiff.mpr q) cw)]at hR;have hri:=wg A.in1 ⟨hp,g,d,tk,os⟩ a t c u prog w
      wp_walk using hri
      exact⟨_,rfl,by simpa using hR⟩
  case fin=>
   rintro⟨b1,b2⟩ s' ⟨hb',rfl,vs,ws,ns',ms',hz,hvi,hwi,hlen,hR⟩;simp only at hb';subst hb';have hv:lexLt ns' ms'=decide (items.size<items2.size):=by
    cases hvi with
    |nil=>
     cases hwi with
     |nil=>
      simp only[List.length_nil]at hlen;rw[mC];exact(decide_eq_false (by lia)).symm
     |cons c u hw=>
      simp only[List.length_nil,cf]at hlen;rw[nk];exact(decide_eq_true (by lia)).symm
    |cons a t hv=>
     cases hwi with
     |nil=>
      simp only[List.length_nil,cf]at hlen;rw[sD];exact(decide_eq_false (by lia)).symm
     |cons c u hw=>
      rw[List.zip_cons_cons]at hz;cases hz
   rw[hv]at hR
   wp_walk
   exact⟨_,rfl,by simpa[Builtin.Tuple.tupleCompareSizes]using hR⟩
  case h=>
   exact⟨rfl,rfl,items.toList,items2.toList,ns,ms,rfl,hi,hj,by lia,h⟩
end
section
variable{prog:aC}{w:av}{A:aA}{E:ae->af->Prop}{s:af}
theorem Bt{l b:Addr}{items items2:Array ae}{ns ms:List Int}{Q:ae->af->Prop}(hl:IsTup s.heap l items)(hb:IsTup s.heap b items2)(hi:bp items.toList ns)(hj:bp items2.toList ms)
  (hu:A.units<cLine) (h:Q (.bool (lexLt ns ms)) s):ak (aq prog w) A (bh .Lt (.ref l) (.ref b)) Q E s:=by
 obtain⟨⟨cls,dd,data,sl⟩,ho,hc,n,hd⟩:=id hl;obtain⟨⟨cls2,dd2,data2,sl2⟩,ho2,hc2,n2,hd2⟩:=id hb;simp only at hc hd hc2 hd2;subst hc hd hc2 hd2;exact richCompare_meets_room (op:=.Lt) ⟨_,ho,rfl⟩ ⟨_,ho2,rfl⟩ PySem.F.slot_tuple_lt PySem.F.entry_tuple_lt (PySem.F.args_tuple_lt_2 _ _) (l6 l b items items2 n n2 dd dd2 sl sl2 ns ms hi hj)
  ⟨ho,ho2,show ae.bool (lexLt ns ms)≠ae.notImplemented/\Q (.bool (lexLt ns ms)) s from ⟨(λx=>nomatch x),h⟩⟩ hu
theorem Cw{t b:Addr}{vs ws:List ae}{Q:ae->af->Prop}(ht:IsTup s.heap t vs.toArray)(hb:IsTup s.heap b ws.toArray)(hv:vs≠[])
  (h1:ws=[]->Q (.ref t) s) (h2:ws≠[]->Q (.ref s.heap.objs.size) {s with heap:=s.heap.push {cls:=.type "tuple",data:=.seq (vs++ws).toArray}})
  (hsz:vs.length+ws.length<=aV):ak (aq prog w) A (binaryOp .Add (.ref t) (.ref b)) Q E s:=by
 obtain⟨⟨cls,dd,data,sl⟩,ho,hc,n,hd⟩:=id ht;obtain⟨⟨cls2,dd2,data2,sl2⟩,ho2,hc2,n2,hd2⟩:=id hb;simp only at hc hd hc2 hd2;subst hc hd hc2 hd2;have e:vs.toArray++ws.toArray=(vs++ws).toArray:=by simp
 by_cases hw:ws=[]
 ·exact concat_meets ⟨_,ho,rfl⟩ ⟨_,ho2,rfl⟩ noFill_tuple_add seq_tuple_add PySem.F.slot_tuple_add PySem.F.entry_tuple_add (PySem.F.args_tuple_add_2 _ _)
   (tuple_addW1 t b vs.toArray ws.toArray n n2 dd dd2 sl sl2 (by simpa using hv) (by simp[hw])) ⟨ho,ho2,h1 hw⟩
 ·refine concat_meets ⟨_,ho,rfl⟩ ⟨_,ho2,rfl⟩ noFill_tuple_add seq_tuple_add PySem.F.slot_tuple_add PySem.F.entry_tuple_add (PySem.F.args_tuple_add_2 _ _)
   (tuple_addW2 t b vs.toArray ws.toArray n n2 dd dd2 sl sl2 (by simpa using hv) (by simpa using hw) (by rw[aS,aS];exact hsz)) ⟨ho,ho2,?_⟩
  rw[e];exact h2 hw
noncomputable def sIx(n d:Nat):Option Int->Nat
 |none=>d
 |some v=>if v<0 then (v+(n:Int)).toNat else min v.toNat n
end
end HT
namespace L2
open PySem PySem.Spec PyProof.Rows
abbrev TO:=St->Hp->(Option Int->Hp->Prop)->Prop
noncomputable def PO(X:Cx)(e:Option Expr)(t:TO):Prop:=
 ∀(pins:List (Addr×Obj)) (s:af) (σ:St) (H:Hp) (Q:Option Int->Hp->Prop),Inv X pins σ H s->t σ H Q ->
  ak (aq X.prog X.w) X.A (evalPart e X.env) (λu s'=>∃o H',Inv X pins σ H' s'/\IsPart u o/\Q o H') X.xe s
noncomputable def AF:TO:=λ_ H Q=>Q none H
noncomputable def tF(t:TE):TO:=λσ H Q=>t σ H λx H1=>∃i,x=.int i/\Q (some i) H1
theorem intsAre_of{ns:List Int}:∀{us:List ae},Vals (ns.map V.int) us->bp us ns:=by
 induction ns with
 |nil=>intro us r;rw[List.map_nil]at r;cases r;exact .nil
 |cons n ns ih=>
  intro us r;rw[aQ]at r;cases r with
  |cons r1 r2=>
   obtain⟨t,e⟩:=r1;subst e;exact .cons n t (ih r2)
section
variable{X:Cx}{e:Expr}{te:TE}{lo hi:Option Expr}{tl th:TO}{pos p2:Pos}
theorem wD:PO X none AF:=by
 intro pins s σ H Q I h;rw[evalPart_none];exact aw ⟨none,H,I,.none,h⟩
theorem Bn(h:PE X e te):PO X (some e) (tF te):=by
 intro pins s σ H Q I hw;rw[evalPart_some];refine thn (h pins s σ H _ I hw) λu s1 ⟨x,H1,I1,r1,q1⟩=>?_
 obtain⟨i,rfl,q⟩:=q1;obtain⟨t,rfl⟩:=r1;exact⟨some i,H1,I1,.int i t,q⟩
noncomputable def SlR(X:Cx)(r:V->Option Int->Option Int->Hp->VK->Prop):Prop:=
 ∀(pins:List (Addr×Obj)) (s:af) (σ:St) (H:Hp) (x:V) (v vl vu:ae) (lo hi:Option Int) (sl:Addr) (Q:VK),Inv X pins σ H s->RelV x v->s.heap.IsSliceOf sl vl vu .none->IsPart vl lo->IsPart vu hi->r x lo hi H Q ->
  ∃T id,typeLookup (.type T) "__getitem__" = pure (some (.builtin id))/\s.TypeIs v T/\ak (aq X.prog X.w) X.A (getItem v (.ref sl)) (EP X pins σ Q) X.xe s
noncomputable def tSl(r:V->Option Int->Option Int->Hp->VK->Prop)(te:TE)(tl th:TO):TE:=λσ H Q=>te σ H λx H1=>tl σ H1 λl H2=>th σ H2 λu H3=>r x l u H3 Q
theorem wJ{r:V->Option Int->Option Int->Hp->VK->Prop}(hr:SlR X r)(he:PE X e te)(hl:PO X lo tl)(hu:PO X hi th):PE X (.Subscript e (.Slice lo hi none p2) pos) (tSl r te tl th):=by
 intro pins s σ H Q I h;refine Subscript_ (thn (he pins s σ H _ I h) λv s1 ⟨x,H1,I1,r1,q1⟩=>?_);refine wpAny_Slice (thn (hl pins s1 σ H1 _ I1 q1) λvl s2 ⟨l,H2,I2,pl,q2⟩=>thn (hu pins s2 σ H2 _ I2 q2) λvu s3 ⟨u,H3,I3,pu,q3⟩=>?_);rw[evalPart_none];refine aw ?_;have I4:Inv X pins σ H3 {s3 with heap:=s3.heap.push {cls:=.type "slice",data:=.fields #[vl,vu,.none]}}:=I3.kept (t':=s3.toks) λb ob q=>Heap.get?_push_of_some _ q
 obtain⟨T,id,hT,ht,hg⟩:=hr pins {s3 with heap:=s3.heap.push {cls:=.type "slice",data:=.fields #[vl,vu,.none]}} σ H3 x v vl vu l u s3.heap.objs.size Q I4 r1 (Heap.IsSliceOf.new ..) pl pu q3;show ak (aq X.prog X.w) X.A (subscriptTail e (.Slice lo hi none p2) v (.ref s3.heap.objs.size)) (EP X pins σ Q) X.xe {s3 with heap:=s3.heap.push {cls:=.type "slice",data:=.fields #[vl,vu,.none]}};exact tail_any (ops:=[.ref s3.heap.objs.size,v]) ht hT hg (by with_unfolding_all rfl)
noncomputable def fZ(xs:List V)(lo hi:Option Int):List V:=(xs.drop (HT.sIx xs.length 0 lo)).take (HT.sIx xs.length xs.length hi-HT.sIx xs.length 0 lo)
theorem Dm(xs:List V)(lo hi:Option Int):(fZ xs lo hi).length<=xs.length:=by
 unfold fZ;rw[cz,List.length_drop];lia
noncomputable def CG(K:aB):R2:=λx y H Q=>∃a b ns ms,x=.ref a/\y=.ref b/\SqT K H a (ns.map V.int)/\SqT K H b (ms.map V.int)/\Q (.bl (HT.lexLt ns ms)) H
theorem ve(hu:X.A.units<cLine):OpR X (bh .Lt) (CG X.K):=by
 intro pins s σ H x y v u Q I rx ry h;obtain⟨a,b,ns,ms,rfl,rfl,ha,hb,q⟩:=h;cases rx;cases ry;obtain⟨its,r1,p1,_⟩:=I.tuple ha;obtain⟨its2,r2,p2,_⟩:=I.tuple hb;have i1:bp its.toArray.toList ns:=intsAre_of r1;have i2:bp its2.toArray.toList ms:=intsAre_of r2;exact HT.Bt p1 p2 i1 i2 hu ⟨.bl (HT.lexLt ns ms),H,I,rfl,q⟩
noncomputable def xI(K:aB):R2:=λx y H Q=>∃a b xs ys,x=.ref a/\y=.ref b/\SqT K H a xs/\SqT K H b ys/\xs≠[]/\xs.length+ys.length<=aV /\
 (ys=[]->Q (.ref a) H)/\(ys≠[]->∀p,H p=none->Q (.ref p) (upd H p (.tup (xs++ys))))
theorem Vals.nil_iff{xs:List V}{us:List ae}(r:Vals xs us):us=[]↔xs=[]:=by
 cases r with
 |nil=>simp
 |cons _ _=>simp
theorem C_:OpR X (binaryOp .Add) (xI X.K):=by
 intro pins s σ H x y v u Q I rx ry h;obtain⟨a,b,xs,ys,rfl,rfl,ha,hb,hx,hz,q1,q2⟩:=h;cases rx;cases ry;obtain⟨its,r1,p1,_⟩:=I.tuple ha;obtain⟨its2,r2,p2,_⟩:=I.tuple hb;refine HT.Cw p1 p2 (λz=>hx (r1.nil_iff.mp z)) (λz=>⟨.ref a,H,I,rfl,q1 (r2.nil_iff.mp z)⟩) (λz=>?_) (by rw[<-r1.length,<-r2.length];exact hz);refine⟨.ref s.heap.objs.size,_,I.laid (t':=s.toks) (o:=.tup (xs++ys)) (λb ob q=>Heap.get?_push_of_some _ q) (aD _) ?_,rfl,q2 (λw=>z (r2.nil_iff.mpr w)) _ (I.hok.fresh (aD _))⟩;exact⟨by rw[cb];exact hz,_,r1.append r2,IsTup.new _ _⟩
end
noncomputable def ixN(n:Nat)(i:Int):Option Nat:=if 0<=i then (if i<n then some i.toNat else none)else if -(n:Int)<=i then some (i+n).toNat else none
noncomputable def atI{α:Type}(xs:List α)(i:Int):Option α:=(ixN xs.length i).bind λj=>xs[j]?
theorem pZ{n:Nat}{i:Int}{j:Nat}(h:ixN n i=some j):seqIndex? i n=some j/\j<n/\-(n:Int)<=i/\i<n:=by
 unfold ixN at h;by_cases h0:0<=i
 ·rw[if_pos h0]at h;by_cases h1:i<n
  ·rw[if_pos h1]at h;have e:i.toNat=j:=bU h;exact⟨by rw[seqIndex_of h0 h1,e],by lia,by lia,h1⟩
  ·rw[if_neg h1]at h;cases h
 ·rw[if_neg h0]at h;by_cases h1:-(n:Int)<=i
  ·rw[if_pos h1]at h;have e:(i+n).toNat=j:=bU h;exact⟨by rw[seqIndex_neg (by lia) h1,e],by lia,h1,by lia⟩
  ·rw[if_neg h1]at h;cases h
theorem nX{α:Type}{xs:List α}{i:Int}{v:α}(h:atI xs i=some v):∃j,seqIndex? i xs.length=some j/\xs[j]? = some v/\j<xs.length/\-(xs.length:Int)<=i/\i<xs.length:=by
 unfold atI at h;cases e:ixN xs.length i with
 |none=>rw[e]at h;cases h
 |some j=>
  rw[e]at h;obtain⟨h1,h2,h3,h4⟩:=pZ e;exact⟨j,h1,h,h2,h3,h4⟩
noncomputable def pN(b:Expr):Prop:=∀o i,subscripted b false o i=operate [o,i] (getItem o i)
noncomputable def IxR(X:Cx)(r:R2):Prop:=
 ∀(value slice:Expr) (pins:List (Addr×Obj)) (s:af) (σ:St) (H:Hp) (x y:V) (v u:ae) (Q:VK),Inv X pins σ H s->RelV x v->RelV y u->r x y H Q ->
  subscripted slice false v u=operate [v,u] (getItem v u)->ak (aq X.prog X.w) X.A (subscriptTail value slice v u) (EP X pins σ Q) X.xe s
noncomputable def MtR(X:Cx)(id:String)(r:V->List V->Hp->VK->Prop):Prop:=
 ∀(pins:List (Addr×Obj)) (s:af) (σ:St) (H:Hp) (x:V) (xs:List V) (v:ae) (us:List ae) (Q:VK),Inv X pins σ H s->RelV x v->Vals xs us->r x xs H Q ->
  ak (aq X.prog X.w) X.A (call (.builtin id) (v::us)) (EP X pins σ Q) X.xe s
section
variable{X:Cx}{a b:Expr}{ta tb:TE}{pos:Pos}
theorem IxR.or{r r':R2}(h:IxR X r)(h':IxR X r'):IxR X (λx y H Q=>r x y H Q\/r' x y H Q):=by
 intro value slice pins s σ H x y v u Q I rx ry q hs;rcases q with q|q
 ·exact h value slice pins s σ H x y v u Q I rx ry q hs
 ·exact h' value slice pins s σ H x y v u Q I rx ry q hs
theorem w8{r:R2}(hr:IxR X r)(ha:PE X a ta)(hb:PE X b tb)(hs:pN b):PE X (.Subscript a b pos) (tOp r ta tb):=by
 intro pins s σ H Q I h;exact Subscript_ (kr ha hb I h λv u s2 x y H2 I2 rx ry q=>hr a b pins s2 σ H2 x y v u Q I2 rx ry q (hs _ _))
noncomputable def mZ(K:aB):R2:=λx y H Q=>∃p xs i v,x=.ref p/\y=.int i/\SqL K H p xs/\atI xs i=some v/\Q v H
noncomputable def nE(K:aB):R2:=λx y H Q=>∃p xs i v,x=.ref p/\y=.int i/\SqT K H p xs/\atI xs i=some v/\Q v H
theorem uZ:IxR X (mZ X.K):=by
 intro value slice pins s σ H x y v u Q I rx ry h hs;obtain⟨p,xs,i,z,rfl,rfl,hq,he,q⟩:=h;cases rx;obtain⟨t,rfl⟩:=ry;obtain⟨its,r,pl,hz⟩:=I.list hq;obtain⟨j,h1,h2,h3,h4,h5⟩:=nX he;obtain⟨w,ew,rw'⟩:=r.get h2;have hl:=r.length;have hn:=f_;have fin:EP X pins σ Q w s:=⟨z,H,I,rw',q⟩
 by_cases h0:0<=i
 ·have hj:i.toNat=j:=by
   rw[seqIndex_of h0 h5]at h1;exact bU h1
  exact item_listR pl.isList h0 (by lia) (by rw[hj];simpa using ew) fin hs
 ·have hj:(i+(its.toArray.size:Int)).toNat=j:=by
   rw[seqIndex_neg (by lia) h4]at h1;rw[aS,<-hl];exact bU h1
  exact subscriptTail_builtinR (x:=w) pl.isList.typeIs slot_list_getitem.lookup
   (wpAny_getItem_list_neg (Q:=λr s'=>r=w/\EP X pins σ Q r s') pl.isList (by lia) (by rw[aS]<;>lia) (by lia) (by rw[hj];simpa using ew) ⟨rfl,fin⟩) hs
theorem yw:IxR X (nE X.K):=by
 intro value slice pins s σ H x y v u Q I rx ry h hs;obtain⟨p,xs,i,z,rfl,rfl,hq,he,q⟩:=h;cases rx;obtain⟨t,rfl⟩:=ry;obtain⟨its,r,pl,hz⟩:=I.tuple hq;obtain⟨j,h1,h2,h3,h4,h5⟩:=nX he;obtain⟨w,ew,rw'⟩:=r.get h2;have hl:=r.length;have hn:=f_;have fin:EP X pins σ Q w s:=⟨z,H,I,rw',q⟩
 exact subscriptTail_builtinR (x:=w) pl.typeIs slot_tuple_getitem.lookup
  (getItem_tuple (j:=j) (Q:=λr s'=>r=w/\EP X pins σ Q r s') pl (by lia) (by lia) (by rw[aS,<-hl];exact h1) (by simpa using ew) ⟨rfl,fin⟩) hs
theorem sG(its:List ae)(n j:Nat)(u:ae):ba (·.setIfInBounds j u) {cls:=.type "list",data:=.seq its.toArray n}={cls:=.type "list",data:=.seq (its.set j u).toArray n}:=by
 simp[ba]
theorem Inv.lst{pins:List (Addr×Obj)}{σ:St}{H:Hp}{s:af}{p:Addr}{xs:List V}(I:Inv X pins σ H s)(h:H p=some (.lst xs)) :
  ∃(its:List ae) (n:Nat),Vals xs its/\s.heap.get? p=some {cls:=.type "list",data:=.seq its.toArray n}/\xs.length<=sizeLine:=by
 obtain⟨z,its,n,r,e⟩:=I.hok p _ h;exact⟨its,n,r,e,z⟩
theorem Inv.lstUpd{pins:List (Addr×Obj)}{σ:St}{H:Hp}{s:af}{p:Addr}{xs ys:List V}{its its':List ae}{n n':Nat}{f:Obj->Obj}(I:Inv X pins σ H s)(h:H p=some (.lst xs))
  (ho:s.heap.get? p=some {cls:=.type "list",data:=.seq its.toArray n}) (hf:f {cls:=.type "list",data:=.seq its.toArray n}={cls:=.type "list",data:=.seq its'.toArray n'}) (r:Vals ys its') (hz:ys.length<=aV) (t:Nat) :
  Inv X pins σ (upd H p (.lst ys)) {s with heap:=s.heap.update p f,toks:=t}:=by
 have e:(s.heap.update p f).get? p=some {cls:=.type "list",data:=.seq its'.toArray n'}:=by
  rw[Heap.get?_update_self f ho (by rw[hf]<;>rfl),hf]
 refine I.write (x:=p) (e:=p) (by rw[h];trivial) (.inl rfl) (λb u hb q=>(Heap.get?_update_other _ _ (Ne.symm hb)).trans q) ⟨_,e⟩ ?_;exact⟨hz,its',n',r,e⟩
noncomputable def ng:V->V->V->Hp->(Hp->Prop)->Prop:=λo i v H Q=>∃p xs k j,o=.ref p/\i=.int k/\H p=some (.lst xs)/\ixN xs.length k=some j/\Q (upd H p (.lst (xs.set j v)))
theorem set_list:pG X ng:=by
 intro pins s σ H o i v ov iv u Q I ro ri rv h;obtain⟨p,xs,k,j,rfl,rfl,hp,hj,q⟩:=h;cases ro;obtain⟨t,rfl⟩:=ri;obtain⟨its,n,r,ho,hz⟩:=I.lst hp;obtain⟨h1,h2,h3,h4⟩:=pZ hj;have hl:=r.length;have hn:=f_;have I':Inv X pins σ (upd H p (.lst (xs.set j v))) {s with heap:=s.heap.update p (ba (·.setIfInBounds j u))}:=
  I.lstUpd hp ho (sG its n j u) (r.set rv j) (by rw[List.length_set];exact hz) s.toks
 by_cases h0:0<=k
 ·have hk:k.toNat=j:=by
   rw[seqIndex_of h0 h4]at h1;exact bU h1
  exact PySem.W.ki_setAt ho h0 (by lia) (by rw[aS,<-hl];exact h4) (by rw[hk];exact⟨_,I',q⟩)
 ·have hk:(k+(its.toArray.size:Int)).toNat=j:=by
   rw[seqIndex_neg (by lia) h3]at h1;rw[aS,<-hl];exact bU h1
  exact PySem.W.ki_setBack ho (by lia) (by rw[aS,<-hl];exact h3) (by lia) (by rw[hk];exact⟨_,I',q⟩)
theorem wM(lo hi:Option Int)(n:Nat):(sliceBounds lo hi none n).1=((HT.sIx n 0 lo:Nat):Int)/\(sliceBounds lo hi none n).2.1=((HT.sIx n n hi:Nat):Int)/\(sliceBounds lo hi none n).2.2=1:=by
 refine⟨?_,?_,rfl⟩
 ·cases lo with
  |none=>simp[sliceBounds,HT.sIx]
  |some i=>
   simp only[sliceBounds,HT.sIx,Option.getD_none,show (1:Int)>0 by decide,if_true];by_cases h:i<0
   ·simp only[h,if_true]<;>lia
   ·simp only[h,if_false]<;>lia
 ·cases hi with
  |none=>simp[sliceBounds,HT.sIx]
  |some i=>
   simp only[sliceBounds,HT.sIx,Option.getD_none,show (1:Int)>0 by decide,if_true];by_cases h:i<0
   ·simp only[h,if_true]<;>lia
   ·simp only[h,if_false]<;>lia
theorem wd(its:List ae)(lo hi:Option Int):slicePick its.toArray lo hi none=((its.drop (HT.sIx its.length 0 lo)).take (HT.sIx its.length its.length hi-HT.sIx its.length 0 lo)).toArray:=by
 obtain⟨h1,h2,h3⟩:=wM lo hi its.toArray.size;unfold slicePick;rw[h1,h2,h3];simp only[sliceRange_one,pick_run,aS]<;>rfl
noncomputable def vD(K:aB):V->Option Int->Option Int->Hp->VK->Prop:=λx lo hi H Q=>∃a xs,x=.ref a/\SqL K H a xs/\∀p,H p=none->Q (.ref p) (upd H p (.lst (fZ xs lo hi)))
theorem yy:SlR X (vD X.K):=by
 intro pins s σ H x v vl vu lo hi sl Q I rx hs pl pu h;obtain⟨a,xs,rfl,hx,q⟩:=h;cases rx;obtain⟨its,r,ht,hz⟩:=I.list hx;have hlen:=r.length;refine⟨"list",_,slot_list_getitem.lookup,ht.isList.typeIs,?_⟩;refine wpAny_getItem_list_slice ht.isList hs pl pu .none (by simp) ?_ (by rw[aS]<;>lia);rw[wd,<-hlen];refine⟨.ref s.heap.objs.size,_,I.laid (t':=s.toks) (o:=.lst (fZ xs lo hi)) (λb ob q=>Heap.get?_push_of_some _ q) (aD _) ?_,rfl,q _ (I.hok.fresh (aD _))⟩;exact⟨bD (Dm xs lo hi) hz,_,0,(r.drop (HT.sIx xs.length 0 lo)).take (HT.sIx xs.length xs.length hi-HT.sIx xs.length 0 lo),Heap.get?_push_size _ rfl⟩
theorem AR:qU X (.builtin "len") (λxs H Q=>∃p ys,xs=[.ref p]/\(SqL X.K H p ys\/SqT X.K H p ys)/\Q (.int ys.length) H):=by
 intro pins s σ H xs us Q I r h;obtain⟨p,ys,rfl,hq,q⟩:=h;obtain⟨u,rfl,rx⟩:=vals1 r;cases rx;have hn:=f_;rcases hq with hq|hq
 ·obtain⟨its,r',pl,hz⟩:=I.list hq;have hlen:=r'.length;exact Calls.call_len_list pl.isList (by simp only[aS]<;>lia) ⟨.int ys.length,H,I.tok _,⟨s.toks+1,by rw[aS,hlen]⟩,q⟩
 ·obtain⟨its,r',pl,hz⟩:=I.tuple hq;have hlen:=r'.length;exact len_tuple pl (by simp only[aS]<;>lia) ⟨.int ys.length,H,I.tok _,⟨s.toks+1,by rw[aS,hlen]⟩,q⟩
theorem qU.or{f:ae}{r r':List V->Hp->VK->Prop}(h:qU X f r)(h':qU X f r'):qU X f (λxs H Q=>r xs H Q\/r' xs H Q):=by
 intro pins s σ H xs us Q I rs q;rcases q with q|q
 ·exact h pins s σ H xs us Q I rs q
 ·exact h' pins s σ H xs us Q I rs q
theorem Bv:qU X (.type "tuple") (λxs H Q=>∃p ys,xs=[.ref p]/\((SqL X.K H p ys/\∀l,H l=none->Q (.ref l) (upd H l (.tup ys)))\/(SqT X.K H p ys/\Q (.ref p) H))):=by
 intro pins s σ H xs us Q I r h;obtain⟨p,ys,rfl,h⟩:=h;obtain⟨u,rfl,rx⟩:=vals1 r;cases rx;rcases h with ⟨hq,q⟩|⟨hq,q⟩
 ·obtain⟨its,r',pl,hz⟩:=I.list hq;have hlen:=r'.length;refine call_tuple_list pl.isList (λh' kp=>?_) (by simp only[aS]<;>lia);have I1:Inv X pins σ H {s with heap:=h'}:=I.kept (t':=s.toks) kp;have I2:Inv X pins σ (upd H h'.objs.size (.tup ys)) {s with heap:=h'.push {cls:=.type "tuple",data:=.seq its.toArray}}:=
   I1.laid (t':=s.toks) (λb o e=>Heap.get?_push_of_some _ e) (aD _) (show zS X.prog X.w _ _ _ (.tup ys)from ⟨hz,its,r',IsTup.new _ _⟩)
  exact⟨.ref h'.objs.size,_,I2,rfl,q _ (I1.hok.fresh (aD _))⟩
 ·obtain⟨its,r',pl,hz⟩:=I.tuple hq;exact call_tuple_same pl ⟨.ref p,H,I,rfl,q⟩
noncomputable def tyV(K:aB)(T:String)(x:V)(H:Hp):Prop:=match x with
 | .str _=>T = "str"
 | .int _=>T = "int"
 | .ref p=>(T = "list"/\∃xs,SqL K H p xs)\/(T = "tuple"/\∃o,K.lookup p=some o/\o.cls=.type "tuple"/\o.dict=none) \/
   (T = "dict"/\((∃kvs,H p=some (.dK kvs))\/∃kvs,H p=some (.dT kvs)))\/(T = "set"/\∃S n,H p=some (.set S n))
 |_=>False
theorem yN{pins:List (Addr×Obj)}{σ:St}{H:Hp}{s:af}{T:String}{x:V}{v:ae}(I:Inv X pins σ H s)(r:RelV x v)(ty:tyV X.K T x H) :
  s.TypeIs v T/\∀a,v=.ref a->∃ob,s.heap.get? a=some ob/\ob.dict=none:=by
 cases x with
 |str z=>
  obtain⟨t,rfl⟩:=r;cases (show T = "str" from ty);exact⟨typeIs_str s z t,λ_ e=>nomatch e⟩
 |int i=>
  obtain⟨t,rfl⟩:=r;cases (show T = "int" from ty);exact⟨typeIs_int s i t,λ_ e=>nomatch e⟩
 |ref p=>
  cases r;rcases ty with ⟨rfl,xs,hq⟩|⟨rfl,o,hk,hc,hd⟩|⟨rfl,hk⟩|⟨rfl,S,n,hk⟩
  ·obtain⟨its,_,pl,_⟩:=I.list hq;refine⟨pl.isList.typeIs,λa e=>?_⟩;cases e;obtain⟨o,n,e,c,hd,_⟩:=pl;exact⟨o,e,hd⟩
  ·refine⟨⟨o,I.kIn p o hk,hc⟩,λa e=>?_⟩;cases e;exact⟨o,I.kIn _ o hk,hd⟩
  ·have z:∃o,s.heap.get? p=some o/\o.ExactDict:=by
    rcases hk with ⟨kvs,hk⟩|⟨kvs,hk⟩
    ·obtain⟨_,_,_,_,o,_,_,e,ex,_⟩:=I.hok p _ hk;exact⟨o,e,ex⟩
    ·obtain⟨_,_,_,_,o,_,_,e,ex,_⟩:=I.hok p _ hk;exact⟨o,e,ex⟩
   obtain⟨o,e,ex⟩:=z;refine⟨⟨o,e,ex.1⟩,λa e2=>?_⟩;cases e2;exact⟨o,e,ex.2.1⟩
  ·obtain⟨o,_,_,_,e,ex,_⟩:=I.hok p _ hk;refine⟨⟨o,e,ex.1⟩,λa e2=>?_⟩;cases e2;exact⟨o,e,ex.2.1⟩
 |_=>exact bI ty
noncomputable def tBM(K:aB)(T:String)(r:V->List V->Hp->VK->Prop)(to:TE)(t:TA):TE:=λσ H Q=>to σ H λx H1=>tyV K T x H1/\t σ H1 λxs H2=>r x xs H2 Q
variable{o e:Expr}{es:List Expr}{to:TE}{t:TA}{name:Str}{apos cpos:Pos}{T id:String}{r:V->List V->Hp->VK->Prop}
theorem o_(pa:PlainAttrs T)(slot:Slot T name id)(hty:typeOf (.builtin id)=pure (.type "method_descriptor"))(hm:MtR X id r)(ho:PE X o to)(ha:PA X (e::es) t)
  (hbase:attributeBase o name X.env (eval o X.env)=eval o X.env:=by rfl)
  (hfew:((backTo cpos (bf (e::es) X.env)).all (λx=>!x.1)&&(backToKw cpos (keywordEach [] X.env)).all (λx=>x.1.isSome)
   && decide ((e::es).length+([]:List Keyword).length+(if ([]:List Keyword).isEmpty then 0 else 1)<30))=true:=by rfl)
  (hline:(apos.endLine==cpos.line)=true:=by rfl) (hs:bf (e::es) X.env=(false,eval e X.env)::bf es X.env:=by rfl) (hplain:(backTo cpos (bf es X.env)).any (·.1)=false:=by rfl) :
  PE X (.Call (.Attribute o name apos) (e::es) [] cpos) (tBM X.K T r to t):=by
 intro pins s σ H Q I h;refine wpAny_Call_method_late hbase hfew hline rfl (thn (ho pins s σ H _ I h) λv s1 ⟨x,H1,I1,r1,ty,q1⟩=>?_);obtain⟨h1,h2⟩:=yN I1 r1 ty;refine⟨T,id,pa,slot,hty,h1,h2,?_⟩;have hA:=ha cpos pins s1 σ H1 _ I1 q1;rw[hs]at hA ⊢;refine Calls.callWith_builtin (by show (false||(backTo cpos (bf es X.env)).any (·.1))=false;rw[hplain]<;>rfl) (Calls.evalArgs_plain ?_);exact thn hA λus s2 ⟨vs,H2,I2,r2,q2⟩=>hm pins s2 σ H2 x vs v us Q I2 r1 r2 q2
/- xs.append(e), list.index on a module's tuple .. are MtR facts of 06m -/
end
noncomputable def MtM(X:Cx)(id:String)(r:V->List V->Hp->VK->Prop):Prop:=
 ∀(pins:List (Addr×Obj)) (s:af) (σ:St) (H:Hp) (x:V) (xs:List V) (v:ae) (us:List ae) (Q:VK),Inv X pins σ H s->RelV x v->Vals xs us->r x xs H Q ->
  ak (aq X.prog X.w) X.A (call (.builtin id) (v::us)) (EP X pins σ Q) X.xe s
theorem Vals.one{x:V}{us:List ae}(h:Vals [x] us):∃u,us=[u]/\RelV x u:=by
 cases h with
 |cons r h=>cases h;exact⟨_,rfl,r⟩
theorem Vals.two{x y:V}{us:List ae}(h:Vals [x,y] us):∃u v,us=[u,v]/\RelV x u/\RelV y v:=by
 cases h with
 |cons r h=>cases h with
  |cons q h=>cases h;exact⟨_,_,rfl,r,q⟩
theorem Vals.zero:∀{us:List ae},Vals [] us->us=[]
 |_,.nil=>rfl
section
variable{X:Cx}{pins:List (Addr×Obj)}{σ:St}{H:Hp}{s:af}{l b:Addr}{xs ys zs:List V}
theorem Inv.lset{its its':List ae}{n:Nat}{f:Array ae->Array ae}{t':Nat}(I:Inv X pins σ H s)(hH:H l=some (.lst xs))
  (e:s.heap.get? l=some {cls:=.type "list",data:=.seq its.toArray n}) (hf:f its.toArray=its'.toArray) (hv:Vals ys its') (hz:ys.length<=aV) :
  Inv X pins σ (upd H l (.lst ys)) {s with heap:=s.heap.update l (ba f),toks:=t'}:=by
 have q:=PySem.IsL.update e f;rw[hf]at q;refine I.write (x:=l) (e:=l) (by rw[hH];exact trivial) (.inl rfl) (λb' u hb hu=>(Heap.get?_update_other s.heap (ba f) (Ne.symm hb)).trans hu) ⟨_,q⟩ ?_;exact⟨hz,its',_,hv,q⟩
theorem Inv.lnew{its:List ae}{t':Nat}(I:Inv X pins σ H s)(hv:Vals ys its)(hz:ys.length<=aV) :
  Inv X pins σ (upd H s.heap.objs.size (.lst ys)) {s with heap:=s.heap.push {cls:=.type "list",data:=.seq its.toArray},toks:=t'}:=
 I.laid (λ_ _ q=>Heap.get?_push_of_some _ q) (aD _) ⟨hz,its,0,hv,Heap.get?_push_size _ rfl⟩
theorem Inv.fresh(I:Inv X pins σ H s):H s.heap.objs.size=none:=I.hok.fresh (aD _)
theorem Inv.lstM(I:Inv X pins σ H s)(hH:H l=some (.lst xs)):xs.length<=aV/\∃(its:List ae) (n:Nat),Vals xs its/\xs.length=its.length/\s.heap.get? l=some {cls:=.type "list",data:=.seq its.toArray n}:=by
 obtain⟨z,its,n,r,e⟩:=I.hok l _ hH;exact⟨z,its,n,r,r.length,e⟩
end
section
variable{X:Cx}
noncomputable def uL:V->List V->Hp->VK->Prop:=λx vs H Q=>∃l xs y,x=.ref l/\vs=[y]/\H l=some (.lst xs)/\xs.length<aV/\Q .non (upd H l (.lst (xs++[y])))
theorem nt:MtM X "list.append" uL:=by
 intro pins s σ H x vs v us Q I rx rv h;obtain⟨l,xs,y,rfl,rfl,hH,hz,q⟩:=h;cases rx;obtain⟨u,rfl,ru⟩:=rv.one;obtain⟨z,its,n,r,hl,e⟩:=I.lstM hH;refine call_meets F.slot_list_append ⟨_,e,rfl⟩ F.entry_list_append (F.args_list_append_2 _ _) (PySem.list_append l its.toArray n u (by rw[aS];lia)) ⟨e,?_⟩;refine⟨.non,_,I.lset (its':=its++[u]) hH e (by simp) (r.append (.cons ru .nil)) ?_,rfl,q⟩;rw[cb,List.length_singleton];lia
end
section
variable{prog:aC}{w:av}{A:aA}{E:ae->af->Prop}{s:af}
set_option maxRecDepth 100000 in
end
section
variable{X:Cx}
end
end L2
namespace Att
open PySem PySem.W PySem.Calls PyProof.Rows
theorem wX{P:Params}{h:Heap}:∀(ns:List Int) (vs:List ae),WellAll P h vs (ns.map WData.int)->bp vs ns:=by
 intro ns
 induction ns with
 |nil=>
  intro vs w;rw[List.map_nil]at w;cases w;exact .nil
 |cons n ns ih=>
  intro vs w;rw[aQ]at w;cases w with
  |cons a b=>
   cases a;exact .cons _ _ (ih _ b)
theorem yJ{l:OpenLaw}{n:Nat}(hn:l.most=some n){P:Params}{h:Heap}{args:List WData}{vals:List ae}
  (hpre:l.row.toRowW.claim.pre args=true) (hwl:WellAll P h vals args) :
  ∃a vs ns,vals=[bx a]/\args=[WData.list (ns.map WData.int)]/\h.get? a=some {cls:=.type "list",data:=.seq vs.toArray}/\bp vs ns/\ns.length<=n:=by
 have hsh:WShape.hasAll [] args [.list .int]=true:=(pre_splitW hpre).1;have hc:l.pre.holds [] {args:=args}=true:=(pre_splitW hpre).2;obtain⟨d,r,rfl,h1,h2⟩:=hasAllW_cons hsh;obtain rfl:=hasAllW_nil h2;obtain⟨xs,rfl,h3⟩:=hasW_list h1;obtain⟨ns,rfl⟩:=items_int h3;have hlen:ns.length<=n:=by
  unfold OpenLaw.pre at hc;have h4:(WTm.not (.lt (.lit (.int (n:Int))) (.len (.arg 0)))).holds [] {args:=[.list (ns.map .int)]}=true:=by
   have h4:=(holds_andW hc).1;rw[hn]at h4;exact h4
  have h5:=condW_of h4 (w_not (w_lt w_lit (w_len_list (w_arg rfl))));rw[aR]at h5;refine dk λq=>?_
  have q':(n:Int)<((ns.length:Nat):Int):=by lia
  first
   | (rw[decide_eq_true q']at h5;exact absurd h5 (by decide))
   | (simp at h5;lia)
 cases hwl with
 |cons w1 w2=>
  cases w2;cases w1 with
  |list ho hall=>exact⟨_,_,ns,rfl,rfl,ho,wX ns _ hall,hlen⟩
theorem xN(l:OpenLaw)(args:List WData):l.row.toRowW.claim.post args (.bool true) args=true:=
 postW_of (r:=l.row.toRowW) (X:=(true==true))
  (show WShape.has [] (.bool true) .bool=true by first|rfl|decide|simp[WShape.has,WShape.arms,WShape.armsAll])
  (show (WTm.eq .res (.lit (.bool true))).value [] {args:=args,res:=some (.bool true),after:=args}=some (.bool (true==true))from w_eq_bool (w_res rfl) w_lit) rfl
theorem Df{l:OpenLaw}{n:Nat}{q:aC}{loose:List Str}{XP:(Str->Option ae)->Heap->Prop}{YP:av->Heap->Prop}{d:DefRec}
  (hn:l.most=some n) (hdf:d.params.defaults=[])
  (call:∀(w:av) (s₀ s₁:af) (mg mb:Str->Option ae) (fa:Addr) (o:Obj) (pm cd doc:ae) (a:Addr) (vs:List ae) (ns:List Int),
   Ground q loose [] XP w s₀ mg mb s₁.heap->YP w s₁.heap ->
   s₁.heap.get? fa=some o->o.data=.func (docDef d.name d.params d.body d.scope pm cd doc)->s₁.heap.CodeRec cd d.name->mg d.name=some (.ref fa) ->
   s₁.heap.get? a=some {cls:=.type "list",data:=.seq vs.toArray}->bp vs ns->ns.length<=n->s₁.gens = #[] ->
   codeAny (aq l.prog w) callerA (.call (.ref fa) ⟨[.ref a],[]⟩) (λr s'=>r=.ok (.ret (.bool true))/\OldK s₁.heap s'.heap/\s'.os=s₁.os/\AllBare s'.gens) s₁) :
  WalkO q loose XP YP l.row.toRowW d [] (λf vs=>PySem.call f vs):=by
 intro w s₀ s₁ mg mb G Y fa o pm cd doc dV kV ho hd hcd hD hmg hg args vals as hpre hlay hrd hwl hlo;obtain rfl:dV=.none:=Dflts.none hD hdf;obtain rfl:kV=.none:=Dflts.noKw hD;obtain⟨a,vs,ns,rfl,rfl,hobj,hints,hlen⟩:=yJ hn hpre hwl;refine enter_call (codeAny_mono (call w s₀ s₁ mg mb fa o pm cd doc a vs ns G Y ho (fd_plain hd) hcd hmg hobj hints hlen hg) λr s' hq=>?_);obtain⟨rfl,h2,h3,h4⟩:=hq;exact⟨.inl ⟨.bool true,.bool true,[],rfl,λ_=>rfl,.bool true,xN l _,λ_=>⟨List.Pairwise.nil,λ_ hm=>(nomatch hm)⟩⟩,h2,h3,h4⟩
section
variable{prog:aC}{w:av}{A:aA}{E:ae->af->Prop}{s:af}{K:Frag}
end
end Att
namespace L2
open PySem PySem.Spec PyProof.Rows
theorem oG:∀{vs:List ae}{ns:List Int},bp vs ns->Vals (ns.map V.int) vs
 |_,_,.nil=>.nil
 |_,_,.cons n t h=>.cons ⟨t,rfl⟩ (oG h)
noncomputable def lj(H:Hp):Prop:=∀b,H b=none\/∃o xs,H b=some (.frz o (.lst xs))
theorem wL{P:aC}{w:av}{K:aB}{mg mb:Str->Option ae}{CX:CXT}{k:Nat}{fa a:Addr}{fd:FuncData}{x:Str}{sp:Sp}{s₁:af}{vs:List ae}{ns:List Int}
  (KX:K.In s₁.heap) (hns:s₁.heap.Ns aE mg) (hb:s₁.heap.Ns builtinsNs mb) (hbb:∀x:Str,x≠"__name__"->mb x=bN x) (hlim:s₁.heap.NoLimit) (hg:s₁.gens = #[])
  (ha:s₁.heap.get? a=some {cls:=.type "list",data:=.seq vs.toArray}) (hi:bp vs ns) (hl:ns.length<=aV) (hr:cD k callerA)
  (F:∀base:Heap,K.In base->base.Ns aE mg->eY P w K mg base CX k fa fd [x] sp) (hbind:∀(s:af) (u:ae),BindsTo s fd ⟨[u],[]⟩ [(x,u)])
  (hsp:∀H:Hp,lj H->SqL K H a (ns.map V.int)->sp [.ref a] H (λv _=>v=.bl true) λ_ _ _=>False)
  (hCX:∀H e s',CX [] H s₁ (λ_ _ _=>False) e s'->False) :
  codeAny (aq P w) callerA (.call (.ref fa) ⟨[.ref a],[]⟩) (λr s'=>r=.ok (.ret (.bool true))/\OldK s₁.heap s'.heap/\s'.os=s₁.os/\AllBare s'.gens) s₁:=by
 have rv:=oG hi;have lenV:=hi.length
 -- from an abstract heap in which nothing but the script may be tracked
 have core:∀H:Hp,lj H->SqL K H a (ns.map V.int)->HOk P w H s₁.heap->(∀b,H b≠none->b=a)->(H a≠none->K.lookup a=none) ->
   codeAny (aq P w) callerA (.call (.ref fa) ⟨[.ref a],[]⟩) (λr s'=>r=.ok (.ret (.bool true))/\OldK s₁.heap s'.heap/\s'.os=s₁.os/\AllBare s'.gens) s₁:=by
  intro H hO hS hok hA hK;have base_of:∀{b:Addr}{o:Obj},s₁.heap.get? b=some o->H b=none->(eJ s₁.heap H).get? b=some o:=λe n=>we e n
  have noA:∀{b:Addr}{o:Obj}{es:Array DictEntry}{ep:Nat},s₁.heap.get? b=some o->o.data=.dict es ep->H b=none:=λ{b o es ep} e d=>by
   cases q:H b with
   |none=>rfl
   |some u=>
    have e':b=a:=hA b (by rw[q];simp);subst e';rw[ha]at e;cases e;have d':Data.seq vs.toArray _=Data.dict es ep:=d;cases d'
  have nsK:∀{b:Addr}{m:Str->Option ae},s₁.heap.Ns b m->(eJ s₁.heap H).Ns b m:=λ{b m} ⟨o,es,ep,e,d,r⟩=>⟨o,es,ep,base_of e (noA e d),d,r⟩
  have hKb:K.In (eJ s₁.heap H):=λb o e=>base_of (KX b o e) (by
   cases q:H b with
   |none=>rfl
   |some u=>
    have e':b=a:=hA b (by rw[q];simp);subst e';rw[hK (by rw[q];simp)]at e;cases e)
  have hM:Mod K mg (eJ s₁.heap H):=⟨hKb,nsK hns,⟨mb,nsK hb,hbb⟩,let ⟨mc,h1,h2⟩:=hlim;⟨mc,nsK h1,h2⟩⟩
  have e0:gL P w K mg (eJ s₁.heap H) callerA [] s₁ H:=⟨rfl,hM,λb o e=>vW e,Nat.le_of_eq (yZ _ _),trivial,λb hb=>absurd (show b∈([]:List Addr)from hb) (by simp),hok,.of_eq hg⟩
  refine codeAny_mono ((F _ hKb (nsK hns)).run callerA [] s₁ H ⟨[.ref a],[]⟩ [.ref a] [.ref a] _ _ hr e0 (hbind s₁ (.ref a)) (.cons rfl .nil) (hsp H hO hS)) λr s' h=>?_
  cases r with
  |error e=>exact(hCX H e s' h).elim
  |ok fl=>
   cases fl with
   |next=>exact bI h
   |brk=>exact bI h
   |cont=>exact bI h
   |ret u=>
    obtain⟨v,H',os,bare,un,hok',r',q⟩:=h;have q':v=.bl true:=q;subst q';obtain rfl:u=ae.bool true:=r';refine⟨rfl,OldK.of_keep λb o e=>?_,os,bare⟩;cases q:H b with
    |none=>exact un.keep b o e q (by intro z;exact absurd (show b∈([]:List Addr)from z) (by simp)) (by simp)
    |some u=>
     rcases hO b with z|⟨ob,xs,z⟩
     ·rw[q]at z;cases z
     ·have z2:=un.frzs b ob _ z;obtain⟨e1,_⟩:=hok b _ z;obtain⟨e2,_⟩:=hok' b _ z2;rw[e]at e1;cases e1;exact e2
 cases hk:K.lookup a with
 |some o=>
  -- the script is one of the module's own objects
  have e:=KX a o hk;rw[ha]at e;cases e;refine core (λ_=>none) (λ_=>.inl rfl) (.inr ⟨_,vs.toArray,_,hk,rfl,rfl,rfl,by rw[aS,lenV];exact hl,by simpa using rv⟩) (λb u z=>by have z':(none:Option HO)=some u:=z;cases z') (λb z=>absurd rfl z) λz=>absurd rfl z
 |none=>
  refine core (λb=>if b=a then some (.frz {cls:=.type "list",data:=.seq vs.toArray} (.lst (ns.map V.int)))else none) (λb=>?_) (.inl (.inr ⟨{cls:=.type "list",data:=.seq vs.toArray},if_pos rfl⟩)) (λb u z=>?_) (λb z=>?_) λ_=>hk
  ·by_cases hb:b=a
   ·exact .inr ⟨_,_,if_pos hb⟩
   ·exact .inl (if_neg hb)
  ·by_cases hb:b=a
   ·have z':=(if_pos hb).symm.trans z;cases z';subst hb;exact⟨ha,by rw[aR];exact hl,vs,_,rv,ha⟩
   ·have z':=(if_neg hb).symm.trans z;cases z'
  ·by_cases hb:b=a
   ·exact hb
   ·exact absurd (if_neg hb) z
theorem Aj{l:PySem.W.OpenLaw}{n k:Nat}{q:aC}{loose:List Str}{XP:(Str->Option ae)->Heap->Prop}{YP:av->Heap->Prop}{d:DefRec}{K:Params->aB}{CX:av->CXT}{sp:av->Sp}{x:Str}
  (hn:l.most=some n) (hn2:n<=aV) (hdf:d.params.defaults=[]) (hr:cD k callerA)
  (hY:∀(w:av) (h:Heap),YP w h->(K w.params).In h)
  (F:∀(w:av) (mg:Str->Option ae) (fa:Addr) (h:Heap),(K w.params).In h->h.Ns aE mg->mg d.name=some (.ref fa) ->
   ∃fd:FuncData,(∀(s:af) (u:ae),BindsTo s fd ⟨[u],[]⟩ [(x,u)]) /\
    ∀base:Heap,(K w.params).In base->base.Ns aE mg->eY l.prog w (K w.params) mg base (CX w) k fa fd [x] (sp w))
  (hsp:∀(w:av) (H:Hp) (a:Addr) (ns:List Int),ns.length<=n->lj H->SqL (K w.params) H a (ns.map V.int)->sp w [.ref a] H (λv _=>v=.bl true) λ_ _ _=>False)
  (hCX:∀(w:av) (H:Hp) (s:af) (e:ae) (s':af),CX w [] H s (λ_ _ _=>False) e s'->False) :
  PySem.W.WalkO q loose XP YP l.row.toRowW d [] (λf vs=>PySem.call f vs):=by
 refine Att.Df hn hdf λw s₀ s₁ mg mb fa o pm cd doc a vs ns G Y ho hd hcd hmg hobj hints hlen hg=>?_
 have KX:=hY w _ Y;obtain⟨fd,hb,hF⟩:=F w mg fa _ KX G.T.g hmg;exact wL KX G.T.g G.T.b G.T.builtins G.T.nolimit hg hobj hints (bD hlen hn2) hr hF hb (λH hO hS=>hsp w H a ns hlen hO hS) λH e s'=>hCX w H s₁ e s'
end L2
/- THE LAST THEOREM (shape; LID, My.* are yours):
   My.Adr: a structure of the addresses that your layer names (classes, functions); My.Txt K t: a structure (Prop) of the equations over K;
   My.txt_mk : {K} {implicit addresses ..} (e1 : nsIn K mainGlobals "law" = some (some (.ref f))) (e2 : K.lookup f = some ⟨oc, od, .func (fnOf "law" "law" params body scope dV kV doc pm an cdv ct), sl⟩) (e3 : codeIn K cdv "law" = true) .. : ∃ t, My.Txt K t
set_option maxRecDepth 100000 in
set_option maxHeartbeats 0 in
theorem PySem.Challenge.cw_LID_holds : PySem.Challenge.rw_LID.Holds := by
 w_on; o_law; k_head; (case hw => w_witness2)
 k_fill
 refine L2.walk_of (l := PySem.Challenge.rw_LID) (n := 63) (k := 40) (x := "script") (CX := fun w => ..) (sp := fun _ => My.sp_law) rfl (by decide) rfl ⟨rfl, by decide, by decide⟩ (fun w h Y => PySem.W.kIn_of Y) ?F ?S ?C
 case F =>
  intro w mg fa h KX G hmg;have T : ∃ t, My.Txt (L2.KOf KX) t := by
   dsimp only [L2.KOf]                          -- K must stand as «<heap const> w.params» for k_is
   refine' My.txt_mk ?e1 ?e2 ?e3 ..
   (case e1 => PySem.W.k_is)                    -- in the order: a name -> its address -> its object -> its parts
   (case e2 => PySem.W.k_is)
   ..
  obtain ⟨t, T⟩ := T;have e0 := hmg.symm.trans (PySem.W.mg_of KX G T.law);cases e0                                       -- fa is the law's own address
  exact ⟨_, fun s u => .of_eq rfl, fun base kb nb => My.law_fn T kb nb⟩     -- if «.of_eq rfl» comes too early: refine' ⟨_, ?b, fun base kb nb => My.law_fn T kb nb⟩; exact fun s u => .of_eq rfl
 case S => exact fun w H a ns hl hO hS => ..
 case C => exact ..
(the tactic k_is has no namespace: write k_is) -/
namespace L2
open PySem PySem.Spec PyProof.Rows
noncomputable def zi(s:Stmt):Arguments:=match s with
 | .FunctionDef _ a _ _ _ _ _ _ _ _=>a
 |_=>{posonlyargs:=[],args:=[],vararg:=none,kwonlyargs:=[],kw_defaults:=[],kwarg:=none,defaults:=[]}
noncomputable def d_(s:Stmt):List Stmt:=match s with
 | .FunctionDef _ _ b _ _ _ _ _ _ _=>b
 |_=>[]
noncomputable def qZ(s:Stmt):Scope:=match s with
 | .FunctionDef _ _ _ _ _ _ sc _ _ _=>sc
 |_=>{kind:=.function,names:=[],isGenerator:=false,isCoroutine:=false}
abbrev E0:XK:=λ_ _ _=>False
structure Fun(K:aB)(x qual:Str)(st:Stmt)(f:Addr)(fd:FuncData):Prop where
 ex:∃(oc:ae) (od:Option Addr) (kV doc pm:ae) (an:Option Addr) (cdv ct:ae) (osl:Array (Option ae)),
  fd=cC x qual (zi st) (d_ st) (qZ st) .none kV doc pm an cdv ct/\K.lookup f=some ⟨oc,od,.func fd,osl⟩/\PySem.W.codeIn K cdv qual=true
 kp:cL K (.ref f)=true
section
variable{P:aC}{w:av}{K:aB}{mg:Str->Option ae}{base:Heap}
theorem Fun.binds{x qual:Str}{st:Stmt}{f:Addr}{fd:FuncData}{ps:List Str}(F:Fun K x qual st f fd)
  (h:∀(kV doc pm:ae) (an:Option Addr) (cdv ct:ae) (us:List ae),us.length=ps.length->bindArgs (cC x qual (zi st) (d_ st) (qZ st) .none kV doc pm an cdv ct) ⟨us,[]⟩=pure (ps.zip us)):Binds K fd ps []:=by
 obtain⟨oc,od,kV,doc,pm,an,cdv,ct,osl,rfl,lk,hcd⟩:=F.ex;exact .all (h kV doc pm an cdv ct)
theorem oN{x qual:Str}{st:Stmt}{f:Addr}{oc:ae}{od an:Option Addr}{osl:Array (Option ae)}{kV doc pm cdv ct:ae}(l:K.lookup f=some ⟨oc,od,.func (cC x qual (zi st) (d_ st) (qZ st) .none kV doc pm an cdv ct),osl⟩)
  (c:PySem.W.codeIn K cdv qual=true) (k:cL K (.ref f)=true):Fun K x qual st f (cC x qual (zi st) (d_ st) (qZ st) .none kV doc pm an cdv ct):=⟨⟨oc,od,kV,doc,pm,an,cdv,ct,osl,rfl,l,c⟩,k⟩
end
section
variable{X:Cx}
end
noncomputable def qf(H H':Hp):Prop:=∀b o,H b=some o->H' b=some o
theorem qf.refl(H:Hp):qf H H:=λ_ _ h=>h
theorem qf.trans{H H1 H2:Hp}(a:qf H H1)(b:qf H1 H2):qf H H2:=λc o h=>b c o (a c o h)
theorem qf.free{H H':Hp}(e:qf H H'){l:Addr}(h:H' l=Option.none):H l=Option.none:=by
 cases q:H l with
 |none=>rfl
 |some o=>
  rw[e l o q]at h;cases h
theorem qf.seq{K:aB}{H H':Hp}{a:Addr}{xs:List V}(e:qf H H')(h:SqL K H a xs):SqL K H' a xs:=by
 rcases h with (h|⟨o,h⟩)|h
 ·exact .inl (.inl (e _ _ h))
 ·exact .inl (.inr ⟨o,e _ _ h⟩)
 ·exact .inr h
noncomputable def zT(elt:Expr)(gens:List b8)(scope:a8)(pos:Pos)(d:Nat)(acc:ae)(env:Env):Sem Unit:=
 match gens[d+1]? with
 |some g'=>do
  let x <-eval g'.iter env
  standAt g'.iter.pos
  let x <-foldedSetIterable g'.iter env x
  let _ <-runOwn (.compStart (.ListComp elt gens scope pos) (d+1) (<-holding [x] (pyIter x)) acc env) env
  pure ()
 |none=>do
  let _ <-call (.builtin "list.append") [acc,<-eval elt env]
  pure ()
theorem vi{elt:Expr}{gens:List b8}{scope:a8}{pos:Pos}{d:Nat}{g:b8}{it acc:ae}{env:Env}(hg:gens[d]? = some g)(ha:g.is_async=0)
  (hn:∀g',gens[d+1]? = some g'->g'.is_async=0) :
  compTurn (.ListComp elt gens scope pos) d it acc env=(do
   standAt g.iter.pos
   match <-pyNext it with
   |none=>pure (.done .next)
   |some v=>
    letOwnedTupleGo g.target it v
    assign g.target env v
    let ok <-(forIn g.ifs true λc r=>if r=true then do let ok <-isTrue c env (eval c env);pure (cQ ok)else pure (cQ r))
    if ok then
     zT elt gens scope pos d acc env
     again (.compLoop (.ListComp elt gens scope pos) d it acc env)
    else again (.compLoop (.ListComp elt gens scope pos) d it acc env)):=by
 unfold compTurn;cases e:gens[d+1]? with
 |none=>
  simp only[hg,ha,e,zT]
  rfl
 |some g'=>
  have ha':=hn g' e;simp only[hg,ha,e,ha',zT];simp only[bne_self_eq_false,a_,if_false,bind_assoc,pure_bind]
  rfl
theorem pM{prog:aC}{w:av}{A:aA}{R:Result->af->Prop}{s:af}{elt:Expr}{gens:List b8}{scope:a8}{pos:Pos}{d:Nat}{g:b8}{it acc:ae}{env:Env}
  (hg:gens[d]? = some g) (ha:g.is_async=0)
  (h0:codeAny (aq prog w) A (.compLoop (.ListComp elt gens scope pos) d it acc env) R s)
  (h:ak (aq prog w) A (pyIter it) (λit' s'=>codeAny (aq prog w) A (.compLoop (.ListComp elt gens scope pos) d it' acc env) R s')
   (notedBy (aq prog w) A env λx s'=>R (.error x) s') s) :
  codeAny (aq prog w) A (.compStart (.ListComp elt gens scope pos) d it acc env) R s:=by
 refine codeAny_of_tree ?_;show ak _ _ ((compStart (.ListComp elt gens scope pos) d it acc env).onRaise (λx=>do noteFrame x env;standAt theWindowsPlace)) _ _ s;refine wpAny_notedAt ?_;unfold compStart;have e2:(clausesOf (.ListComp elt gens scope pos))[d]? = some g:=hg;simp only[e2];rw[if_neg (by show ¬ (g.is_async != 0)=true;simp[ha])];show ak _ _ (ask>>=_) _ _ s;refine ag (wpAny_askSetting (wpAny_ite ?_));split
 ·first
   |exact ag (aw (aw (az rfl h0)))
   |exact aw (az rfl h0)
 ·first
   |exact ag (wpAny_rule (ag (wpAny_standAt (ag (bQ h (λit' s' h'=>aw (az rfl h')) λ_ _ x=>x)))))
   | (refine ag (wpAny_rule ?_);show ak _ _ (standAt g.iter.pos>>=_) _ _ s;exact ag (wpAny_standAt (ag (bQ h (λit' s' h'=>aw (az rfl h')) λ_ _ x=>x))))
noncomputable def PTs(Y:Cx)(ifs:List Expr)(t:TT):Prop:=
 ∀(pins:List (Addr×Obj)) (s:af) (σ:St) (H:Hp) (Q:Bool->Hp->Prop),Inv Y pins σ H s->t σ H Q ->
  ak (aq Y.prog Y.w) Y.A (forIn ifs true λc r=>if r=true then do let ok <-isTrue c Y.env (eval c Y.env);pure (cQ ok)else pure (cQ r)) (TP Y pins σ Q) Y.xe s
noncomputable def nR:TT:=λ_ H Q=>Q true H
theorem lY{Y:Cx}:PTs Y [] nR:=λ_ _ _ H _ I h=>wpAny_tests_nil ⟨H,I,h⟩
theorem Af{Y:Cx}{c:Expr}{t:TT}(hc:PT Y c t):PTs Y [c] t:=λpins s σ H Q I h=>wpAny_tests_one (hc pins s σ H Q I h)
noncomputable def PB(Y:Cx)(m:Sem Unit)(t:TS):Prop:=
 ∀(pins:List (Addr×Obj)) (s:af) (σ:St) (H:Hp) (D:Ends),Inv Y pins σ H s->t D σ H ->
  ak (aq Y.prog Y.w) Y.A m (λ_ s'=>∃σ' H',Inv Y pins σ' H' s'/\D.nx σ' H') Y.xe s
section
variable{Y:Cx}{elt:Expr}{gens:List b8}{scope:a8}{pos:Pos}{d:Nat}
noncomputable def fv(acc:Addr)(te:TE):TS:=λD σ H=>te σ H λy H1=>∃xs,H1 acc=some (.lst xs)/\xs.length<aV/\D.nx σ (upd H1 acc (.lst (xs++[y])))
theorem km{acc:Addr}{te:TE}(hn:gens[d+1]? = none)(he:PE Y elt te):PB Y (zT elt gens scope pos d (.ref acc) Y.env) (fv acc te):=by
 intro pins s σ H D I h;unfold zT;rw[hn];refine ag (thn (he pins s σ H _ I h) λu s1 ⟨y,H1,I1,r1,xs,hx,hz,q⟩=>?_);refine ag (thn (nt pins s1 σ H1 (.ref acc) [y] (.ref acc) [u] (λ_ H'=>D.nx σ H') I1 rfl (.cons r1 .nil) ⟨acc,xs,y,rfl,rfl,hx,hz,q⟩) λ_ s2 ⟨_,H2,I2,_,q2⟩=>?_);exact aw ⟨σ,H2,I2,q2⟩
theorem lS{g:b8}{it:Addr}{acc:ae}{fp:List Addr}{tn:Nat->Heap->Prop}{J:It}{tg:TG}{tt:TT}{tb:TS}(hc:Y.calm=true)(hx:∀e s,¬ Y.xe e s)(hg:gens[d]? = some g)(ha:g.is_async=0)
  (hn:∀g',gens[d+1]? = some g'->g'.is_async=0) (T:Turn Y.prog Y.w Y.K g.target J fp it tn) (pg:PG Y g.target tg) (pt:PTs Y g.ifs tt) (pb:PB Y (zT elt gens scope pos d acc Y.env) tb)
  {pins:List (Addr×Obj)}{s:af}{σ:St}{H:Hp}{D:Ends} (I:Inv Y pins σ H s) (st:tn 0 s.heap) (fr:∀b∈fp,c_ Y pins H b)
  (h:∃W:Nat->Nat->St->Hp->Prop,(∃m,W 0 m σ H)/\∀i m σ H,W i m σ H ->
   (J.stop i H/\D.nx σ H)\/(J.go i H/\∃N:St->Hp->Prop,(∀σ' H',N σ' H'->∃m',m'<m/\W (i+1) m' σ' H')/\∀x H',J.yld i H x H'->tg x σ H' λσ2 H2=>fg tt tb eI {D with nx:=N,ct:=N,bk:=D.nx} σ2 H2)) :
  codeAny (aq Y.prog Y.w) Y.A (.compLoop (.ListComp elt gens scope pos) d (.ref it) acc Y.env) (λr s'=>r=.ok .next/\∃σ' H',Inv Y pins σ' H' s'/\D.nx σ' H') s:=by
 obtain⟨W,⟨m0,w0⟩,turn⟩:=h;have stat:∀{H':Hp},(∀b∈fp,H' b=none)->∀b∈fp,c_ Y pins H' b:=λhn b hb=>⟨hn b hb,(fr b hb).2⟩
 refine codeAny_loop rfl (λn s'=>∃i σ' H',Inv Y pins σ' H' s'/\tn i s'.heap/\(∀b∈fp,H' b=none)/\W i n σ' H') ?_ m0 ⟨0,σ,H,I,st,λb hb=>(fr b hb).1,w0⟩;rintro n s3 ⟨i,σ3,H3,I3,st3,fr3,w3⟩;show ak _ Y.A ((compTurn (.ListComp elt gens scope pos) d (.ref it) acc Y.env).onRaise (λx=>do noteFrame x Y.env;theTreesLotGoes x)) _ _ s3;refine wpAny_noted ?_;rw[vi hg ha hn];have nox:∀{E:ae->af->Prop} (e:ae) (s:af),Y.xe e s->E e s:=λe s z=>absurd z (hx e s)
 refine ag (wpAny_standAt ?_);rcases turn i n σ3 H3 w3 with ⟨stop,qn⟩|⟨go,N,hN,step⟩
 ·refine ag (thn (T.done Y rfl rfl rfl hc i pins s3 σ3 H3 _ I3 (stat fr3) st3 stop) λr s4 ⟨hr,I4⟩=>?_);subst hr;exact aw ⟨rfl,σ3,H3,I4,qn⟩
 ·refine ag (thn (T.item Y rfl rfl rfl hc i pins s3 σ3 H3 _ I3 (stat fr3) st3 go) λr s4 ⟨u,hr,h4⟩=>?_);subst hr;refine ag (thn h4 λ_ s5 ⟨x,H5,I5,r5,y5,st5,fr5⟩=>?_);have I5':=I5.pinned (stat fr5) (T.obj _ _ st5);refine ag (bQ (pg _ s5 σ3 H5 x u _ I5' r5 (step x H5 y5)) (λ_ s6 ⟨σ6,H6,I6,q6⟩=>?_) nox);have again:∀{s7:af}{σ7:St}{H7:Hp},Inv Y (pins++iw fp s5.heap) σ7 H7 s7->N σ7 H7->∃m,m<n/\∃i σ' H',Inv Y pins σ' H' s7/\tn i s7.heap/\(∀b∈fp,H' b=none)/\W i m σ' H':=λ{s7 σ7 H7} I7 n7=>by
   obtain⟨m',hm,w7⟩:=hN σ7 H7 n7;refine⟨m',hm,i+1,σ7,H7,I7.unpinned,T.keep _ _ _ st5 λb hb o e=>(I7.pin (b,o) (bK _ (bK _ (jd hb e)))).1,λb hb=>?_,w7⟩;obtain⟨o,e,d⟩:=T.obj _ _ st5 b hb;exact(I7.pin (b,o) (bK _ (bK _ (jd hb e)))).2.1
  refine ag (bQ (pt _ s6 σ6 H6 _ I6 q6) (λb s7 ⟨H7,I7,q7⟩=>?_) nox);cases b with
  |true=>
   rw[if_pos rfl];rw[if_pos rfl]at q7;refine ag (bQ (pb _ s7 σ6 H7 _ I7 q7) (λ_ s8 ⟨σ8,H8,I8,q8⟩=>?_) nox);exact aw ⟨rfl,again I8 q8⟩
  |false=>
   rw[if_neg cw];rw[if_neg cw]at q7;exact aw ⟨rfl,again I7 q7⟩
theorem xP{g:b8}{acc:ae}{wi:TI}{tg:TG}{tt:TT}{tb:TS}(hc:Y.calm=true)(hx:∀e s,¬ Y.xe e s)(hg:gens[d+1]? = some g)(ha:g.is_async=0)
  (hn:∀g',gens[d+1+1]? = some g'->g'.is_async=0) (hi:PI Y g.target g.iter wi) (pg:PG Y g.target tg) (pt:PTs Y g.ifs tt) (pb:PB Y (zT elt gens scope pos (d+1) acc Y.env) tb)
  (hs:∀x,foldedSetIterable g.iter Y.env x=pure x:=by intro _;rfl):PB Y (zT elt gens scope pos d acc Y.env) (iG wi tg (fg tt tb eI)):=by
 intro pins s σ H D I h;unfold zT;rw[hg];refine ag (thn (hi pins s σ H _ I h) λv s1 h1=>?_);refine ag (wpAny_standAt (ag (wpAny_of_eq (hs v) (ag (bF (thn h1 λitv s2 h2=>?_))))));obtain⟨it,fp,tn,J,H2,e,I2,T,st2,f2,q⟩:=h2;subst e;have L:=lS hc hx hg ha hn T pg pt pb I2 st2 f2 q;refine ag (wpAny_runOwn (codeAny_mono (pM hg ha L (T.self _ 0 s2 _ _ st2 L)) λr s' ⟨e,σ',H',I',q'⟩=>?_));subst e;exact aw ⟨σ',H',I',q'⟩
end
theorem jM{env:Env}:∀{names:List (Str×aY)}{cs:List (Str×Addr)},(∀x∈names,x.2=.free->∃c,env.cells.lookup x.1=some c) ->
  ∃cl,(forIn names cs (λ(x:Str×aY) (cs:List (Str×Addr))=>if (x.2==b7)=true then do let c <-cellOf env x.1;pure (cQ ((x.1,c)::cs))else pure (cQ cs)):Sem (List (Str×Addr)))=pure cl /\
   (∀x c,cl.lookup x=some c->env.cells.lookup x=some c\/cs.lookup x=some c)/\(∀x,(∃c,cs.lookup x=some c)->∃c,cl.lookup x=some c)/\∀x∈names,x.2=.free->∃c,cl.lookup x.1=some c
 | [],cs,_=>⟨cs,by rw[List.forIn_nil],λ_ _ h=>.inr h,λ_ h=>h,λ_ h=>nomatch h⟩
 | (n,k)::r,cs,h=>by
  rw[List.forIn_cons];by_cases hk:k=.free
  ·subst hk;obtain⟨c,hc⟩:=h (n,.free) aO rfl;have e:cellOf env n=pure c:=by
    have hc':env.cells.lookup n=some c:=hc;unfold cellOf;rw[hc']
   obtain⟨cl,e1,e2,e3,e4⟩:=jM (names:=r) (cs:=(n,c)::cs) λx hx=>h x (aM _ hx)
   refine⟨cl,?_,λx c' q=>?_,λx q=>e3 x ?_,λx hx hf=>?_⟩
   ·simp only[beq_self_eq_true,if_true,e,pure_bind];exact e1
   ·rcases e2 x c' q with z|z
    ·exact .inl z
    ·rw[bC]at z;by_cases hxn:(x==n)=true
     ·rw[hxn]at z;have:x=n:=by simpa using hxn
      subst this;cases z;exact .inl hc
     ·have hxn':(x==n)=false:=by simpa using hxn
      rw[hxn']at z;exact .inr z
   ·rw[bC];by_cases hxn:(x==n)=true
    ·rw[hxn];exact⟨c,rfl⟩
    ·have hxn':(x==n)=false:=by simpa using hxn
     rw[hxn'];exact q
   ·rcases aF.mp hx with z|z
    ·subst z;exact e3 n ⟨c,by rw[bC,beq_self_eq_true]⟩
    ·exact e4 x z hf
  ·have hk':(k==b7)=false:=by simpa using hk
   obtain⟨cl,e1,e2,e3,e4⟩:=jM (names:=r) (cs:=cs) λx hx=>h x (aM _ hx)
   refine⟨cl,?_,e2,e3,λx hx hf=>?_⟩
   ·simp only[hk',a_,if_false,pure_bind];exact e1
   ·rcases aF.mp hx with z|z
    ·subst z;exact absurd hf hk
    ·exact e4 x z hf
theorem pJ{env:Env}{scope:a8}(h:∀x∈scope.names,x.2=.free->∃c,env.cells.lookup x.1=some c) :
  ∃cl,closureFor scope env=pure cl/\(∀x c,cl.lookup x=some c->env.cells.lookup x=some c)/\∀x∈scope.names,x.2=.free->∃c,cl.lookup x.1=some c:=by
 obtain⟨cl,e1,e2,_,e4⟩:=jM (env:=env) (names:=scope.names) (cs:=[]) h;refine⟨cl,?_,λx c q=>(e2 x c q).elim (λz=>z) (λz=>by simp at z),e4⟩;have e:closureFor scope env=(forIn scope.names [] (λ(x:Str×aY) (cs:List (Str×Addr))=>if (x.2==b7)=true then do let c <-cellOf env x.1;pure (cQ ((x.1,c)::cs))else pure (cQ cs))>>=λcs=>pure cs):=rfl;rw[e,e1,pure_bind]
theorem i0{env:Env}:∀{names:List (Str×aY)}{x:Str}{k:aY},
  (names.map λ(n,k)=>if (k==b7&&env.scope.kind==.function&&env.kindOf n==some .cell)then (n,aY.cell)else (n,k)).lookup x=some k ->
  names.lookup x=some k\/(k=.cell/\names.lookup x=some .free)
 | [],_,_,h=>by simp at h
 | (n,k')::r,x,k,h=>by
  have ih:=@i0 env r x k;have h':List.lookup x ((if (k'==b7&&env.scope.kind==.function&&env.kindOf n==some .cell)=true then (n,aY.cell)else (n,k'))::r.map (λ(n,k)=>if (k==b7&&env.scope.kind==.function&&env.kindOf n==some .cell)then (n,aY.cell)else (n,k)))=some k:=h;cases hx:x==n with
  |true=>
   by_cases hc:(k'==b7&&env.scope.kind==.function&&env.kindOf n==some .cell)=true
   ·rw[if_pos hc]at h';simp only[bC,hx]at h';cases h';have:k'=.free:=by
     have z:(k'==b7)=true:=by
      cases q:(k'==b7)with
      |true=>rfl
      |false=>rw[q]at hc;simp at hc
     simpa using z
    subst this;exact .inr ⟨rfl,by simp[bC,hx]⟩
   ·rw[if_neg hc]at h';simp only[bC,hx]at h';cases h';exact .inl (by simp[bC,hx])
  |false=>
   have h2:(r.map (λ(n,k)=>if (k==b7&&env.scope.kind==.function&&env.kindOf n==some .cell)then (n,aY.cell)else (n,k))).lookup x=some k:=by
    by_cases hc:(k'==b7&&env.scope.kind==.function&&env.kindOf n==some .cell)=true
    ·rw[if_pos hc]at h';simpa only[bC,hx]using h'
    ·rw[if_neg hc]at h';simpa only[bC,hx]using h'
   rcases ih h2 with z|z
   ·exact .inl (by simpa only[bC,hx]using z)
   ·exact .inr ⟨z.1,by simpa only[bC,hx]using z.2⟩
noncomputable def fV(names:List (Str×aY)):List Str:=(names.filter λy=>y.2==.cell).map (·.1)
theorem lJ:∀(names:List (Str×aY)) (n:Nat) (a b:List (Str×Addr)),bw n names (a++b)=bw n names a++b
 | [],_,_,_=>rfl
 | (x,k)::r,n,a,b=>by
  unfold bw;split
  ·exact lJ r (n+1) ((x,n)::a) b
  ·exact lJ r n a b
theorem lq{x:Str}{c:Addr}:∀{names:List (Str×aY)}{n:Nat}{a:List (Str×Addr)},(x,c)∈bw n names a->(x,c)∈a\/(x,aY.cell)∈names
 | [],_,_,h=>.inl h
 | (y,k)::r,n,a,h=>by
  unfold bw at h;split at h
  ·rename_i hk
   rcases lq h with z|z
   ·rcases aF.mp z with q|q
    ·have hk:k=.cell:=by simpa using hk
     cases q;exact .inr (by rw[hk];exact aO)
    ·exact .inl q
   ·exact .inr (aM _ z)
  ·rcases lq h with z|z
   ·exact .inl z
   ·exact .inr (aM _ z)
theorem wY{M:Model}{A:aA}{E:ae->af->Prop}{s:af}{scope:a8}{globals:Addr}{cl:List (Str×Addr)}{qual:Str}{env:Env}{Q:Env->af->Prop}
  (hQ:∀h₁,h₁.Ns s.heap.objs.size (λ_=>none)->(∀b o,s.heap.get? b=some o->h₁.get? b=some o)->CellsOk h₁ (s.heap.objs.size+1) (bw (s.heap.objs.size+1) scope.names []) ->
   Q (newEnv scope s.heap.objs.size globals (bw (s.heap.objs.size+1) scope.names []++cl) qual none .none (some env) builtinsNs) {s with heap:=h₁}) :
  ak M A (newFunctionEnv scope globals cl [] qual none .none (some env)) Q E s:=by
 simp only[newFunctionEnv,Option.isSome_some,if_true];refine ag (wpAny_alloc ?_);refine ag (wpAny_layCells _ (λname kind cells=>by cases hkc:kind==aY.cell<;>simp[hkc]) _ _ _ _ ?_);have ok:=cellsFrom_ok scope.names (s.heap.push {cls:=.type "dict",data:=.dict #[]}) (s.heap.objs.size+1) [] ⟨λ_ _ hm=>(nomatch hm),List.Pairwise.nil⟩ (by rw[bL];exact aD _);rw[bL]at ok;rw[show ({s with heap:=s.heap.push {cls:=.type "dict",data:=.dict #[]}}:af).heap.objs.size=s.heap.objs.size+1 from bL ..];rw[show cl=[]++cl from rfl,lJ];rw[List.forIn_nil];exact ag (aw (aw (hQ _ ((Heap.Ns.new s.heap (.type "dict")).keeps (pushCells_keeps _ _)) (λb o e=>pushCells_keeps _ _ b o (Heap.get?_push_of_some _ e)) ok)))
noncomputable def zp(X:Cx)(NY:List Str)(scope:a8)(cl:List (Str×Addr))(C:Addr)(s₀:af)(H₀:Hp)(fp:List Addr):Cx where
 prog:=X.prog
 w:=X.w
 K:=X.K
 mg:=X.mg
 base:=X.base
 A:=X.A
 N:=NY
 s₀:=s₀
 H₀:=H₀
 env:=compEnvC scope (bw (C+1) scope.names []++cl) C X.env
 outer:=X.stack
 stack:=X.stack
 ex:=fp
 fn:=λx=>(fV scope.names).contains x
 calm:=X.calm
 pn:=[]
 xe:=λ_ _=>False
noncomputable def caps(cap:List (Option Nat))(σ:St):St:=cap.map λo=>o.bind λj=>(σ[j]?).join
noncomputable def pd(X:Cx)(NY:List Str)(cap:List (Option Nat))(scope:a8):Prop:=
 cap.length=NY.length/\∀(i j:Nat),cap[i]? = some (some j)->∃x,NY[i]? = some x/\X.N[j]? = some x/\scope.names.lookup x=some .free/\(X.env.kindOf x=some .cell\/X.env.kindOf x=some .free)
structure zD(X:Cx)(NY:List Str)(cap:List (Option Nat))(scope:a8):Prop where
 kind:scope.kind=.function
 cells:∀y∈scope.names,y.2=.cell->scope.names.lookup y.1=some .cell
 names:∀y∈scope.names,y.2=.local->scope.names.lookup y.1=some .local
 free:∀y∈scope.names,y.2=.free->X.env.kindOf y.1=some .cell\/X.env.kindOf y.1=some .free
 cap:pd X NY cap scope
theorem uN{cap:List (Option Nat)}{σ:St}{i:Nat}{v:V}(h:(caps cap σ)[i]? = some (some v)):∃j,cap[i]? = some (some j)/\σ[j]? = some (some v):=by
 unfold caps at h;rw[List.getElem?_map]at h;cases e:cap[i]? with
 |none=>rw[e]at h;simp at h
 |some o=>
  rw[e]at h;cases o with
  |none=>simp at h
  |some j=>
   refine⟨j,rfl,?_⟩;have h':(σ[j]?).join=some v:=by simpa using h
   cases q:σ[j]? with
   |none=>rw[q]at h';cases h'
   |some z=>rw[q]at h';exact congrArg some h'
theorem BW{X:Cx}{pins:List (Addr×Obj)}{σ:St}{H:Hp}{s:af}{NY:List Str}{cap:List (Option Nat)}{scope:a8}{cl:List (Str×Addr)}{fp:List Addr}{h₁:Heap}{m:Str->Option ae}
  (I:Inv X pins σ H s) (S:zD X NY cap scope) (hsub:∀x c,cl.lookup x=some c->X.env.cells.lookup x=some c) (hall:∀x∈scope.names,x.2=.free->∃c,cl.lookup x.1=some c)
  (hf:∀b∈fp,c_ X pins H b) (hlt:∀b∈fp,b<s.heap.objs.size) (hn:h₁.Ns s.heap.objs.size m) (hk:∀b o,s.heap.get? b=some o->h₁.get? b=some o) (hcs:CellsOk h₁ (s.heap.objs.size+1) (bw (s.heap.objs.size+1) scope.names [])) {tk:Nat} :
  Inv (zp X NY scope cl s.heap.objs.size s H fp) [] (caps cap σ) H {s with heap:=h₁,toks:=tk}:=by
 have relx:∀x,(compEnvC scope (bw (s.heap.objs.size+1) scope.names []++cl) s.heap.objs.size X.env).kindOf x=some .cell\/(compEnvC scope (bw (s.heap.objs.size+1) scope.names []++cl) s.heap.objs.size X.env).kindOf x=some .free->scope.names.lookup x=some .free\/scope.names.lookup x=some .cell:=λx hx=>by
  rcases hx with q|q
  ·rcases i0 (env:=X.env) (names:=scope.names) (x:=x) (k:=.cell) q with z|z
   ·exact .inr z
   ·exact .inl z.2
  ·rcases i0 (env:=X.env) (names:=scope.names) (x:=x) (k:=.free) q with z|z
   ·exact .inl z
   ·exact .inl z.2
 have cnew:∀x c,cl.lookup x=some c->c<s.heap.objs.size:=λx c e=>by
  obtain⟨v,q⟩:=I.cell x c (hsub x c e);exact q.lt
 -- a cell is one of its own, or one from around
 have two:∀x c,(bw (s.heap.objs.size+1) scope.names []++cl).lookup x=some c->(x,c)∈bw (s.heap.objs.size+1) scope.names []\/cl.lookup x=some c:=λx c e=>by
  rw[List.lookup_append]at e;cases q:(bw (s.heap.objs.size+1) scope.names []).lookup x with
  |none=>rw[q]at e;exact .inr e
  |some c'=>rw[q]at e;cases e;exact .inl (cq q)
 have own1:∀x c,(x,c)∈bw (s.heap.objs.size+1) scope.names []->scope.names.lookup x=some .cell:=λx c e=>by
  rcases lq e with z|z
  ·cases z
  ·exact S.cells _ z rfl
 have ownA:∀x c,(x,c)∈bw (s.heap.objs.size+1) scope.names []->s.heap.objs.size<c:=λx c e=>(hcs.empty x c e).2
 have frl:∀x c,scope.names.lookup x=some .free->cl.lookup x=some c->(bw (s.heap.objs.size+1) scope.names []++cl).lookup x=some c:=λx c e1 e2=>by
  rw[List.lookup_append];cases q:(bw (s.heap.objs.size+1) scope.names []).lookup x with
  |none=>rw[e2];rfl
  |some c'=>have:=own1 x c' (cq q);rw[e1]at this;cases this
 refine⟨⟨I.ok.mod,S.kind,I.ok.glob,I.ok.blt,aD _,λx y c e1 e2=>?_,λx hx=>?_,λx c e e2=>?_,I.ok.hd,I.ok.frames,.inl rfl,λb hb=>?_,λb o e=>I.bs b o e,bD I.ok.bsz I.sz,λb o e hb=>?_,λb hb z=>?_,I.stack,I.stkFree⟩,
  rfl,I.bare,Un.kept hk,⟨m,hn,λi x v e1 e2 e3=>?_⟩,λx c e=>?_,I.hok.fresh (aD _),λx c e=>?_,λp hp=>absurd (show p∈([]:List (Addr×Obj))from hp) (by simp),I.hok.kept hk,?_⟩
 ·rcases two x c e1 with z1|z1<;>rcases two y c e2 with z2|z2
  ·exact name_of_addr hcs.apart z1 z2
  ·exact absurd (Nat.lt_trans (cnew y c z2) (ownA x c z1)) (bM _)
  ·exact absurd (Nat.lt_trans (cnew x c z1) (ownA y c z2)) (bM _)
  ·exact I.ok.inj x y c (hsub x c z1) (hsub y c z2)
 ·rcases relx x hx with z|z
  ·obtain⟨c,hc⟩:=hall (x,.free) (cq z) rfl;exact⟨c,frl x c z hc⟩
  ·obtain⟨c,hc⟩:=jB (n:=s.heap.objs.size+1) z;refine⟨c,?_⟩;show (bw (s.heap.objs.size+1) scope.names []++cl).lookup x=some c;rw[List.lookup_append,hc];rfl
 ·have e:(fV scope.names).contains x=true:=e;have hm:scope.names.lookup x=some .cell:=by
   simp only[fV,List.contains_iff_mem,aP,bP,beq_iff_eq]at e;obtain⟨y,⟨y1,y2⟩,rfl⟩:=e;exact S.cells y y1 y2
  rcases two x c e2 with z|z
  ·exact Nat.le_of_lt (ownA x c z)
  ·obtain⟨c',hc⟩:=jB (n:=s.heap.objs.size+1) hm;have e2:(bw (s.heap.objs.size+1) scope.names []++cl).lookup x=some c:=e2;rw[List.lookup_append,hc]at e2;cases e2;exact Nat.le_of_lt (ownA x _ (cq hc))
 ·obtain⟨f0,f1,f2,f3,f4,f5⟩:=hf b hb;refine⟨aX (hlt b hb),λx c e=>?_⟩;rcases two x c e with z|z
  ·exact λw=>absurd (Nat.lt_trans (ownA x c z) (w▸hlt b hb)) (bM _)
  ·exact f4 x c (hsub x c z)
 ·obtain⟨f0,f1,f2,f3,f4,f5⟩:=hf b hb;rcases f3 with z|z
  ·exact I.ok.noex b o e z
  ·exact absurd (bA (aH e) (bD I.ok.bsz z)) (bM _)
 ·obtain⟨f0,f1,f2,f3,f4,f5⟩:=hf b hb;rcases aF.mp (I.stkSub b z)with q|q
  ·exact f1 q
  ·exact f2 q
 ·obtain⟨j,c1,c2⟩:=uN e2;obtain⟨x',n1,n2,n3,n4⟩:=S.cap.2 i j c1;have ex:x'=x:=bU (n1.symm.trans e1);subst ex;obtain⟨m',_,hl⟩:=I.loc;obtain⟨u,r,l⟩:=hl j x' v n2 c2 (n4.elim (λz=>.inr (.inl z)) λz=>.inr (.inr z));refine⟨u,r,.inr ⟨?_,?_⟩⟩
  ·rcases e3 with z|z|z
   ·rcases i0 (env:=X.env) (names:=scope.names) (x:=x') (k:=.local) z with q|q
    ·rw[n3]at q;cases q
    ·cases q.1
   ·exact .inl z
   ·exact .inr z
  ·rcases l with ⟨kk,_⟩|⟨_,c,ec,ic⟩
   ·rcases n4 with z|z
    ·rw[kk]at z;cases z
    ·rw[kk]at z;cases z
   ·obtain⟨c',ec'⟩:=hall (x',.free) (cq n3) rfl;have:=hsub x' c' ec';rw[ec]at this;cases this;obtain⟨o,ho,hd⟩:=ic;exact⟨c,frl x' c n3 ec',o,hk _ _ ho,hd⟩
 ·rcases two x c e with z|z
  ·exact⟨_,(hcs.empty x c z).1⟩
  ·obtain⟨v,o,ho,hd⟩:=I.cell x c (hsub x c z);exact⟨v,o,hk _ _ ho,hd⟩
 ·rcases two x c e with z|z
  ·exact I.hok.fresh (Nat.le_of_lt (ownA x c z))
  ·exact I.freeC x c (hsub x c z)
 ·show (caps cap σ).length=NY.length;unfold caps;rw[aR];exact S.cap.1
noncomputable def iV(cap:List (Option Nat))(wi:TI)(tg:TG)(tt:TT)(tb:Addr->TS):TE:=λσ H Q=>wi σ H λJ H1=>∀acc,H1 acc=none ->
 ∃W:Nat->Nat->St->Hp->Prop,(∃m,W 0 m (caps cap σ) (upd H1 acc (.lst [])))/\∀i m τ H,W i m τ H ->
  (J.stop i H/\(Ends.mk (λ_ H=>Q (.ref acc) H) (λ_ _=>False) (λ_ _=>False) (λ_ _=>False)).nx τ H)\/(J.go i H/\∃N:St->Hp->Prop,(∀σ' H',N σ' H'->∃m',m'<m/\W (i+1) m' σ' H')/\∀x H',J.yld i H x H' ->
   tg x τ H' λσ2 H2=>fg tt (tb acc) eI {(Ends.mk (λ_ H=>Q (.ref acc) H) (λ_ _=>False) (λ_ _=>False) (λ_ _=>False))with nx:=N,ct:=N,bk:=(Ends.mk (λ_ H=>Q (.ref acc) H) (λ_ _=>False) (λ_ _=>False) (λ_ _=>False)).nx} σ2 H2)
structure Loose(X:Cx)(pins:List (Addr×Obj))(C:Addr):Prop where
 loc:C≠X.env.locals
 cell:∀x c,X.env.cells.lookup x=some c->c≠C
 up:X.s₀.heap.objs.size<=C
 pin:∀p∈X.pn++pins,p.1≠C
theorem Loose.turn{X:Cx}{pins:List (Addr×Obj)}{C:Addr}{σ:St}{H:Hp}{s:af}{h':Heap}(L:Loose X pins C)(I:Inv X pins σ H s)(hn:H C=none)(hs:Heap.SameBut C s.heap h'):Inv X pins σ H {s with heap:=h'}:=
 I.turned (t':=s.toks) (it:=C) (λb o hb e=>(hs.2 b hb).trans e) hn L.loc (.inr L.up) L.cell L.pin
section
variable{X:Cx}{elt tgt it:Expr}{ifs:List Expr}{gs:List b8}{scope:a8}{pos:Pos}{NY:List Str}{cap:List (Option Nat)}{wi:TI}{tg:TG}{tt:TT}{tb:Addr->TS}
theorem mJ{Q:VK}{pins:List (Addr×Obj)}{σ:St}{H:Hp}{s s2:af}{cl:List (Str×Addr)}{itv:ae}{E:ae->af->Prop}{use:Option (ae->Sem Unit)}{QQ:ae->af->Prop}
  (hc:X.calm=true) (S:zD X NY cap scope) (hng:∀g'∈gs,g'.is_async=0)
  (hsub:∀x c,cl.lookup x=some c->X.env.cells.lookup x=some c) (hall:∀x∈scope.names,x.2=.free->∃c,cl.lookup x.1=some c)
  (hb:∀cl C s₀ H₀ fp,PG (zp X NY scope cl C s₀ H₀ fp) tgt tg/\PTs (zp X NY scope cl C s₀ H₀ fp) ifs tt/\∀acc,PB (zp X NY scope cl C s₀ H₀ fp) (zT elt (⟨tgt,it,ifs,0⟩::gs) scope pos 0 (.ref acc) (zp X NY scope cl C s₀ H₀ fp).env) (tb acc))
  (h2:PIE X pins σ tgt (λJ H1=>∀acc,H1 acc=none ->
   ∃W:Nat->Nat->St->Hp->Prop,(∃m,W 0 m (caps cap σ) (upd H1 acc (.lst [])))/\∀i m τ H,W i m τ H ->
    (J.stop i H/\(Ends.mk (λ_ H=>Q (.ref acc) H) (λ_ _=>False) (λ_ _=>False) (λ_ _=>False)).nx τ H)\/(J.go i H/\∃N:St->Hp->Prop,(∀σ' H',N σ' H'->∃m',m'<m/\W (i+1) m' σ' H')/\∀x H',J.yld i H x H' ->
     tg x τ H' λσ2 H2=>fg tt (tb acc) eI {(Ends.mk (λ_ H=>Q (.ref acc) H) (λ_ _=>False) (λ_ _=>False) (λ_ _=>False))with nx:=N,ct:=N,bk:=(Ends.mk (λ_ H=>Q (.ref acc) H) (λ_ _=>False) (λ_ _=>False) (λ_ _=>False)).nx} σ2 H2)) itv s2)
  (fin:∀(acc C:Addr) (s':af) (m:Str->Option ae) (H':Hp),s'.heap.Ns C m->Loose X pins C->Inv X pins σ H' s'->H' C=none->Q (.ref acc) H'->compPost (aq X.prog X.w) X.A E use QQ (.ref acc) C (.ok .next) s') :
  ak (aq X.prog X.w) X.A (newList []) (λacc s₃=>ak (aq X.prog X.w) X.A (newFunctionEnv scope X.env.globals cl [] X.env.qual none .none (some X.env)) (λcenv s₄=>
   codeAny (aq X.prog X.w) X.A (.compStart (.ListComp elt (⟨tgt,it,ifs,0⟩::gs) scope pos) 0 itv acc {cenv with scope:=relabel scope X.env}) (compPost (aq X.prog X.w) X.A E use QQ acc cenv.locals) s₄) E s₃) E s2:=by
 obtain⟨ia,fp,tn,J,H2,e,I2,T,st2,f2,q⟩:=h2;subst e;have hlt2:∀b∈fp,b<s2.heap.objs.size:=λb hb=>by
  obtain⟨o,ho,_⟩:=T.obj _ _ st2 b hb;exact aH ho
 refine cJ ?_;have hacc:H2 s2.heap.objs.size=none:=I2.hok.fresh (aD _);have I3:Inv X pins σ (upd H2 s2.heap.objs.size (.lst [])) {s2 with heap:=s2.heap.push {cls:=.type "list",dict:=none,data:=.seq ([]:List ae).toArray}}:=
  I2.laid (t':=s2.toks) (λb u e=>Heap.get?_push_of_some _ e) (aD _) ⟨br _,[],0,.nil,Heap.get?_push_size _ rfl⟩
 have hsz3:(s2.heap.push {cls:=.type "list",dict:=none,data:=.seq ([]:List ae).toArray}).objs.size=s2.heap.objs.size+1:=bL ..;generalize hs3:({s2 with heap:=s2.heap.push {cls:=.type "list",dict:=none,data:=.seq ([]:List ae).toArray}}:af)=s3 at I3 ⊢;have hsz:s3.heap.objs.size=s2.heap.objs.size+1:=by rw[<-hs3];exact hsz3
 have st3:tn 0 s3.heap:=T.keep _ _ _ st2 λb hb o e=>by rw[<-hs3];exact Heap.get?_push_of_some _ e
 have f3:∀b∈fp,c_ X pins (upd H2 s2.heap.objs.size (.lst [])) b:=λb hb=>⟨by rw[qt (aX (hlt2 b hb))];exact(f2 b hb).1,(f2 b hb).2⟩
 have hlt3:∀b∈fp,b<s3.heap.objs.size:=λb hb=>by rw[hsz];exact bO (hlt2 b hb)
 refine wY λh₁ hns₁ hk1 hcs=>?_
 have IY:=BW (tk:=s3.toks) I3 S hsub hall f3 hlt3 hns₁ hk1 hcs;have stY:tn 0 h₁:=T.keep _ _ _ st3 λb hb o e=>hk1 b o e
 obtain⟨pg,pt,pb⟩:=hb cl s3.heap.objs.size s3 (upd H2 s2.heap.objs.size (.lst [])) fp;have fY:∀b∈fp,c_ (zp X NY scope cl s3.heap.objs.size s3 (upd H2 s2.heap.objs.size (.lst [])) fp) [] (upd H2 s2.heap.objs.size (.lst [])) b:=λb hb=>by
  obtain⟨g0,g1,g2,g3,g4,g5⟩:=f3 b hb;refine⟨g0,aX (hlt3 b hb),λz=>?_,.inl hb,(IY.ok.exf b hb).2,λp hp=>absurd (show p∈([]:List (Addr×Obj))from hp) (by simp)⟩;rcases aF.mp (I3.stkSub b z)with w|w
  ·exact g1 w
  ·exact g2 w
 have L:=lS (elt:=elt) (gens:=⟨tgt,it,ifs,0⟩::gs) (scope:=scope) (pos:=pos) (d:=0) (Y:=zp X NY scope cl s3.heap.objs.size s3 (upd H2 s2.heap.objs.size (.lst [])) fp) (acc:=.ref s2.heap.objs.size) hc (λ_ _ z=>z) rfl rfl
  (λg' hg'=>hng g' (List.mem_of_getElem? (i:=0) (by simpa using hg'))) T pg pt (pb s2.heap.objs.size) IY stY fY (q s2.heap.objs.size hacc)
 refine codeAny_mono (pM (elt:=elt) (gens:=⟨tgt,it,ifs,0⟩::gs) (scope:=scope) (pos:=pos) (d:=0) (env:=compEnvC scope (bw (s3.heap.objs.size+1) scope.names []++cl) s3.heap.objs.size X.env) rfl rfl L (T.self _ 0 _ _ _ stY L)) λr s' ⟨e,τ',H',I',q'⟩=>?_
 subst e;obtain⟨m',hn',_⟩:=id I'.loc;have hLne:s3.heap.objs.size≠X.env.locals:=Nat.ne_of_gt I3.lt;have hCne:∀x c,X.env.cells.lookup x=some c->c≠s3.heap.objs.size:=λx c e z=>by
  obtain⟨v,qv⟩:=I3.cell x c e;exact absurd qv.lt (by rw[z];exact bM _)
 have J1:Inv X pins σ H' s':=by
  refine I3.call' (ch:=fp) I'.os I'.base I'.hok I'.bare λb hb=>?_
  obtain⟨g0,g1,g2,g3,g4,g5⟩:=f3 b hb;exact⟨g3,g1,g4,g5⟩
 refine fin s2.heap.objs.size s3.heap.objs.size s' m' H' hn' ⟨hLne,hCne,I3.sz,λp hp z=>?_⟩ J1 I'.free q';have:=aH (I3.pin p hp).1;rw[z]at this;exact bM _ this
theorem rV(hc:X.calm=true)(S:zD X NY cap scope)(hi:PI X tgt it wi)
  (hb:∀cl C s₀ H₀ fp,PG (zp X NY scope cl C s₀ H₀ fp) tgt tg/\PTs (zp X NY scope cl C s₀ H₀ fp) ifs tt/\∀acc,PB (zp X NY scope cl C s₀ H₀ fp) (zT elt (⟨tgt,it,ifs,0⟩::gs) scope pos 0 (.ref acc) (zp X NY scope cl C s₀ H₀ fp).env) (tb acc))
  (hng:∀g'∈gs,g'.is_async=0:=by simp)
  (hs:∀x,foldedSetIterable it X.env x=pure x:=by intro _;rfl):PE X (.ListComp elt (⟨tgt,it,ifs,0⟩::gs) scope pos) (iV cap wi tg tt tb):=by
 intro pins s σ H Q I h;obtain⟨cl,hcl,hsub,hall⟩:=pJ (env:=X.env) (scope:=scope) λx hx hf=>I.ok.has x.1 (S.free x hx hf)
 rw[eval_ListComp];refine wpAny_comprehension_free (use:=none) rfl hs hcl S.kind S.names (thn (hi pins s σ H _ I h) λv s1 h1=>thn h1 λitv s2 h2=>?_);exact mJ (s:=s) (H:=H) (use:=none) hc S hng hsub hall hb h2 λacc C s' m H' hn L I' hC q=>⟨m,hn,λh' hs'=>⟨.ref acc,H',L.turn I' hC hs',rfl,q⟩⟩
theorem wQ{i:Nat}{x:Str}{pos' spos:Pos}(hN:X.N.Nodup)(hix:X.N[i]? = some x)(hx:Loc X.env.scope x)(hc:X.calm=true)(S:zD X NY cap scope)(hi:PI X tgt it wi)
  (hb:∀cl C s₀ H₀ fp,PG (zp X NY scope cl C s₀ H₀ fp) tgt tg/\PTs (zp X NY scope cl C s₀ H₀ fp) ifs tt/\∀acc,PB (zp X NY scope cl C s₀ H₀ fp) (zT elt (⟨tgt,it,ifs,0⟩::gs) scope pos 0 (.ref acc) (zp X NY scope cl C s₀ H₀ fp).env) (tb acc))
  (hng:∀g'∈gs,g'.is_async=0:=by simp)
  (hsw:swapsWith (.ListComp elt (⟨tgt,it,ifs,0⟩::gs) scope pos) (some (.Name x pos')) spos.line X.env=pure true:=by rfl)
  (hf:X.fn x=true\/X.env.scope.names.lookup x=some .local:=by first|exact .inl rfl|exact .inr rfl|assumption)
  (hs:∀x,foldedSetIterable it X.env x=pure x:=by intro _;rfl) :
  PS X (.Assign [.Name x pos'] (.ListComp elt (⟨tgt,it,ifs,0⟩::gs) scope pos) spos) (iZ (iV cap wi tg tt tb) (eZ i)):=by
 intro pins s σ H D I h;obtain⟨cl,hcl,hsub,hall⟩:=pJ (env:=X.env) (scope:=scope) λx hx hf=>I.ok.has x.1 (S.free x hx hf)
 rw[exec_Assign_Name_used _ _ _ _ hsw];refine ag (wpAny_standAt (ag ?_));show ak _ _ (do let _ <-comprehension (.ListComp elt (⟨tgt,it,ifs,0⟩::gs) scope pos) scope X.env _ (newList []) false (eval it X.env) (some (assign (.Name x pos') X.env))) _ _ s;refine ag (bQ (wpAny_comprehension_free (use:=some (assign (.Name x pos') X.env)) (Q:=λ_ s'=>SP X pins D .next s') rfl hs hcl S.kind S.names (thn (hi pins s σ H _ I h) λv s1 h1=>thn h1 λitv s2 h2=>?_)) (λ_ s' q=>aw (aw q)) λ_ _ e=>e);refine mJ (s:=s) (H:=H) (Q:=λx H1=>eZ i x σ H1 D.nx) (use:=some (assign (.Name x pos') X.env)) hc S hng hsub hall hb h2 λacc C s' m H' hn L I1 hC q1=>?_
 show ak _ _ (assign (.Name x pos') X.env (.ref acc)) _ _ _;refine wpAny_assign_Name (oy (v:=.ref acc) I1 hN hix hx rfl (λs3 I3 ⟨a,hsa,ha⟩=>?_) hf);have hCa:C≠a:=by
  rcases ha with z|z
  ·rw[z];exact L.loc
  ·exact Ne.symm (L.cell x a z)
 exact⟨m,hn.sameBut hsa hCa,λh' hsb=>⟨_,H',L.turn I3 hC hsb,q1⟩⟩
end
theorem zS.there{P:aC}{w:av}{H:Hp}{h:Heap}{a:Addr}{o:HO}(x:zS P w H h a o):∃u,h.get? a=some u:=by
 cases o with
 |lst xs=>obtain⟨_,_,_,_,e⟩:=x;exact⟨_,e⟩
 |tup xs=>obtain⟨_,_,_,o,e,_⟩:=x;exact⟨_,e⟩
 |dK kvs=>obtain⟨_,_,_,_,o,_,_,e,_⟩:=x;exact⟨_,e⟩
 |dT kvs=>obtain⟨_,_,_,_,o,_,_,e,_⟩:=x;exact⟨_,e⟩
 |set S n=>obtain⟨o,_,_,_,e,_⟩:=x;exact⟨_,e⟩
 |ins C dx fs=>obtain⟨_,_,_,e,_⟩:=x;exact⟨_,e⟩
 |own y=>obtain⟨_,e⟩:=x;exact⟨_,e⟩
 |xd fs=>obtain⟨_,⟨_,_,_,e,_⟩,_⟩:=x;exact⟨_,e⟩
 |rng lo hi=>obtain⟨_,_,_,e⟩:=x;exact⟨_,e⟩
 |frz ob u=>obtain⟨e,_⟩:=x;exact⟨_,e⟩
 |tbl ps=>exact⟨_,(show h.get? a=some _ from x)⟩
 |met f y=>exact⟨_,(show h.get? a=some _ from x)⟩
 |ext φ=>obtain⟨_,e,_⟩:=x;exact e
theorem HOk.free_of{P:aC}{w:av}{H:Hp}{h:Heap}{a:Addr}(x:HOk P w H h)(e:h.get? a=none):H a=none:=by
 cases q:H a with
 |none=>rfl
 |some o=>obtain⟨u,z⟩:=(x a o q).there;rw[e]at z;cases z
structure Apart(X:Cx)(pins:List (Addr×Obj))(H:Hp)(b:Addr):Prop where
 new:X.s₀.heap.get? b=none
 free:H b=none
 pin:∀p∈X.pn++pins,p.1≠b
structure eu(X:Cx)(pins:List (Addr×Obj))(H:Hp)(h:Heap)(x:Addr)(cls:ae):Prop where
 me:Apart X pins H x
 tr:∃oe vs T oT ts a0,h.get? x=some oe/\oe.cls=cls/\vs[0]? = some a0/\oe.data=.fields vs/\vs[1]? = some (.ref T)/\T≠x/\h.get? T=some oT/\oT.data=.fields ts/\ts[3]? = some .none/\Apart X pins H T
structure Fly(h₀ h:Heap)(H:Hp)(x:Addr)(cls:ae):Prop where
 new:h₀.get? x=none
 free:H x=none
 tr:∃oe vs T oT ts a0,h.get? x=some oe/\oe.cls=cls/\vs[0]? = some a0/\oe.data=.fields vs/\vs[1]? = some (.ref T)/\T≠x/\h.get? T=some oT/\oT.data=.fields ts/\ts[3]? = some .none/\h₀.get? T=none/\H T=none
noncomputable def CX1(P:aC)(w:av):CXT:=λouter H s E e s'=>
 ∃x cls H',e=.ref x/\s'.os=s.os/\AllBare s'.gens/\Un (frs outer) [] H H' s.heap s'.heap/\HOk P w H' s'.heap/\Fly s.heap s'.heap H' x cls/\E cls none H'
section
variable{X:Cx}{pins:List (Addr×Obj)}{σ:St}{H:Hp}{s:af}{x T:Addr}{cls:ae}
theorem Inv.stepN{h':Heap}{t':Nat}{ch:List Addr}(I:Inv X pins σ H s)(hex:X.ex=[])(hch:∀b∈ch,Apart X pins H b/\b≠X.env.locals/\(∀x c,X.env.cells.lookup x=some c->c≠b)/\b∉X.fs)
  (keep:∀b o,b∉frs X.stack->b≠X.env.locals->b∉X.fs->b∉ch->s.heap.get? b=some o->h'.get? b=some o)
  (slot:∀b o,(b∈frs X.stack\/b=X.env.locals\/b∈X.fs)->s.heap.get? b=some o->∃sl,h'.get? b=some {o with slots:=sl}) (there:∀b o,b∉ch->s.heap.get? b=some o->∃o',h'.get? b=some o') :
  Inv X pins σ H {s with heap:=h',toks:=t'}:=by
 have sub:∀b,b∈frs X.stack->b=X.env.locals\/b∈X.fs:=λb hb=>aF.mp (I.stkSub b hb)
 have keep':∀b o,b≠X.env.locals->b∉X.fs->b∉ch->s.heap.get? b=some o->h'.get? b=some o:=λb o h1 h2 h3 e=>keep b o (λz=>(sub b z).elim h1 h2) h1 h2 h3 e
 have neL:∀b o,X.s₀.heap.get? b=some o->b≠X.env.locals:=λb o e=>aX (bA (aH e) I.ok.above)
 have neC:∀b o,X.s₀.heap.get? b=some o->b∉ch:=λb o e hb=>by
  have:=(hch b hb).1.new;rw[e]at this;cases this
 have cellK:∀x c,X.env.cells.lookup x=some c->∀v,s.heap.IsCell c v->h'.IsCell c v:=λx c e v ⟨o,ho,hd⟩=>by
  have nch:c∉ch:=λz=>(hch c z).2.2.1 x c e rfl
  by_cases hc:c∈X.fs
  ·obtain⟨sl,q⟩:=slot c o (.inr (.inr hc)) ho;exact⟨_,q,hd⟩
  ·exact⟨o,keep' c o (I.cne x c e) hc nch ho,hd⟩
 have nex:∀b,b∉X.ex:=λb=>by rw[hex];simp
 refine⟨I.ok,I.os,I.bare,⟨λb o e n hb hx=>?_,λb o e n hb hx=>?_,I.base.free,λb o e hx=>?_,I.base.tups,I.base.frzs,I.base.tbls⟩,?_,λx c e=>?_,I.free,I.freeC,λp hp=>?_,λb u e=>?_,I.len⟩
 ·exact keep' b o (neL b o e) hb (neC b o e) (I.base.keep b o e n hb hx)
 ·obtain⟨sl,e1⟩:=I.base.slot b o e n hb hx;obtain⟨sl',e2⟩:=slot b _ (.inr (.inr hb)) e1;exact⟨sl',e2⟩
 ·obtain⟨o',e1⟩:=I.base.there b o e hx;exact there b o' (neC b o e) e1
 ·obtain⟨m,hn,hl⟩:=I.loc;obtain⟨oL,es,ep,hoL,hdL,r⟩:=id hn;obtain⟨sl,eL⟩:=slot _ _ (.inr (.inl rfl)) hoL;refine⟨m,⟨_,es,ep,eL,hdL,r⟩,λi x v e1 e2 e3=>?_⟩;obtain⟨u,ru,l⟩:=hl i x v e1 e2 e3;refine⟨u,ru,?_⟩;rcases l with l|⟨k,c,e,z⟩
  ·exact .inl l
  ·exact .inr ⟨k,c,e,cellK x c e _ z⟩
 ·obtain⟨v,z⟩:=I.cell x c e;exact⟨v,cellK x c e v z⟩
 ·obtain⟨e,n,ne,nf,d⟩:=I.pin p hp;exact⟨keep' p.1 p.2 ne nf (λz=>(hch p.1 z).1.pin p hp rfl) e,n,ne,nf,d⟩
 ·have nfr:∀b,(∃u,H b=some u)->b≠X.env.locals/\b∉X.fs/\b∉ch:=λb ⟨u,e⟩=>by
   refine⟨λz=>?_,λz=>?_,λz=>?_⟩
   ·rw[z,I.free]at e;cases e
   ·obtain⟨_,o,ho,_⟩:=I.ok.funs.mem z;have:=I.base.free b o ho (I.ok.frf b z) (nex b);rw[e]at this;cases this
   ·have:=(hch b z).1.free;rw[e]at this;cases this
  refine(I.hok b u e).stay (λc v hc q=>?_) (λ_ q=>q) λ_ _ q=>q
  have hc':∃u,H c=some u:=by
   rcases hc with z|z
   ·exact⟨u,by rw[z];exact e⟩
   ·exact⟨_,z⟩
  obtain⟨n1,n2,n3⟩:=nfr c hc';exact keep' c v n1 n2 n3 q
theorem Inv.rec_ne(I:Inv X pins σ H s){b:Addr}{o:Obj}{vs:Array ae}(e:s.heap.get? b=some o)(d:o.data=.fields vs):b≠X.env.locals/\(∀x c,X.env.cells.lookup x=some c->c≠b)/\b∉X.fs/\b∉frs X.stack:=by
 have h1:b≠X.env.locals:=λz=>by
  obtain⟨m,⟨o',es,ep,ho,hd,_⟩,_⟩:=I.loc;rw[<-z,e]at ho;cases ho;rw[d]at hd;cases hd
 have h3:b∉X.fs:=λz=>by
  obtain⟨_,o',ho,hn⟩:=I.funs.mem z;rw[e]at ho;cases ho;exact hn vs d
 refine⟨h1,λx c ec z=>?_,h3,λz=>(aF.mp (I.stkSub b z)).elim h1 h3⟩;obtain⟨v,o',ho,hd⟩:=I.cell x c ec;rw[z,e]at ho;cases ho;rw[d]at hd;cases hd
theorem eu.flying(I:Inv X pins σ H s)(F:eu X pins H s.heap x cls):∃T oT ts a0,Heap.FlyingW (PySem.W.hideAll s.heap (x::T::frs X.stack)) X.stack x cls a0 s.heap/\s.heap.get? T=some oT/\oT.data=.fields ts/\Apart X pins H T:=by
 obtain⟨oe,vs,T,oT,ts,a0,e1,e2,e3,e4,e5,e6,e7,e8,e9,e10⟩:=F.tr;refine⟨T,oT,ts,a0,⟨λb o q=>PySem.W.of_hideAll _ q,PySem.W.hideAll_none _ aO,?_,oe,vs,T,oT,ts,e1,⟨e2,e3⟩,e4,e5,PySem.W.hideAll_none _ (aM _ aO),e6,e7,e8,e9⟩,e7,e8,e10⟩;exact PySem.W.funFrames_hide I.stack λenv he a ha=>aM _ (aM _ (List.mem_filterMap.mpr ⟨env,he,ha⟩))
theorem eu.back(I:Inv X pins σ H s)(hex:X.ex=[])(me:Apart X pins H x){ox:Obj}{vs:Array ae}(hx:s.heap.get? x=some ox)(hxd:ox.data=.fields vs){oT:Obj}{ts:Array ae}(hT:s.heap.get? T=some oT)(hTd:oT.data=.fields ts)(aT:Apart X pins H T)
  {l:List Env}{a0:ae}{h':Heap} (W:Heap.FlyingW (PySem.W.hideAll s.heap (x::T::frs X.stack)) l x cls a0 h') (u:s.heap.UpToSlots h') :
  Inv X pins σ H {s with heap:=h'}/\eu X pins H h' x cls:=by
 obtain⟨w1,w2,w3,oe',vs',T',oT',ts',f1,⟨f2,f3⟩,f4,f5,f6,f7,f8,f9,f10⟩:=W;obtain⟨nx1,nx2,nx3,nx4⟩:=I.rec_ne hx hxd;obtain⟨nt1,nt2,nt3,nt4⟩:=I.rec_ne hT hTd;have frd:∀b o,(b∈frs X.stack\/b=X.env.locals\/b∈X.fs)->s.heap.get? b=some o->∀ws,o.data≠.fields ws:=λb o hb e ws d=>by
  obtain⟨n1,n2,n3,n4⟩:=I.rec_ne e d;rcases hb with z|z|z
  ·exact n4 z
  ·exact n1 z
  ·exact n3 z
 have nch:∀b,b∉[x,T]->b∉frs X.stack->b∉(x::T::frs X.stack):=λb h1 h2 h3=>by
  rcases aF.mp h3 with z|h3
  ·exact h1 (by simp[z])
  ·rcases aF.mp h3 with z|h3
   ·exact h1 (by simp[z])
   ·exact h2 h3
 refine⟨?_,me,oe',vs',T',oT',ts',a0,f1,f2,f3,f4,f5,f7,f8,f9,f10,?_⟩
 ·refine I.stepN (t':=s.toks) (ch:=[x,T]) hex (λb hb=>?_) (λb o h1 h2 h3 h4 e=>w1 b o (PySem.W.hideAll_get _ e (nch b h4 h1))) (λb o hb e=>u b o e (frd b o hb e)) λb o h4 e=>?_
  ·rcases aF.mp hb with z|hb
   ·subst z;exact⟨me,nx1,nx2,nx3⟩
   ·have z:b=T:=by simpa using hb
    subst z;exact⟨aT,nt1,nt2,nt3⟩
  ·by_cases hb:b∈frs X.stack
   ·obtain⟨sl,q⟩:=u b o e (frd b o (.inl hb) e);exact⟨_,q⟩
   ·exact⟨o,w1 b o (PySem.W.hideAll_get _ e (nch b h4 hb))⟩
 ·by_cases hTT:T'=T
  ·rw[hTT];exact aT
  ·by_cases hTf:T'∈frs X.stack
   ·obtain⟨_,o,ho,hn⟩:=I.stack.mem hTf;obtain⟨sl,q⟩:=u T' o ho hn;rw[q]at f8;have z:({o with slots:=sl}:Obj)=oT':=bU f8;subst z;exact absurd f9 (hn ts')
   ·have hnone:s.heap.get? T'=none:=by
     cases q:s.heap.get? T' with
     |none=>rfl
     |some o=>
      have:(PySem.W.hideAll s.heap (x::T::frs X.stack)).get? T'=some o:=PySem.W.hideAll_get _ q (nch T' (by simp[f7,hTT]) hTf);rw[f6]at this;cases this
    refine⟨?_,I.hok.free_of hnone,λp hp z=>?_⟩
    ·cases q:X.s₀.heap.get? T' with
     |none=>rfl
     |some o=>
      obtain⟨o',e'⟩:=I.base.there T' o q (by rw[hex];simp);rw[hnone]at e';cases e'
    ·have:=(I.pin p hp).1;rw[z,hnone]at this;cases this
theorem BS{P:aC}{w:av}(hP:X.prog=P)(hw:X.w=w)(I:Inv X pins σ H s)(hex:X.ex=[]){E:XK}{e:ae}{s':af}(h:CX1 P w X.stack H s E e s') :
  ∃x cls H',e=.ref x/\Inv X pins σ H' s'/\eu X pins H' s'.heap x cls/\E cls none H':=by
 subst hP hw;obtain⟨x,cls,H',rfl,os,bare,un,hok,F,q⟩:=h;have ap:∀b,s.heap.get? b=none->H' b=none->Apart X pins H' b:=λb h1 h2=>by
  refine⟨?_,h2,λp hp z=>?_⟩
  ·cases q:X.s₀.heap.get? b with
   |none=>rfl
   |some o=>
    obtain⟨o',e'⟩:=I.base.there b o q (by rw[hex];simp);rw[h1]at e';cases e'
  ·have:=(I.pin p hp).1;rw[z,h1]at this;cases this
 obtain⟨oe,vs,T,oT,ts,a0,e1,e2,e3,e4,e5,e6,e7,e8,e9,e10,e11⟩:=F.tr;exact⟨x,cls,H',rfl,I.call' (ch:=[]) os un hok bare (λb z=>absurd z (by simp)),⟨ap x F.new F.free,oe,vs,T,oT,ts,a0,e1,e2,e3,e4,e5,e6,e7,e8,e9,ap T e10 e11⟩,q⟩
theorem eu.leaves(I:Inv X pins σ H s)(hex:X.ex=[]){env:Env}{outer:List Env}(hst:X.stack=X.env::X.outer)(hfr:X.env.frame=some X.env.locals)(F:eu X pins H s.heap x cls){E:XK}(q:E cls none H)
  {EE:ae->af->Prop}:ak (aq X.prog X.w) X.A (leaving X.env (.ref x)) (λ_ s''=>CX1 X.prog X.w X.outer X.H₀ X.s₀ E (.ref x) s'') EE s:=by
 obtain⟨oe,vs,_,_,_,_,e1,_,_,e4,_⟩:=id F.tr;obtain⟨T,oT,ts,a0,W,hT,hTd,aT⟩:=eu.flying I F;have hfrm:=I.ok.frames;rw[hst]at hfrm W;refine wpAny_leaves_onW hfrm hfr W λh' W' u=>?_
 rw[<-hst]at W';obtain⟨I',F'⟩:=eu.back I hex F.me e1 e4 hT hTd aT W' u;obtain⟨oe',vs',T',oT',ts',a0',f1,f2,f3,f4,f5,f6,f7,f8,f9,f10⟩:=F'.tr;have hb:=I'.base;rw[hex]at hb;exact⟨x,cls,H,rfl,I'.os,I'.bare,hb,I'.hok,⟨F'.me.new,F'.me.free,oe',vs',T',oT',ts',a0',f1,f2,f3,f4,f5,f6,f7,f8,f9,f10.new,f10.free⟩,q⟩
end
section
variable{P:aC}{w:av}{K:aB}{mg:Str->Option ae}{base:Heap}{N:List Str}{qual:Str}{scope:a8}{f:Addr}{cd:ae}{A:aA}{outer:List Env}{s₀:af}{H₀:Hp}{E:XK}
theorem Bf:Passes (CX1 P w) (eM (CX1 P w) P w K mg base N qual scope f cd A outer s₀ H₀ E) E:=by
 intro pins σ H s e s' I h;obtain⟨x,cls,H',rfl,I',F,q⟩:=BS rfl rfl I rfl h;exact eu.leaves (env:=(eM (CX1 P w) P w K mg base N qual scope f cd A outer s₀ H₀ E).env) (outer:=outer) I' rfl rfl rfl F q
theorem p8{X:Cx}(hP:X.prog=P)(hw:X.w=w):Passes (CX1 P w) X E0:=by
 intro pins σ H s e s' I h;obtain⟨x,cls,H',rfl,_,_,_,_,_,q⟩:=h;exact q.elim
noncomputable def Throws(X:Cx)(E:XK):Prop:=∀(pins:List (Addr×Obj)) (σ:St) (H:Hp) (s:af) (h':Heap) (e:Addr) (cls:ae) (args:List ae),Inv X pins σ H s->Heap.MadeExcOf s.heap h' e cls args->E cls none H->X.xe (.ref e) {s with heap:=h'}
end
abbrev fM:List Value:=[.type "ValueError",.type "Exception",.type "BaseException",.type "object"]
noncomputable def rh(K:aB)(C:Addr):Prop:=PySem.W.excIn K C fM "ValueError.__new__" = true
section
variable{X:Cx}{C:Addr}{x:Str}{E:XK}{t:TA}{e:Expr}{es:List Expr}{np cpos pos:Pos}
end
structure hX(k:Nat)(A:aA):Prop where
 dp:A.depth+3 * k+5<recursionLimit
 un:A.units+16 * k+200<cLine
theorem cD.u{k:Nat}{A:aA}(r:cD k A):hX k A:=⟨r.dp,r.un⟩
structure jZ(P:aC)(w:av)(K:aB)(mg:Str->Option ae)(base:Heap)(CX:CXT)(k:Nat)(f:Addr)(fd:FuncData)(ps:List Str)(sp:Sp):Prop where
 len:∀vs H Q E,sp vs H Q E->vs.length=ps.length
 run:∀(A:aA) (outer:List Env) (s:af) (H:Hp) (args:Args) (us:List ae) (vs:List V) (Q:VK) (E:XK),hX k A->gL P w K mg base A outer s H->BindsTo s fd args (ps.zip us)->Vals vs us->sp vs H Q E ->
  codeAny (aq P w) A (.call (.ref f) args) (CR CX outer P w H s Q E) s
section
variable{CX:CXT}{P:aC}{w:av}{K:aB}{mg:Str->Option ae}{base:Heap}{k:Nat}{f:Addr}{fd:FuncData}{ps:List Str}{sp:Sp}
end
section
variable{X:Cx}{CX:CXT}{k:Nat}{f:Addr}{fd:FuncData}{ps:List Str}{sp:Sp}{dvs:List V}{ds:List ae}{E:XK}{x:Str}{p pos:Pos}{e:Expr}{es:List Expr}{t:TA}
theorem um{pins:List (Addr×Obj)}{σ:St}{H:Hp}{s:af}{Q:VK}{us:List ae}{vs:List V}(F:jZ X.prog X.w X.K X.mg X.base CX k f fd ps sp)(hr:hX k X.A)(hb:Binds X.K fd ps ds)(hd:Vals dvs ds)(hx:Passes CX X E)
  (I:Inv X pins σ H s) (r:Vals vs us) (h:sp (vs++dvs) H Q E):ak (aq X.prog X.w) X.A (call (.ref f) us) (EP X pins σ Q) X.xe s:=by
 have r2:Vals (vs++dvs) (us++ds):=r.append hd;have hl:(us++ds).length=ps.length:=by rw[<-r2.length];exact F.len _ _ _ _ h
 refine wpAny_call (codeAny_mono (F.run X.A X.stack s H ⟨us,[]⟩ (us++ds) (vs++dvs) Q E hr I.env0 (hb s us I.kIn hl) r2 h) λr s' hq=>?_);cases r with
 |error e=>exact hx pins σ H s e s' I hq
 |ok fl=>
  cases fl with
  |ret u=>exact I.after hq
  |next=>exact bI hq
  |brk=>exact bI hq
  |cont=>exact bI hq
theorem uk(F:jZ X.prog X.w X.K X.mg X.base CX k f fd ps sp)(hr:hX k X.A)(hg:Gl X x)(hm:X.mg x=some (.ref f))(hk:cL X.K (.ref f)=true)(hb:Binds X.K fd ps ds)(hd:Vals dvs ds)(hx:Passes CX X E)
  (ha:PA X (e::es) t) (hdb:(x==("__debug__" : Str))=false:=by decide) (he:bf (e::es) X.env=(false,eval e X.env)::bf es X.env:=by rfl) (hpl:(backTo pos (bf es X.env)).any (·.1)=false:=by rfl) :
  PE X (.Call (.Name x p) (e::es) [] pos) (kD sp dvs E t):=by
 intro pins s σ H Q I h;refine wpAny_Call_Name_kw (lA I hg hm ?_ hdb);refine PySem.W.callWith_K (h₀:=X.base) I.ok.mod.kin hk (thn (ha pos pins s σ H _ I h) λus s1 ⟨vs,H1,I1,r,q⟩=>⟨I1.kIn,?_⟩) he hpl;exact um F hr hb hd hx I1 r q
end
noncomputable def CB(x:Addr)(cls:ae):HO:=.ext λh=>∃o vs,h.get? x=some o/\o.cls=cls/\o.data=.fields vs
section
variable{X:Cx}{pins:List (Addr×Obj)}{σ:St}{H:Hp}{s:af}
end
end L2
namespace L2
open PySem PySem.Spec PyProof.Rows PySem.W PySem.Calls Builtin Builtin.ObjectAttr Builtin.Getset_descriptor
structure jV(K:Frag)(C:Addr):Prop where
 ga:findIn K (.ref C) "__getattribute__" = some (some (.builtin "BaseException.__getattribute__"))
 gt:findIn K (.ref C) "__getattr__" = some none
 gc:findIn K (.ref C) "__class__" = some (some (.builtin "object.__class__"))
 mb:mroIn K C (.type "BaseException")=some true
 mo:mroIn K C (.type "object")=some true
 cl:∃c dd cd sl,K.lookup C=some ⟨c,dd,.cls cd,sl⟩
section
variable{prog:aC}{w:av}{A:aA}{E:ae->af->Prop}{h:Heap}{g:Array GenState}{d:Drawn}{t:Nat}{os:OsState}{x C:Addr}{K:Frag}
end
end L2
namespace L2
open PySem PySem.Spec PyProof.Rows
structure fP(prog:aC)(w:av)(xs:Array ae)(i l:Addr)(P:Nat->Heap->Prop):Prop where
 fr:∀k h h',P k h->(∀o,h.get? i=some o->h'.get? i=some o)->(∀o,h.get? l=some o->h'.get? l=some o)->P k h'
 nx:∀{A:aA} (k:Nat) (x:ae) (s:af) (Q:ae->af->Prop) (E:ae->af->Prop),P k s.heap->xs[k]? = some x->(∀h',P (k+1) h'->Heap.SameBut i s.heap h'->Q x {s with heap:=h'})->ak (aq prog w) A (cH (.ref i)) Q E s
 en:∀{A:aA} (k:Nat) (s:af) (Q:ae->af->Prop) (E:ae->af->Prop),A.handled=none->P k s.heap->xs[k]? = none ->
  (∀h' e,Heap.ExtBut i s.heap h'->(∃o,h'.get? e=some o/\o.cls=.type "StopIteration")->E (.ref e) {s with heap:=h'})->ak (aq prog w) A (cH (.ref i)) Q E s
 at_:∀k h,P k h->∃o,h.get? i=some o/\∃vs,o.data=.fields vs
theorem wj{prog:aC}{w:av}{xs:Array ae}{i l:Addr}:fP prog w xs i l (λk h=>h.IsListIter i l k/\h.IsList l xs) where
 fr:=λ_ _ _ ⟨a,b⟩ p q=>⟨a.at p,b.at q⟩
 nx:=λk x s Q E ⟨a,b⟩ hx hQ=>wpAny_nextOf_list_item a b hx λh' a' sb=>hQ h' ⟨a',b.at λo e=>(sb.2 l (λz=>by
  obtain⟨_,e1,e2,_⟩:=a;obtain⟨_,f1,f2,_⟩:=b;rw[z,e1]at f1;have e3:=bU f1;rw[<-e3,e2]at f2;exact absurd f2 (by decide))).trans e⟩ sb
 en:=λk s Q E hh ⟨a,b⟩ hx hE=>wpAny_nextOf_list_end hh a b hx hE
 at_:=λ_ _ ⟨⟨o,e,_,d⟩,_⟩=>⟨o,e,_,d⟩
section
variable{prog:aC}{w:av}{A:aA}{E:ae->af->Prop}{s:af}
theorem Cu{it l:Addr}{i:Nat}{items}{x:ae}{Q:ae->af->Prop}(hit:s.heap.IsTupleIter it l i)(hl:s.heap.IsTuple l items)(hx:items[i]? = some x)
  (hQ:∀h',h'.IsTupleIter it l (i+1)->Heap.SameBut it s.heap h'->Q x {s with heap:=h'}):ak (aq prog w) A (cH (.ref it)) Q E s:=by
 obtain⟨oi,gi,ci,di⟩:=id hit;obtain⟨ol,gl,_,nl,dl⟩:=hl;unfold cH;refine ag (wpAny_callSpecial?_slot (name:=aN "__next__") hit.typeIs F.slot_tuple_iterator_next (bY F.slot_tuple_iterator_next hit.typeIs F.entry_tuple_iterator_next ?_ (F.args_tuple_iterator_next_1 _)));show ak (aq prog w) _ (field (.ref it) 0>>=_) _ _ s;refine ag (b9 gi di (x:=.ref l) rfl ?_);show ak (aq prog w) _ (if (bx l==bW)=true then _ else _) _ _ s;rw[if_neg (show ¬ ((bx l==.none)=true)from cw)];show ak (aq prog w) _ (field (.ref it) 1>>=_) _ _ s;refine ag (b9 gi di (x:=.int i 0) rfl ?_);show ak (aq prog w) _ (seqItems? (.ref l)>>=_) _ _ s;refine ag (wpAny_seqItems gl dl ?_);simp only[Int.toNat_natCast,hx];refine ag (wpAny_setField gi di (by simp) (aw ⟨x,rfl,aw (hQ _ ?_ (Heap.SameBut.update ..))⟩));exact⟨_,Heap.get?_update_self _ gi (Obj.isFreed_of_fields (Obj.data_mapFields di _)),(Obj.cls_mapFields ..).trans ci,by rw[Obj.data_mapFields di];simp[rawInt]⟩
theorem CM{it l:Addr}{i:Nat}{items}{Q:ae->af->Prop}(hh:A.handled=none)(hit:s.heap.IsTupleIter it l i)(hl:s.heap.IsTuple l items)(hx:items[i]? = none)
  (hE:∀h' e,Heap.ExtBut it s.heap h'->(∃o,h'.get? e=some o/\o.cls=.type "StopIteration")->E (.ref e) {s with heap:=h'}):ak (aq prog w) A (cH (.ref it)) Q E s:=by
 obtain⟨oi,gi,ci,di⟩:=id hit;obtain⟨ol,gl,_,nl,dl⟩:=hl;unfold cH;refine ag (wpAny_callSpecial?_slot (name:=aN "__next__") hit.typeIs F.slot_tuple_iterator_next (bY F.slot_tuple_iterator_next hit.typeIs F.entry_tuple_iterator_next ?_ (F.args_tuple_iterator_next_1 _)));show ak (aq prog w) _ (field (.ref it) 0>>=_) _ _ s;refine ag (b9 gi di (x:=.ref l) rfl ?_);show ak (aq prog w) _ (if (bx l==bW)=true then _ else _) _ _ s;rw[if_neg (show ¬ ((bx l==.none)=true)from cw)];show ak (aq prog w) _ (field (.ref it) 1>>=_) _ _ s;refine ag (b9 gi di (x:=.int i 0) rfl ?_);show ak (aq prog w) _ (seqItems? (.ref l)>>=_) _ _ s;refine ag (wpAny_seqItems gl dl ?_);simp only[Int.toNat_natCast,hx];refine ag (wpAny_rule (ag (wpAny_setField gi di (by simp) ?_)));show ak (aq prog w) _ (newExc (.type "StopIteration") []>>=_) _ _ _;refine ag ?_;simp only[newExc,newTuple];refine ag (cJ ?_ (by size_fits));refine ag (m:=firstArgMember _ _) (wpAny_of_eq (a:=bW) (by first|rfl|(simp only[firstArgMember];rfl)) ?_);refine cJ ?_ (by size_fits);simp only[raiseNew];refine ag (wpAny_handled ?_)
 first|rw[show A.in1.handled=none from hh]|rw[hh]
 refine ag (aw (wpAny_throw ?_));exact hE _ _ (((Heap.SameBut.update ..).extBut.push _).push _) ⟨_,Heap.get?_push_size _ rfl,rfl⟩
end
theorem AS{prog:aC}{w:av}{xs:Array ae}{i l:Addr}:fP prog w xs i l (λk h=>h.IsTupleIter i l k/\h.IsTuple l xs) where
 fr:=λ_ _ _ ⟨a,b⟩ p q=>⟨a.at p,let ⟨o,e,r⟩:=b;⟨o,q o e,r⟩⟩
 nx:=λk x s Q E ⟨a,b⟩ hx hQ=>Cu a b hx λh' a' sb=>hQ h' ⟨a',b.extBut sb.extBut (λz=>by
  obtain⟨_,e1,e2,_⟩:=a;obtain⟨_,f1,f2,_⟩:=b;rw[z,e1]at f1;have e3:=bU f1;rw[<-e3,e2]at f2;exact absurd f2 (by decide))⟩ sb
 en:=λk s Q E hh ⟨a,b⟩ hx hE=>CM hh a b hx hE
 at_:=λ_ _ ⟨⟨o,e,_,d⟩,_⟩=>⟨o,e,_,d⟩
section
variable{prog:aC}{w:av}{A:aA}{E:ae->af->Prop}{s:af}{z TI TO i1 i2 l1 l2:Addr}{k:Nat}{xs ys:Array ae}{P1 P2:Nat->Heap->Prop}
structure DY(z TI TO i1 i2 l1 l2:Addr):Prop where
 d:ZipApart z TI TO i1 i2 l1 l2
theorem xj{x y a b:ae}{Q:ae->af->Prop}(D:ZipApart z TI TO i1 i2 l1 l2)(S1:fP prog w xs i1 l1 P1)(S2:fP prog w ys i2 l2 P2)
  (hz:IsZip s.heap z TI TO .none) (hTI:IsPair s.heap TI (.ref i1) (.ref i2)) (hTO:IsPair s.heap TO a b) (h1:P1 k s.heap) (h2:P2 k s.heap) (hx:xs[k]? = some x) (hy:ys[k]? = some y)
  (hQ:∀h',IsZip h' z TI TO (rawInt s.heap.objs.size)->IsPair h' TO x y->P1 (k+1) h'->P2 (k+1) h'->IsPair h' s.heap.objs.size x y->h'.objs.size=s.heap.objs.size+1 ->
   (∀c o,c≠z->c≠TO->c≠i1->c≠i2->s.heap.get? c=some o->h'.get? c=some o)->Q (.ref s.heap.objs.size) {s with heap:=h'}) :
  ak (aq prog w) A (Builtin.«zip.__next__» ⟨[.ref z],[]⟩) (λfin s'=>∃v,fin=.done (.ret v)/\Q v s') E s:=by
 show ak (aq prog w) _ (field (.ref z) 2>>=_) _ _ _;refine ag (b9 hz rfl (x:=.bool false) rfl ?_);show ak (aq prog w) _ (field (.ref z) 3>>=_) _ _ _;refine ag (b9 hz rfl (x:=.ref TI) rfl ?_);refine ag (wpAny_seqItems hTI rfl ?_);show ak (aq prog w) _ (Builtin.SmallTypes.ownedTupleIsFree (.ref z)>>=_) _ _ _;refine ag ?_;unfold Builtin.SmallTypes.ownedTupleIsFree;refine ag (b9 hz rfl (x:=.none) rfl (aw ?_));simp only[if_true];refine ag (wpAny_rule ?_);refine ag (b9 hz rfl (x:=.ref TO) rfl ?_);refine ag (wpAny_setField_rec hz (by simp) λj1 zj1 sj1=>?_)
 replace zj1:IsZip j1 z TI TO .ellipsis:=zj1
 refine ag ?_;simp only[List.zipIdx_cons,List.zipIdx_nil,List.forIn_cons,List.forIn_nil];refine ag (ag (wpAny_onRaise ?_));show ak (aq prog w) _ (cH (.ref i1)>>=_) _ _ _;refine ag (S1.nx k x _ _ _ (S1.fr k _ _ h1 (λo e=>sj1.extBut _ o D.i1z e) λo e=>sj1.extBut _ o D.l1z e) hx λj2 pj2 sj2=>aw ?_);have oj2:IsPair j2 TO a b:=sj2.extBut _ _ D.TOi1 (sj1.extBut _ _ D.TOz hTO);refine ag (wpAny_seqItems oj2 rfl ?_);refine ag (wpAny_updateSeq_pair oj2 λj3 oj3 sj3=>?_)
 replace oj3:IsPair j3 TO x b:=oj3
 refine ag (wpAny_letGo (aw ?_));refine ag (ag (wpAny_onRaise ?_));show ak (aq prog w) _ (cH (.ref i2)>>=_) _ _ _;refine ag (S2.nx k y _ _ _ (S2.fr k _ _ h2 (λo e=>sj3.extBut _ o D.TOi2.symm (sj2.extBut _ o D.i12.symm (sj1.extBut _ o D.i2z e))) λo e=>sj3.extBut _ o D.l2TO (sj2.extBut _ o D.l2i1 (sj1.extBut _ o D.l2z e))) hy λj4 pj4 sj4=>aw ?_);have oj4:IsPair j4 TO x b:=sj4.extBut _ _ D.TOi2 oj3;refine ag (wpAny_seqItems oj4 rfl ?_);refine ag (wpAny_updateSeq_pair oj4 λj5 oj5 sj5=>?_)
 replace oj5:IsPair j5 TO x y:=oj5
 refine ag (wpAny_letGo (aw (aw ?_)));refine ag (wpAny_seqItems oj5 rfl ?_);refine ag (wpAny_newTuple ?_);have hsz:j5.objs.size=s.heap.objs.size:=by rw[sj5.1,sj4.1,sj3.1,sj2.1,sj1.1]
 have zj5:IsZip j5 z TI TO .ellipsis:=sj5.extBut _ _ D.TOz.symm (sj4.extBut _ _ D.i2z.symm (sj3.extBut _ _ D.TOz.symm (sj2.extBut _ _ D.i1z.symm zj1)));have kj5:∀c o,c≠z->c≠TO->c≠i1->c≠i2->s.heap.get? c=some o->j5.get? c=some o:=λc o c1 c2 c3 c4 e=>
  sj5.extBut _ _ c2 (sj4.extBut _ _ c4 (sj3.extBut _ _ c2 (sj2.extBut _ _ c3 (sj1.extBut _ _ c1 e))))
 have p15:P1 (k+1) j5:=S1.fr _ _ _ pj2 (λo e=>sj5.extBut _ o D.TOi1.symm (sj4.extBut _ o D.i12 (sj3.extBut _ o D.TOi1.symm e))) λo e=>sj5.extBut _ o D.l1TO (sj4.extBut _ o D.l1i2 (sj3.extBut _ o D.l1TO e))
 have p25:P2 (k+1) j5:=S2.fr _ _ _ pj4 (λo e=>sj5.extBut _ o D.TOi2.symm e) λo e=>sj5.extBut _ o D.l2TO e
 have hzlt:z<j5.objs.size:=aH zj5;show ak (aq prog w) _ (Builtin.SmallTypes.ownedTupleHandOut (.ref z) (.ref j5.objs.size)>>=_) _ _ _;refine ag ?_;unfold Builtin.SmallTypes.ownedTupleHandOut;have zj6:IsZip (j5.push {cls:=.type "tuple",data:=.seq #[x,y]}) z TI TO .ellipsis:=Heap.get?_push_of_some _ zj5;refine ag (wpAny_setField_rec zj6 (by simp) λj7 zj7 sj7=>?_)
 replace zj7:IsZip j7 z TI TO (rawInt j5.objs.size):=zj7
 refine wpAny_setField_rec zj7 (by simp) λj8 zj8 sj8=>?_
 replace zj8:IsZip j8 z TI TO (rawInt j5.objs.size):=zj8
 have up:∀c o,c≠z->j5.get? c=some o->j8.get? c=some o:=λc o c1 e=>sj8.extBut _ _ c1 (sj7.extBut _ _ c1 (Heap.get?_push_of_some _ e))
 have tj8:IsPair j8 j5.objs.size x y:=sj8.extBut _ _ (Nat.ne_of_gt hzlt) (sj7.extBut _ _ (Nat.ne_of_gt hzlt) (Heap.get?_push_size _ rfl));have hz8:j8.objs.size=j5.objs.size+1:=by rw[sj8.1,sj7.1,bL]
 rw[hsz]at zj8 tj8 hz8;refine aw ⟨_,rfl,?_⟩;show Q (.ref j5.objs.size) _;rw[hsz];exact hQ j8 zj8 (up _ _ D.TOz oj5) (S1.fr _ _ _ p15 (λo e=>up _ o D.i1z e) λo e=>up _ o D.l1z e) (S2.fr _ _ _ p25 (λo e=>up _ o D.i2z e) λo e=>up _ o D.l2z e) tj8 hz8 λc o c1 c2 c3 c4 e=>up c o c1 (kj5 c o c1 c2 c3 c4 e)
theorem AQ{a b:ae}{Q:PySem.Fin->af->Prop}(hh:A.handled=none)(D:ZipApart z TI TO i1 i2 l1 l2)(S1:fP prog w xs i1 l1 P1)
  (hz:IsZip s.heap z TI TO .none) (hTI:IsPair s.heap TI (.ref i1) (.ref i2)) (hTO:IsPair s.heap TO a b) (h1:P1 k s.heap) (hx:xs[k]? = none)
  (hE:∀h' e,(∀c o,c≠z->c≠TO->c≠i1->c≠i2->s.heap.get? c=some o->h'.get? c=some o)->(∃o,h'.get? e=some o/\o.cls=.type "StopIteration")->E (.ref e) {s with heap:=h'}) :
  ak (aq prog w) A (Builtin.«zip.__next__» ⟨[.ref z],[]⟩) Q E s:=by
 show ak (aq prog w) _ (field (.ref z) 2>>=_) _ _ _;refine ag (b9 hz rfl (x:=.bool false) rfl ?_);show ak (aq prog w) _ (field (.ref z) 3>>=_) _ _ _;refine ag (b9 hz rfl (x:=.ref TI) rfl ?_);refine ag (wpAny_seqItems hTI rfl ?_);show ak (aq prog w) _ (Builtin.SmallTypes.ownedTupleIsFree (.ref z)>>=_) _ _ _;refine ag ?_;unfold Builtin.SmallTypes.ownedTupleIsFree;refine ag (b9 hz rfl (x:=.none) rfl (aw ?_));simp only[if_true];refine ag (wpAny_rule ?_);refine ag (b9 hz rfl (x:=.ref TO) rfl ?_);refine ag (wpAny_setField_rec hz (by simp) λj1 zj1 sj1=>?_)
 replace zj1:IsZip j1 z TI TO .ellipsis:=zj1
 refine ag ?_;simp only[List.zipIdx_cons,List.zipIdx_nil,List.forIn_cons,List.forIn_nil];refine ag (ag (wpAny_onRaise ?_));show ak (aq prog w) _ (cH (.ref i1)>>=_) _ _ _;refine ag (S1.en k _ _ _ hh (S1.fr k _ _ h1 (λo e=>sj1.extBut _ o D.i1z e) λo e=>sj1.extBut _ o D.l1z e) hx λj2 e sj2 he=>?_);obtain⟨oe,hoe,hce⟩:=he;have zj2:IsZip j2 z TI TO .ellipsis:=sj2 _ _ D.i1z.symm zj1;have hez:e≠z:=λq=>by subst q;rw[zj2]at hoe;cases hoe;simp at hce
 refine wpAny_setField_rec zj2 (by simp) λj3 _ sj3=>hE j3 e (λc o c1 _ c3 _ q=>sj3.extBut _ _ c1 (sj2 _ _ c3 (sj1.extBut _ _ c1 q))) ⟨oe,sj3.extBut _ _ hez hoe,hce⟩
end
section
variable{X:Cx}{pins:List (Addr×Obj)}{σ:St}{H:Hp}{s:af}{h':Heap}{tk:Nat}
theorem Inv.turnNew{ch:List Addr}{p:Addr}{vs:List V}{its:List ae}(I:Inv X pins σ H s)(hf:∀b∈ch,c_ X pins H b)(k:∀b o,b∉ch->s.heap.get? b=some o->h'.get? b=some o)
  (hp:s.heap.objs.size<=p) (ht:IsTup h' p its.toArray) (r:Vals vs its) (hz:vs.length<=aV):Inv X pins σ (upd H p (.tup vs)) {s with heap:=h',toks:=tk}:=by
 have hpn:H p=none:=I.hok.fresh hp;have nch:∀b u,H b=some u->b∉ch:=λb u e z=>by have:=(hf b z).1;rw[e]at this;cases this
 have np:∀b u,H b=some u->b≠p:=λb u e z=>by rw[z,hpn]at e;cases e
 refine I.step (g':=s.gens) (d':=s.drawn) (ch:=ch) (λb hb=>?_) (λb o _ _ hc e _=>k b o hc e) (λb o _ _ hc e _=>⟨o.slots,k b o hc e⟩) (λb o hc e n=>?_) (λb o hc e=>⟨o,k b o hc e⟩)
  (λb xs e=>by rw[qt (np b _ e)];exact e) (λb o u e=>by rw[qt (np b _ e)];exact e) (λb ps e=>⟨#[],by rw[qt (np b _ e),e];simp⟩) (λm hm=>?_) (λb u e=>?_) I.bare
 ·obtain⟨f0,f1,f2,f3,f4,f5⟩:=hf b hb;exact⟨f3,f1,f4,f5⟩
 ·rw[qt (aX (bA (aH e) hp))];exact n
 ·obtain⟨o,es,ep,ho,r⟩:=hm;exact⟨o,es,ep,k _ o (λz=>(hf _ z).2.1 rfl) ho,r⟩
 ·by_cases hb:b=p
  ·subst hb;rw[zm]at e;cases e;exact⟨hz,its,r,ht⟩
  ·rw[qt hb]at e;refine(I.hok b u e).stay (λc v hc q=>k c v ?_ q) (λc q=>by rw[qt (np c _ q)];exact q) λc xs q=>by rw[qt (np c _ q)];exact q
   rcases hc with z|z
   ·rw[z];exact nch b u e
   ·exact nch c _ z
theorem Inv.turnAll{ch:List Addr}(I:Inv X pins σ H s)(hf:∀b∈ch,c_ X pins H b)(k:∀b o,b∉ch->s.heap.get? b=some o->h'.get? b=some o):Inv X pins σ H {s with heap:=h',toks:=tk}:=by
 have nch:∀b u,H b=some u->b∉ch:=λb u e z=>by have:=(hf b z).1;rw[e]at this;cases this
 refine I.step (g':=s.gens) (d':=s.drawn) (ch:=ch) (λb hb=>?_) (λb o _ _ hc e _=>k b o hc e) (λb o _ _ hc e _=>⟨o.slots,k b o hc e⟩) (λb o hc e n=>n) (λb o hc e=>⟨o,k b o hc e⟩)
  (λb xs e=>e) (λb o u e=>e) (λb ps e=>⟨#[],by rw[e];simp⟩) (λm hm=>?_) (λb u e=>?_) I.bare
 ·obtain⟨f0,f1,f2,f3,f4,f5⟩:=hf b hb;exact⟨f3,f1,f4,f5⟩
 ·obtain⟨o,es,ep,ho,r⟩:=hm;exact⟨o,es,ep,k _ o (λz=>(hf _ z).2.1 rfl) ho,r⟩
 ·refine(I.hok b u e).stay (λc v hc q=>k c v ?_ q) (λc q=>q) λc xs q=>q
  rcases hc with z|z
  ·rw[z];exact nch b u e
  ·exact nch c _ z
end
noncomputable def Sq2(K:aB)(tup:Bool)(H:Hp)(a:Addr)(xs:List V):Prop:=if tup=true then SqT K H a xs else SqL K H a xs
noncomputable def Itz(K:aB)(tup:Bool)(l1 l2:Addr):It:=
 ⟨λi H=>∃xs ys x y,Sq2 K tup H l1 xs/\Sq2 K tup H l2 ys/\xs[i]? = some x/\ys[i]? = some y,
  λi H v H'=>∃p x y,H p=none/\v=.ref p/\H'=upd H p (.tup [x,y])/\(∀xs,Sq2 K tup H l1 xs->xs[i]? = some x)/\∀ys,Sq2 K tup H l2 ys->ys[i]? = some y,
  λi H=>∃xs ys,Sq2 K tup H l1 xs/\Sq2 K tup H l2 ys/\xs.length<=i⟩
noncomputable def eB(tup:Bool)(h:Heap)(i l:Addr)(k:Nat):Prop:=if tup=true then h.IsTupleIter i l k else h.IsListIter i l k
noncomputable def rY(tup:Bool)(h:Heap)(l:Addr)(xs:Array ae):Prop:=if tup=true then h.IsTuple l xs else h.IsList l xs
theorem jU{prog:aC}{w:av}{xs:Array ae}{i l:Addr}{tup:Bool}:fP prog w xs i l (λk h=>eB tup h i l k/\rY tup h l xs):=by
 cases tup with
 |true=>exact AS
 |false=>exact wj
theorem eB.rec{tup:Bool}{h:Heap}{i l:Addr}{k:Nat}(x:eB tup h i l k):∃o vs,h.get? i=some o/\o.data=.fields vs:=by
 cases tup with
 |true=>obtain⟨o,e,_,d⟩:=(show h.IsTupleIter i l k from x);exact⟨o,_,e,d⟩
 |false=>obtain⟨o,e,_,d⟩:=(show h.IsListIter i l k from x);exact⟨o,_,e,d⟩
theorem eB.kept{tup:Bool}{h h':Heap}{i l:Addr}{k:Nat}(x:eB tup h i l k)(p:∀o,h.get? i=some o->h'.get? i=some o):eB tup h' i l k:=by
 cases tup with
 |true=>exact(show h.IsTupleIter i l k from x).at p
 |false=>exact(show h.IsListIter i l k from x).at p
theorem Inv.sq2{X:Cx}{pins:List (Addr×Obj)}{σ:St}{H:Hp}{s:af}{tup:Bool}{a:Addr}{xs:List V}(I:Inv X pins σ H s)(h:Sq2 X.K tup H a xs):∃its:List ae,Vals xs its/\rY tup s.heap a its.toArray/\xs.length<=aV/\∃o ns n,s.heap.get? a=some o/\o.data=.seq ns n:=by
 cases tup with
 |true=>
  obtain⟨its,r,p,z⟩:=I.tuple h;obtain⟨o,e,c,n,d⟩:=id p;exact⟨its,r,p,z,o,_,n,e,d⟩
 |false=>
  obtain⟨its,r,p,z⟩:=I.list h;obtain⟨o,n,e,c,c',d⟩:=id p;exact⟨its,r,p.isList,z,o,_,n,e,d⟩
theorem Inv.sq2_inj{X:Cx}{pins:List (Addr×Obj)}{σ:St}{H:Hp}{s:af}{tup:Bool}{a:Addr}{xs ys:List V}(I:Inv X pins σ H s)(h:Sq2 X.K tup H a xs)(h':Sq2 X.K tup H a ys):xs=ys:=by
 cases tup with
 |true=>exact I.tuple_inj h h'
 |false=>exact I.list_inj h h'
theorem yt{P:aC}{w:av}{K:aB}{es:List Expr}{ek:Nat}{epos:Pos}{tup:Bool}{z TI TO i1 i2 l1 l2:Addr}(n1:TI≠z)(n2:TO≠z)(n3:i1≠z)(n4:i2≠z)(n5:TI≠TO)(n6:TI≠i1)(n7:TI≠i2)(n8:TO≠i1)(n9:TO≠i2)(n10:i1≠i2)
  (ml:∀b∈[z,TI,TO,i1,i2],l1≠b/\l2≠b):Turn P w K (.Tuple es ek epos) (Itz K tup l1 l2) [z,TI,TO,i1,i2] z (λi h=>IsZip h z TI TO .none/\IsPair h TI (.ref i1) (.ref i2)/\(∃a b,IsPair h TO a b)/\eB tup h i1 l1 i/\eB tup h i2 l2 i) where
 mem:=by simp
 obj:=λi h st b hb=>by
  obtain⟨hz,hTI,⟨a,c,hTO⟩,h1,h2⟩:=st;obtain⟨o1,v1,e1,d1⟩:=h1.rec;obtain⟨o2,v2,e2,d2⟩:=h2.rec;have hb':b=z\/b=TI\/b=TO\/b=i1\/b=i2:=by simpa using hb
  rcases hb' with q|q|q|q|q
  ·subst q;exact⟨_,hz,λv q=>by cases q⟩
  ·subst q;exact⟨_,hTI,λv q=>by cases q⟩
  ·subst q;exact⟨_,hTO,λv q=>by cases q⟩
  ·subst q;exact⟨o1,e1,λv q=>by rw[d1]at q;cases q⟩
  ·subst q;exact⟨o2,e2,λv q=>by rw[d2]at q;cases q⟩
 keep:=λi h h' st k=>by
  obtain⟨hz,hTI,⟨a,c,hTO⟩,h1,h2⟩:=st;exact⟨k z (by simp) _ hz,k TI (by simp) _ hTI,⟨a,c,k TO (by simp) _ hTO⟩,h1.kept λo e=>k i1 (by simp) o e,h2.kept λo e=>k i2 (by simp) o e⟩
 item:=by
  intro X hP hw hK hc i pins s σ H E I hf st hg;subst hP hw hK;obtain⟨hz,hTI,⟨a,c,hTO⟩,h1,h2⟩:=st;obtain⟨xs,ys,x,y,q1,q2,hx,hy⟩:=hg;obtain⟨its1,r1,p1,z1,_⟩:=I.sq2 q1;obtain⟨its2,r2,p2,z2,_⟩:=I.sq2 q2;obtain⟨u1,hu1,ru1⟩:=r1.get hx;obtain⟨u2,hu2,ru2⟩:=r2.get hy;have D:ZipApart z TI TO i1 i2 l1 l2:=⟨n1,n2,n3,n4,n5,n6,n7,n8,n9,n10,(ml z (by simp)).1,(ml TO (by simp)).1,(ml i1 (by simp)).1,(ml i2 (by simp)).1,(ml z (by simp)).2,(ml TO (by simp)).2,(ml i1 (by simp)).2,(ml i2 (by simp)).2⟩
  have hT:s.TypeIs (.ref z) "zip":=⟨_,hz,rfl⟩
  unfold pyNext;refine ag (wpAny_attempt (wpAny_callSpecial?_slot (name:=aN "__next__") hT F.slot_zip_next (bY F.slot_zip_next hT F.entry_zip_next
   (xj (xs:=its1.toArray) (ys:=its2.toArray) (k:=i) D (jU (tup:=tup)) (jU (tup:=tup)) hz hTI hTO ⟨h1,p1⟩ ⟨h2,p2⟩ (by simpa using hu1) (by simpa using hu2) λh' a1 a2 a3 a4 a5 a6 hk=>aw ?_) (F.args_zip_next_1 _))))
  have hkc:∀b o,b∉[z,TI,TO,i1,i2]->s.heap.get? b=some o->h'.get? b=some o:=λb o hb e=>hk b o (λq=>hb (by simp[q])) (λq=>hb (by simp[q])) (λq=>hb (by simp[q])) (λq=>hb (by simp[q])) e
  have I1:Inv X pins σ (upd H s.heap.objs.size (.tup [x,y])) {s with heap:=h'}:=I.turnNew (tk:=s.toks) (its:=[u1,u2]) hf hkc (aD _) ⟨_,a5,rfl,_,rfl⟩ (.cons ru1 (.cons ru2 .nil)) (by show 2<=aV;decide);have hpn:H s.heap.objs.size=none:=I.hok.fresh (aD _);have hfp:∀b∈[z,TI,TO,i1,i2],b≠s.heap.objs.size:=λb hb q=>by
   have hb':b=z\/b=TI\/b=TO\/b=i1\/b=i2:=by simpa using hb
   obtain⟨o1,v1,e1,d1⟩:=h1.rec;obtain⟨o2,v2,e2,d2⟩:=h2.rec;have:b<s.heap.objs.size:=by
    rcases hb' with q|q|q|q|q
    ·subst q;exact aH hz
    ·subst q;exact aH hTI
    ·subst q;exact aH hTO
    ·subst q;exact aH e1
    ·subst q;exact aH e2
   rw[q]at this;exact bM _ this
  have hnone:∀b∈[z,TI,TO,i1,i2],(upd H s.heap.objs.size (.tup [x,y])) b=none:=λb hb=>by rw[qt (hfp b hb)];exact(hf b hb).1
  refine⟨_,rfl,?_⟩;refine wpAny_letOwnedTupleGo_zip (s:={s with heap:=h'}) a1 λh2' hz' hs'=>?_
  obtain⟨f0,f1,f2,f3,f4,f5⟩:=hf z (by simp);refine⟨.ref s.heap.objs.size,_,I1.turned (t':=s.toks) (it:=z) (λb o hb e=>(hs'.2 b hb).trans e) (hnone z (by simp)) f1 f3 f4 f5,rfl,⟨_,x,y,hpn,rfl,rfl,λzs hq=>by rw[I.sq2_inj hq q1];exact hx,λzs hq=>by rw[I.sq2_inj hq q2];exact hy⟩,?_,hnone⟩;have up:∀b o,b≠z->h'.get? b=some o->h2'.get? b=some o:=λb o hb e=>(hs'.2 b hb).trans e
  exact⟨hz',up _ _ n1 (hk _ _ n1 n5 n6 n7 hTI),⟨_,_,up _ _ n2 a2⟩,a3.1.kept λo e=>up _ o n3 e,a4.1.kept λo e=>up _ o n4 e⟩
 done:=by
  intro X hP hw hK hc i pins s σ H E I hf st hg;subst hP hw hK;obtain⟨hz,hTI,⟨a,c,hTO⟩,h1,h2⟩:=st;obtain⟨xs,ys,q1,q2,hx⟩:=hg;obtain⟨its1,r1,p1,z1,_⟩:=I.sq2 q1;have D:ZipApart z TI TO i1 i2 l1 l2:=⟨n1,n2,n3,n4,n5,n6,n7,n8,n9,n10,(ml z (by simp)).1,(ml TO (by simp)).1,(ml i1 (by simp)).1,(ml i2 (by simp)).1,(ml z (by simp)).2,(ml TO (by simp)).2,(ml i1 (by simp)).2,(ml i2 (by simp)).2⟩
  have hT:s.TypeIs (.ref z) "zip":=⟨_,hz,rfl⟩
  have hl:=r1.length;unfold pyNext;refine ag (wpAny_attempt (wpAny_callSpecial?_slot (name:=aN "__next__") hT F.slot_zip_next (bY F.slot_zip_next hT F.entry_zip_next
   (AQ (xs:=its1.toArray) (k:=i) (I.ok.hd hc) D (jU (tup:=tup)) hz hTI hTO ⟨h1,p1⟩ (by simp;lia) λh' e hk he=>?_) (F.args_zip_next_1 _))))
  obtain⟨o,ho,hcl⟩:=he;refine ag (wpAny_isInstance (T:="StopIteration") (b:=true) ⟨o,ho,hcl⟩ isSubtype_stop ?_);exact aw ⟨rfl,I.turnAll (tk:=s.toks) hf λb o hb e=>hk b o (λq=>hb (by simp[q])) (λq=>hb (by simp[q])) (λq=>hb (by simp[q])) (λq=>hb (by simp[q])) e⟩
 self:=λ_ _ _ _ _ st h=>wpAny_pyIter_zip st.1 h
abbrev zj1(h:Heap)(l1:Addr):Heap:=h.push {cls:=.type "tuple_iterator",data:=.fields #[.ref l1,.int 0 0]}
abbrev zj2(h:Heap)(l1 l2:Addr):Heap:=(zj1 h l1).push {cls:=.type "tuple_iterator",data:=.fields #[.ref l2,.int 0 0]}
abbrev zj3(h:Heap)(l1 l2:Addr):Heap:=(zj2 h l1 l2).push {cls:=.type "tuple",data:=.seq #[.ref h.objs.size,.ref (zj1 h l1).objs.size]}
abbrev zj4(h:Heap)(l1 l2:Addr):Heap:=(zj3 h l1 l2).push {cls:=.type "tuple",data:=.seq #[.none,.none]}
abbrev zj5(h:Heap)(l1 l2:Addr):Heap:=(zj4 h l1 l2).push {cls:=.type "zip",data:=.fields #[.none,.bool false,.bool false,.ref (zj2 h l1 l2).objs.size,.ref (zj3 h l1 l2).objs.size]}
theorem vk(l1 l2:Addr)(xs ys:Array ae) :
  Meets (Builtin.«zip.__new__» ⟨[.type "zip",.ref l1,.ref l2],[]⟩) (λ_ R s=>s.heap.IsTuple l1 xs/\s.heap.IsTuple l2 ys/\R (.ok (.ret (.ref (zj4 s.heap l1 l2).objs.size))) {s with heap:=zj5 s.heap l1 l2}):=
 .of_wp λprog w A R s h=>by
  obtain⟨hp,g,d,tk,os⟩:=s;obtain⟨hl1,hl2,h⟩:=h;have hsub:=sub_zip;have hL1:Heap.IsTuple (af.heap ⟨hp,g,d,tk,os⟩) l1 xs:=hl1;have hL2:Heap.IsTuple (af.heap ⟨hp.push {cls:=.type "tuple_iterator",data:=.fields #[.ref l1,.int 0 0]},g,d,tk,os⟩) l2 ys:=let ⟨o,e,r⟩:=hl2;⟨o,Heap.get?_push_of_some _ e,r⟩
  wp_walk using wpAny_pyIter_tuple hL1,wpAny_pyIter_tuple hL2
  exact⟨_,rfl,h⟩
section
variable{prog:aC}{w:av}{A:aA}{E:ae->af->Prop}{s:af}
theorem tw{l1 l2:Addr}{xs ys:Array ae}{Q:ae->af->Prop}(hl1:s.heap.IsTuple l1 xs)(hl2:s.heap.IsTuple l2 ys)
  (h:∀h',IsZip h' (s.heap.objs.size+4) (s.heap.objs.size+2) (s.heap.objs.size+3) .none->IsPair h' (s.heap.objs.size+2) (.ref s.heap.objs.size) (.ref (s.heap.objs.size+1)) ->
   IsPair h' (s.heap.objs.size+3) .none .none->h'.IsTupleIter s.heap.objs.size l1 0->h'.IsTupleIter (s.heap.objs.size+1) l2 0->h'.objs.size=s.heap.objs.size+5 ->
   (∀c o,s.heap.get? c=some o->h'.get? c=some o)->Q (.ref (s.heap.objs.size+4)) {s with heap:=h'}):ak (aq prog w) A (call (.type "zip") [.ref l1,.ref l2]) Q E s:=by
 refine callType_new F.called_zip (by decide) (F.typeCall_zip_2 _ _) (F.newCall_zip_2 _ _) (λobj=>F.args_object_init_3 obj _ _) F.entry_zip_new (vk l1 l2 xs ys) ⟨hl1,hl2,?_⟩;have z1:(zj1 s.heap l1).objs.size=s.heap.objs.size+1:=bL ..;have z2:(zj2 s.heap l1 l2).objs.size=s.heap.objs.size+2:=by rw[bL,z1]
 have z3:(zj3 s.heap l1 l2).objs.size=s.heap.objs.size+3:=by rw[bL,z2]
 have z4:(zj4 s.heap l1 l2).objs.size=s.heap.objs.size+4:=by rw[bL,z3]
 have z5:(zj5 s.heap l1 l2).objs.size=s.heap.objs.size+5:=by rw[bL,z4]
 have g5:(zj5 s.heap l1 l2).get? (zj4 s.heap l1 l2).objs.size=some _:=Heap.get?_push_size _ rfl;have g4:(zj5 s.heap l1 l2).get? (zj3 s.heap l1 l2).objs.size=some _:=Heap.get?_push_of_some _ (Heap.get?_push_size _ rfl);have g3:(zj5 s.heap l1 l2).get? (zj2 s.heap l1 l2).objs.size=some _:=Heap.get?_push_of_some _ (Heap.get?_push_of_some _ (Heap.get?_push_size _ rfl));have g2:(zj5 s.heap l1 l2).get? (zj1 s.heap l1).objs.size=some _:=Heap.get?_push_of_some _ (Heap.get?_push_of_some _ (Heap.get?_push_of_some _ (Heap.get?_push_size _ rfl)));have g1:(zj5 s.heap l1 l2).get? s.heap.objs.size=some _:=Heap.get?_push_of_some _ (Heap.get?_push_of_some _ (Heap.get?_push_of_some _ (Heap.get?_push_of_some _ (Heap.get?_push_size _ rfl))));show _/\_;rw[z2,z3,z4]at g5;rw[z1,z2]at g3;rw[z3]at g4;rw[z1]at g2;rw[z4];exact⟨⟨_,g5,rfl⟩,h _ g5 g3 g4 ⟨_,g1,rfl,rfl⟩ ⟨_,g2,rfl,rfl⟩ z5 λc o x=>Heap.get?_push_of_some _ (Heap.get?_push_of_some _ (Heap.get?_push_of_some _ (Heap.get?_push_of_some _ (Heap.get?_push_of_some _ x))))⟩
end
noncomputable def AK(K:aB)(ta:TA):TI:=λσ H R=>ta σ H λvs H1=>∃(tup:Bool) (l1 l2:Addr),vs=[.ref l1,.ref l2]/\(∃xs,Sq2 K tup H1 l1 xs)/\(∃ys,Sq2 K tup H1 l2 ys)/\R (Itz K tup l1 l2) H1
theorem Ad{X:Cx}{es:List Expr}{ek:Nat}{epos p pos:Pos}{a b:Expr}{ta:TA}(hg:Gl X "zip")(hm:X.mg "zip" = none)(hv:bN "zip" = some (.type "zip"))(ha:PA X [a,b] ta)
  (hs:bf [a,b] X.env=[(false,eval a X.env),(false,eval b X.env)]:=by rfl) (hs2:bf [b] X.env=[(false,eval b X.env)]:=by rfl):PI X (.Tuple es ek epos) (.Call (.Name "zip" p) [a,b] [] pos) (AK X.K ta):=by
 intro pins s σ H R I h;refine Call_ (eP I hg hm hv (eT (thn (ha pos pins s σ H _ I h) λus s1 ⟨vs,H1,I1,r1,q1⟩=>?_) (by rw[hs,hs2]) (by rw[hs2];rfl)));obtain⟨tup,l1,l2,e,⟨xs,q2⟩,⟨ys,q3⟩,q⟩:=q1;subst e;cases r1 with
 |cons r rr=>
  cases rr with
  |cons r' rr=>
   cases rr;cases r;cases r';obtain⟨its1,v1,p1,_,o1,ns1,m1,e1,d1⟩:=I1.sq2 q2;obtain⟨its2,v2,p2,_,o2,ns2,m2,e2,d2⟩:=I1.sq2 q3;have lt1:l1<s1.heap.objs.size:=aH e1;have lt2:l2<s1.heap.objs.size:=aH e2;have above:∀b:Addr,b∈[s1.heap.objs.size+4,s1.heap.objs.size+2,s1.heap.objs.size+3,s1.heap.objs.size,s1.heap.objs.size+1]->s1.heap.objs.size<=b:=λb hb=>by
    have hb':b=s1.heap.objs.size+4\/b=s1.heap.objs.size+2\/b=s1.heap.objs.size+3\/b=s1.heap.objs.size\/b=s1.heap.objs.size+1:=by simpa using hb
    rcases hb' with q|q|q|q|q
    ·rw[q];exact Nat.le_add_right _ _
    ·rw[q];exact Nat.le_add_right _ _
    ·rw[q];exact Nat.le_add_right _ _
    ·rw[q];exact aD _
    ·rw[q];exact Nat.le_add_right _ _
   have fin:∀h',IsZip h' (s1.heap.objs.size+4) (s1.heap.objs.size+2) (s1.heap.objs.size+3) .none->IsPair h' (s1.heap.objs.size+2) (.ref s1.heap.objs.size) (.ref (s1.heap.objs.size+1)) ->
     IsPair h' (s1.heap.objs.size+3) .none .none->eB tup h' s1.heap.objs.size l1 0->eB tup h' (s1.heap.objs.size+1) l2 0->(∀c o,s1.heap.get? c=some o->h'.get? c=some o) ->
     ak (aq X.prog X.w) X.A (pyIter (.ref (s1.heap.objs.size+4))) (PIE X pins σ (.Tuple es ek epos) R) X.xe {s1 with heap:=h'}:=λh' a1 a2 a3 a4 a5 k=>by
    have I2:Inv X pins σ H1 {s1 with heap:=h'}:=I1.kept (t':=s1.toks) k;refine wpAny_pyIter_zip a1 ?_;refine⟨_,_,_,_,H1,rfl,I2,yt (P:=X.prog) (w:=X.w) (K:=X.K) (z:=s1.heap.objs.size+4) (TI:=s1.heap.objs.size+2) (TO:=s1.heap.objs.size+3) (i1:=s1.heap.objs.size) (i2:=s1.heap.objs.size+1) (l1:=l1) (l2:=l2) (tup:=tup) (show (s1.heap.objs.size+2:Nat)≠s1.heap.objs.size+4 by lia) (show (s1.heap.objs.size+3:Nat)≠s1.heap.objs.size+4 by lia) (show (s1.heap.objs.size:Nat)≠s1.heap.objs.size+4 by lia) (show (s1.heap.objs.size+1:Nat)≠s1.heap.objs.size+4 by lia) (show (s1.heap.objs.size+2:Nat)≠s1.heap.objs.size+3 by lia) (show (s1.heap.objs.size+2:Nat)≠s1.heap.objs.size by lia) (show (s1.heap.objs.size+2:Nat)≠s1.heap.objs.size+1 by lia) (show (s1.heap.objs.size+3:Nat)≠s1.heap.objs.size by lia) (show (s1.heap.objs.size+3:Nat)≠s1.heap.objs.size+1 by lia) (show (s1.heap.objs.size:Nat)≠s1.heap.objs.size+1 by lia) (λb hb=>?_),⟨a1,a2,⟨_,_,a3⟩,a4,a5⟩,λb hb=>?_,q⟩
    ·have:=above b hb;exact⟨aX (bA lt1 this),aX (bA lt2 this)⟩
    ·have:=above b hb;exact I1.fpOk this (I1.hok.fresh this)
   cases tup with
   |true=>exact tw p1 p2 λh' a1 a2 a3 a4 a5 _ k=>fin h' a1 a2 a3 a4 a5 k
   |false=>exact call_zip_2 p1 p2 λh' a1 a2 a3 a4 a5 _ k=>fin h' a1 a2 a3 a4 a5 k
theorem tV{K:aB}{T:String}:cB K (.type T) (.type T)=some true:=by unfold cB;rw[if_pos (by simp)]
theorem uu{K:aB}{a T:String}{b:Bool}(hne:(bJ a==bJ T)=false)(hm:PySem.W.kitMeta T=true)(hf:(fastBuiltinMro a).map (·.contains (.type T))=some b):cB K (.type a) (.type T)=some b:=by
 unfold cB PySem.W.kitCls PySem.W.subIn;rw[if_neg (by rw[hne];exact cw)];dsimp only;rw[if_pos hm];exact hf
noncomputable def gj(a T:String):Bool:=a==T||(a == "bool" && T == "int")
theorem xF{K:aB}{a T:String}(ha:a∈["NoneType","bool","int","str","list","tuple","dict"])(hT:T∈["int","bool","str","list","tuple"]):cB K (.type a) (.type T)=some (gj a T):=by
 simp only[aF,bS,or_false]at ha hT;rcases ha with rfl|rfl|rfl|rfl|rfl|rfl|rfl<;>rcases hT with rfl|rfl|rfl|rfl|rfl<;>first|exact tV|exact uu (by decide +kernel) (by decide +kernel) (by decide +kernel)
noncomputable def ltP(p q:Int×Int):Bool:=if p.1=q.1 then decide (p.2<q.2)else decide (p.1<q.1)
section
variable{prog:aC}{w:av}{A:aA}{E:ae->af->Prop}{s:af}
end
theorem kJ{h:Heap}{a:Addr}{m m':Str->Option ae}(x:h.Ns a m)(y:h.Ns a m'):m=m':=by
 obtain⟨o,es,ep,e1,e2,_,e4⟩:=x;obtain⟨o',es',ep',f1,f2,_,f4⟩:=y;rw[e1]at f1;cases f1;rw[e2]at f2;cases f2;funext n;rw[<-e4,<-f4]
theorem Inv.newList{X:Cx}{pins:List (Addr×Obj)}{σ:St}{H:Hp}{s s':af}{D:Addr}{out:List V}{its:List ae}{c:Nat}(I:Inv X pins σ H s)(hos:s'.os=s.os)(hg:s'.gens=s.gens)
  (k:∀b o,b≠X.env.locals->s.heap.get? b=some o->s'.heap.get? b=some o) (ns:∀m,s.heap.Ns X.env.locals m->s'.heap.Ns X.env.locals m) (hD:s.heap.get? D=none) (hDL:D≠X.env.locals)
  (hl:s'.heap.get? D=some {cls:=.type "list",data:=.seq its.toArray c}) (r:Vals out its) (hz:out.length<=aV):Inv X pins σ (upd H D (.lst out)) s':=by
 obtain⟨h',g',d',t',o'⟩:=s';have eo:o'=s.os:=hos;have eg:g'=s.gens:=hg;subst eo eg;have hpn:H D=none:=I.hok.free_of hD;have np:∀b u,H b=some u->b≠D:=λb u e z=>by rw[z,hpn]at e;cases e
 obtain⟨m0,n0,_⟩:=id I.loc;obtain⟨oL,es,ep,hoL,_⟩:=id n0;obtain⟨oL',es',ep',hoL',_⟩:=ns _ n0;refine I.step (g':=s.gens) (d':=d') (ch:=[]) (λb hb=>absurd hb (by simp)) (λb o hL _ _ e _=>k b o hL e) (λb o hL _ _ e _=>⟨o.slots,k b o hL e⟩) (λb o _ e n=>?_) (λb o _ e=>?_)
  (λb xs e=>by rw[qt (np b _ e)];exact e) (λb o u e=>by rw[qt (np b _ e)];exact e) (λb ps e=>⟨#[],by rw[qt (np b _ e),e];simp⟩) ns (λb u e=>?_) I.bare
 ·rw[qt (λz=>by rw[z,hD]at e;cases e)];exact n
 ·by_cases hL:b=X.env.locals
  ·exact⟨oL',by rw[hL];exact hoL'⟩
  ·exact⟨o,k b o hL e⟩
 ·by_cases hb:b=D
  ·subst hb;rw[zm]at e;cases e;exact⟨hz,its,c,r,hl⟩
  ·rw[qt hb]at e;have nl:∀c,(∃u,H c=some u)->c≠X.env.locals:=λc ⟨u,e⟩ z=>by rw[z,I.free]at e;cases e
   refine(I.hok b u e).stay (λc v hc q=>k c v (nl c ?_) q) (λc q=>by rw[qt (np c _ q)];exact q) λc xs q=>by rw[qt (np c _ q)];exact q
   rcases hc with z|z
   ·exact⟨u,by rw[z];exact e⟩
   ·exact⟨_,z⟩
section
variable{prog:aC}{w:av}{A:aA}{E:ae->af->Prop}{s:af}
theorem x9{a:Addr}{vs:List ae}{P:Fin->af->Prop}(hoL:s.heap.get? a=some (aJ "list" vs.toArray 0))(h2:vs.length<2)(h:P (.done (.ret .none)) {s with heap:=sortedHeap s.heap a vs vs.toArray}) :
  ak (aq prog w) A (Builtin.«list.sort» ⟨[.ref a],[]⟩) P E s:=by
 rw[list_sort_plain];refine ag (listItems_at  hoL rfl ?_);refine ag (listUpdate_at  hoL rfl ?_ (by rw[aS,bt];lia) (br _));obtain⟨e1,ho1⟩:∃e1,(s.heap.update a (ba λ_=>#[])).get? a=some (aJ "list" #[] e1):=⟨_,get?_update_seq hoL (λ_=>#[])⟩
 refine ag (seqEpoch_at ho1 rfl ?_);refine ag (wpAny_newTuple ?_ (by show vs.length<=_;rw[bt];lia));refine ag (wpAny_newList ?_ (br _));refine bF ?_;have hlt:a<s.heap.objs.size:=aH hoL;have ho6:(((s.heap.update a (ba λ_=>#[])).push (aJ "tuple" vs.toArray 0)).push (aJ "list" #[] 0)).get? a=some (aJ "list" #[] e1):=by
  rw[Heap.get?_push_ne _ _ _ (by rw[size_push',Heap.size_update];exact aX (bO hlt)),Heap.get?_push_ne _ _ _ (by rw[Heap.size_update];exact aX hlt)];exact ho1
 show ak (aq prog w) _ _ _ _ {s with heap:=((s.heap.update a (ba λ_=>#[])).push (aJ "tuple" vs.toArray 0)).push (aJ "list" #[] 0)};dsimp only;have h2':vs.toArray.size<2:=by rw[aS];exact h2
 rw[if_pos h2',if_pos h2'];refine ag (aw ?_);rw[StateT.run_pure];refine ag (aw ?_);dsimp only;refine ag (seqEpoch_at ho6 rfl ?_);have hout:(ah (aI.mk' general' (vs.toArray.zip vs.toArray) #[] 7 none)).map (·.2)=vs.toArray:=by
  show (vs.toArray.zip vs.toArray).map (·.2)=vs.toArray;apply Array.toList_inj.mp;simp[List.map_snd_zip]
 refine ag (listUpdate_at ho6 rfl ?_ (br _) (by rw[hout,aS,bt];lia));simp only[bne_self_eq_false,a_,if_false];refine aw ?_;rw[hout];exact h
theorem vw{l:Addr}{vs:List ae}{Q:ae->af->Prop}(hl:s.heap.IsList l vs.toArray)(h2:vs.length<2)(h:Q (.ref (s.heap.objs.size+1)) {s with heap:=sortedAll s.heap vs vs.toArray}):ak (aq prog w) A (call (.builtin "sorted") [.ref l]) Q E s:=by
 refine Calls.call_function_entry kind_sorted plain_sorted entry_sorted (args_sorted1 _) ?_;unfold Builtin.«sorted»;refine ag (m:=checkCount "sorted" 1 1 _) (aw ?_);refine ag (collect_list hl ?_ (by rw[bt];lia));refine ag (wpAny_newList ?_ (by rw[bt];lia));have hsz:((s.heap.push (aJ "list" #[] 0)).update s.heap.objs.size (ba (· ++ vs.toArray))).objs.size=s.heap.objs.size+1:=by rw[Heap.size_update,size_push']
 have hoL:(((s.heap.push (aJ "list" #[] 0)).update s.heap.objs.size (ba (· ++ vs.toArray))).push (aJ "list" vs.toArray 0)).get? (s.heap.objs.size+1)=some (aJ "list" vs.toArray 0):=by rw[<-hsz];exact Heap.get?_push_size _ rfl
 show ak _ _ _ _ _ {s with heap:=((s.heap.push (aJ "list" #[] 0)).update s.heap.objs.size (ba (· ++ vs.toArray))).push (aJ "list" vs.toArray 0)};rw[hsz];refine ag (bF (bY slot_list_sort ⟨_,hoL,rfl⟩ entry_list_sort ?body (args_list_sort _)))
 case body=>
  exact x9 hoL h2 ⟨_,rfl,aw ⟨_,rfl,h⟩⟩
end
section
variable{X:Cx}{pins:List (Addr×Obj)}{σ:St}{H:Hp}{s:af}
theorem DM{A:aA}{bs:List Bool}{us:List ae}(r:Vals (bs.map V.bl) us):us=bs.map ae.bool:=by
 induction bs generalizing us with
 |nil=>cases r;rfl
 |cons b bs ih=>cases r with
  |cons h t=>rw[ih t,show _=ae.bool b from h];rfl
end
section
variable{X:Cx}
noncomputable def rK(r r' r'':R2)(ta tb tc td:TE):TE:=λσ H Q=>ta σ H λx H1=>tb σ H1 λy H2=>r x y H2 λz H3=>∃k,z=.bl k /\
 (if k=true then tc σ H3 λw' H4=>r' y w' H4 λz H5=>∃k,z=.bl k/\(if k=true then td σ H5 λw'' H6=>r'' w' w'' H6 Q else Q (.bl false) H5)else Q (.bl false) H3)
theorem wq{a b c d:Expr}{ta tb tc td:TE}{pos:Pos}{op op' op'':CmpOp}{r r' r'':R2}(ho:OpR X (bh op) r)(ho':OpR X (bh op') r')(ho'':OpR X (bh op'') r'')(ha:PE X a ta)(hb:PE X b tb)(hc:PE X c tc)(hd:PE X d td)
  (hm:lastMarks [op,op',op''] [b,c,d]=false:=by with_unfolding_all rfl):PE X (.Compare a [op,op',op''] [b,c,d] pos) (rK r r' r'' ta tb tc td):=by
 intro pins s σ H Q I h;refine Compare_chain (thn (ha pins s σ H _ I h) λv s1 ⟨x,H1,I1,r1,q1⟩=>chain_link (thn (hb pins s1 σ H1 _ I1 q1) λu s2 ⟨y,H2,I2,r2,q2⟩=>
  thn (ho pins s2 σ H2 x y v u _ I2 r1 r2 q2) λd s3 ⟨z,H3,I3,r3,k,e,q3⟩=>?_)) hm
 subst e;cases r3;refine bH ?_;cases k with
 |false=>exact ite_ff ⟨.bl false,H3,I3,rfl,q3⟩
 |true=>
  refine ite_tt (chain_link (thn (hc pins s3 σ H3 _ I3 q3) λw' s4 ⟨z',H4,I4,r4,q4⟩=>thn (ho' pins s4 σ H4 y z' u w' _ I4 r2 r4 q4) λd' s5 ⟨z2,H5,I5,r5,k2,e2,q5⟩=>?_));subst e2;cases r5;refine bH ?_;cases k2 with
  |false=>exact ite_ff ⟨.bl false,H5,I5,rfl,q5⟩
  |true=>exact ite_tt (chain_last (thn (hd pins s5 σ H5 _ I5 q5) λw'' s6 ⟨z3,H6,I6,r6,q6⟩=>ho'' pins s6 σ H6 z' z3 w' w'' Q I6 r4 r6 q6))
noncomputable def tJ(K:aB):R2:=λx y H Q=>∃a b xs ys,x=.ref a/\y=.ref b/\SqT K H a xs/\SqT K H b ys/\xs.length+ys.length<=aV /\
 (xs=[]->Q (.ref b) H)/\(xs≠[]->ys=[]->Q (.ref a) H)/\(xs≠[]->ys≠[]->∀p,H p=none->Q (.ref p) (upd H p (.tup (xs++ys))))
theorem ym:OpR X (binaryOp .Add) (tJ X.K):=by
 intro pins s σ H x y v u Q I rx ry h;obtain⟨a,b,xs,ys,rfl,rfl,ha,hb,hz,q0,q1,q2⟩:=h;by_cases hx:xs=[]
 ·subst hx;cases rx;cases ry;obtain⟨its,r1,p1,_⟩:=I.tuple ha;obtain⟨its2,r2,p2,_⟩:=I.tuple hb;cases r1;obtain⟨⟨cls,dd,data,sl⟩,ho,hc,n,hd⟩:=id p1;obtain⟨⟨cls2,dd2,data2,sl2⟩,ho2,hc2,n2,hd2⟩:=id p2;simp only at hc hd hc2 hd2;subst hc hd hc2 hd2;exact concat_meets ⟨_,ho,rfl⟩ ⟨_,ho2,rfl⟩ noFill_tuple_add seq_tuple_add PySem.F.slot_tuple_add PySem.F.entry_tuple_add (PySem.F.args_tuple_add_2 _ _)
   (tuple_addW0 a b _ its2.toArray n n2 dd dd2 sl sl2 (by simp)) ⟨ho,ho2,⟨.ref b,H,I,rfl,q0 rfl⟩⟩
 ·exact C_ pins s σ H (.ref a) (.ref b) v u Q I rx ry ⟨a,b,xs,ys,rfl,rfl,ha,hb,hx,hz,q1 hx,q2 hx⟩
theorem jL{vs:List ae}{ns:List Int}(h:bp vs ns):Vals (ns.map V.int) vs:=by
 induction h with
 |nil=>exact .nil
 |cons n t _ ih=>exact .cons ⟨t,rfl⟩ ih
noncomputable def tL(K:aB):List V->Hp->VK->Prop:=λvs H Q=>∃(l:Addr) (ns:List Int),vs=[.ref l]/\SqL K H l (ns.map V.int)/\ns.length<64/\∀(D:Addr) (ms:List Int),H D=none->ms.Perm ns->ms.Pairwise (·<=·)->Q (.ref D) (upd H D (.lst (ms.map V.int)))
theorem xg:qU X (.builtin "sorted") (tL X.K):=by
 intro pins s σ H xs us Q I r h;obtain⟨l,ns,rfl,hl,h64,q⟩:=h;obtain⟨u,rfl,ru⟩:=r.one;cases ru;obtain⟨its,rv,pl,hz⟩:=I.list hl;obtain⟨m,F⟩:=I.fr;refine PySem.W.kso_sorted F (m5 (g:=X.base) (h:=s.heap) (L:=X.env.locals)) pl.isList (intsAre_of rv) h64 λD vs' ns' c h' F' N' hlt hi he hp ho _=>?_
 have keep:∀b o,b≠X.env.locals->s.heap.get? b=some o->h'.get? b=some o:=λb o hb e=>by
  cases qb:X.base.get? b with
  |some ob=>have:=I.bk b ob qb;rw[e]at this;cases this;exact F'.keep b _ qb
  |none=>exact(N' (b,o) (aM _ (ki hb qb e))).1
 have hDn:=N' (D,_) aO;have hD0:s.heap.get? D=none:=by
  cases qd:s.heap.get? D with
  |none=>rfl
  |some o=>exact absurd (hlt (D,o) (ki hDn.2.1 hDn.2.2 qd)) (bM _)
 refine⟨.ref D,_,I.newList (s':={s with heap:=h'}) (c:=c) rfl rfl keep (λm' hm'=>?_) hD0 hDn.2.1 hDn.1 (jL hi) (by rw[aR,he,bt];lia),rfl,q D ns' (I.hok.free_of hD0) hp ho⟩;rw[kJ hm' F.ns];exact F'.ns
end
noncomputable def Ite(K:aB)(l:Addr):It:=
 ⟨λi H=>∃xs x,SqL K H l xs/\xs[i]? = some x,
  λi H v H'=>∃p x,H p=none/\v=.ref p/\H'=upd H p (.tup [.int i,x])/\∀xs,SqL K H l xs->xs[i]? = some x,
  λi H=>∃xs,SqL K H l xs/\xs.length<=i⟩
theorem uG{P:aC}{w:av}{K:aB}{es:List Expr}{ek:Nat}{epos:Pos}{e it l:Addr}(n1:e≠it)(n2:l≠e)(n3:l≠it) :
  Turn P w K (.Tuple es ek epos) (Ite K l) [e,it] e (λi h=>(∃old,IsEnum h e it ((i:Nat):Int) old)/\h.IsListIter it l i) where
 mem:=by simp
 obj:=λi h st b hb=>by
  obtain⟨⟨old,hz⟩,o1,e1,_,d1⟩:=st;have hb':b=e\/b=it:=by simpa using hb
  rcases hb' with q|q
  ·subst q;exact⟨_,hz,λv q=>by cases q⟩
  ·subst q;exact⟨o1,e1,λv q=>by rw[d1]at q;cases q⟩
 keep:=λi h h' st k=>by
  obtain⟨⟨old,hz⟩,h1⟩:=st;exact⟨⟨old,k e (by simp) _ hz⟩,h1.at λo q=>k it (by simp) o q⟩
 item:=by
  intro X hP hw hK hc i pins s σ H E I hf st hg;subst hP hw hK;obtain⟨⟨old,hz⟩,h1⟩:=st;obtain⟨xs,x,q1,hx⟩:=hg;obtain⟨its,r1,p1,z1⟩:=I.list q1;obtain⟨u1,hu1,ru1⟩:=r1.get hx;refine wpAny_pyNext_enum_item hz h1 p1.isList (x:=u1) (by simpa using hu1) n1 λh' a1 a2 a3 a4 hk=>?_
  have hkc:∀b o,b∉[e,it]->s.heap.get? b=some o->h'.get? b=some o:=λb o hb q=>hk b o (λz=>hb (by simp[z])) (λz=>hb (by simp[z])) q
  have I1:Inv X pins σ (upd H s.heap.objs.size (.tup [.int i,x])) {s with heap:=h',toks:=s.toks+1}:=I.turnNew (tk:=s.toks+1) (its:=[.int i s.toks,u1]) hf hkc (aD _) ⟨_,a3,rfl,_,rfl⟩ (.cons ⟨_,rfl⟩ (.cons ru1 .nil)) (by show 2<=aV;decide);have hpn:H s.heap.objs.size=none:=I.hok.fresh (aD _);have hfp:∀b∈[e,it],b≠s.heap.objs.size:=λb hb q=>by
   have hb':b=e\/b=it:=by simpa using hb
   obtain⟨o1,e1,_,d1⟩:=h1;have:b<s.heap.objs.size:=by
    rcases hb' with q|q
    ·subst q;exact aH hz
    ·subst q;exact aH e1
   rw[q]at this;exact bM _ this
  have hnone:∀b∈[e,it],(upd H s.heap.objs.size (.tup [.int i,x])) b=none:=λb hb=>by rw[qt (hfp b hb)];exact(hf b hb).1
  refine⟨_,rfl,?_⟩;refine wpAny_letOwnedTupleGo_enum (s:={s with heap:=h',toks:=s.toks+1}) a1 λh2' hz' hs'=>?_
  obtain⟨f0,f1,f2,f3,f4,f5⟩:=hf e (by simp);refine⟨.ref s.heap.objs.size,_,I1.turned (t':=s.toks+1) (it:=e) (λb o hb q=>(hs'.2 b hb).trans q) (hnone e (by simp)) f1 f3 f4 f5,rfl,⟨_,x,hpn,rfl,rfl,λzs hq=>by rw[I.list_inj hq q1];exact hx⟩,⟨⟨u1,?_⟩,a2.at λo q=>(hs'.2 it (Ne.symm n1)).trans q⟩,hnone⟩
  ·have:((i+1:Nat):Int)=(i:Int)+1:=by push_cast;rfl
   rw[this];exact hz'
 done:=by
  intro X hP hw hK hc i pins s σ H E I hf st hg;subst hP hw hK;obtain⟨⟨old,hz⟩,h1⟩:=st;obtain⟨xs,q1,hx⟩:=hg;obtain⟨its,r1,p1,z1⟩:=I.list q1;have hl:=r1.length;exact wpAny_pyNext_enum_end (I.ok.hd hc) hz h1 p1.isList (by simp;lia) λh' eb=>⟨rfl,I.turnAll (tk:=s.toks) hf λb o hb q=>eb b o (λz=>hb (by simp[z])) q⟩
 self:=λ_ _ _ _ _ st h=>by
  obtain⟨⟨old,hz⟩,_⟩:=st;exact wpAny_pyIter_enum hz h
noncomputable def AU(K:aB)(ta:TA):TI:=λσ H R=>ta σ H λvs H1=>∃(l:Addr),vs=[.ref l]/\(∃xs,SqL K H1 l xs)/\R (Ite K l) H1
theorem xm{X:Cx}{es:List Expr}{ek:Nat}{epos p pos:Pos}{a:Expr}{ta:TA}(hg:Gl X "enumerate")(hm:X.mg "enumerate" = none)(hv:bN "enumerate" = some (.type "enumerate"))(ha:PA X [a] ta)
  (hs:bf [a] X.env=[(false,eval a X.env)]:=by rfl):PI X (.Tuple es ek epos) (.Call (.Name "enumerate" p) [a] [] pos) (AU X.K ta):=by
 intro pins s σ H R I h;refine Call_ (eP I hg hm hv (eT (thn (ha pos pins s σ H _ I h) λus s1 ⟨vs,H1,I1,r1,q1⟩=>?_) (by rw[hs];rfl) (by rfl)));obtain⟨l,e,⟨xs,q2⟩,q⟩:=q1;subst e;cases r1 with
 |cons r rr=>
  cases rr;cases r;obtain⟨its1,v1,p1,_⟩:=I1.list q2;have lt1:l<s1.heap.objs.size:=by obtain⟨_,e,_⟩:=p1.isList;exact aH e
  refine call_enumerate_list p1.isList λh' hE hI hsz k=>?_
  have I2:Inv X pins σ H1 {s1 with heap:=h'}:=I1.kept (t':=s1.toks) k;refine wpAny_pyIter_enum hE ?_;refine⟨_,_,_,_,H1,rfl,I2,uG (P:=X.prog) (w:=X.w) (K:=X.K) (e:=s1.heap.objs.size+1) (it:=s1.heap.objs.size) (l:=l) (Nat.succ_ne_self _) (aX (bO lt1)) (aX lt1),⟨⟨_,hE⟩,hI⟩,λb hb=>?_,q⟩;have hb':b=s1.heap.objs.size+1\/b=s1.heap.objs.size:=by simpa using hb
  have:s1.heap.objs.size<=b:=by
   rcases hb' with q|q
   ·rw[q];exact Nat.le_succ _
   ·rw[q];exact aD _
  exact I1.fpOk this (I1.hok.fresh this)
end L2
namespace L2
open PySem PySem.Spec PyProof.Rows PySem.SeqAt
mutual
inductive er(K:aB)(H:Hp):V->PyData->Prop
 |non:er K H .non .none
 |bl (b:Bool):er K H (.bl b) (.bool b)
 |int (i:Int):er K H (.int i) (.int i)
 |str (x:Str):er K H (.str x) (.str x)
 |lst {a:Addr}{xs:List V}{ds:List PyData}:SqL K H a xs->gz K H xs ds->er K H (.ref a) (.list ds)
 |tup {a:Addr}{xs:List V}{ds:List PyData}:SqT K H a xs->gz K H xs ds->er K H (.ref a) (.tuple ds)
inductive gz(K:aB)(H:Hp):List V->List PyData->Prop
 |nil:gz K H [] []
 |cons {x:V}{xs:List V}{d:PyData}{ds:List PyData}:er K H x d->gz K H xs ds->gz K H (x::xs) (d::ds)
end
section
variable{X:Cx}{pins:List (Addr×Obj)}{σ:St}{H:Hp}{s:af}
theorem Inv.reads(I:Inv X pins σ H s){x:V}{d:PyData}(h:er X.K H x d):∀{u:ae},RelV x u->∃as,Reads s.heap u d as:=
 h.rec (motive_1:=λx d _=>∀{u:ae},RelV x u->∃as,Reads s.heap u d as) (motive_2:=λxs ds _=>∀{us:List ae},Vals xs us->∃as,ReadsAll s.heap us ds as) (λr=>by cases r;exact⟨_,.none⟩) (λb _ r=>by cases r;exact⟨_,.bool b⟩) (λi _ r=>by obtain⟨t,rfl⟩:=r;exact⟨_,.int i t⟩) (λx _ r=>by obtain⟨t,rfl⟩:=r;exact⟨_,.str x t⟩)
  (λh _ g _ r=>by
   cases r;obtain⟨its,rv,pl,_⟩:=I.list h;obtain⟨as,ra⟩:=g rv;obtain⟨o,ho,hc,n,hd⟩:=pl.isList;exact⟨_,Reads.list ho hc hd (by simpa using ra)⟩)
  (λh _ g _ r=>by
   cases r;obtain⟨its,rv,pl,_⟩:=I.tuple h;obtain⟨as,ra⟩:=g rv;obtain⟨o,ho,hc,n,hd⟩:=pl;exact⟨_,Reads.tuple ho hc hd (by simpa using ra)⟩)
  (λr=>by cases r;exact⟨_,.nil⟩) (λ_ _ a b _ r=>by
   cases r with
   |cons r1 r2=>
    obtain⟨as,ra⟩:=a r1;obtain⟨bs,rb⟩:=b r2;exact⟨_,.cons ra rb⟩)
end
section
variable{X:Cx}
end
end L2
namespace L2
open PySem PySem.Spec PyProof.Rows
section
variable{lt:Nat->Nat->Bool}
noncomputable def Asc(lt:Nat->Nat->Bool)(p:Array Nat)(m:Nat):Prop:=∀i j,i<j->j<m->lt (p.getD j 0) (p.getD i 0)=false
end
section
variable{lt:Nat->Nat->Bool}
structure Part(lt:Nat->Nat->Bool)(p:Array Nat)(r:Nat×Array Nat):Prop where
 perm:r.2.Perm p
 size:r.2.size=p.size
 lo:1<=r.1
 hi:r.1<=p.size
 asc:Asc lt r.2 r.1
end
end L2
namespace HT
open PySem PySem.Spec PyProof.Rows L2
section
variable{prog:aC}{w:av}{A:aA}{E:ae->af->Prop}{s:af}
end
end HT
namespace L2
open PySem PySem.Spec PyProof.Rows
section
variable{X:Cx}
noncomputable def DV:V->List V->Hp->VK->Prop:=λx vs H Q=>∃l xs j y,x=.ref l/\vs=[.int j,y]/\H l=some (.lst xs)/\xs.length<aV/\0<=j/\j<=xs.length/\Q .non (upd H l (.lst (xs.take j.toNat++y::xs.drop j.toNat)))
theorem wz:MtM X "list.insert" DV:=by
 intro pins s σ H x vs v us Q I rx rv h;obtain⟨l,xs,j,y,rfl,rfl,hH,hz,hj,hj',q⟩:=h;cases rx;obtain⟨u,u2,rfl,ru,ru2⟩:=rv.two;obtain⟨t,rfl⟩:=ru;obtain⟨z,its,n,r,hl,e⟩:=I.lstM hH;have hsl:=bt;have hfit:Builtin.List.listFitsIndex j=true:=by
  have a:¬ j<0:=by lia
  simp[Builtin.List.listFitsIndex];lia
 refine call_meets PySem.F.slot_list_insert ⟨_,e,rfl⟩ PySem.F.entry_list_insert (PySem.F.args_list_insert_3 _ _ _) (PySem.AutoSeq1.list_insert_list_int_val_1 l its.toArray n j t u2 (by simp[hfit]) (by rw[aS];lia)) ⟨e,?_⟩;refine⟨.non,_,I.lset (its':=its.take j.toNat++u2::its.drop j.toNat) hH e ?_ ((r.take _).append (.cons ru2 (r.drop _))) ?_,rfl,q⟩
 ·have hk:(if j<0 then (j+(its.toArray.size:Int)).toNat else min j.toNat its.toArray.size)=j.toNat:=by
   rw[if_neg (by lia),aS];lia
  show (its.toArray.extract 0 (if j<0 then (j+(its.toArray.size:Int)).toNat else min j.toNat its.toArray.size)).push u2++its.toArray.extract (if j<0 then (j+(its.toArray.size:Int)).toNat else min j.toNat its.toArray.size)=_;rw[hk];simp;apply List.take_of_length_le;simp
 ·simp;lia
end
section
variable{X:Cx}{tg:Expr}
end
noncomputable def eV(kX:Str->Option aY)(NX NY:List Str)(cap:List (Option Nat))(scope:a8):Bool:=
 (scope.kind==.function)&&(scope.names.all λy=>(y.2 != .cell||scope.names.lookup y.1==some .cell)&&(y.2 != .local||scope.names.lookup y.1==some .local)&&(y.2 != .free||kX y.1==some .cell||kX y.1==some .free)) &&
 (cap.length==NY.length)&&(bu cap.length).all λi=>match cap[i]? with
  |some (some j)=>(match NY[i]?,NX[j]? with
   |some x,some y=>x==y&&scope.names.lookup x==some .free&&(kX x==some .cell||kX x==some .free)
   |_,_=>false)
  |_=>true
theorem zD.of{X:Cx}{NY:List Str}{cap:List (Option Nat)}{scope:a8}(h:eV X.env.kindOf X.N NY cap scope=true):zD X NY cap scope:=by
 unfold eV at h;simp only[aU,cy,beq_iff_eq]at h;obtain⟨⟨⟨h1,h2⟩,h3⟩,h4⟩:=h;refine⟨h1,λy hy e=>?_,λy hy e=>?_,λy hy e=>?_,h3,λi j hc=>?_⟩
 ·have:=(h2 y hy).1.1;rw[e]at this
  simpa using this
 ·have:=(h2 y hy).1.2;rw[e]at this
  simpa using this
 ·have:=(h2 y hy).2;rw[e]at this
  simpa using this
 ·have hi:i<cap.length:=(List.getElem?_eq_some_iff.mp hc).1;have:=h4 i (List.mem_range.mpr hi);rw[hc]at this;dsimp only at this;split at this
  ·rename_i x y e1 e2
   simp only[aU,beq_iff_eq,cA]at this;obtain⟨⟨e3,e4⟩,e5⟩:=this;subst e3;exact⟨x,e1,e2,e4,e5⟩
  ·cases this
end L2
namespace WB
open PySem PySem.Spec PyProof.Rows L2
section
variable{P:aC}{w:av}{K:aB}{mg:Str->Option ae}{base:Heap}{f g:Addr}{fd gd:FuncData}
theorem _root_.L2.Fun.ok1{x qual:Str}{st:Stmt}{f:Addr}{fd:FuncData}{N ps:List Str}{k:Nat}{sp:Sp}(F:Fun K x qual st f fd)(S:gP N ps (qZ st))(len:∀vs H Q E,sp vs H Q E->vs.length=ps.length)
  (hbody:∀(cdv:ae) (A:aA) (outer:List Env) (s:af) (H:Hp) (vs:List V) (Q:VK) (E:XK),cD k (A.deeper (envOfC qual (qZ st) s.heap.objs.size f cdv))->sp vs H Q E ->
   ∃t,PSs (eM (CX1 P w) P w K mg base N qual (qZ st) f cdv A outer s H E) (d_ st) t/\t {nx:=λ_ H'=>Q .non H',rt:=Q} (start N vs) H):eY P w K mg base (CX1 P w) (k+1) f fd ps sp:=by
 obtain⟨oc,od,kV,doc,pm,an,cdv,ct,osl,rfl,lk,hcd⟩:=F.ex;exact uA lk hcd S len λA outer s H vs Q E hr hsp=>hbody cdv A outer s H vs Q E hr hsp
end
noncomputable def sT(H:Hp)(ps:List Addr)(ks:List (Int×Int)):Prop:=ps.length=ks.length/\∀(i:Nat) p k,ps[i]? = some p->ks[i]? = some k->H p=some (.tup [.int k.1,.int k.2])
structure Built(H0:Hp)(acc:Addr)(ks:List (Int×Int))(H:Hp):Prop where
 ex:∃ps:List Addr,H acc=some (.lst (ps.map V.ref))/\sT H ps ks
 same:∀b o,b≠acc->H0 b=some o->H b=some o
end WB
set_option genSizeOf false
set_option genSizeOfSpec false
namespace EV
open PySem L2
inductive D where
 |non|bl (b:Bool)|int (i:Int)|str (x:Str)|tup (xs:List D)|lst (xs:List D)|fn (x:Str)|exn (c:Str)|dic
inductive R(α:Type) where
 |ok (a:α)|ex (c:Str)|no
noncomputable def R.bind{α β:Type}:R α->(α->R β)->R β
 | .ok a,f=>f a
 | .ex c,_=>.ex c
 | .no,_=>.no
@[simp] theorem R.bind_ok{α β:Type}(a:α)(f:α->R β):(R.ok a).bind f=f a:=rfl
@[simp] theorem R.bind_ex{α β:Type}(c:Str)(f:α->R β):(R.ex c:R α).bind f=.ex c:=rfl
@[simp] theorem R.bind_no{α β:Type}(f:α->R β):(R.no:R α).bind f=.no:=rfl
inductive O2 where
 |add|sub|mul|fdiv|mod|pow|shl|shr|band|bor|bxor
 deriving DecidableEq
inductive C2 where
 |eq|ne|lt|le|gt|ge|isin|notin|is|isnot
 deriving DecidableEq
inductive B1 where
 |len|tuple|list|sorted|all|any|sum|min|max|abs|int|bool
 deriving DecidableEq
inductive Cl where
 |ty (n:String)|ex (x:Str)
 deriving DecidableEq
inductive Tg where
 |nm (i:Nat)|tp (is:List Nat)
mutual
inductive E where
 |var (i:Nat)|own (i:Nat)|con (d:D)|glb (x:Str)|fnv (x:Str)
 |op (o:O2) (a b:E)|not (a:E)|and (a b:E)|or (a b:E)
 |cmp (c:C2) (a b:E)|cmp2 (c c':C2) (a b d:E)|cmp3 (c c' c'':C2) (a b d e:E)
 |ite (t:T) (a b:E)
 |tup (es:Es)|lst (es:Es)
 |ix (a b:E)|sl (a:E) (lo hi:OE)
 |call (f:Str) (es:Es)
 |bi (b:B1) (es:Es)
 |rtup (a:It)|rlst (a:It)
 |isi (a:E) (c:Cl)
 |comp (it:It) (cap:List (Option Nat)) (tg:Tg) (t:T) (elt:E)
 |dic
 |callo (f:Str) (es:Es)
 |comp2 (it:It) (cap:List (Option Nat)) (tg:Tg) (it2:It) (tg2:Tg) (t:T) (elt:E)
 |sset (ln:Bool) (a:E)
 |mxd (a:E)
inductive OE where
 |none|some (e:E)
inductive Es where
 |nil|cons (e:E) (es:Es)
inductive It where
 |seq (e:E)|rng (a:E)|rng2 (a b:E)|enum (e:E)|zip (a b:E)
inductive T where
 |yes|val (e:E)|cmp (c:C2) (a b:E)|cmp2 (c c':C2) (a b d:E)|and (a b:T)|or (a b:T)|not (a:T)
end
noncomputable def SZ:Nat:=1000000
noncomputable def small(j:Int):Bool:=decide (-(2^64)<j)&&decide (j<2^64)
noncomputable def opI:O2->Int->Int->R D
 | .add,i,j=>.ok (.int (i+j))
 | .sub,i,j=>.ok (.int (i-j))
 | .mul,i,j=>if small i||small j then .ok (.int (i * j))else .no
 | .fdiv,i,j=>if 0<j/\j<1000000000000000000000000000000 then .ok (.int (i/j))else .no
 | .mod,i,j=>if 0<j then .ok (.int (i%j))else .no
 | .pow,i,j=>if 0<=j/\j<=1000000/\i.natAbs<2^64 then .ok (.int (i^j.toNat))else .no
 | .shl,i,j=>if 0<=j/\j<=1000000/\i.natAbs<2^64 then .ok (.int (i * 2^j.toNat))else .no
 | .shr,i,j=>if 0<=j then .ok (.int (i/2^j.toNat))else .no
 | .band,i,j=>.ok (.int (Builtin.bitAnd i j))
 | .bor,i,j=>.ok (.int (Builtin.bitOr i j))
 | .bxor,i,j=>.ok (.int (Builtin.bitXor i j))
noncomputable def pB:D->Bool
 | .lst _=>true
 |_=>false
noncomputable def op2(o:O2):D->D->R D
 | .int i,.int j=>opI o i j
 | .tup xs,.tup ys=>if o=.add/\xs.length+ys.length<=SZ then .ok (.tup (xs++ys))else .no
 | .lst xs,.lst ys=>if o=.add/\xs.length+ys.length<=SZ then .ok (.lst (xs++ys))else .no
 |_,_=>.no
mutual
noncomputable def D.plain:D->Bool
 | .non=>true
 | .bl _=>true
 | .int _=>true
 | .str x=>PyData.strOk x
 | .tup xs=>plainAll xs
 | .lst xs=>plainAll xs
 | .fn _=>false
 | .exn _=>false
 | .dic=>false
noncomputable def plainAll:List D->Bool
 | []=>true
 |x::xs=>x.plain&&plainAll xs
end
mutual
noncomputable def D.deep:D->Nat
 | .tup xs=>dU xs+1
 | .lst xs=>dU xs+1
 |_=>0
noncomputable def dU:List D->Nat
 | []=>0
 |x::xs=>max x.deep (dU xs)
end
mutual
noncomputable def D.eqv:D->D->Bool
 | .non,.non=>true
 | .bl a,.bl b=>a==b
 | .bl a,.int j=>(if a then 1 else 0)==j
 | .int i,.bl b=>i==(if b then 1 else 0)
 | .int i,.int j=>i==j
 | .str x,.str y=>x==y
 | .tup xs,.tup ys=>eqvAll xs ys
 | .lst xs,.lst ys=>eqvAll xs ys
 |_,_=>false
noncomputable def eqvAll:List D->List D->Bool
 | [],[]=>true
 |x::xs,y::ys=>x.eqv y&&eqvAll xs ys
 |_,_=>false
end
noncomputable def D.asks(d:D):Bool:=d.plain&&decide (d.deep<=20)
mutual
noncomputable def D.noL:D->Bool
 | .non=>true
 | .bl _=>true
 | .int _=>true
 | .str _=>true
 | .tup xs=>kh xs
 |_=>false
noncomputable def kh:List D->Bool
 | []=>true
 |x::xs=>x.noL&&kh xs
end
noncomputable def ints?:List D->Option (List Int)
 | []=>some []
 | .int i::r=>(ints? r).map (i :: ·)
 |_=>none
noncomputable def bools?:List D->Option (List Bool)
 | []=>some []
 | .bl i::r=>(bools? r).map (i :: ·)
 |_=>none
noncomputable def pairs?:List D->Option (List (Int×Int))
 | []=>some []
 | .tup [.int i,.int j]::r=>(pairs? r).map ((i,j) :: ·)
 |_=>none
noncomputable def seq?:D->Option (List D)
 | .tup xs=>some xs
 | .lst xs=>some xs
 |_=>none
noncomputable def cV:List Int->List Int->Bool
 | [],[]=>false
 | [],_::_=>true
 |_::_,[]=>false
 |a::r,b::t=>if a=b then cV r t else decide (a<b)
noncomputable def ji(c:C2)(i j:Int):Option Bool:=
 match c with
 | .lt=>some (decide (i<j))
 | .le=>some (decide (i<=j))
 | .gt=>some (decide (j<i))
 | .ge=>some (decide (j<=i))
 | .eq=>some (decide (i=j))
 | .ne=>some (!decide (i=j))
 |_=>none
noncomputable def inD(x:D)(xs:List D):Bool:=xs.any λy=>y.eqv x
noncomputable def cZ:D->Bool
 | .non=>true
 |_=>false
noncomputable def isB(n:Bool):D->D->R Bool
 | .bl a,.bl b=>.ok (n != (a==b))
 |_,_=>.no
noncomputable def qi:C2->D->D->R Bool
 | .is,a,b=>if cZ b then .ok (cZ a)else isB false a b
 | .isnot,a,b=>if cZ b then .ok (!cZ a)else isB true a b
 | .isin,a,b=>match seq? b with
  |some xs=>if a.asks&&xs.all D.asks then .ok (inD a xs)else .no
  |none=>.no
 | .notin,a,b=>match seq? b with
  |some xs=>if a.asks&&xs.all D.asks then .ok (!inD a xs)else .no
  |none=>.no
 | .eq,a,b=>if a.asks&&b.asks then .ok (a.eqv b)else .no
 | .ne,a,b=>if a.asks&&b.asks then .ok (!a.eqv b)else .no
 | .lt,.tup xs,.tup ys=>match ints? xs,ints? ys with
  |some ns,some ms=>.ok (cV ns ms)
  |_,_=>.no
 |c,.int i,.int j=>match ji c i j with
  |some b=>.ok b
  |none=>.no
 |_,_,_=>.no
noncomputable def truth:D->R Bool
 | .non=>.ok false
 | .bl b=>.ok b
 | .int i=>.ok (i != 0)
 | .tup xs=>.ok (!xs.isEmpty)
 | .lst xs=>.ok (!xs.isEmpty)
 |_=>.no
noncomputable def ixD:D->D->R D
 | .tup xs,.int i=>match atI xs i with|some d=>.ok d|none=>.no
 | .lst xs,.int i=>match atI xs i with|some d=>.ok d|none=>.no
 |_,_=>.no
noncomputable def cutD(xs:List D)(lo hi:Option Int):List D:=(xs.drop (HT.sIx xs.length 0 lo)).take (HT.sIx xs.length xs.length hi-HT.sIx xs.length 0 lo)
noncomputable def slD:D->Option Int->Option Int->R D
 | .lst xs,lo,hi=>.ok (.lst (cutD xs lo hi))
 |_,_,_=>.no
noncomputable def insI(i:Int):List Int->List Int
 | []=>[i]
 |j::r=>if i<=j then i::j::r else j::insI i r
noncomputable def sortI:List Int->List Int
 | []=>[]
 |i::r=>insI i (sortI r)
noncomputable def eS(p:Int×Int):List (Int×Int)->List (Int×Int)
 | []=>[p]
 |q::r=>if ltP q p then q::eS p r else p::q::r
noncomputable def zK:List (Int×Int)->List (Int×Int)
 | []=>[]
 |p::r=>eS p (zK r)
noncomputable def pairD(p:Int×Int):D:=.tup [.int p.1,.int p.2]
noncomputable def cY(d:D)(k:List D->R D):R D:=match d with | .lst xs=>k xs|_=>.no
noncomputable def iiR(d e:D)(k:Int->Int->R D):R D:=match d,e with | .int i,.int j=>k i j|_,_=>.no
noncomputable def cm{α β:Type}(o:Option α)(k:α->R β):R β:=match o with|some a=>k a|none=>.no
noncomputable def tups?:List D->Option (List (List Int))
 | []=>some []
 | .tup xs::r=>(ints? xs).bind λn=>(tups? r).map (n :: ·)
 |_=>none
noncomputable def dt(p:List Int):List (List Int)->List (List Int)
 | []=>[p]
 |q::r=>if cV q p then q::dt p r else p::q::r
noncomputable def zA:List (List Int)->List (List Int)
 | []=>[]
 |p::r=>dt p (zA r)
noncomputable def gq(l:List Int):D:=.tup (l.map D.int)
noncomputable def fh:List (List Int)->Bool
 |p::q::r=>p.isEmpty||(p::q::r).all λt=>!t.isEmpty
 |_=>false
noncomputable def cW(xs:List D):R D:=cm (tups? xs) λts=>if fh ts then .ok (.lst ((zA ts).map gq))else .no
noncomputable def dq(mx:Bool)(i:Int):List Int->Int
 | []=>i
 |j::r=>dq mx (if mx then (if i<j then j else i)else (if j<i then j else i)) r
noncomputable def lens?:List D->Option (List Int)
 | []=>some []
 |x::r=>(seq? x).bind λxs=>(lens? r).map ((xs.length:Int) :: ·)
noncomputable def pickK(n:Int):List D->List Int->R D
 |d::ds,m::ms=>if m=n then .ok d else pickK n ds ms
 |_,_=>.no
noncomputable def fo(mx:Bool)(x:D):R D:=cY x λxs=>cm (lens? xs) λns=>match ns with
 | []=>.no
 |i::r=>pickK (dq mx i r) xs ns
noncomputable def DX(x:D):R D:=match x with | .int i=>.ok (.int (Builtin.Int.intBits i))|_=>.no
noncomputable def gx(x:D):R D:=cY x λxs=>if xs.isEmpty then .ok .non else fo false x
noncomputable def b11(b:B1)(d:D):R D:=match b with
 | .len=>cm (seq? d) λxs=>.ok (.int xs.length)
 | .tuple=>cm (seq? d) λxs=>.ok (.tup xs)
 | .list=>.no
 | .all=>cY d λxs=>cm (bools? xs) λbs=>.ok (.bl (bs.all id))
 | .any=>cY d λxs=>cm (bools? xs) λbs=>.ok (.bl (bs.any id))
 | .sorted=>match d with
  | .tup xs=>if xs.length<64 then cm (ints? xs) λns=>.ok (.lst ((sortI ns).map D.int))else .no
  |d=>cY d λxs=>if xs.length<64 then (match ints? xs with
   |some ns=>.ok (.lst ((sortI ns).map D.int))
   |none=>match pairs? xs with
    |some ps=>.ok (.lst ((zK ps).map pairD))
    |none=>cW xs)else cW xs
 | .abs=>.no
 | .int=>.no
 | .bool=>.no
 | .min=>.no
 | .max=>.no
 | .sum=>.no
noncomputable def b12(b:B1)(d e:D):R D:=match b with
 | .min=>iiR d e λi j=>.ok (.int (if j<i then j else i))
 | .max=>iiR d e λi j=>.ok (.int (if j>i then j else i))
 |_=>.no
noncomputable def uq{α:Type} [DecidableEq α]:List α->List α
 | []=>[]
 |a::l=>if a∈l then uq l else a::uq l
noncomputable def one?:D->Option (List D)
 | .tup xs=>some xs
 |_=>none
noncomputable def iz(ln:Bool)(d:D):R D:=cm (one? d) λxs=>if xs.length<64 then (match ints? xs with
 |some ns=>if ln then .no else .ok (.lst ((sortI (uq ns)).map D.int))
 |none=>.no)else .no
noncomputable def b1(b:B1):List D->R D
 | [d]=>b11 b d
 | [d,e]=>b12 b d e
 |_=>.no
noncomputable def tyD:D->Option String
 | .non=>some "NoneType"
 | .bl _=>some "bool"
 | .int _=>some "int"
 | .str _=>some "str"
 | .tup _=>some "tuple"
 | .lst _=>some "list"
 | .dic=>some "dict"
 |_=>none
noncomputable def zt(lo:Int)(n:Nat):List D:=(bu n).map λ(i:Nat)=>.int (lo+(i:Int))
noncomputable def dC:Nat->List D->List D
 |_,[]=>[]
 |k,x::r=>.tup [.int k,x]::dC (k+1) r
noncomputable def ck:List D->List D->List D
 |x::xs,y::ys=>.tup [x,y]::ck xs ys
 |_,_=>[]
noncomputable def qu(j:Int):Bool:=decide (-1000000<=j)&&decide (j<=1000000)
abbrev Env:=List (Option D)
structure W where
 call:Str->List D->R D
 glb:Str->Option D
 sub:Str->Cl->Option Bool
 cat:Str->Str->Bool
noncomputable def cF(w:W)(x:D)(c:Cl):R D:=match tyD x,c with
 |some t,.ty n=>if n = "ValueError" then .no else .ok (.bl (gj t n))
 |_,_=>.no
noncomputable def zF(τ:Env)(i:Nat):R D:=match τ[i]? with
 |some (some d)=>.ok d
 |_=>.no
noncomputable def setAll:List Nat->List D->Env->R Env
 | [],[],τ=>.ok τ
 |i::is,d::ds,τ=>setAll is ds (τ.set i (some d))
 |_,_,_=>.no
noncomputable def store:Tg->D->Env->R Env
 | .nm i,d,τ=>.ok (τ.set i (some d))
 | .tp is,.tup ds,τ=>if ds.length=is.length then setAll is ds τ else .no
 |_,_,_=>.no
noncomputable def zW(cap:List (Option Nat))(τ:Env):Env:=cap.map λo=>o.bind λj=>(τ[j]?).join
noncomputable def noEx{α:Type}:R α->R α
 | .ok a=>.ok a
 |_=>.no
noncomputable def zj(body:D->Env->R (Env×List D)):List D->Env->List D->R (List D)
 | [],_,acc=>.ok acc
 |x::r,τ,acc=>(body x τ).bind λp=>zj body r p.1 (acc++p.2)
noncomputable def zR(body:D->Env->R (Env×List D)):List D->Env->List D->R (Env×List D)
 | [],τ,acc=>.ok (τ,acc)
 |x::r,τ,acc=>(body x τ).bind λp=>zR body r p.1 (acc++p.2)
mutual
noncomputable def evE(w:W):E->Env->R D
 | .var i,τ=>zF τ i
 | .own i,τ=>zF τ i
 | .con d,_=>.ok d
 | .glb x,_=>match w.glb x with|some d=>.ok d|none=>.no
 | .fnv x,_=>.no
 | .op o a b,τ=>(evE w a τ).bind λx=>(evE w b τ).bind λy=>op2 o x y
 | .not a,τ=>(evE w a τ).bind λx=>match x with | .bl b=>.ok (.bl (!b))|_=>.no
 | .and a b,τ=>(evE w a τ).bind λx=>match x with | .bl true=>evE w b τ | .bl false=>.ok (.bl false)|_=>.no
 | .or a b,τ=>(evE w a τ).bind λx=>match x with | .bl true=>.ok (.bl true) | .bl false=>evE w b τ|_=>.no
 | .cmp c a b,τ=>(evE w a τ).bind λx=>(evE w b τ).bind λy=>(qi c x y).bind λr=>.ok (.bl r)
 | .cmp2 c c' a b d,τ=>(evE w a τ).bind λx=>(evE w b τ).bind λy=>(qi c x y).bind λr=>if r then (evE w d τ).bind λz=>(qi c' y z).bind λr'=>.ok (.bl r')else .ok (.bl false)
 | .cmp3 c c' c'' a b d e,τ=>(evE w a τ).bind λx=>(evE w b τ).bind λy=>(qi c x y).bind λr=>if r then (evE w d τ).bind λz=>(qi c' y z).bind λr'=>if r' then (evE w e τ).bind λu=>(qi c'' z u).bind λr''=>.ok (.bl r'')else .ok (.bl false)else .ok (.bl false)
 | .ite t a b,τ=>(evT w t τ).bind λr=>if r then evE w a τ else evE w b τ
 | .tup es,τ=>(zy w es τ).bind λds=>.ok (.tup ds)
 | .lst es,τ=>(zy w es τ).bind λds=>.ok (.lst ds)
 | .ix a b,τ=>(evE w a τ).bind λx=>(evE w b τ).bind λy=>ixD x y
 | .sl a lo hi,τ=>(evE w a τ).bind λx=>(evO w lo τ).bind λl=>(evO w hi τ).bind λh=>slD x l h
 | .call f es,τ=>(zy w es τ).bind λds=>w.call f ds
 | .bi b es,τ=>(zy w es τ).bind λds=>b1 b ds
 | .rtup a,τ=>(evI w a τ).bind λds=>.ok (.tup ds)
 | .rlst a,τ=>(evI w a τ).bind λds=>.ok (.lst ds)
 | .isi a c,τ=>(evE w a τ).bind λx=>cF w x c
 | .comp it cap tg t elt,τ=>(evI w it τ).bind λds=>if SZ<ds.length then .no else (zj (λx σ=>noEx ((store tg x σ).bind λσ'=>(evT w t σ').bind λr=>if r then (evE w elt σ').bind λd=>.ok (σ',[d])else .ok (σ',[]))) ds (zW cap τ) []).bind λout=>.ok (.lst out)
 | .dic,_=>.ok .dic
 | .callo f es,τ=>(zy w es τ).bind λds=>(w.call f ds).bind λd=>if d.noL then .ok d else .no
 | .comp2 it cap tg it2 tg2 t elt,τ=>(evI w it τ).bind λds=>if 1000<ds.length then .no else (zj (λx σ=>noEx ((store tg x σ).bind λσ'=>(evI w it2 σ').bind λes=>if 1000<es.length then .no else zR (λy ρ=>(store tg2 y ρ).bind λρ'=>(evT w t ρ').bind λr=>if r then (evE w elt ρ').bind λd=>.ok (ρ',[d])else .ok (ρ',[])) es σ' [])) ds (zW cap τ) []).bind λout=>.ok (.lst out)
 | .sset ln a,τ=>(evE w a τ).bind (iz ln)
 | .mxd a,τ=>(evE w a τ).bind gx
noncomputable def evO(w:W):OE->Env->R (Option Int)
 | .none,_=>.ok none
 | .some e,τ=>(evE w e τ).bind λx=>match x with | .int i=>.ok (some i)|_=>.no
noncomputable def zy(w:W):Es->Env->R (List D)
 | .nil,_=>.ok []
 | .cons e es,τ=>(evE w e τ).bind λd=>(zy w es τ).bind λds=>.ok (d::ds)
noncomputable def evI(w:W):It->Env->R (List D)
 | .seq e,τ=>(evE w e τ).bind λx=>match seq? x with|some xs=>.ok xs|none=>.no
 | .rng a,τ=>(evE w a τ).bind λx=>match x with | .int j=>if qu j then .ok (zt 0 j.toNat)else .no|_=>.no
 | .rng2 a b,τ=>(evE w a τ).bind λx=>(evE w b τ).bind λy=>match x,y with | .int i,.int j=>if qu i&&qu j then .ok (zt i (j-i).toNat)else .no|_,_=>.no
 | .enum e,τ=>(evE w e τ).bind λx=>match x with | .lst xs=>.ok (dC 0 xs)|_=>.no
 | .zip a b,τ=>(evE w a τ).bind λx=>(evE w b τ).bind λy=>match x,y with
  | .tup xs,.tup ys=>if xs.length=ys.length then .ok (ck xs ys)else .no
  | .lst xs,.lst ys=>if xs.length=ys.length then .ok (ck xs ys)else .no
  |_,_=>.no
noncomputable def evT(w:W):T->Env->R Bool
 | .yes,_=>.ok true
 | .val e,τ=>(evE w e τ).bind λx=>truth x
 | .cmp c a b,τ=>(evE w a τ).bind λx=>(evE w b τ).bind λy=>qi c x y
 | .cmp2 c c' a b d,τ=>(evE w a τ).bind λx=>(evE w b τ).bind λy=>(qi c x y).bind λr=>if r then (evE w d τ).bind λz=>qi c' y z else .ok false
 | .and a b,τ=>(evT w a τ).bind λr=>if r then evT w b τ else .ok false
 | .or a b,τ=>(evT w a τ).bind λr=>if r then .ok true else evT w b τ
 | .not a,τ=>(evT w a τ).bind λr=>.ok (!r)
end
theorem qY:∀{w i τ},@Eq (R D) (evE w (.var i) τ) (zF τ i):=rfl
theorem zc:∀{w i τ},@Eq (R D) (evE w (.own i) τ) (zF τ i):=rfl
theorem zb:∀{w d τ},@Eq (R D) (evE w (.con d) τ) (.ok d):=rfl
theorem zg:∀{w x τ},@Eq (R D) (evE w (.glb x) τ) (match w.glb x with|some d=>.ok d|none=>.no):=rfl
theorem zf:∀{w x τ},@Eq (R D) (evE w (.fnv x) τ) (.no):=rfl
theorem za:∀{w o a b τ},@Eq (R D) (evE w (.op o a b) τ) ((evE w a τ).bind λx=>(evE w b τ).bind λy=>op2 o x y):=rfl
theorem ze:∀{w a τ},@Eq (R D) (evE w (.not a) τ) ((evE w a τ).bind λx=>match x with | .bl b=>.ok (.bl (!b))|_=>.no):=rfl
theorem qF:∀{w a b τ},@Eq (R D) (evE w (.and a b) τ) ((evE w a τ).bind λx=>match x with | .bl true=>evE w b τ | .bl false=>.ok (.bl false)|_=>.no):=rfl
theorem qJ:∀{w a b τ},@Eq (R D) (evE w (.or a b) τ) ((evE w a τ).bind λx=>match x with | .bl true=>.ok (.bl true) | .bl false=>evE w b τ|_=>.no):=rfl
theorem qG:∀{w c a b τ},@Eq (R D) (evE w (.cmp c a b) τ) ((evE w a τ).bind λx=>(evE w b τ).bind λy=>(qi c x y).bind λr=>.ok (.bl r)):=rfl
theorem qQ:∀{w c c' a b d τ},@Eq (R D) (evE w (.cmp2 c c' a b d) τ) ((evE w a τ).bind λx=>(evE w b τ).bind λy=>(qi c x y).bind λr=>if r then (evE w d τ).bind λz=>(qi c' y z).bind λr'=>.ok (.bl r')else .ok (.bl false)):=rfl
theorem qM:∀{w c c' c'' a b d e τ},@Eq (R D) (evE w (.cmp3 c c' c'' a b d e) τ) ((evE w a τ).bind λx=>(evE w b τ).bind λy=>(qi c x y).bind λr=>if r then (evE w d τ).bind λz=>(qi c' y z).bind λr'=>if r' then (evE w e τ).bind λu=>(qi c'' z u).bind λr''=>.ok (.bl r'')else .ok (.bl false)else .ok (.bl false)):=rfl
theorem qx:∀{w t a b τ},@Eq (R D) (evE w (.ite t a b) τ) ((evT w t τ).bind λr=>if r then evE w a τ else evE w b τ):=rfl
theorem qC:∀{w es τ},@Eq (R D) (evE w (.tup es) τ) ((zy w es τ).bind λds=>.ok (.tup ds)):=rfl
theorem qK:∀{w es τ},@Eq (R D) (evE w (.lst es) τ) ((zy w es τ).bind λds=>.ok (.lst ds)):=rfl
theorem qB:∀{w a b τ},@Eq (R D) (evE w (.ix a b) τ) ((evE w a τ).bind λx=>(evE w b τ).bind λy=>ixD x y):=rfl
theorem qN:∀{w a lo hi τ},@Eq (R D) (evE w (.sl a lo hi) τ) ((evE w a τ).bind λx=>(evO w lo τ).bind λl=>(evO w hi τ).bind λh=>slD x l h):=rfl
theorem qD:∀{w f es τ},@Eq (R D) (evE w (.call f es) τ) ((zy w es τ).bind λds=>w.call f ds):=rfl
theorem qz:∀{w b es τ},@Eq (R D) (evE w (.bi b es) τ) ((zy w es τ).bind λds=>b1 b ds):=rfl
theorem qP:∀{w a τ},@Eq (R D) (evE w (.rtup a) τ) ((evI w a τ).bind λds=>.ok (.tup ds)):=rfl
theorem qT:∀{w a τ},@Eq (R D) (evE w (.rlst a) τ) ((evI w a τ).bind λds=>.ok (.lst ds)):=rfl
theorem qE:∀{w a c τ},@Eq (R D) (evE w (.isi a c) τ) ((evE w a τ).bind λx=>cF w x c):=rfl
theorem qA:∀{w it cap tg t elt τ},@Eq (R D) (evE w (.comp it cap tg t elt) τ) ((evI w it τ).bind λds=>if SZ<ds.length then .no else (zj (λx σ=>noEx ((store tg x σ).bind λσ'=>(evT w t σ').bind λr=>if r then (evE w elt σ').bind λd=>.ok (σ',[d])else .ok (σ',[]))) ds (zW cap τ) []).bind λout=>.ok (.lst out)):=rfl
theorem qS:∀{w τ},@Eq (R D) (evE w (.dic) τ) (.ok .dic):=rfl
theorem qL:∀{w f es τ},@Eq (R D) (evE w (.callo f es) τ) ((zy w es τ).bind λds=>(w.call f ds).bind λd=>if d.noL then .ok d else .no):=rfl
theorem qH:∀{w it cap tg it2 tg2 t elt τ},@Eq (R D) (evE w (.comp2 it cap tg it2 tg2 t elt) τ) ((evI w it τ).bind λds=>if 1000<ds.length then .no else (zj (λx σ=>noEx ((store tg x σ).bind λσ'=>(evI w it2 σ').bind λes=>if 1000<es.length then .no else zR (λy ρ=>(store tg2 y ρ).bind λρ'=>(evT w t ρ').bind λr=>if r then (evE w elt ρ').bind λd=>.ok (ρ',[d])else .ok (ρ',[])) es σ' [])) ds (zW cap τ) []).bind λout=>.ok (.lst out)):=rfl
theorem qO:∀{w ln a τ},@Eq (R D) (evE w (.sset ln a) τ) ((evE w a τ).bind (iz ln)):=rfl
theorem qI:∀{w a τ},@Eq (R D) (evE w (.mxd a) τ) ((evE w a τ).bind gx):=rfl
theorem e_:∀{w τ},@Eq (R Bool) (evT w (.yes) τ) (.ok true):=rfl
theorem eG:∀{w e τ},@Eq (R Bool) (evT w (.val e) τ) ((evE w e τ).bind λx=>truth x):=rfl
theorem eK:∀{w c a b τ},@Eq (R Bool) (evT w (.cmp c a b) τ) ((evE w a τ).bind λx=>(evE w b τ).bind λy=>qi c x y):=rfl
theorem ff:∀{w c c' a b d τ},@Eq (R Bool) (evT w (.cmp2 c c' a b d) τ) ((evE w a τ).bind λx=>(evE w b τ).bind λy=>(qi c x y).bind λr=>if r then (evE w d τ).bind λz=>qi c' y z else .ok false):=rfl
theorem eX:∀{w a b τ},@Eq (R Bool) (evT w (.and a b) τ) ((evT w a τ).bind λr=>if r then evT w b τ else .ok false):=rfl
theorem fb:∀{w a b τ},@Eq (R Bool) (evT w (.or a b) τ) ((evT w a τ).bind λr=>if r then .ok true else evT w b τ):=rfl
theorem fc:∀{w a τ},@Eq (R Bool) (evT w (.not a) τ) ((evT w a τ).bind λr=>.ok (!r)):=rfl
mutual
inductive S where
 |set (tg:Tg) (e:E)
 |app (i:Nat) (e:E)
 |seti (i:Nat) (k e:E)
 |exp (e:E)
 |ret (e:E)|retN
 |ite (t:T) (a b:Ss)
 |for (tg:Tg) (it:It) (b:Ss)
 |while (t:T) (b:Ss)
 |raise (c:Str) (es:Es)
 |try (b:Ss) (c:Str) (i:Option Nat) (h:Ss)
 |ins (i:Nat) (k e:E)
 |pass|brk|cnt|unk
inductive Ss where
 |nil|cons (s:S) (r:Ss)
end
inductive O where
 |nx (τ:Env)|rt (d:D)|bk (τ:Env)|ct (τ:Env)|ex (c:Str)|no
noncomputable def R.out{α:Type}:R α->(α->O)->O
 | .ok a,f=>f a
 | .ex c,_=>.ex c
 | .no,_=>.no
@[simp] theorem R.out_ok{α:Type}(a:α)(f:α->O):(R.ok a).out f=f a:=rfl
@[simp] theorem R.out_ex{α:Type}(c:Str)(f:α->O):(R.ex c:R α).out f=.ex c:=rfl
@[simp] theorem R.out_no{α:Type}(f:α->O):(R.no:R α).out f=.no:=rfl
noncomputable def zY(tg:Tg)(body:Env->O):List D->Env->O
 | [],τ=>.nx τ
 |x::r,τ=>(store tg x τ).out λτ'=>match body τ' with
  | .nx σ=>zY tg body r σ
  | .ct σ=>zY tg body r σ
  | .bk σ=>.nx σ
  |o=>o
noncomputable def O.noEx:O->O
 | .ex _=>.no
 |o=>o
noncomputable def iA(x n d:D)(i:Nat)(τ:Env):O:=match x with
 | .lst xs=>(match n with
  | .int j=>if 0<=j/\j<=xs.length/\xs.length<SZ then .nx (τ.set i (some (.lst (xs.take j.toNat++d::xs.drop j.toNat))))else .no
  |_=>.no)
 |_=>.no
mutual
noncomputable def evS(w:W):S->Env->O
 | .set tg e,τ=>(evE w e τ).out λd=>(store tg d τ).out .nx
 | .app i e,τ=>(zF τ i).out λx=>(evE w e τ).out λd=>match x with
  | .lst xs=>if xs.length<SZ then .nx (τ.set i (some (.lst (xs++[d]))))else .no
  |_=>.no
 | .seti i k e,τ=>(evE w e τ).out λd=>(zF τ i).out λx=>(evE w k τ).out λn=>match x,n with
  | .lst xs,.int j=>match ixN xs.length j with
   |some m=>.nx (τ.set i (some (.lst (xs.set m d))))
   |none=>.no
  |_,_=>.no
 | .exp e,τ=>(evE w e τ).out λ_=>.nx τ
 | .ret e,τ=>(evE w e τ).out .rt
 | .retN,_=>.rt .non
 | .ite t a b,τ=>(evT w t τ).out λr=>if r then qm w a τ else qm w b τ
 | .for tg it b,τ=>((evI w it τ).out λds=>zY tg (λσ=>qm w b σ) ds τ).noEx
 | .while t b,_=>.no
 | .raise c es,_=>.no
 | .try b c i h,_=>.no
 | .ins i k e,τ=>(zF τ i).out λx=>(evE w k τ).out λn=>(evE w e τ).out λd=>iA x n d i τ
 | .unk,_=>.no
 | .pass,τ=>.nx τ
 | .brk,τ=>.bk τ
 | .cnt,τ=>.ct τ
noncomputable def qm(w:W):Ss->Env->O
 | .nil,τ=>.nx τ
 | .cons s r,τ=>match evS w s τ with
  | .nx σ=>qm w r σ
  |o=>o
end
theorem cN:∀{w tg e τ},@Eq (O) (evS w (.set tg e) τ) ((evE w e τ).out λd=>(store tg d τ).out .nx):=rfl
theorem de:∀{w i e τ},@Eq (O) (evS w (.app i e) τ) ((zF τ i).out λx=>(evE w e τ).out λd=>match x with
  | .lst xs=>if xs.length<SZ then .nx (τ.set i (some (.lst (xs++[d]))))else .no
  |_=>.no):=rfl
theorem dv:∀{w i k e τ},@Eq (O) (evS w (.seti i k e) τ) ((evE w e τ).out λd=>(zF τ i).out λx=>(evE w k τ).out λn=>match x,n with
  | .lst xs,.int j=>match ixN xs.length j with
   |some m=>.nx (τ.set i (some (.lst (xs.set m d))))
   |none=>.no
  |_,_=>.no):=rfl
theorem dD:∀{w e τ},@Eq (O) (evS w (.exp e) τ) ((evE w e τ).out λ_=>.nx τ):=rfl
theorem zQ:∀{w e τ},@Eq (O) (evS w (.ret e) τ) ((evE w e τ).out .rt):=rfl
theorem dE:∀{w τ},@Eq (O) (evS w (.retN) τ) (.rt .non):=rfl
theorem dw:∀{w t a b τ},@Eq (O) (evS w (.ite t a b) τ) ((evT w t τ).out λr=>if r then qm w a τ else qm w b τ):=rfl
theorem cR:∀{w tg it b τ},@Eq (O) (evS w (.for tg it b) τ) (((evI w it τ).out λds=>zY tg (λσ=>qm w b σ) ds τ).noEx):=rfl
theorem dN:∀{w t b τ},@Eq (O) (evS w (.while t b) τ) (.no):=rfl
theorem dz:∀{w c es τ},@Eq (O) (evS w (.raise c es) τ) (.no):=rfl
theorem dW:∀{w b c i h τ},@Eq (O) (evS w (.try b c i h) τ) (.no):=rfl
theorem dH:∀{w i k e τ},@Eq (O) (evS w (.ins i k e) τ) ((zF τ i).out λx=>(evE w k τ).out λn=>(evE w e τ).out λd=>iA x n d i τ):=rfl
theorem ee:∀{w τ},@Eq (O) (evS w (.unk) τ) (.no):=rfl
theorem dM:∀{w τ},@Eq (O) (evS w (.pass) τ) (.nx τ):=rfl
theorem dX:∀{w τ},@Eq (O) (evS w (.brk) τ) (.bk τ):=rfl
theorem dQ:∀{w τ},@Eq (O) (evS w (.cnt) τ) (.ct τ):=rfl
structure Fn where
 ps:Nat
 N:Nat
 fr:Bool
 body:Ss
noncomputable def cX(w:W)(f:Fn)(ds:List D):R D:=if ds.length=f.ps then (match qm w f.body (ds.map some++b6 (f.N-f.ps) none)with
  | .nx _=>if f.fr then .no else .ok .non
  | .rt d=>.ok d
  | .ex c=>.ex c
  |_=>.no)else .no
structure Pr where
 fns:Str->Option Fn
 glb:Str->Option D
 sub:Str->Cl->Option Bool
 cat:Str->Str->Bool
noncomputable def qe(p:Pr):Nat->Str->List D->R D
 | 0,_,_=>.no
 |k+1,x,ds=>match p.fns x with
  |some f=>cX ⟨qe p k,p.glb,p.sub,p.cat⟩ f ds
  |none=>.no
inductive GK where
  |fn (fresh:Bool)|val|bi (b:B1)|rng|enum|zip|isi|ty (n:String) (b:Option B1)|exc|exk|set
  deriving DecidableEq
structure Cc where
  nm:List (Str×aY)
  N:List Str
  own:List Str
  G:List (Str×GK)
  calm:Bool
  fnc:Bool
  thr:Bool
  GH:List (Str×GK)
  oc:List Str
  frz:Bool
noncomputable def loc(c:Cc)(x:Str):Option Nat:=
  if x == "__debug__" ||x == "__classdict__" then none else
  match c.nm.lookup x with
  |some .local|some .cell|some .free=>let i:=c.N.findIdx (· == x);if c.N[i]? = some x then some i else none
  |_=>none
noncomputable def dJ(c:Cc)(x:Str):Option Nat:=
  match c.nm.lookup x with
  |some .local=>loc c x
  |some .cell=>if c.fnc||c.oc.contains x then loc c x else none
  |_=>none
noncomputable def glob(c:Cc)(x:Str):Option GK:=
  if x == "__debug__" ||x == "__name__" then none else
  match c.nm.lookup x with
  |some .globalImplicit=>c.G.lookup x
  |_=>none
noncomputable def esc:E->Bool
  | .own _=>false
  |_=>true
noncomputable def ey:Es->Bool
  | .nil=>true
  | .cons e es=>esc e&&ey es
noncomputable def isL:E->Bool
  | .lst _=>true
  | .rlst _=>true
  | .comp .. => true
  |_=>false
noncomputable def tG:O2->Bool
  | .add=>true
  | .mul=>true
  |_=>false
noncomputable def fresh(c:Cc):E->Bool
  | .op o a b=>tG o&&isL a||o==.add&&isL b
  | .lst _=>true
  | .rlst _=>true
  | .comp .. => true
  | .comp2 .. => true
  | .bi .list _=>true
  | .bi .sorted _=>true
  | .call f _=>c.G.lookup f==some (.fn true)
  |_=>false
noncomputable def o2:Operator->Option O2
  | .Add=>some .add
  | .Sub=>some .sub
  | .Mult=>some .mul
  | .FloorDiv=>some .fdiv
  | .Mod=>some .mod
  | .RShift=>some .shr
  |_=>none
noncomputable def c2:CmpOp->C2
  | .Eq=>.eq
  | .NotEq=>.ne
  | .Lt=>.lt
  | .LtE=>.le
  | .Gt=>.gt
  | .GtE=>.ge
  | .Is=>.is
  | .IsNot=>.isnot
  | .In=>.isin
  | .NotIn=>.notin
noncomputable def eN:Expr->Bool
  | .ListComp .. => true
  | .SetComp .. => true
  | .DictComp .. => true
  |_=>false
noncomputable def qR:Expr->Bool
  | .Set .. => false
  |_=>true
noncomputable def gK(names nm:List (Str×aY)):List (Str×aY):=names.map λ(n,k)=>if k==b7&&(nm.lookup n==some .cell)then (n,aY.cell)else (n,k)
noncomputable def zk(names:List (Str×aY)):List Str:=(names.filter λp=>p.2==.local||p.2==.free||p.2==.cell).map (·.1)
noncomputable def dZ(c:Cc)(names:List (Str×aY)):List (Option Nat):=(zk names).map λx=>if names.lookup x==some .free then loc c x else none
noncomputable def gy:List Expr->Option (List Str)
  | []=>some []
  | .Name x _::r=>(gy r).map (x :: ·)
  |_=>none
noncomputable def cTg(c:Cc):Expr->Option Tg
  | .Name x _=>if c.own.contains x then none else (dJ c x).map .nm
  | .Tuple es _ _=>if c.calm then do
      let xs <-gy es
      if xs.any c.own.contains then none else
      let is <-xs.mapM (dJ c)
      if is.Nodup then some (.tp is)else none
    else none
  |_=>none
noncomputable def isStar:Expr->Bool
  | .Starred .. => true
  |_=>false
noncomputable def isSlice:Expr->Bool
  | .Slice .. => true
  |_=>false
noncomputable def isTup:Expr->Bool
  | .Tuple .. => true
  |_=>false
noncomputable def eC(it:It)(tg:Expr):Bool:=match it with
  | .enum _=>isTup tg
  | .zip .. => isTup tg
  |_=>true
noncomputable def iQ(c:Cc):Expr->Option Cl
  | .Name x _=>match glob c x with
    |some (.ty n _)=>some (.ty n)
    |some .exc=>some (.ex x)
    |some .exk=>some (.ex x)
    |_=>none
  |_=>none
noncomputable def vr(c:Cc)(x:Str)(i:Nat):E:=if c.own.contains x then .own i else .var i
noncomputable def baseOk:Expr->Bool
  | .Call (.Name _ _) (_::_) _ _=>true
  | .Name .. => true
  |_=>false
noncomputable def owned:It->Bool
  | .seq (.own _)=>true
  | .enum (.own _)=>true
  | .zip (.own _) _=>true
  | .zip _ (.own _)=>true
  |_=>false
noncomputable def lO:Expr->Option Str
  | .Constant k _ _=>match k with
    | .str t=>some t
    |_=>none
  |_=>none
noncomputable def m8:Expr->Option Expr
  | .FormattedValue a k f _=>match f with
    |none=>if k = -1 then some a else none
    |_=>none
  |_=>none
noncomputable def DZ:List Expr->Option (Str×Expr×Str×Expr×Str)
  | [x0,x1,x2,x3,x4]=>do
    let t0 <-lO x0
    let a <-m8 x1
    let t1 <-lO x2
    let b <-m8 x3
    let t2 <-lO x4
    if (Str.empty++t0).length<=1000 then some (t0,a,t1,b,t2)else none
  |_=>none
noncomputable def lu(c:Cc)(b:B1):List Expr->Option Expr
  | [.Call (.Name g _) [a] [] _]=>if (b==.sorted)&&loc c g==none&&glob c g==some .set && !isStar a&&c.calm then some a else none
  |_=>none
noncomputable def my(e:Expr):Bool:=match e with
  | .Constant k _ _=>match k with
    | .none=>true
    |_=>false
  |_=>false
noncomputable def jQ(e:Expr):Option Str:=match e with
  | .Name y _=>some y
  |_=>none
noncomputable def kP(c:Cc)(fe:Expr)(ks:List Keyword)(as:List Expr):Option Expr:=match as with
  |a::r=>if r.isEmpty && !isStar a&&c.calm then (match jQ fe with
    |some f=>if loc c f==none&&glob c f==some (.bi .min)then (match ks with
      |k1::r=>match r with
        |k2::r=>if r.isEmpty&&k1.arg==some "key" && k2.arg==some "default" && my k2.value then (match jQ k1.value with
          |some y=>if loc c y==none&&glob c y==some (.bi .len)then some a else none
          |none=>none)else none
        | []=>none
      | []=>none)else none
    |none=>none)else none
  | []=>none
noncomputable def fO:Expr->Bool
  | .ListComp _ gs _ _=>gs.length==2
  |_=>false
mutual
noncomputable def cE:Nat->Cc->Expr->Option E
  | 0,_,_=>none
  |n+1,c,e=>match e with
    | .Name x _=>match loc c x with
      |some i=>if c.own.contains x then some (.own i)else some (.var i)
      |none=>match glob c x with
        |some .val=>some (.glb x)
        |some (.fn _)=>some (.fnv x)
        |_=>none
    | .Constant k _ _=>match k with
      | .int i=>some (.con (.int i))
      | .bool i=>some (.con (.bl i))
      | .none=>some (.con .non)
      | .str x=>some (.con (.str x))
      |_=>none
    | .BinOp a op b _=>do
      let o <-o2 op
      let a <-cE n c a
      let b <-cE n c b
      some (.op o a b)
    | .UnaryOp op a _=>do
      let a <-cE n c a
      match op with
      | .Not=>some (.not a)
      |_=>none
    | .BoolOp op vs _=>cBo n c op vs
    | .Compare a ops bs _=>match ops,bs with
      | [o],[b]=>do
        let a <-cE n c a
        let b' <-cE n c b
        if qR b then some (.cmp (c2 o) a b')else none
      | [o,o'],[b,d]=>do
        let a <-cE n c a
        let b' <-cE n c b
        let d' <-cE n c d
        if qR b&&qR d then some (.cmp2 (c2 o) (c2 o') a b' d')else none
      | [o,o',o''],[b,d,f]=>do
        let a <-cE n c a
        let b' <-cE n c b
        let d' <-cE n c d
        let f' <-cE n c f
        if qR b&&qR d&&qR f then some (.cmp3 (c2 o) (c2 o') (c2 o'') a b' d' f')else none
      |_,_=>none
    | .IfExp t a b _=>do
      let t <-cT n c t
      let a <-cE n c a
      let b <-cE n c b
      if esc a&&esc b then some (.ite t a b)else none
    | .Tuple es _ _=>do
      let es <-cEs n c es
      if ey es then some (.tup es)else none
    | .List es _=>do
      let es <-cEs n c es
      if ey es then some (.lst es)else none
    | .Subscript a b _=>match b with
      | .Slice lo hi st _=>match st with
        |some _=>none
        |none=>do
          let a <-cE n c a
          let lo <-cO n c lo
          let hi <-cO n c hi
          some (.sl a lo hi)
      |b=>do
        if isSlice b then none else
        let a <-cE n c a
        let b <-cE n c b
        some (.ix a b)
    | .ListComp elt gs sc _=>match gs with
     | [⟨tgt,it,ifs,asy⟩]=>do
      if !(asy==0) || !c.calm || !qR it then none else
      let c':Cc:={c with nm:=gK sc.names c.nm,N:=zk sc.names,fnc:=false,oc:=fV sc.names}
      let cap:=dZ c sc.names
      if !eV (λx=>c.nm.lookup x) c.N (zk sc.names) cap sc || !decide (zk sc.names).Nodup then none else
      let it <-cI n c it
      let tg <-cTg c' tgt
      let t <-eE n c' ifs
      let elt <-cE n c' elt
      if esc elt&&eC it tgt then some (.comp it cap tg t elt)else none
     | [⟨tgt,it,ifs,asy⟩,⟨tgt2,it2,ifs2,asy2⟩]=>do
      if !(asy==0) || !(asy2==0) || !ifs.isEmpty || !c.calm || !qR it || !qR it2 then none else
      let c':Cc:={c with nm:=gK sc.names c.nm,N:=zk sc.names,fnc:=false,oc:=fV sc.names}
      let cap:=dZ c sc.names
      if !eV (λx=>c.nm.lookup x) c.N (zk sc.names) cap sc || !decide (zk sc.names).Nodup then none else
      let it <-cI n c it
      let tg <-cTg c' tgt
      let i2 <-cI n c' it2
      let tg2 <-cTg c' tgt2
      let t <-eE n c' ifs2
      let elt <-cE n c' elt
      if esc elt&&eC it tgt&&eC i2 tgt2 && !owned i2 then some (.comp2 it cap tg i2 tg2 t elt)else none
     |_=>none
    | .Call fe as ks cp=>match ks with
     | []=>match fe with
      | .Name f _=>match loc c f with
        |some _=>none
        |none=>match glob c f with
          |some (.fn _)=>do
            let es <-cEs n c as
            if ey es && !as.isEmpty then some (.call f es)else if !as.isEmpty then some (.callo f es)else none
          |some (.bi b)=>match lu c b as with
            |some a=>(cE n c a).map (.sset (b==.len))
            |none=>do
              let es <-cEs n c as
              if !as.isEmpty&&(c.calm||b==.len||b==.abs)then some (.bi b es)else none
          |some (.ty t (some b))=>match as with
            | [.Call (.Name g p) as' [] q]=>if loc c g==none&&glob c g==some .rng then (if c.calm&&(t == "tuple" ||t == "list")then (match as' with
                | [a]=>if isStar a then none else do
                  let a <-cE n c a
                  some (if t = "tuple" then .rtup (.rng a)else .rlst (.rng a))
                |_=>none)
                else none)
              else do
                let es <-cEs n c as
                some (.bi b es)
            |_=>do
              let es <-cEs n c as
              if !as.isEmpty then some (.bi b es)else none
          |some .isi=>match as with
            | [a,k]=>do
              if isStar a then none else
              let a <-cE n c a
              let k <-iQ c k
              some (.isi a k)
            |_=>none
          |_=>none
      |_=>none
     |ks=>match kP c fe ks as with
      |some a=>(cE n c a).map .mxd
      |none=>none
    |_=>none
noncomputable def eE:Nat->Cc->List Expr->Option T
  | 0,_,_=>none
  |n+1,c,ifs=>match ifs with
    | []=>some .yes
    | [t]=>cT n c t
    |_=>none
noncomputable def cBo:Nat->Cc->BoolOp->List Expr->Option E
  | 0,_,_,_=>none
  |n+1,c,op,vs=>match vs with
    | []=>none
    | [a]=>do
      let a <-cE n c a
      if esc a then some a else none
    |a::b::r=>do
      let a <-cE n c a
      let r <-cBo n c op (b::r)
      match op with
      | .And=>some (.and a r)
      | .Or=>some (.or a r)
noncomputable def cO:Nat->Cc->Option Expr->Option OE
  | 0,_,_=>none
  |n+1,c,o=>match o with
    |none=>some .none
    |some e=>(cE n c e).map .some
noncomputable def cEs:Nat->Cc->List Expr->Option Es
  | 0,_,_=>none
  |n+1,c,es=>match es with
    | []=>some .nil
    |e::r=>do
      if isStar e then none else
      let e <-cE n c e
      let r <-cEs n c r
      some (.cons e r)
noncomputable def cI:Nat->Cc->Expr->Option It
  | 0,_,_=>none
  |n+1,c,e=>match e with
    | .Call (.Name f p) as [] q=>match loc c f with
      |some _=>(cE n c (.Call (.Name f p) as [] q)).map .seq
      |none=>match glob c f with
        |some .rng=>(match as with
          | [a]=>if isStar a then none else (cE n c a).map .rng
          | [a,b]=>if isStar a||isStar b then none else do
            let a <-cE n c a
            let b <-cE n c b
            some (.rng2 a b)
          |_=>none)
        |some .enum=>(match as with
          | [a]=>if isStar a then none else (cE n c a).map .enum
          |_=>none)
        |some .zip=>(match as with
          | [a,b]=>if isStar a||isStar b then none else do
            let a <-cE n c a
            let b <-cE n c b
            some (.zip a b)
          |_=>none)
        |_=>(cE n c (.Call (.Name f p) as [] q)).map .seq
    |e=>(cE n c e).map .seq
noncomputable def cT:Nat->Cc->Expr->Option T
  | 0,_,_=>none
  |n+1,c,e=>match e with
    | .UnaryOp .Not a _=>(cT n c a).map .not
    | .BoolOp op vs _=>cTs n c op vs
    | .IfExp .. => none
    | .Compare a ops bs _=>match ops,bs with
      | [o],[b]=>do
        let a <-cE n c a
        let b' <-cE n c b
        if qR b then some (.cmp (c2 o) a b')else none
      | [o,o'],[b,d]=>do
        let a <-cE n c a
        let b' <-cE n c b
        let d' <-cE n c d
        if qR b&&qR d then some (.cmp2 (c2 o) (c2 o') a b' d')else none
      | [o,o',o''],[b,d,f]=>do
        let a <-cE n c a
        let b' <-cE n c b
        let d' <-cE n c d
        let f' <-cE n c f
        if qR b&&qR d&&qR f then some (.val (.cmp3 (c2 o) (c2 o') (c2 o'') a b' d' f'))else none
      |_,_=>none
    |e=>(cE n c e).map .val
noncomputable def cTs:Nat->Cc->BoolOp->List Expr->Option T
  | 0,_,_,_=>none
  |n+1,c,op,vs=>match vs with
    | []=>none
    | [a]=>cT n c a
    |a::b::r=>do
      let a <-cT n c a
      let r <-cTs n c op (b::r)
      match op with
      | .And=>some (.and a r)
      | .Or=>some (.or a r)
end

noncomputable def lh:Expr->Option (Str×Str×Pos×Expr×Pos)
  | .Call f as ks cp=>match f with
    | .Attribute o m ap=>match o with
      | .Name x _=>match as with
        | [a]=>if ks.isEmpty then some (x,m,ap,a,cp)else none
        |_=>none
      |_=>none
    |_=>none
  |_=>none
noncomputable def jF:Expr->Option (Str×Pos×Expr×Expr×Pos)
  | .Call f as ks cp=>match f with
    | .Attribute o m ap=>match o with
      | .Name x _=>match as with
        | [k,a]=>if ks.isEmpty&&m == "insert" then some (x,ap,k,a,cp)else none
        |_=>none
      |_=>none
    |_=>none
  |_=>none
noncomputable def kQ:Expr->Bool
  | .Tuple es _ _=>es.all (foldedForSure 8)
  |_=>false
mutual
noncomputable def cS:Nat->Cc->Bool->Stmt->Option S
  | 0,_,_,_=>none
  |n+1,c,fr,s=>match s with
    | .Assign ts e _=>match ts with
      | [t]=>match t with
        | .Name x _=>do
          if fO e then none else
          let i <-dJ c x
          let e' <-cE n c e
          if c.own.contains x then (if fresh c e' && !c.frz then some (.set (.nm i) e')else none)else if esc e' then some (.set (.nm i) e')else none
        | .Tuple ts k p=>do
              let tg <-cTg c (.Tuple ts k p)
              let e' <-cE n c e
              if (isTup e && !kQ e)||eN e || !esc e' then none else some (.set tg e')
        | .Subscript a k _=>match a with
          | .Name x _=>do
            let i <-dJ c x
            let e' <-cE n c e
            let k' <-cE n c k
            if c.own.contains x&&esc e' && !isSlice k && !eN e && !c.frz then some (.seti i k' e')else none
          |_=>none
        |_=>none
      |_=>none
    | .Expr e _=>match jF e with
      |some (x,ap,k,a,cp)=>do
        let i <-dJ c x
        let k' <-cE n c k
        let a' <-cE n c a
        if c.own.contains x&&esc a' && !isStar k && !isStar a&&ap.endLine==cp.line && !c.frz then some (.ins i k' a')else none
      |none=>match lh e with
      |some (x,m,ap,a,cp)=>do
        let i <-dJ c x
        let a' <-cE n c a
        if m == "append" && c.own.contains x&&esc a' && !isStar a&&ap.endLine==cp.line && !c.frz then some (.app i a')else none
      |none=>do
        if eN e then none else
        let e' <-cE n c e
        some (.exp e')
    | .Return o _=>match o with
      |some e=>do
        let e' <-cE n c e
        if fr then (match e with
          | .Name y _=>if c.own.contains y then (loc c y).map (λi=>.ret (.own i))else none
          |_=>if fresh c e' then some (.ret e')else none)
        else some (.ret e')
      |none=>if fr then none else some .retN
    | .If t a b _=>do
      let t <-cT n c t
      let a <-cSs n c fr a
      let b <-cSs n c fr b
      some (.ite t a b)
    | .For tg it b els _=>do
      if !els.isEmpty || !c.calm || !qR it then none else
      let tg' <-cTg c tg
      let it <-cI n c it
      if !eC it tg then none else
      let b <-cSs n {c with frz:=c.frz||owned it} fr b
      some (.for tg' it b)
    | .Pass _=>some .pass
    | .Break _=>some .brk
    | .Continue _=>some .cnt
    |_=>none
noncomputable def cSs:Nat->Cc->Bool->List Stmt->Option Ss
  | 0,_,_,_=>none
  |n+1,c,fr,ss=>match ss with
    | []=>some .nil
    |s::r=>do
      let r <-cSs n c fr r
      some (.cons ((cS n c fr s).getD .unk) r)
end
noncomputable def noOwn(c:Cc):Cc:={c with own:=[],frz:=false}
noncomputable def jz(n:Nat)(c:Cc)(fr:Bool)(b:List Stmt):Option Ss:=cSs n c fr b
noncomputable def argNames(a:Arguments):List Str:=a.args.map (·.arg)
noncomputable def gG(a:Arguments)(sc:a8):List Str:=argNames a++((sc.names.filter λp=>p.2==.local||p.2==.cell).map (·.1)).filter λx=>!(argNames a).contains x
noncomputable def iX(N ps:List Str)(sc:a8):Bool:=
  sc.kind==.function && !sc.isCoroutine && !sc.isGenerator&&decide N.Nodup&&decide (N.take ps.length=ps)&&ps.all (λx=>sc.names.lookup x==some .local||sc.names.lookup x==some .cell)&&sc.names.all λy=>y.2 != .free
noncomputable def kE:Nat:=60
noncomputable def cFn(G GH:List (Str×GK))(own:List Str)(fr:Bool)(st:Stmt):Option Fn:=do
  let a:=zi st
  let sc:=qZ st
  let N:=gG a sc
  if !iX N (argNames a) sc||(argNames a).any own.contains then none else
  let b <-jz kE ⟨sc.names,N,own,G,true,true,false,GH,[],false⟩ fr (d_ st)
  some ⟨(argNames a).length,N.length,fr,b⟩
noncomputable def mF(GU:List (Str×GK))(own:List Str)(fr:Bool)(st:Stmt):Option Fn:=none
end EV

namespace EV
open PySem PySem.Spec PyProof.Rows L2
structure Gc where
 K:aB
 fnA:Str->Option Addr
 clA:Str->Option Addr
mutual
inductive Rep(g:Gc)(H:Hp):D->V->Prop
 |non:Rep g H .non .non
 |bl (b:Bool):Rep g H (.bl b) (.bl b)
 |int (i:Int):Rep g H (.int i) (.int i)
 |str (x:Str):Rep g H (.str x) (.str x)
 |tup {a:Addr}{xs:List V}{ds:List D}:SqT g.K H a xs->qk g H ds xs->Rep g H (.tup ds) (.ref a)
 |lst {a:Addr}{xs:List V}{ds:List D}:SqL g.K H a xs->qk g H ds xs->Rep g H (.lst ds) (.ref a)
 |fn {x:Str}{a:Addr}:g.fnA x=some a->Rep g H (.fn x) (.ref a)
 |exn {c:Str}{a C:Addr}:g.clA c=some C->H a=some (CB a (.ref C))->Rep g H (.exn c) (.ref a)
 |dic {a:Addr}:H a=some (.dK [])->Rep g H .dic (.ref a)
inductive qk(g:Gc)(H:Hp):List D->List V->Prop
 |nil:qk g H [] []
 |cons {d:D}{ds:List D}{x:V}{xs:List V}:Rep g H d x->qk g H ds xs->qk g H (d::ds) (x::xs)
end
theorem zu{K:aB}{H H':Hp}{a:Addr}{xs:List V}(e:qf H H')(h:SqT K H a xs):SqT K H' a xs:=by
 rcases h with (h|⟨o,h⟩)|h
 ·exact .inl (.inl (e _ _ h))
 ·exact .inl (.inr ⟨o,e _ _ h⟩)
 ·exact .inr h
section
variable{g:Gc}{H H':Hp}
theorem jy{a b:Bool}(h:(a&&b)=true):a=true/\b=true:=by rw[aU]at h;exact h
theorem Rep.mono(e:qf H H'){d:D}{v:V}(h:Rep g H d v):Rep g H' d v:=
 h.rec (motive_1:=λd v _=>Rep g H' d v) (motive_2:=λd v _=>qk g H' d v) .non .bl .int .str (λq _ r=>.tup (zu e q) r) (λq _ r=>.lst (e.seq q) r) .fn (λq r=>.exn q (e _ _ r)) (λq=>.dic (e _ _ q)) .nil (λ_ _ a b=>.cons a b)
theorem qk.mono(e:qf H H'){d:List D}{v:List V}(h:qk g H d v):qk g H' d v:=
 h.rec (motive_1:=λd v _=>Rep g H' d v) (motive_2:=λd v _=>qk g H' d v) .non .bl .int .str (λq _ r=>.tup (zu e q) r) (λq _ r=>.lst (e.seq q) r) .fn (λq r=>.exn q (e _ _ r)) (λq=>.dic (e _ _ q)) .nil (λ_ _ a b=>.cons a b)
theorem qk.length{ds:List D}:∀{vs:List V},qk g H ds vs->ds.length=vs.length:=by
 induction ds with
 |nil=>intro vs h;cases h;rfl
 |cons d ds ih=>intro vs h;cases h with|cons _ r=>exact congrArg (· + 1) (ih r)
theorem qk.get{ds:List D}:∀{vs:List V}{i:Nat}{d:D},qk g H ds vs->ds[i]? = some d->∃v,vs[i]? = some v/\Rep g H d v:=by
 induction ds with
 |nil=>intro vs i d h e;cases e
 |cons d ds ih=>
  intro vs i d' h e;cases h with
  |cons h t=>cases i with
   |zero=>cases e;exact⟨_,rfl,h⟩
   |succ i=>exact ih (i:=i) t e
theorem qk.append{ds:List D}:∀{es:List D}{vs us:List V},qk g H ds vs->qk g H es us->qk g H (ds++es) (vs++us):=by
 induction ds with
 |nil=>intro es vs us h s;cases h;exact s
 |cons d ds ih=>intro es vs us h s;cases h with|cons r t=>exact .cons r (ih t s)
theorem qk.take{ds:List D}:∀{vs:List V} (n:Nat),qk g H ds vs->qk g H (ds.take n) (vs.take n):=by
 induction ds with
 |nil=>intro vs n h;cases h;cases n<;>exact .nil
 |cons d ds ih=>intro vs n h;cases h with|cons r t=>cases n with
  |zero=>exact .nil
  |succ n=>exact .cons r (ih n t)
theorem qk.drop{ds:List D}:∀{vs:List V} (n:Nat),qk g H ds vs->qk g H (ds.drop n) (vs.drop n):=by
 induction ds with
 |nil=>intro vs n h;cases h;cases n<;>exact .nil
 |cons d ds ih=>intro vs n h;cases n with
  |zero=>exact h
  |succ n=>cases h with|cons r t=>exact ih n t
theorem qk.set{d:D}{v:V}(r:Rep g H d v){ds:List D}:∀{vs:List V} (i:Nat),qk g H ds vs->qk g H (ds.set i d) (vs.set i v):=by
 induction ds with
 |nil=>intro vs i h;cases h;exact .nil
 |cons d' ds ih=>intro vs i h;cases h with|cons q t=>cases i with
  |zero=>exact .cons r t
  |succ i=>exact .cons q (ih i t)
theorem qk.ints{ds:List D}:∀{vs:List V}{ns:List Int},qk g H ds vs->ints? ds=some ns->vs=ns.map V.int/\ds=ns.map D.int:=by
 induction ds with
 |nil=>intro vs ns h e;cases h;cases e;exact⟨rfl,rfl⟩
 |cons d ds ih=>
  intro vs ns h e;cases h with
  |cons h t=>cases d with
   |int i=>
    obtain⟨ms,e1,rfl⟩:=bB.mp (show (ints? ds).map (i :: ·)=some ns from e);obtain⟨h1,h2⟩:=ih t e1;cases h;exact⟨by rw[h1];rfl,by rw[h2];rfl⟩
   |_=>cases (show none=some ns from e)
theorem qk.bools{ds:List D}:∀{vs:List V}{ns:List Bool},qk g H ds vs->bools? ds=some ns->vs=ns.map V.bl:=by
 induction ds with
 |nil=>intro vs ns h e;cases h;cases e;rfl
 |cons d ds ih=>
  intro vs ns h e;cases h with
  |cons h t=>cases d with
   |bl i=>
    obtain⟨ms,e1,rfl⟩:=bB.mp (show (bools? ds).map (i :: ·)=some ns from e);have h1:=ih t e1;cases h;rw[h1];rfl
   |_=>cases (show none=some ns from e)
theorem qk.ofInts:∀(ns:List Int),qk g H (ns.map D.int) (ns.map V.int)
 | []=>.nil
 |i::r=>.cons (.int i) (qk.ofInts r)
end
structure Sh where
 o:Addr->Bool
 h:Addr->Bool
 z:L2.St
 y:Hp
noncomputable def hid(H:Hp)(S:Sh):Hp:=λb=>if S.h b=true then none else H b
noncomputable def zB(S:Sh)(a:Addr):Sh:=⟨S.o,λb=>S.h b||b==a,S.z,S.y⟩
theorem bG{H:Hp}{S:Sh}{b:Addr}{o:HO}:hid H S b=some o↔S.h b=false/\H b=some o:=by
 unfold hid;cases h:S.h b<;>simp
theorem zw{H:Hp}{S:Sh}:qf (hid H S) H:=λ_ _ h=>(bG.mp h).2
theorem qh{H H':Hp}{S:Sh}(e:qf H H'):qf (hid H S) (hid H' S):=λb o h=>bG.mpr ⟨(bG.mp h).1,e _ _ (bG.mp h).2⟩
noncomputable def Sub(S:Sh)(H:Hp):Prop:=∀a,(S.h a=true\/S.o a=true)->H a≠none
theorem Sub.same{S:Sh}{H H':Hp}(h:Sub S H)(e:qf H H'):Sub S H':=λa s n=>by
 cases q:H a with
 |none=>exact h a s q
 |some o=>rw[e _ _ q]at n;cases n
theorem Sub.free{S:Sh}{H:Hp}(h:Sub S H){p:Addr}(n:H p=none):S.h p=false:=by
 cases q:S.h p with
 |false=>rfl
 |true=>exact absurd n (h p (.inl q))
theorem Sub.freeO{S:Sh}{H:Hp}(h:Sub S H){p:Addr}(n:H p=none):S.o p=false:=by
 cases q:S.o p with
 |false=>rfl
 |true=>exact absurd n (h p (.inr q))
theorem qX{H:Hp}{p:Addr}{o:HO}(n:H p=none):qf H (upd H p o):=λb u h=>by
 rw[qt (λz=>by rw[z,n]at h;cases h)];exact h
theorem ou{H:Hp}{S:Sh}{p:Addr}{o:HO}(hs:Sub S H)(n:H p=none):hid (upd H p o) S p=some o:=bG.mpr ⟨hs.free n,zm⟩
theorem i_{H:Hp}{S:Sh}{p:Addr}{o:HO}(n:H p=none):qf (hid H S) (hid (upd H p o) (zB S p)):=λb u h=>by
 obtain⟨h1,h2⟩:=bG.mp h;have hb:b≠p:=λz=>by rw[z,n]at h2;cases h2
 refine bG.mpr ⟨?_,by rw[qt hb];exact h2⟩;show (S.h b||b==p)=false;rw[h1]
 simpa using hb
theorem lM{H:Hp}{S:Sh}{p:Addr}:qf (hid H (zB S p)) (hid H S):=λb u h=>by
 obtain⟨h1,h2⟩:=bG.mp h;refine bG.mpr ⟨?_,h2⟩;have h1:(S.h b||b==p)=false:=h1;simp at h1;exact h1.1
noncomputable def zx(g:Gc)(H:Hp)(S:Sh)(d:D)(v:V):Prop:=
 Rep g (hid H S) d v\/∃a vs ds,S.o a=true/\v=.ref a/\d=.lst ds/\H a=some (.lst vs)/\qk g (hid H S) ds vs
noncomputable def Fr(g:Gc)(H0:Hp)(S:Sh)(H:Hp)(d:D)(v:V):Prop:=
 ∃a vs ds,v=.ref a/\d=.lst ds/\H0 a=none/\H a=some (.lst vs)/\qk g (hid H (zB S a)) ds vs
section
variable{g:Gc}{H H' H0:Hp}{S:Sh}{d:D}{v:V}
theorem zx.mono(e:qf H H')(h:zx g H S d v):zx g H' S d v:=by
 rcases h with h|⟨a,vs,ds,h1,h2,h3,h4,h5⟩
 ·exact .inl (h.mono (qh e))
 ·exact .inr ⟨a,vs,ds,h1,h2,h3,e _ _ h4,h5.mono (qh e)⟩
theorem zx.rep(h:zx g H S d v):Rep g H d v:=by
 rcases h with h|⟨a,vs,ds,h1,rfl,rfl,h4,h5⟩
 ·exact h.mono zw
 ·exact .lst (SqL.of h4) (h5.mono zw)
theorem zx.lst{ds:List D}(h:zx g H S (.lst ds) v):∃a vs,v=.ref a/\SqL g.K H a vs/\qk g (hid H S) ds vs:=by
 rcases h with h|⟨a,vs,ds',h1,rfl,h3,h4,h5⟩
 ·cases h with
  |lst h r=>exact⟨_,_,rfl,zw.seq h,r⟩
 ·cases h3;exact⟨a,vs,rfl,SqL.of h4,h5⟩
theorem zx.strong(h:zx g H S d v)(n:∀ds,d≠.lst ds):Rep g (hid H S) d v:=by
 rcases h with h|⟨a,vs,ds',h1,rfl,h3,h4,h5⟩
 ·exact h
 ·exact absurd h3 (n _)
theorem zx.tup{ds:List D}(h:zx g H S (.tup ds) v):∃a vs,v=.ref a/\SqT g.K H a vs/\qk g (hid H S) ds vs:=by
 cases h.strong (by intro _ z;cases z)with
 |tup h2 r=>exact⟨_,_,rfl,zu zw h2,r⟩
theorem zx.seq{ds:List D}(h:zx g H S d v)(e:seq? d=some ds):∃a vs,v=.ref a/\(SqL g.K H a vs\/SqT g.K H a vs)/\qk g (hid H S) ds vs:=by
 cases d with
 |tup xs=>cases e;obtain⟨a,vs,h1,h2,h3⟩:=h.tup;exact⟨a,vs,h1,.inr h2,h3⟩
 |lst xs=>cases e;obtain⟨a,vs,h1,h2,h3⟩:=h.lst;exact⟨a,vs,h1,.inl h2,h3⟩
 |_=>cases e
theorem zx.int{i:Int}(h:zx g H S (.int i) v):v=.int i:=by cases h.strong (by intro _ z;cases z);rfl
theorem zx.bl{b:Bool}(h:zx g H S (.bl b) v):v=.bl b:=by cases h.strong (by intro _ z;cases z);rfl
theorem fQ{ds:List D}{vs:List V}{p:Addr}(hs:Sub S H)(n:H p=none)(r:qk g (hid H S) ds vs):Rep g (hid (upd H p (.tup vs)) S) (.tup ds) (.ref p):=
 .tup (SqT.of (ou hs n)) (r.mono (qh (qX n)))
theorem eO{ds:List D}{vs:List V}{p:Addr}(hs:Sub S H)(n:H p=none)(r:qk g (hid H S) ds vs):Rep g (hid (upd H p (.lst vs)) S) (.lst ds) (.ref p):=
 .lst (SqL.of (ou hs n)) (r.mono (qh (qX n)))
theorem fw{ds:List D}{vs:List V}{p:Addr}(e:qf H0 H)(n:H p=none)(r:qk g (hid H S) ds vs):Fr g H0 S (upd H p (.lst vs)) (.lst ds) (.ref p):=
 ⟨p,vs,ds,rfl,rfl,e.free n,zm,r.mono (i_ n)⟩
end
end EV
namespace HT
open PySem PySem.Spec PyProof.Rows L2
section
variable{prog:aC}{w:av}{A:aA}{E:ae->af->Prop}{s:af}
theorem Ay{l:Addr}{its:Array ae}{Q:List ae->af->Prop}(ht:IsTup s.heap l its)(hz:its.size<=aV)
  (h:Q its.toList {s with heap:=(s.heap.push (aJ "list" #[] 0)).update s.heap.objs.size (ba (· ++ its))}) :
  ak (aq prog w) A (collect (.ref l)) Q E s:=by
 obtain⟨o,ho,hc,n,hd⟩:=id ht;unfold collect;apply ag;apply wpAny_runValue;apply bV entry_proto_collect';show ak _ _ (do again (.builtin "list.__iadd__" ⟨[<-newList [],.ref l],[]⟩)) _ _ s;apply ag;refine wpAny_newList (hsz:=br _) ?_;refine aw ⟨Code.quiet_builtin _ (by decide +kernel),?_⟩;apply bV entry_list_iadd';show ak _ _ (eU (.ref s.heap.objs.size) (.ref l) (.ref s.heap.objs.size)) _ _ ({s with heap:=s.heap.push (aJ "list" #[] 0)}:af);have hS:(s.heap.push (aJ "list" #[] 0)).get? s.heap.objs.size=some (aJ "list" #[] 0):=Heap.get?_push_size _ rfl;have hT:=Heap.get?_push_of_some (aJ "list" #[] 0) ho;unfold eU;apply ag;refine wpAny_typeOf (T:="tuple") ⟨o,hT,hc⟩ ?_;rw[if_pos (by simp)];apply ag;refine listItems_at hT hd ?_;apply ag;refine listItems_at hS rfl ?_;rw[if_neg (by simp)];apply ag;refine listUpdate_at hS rfl ?_ (br _) (by show (#[]++its).size<=aV+1;rw[Array.size_append];show 0+its.size<=_;lia);apply aw;show ak (aq prog w) A (load s.heap.objs.size>>=λo=>match o.data with
  | .seq xs _=>pure xs.toList
  |_=>unsupported "internal:collect") Q E _
 apply ag;refine wpAny_load (get?_update_seq hS _) ?_;show ak _ _ (pure ((#[]:Array ae)++its).toList) Q E _;rw[show ((#[]:Array ae)++its).toList=its.toList by simp];exact aw h
theorem uz{l:Addr}{vs:List ae}{ns:List Int}{Q:ae->af->Prop}(ht:IsTup s.heap l vs.toArray)(hI:bp vs ns)(h64:vs.length<64)
  (h:∀(out:Array ae) (ns':List Int),bp out.toList ns'->ns'.Perm ns->ns'.Pairwise (·<=·)->Q (.ref (s.heap.objs.size+1)) {s with heap:=sortedAll s.heap vs out}) :
  ak (aq prog w) A (call (.builtin "sorted") [.ref l]) Q E s:=by
 refine Calls.call_function_entry kind_sorted plain_sorted entry_sorted (args_sorted1 _) ?_;unfold Builtin.«sorted»;apply ag (m:=checkCount "sorted" 1 1 _);apply aw;apply ag;refine Ay ht (by rw[aS,bt];lia) ?_;apply ag;refine wpAny_newList (hsz:=by rw[bt];show vs.length<=_;lia) ?_;have hz:((s.heap.push (aJ "list" #[] 0)).update s.heap.objs.size (ba (· ++ vs.toArray))).objs.size=s.heap.objs.size+1:=by rw[Heap.size_update,size_push']
 have hL:(((s.heap.push (aJ "list" #[] 0)).update s.heap.objs.size (ba (· ++ vs.toArray))).push (aJ "list" vs.toArray 0)).get? (s.heap.objs.size+1)=some (aJ "list" vs.toArray 0):=hz▸Heap.get?_push_size _ rfl;show ak _ _ _ _ _ ({s with heap:=((s.heap.push (aJ "list" #[] 0)).update s.heap.objs.size (ba (· ++ vs.toArray))).push (aJ "list" vs.toArray 0)}:af);rw[hz];apply ag;apply bF;refine bY slot_list_sort ⟨_,hL,rfl⟩ entry_list_sort (list_sort_tree hL hI h64 λout ns' a1 a2 a3=>⟨_,rfl,?_⟩) (args_list_sort _);exact aw ⟨_,rfl,h out ns' a1 a2 a3⟩
end
end HT
namespace L2
open PySem PySem.Spec PyProof.Rows
variable{X:Cx}
noncomputable def sM(K:aB):List V->Hp->VK->Prop:=λvs H Q=>∃(l:Addr) (ns:List Int),vs=[.ref l]/\SqT K H l (ns.map V.int)/\ns.length<64/\∀(D:Addr) (ms:List Int),H D=none->ms.Perm ns->ms.Pairwise (·<=·)->Q (.ref D) (upd H D (.lst (ms.map V.int)))
theorem sY:qU X (.builtin "sorted") (sM X.K):=by
 intro pins s σ H xs us Q I r ⟨l,ns,e,hl,h64,q⟩;subst e;obtain⟨u,rfl,ru⟩:=r.one;cases ru;obtain⟨its,rv,ht,hz⟩:=I.tuple hl;have hI:=intsAre_of rv;have hle:=bp.length hI;refine HT.uz ht hI (by rw[hle];exact h64) λout ns' a1 a2 a3=>?_
 obtain⟨c,hc⟩:=sortedAll_at s.heap its out;have keep:∀b o,s.heap.get? b=some o->(sortedAll s.heap its out).get? b=some o:=λb o e=>sortedAll_old e
 have hn:H (s.heap.objs.size+1)=none:=I.hok.fresh (Nat.le_succ _);have hl':ns'.length=ns.length:=a2.length_eq;exact⟨.ref (s.heap.objs.size+1),_,I.laid (t':=s.toks) (o:=.lst (ns'.map V.int)) keep (Nat.le_succ _) ⟨by rw[aR,bt];lia,out.toList,c,jL a1,by rw[Array.toArray_toList];exact hc⟩,rfl,q _ ns' hn a2 a3⟩
section
variable{X:Cx}
end
end L2
namespace EV
open PySem PySem.Spec PySem.P PyProof.Rows L2
mutual
noncomputable def D.py:D->PyData
 | .non=>.none
 | .bl b=>.bool b
 | .int i=>.int i
 | .str x=>.str x
 | .tup xs=>.tuple (pys xs)
 | .lst xs=>.list (pys xs)
 | .fn _=>.none
 | .exn _=>.none
 | .dic=>.none
noncomputable def pys:List D->List PyData
 | []=>[]
 |x::xs=>x.py::pys xs
end
mutual
theorem pD:∀{d:D},d.plain=true->d.py.canLay0=true
 | .non,_ | .bl _,_ | .int _,_=>by simp[D.py,PyData.canLay0]
 | .str x,h=>by simpa[D.py,PyData.canLay0,D.plain]using h
 | .tup xs,h=>by simp only[D.py,PyData.canLay0];exact kB (by simpa[D.plain]using h)
 | .lst xs,h=>by simp only[D.py,PyData.canLay0];exact kB (by simpa[D.plain]using h)
 | .fn _,h | .exn _,h | .dic,h=>by simp[D.plain]at h
theorem kB:∀{ds:List D},plainAll ds=true->PyData.canLayAll0 (pys ds)=true
 | [],_=>by simp[pys,PyData.canLayAll0]
 |x::xs,h=>by
  simp only[plainAll,aU]at h;simp only[pys,PyData.canLayAll0,aU];exact⟨pD h.1,kB h.2⟩
end
mutual
theorem pT:∀(d:D),d.py.depth=d.deep
 | .non | .bl _ | .int _ | .str _ | .fn _ | .exn _ | .dic=>by simp[D.py,PyData.depth,D.deep]
 | .tup xs=>by simp only[D.py,PyData.depth,D.deep];rw[lB xs]
 | .lst xs=>by simp only[D.py,PyData.depth,D.deep];rw[lB xs]
theorem lB:∀(ds:List D),PyData.depthAll (pys ds)=dU ds
 | []=>by simp[pys,PyData.depthAll,dU]
 |x::xs=>by simp only[pys,PyData.depthAll,dU];rw[pT x,lB xs]
end
mutual
theorem jK:∀(a b:D),a.plain=true->b.plain=true->PyData.eqv a.py b.py=a.eqv b
 | .tup xs,.tup ys,h,h'=>by simp only[D.py,PyData.eqv,D.eqv];exact k9 xs ys (by simpa[D.plain]using h) (by simpa[D.plain]using h')
 | .lst xs,.lst ys,h,h'=>by simp only[D.py,PyData.eqv,D.eqv];exact k9 xs ys (by simpa[D.plain]using h) (by simpa[D.plain]using h')
 | .fn _,_,h,_=>by simp[D.plain]at h
 | .exn _,_,h,_=>by simp[D.plain]at h
 | .dic,_,h,_=>by simp[D.plain]at h
 | .non,b,_,h' | .bl _,b,_,h' | .int _,b,_,h' | .str _,b,_,h'=>by cases b<;>simp[D.py,PyData.eqv,D.eqv,D.plain]at h' ⊢
 | .tup _,.non,_,_ | .tup _,.bl _,_,_ | .tup _,.int _,_,_ | .tup _,.str _,_,_ | .tup _,.lst _,_,_=>by simp[D.py,PyData.eqv,D.eqv]
 | .lst _,.non,_,_ | .lst _,.bl _,_,_ | .lst _,.int _,_,_ | .lst _,.str _,_,_ | .lst _,.tup _,_,_=>by simp[D.py,PyData.eqv,D.eqv]
 | .tup _,.fn _,_,h' | .tup _,.exn _,_,h' | .lst _,.fn _,_,h' | .lst _,.exn _,_,h' | .tup _,.dic,_,h' | .lst _,.dic,_,h'=>by simp[D.plain]at h'
theorem k9:∀(xs ys:List D),plainAll xs=true->plainAll ys=true->PyData.eqvAll (pys xs) (pys ys)=eqvAll xs ys
 | [],[],_,_=>by simp[pys,PyData.eqvAll,eqvAll]
 |x::xs,y::ys,h,h'=>by
  simp only[plainAll,aU]at h h';simp only[pys,PyData.eqvAll,eqvAll];rw[jK x y h.1 h'.1,k9 xs ys h.2 h'.2]
 | [],_::_,_,_=>by simp[pys,PyData.eqvAll,eqvAll]
 |_::_,[],_,_=>by simp[pys,PyData.eqvAll,eqvAll]
end
theorem Rep.data{g:Gc}{H:Hp}{d:D}{v:V}(h:Rep g H d v):d.plain=true->er g.K H v d.py:=
 h.rec (motive_1:=λd v _=>d.plain=true->er g.K H v d.py) (motive_2:=λds vs _=>plainAll ds=true->gz g.K H vs (pys ds)) (λ_=>.non) (λb _=>.bl b) (λb _=>.int b) (λb _=>.str b) (λq _ r p=>.tup q (r p)) (λq _ r p=>.lst q (r p)) (λ_ p=>nomatch p) (λ_ _ p=>nomatch p) (λ_ p=>nomatch p) (λ_=>.nil) (λ_ _ a b p=>.cons (a (jy p).1) (b (jy p).2))
theorem gX{d:D}:d.asks=true↔d.plain=true/\d.deep<=20:=by simp[D.asks]
section
variable{X:Cx}{g:Gc}
theorem OpR.imp{f:ae->ae->Sem ae}{r r':R2}(h:OpR X f r)(i:∀x y H Q,r' x y H Q->r x y H Q):OpR X f r':=
 λpins s σ H x y v u Q I rx ry q=>h pins s σ H x y v u Q I rx ry (i _ _ _ _ q)
noncomputable def Bi(K:aB):R2:=λx y H Q=>∃l b xs zs,x=.ref l/\y=.ref b/\SqL K H l xs/\SqL K H b zs/\xs.length+zs.length<=aV/\∀p,H p=none->Q (.ref p) (upd H p (.lst (xs++zs)))
theorem CN:OpR X (binaryOp .Add) (Bi X.K):=by
 intro pins s σ H x y v u Q I rx ry h;obtain⟨l,b,xs,zs,rfl,rfl,hH,hB,hz,q⟩:=h;cases rx;cases ry;obtain⟨its,r,pl,z⟩:=I.list hH;obtain⟨its2,r2,pl2,z2⟩:=I.list hB;have l1:=r.length;have l2:=r2.length;obtain⟨⟨cls,dd,data,sl⟩,ho,hc,n,hd⟩:=pl.isList;obtain⟨⟨cls2,dd2,data2,sl2⟩,ho2,hc2,n2,hd2⟩:=pl2.isList;simp only at hc hd hc2 hd2;subst hc hd hc2 hd2;refine concat_meets ⟨_,ho,rfl⟩ ⟨_,ho2,rfl⟩ noFill_list_add seq_list_add PySem.F.slot_list_add PySem.F.entry_list_add (PySem.F.args_list_add_2 _ _) (list_addW l b its.toArray its2.toArray n n2 dd dd2 sl sl2 (by rw[aS,aS];lia)) ⟨ho,ho2,?_⟩;have ea:its.toArray++its2.toArray=(its++its2).toArray:=by simp
 rw[ea];exact⟨.ref _,_,I.lnew (t':=s.toks) (r.append r2) (by rw[cb];lia),rfl,q _ I.fresh⟩
noncomputable def rOp(g:Gc)(o:O2):R2:=λx y H Q=>∃S da db,Sub S H/\zx g H S da x/\zx g H S db y /\
 match op2 o da db with
 | .ok d=>∀v H',qf H H'->Rep g (hid H' S) d v->(pB da=true->Fr g H S H' d v)->Q v H'
 |_=>False
theorem jw{o:O2}(ho:o≠.add)(hm:o≠.mul){da db d:D}(h:op2 o da db=.ok d):∃i j,da=.int i/\db=.int j/\opI o i j=.ok d:=by
 unfold op2 at h;split at h
 ·exact⟨_,_,rfl,rfl,h⟩
 ·rw[if_neg (λz=>ho z.1)]at h;cases h
 ·rw[if_neg (λz=>ho z.1)]at h;cases h
 ·cases h
theorem p5{j:Int}(h:small j=true):-(2^64)<j/\j<2^64:=by simpa[small]using h
theorem m4{n:Nat}(h:n<=SZ):n<=sizeLine:=bD h (by rw[bt];decide)
theorem log2_small{j:Int}(h1:0<j)(h2:j<1000000000000000000000000000000):j.natAbs.log2<9000:=by
 have h3:j.natAbs<2^100:=by
  have:(2:Nat)^100=1267650600228229401496703205376:=by decide +kernel
  rw[this];lia
 have:=(Nat.log2_lt (n:=j.natAbs) (k:=100) (by lia)).mpr h3;lia
theorem uK:OpR X (binaryOp .FloorDiv) (rI (λ_ j=>0<j/\j<1000000000000000000000000000000) λi j=>.int (i/j)):=L2.opI λi j _ _ _ _ _ hc q=>by
 have h1:(0:Int)<j:=hc.1;exact floordiv_int (by lia) (by rw[Int.fdiv_eq_ediv_of_nonneg i (by lia)];exact q) (.inl (PyProof.noPylong_of_log2 (log2_small hc.1 hc.2)))
theorem yF(hK:X.K=g.K){op:Operator}{o:O2}(h:o2 op=some o):OpR X (binaryOp op) (rOp g o):=by
 have two:∀{f:ae->ae->Sem ae}{C:Int->Int->Prop}{q:Int->Int->Int} (o:O2),OpR X f (rI C λi j=>.int (q i j))->(∀da db d,op2 o da db=.ok d->∃i j,da=.int i/\db=.int j/\C i j/\d=.int (q i j))->OpR X f (rOp g o):=λo k e=>by
  refine OpR.imp k λx y H Q ⟨S,da,db,hs,ra,rb,m⟩=>?_
  cases e1:op2 o da db with
  |ok d=>
   rw[e1]at m;obtain⟨i,j,rfl,rfl,c,rfl⟩:=e da db d e1;exact⟨i,j,ra.int,rb.int,c,m _ _ (qf.refl _) (.int _) (λz=>nomatch z)⟩
  |ex c=>rw[e1]at m;exact m.elim
  |no=>rw[e1]at m;exact m.elim
 have two0:∀{f:ae->ae->Sem ae}{q:Int->Int->Int} (o:O2),OpR X f (rI0 λi j=>.int (q i j))->(∀da db d,op2 o da db=.ok d->∃i j,da=.int i/\db=.int j/\d=.int (q i j))->OpR X f (rOp g o):=λ{f q} o k e=>
  two (C:=λ_ _=>True) (q:=q) o (OpR.imp k λx y H Q ⟨i,j,h1,h2,_,h3⟩=>⟨i,j,h1,h2,h3⟩) λda db d h=>by
   obtain⟨i,j,h1,h2,h3⟩:=e da db d h;exact⟨i,j,h1,h2,trivial,h3⟩
 cases op<;>simp only[o2,cx]at h<;>first|subst h|cases h
 ·-- Add
  refine OpR.imp (Dt.or (ym.or CN)) λx y H Q ⟨S,da,db,hs,ra,rb,m⟩=>?_
  cases da with
  |int i=>
   cases db with
   |int j=>exact .inl ⟨i,j,ra.int,rb.int,m _ _ (qf.refl _) (.int _) (λz=>nomatch z)⟩
   |_=>exact m.elim
  |tup xs=>
   cases db with
   |tup ys=>
    simp only[op2,true_and]at m;split at m
    ·rename_i e
     split at e<;>cases e
     rename_i hz
     obtain⟨a,vs,rfl,h1,r1⟩:=ra.tup;obtain⟨b,us,rfl,h2,r2⟩:=rb.tup;refine .inr (.inl ⟨a,b,vs,us,rfl,rfl,by rw[hK];exact h1,by rw[hK];exact h2,by rw[<-r1.length,<-r2.length];exact m4 hz,λe=>?_,λ_ e=>?_,λ_ _ p hp=>?_⟩)
     ·subst e;cases r1;exact m _ _ (qf.refl _) (rb.strong (by intro _ z;cases z)) (λz=>nomatch z)
     ·subst e;cases r2;rw[bZ]at m;exact m _ _ (qf.refl _) (ra.strong (by intro _ z;cases z)) (λz=>nomatch z)
     ·exact m _ _ (qX hp) (fQ hs hp (r1.append r2)) (λz=>nomatch z)
    ·exact m.elim
   |_=>exact m.elim
  |lst xs=>
   cases db with
   |lst ys=>
    simp only[op2,true_and]at m;split at m
    ·rename_i e
     split at e<;>cases e
     rename_i hz
     obtain⟨a,vs,rfl,h1,r1⟩:=ra.lst;obtain⟨b,us,rfl,h2,r2⟩:=rb.lst;refine .inr (.inr ⟨a,b,vs,us,rfl,rfl,by rw[hK];exact h1,by rw[hK];exact h2,by rw[<-r1.length,<-r2.length];exact m4 hz,λp hp=>?_⟩);exact m _ _ (qX hp) (eO hs hp (r1.append r2)) (λ_=>fw (qf.refl _) hp (r1.append r2))
    ·exact m.elim
   |_=>exact m.elim
  |_=>exact m.elim
 ·exact two0 .sub vz λda db d h=>by obtain⟨i,j,rfl,rfl,h'⟩:=jw (by decide) (by decide) h;clear h;rename _=>h;cases h;exact⟨_,_,rfl,rfl,rfl⟩
 ·refine OpR.imp CI λx y H Q ⟨S,da,db,hs,ra,rb,m⟩=>?_
  cases e1:op2 .mul da db with
  |ok d=>
   rw[e1]at m;unfold op2 at e1;split at e1
   ·simp only[opI]at e1;split at e1
    ·rename_i i j hc
     cases e1;refine⟨i,j,ra.int,rb.int,?_,m _ _ (qf.refl _) (.int _) (λz=>nomatch z)⟩;rcases(by simpa using hc)with z|z
     ·exact .inl (p5 z)
     ·exact .inr (p5 z)
    ·cases e1
   ·rw[if_neg (λz=>nomatch z.1)]at e1;cases e1
   ·rw[if_neg (λz=>nomatch z.1)]at e1;cases e1
   ·cases e1
  |ex c=>rw[e1]at m;exact m.elim
  |no=>rw[e1]at m;exact m.elim
 ·exact two .mod A_ λda db d h=>by obtain⟨i,j,rfl,rfl,h'⟩:=jw (by decide) (by decide) h;clear h;rename _=>h;simp only[opI]at h;split at h<;>cases h;rename_i hc;exact⟨_,_,rfl,rfl,hc,rfl⟩
 ·exact two .shr BF λda db d h=>by obtain⟨i,j,rfl,rfl,h'⟩:=jw (by decide) (by decide) h;clear h;rename _=>h;simp only[opI]at h;split at h<;>cases h;rename_i hc;exact⟨_,_,rfl,rfl,hc,rfl⟩
 ·exact two .fdiv uK λda db d h=>by obtain⟨i,j,rfl,rfl,h'⟩:=jw (by decide) (by decide) h;clear h;rename _=>h;simp only[opI]at h;split at h<;>cases h;rename_i hc;exact⟨_,_,rfl,rfl,hc,rfl⟩
theorem ju(hK:X.K=g.K){pins:List (Addr×Obj)}{σ:L2.St}{H:Hp}{s:af}(I:Inv X pins σ H s){d:D}{v:V}{u:ae}(r:Rep g H d v)(a:d.asks=true)(ru:RelV v u):∃as,Reads s.heap u d.py as/\d.py.canLay0=true/\d.py.depth<=20:=by
 obtain⟨h1,h2⟩:=gX.mp a;have h:=r.data h1;rw[<-hK]at h;obtain⟨as,q⟩:=I.reads h ru;exact⟨as,q,pD h1,by rw[pT];exact h2⟩
theorem pF:∀(a b:List Int),cV a b=HT.lexLt a b
 | [],[]=>by simp[cV,HT.lexLt]
 | [],_::_=>by simp[cV,HT.lexLt]
 |_::_,[]=>by simp[cV,HT.lexLt]
 |a::r,b::t=>by
  simp only[cV,HT.lexLt];rw[pF r t]
  try (by_cases h:a=b<;>simp[h])
noncomputable def rCm(g:Gc)(c:C2):R2:=λx y H Q=>∃S da db,zx g H S da x/\zx g H S db y /\
 match qi c da db with
 | .ok b=>Q (.bl b) H
 |_=>False
open Classical in
noncomputable def ez(h:Heap)(q:PyData)(u:ae):Bool:=if e:∃d as,Reads h u d as then PyData.eqv e.choose q else false
theorem mh{h:Heap}{q d:PyData}{u:ae}{as:List Addr}(r:Reads h u d as):ez h q u=PyData.eqv d q:=by
 have e:∃d as,Reads h u d as:=⟨d,as,r⟩
 unfold ez;rw[dif_pos e];obtain⟨bs,r'⟩:=e.choose_spec;rw[(PySem.Reads.unique r' d as r).1]
theorem any_eq(hK:X.K=g.K){pins:List (Addr×Obj)}{σ:L2.St}{H:Hp}{s:af}(I:Inv X pins σ H s){da:D}(ha:da.asks=true){ds:List D}:∀{vs:List V}{us:List ae},qk g H ds vs->Vals vs us->ds.all D.asks=true ->
  us.any (ez s.heap da.py)=inD da ds/\∀u∈us,∃d as,Reads s.heap u d as/\d.canLay0=true/\d.depth<=20:=by
 induction ds with
 |nil=>intro vs us h r _;cases h;cases r;exact⟨rfl,λu h=>nomatch h⟩
 |cons d ds ih=>
  intro vs us h q e;cases h with
  |cons h r=>cases q with
   |cons q t=>
    rw[List.all_cons,aU]at e;obtain⟨as,h1,h2,h3⟩:=ju hK I h e.1 q;obtain⟨i1,i2⟩:=ih r t e.2;refine⟨?_,λu hu=>?_⟩
    ·rw[List.any_cons,i1,mh h1,jK _ _ (gX.mp e.1).1 (gX.mp ha).1]
     rfl
    ·rcases aF.mp hu with rfl|hu
     ·exact⟨_,as,h1,h2,h3⟩
     ·exact i2 u hu
theorem Cp{A:aA}{s:af}{u v:ae}{d:PyData}{as:List Addr}{q:PyData}{bs:List Addr}(hu:A.units+60<cLine)(r:Reads s.heap u d as)(r':Reads s.heap v q bs)(h1:d.canLay0=true)(h2:q.canLay0=true)(h3:d.depth<=20):SeqAt.EqAt A.in1 s u v (ez s.heap q u):=by
 rw[mh r];refine SeqAt.eqAt_reads d q A.in1 s u v as bs r r' h1 h2 ?_;have:min d.depth q.depth<=d.depth:=Nat.min_le_left _ _;show A.units+1+_<_;lia
theorem pC(hK:X.K=g.K)(hu:X.A.units+64<cLine)(neg:Bool):OpR X (bh (if neg then .NotIn else .In)) (λx y H Q=>∃S da db ds,zx g H S da x/\zx g H S db y/\seq? db=some ds/\da.asks=true/\ds.all D.asks=true/\Q (.bl (if neg then !inD da ds else inD da ds)) H):=by
 intro pins s σ H x y v u Q I rx ry h;obtain⟨S,da,db,ds,ra,rb,es,aa,ad,q⟩:=h;obtain⟨as,h1,h2,h3⟩:=ju hK I ra.rep aa rx;obtain⟨a,vs,rfl,hsq,rr⟩:=rb.seq es;cases ry;have go:∀{its:List ae},Vals vs its->(∀w∈its.toArray,SeqAt.EqAt X.A.in1 s w v (ez s.heap da.py w))/\its.toArray.any (ez s.heap da.py)=inD da ds:=λ{its} rv=>by
  obtain⟨i1,i2⟩:=any_eq hK I aa (rr.mono zw) rv ad;refine⟨λw hw=>?_,by simpa using i1⟩;obtain⟨d,bs,r1,r2,r3⟩:=i2 w (by simpa using hw);exact Cp (Nat.lt_of_le_of_lt (Nat.add_le_add_left (by decide) _) hu) r1 h1 r2 h2 r3
 rcases hsq with hsq|hsq
 ·obtain⟨its,rv,pl,_⟩:=I.list (by rw[hK];exact hsq);obtain⟨g1,g2⟩:=go rv;cases neg with
  |false=>exact SeqAt.in_listAt (ez s.heap da.py) pl.isList g1 ⟨.bl _,H,I,rfl,by rw[g2];exact q⟩
  |true=>exact SeqAt.notIn_listAt (ez s.heap da.py) pl.isList g1 ⟨.bl _,H,I,rfl,by rw[g2];exact q⟩
 ·obtain⟨its,rv,pl,_⟩:=I.tuple (by rw[hK];exact hsq);obtain⟨g1,g2⟩:=go rv;cases neg with
  |false=>exact SeqAt.in_tupleAt (ez s.heap da.py) pl g1 ⟨.bl _,H,I,rfl,by rw[g2];exact q⟩
  |true=>exact SeqAt.notIn_tupleAt (ez s.heap da.py) pl g1 ⟨.bl _,H,I,rfl,by rw[g2];exact q⟩
theorem ni(hK:X.K=g.K)(hu:X.A.units+64<cLine)(neg:Bool):OpR X (bh (if neg then .NotEq else .Eq)) (λx y H Q=>∃S da db,zx g H S da x/\zx g H S db y/\da.asks=true/\db.asks=true/\Q (.bl (if neg then !da.eqv db else da.eqv db)) H):=by
 intro pins s σ H x y v u Q I rx ry h;obtain⟨S,da,db,ra,rb,aa,ab,q⟩:=h;obtain⟨as,h1,h2,h3⟩:=ju hK I ra.rep aa rx;obtain⟨bs,k1,k2,k3⟩:=ju hK I rb.rep ab ry;have e:=jK da db (gX.mp aa).1 (gX.mp ab).1;have room:X.A.units+min da.py.depth db.py.depth<cLine:=by
  have:min da.py.depth db.py.depth<=da.py.depth:=Nat.min_le_left _ _;lia
 cases neg with
 |false=>exact SeqAt.compareEq_reads h1 k1 h2 k2 room ⟨.bl _,H,I,by rw[e];rfl,q⟩
 |true=>exact SeqAt.compareNe_reads h1 k1 h2 k2 room ⟨.bl _,H,I,by rw[e];rfl,q⟩
theorem zx.non_iff{S:Sh}{H:Hp}{d:D}{v:V}(r:zx g H S d v):decide (v=.non)=cZ d:=by
 cases r.rep<;>rfl
theorem eD{op:CmpOp}{c:C2}{r:R2}(h:OpR X (bh op) r)(k:∀S da db b x y H Q,zx g H S da x->zx g H S db y->qi c da db=.ok b->Q (.bl b) H->r x y H Q):OpR X (bh op) (rCm g c):=by
 refine OpR.imp h λx y H Q ⟨S,da,db,ra,rb,m⟩=>?_
 cases e:qi c da db with
 |ok b=>rw[e]at m;exact k S da db b x y H Q ra rb e m
 |ex c'=>rw[e]at m;exact m.elim
 |no=>rw[e]at m;exact m.elim
theorem z_:OpR X (bh .Is) (λx y H Q=>∃a b,x=.bl a/\y=.bl b/\Q (.bl (a==b)) H):=by
 intro pins s σ H x y v u Q I rx ry h;obtain⟨a,b,rfl,rfl,q⟩:=h;cases rx;cases ry;exact is_bool (iR I q rfl)
theorem v_:OpR X (bh .IsNot) (λx y H Q=>∃a b,x=.bl a/\y=.bl b/\Q (.bl (!(a==b))) H):=by
 intro pins s σ H x y v u Q I rx ry h;obtain⟨a,b,rfl,rfl,q⟩:=h;cases rx;cases ry;exact isnot_bool (iR I q rfl)
theorem mD{n:Bool}{a b:EV.D}{c:Bool}(h:isB n a b=.ok c):∃x y,a=.bl x/\b=.bl y/\c=(n != (x==y)):=by
 unfold isB at h;split at h
 ·cases h;exact⟨_,_,rfl,rfl,rfl⟩
 ·cases h
theorem dA(hK:X.K=g.K)(hu:X.A.units+64<cLine)(op:CmpOp):OpR X (bh op) (rCm g (c2 op)):=by
 cases op
 ·exact eD (ni hK hu false) λS da db b x y H Q ra rb e q=>by
   simp only[c2,qi]at e;split at e<;>cases e
   rename_i a
   simp only[aU]at a;exact⟨S,da,db,ra,rb,a.1,a.2,q⟩
 ·exact eD (ni hK hu true) λS da db b x y H Q ra rb e q=>by
   simp only[c2,qi]at e;split at e<;>cases e
   rename_i a
   simp only[aU]at a;exact⟨S,da,db,ra,rb,a.1,a.2,q⟩
 ·exact eD (xw.or (ve (by lia))) λS da db b x y H Q ra rb e q=>by
   simp only[c2]at e;cases da with
   |int i=>
    cases db with
    |int j=>cases e;exact .inl ⟨i,j,ra.int,rb.int,q⟩
    |_=>cases e
   |tup xs=>
    cases db with
    |tup ys=>
     simp only[qi]at e;split at e
     ·rename_i ns ms e1 e2
      cases e;obtain⟨a,vs,rfl,h1,r1⟩:=ra.tup;obtain⟨b,us,rfl,h2,r2⟩:=rb.tup;obtain⟨rfl,_⟩:=r1.ints e1;obtain⟨rfl,_⟩:=r2.ints e2;exact .inr ⟨a,b,ns,ms,rfl,rfl,by rw[hK];exact h1,by rw[hK];exact h2,pF ns ms▸q⟩
     ·cases e
    |_=>cases e
   |_=>cases db<;>cases e
 ·exact eD AG λS da db b x y H Q ra rb e q=>by
   cases da with
   |int i=>
    cases db with
    |int j=>cases e;exact⟨_,_,ra.int,rb.int,q⟩
    |_=>cases e
   |_=>cases e
 ·exact eD s9 λS da db b x y H Q ra rb e q=>by
   cases da with
   |int i=>
    cases db with
    |int j=>cases e;exact⟨_,_,ra.int,rb.int,q⟩
    |_=>cases e
   |_=>cases e
 ·exact eD wu λS da db b x y H Q ra rb e q=>by
   cases da with
   |int i=>
    cases db with
    |int j=>cases e;exact⟨_,_,ra.int,rb.int,q⟩
    |_=>cases e
   |_=>cases e
 ·exact eD (BM.or z_) λS da db b x y H Q ra rb e q=>by
   simp only[c2,qi]at e;split at e
   ·rename_i hd
    cases e;have hd:db=.non:=by cases db<;>first|rfl|cases hd
    subst hd;cases rb.rep;exact .inl ⟨rfl,by rw[ra.non_iff];exact q⟩
   ·obtain⟨a,c,rfl,rfl,rfl⟩:=mD e;cases ra.rep;cases rb.rep;exact .inr ⟨a,c,rfl,rfl,by cases a<;>cases c<;>exact q⟩
 ·exact eD (B7.or v_) λS da db b x y H Q ra rb e q=>by
   simp only[c2,qi]at e;split at e
   ·rename_i hd
    cases e;have hd:db=.non:=by cases db<;>first|rfl|cases hd
    subst hd;cases rb.rep;exact .inl ⟨rfl,by rw[ra.non_iff];exact q⟩
   ·obtain⟨a,c,rfl,rfl,rfl⟩:=mD e;cases ra.rep;cases rb.rep;exact .inr ⟨a,c,rfl,rfl,by cases a<;>cases c<;>exact q⟩
 ·exact eD (pC hK hu false) λS da db b x y H Q ra rb e q=>by
   simp only[c2,qi]at e;split at e
   ·rename_i xs es
    split at e<;>cases e
    rename_i a
    simp only[aU]at a;exact⟨S,da,db,xs,ra,rb,es,a.1,a.2,q⟩
   ·cases e
 ·exact eD (pC hK hu true) λS da db b x y H Q ra rb e q=>by
   simp only[c2,qi]at e;split at e
   ·rename_i xs es
    split at e<;>cases e
    rename_i a
    simp only[aU]at a;exact⟨S,da,db,xs,ra,rb,es,a.1,a.2,q⟩
   ·cases e
end
abbrev fA(g:Gc)(H:Hp)(S:Sh):List D->List V->Prop:=Paired (zx g H S)
section
variable{X:Cx}{g:Gc}
theorem nC{H:Hp}{ds:List D}{vs:List V}{i:Int}{d:D}(r:qk g H ds vs)(e:atI ds i=some d):∃v,atI vs i=some v/\Rep g H d v:=by
 unfold atI at e ⊢;rw[<-r.length];cases q:ixN ds.length i with
 |none=>rw[q]at e;cases e
 |some j=>rw[q]at e;exact r.get e
noncomputable def vP(g:Gc):R2:=λx y H Q=>∃S da db,zx g H S da x/\zx g H S db y /\
 match ixD da db with
 | .ok d=>∀v,Rep g (hid H S) d v->Q v H
 |_=>False
theorem xc(hK:X.K=g.K):IxR X (vP g):=by
 have k:IxR X (λx y H Q=>mZ X.K x y H Q\/nE X.K x y H Q):=uZ.or yw;intro value slice pins s σ H x y v u Q I rx ry h hs;refine k value slice pins s σ H x y v u Q I rx ry ?_ hs;obtain⟨S,da,db,ra,rb,m⟩:=h;cases da with
 |tup xs=>
  cases db with
  |int i=>
   simp only[ixD]at m;cases e:atI xs i with
   |none=>rw[e]at m;exact m.elim
   |some d=>
    rw[e]at m;obtain⟨a,vs,rfl,h1,r1⟩:=ra.tup;obtain⟨w,h2,h3⟩:=nC r1 e;exact .inr ⟨a,vs,i,w,rfl,rb.int,by rw[hK];exact h1,h2,m w h3⟩
  |_=>exact m.elim
 |lst xs=>
  cases db with
  |int i=>
   simp only[ixD]at m;cases e:atI xs i with
   |none=>rw[e]at m;exact m.elim
   |some d=>
    rw[e]at m;obtain⟨a,vs,rfl,h1,r1⟩:=ra.lst;obtain⟨w,h2,h3⟩:=nC r1 e;exact .inl ⟨a,vs,i,w,rfl,rb.int,by rw[hK];exact h1,h2,m w h3⟩
  |_=>exact m.elim
 |_=>exact m.elim
noncomputable def uS(g:Gc):V->Option Int->Option Int->Hp->VK->Prop:=λx lo hi H Q=>∃S da,Sub S H/\zx g H S da x /\
 match slD da lo hi with
 | .ok d=>∀v H',qf H H'->Rep g (hid H' S) d v->Q v H'
 |_=>False
theorem B4{H:Hp}{ds:List D}{vs:List V}(r:qk g H ds vs)(lo hi:Option Int):qk g H (cutD ds lo hi) (fZ vs lo hi):=by
 unfold cutD fZ;rw[r.length];exact(r.drop _).take _
theorem CJ(hK:X.K=g.K):SlR X (uS g):=by
 intro pins s σ H x v vl vu lo hi sl Q I rx hs pl pu h;obtain⟨S,da,hS,ra,m⟩:=h;cases da with
 |lst xs=>
  obtain⟨a,vs,rfl,h1,r1⟩:=ra.lst;exact yy pins s σ H _ v vl vu lo hi sl Q I rx hs pl pu ⟨a,vs,rfl,by rw[hK];exact h1,λp hp=>m _ _ (qX hp) (eO hS hp (B4 r1 lo hi))⟩
 |_=>exact m.elim
noncomputable def b1V:B1->ae
 | .len=>.builtin "len"
 | .tuple=>.type "tuple"
 | .list=>.type "list"
 | .sorted=>.builtin "sorted"
 | .all=>.builtin "all"
 | .any=>.builtin "any"
 | .sum=>.builtin "sum"
 | .min=>.builtin "min"
 | .max=>.builtin "max"
 | .abs=>.builtin "abs"
 | .int=>.type "int"
 | .bool=>.type "bool"
noncomputable def rB1(g:Gc)(b:B1):List V->Hp->VK->Prop:=λvs H Q=>∃S ds,Sub S H/\fA g H S ds vs /\
 match b1 b ds with
 | .ok d=>∀v H',qf H H'->Rep g (hid H' S) d v->(b=.list\/b=.sorted->Fr g H S H' d v)->Q v H'
 |_=>False
theorem qU.imp{f:ae}{r r':List V->Hp->VK->Prop}(h:qU X f r)(i:∀xs H Q,r' xs H Q->r xs H Q):qU X f r':=
 λpins s σ H xs us Q I rv q=>h pins s σ H xs us Q I rv (i _ _ _ q)
theorem gb{f:ae}{b:B1}{r:List V->Hp->VK->Prop}(h:qU X f r)
  (k:∀S ds d vs H Q,Sub S H->fA g H S ds vs->b1 b ds=.ok d->(∀v H',qf H H'->Rep g (hid H' S) d v->(b=.list\/b=.sorted->Fr g H S H' d v)->Q v H')->r vs H Q):qU X f (rB1 g b):=by
 refine qU.imp h λvs H Q ⟨S,ds,hs,rs,m⟩=>?_
 cases e:b1 b ds with
 |ok d=>rw[e]at m;exact k S ds d vs H Q hs rs e m
 |ex c=>rw[e]at m;exact m.elim
 |no=>rw[e]at m;exact m.elim
theorem iI{f:ae}{b:B1}(h1:∀d,b11 b d=.no)(h2:∀d e,b12 b d e=.no):qU X f (rB1 g b):=λpins s σ H xs us Q I rv ⟨S,ds,hs,rs,m⟩=>by
 have e:b1 b ds=.no:=by
  unfold b1;split
  ·exact h1 _
  ·exact h2 _ _
  ·rfl
 rw[e]at m;exact m.elim
theorem k7{b:B1}(hb:∀x y,b12 b x y=.no){ds:List D}{d:D}(h:b1 b ds=.ok d):∃x,ds=[x]/\b11 b x=.ok d:=by
 match ds,h with
 | [x],h=>exact⟨x,rfl,h⟩
 | [x,y],h=>have h:b12 b x y=.ok d:=h;rw[hb]at h;cases h
 | [],h=>cases h
 |_::_::_::_,h=>cases h
theorem ip{x r:D}{k:List D->R D}(h:cY x k=.ok r):∃xs,x=.lst xs/\k xs=.ok r:=by
 cases x with
 |lst xs=>exact⟨xs,rfl,h⟩
 |_=>cases h
theorem p_{x y r:D}{k:Int->Int->R D}(h:iiR x y k=.ok r):∃i j,x=.int i/\y=.int j/\k i j=.ok r:=by
 cases x with
 |int i=>
  cases y with
  |int j=>exact⟨i,j,rfl,rfl,h⟩
  |_=>cases h
 |_=>cases h
theorem iM{α β:Type}{o:Option α}{k:α->R β}{r:β}(h:cm o k=.ok r):∃a,o=some a/\k a=.ok r:=by
 cases o with
 |some a=>exact⟨a,rfl,h⟩
 |none=>cases h
theorem l9{b:B1}{ds:List D}{d:D}{q:List D->R D}(h:b1 b ds=.ok d)(e:∀x,b1 b [x]=cm (seq? x) q)(n:ds.length≠1->b1 b ds=.no):∃x xs,ds=[x]/\seq? x=some xs/\q xs=.ok d:=by
 match ds with
 | []=>rw[n (by simp)]at h;cases h
 | [x]=>
  rw[e]at h;cases z:seq? x with
  |none=>rw[z]at h;cases h
  |some xs=>rw[z]at h;exact⟨x,xs,rfl,z,h⟩
 |x::y::r=>rw[n (by simp)]at h;cases h
theorem yS(hK:X.K=g.K):qU X (.builtin "len") (rB1 g .len):=gb AR λS ds d vs H Q hs rs h q=>by
 obtain⟨x,xs,rfl,e,h⟩:=l9 (q:=λxs=>.ok (.int xs.length)) h (λ_=>rfl) (λn=>by match ds,n with | [],_=>rfl | [_,_],_=>rfl|_::_::_::_,_=>rfl);cases h;cases rs with
 |cons r rs=>
  cases rs;obtain⟨a,us,rfl,h1,r1⟩:=r.seq e;exact⟨a,us,rfl,by rw[hK];exact h1,by rw[<-r1.length];exact q _ _ (qf.refl _) (.int _) (by simp)⟩
theorem DD(hK:X.K=g.K):qU X (.type "tuple") (rB1 g .tuple):=gb Bv λS ds d vs H Q hs rs h q=>by
 obtain⟨x,xs,rfl,e,h⟩:=l9 (q:=λxs=>.ok (.tup xs)) h (λ_=>rfl) (λn=>by match ds,n with | [],_=>rfl | [_,_],_=>rfl|_::_::_::_,_=>rfl);cases h;cases rs with
 |cons r rs=>
  cases rs;cases x with
  |lst ys=>
   cases e;obtain⟨a,us,rfl,h1,r1⟩:=r.lst;exact⟨a,us,rfl,.inl ⟨by rw[hK];exact h1,λp hp=>q _ _ (qX hp) (fQ hs hp r1) (by simp)⟩⟩
  |tup ys=>
   cases e;have z:=r.strong (by intro _ z;cases z);obtain⟨a,us,rfl,h1,r1⟩:=r.tup;exact⟨a,us,rfl,.inr ⟨by rw[hK];exact h1,q _ _ (qf.refl _) z (by simp)⟩⟩
  |_=>cases e
theorem CZ(hK:X.K=g.K):qU X (.type "list") (rB1 g .list):=iI (λ_=>rfl) λ_ _=>rfl
theorem yB(hc:X.calm=true)(al:Bool):qU X (.builtin (if al then "all" else "any")) (λxs H Q=>∃(l:Addr) (bs:List Bool),xs=[.ref l]/\SqL X.K H l (bs.map V.bl)/\Q (.bl (if al then bs.all id else bs.any id)) H):=by
 intro pins s σ H xs us Q I r h;obtain⟨l,bs,rfl,hl,q⟩:=h;obtain⟨u,rfl,ru⟩:=r.one;cases ru;obtain⟨its,rv,pl,hz⟩:=I.list hl;have e:=DM (A:=X.A) rv;subst e;have hlt:l<s.heap.objs.size:=by obtain⟨_,e,_⟩:=pl.isList;exact aH e
 have tr:TruthOf X.prog X.w X.A.in1 (λi v=>(bs.map ae.bool).toArray[i]? = some v) (λi=>(bs[i]?).getD al):=λi v s' Q' E' hP hQ=>by
  have hv:(bs.map ae.bool)[i]? = some v:=by simpa using hP
  rw[List.getElem?_map]at hv;cases e:bs[i]? with
  |none=>rw[e]at hv;cases hv
  |some b=>
   rw[e]at hv;cases hv;simp only[e,Option.getD_some]at hQ;exact bH hQ
 have wk:=Walks.list (prog:=X.prog) (w:=X.w) (A:=X.A.in1) (I.ok.hd hc) s.heap.objs.size l (aX hlt) (bs.map ae.bool).toArray;cases al with
 |true=>
  refine call_all_walk (wpAny_pyIter_list pl.isList ?_);refine⟨s.heap.objs.size,[s.heap.objs.size,l],[s.heap.objs.size],_,_,_,_,rfl,wk,⟨⟨_,Heap.get?_push_size _ rfl,rfl,rfl⟩,pl.isList.push _⟩,tr,λh' tk hk=>?_⟩;have e:((bu (bs.map ae.bool).toArray.size).all λi=>(bs[i]?).getD true)=bs.all id:=by
   rw[aS,aR];exact LSm.range_all bs
  rw[e];exact⟨.bl _,H,I.kept (LSm.kept_iter hk),rfl,q⟩
 |false=>
  refine call_any_walk (wpAny_pyIter_list pl.isList ?_);refine⟨s.heap.objs.size,[s.heap.objs.size,l],[s.heap.objs.size],_,_,_,_,rfl,wk,⟨⟨_,Heap.get?_push_size _ rfl,rfl,rfl⟩,pl.isList.push _⟩,tr,λh' tk hk=>?_⟩;have e:((bu (bs.map ae.bool).toArray.size).any λi=>(bs[i]?).getD false)=bs.any id:=by
   rw[aS,aR,Bool.eq_iff_iff];simp only[List.any_eq_true,List.mem_range,id];constructor
   ·rintro⟨i,hi,e⟩;rw[List.getElem?_eq_getElem hi]at e;exact⟨_,cK hi,e⟩
   ·rintro⟨b,hb,e⟩;obtain⟨i,hi,rfl⟩:=List.getElem_of_mem hb;exact⟨i,hi,by rw[List.getElem?_eq_getElem hi];exact e⟩
  rw[e];exact⟨.bl _,H,I.kept (LSm.kept_iter hk),rfl,q⟩
theorem sk(hK:X.K=g.K)(hc:X.calm=true)(al:Bool):qU X (.builtin (if al then "all" else "any")) (rB1 g (if al then .all else .any)):=gb (yB hc al) λS ds d vs H Q hs rs h q=>by
 obtain⟨xs,bs,rfl,e,rfl⟩:∃xs bs,ds=[.lst xs]/\bools? xs=some bs/\d=.bl (if al then bs.all id else bs.any id):=by
  cases al
  ·obtain⟨x,rfl,h'⟩:=k7 (λ_ _=>rfl) h;obtain⟨xs,rfl,h'⟩:=ip h';obtain⟨bs,e,h'⟩:=iM h';cases h';exact⟨xs,bs,rfl,e,rfl⟩
  ·obtain⟨x,rfl,h'⟩:=k7 (λ_ _=>rfl) h;obtain⟨xs,rfl,h'⟩:=ip h';obtain⟨bs,e,h'⟩:=iM h';cases h';exact⟨xs,bs,rfl,e,rfl⟩
 cases rs with
 |cons r rs=>
  cases rs;obtain⟨a,us,rfl,h1,r1⟩:=r.lst;have e2:=r1.bools e;subst e2;exact⟨a,bs,rfl,by rw[hK];exact h1,q _ _ (qf.refl _) (.bl _) (by cases al<;>simp)⟩
end
end EV
namespace TS
open PySem PyProof.Rows
noncomputable def l_:Bool->ao->Array ao->Nat->Nat->Nat->StateT aI Sem (Option Nat):=sortPriv% PySem.Builtin.gallop
noncomputable def pe:Array ao->Array ao->StateT aI Sem (Array ao):=sortPriv% PySem.Builtin.mergeLo
noncomputable def nH:Array ao->Array ao->StateT aI Sem (Array ao):=sortPriv% PySem.Builtin.mergeHi
theorem pr5{A1 A2 A3 A4 A5:Type}{F:A1×A2×A3×A4×A5->Prop}(h:∀x1 x2 x3 x4 x5,F (x1,x2,x3,x4,x5)):∀c,F c:=λ⟨x1,x2,x3,x4,x5⟩=>h x1 x2 x3 x4 x5
theorem pr6{A1 A2 A3 A4 A5 A6:Type}{F:A1×A2×A3×A4×A5×A6->Prop}(h:∀x1 x2 x3 x4 x5 x6,F (x1,x2,x3,x4,x5,x6)):∀c,F c:=λ⟨x1,x2,x3,x4,x5,x6⟩=>h x1 x2 x3 x4 x5 x6
theorem pr7{A1 A2 A3 A4 A5 A6 A7:Type}{F:A1×A2×A3×A4×A5×A6×A7->Prop}(h:∀x1 x2 x3 x4 x5 x6 x7,F (x1,x2,x3,x4,x5,x6,x7)):∀c,F c:=λ⟨x1,x2,x3,x4,x5,x6,x7⟩=>h x1 x2 x3 x4 x5 x6 x7
theorem exE{α:Type}{P:α->Prop}{C:Prop}(h:∀a,P a->C)(x:∃a,P a):C:=h _ x.choose_spec
theorem wpI{M:Model}{A:aA}{E:ae->af->Prop}{s:af}{α σ:Type}{c:Prop}{i:Decidable c}{x y:StateT σ Sem α}{Q:α->σ->Prop}{st:σ}(h:c->wpS M A E s x Q st)(k:¬ c->wpS M A E s y Q st):wpS M A E s (if c then x else y) Q st:=by
 split
 ·exact h ‹_›
 ·exact k ‹_›
theorem stE{M:Model}{A:aA}{E:ae->af->Prop}{s:af}{α σ:Type}{m:StateT σ Sem α}{Q:α->σ->Prop}{st st':σ}(h:st'=st)(k:wpS M A E s m Q st):wpS M A E s m Q st':=h▸k
structure Cmp(prog:aC)(w:av)(A:aA)(s:af)(κ:SortKind)(D:ao->Prop)(LT:ao->ao->Bool):Prop where
 lt:∀x y,D x->D y->∀Q:Bool->af->Prop,Q (LT x y) s->ak (aq prog w) A (keyLt' κ x.1 y.1) Q (λ_ _=>False) s
 asym:∀x y,LT x y=true->LT y x=false
 neg:∀x y z,LT y x=false->LT z y=false->LT z x=false
section
variable{prog:aC}{w:av}{A:aA}{E:ae->af->Prop}{s:af}{κ:SortKind}{D:ao->Prop}{LT:ao->ao->Bool}
theorem qW{arr:Array ao}{i:Nat}{x:ao}{Q:ao->aI->Prop}{st:aI}(hx:arr[i]? = some x)(h:Q x st):wpS (aq prog w) A E s (elem' arr i) Q st:=by
 rw[elem'_eq,hx];exact au h
theorem g_(C:Cmp prog w A s κ D LT){x y:ao}(hx:D x)(hy:D y){Q:Option Bool->aI->Prop}{st:aI}(hk:kindOf st=κ)(h:Q (some (LT x y)) st):wpS (aq prog w) A E s (lt' x y) Q st:=by
 rw[lt'_eq];refine ar (wpS_get ?_);rw[hk];refine ar (wpS_lift (wpAny_attempt (bQ (C.lt x y hx hy (λb s'=>s'=s/\b=LT x y) ⟨rfl,rfl⟩) (λb s' hb=>?_) λ_ _ z=>z.elim)));obtain⟨rfl,rfl⟩:=hb;exact⟨rfl,au h⟩
noncomputable def bey(LT:ao->ao->Bool)(left:Bool)(key:ao)(x:ao):Bool:=if left then LT x key else !LT key x
theorem gv(C:Cmp prog w A s κ D LT){left:Bool}{key:ao}{arr:Array ao}{base n hint:Nat}{Q:Option Nat->aI->Prop}{st:aI}(hk:kindOf st=κ)(hkey:D key)(it:Nat->ao)(ha:∀i,i<n->arr[base+i]? = some (it i)/\D (it i))(hh:hint<n)
  (mono:∀i j,i<=j->j<n->bey LT left key (it j)=true->bey LT left key (it i)=true)
  (h:∀k,k<=n->(∀i,i<k->bey LT left key (it i)=true)->(∀i,k<=i->i<n->bey LT left key (it i)=false)->Q (some k) st):wpS (aq prog w) A E s (l_ left key arr base n hint) Q st:=by
 have ask:∀(i:Nat) (R:Option Bool->aI->Prop),i<n->R (some (bey LT left key (it i))) st->wpS (aq prog w) A E s (do
   let x <-elem' arr (base+i)
   if left=true then lt' x key else do
    let r <-lt' key x
    pure (r.map (!·))) R st:=λi R hi hR=>by
  obtain⟨h1,h2⟩:=ha i hi;refine ar (qW h1 ?_);cases left with
  |true=>rw[if_pos rfl];exact g_ C h2 hkey hk hR
  |false=>rw[if_neg (by decide)];exact ar (g_ C hkey h2 hk (au hR))
 have mono':∀i j,i<=j->j<n->bey LT left key (it i)=false->bey LT left key (it j)=false:=λi j hij hj hf=>by
  cases q:bey LT left key (it j)with
  |false=>rfl
  |true=>rw[mono i j hij hj q]at hf;cases hf
 -- the last loop
 have fin:∀(lo hi:Nat) (f:Nat->Option (Option Nat)×Nat×Nat->StateT aI Sem (ForInStep (Option (Option Nat)×Nat×Nat))) (g:Option (Option Nat)×Nat×Nat->StateT aI Sem (Option Nat)),lo<=hi->hi<=n ->
   (∀i,i<lo->bey LT left key (it i)=true)->(∀i,hi<=i->i<n->bey LT left key (it i)=false) ->
   (∀i lo hi R,lo >= hi->R (.done (none,lo,hi)) st->wpS (aq prog w) A E s (f i (none,lo,hi)) R st) ->
   (∀i lo hi R,¬ lo >= hi->hi<=n->R (if bey LT left key (it (lo+(hi-lo)/2))=true then .yield (none,lo+(hi-lo)/2+1,hi)else .yield (none,lo,lo+(hi-lo)/2)) st->wpS (aq prog w) A E s (f i (none,lo,hi)) R st) ->
   (∀lo hi,Q (some hi) st->wpS (aq prog w) A E s (g (none,lo,hi)) Q st) ->
   wpS (aq prog w) A E s (forIn [:n] (none,lo,hi) f>>=g) Q st:=by
  intro lo hi f g h1 h2 hlo hhi hf1 hf2 hg;refine ar (wpS_forRange (λi c st'=>st'=st/\c.1=none/\c.2.1<=c.2.2/\c.2.2<=n/\c.2.2-c.2.1<=n-i/\(∀i,i<c.2.1->bey LT left key (it i)=true)/\(∀i,c.2.2<=i->i<n->bey LT left key (it i)=false)) ?_ ?_ ⟨rfl,rfl,h1,h2,by show hi-lo<=n-0;lia,hlo,hhi⟩)
  ·rintro i ⟨c0,lo,hi⟩ st' _ hi' ⟨rfl,rfl,g1,g2,g3,g4,g5⟩;dsimp only at g1 g2 g3 g4 g5 ⊢;by_cases hge:lo >= hi
   ·have:lo=hi:=by lia
    subst this;exact hf1 _ _ _ _ hge (hg _ _ (h lo g2 g4 g5))
   ·refine hf2 _ _ _ _ hge g2 ?_;cases q:bey LT left key (it (lo+(hi-lo)/2))with
    |true=>
     rw[if_pos rfl];refine⟨rfl,rfl,?_,g2,?_,λj hj=>?_,g5⟩
     ·show lo+(hi-lo)/2+1<=hi;lia
     ·show hi-(lo+(hi-lo)/2+1)<=n-(i+1);lia
     ·exact mono j _ (by have:j<lo+(hi-lo)/2+1:=hj;lia) (by lia) q
    |false=>
     rw[if_neg (by decide)];refine⟨rfl,rfl,?_,?_,?_,g4,λj hj hjn=>?_⟩
     ·show lo<=lo+(hi-lo)/2;lia
     ·show lo+(hi-lo)/2<=n;lia
     ·show lo+(hi-lo)/2-lo<=n-(i+1);lia
     ·exact mono' _ j hj hjn q
  ·rintro⟨c0,lo,hi⟩ st' ⟨rfl,rfl,g1,g2,g3,g4,g5⟩;dsimp only at g1 g2 g3 g4 g5;have:lo=hi:=by lia
   subst this;exact hg _ _ (h lo g2 g4 g5)
 unfold l_;refine ar (ask hint _ hh ?_);cases q:bey LT left key (it hint)with
 |true=>
  dsimp only;rw[if_pos rfl];refine ar (wpS_forRange (λi c st'=>st'=st/\c.1=none/\c.2.1<c.2.2/\i+1<=c.2.2/\hint+c.2.1<n/\bey LT left key (it (hint+c.2.1))=true) ?_ ?_ ⟨rfl,rfl,by show 0<1;lia,by show 0+1<=1;lia,by show hint+0<n;lia,by show bey LT left key (it (hint+0))=true;exact q⟩)
  ·rintro i ⟨c0,la,ofs⟩ st' _ hi' ⟨rfl,rfl,g1,g2,g3,g4⟩;dsimp only at g1 g2 g3 g4 ⊢;by_cases hge:ofs >= n-hint
   ·rw[if_pos hge];refine au ?_;refine fin (hint+la+1) (hint+min ofs (n-hint)) _ _ (by lia) (by lia) (λj hj=>mono j _ (by lia) g3 g4) (λj hj hjn=>by lia) ?_ ?_ ?_
    ·intro i lo hi R hge hR;dsimp only;rw[if_pos hge];exact au hR
    ·intro i lo hi R hge hn hR;dsimp only;rw[if_neg hge];refine ar (ask _ _ (by lia) ?_);cases q9:bey LT left key (it (lo+(hi-lo)/2))with
     |true=>rw[q9]at hR;exact au hR
     |false=>rw[q9]at hR;exact au hR
    ·intro lo hi hQ;exact au hQ
   ·rw[if_neg hge];refine ar (ask _ _ (by lia) ?_);cases q2:bey LT left key (it (hint+ofs))with
    |false=>
     refine au ?_;refine fin (hint+la+1) (hint+min ofs (n-hint)) _ _ (by lia) (by lia) (λj hj=>mono j _ (by lia) g3 g4) (λj hj hjn=>mono' (hint+ofs) j (by lia) hjn q2) ?_ ?_ ?_
     ·intro i lo hi R hge hR;dsimp only;rw[if_pos hge];exact au hR
     ·intro i lo hi R hge hn hR;dsimp only;rw[if_neg hge];refine ar (ask _ _ (by lia) ?_);cases q9:bey LT left key (it (lo+(hi-lo)/2))with
      |true=>rw[q9]at hR;exact au hR
      |false=>rw[q9]at hR;exact au hR
     ·intro lo hi hQ;exact au hQ
    |true=>
     refine au ⟨rfl,rfl,?_,?_,?_,q2⟩
     ·show ofs<2 * ofs+1;lia
     ·show i+1+1<=2 * ofs+1;lia
     ·show hint+ofs<n;lia
  ·rintro⟨c0,la,ofs⟩ st' ⟨rfl,rfl,g1,g2,g3,g4⟩;dsimp only at g1 g2 g3 g4;refine fin (hint+la+1) (hint+min ofs (n-hint)) _ _ (by lia) (by lia) (λj hj=>mono j _ (by lia) g3 g4) (λj hj hjn=>by lia) ?_ ?_ ?_
   ·intro i lo hi R hge hR;dsimp only;rw[if_pos hge];exact au hR
   ·intro i lo hi R hge hn hR;dsimp only;rw[if_neg hge];refine ar (ask _ _ (by lia) ?_);cases q9:bey LT left key (it (lo+(hi-lo)/2))with
    |true=>rw[q9]at hR;exact au hR
    |false=>rw[q9]at hR;exact au hR
   ·intro lo hi hQ;exact au hQ
 |false=>
  dsimp only;rw[if_neg (by decide)];refine ar (wpS_forRange (λi c st'=>st'=st/\c.1=none/\c.2.1<c.2.2/\i+1<=c.2.2/\c.2.1<=hint/\bey LT left key (it (hint-c.2.1))=false) ?_ ?_ ⟨rfl,rfl,by show 0<1;lia,by show 0+1<=1;lia,by show 0<=hint;lia,by show bey LT left key (it (hint-0))=false;exact q⟩)
  ·rintro i ⟨c0,la,ofs⟩ st' _ hi' ⟨rfl,rfl,g1,g2,g3,g4⟩;dsimp only at g1 g2 g3 g4 ⊢;by_cases hge:ofs >= hint+1
   ·rw[if_pos hge];refine au ?_;refine fin (hint+1-min ofs (hint+1)) (hint-la) _ _ (by lia) (by lia) (λj hj=>by lia) (λj hj hjn=>mono' (hint-la) j (by lia) hjn g4) ?_ ?_ ?_
    ·intro i lo hi R hge hR;dsimp only;rw[if_pos hge];exact au hR
    ·intro i lo hi R hge hn hR;dsimp only;rw[if_neg hge];refine ar (ask _ _ (by lia) ?_);cases q9:bey LT left key (it (lo+(hi-lo)/2))with
     |true=>rw[q9]at hR;exact au hR
     |false=>rw[q9]at hR;exact au hR
    ·intro lo hi hQ;exact au hQ
   ·rw[if_neg hge];refine ar (ask _ _ (by lia) ?_);cases q2:bey LT left key (it (hint-ofs))with
    |true=>
     refine au ?_;refine fin (hint+1-min ofs (hint+1)) (hint-la) _ _ (by lia) (by lia) (λj hj=>mono j (hint-ofs) (by lia) (by lia) q2) (λj hj hjn=>mono' (hint-la) j (by lia) hjn g4) ?_ ?_ ?_
     ·intro i lo hi R hge hR;dsimp only;rw[if_pos hge];exact au hR
     ·intro i lo hi R hge hn hR;dsimp only;rw[if_neg hge];refine ar (ask _ _ (by lia) ?_);cases q9:bey LT left key (it (lo+(hi-lo)/2))with
      |true=>rw[q9]at hR;exact au hR
      |false=>rw[q9]at hR;exact au hR
     ·intro lo hi hQ;exact au hQ
    |false=>
     refine au ⟨rfl,rfl,?_,?_,?_,q2⟩
     ·show ofs<2 * ofs+1;lia
     ·show i+1+1<=2 * ofs+1;lia
     ·show ofs<=hint;lia
  ·rintro⟨c0,la,ofs⟩ st' ⟨rfl,rfl,g1,g2,g3,g4⟩;dsimp only at g1 g2 g3 g4;refine fin (hint+1-min ofs (hint+1)) (hint-la) _ _ (by lia) (by lia) (λj hj=>by lia) (λj hj hjn=>mono' (hint-la) j (by lia) hjn g4) ?_ ?_ ?_
   ·intro i lo hi R hge hR;dsimp only;rw[if_pos hge];exact au hR
   ·intro i lo hi R hge hn hR;dsimp only;rw[if_neg hge];refine ar (ask _ _ (by lia) ?_);cases q9:bey LT left key (it (lo+(hi-lo)/2))with
    |true=>rw[q9]at hR;exact au hR
    |false=>rw[q9]at hR;exact au hR
   ·intro lo hi hQ;exact au hQ
end
structure Wo(LT:ao->ao->Bool):Prop where
 asym:∀x y,LT x y=true->LT y x=false
 neg:∀x y z,LT y x=false->LT z y=false->LT z x=false
section
variable{LT:ao->ao->Bool}
theorem Wo.irr(W:Wo LT)(x:ao):LT x x=false:=by
 cases h:LT x x with
 |false=>rfl
 |true=>have:=W.asym x x h;rw[h]at this;cases this
theorem Wo.le_lt(W:Wo LT){x y z:ao}(h1:LT y x=false)(h2:LT y z=true):LT x z=true:=by
 cases h:LT x z with
 |true=>rfl
 |false=>have:=W.neg z x y h h1;rw[h2]at this;cases this
theorem Wo.lt_le(W:Wo LT){x y z:ao}(h1:LT x y=true)(h2:LT z y=false):LT x z=true:=by
 cases h:LT x z with
 |true=>rfl
 |false=>have:=W.neg y z x h2 h;rw[h1]at this;cases this
noncomputable def Srt(LT:ao->ao->Bool)(l:List ao):Prop:=l.Pairwise λx y=>LT y x=false
abbrev df:Keyed:=(bW,bW)
noncomputable def at'(a:Array ao)(i:Nat):Keyed:=a.getD i df
theorem qq{a:Array ao}{i:Nat}(h:i<a.size):a[i]? = some (at' a i):=by
 unfold at' Array.getD;rw[dif_pos h];exact Array.getElem?_eq_getElem h
theorem jA{a:Array ao}{i:Nat}(h:i<a.size):at' a i∈a.toList:=by
 have:=qq h;rw[<-Array.getElem?_toList]at this;exact List.mem_of_getElem? this
theorem zP(W:Wo LT){a:Array ao}(h:Srt LT a.toList){i j:Nat}(hij:i<=j)(hj:j<a.size):LT (at' a j) (at' a i)=false:=by
 by_cases e:i=j
 ·subst e;exact W.irr _
 ·have hi:i<a.toList.length:=by rw[a9];lia
  have hj':j<a.toList.length:=by rw[a9];lia
  have:=List.pairwise_iff_getElem.mp h i j hi hj' (by lia);have e1:=qq (a:=a) (i:=i) (by lia);have e2:=qq (a:=a) (i:=j) hj;rw[<-Array.getElem?_toList,List.getElem?_eq_getElem hi]at e1;rw[<-Array.getElem?_toList,List.getElem?_eq_getElem hj']at e2;injection e1 with e1
  injection e2 with e2
  rw[<-e1,<-e2];exact this
theorem qy{a:Array ao}{i j:Nat}{x:ao}(h:x∈(a.extract i j).toList):∃k,i<=k/\k<j/\k<a.size/\x=at' a k:=by
 obtain⟨m,hm⟩:=List.mem_iff_getElem?.mp h;rw[Array.getElem?_toList,Array.getElem?_extract]at hm;split at hm
 ·rename_i hlt
  have hk:i+m<a.size:=(Array.getElem?_eq_some_iff.mp hm).1;rw[qq hk]at hm;injection hm with hm
  exact⟨i+m,by lia,by lia,hk,hm.symm⟩
 ·cases hm
theorem zE(a:Array ao)(i j:Nat):(a.extract i j).toList=(a.toList.drop i).take (j-i):=by
 simp[Array.toList_extract]
theorem zU{a:Array ao}(h:Srt LT a.toList)(i j:Nat):Srt LT (a.extract i j).toList:=by
 rw[zE];exact(h.sublist (List.drop_sublist _ _)).sublist (List.take_sublist _ _)
structure MI(LT:ao->ao->Bool)(a b out:Array ao)(ia ib:Nat):Prop where
 pm:out.toList.Perm (a.toList.take ia++b.toList.take ib)
 sr:Srt LT out.toList
 la:∀x∈out.toList,∀j,ia<=j->j<a.size->LT (at' a j) x=false
 lb:∀x∈out.toList,∀j,ib<=j->j<b.size->LT (at' b j) x=false
variable{a b out:Array ao}{ia ib:Nat}
theorem pX{l:List ao}{i k:Nat}:l.take (i+k)=l.take i++(l.drop i).take k:=List.take_add
theorem MI.takeA(W:Wo LT)(h:MI LT a b out ia ib)(Sa:Srt LT a.toList)(k:Nat)(hb:∀i,ia<=i->i<ia+k->i<a.size->∀j,ib<=j->j<b.size->LT (at' b j) (at' a i)=false):MI LT a b (out++a.extract ia (ia+k)) (ia+k) ib:=by
 refine⟨?_,?_,λx hx j h1 h2=>?_,λx hx j h1 h2=>?_⟩
 ·rw[bg,zE,pX,show ia+k-ia=k by lia];refine(h.pm.append_right _).trans ?_;rw[bq,bq];exact(List.perm_append_comm).append_left _
 ·rw[bg];refine List.pairwise_append.mpr ⟨h.sr,zU Sa _ _,λx hx y hy=>?_⟩;obtain⟨i,g1,g2,g3,rfl⟩:=qy hy;exact h.la x hx i g1 g3
 ·rw[bg]at hx;rcases List.mem_append.mp hx with hx|hx
  ·exact h.la x hx j (by lia) h2
  ·obtain⟨i,g1,g2,g3,rfl⟩:=qy hx;exact zP W Sa (by lia) h2
 ·rw[bg]at hx;rcases List.mem_append.mp hx with hx|hx
  ·exact h.lb x hx j h1 h2
  ·obtain⟨i,g1,g2,g3,rfl⟩:=qy hx;exact hb i g1 g2 g3 j h1 h2
theorem MI.takeB(W:Wo LT)(h:MI LT a b out ia ib)(Sb:Srt LT b.toList)(k:Nat)(hb:∀i,ib<=i->i<ib+k->i<b.size->∀j,ia<=j->j<a.size->LT (at' a j) (at' b i)=false):MI LT a b (out++b.extract ib (ib+k)) ia (ib+k):=by
 refine⟨?_,?_,λx hx j h1 h2=>?_,λx hx j h1 h2=>?_⟩
 ·rw[bg,zE,pX,show ib+k-ib=k by lia,<-bq];exact h.pm.append_right _
 ·rw[bg];refine List.pairwise_append.mpr ⟨h.sr,zU Sb _ _,λx hx y hy=>?_⟩;obtain⟨i,g1,g2,g3,rfl⟩:=qy hy;exact h.lb x hx i g1 g3
 ·rw[bg]at hx;rcases List.mem_append.mp hx with hx|hx
  ·exact h.la x hx j h1 h2
  ·obtain⟨i,g1,g2,g3,rfl⟩:=qy hx;exact hb i g1 g2 g3 j h1 h2
 ·rw[bg]at hx;rcases List.mem_append.mp hx with hx|hx
  ·exact h.lb x hx j (by lia) h2
  ·obtain⟨i,g1,g2,g3,rfl⟩:=qy hx;exact zP W Sb (by lia) h2
theorem kn{a out:Array ao}{i:Nat}(h:i<a.size):out.push (at' a i)=out++a.extract i (i+1):=by
 apply Array.toList_inj.mp;rw[Array.toList_push,bg,zE,show i+1-i=1 by lia]
 congr 1
 have hl:i<a.toList.length:=by rw[a9];exact h
 rw[dg hl];have e1:=qq (a:=a) (i:=i) h;rw[<-Array.getElem?_toList,List.getElem?_eq_getElem hl]at e1;injection e1 with e1
 rw[e1];rfl
theorem MI.pushA(W:Wo LT)(h:MI LT a b out ia ib)(Sa:Srt LT a.toList)(Sb:Srt LT b.toList)(hi:ia<a.size)(hb:ib<b.size->LT (at' b ib) (at' a ia)=false):MI LT a b (out.push (at' a ia)) (ia+1) ib:=by
 rw[kn hi];refine h.takeA W Sa 1 λi h1 h2 _ j g1 g2=>?_
 have:i=ia:=by lia
 subst this;exact W.neg _ _ _ (hb (by lia)) (zP W Sb g1 g2)
theorem MI.pushB(W:Wo LT)(h:MI LT a b out ia ib)(Sa:Srt LT a.toList)(Sb:Srt LT b.toList)(hi:ib<b.size)(hb:ia<a.size->LT (at' b ib) (at' a ia)=true):MI LT a b (out.push (at' b ib)) ia (ib+1):=by
 rw[kn hi];refine h.takeB W Sb 1 λi h1 h2 _ j g1 g2=>?_
 have:i=ib:=by lia
 subst this;exact W.neg _ _ _ (W.asym _ _ (hb (by lia))) (zP W Sa g1 g2)
noncomputable def Mg(LT:ao->ao->Bool)(a b r:Array ao):Prop:=r.toList.Perm (a.toList++b.toList)/\Srt LT r.toList
theorem MI.done(W:Wo LT)(h:MI LT a b out ia ib)(Sa:Srt LT a.toList)(Sb:Srt LT b.toList)(he:ib=b.size\/ia=a.size):Mg LT a b (out++a.extract ia++b.extract ib):=by
 have ea:(a.extract ia).toList=a.toList.drop ia:=by
  rw[zE];exact List.take_of_length_le (by simp)
 have eb:(b.extract ib).toList=b.toList.drop ib:=by
  rw[zE];exact List.take_of_length_le (by simp)
 refine⟨?_,?_⟩
 ·rw[bg,bg,ea,eb];refine((h.pm.append_right _).append_right _).trans ?_;have e1:=bE ia a.toList;have e2:=bE ib b.toList;rcases he with he|he
  ·have z1:b.toList.drop ib=[]:=List.drop_eq_nil_of_le (by rw[a9];lia);have z2:b.toList.take ib=b.toList:=List.take_of_length_le (by rw[a9];lia);rw[z1,z2,bZ,bq];refine(List.perm_append_comm.append_left _).trans ?_;rw[<-bq,e1]
  ·have z1:a.toList.drop ia=[]:=List.drop_eq_nil_of_le (by rw[a9];lia);have z2:a.toList.take ia=a.toList:=List.take_of_length_le (by rw[a9];lia);rw[z1,z2,bZ,bq,e2]
 ·rw[bg,bg];refine List.pairwise_append.mpr ⟨List.pairwise_append.mpr ⟨h.sr,zU Sa _ _,λx hx y hy=>?_⟩,zU Sb _ _,λx hx y hy=>?_⟩
  ·obtain⟨i,g1,g2,g3,rfl⟩:=qy hy;exact h.la x hx i g1 g3
  ·obtain⟨i,g1,g2,g3,rfl⟩:=qy hy;rcases List.mem_append.mp hx with hx|hx
   ·exact h.lb x hx i g1 g3
   ·obtain⟨j,k1,k2,k3,rfl⟩:=qy hx;lia
theorem MI.last(W:Wo LT)(h:MI LT a b out ia ib)(Sa:Srt LT a.toList)(Sb:Srt LT b.toList)(hl:ia+1=a.size)(hb:∀j,j<b.size->LT (at' b j) (at' a ia)=true):Mg LT a b (out++b.extract ib++a.extract ia):=by
 have ea:(a.extract ia).toList=a.toList.drop ia:=by
  rw[zE];exact List.take_of_length_le (by simp)
 have eb:(b.extract ib).toList=b.toList.drop ib:=by
  rw[zE];exact List.take_of_length_le (by simp)
 refine⟨?_,?_⟩
 ·rw[bg,bg,ea,eb];refine((h.pm.append_right _).append_right _).trans ?_;have e1:=bE ia a.toList;have e2:=bE ib b.toList;rw[bq (a.toList.take ia),e2];refine(List.perm_append_comm.append_right _).trans ?_;rw[bq,e1];exact List.perm_append_comm
 ·rw[bg,bg];refine List.pairwise_append.mpr ⟨List.pairwise_append.mpr ⟨h.sr,zU Sb _ _,λx hx y hy=>?_⟩,zU Sa _ _,λx hx y hy=>?_⟩
  ·obtain⟨i,g1,g2,g3,rfl⟩:=qy hy;exact h.lb x hx i g1 g3
  ·obtain⟨i,g1,g2,g3,rfl⟩:=qy hy;rcases List.mem_append.mp hx with hx|hx
   ·exact h.la x hx i g1 g3
   ·obtain⟨j,k1,k2,k3,rfl⟩:=qy hx;have:i=ia:=by lia
    subst this;exact W.asym _ _ (hb j k3)
end
abbrev setG(st:aI)(g:Nat):SortSt:=aI.mk' (kindOf st) (ah st) (a7 st) g (failedOf st)
section
variable{prog:aC}{w:av}{A:aA}{E:ae->af->Prop}{s:af}{κ:SortKind}{D:ao->Prop}{LT:ao->ao->Bool}
theorem Cmp.wo(C:Cmp prog w A s κ D LT):Wo LT:=⟨C.asym,C.neg⟩
theorem lF(W:Wo LT){a:Array ao}(S:Srt LT a.toList){left:Bool}{key:ao}{base n:Nat}(hn:base+n<=a.size):∀i j,i<=j->j<n->bey LT left key (at' a (base+j))=true->bey LT left key (at' a (base+i))=true:=by
 intro i j hij hj h;have o:=zP W S (show base+i<=base+j by lia) (by lia);cases left with
 |true=>
  have h:LT (at' a (base+j)) key=true:=h;show LT (at' a (base+i)) key=true;exact W.le_lt o h
 |false=>
  have h:(!LT key (at' a (base+j)))=true:=h;show (!LT key (at' a (base+i)))=true;have h':LT key (at' a (base+j))=false:=by simpa using h
  rw[W.neg _ _ _ o h'];rfl
theorem share1{α γ:Type}{M:Model}{c:α->Prop} [∀u,Decidable (c u)]{X F:α->StateT aI Sem γ}{Q:γ->aI->Prop}{st:aI}(hG:(∀u,wpS M A E s (F u) Q st)->∀u,wpS M A E s (if c u then X u else F u) Q st)(H:∀u,wpS M A E s (F u) Q st):∀u,wpS M A E s (if c u then X u else F u) Q st:=hG H
theorem i8{α β γ:Type}{M:Model}{c:Prop} [Decidable c]{X F:α->β->StateT aI Sem γ}{x:α}{y:β}{Q:γ->aI->Prop}{st:aI}(C:α->β->Prop)(hG:(∀u v,C u v->wpS M A E s (F u v) Q st)->∀u,x=u->∀v,y=v->wpS M A E s (if c then X u v else F u v) Q st)(H:∀u v,C u v->wpS M A E s (F u v) Q st):∀u,x=u->∀v,y=v->wpS M A E s (if c then X u v else F u v) Q st:=hG H
theorem mi0{a b:Array ao}:MI LT a b #[] 0 0:=⟨by simp,by simp[Srt],by simp,by simp⟩
theorem BH(C:Cmp prog w A s κ D LT){a b:Array ao}{st:aI}{Q:Array ao->aI->Prop}(hk:kindOf st=κ)(Da:∀i,i<a.size->D (at' a i))(Db:∀i,i<b.size->D (at' b i))(Sa:Srt LT a.toList)(Sb:Srt LT b.toList)
  (ha:0<a.size) (hb:0<b.size) (h0:LT (at' b 0) (at' a 0)=true) (hl:∀j,j<b.size->LT (at' b j) (at' a (a.size-1))=true) (h:∀r g,Mg LT a b r->Q r (setG st g)):wpS (aq prog w) A E s (pe a b) Q st:=by
 have W:=C.wo;have lastA:∀{ia:Nat},ia+1=a.size->∀j,j<b.size->LT (at' b j) (at' a ia)=true:=λ{ia} e j hj=>by
  have:ia=a.size-1:=by lia
  rw[this];exact hl j hj
 unfold pe;refine ar (wpS_lift (wpAny_rule ⟨rfl,?_⟩));refine ar (qW (qq hb) ?_);have M1:MI LT a b #[at' b 0] 0 1:=(mi0 (LT:=LT)).pushB W Sa Sb hb λ_=>h0
 dsimp only;refine wpI (λe1=>?_) λe1=>?_
 ·exact au (h _ (gallopOf st) (M1.done W Sa Sb (.inl (by simpa using e1))))
 refine wpI (λe2=>?_) λe2=>?_
 ·exact au (h _ (gallopOf st) (M1.last W Sa Sb (by simpa using e2) (lastA (by simpa using e2))))
 have e1':1≠b.size:=by simpa using e1
 have e2':1≠a.size:=by simpa using e2
 refine ar (wpS_get ?_);refine ar (wpS_mono (Q:=λc st'=>∃r g,c.1=some r/\Mg LT a b r/\st'=setG st g) ?_ ?_)
 ·refine wpS_forRange (λi c st'=>∃g,st'=setG st g/\c.1=none/\MI LT a b c.2.1 c.2.2.1 c.2.2.2.1/\c.2.2.1+1<a.size/\c.2.2.2.1<b.size/\i<=c.2.2.1+c.2.2.2.1) ?_ ?_ ⟨gallopOf st,rfl,rfl,M1,by show 0+1<a.size;lia,by show 1<b.size;lia,br _⟩
  ·refine λi=>pr5 λc0 out ia ib mg st' _ hi x=>exE (λg y=>stE y.1 ?_) x
   clear x;have M:=y.2.2.1;have h1:=y.2.2.2.1;have h2:=y.2.2.2.2.1;have h3:=y.2.2.2.2.2;clear y;dsimp only at M h1 h2 h3 ⊢;refine ar (wpS_mono (Q:=λc st'=>st'=setG st g/\((∃r,c.1=some r/\Mg LT a b r)\/(c.1=none/\MI LT a b c.2.1 c.2.2.1 c.2.2.2.1/\c.2.2.1+1<a.size/\c.2.2.2.1<b.size/\ia+ib+1<=c.2.2.1+c.2.2.2.1))) ?_ ?_)
   ·refine wpS_forRange (λj c st'=>st'=setG st g/\c.1=none/\MI LT a b c.2.1 c.2.2.1 c.2.2.2.1/\c.2.2.1+1<a.size/\c.2.2.2.1<b.size/\ia+ib+j<=c.2.2.1+c.2.2.2.1) ?_ ?_ ⟨rfl,rfl,M,h1,h2,aD _⟩
    ·refine λj=>pr6 λc0 out ia2 ib2 ac bc st' _ hj y=>stE y.1 ?_
     have M:=y.2.2.1;have h1:=y.2.2.2.1;have h2:=y.2.2.2.2.1;have h3:=y.2.2.2.2.2;clear y;dsimp only at M h1 h2 h3 ⊢;refine ar (qW (qq h2) ?_);refine ar (qW (qq (show ia2<a.size by lia)) ?_);refine ar (g_ C (Db _ h2) (Da _ (by lia)) hk ?_);dsimp only;refine wpI (λq=>?_) λq=>?_
     ·refine ar (qW (qq h2) ?_);have M2:=M.pushB W Sa Sb h2 λ_=>q
      refine wpI (λe3=>?_) λe3=>?_
      ·exact au ⟨rfl,.inl ⟨_,rfl,M2.done W Sa Sb (.inl (by simpa using e3))⟩⟩
      have e3':ib2+1≠b.size:=by simpa using e3
      refine wpI (λe4=>?_) λe4=>?_
      ·exact au ⟨rfl,.inr ⟨rfl,M2,h1,by show ib2+1<b.size;lia,by show ia+ib+1<=ia2+(ib2+1);lia⟩⟩
      ·exact au ⟨rfl,rfl,M2,h1,by show ib2+1<b.size;lia,by show ia+ib+(j+1)<=ia2+(ib2+1);lia⟩
     ·have q:=eq_false_of_ne_true q;refine ar (qW (qq (show ia2<a.size by lia)) ?_);have M2:=M.pushA W Sa Sb (by lia) λ_=>q
      refine wpI (λe3=>?_) λe3=>?_
      ·exact au ⟨rfl,.inl ⟨_,rfl,M2.last W Sa Sb (by simpa using e3) (lastA (by simpa using e3))⟩⟩
      have e3':ia2+1+1≠a.size:=by simpa using e3
      refine wpI (λe4=>?_) λe4=>?_
      ·exact au ⟨rfl,.inr ⟨rfl,M2,by show ia2+1+1<a.size;lia,h2,by show ia+ib+1<=ia2+1+ib2;lia⟩⟩
      ·exact au ⟨rfl,rfl,M2,by show ia2+1+1<a.size;lia,h2,by show ia+ib+(j+1)<=ia2+1+ib2;lia⟩
    ·rintro⟨c0,out,ia2,ib2,ac,bc⟩ st' ⟨rfl,rfl,M,h1,h2,h3⟩;dsimp only at M h1 h2 h3;exact absurd h3 (by lia)
   ·refine pr6 λc0 out ia2 ib2 ac bc st' y=>stE y.1 ?_
    have hc:=y.2;clear y;dsimp only at hc ⊢;rcases hc with ⟨r,rfl,hm⟩|⟨rfl,M,h1,h2,h3⟩
    ·exact au ⟨r,g,rfl,hm,rfl⟩
    dsimp only;refine ar (wpS_lift (wpAny_rule ⟨rfl,?_⟩));refine ar (wpS_mono (Q:=λc st'=>∃g,st'=setG st g/\((∃r,c.1=some r/\Mg LT a b r)\/(c.1=none/\MI LT a b c.2.1 c.2.2.1 c.2.2.2.1/\c.2.2.1+1<a.size/\c.2.2.2.1<b.size/\ia+ib+1<=c.2.2.1+c.2.2.2.1))) ?_ ?_)
    ·refine wpS_forRange (λj c st'=>∃g,st'=setG st g/\c.1=none/\MI LT a b c.2.1 c.2.2.1 c.2.2.2.1/\c.2.2.1+1<a.size/\c.2.2.2.1<b.size/\ia+ib+1+j<=c.2.2.1+c.2.2.2.1) ?_ ?_ ⟨g,rfl,rfl,M,h1,h2,h3⟩
     ·clear M h1 h2 h3;refine λj=>pr7 λc0 out ia2 ib2 mg2 ac bc st' _ hj x=>exE (λg y=>stE y.1 ?_) x
      clear x;have M:=y.2.2.1;have h1:=y.2.2.2.1;have h2:=y.2.2.2.2.1;have h3:=y.2.2.2.2.2;clear y;dsimp only at M h1 h2 h3 ⊢;revert mg2;refine share1 (λH mg2=>?_) ?_
      ·show wpS _ _ _ _ _ _ _;by_cases e0:¬ mg2>1
       ·rw[if_neg e0];exact H mg2
       ·rw[if_pos (Decidable.not_not.mp e0)];exact H (mg2-1)
      intro mg3;refine ar (wpS_modify ?_);refine ar (qW (qq h2) ?_);refine ar (gv C hk (Db _ h2) (λi=>at' a (ia2+i)) (λi hi=>⟨qq (by lia),Da _ (by lia)⟩) (by lia) (lF W Sa (by lia)) λk l1 l2 l3=>?_);dsimp only;have t2:∀i,ia2<=i->i<ia2+k->LT (at' b ib2) (at' a i)=false:=λi g1 g2=>by
       have:=l2 (i-ia2) (by lia);rw[show ia2+(i-ia2)=i by lia]at this;have this:(!LT (at' b ib2) (at' a i))=true:=this
       simpa using this
      have t3:ia2+k<a.size->LT (at' b ib2) (at' a (ia2+k))=true:=λz=>by
       have:=l3 k (aD _) (by lia);have this:(!LT (at' b ib2) (at' a (ia2+k)))=false:=this
       simpa using this
      generalize hu:out=u;generalize hv:ia2=v;revert u v;refine i8 (λout' ia'=>MI LT a b out' ia' ib2/\ia'+1<a.size/\ia2<=ia'/\LT (at' b ib2) (at' a ia')=true) (λH u hu v hv=>?_) ?_
      ·subst hu;subst hv;by_cases e4:¬ k>0
       ·rw[if_neg e4];refine H out ia2 ⟨M,h1,aD _,?_⟩;have:=t3 (by lia);rw[show k=0 by lia]at this;exact this
       ·rw[if_pos (Decidable.not_not.mp e4)];have M2:=M.takeA W Sa k λi g1 g2 _ j' g3 g4=>W.neg _ _ _ (t2 i g1 g2) (zP W Sb g3 g4)
        refine wpI (λe3=>?_) λe3=>?_
        ·exact au ⟨_,rfl,.inl ⟨_,rfl,M2.last W Sa Sb (by simpa using e3) (lastA (by simpa using e3))⟩⟩
        have e3':ia2+k+1≠a.size:=by simpa using e3
        refine wpI (λe9=>?_) λe9=>?_
        ·exact au ⟨_,rfl,.inl ⟨_,rfl,M2.done W Sa Sb (.inr (by simpa using e9))⟩⟩
        have e9':ia2+k≠a.size:=by simpa using e9
        exact H _ _ ⟨M2,by lia,by lia,t3 (by lia)⟩
      rintro out3 ia3 ⟨M2,hia,hge,q2⟩
      try dsimp only
      refine ar (qW (qq h2) ?_);have M3:=M2.pushB W Sa Sb h2 λ_=>q2
      refine wpI (λe5=>?_) λe5=>?_
      ·exact au ⟨_,rfl,.inl ⟨_,rfl,M3.done W Sa Sb (.inl (by simpa using e5))⟩⟩
      have e5':ib2+1≠b.size:=by simpa using e5
      refine ar (qW (qq (show ia3<a.size by lia)) ?_);generalize out3.push (at' b ib2)=out5 at M3 ⊢;have hY:∃n,ib2+1=n:=⟨_,rfl⟩
      obtain⟨ib3,hY⟩:=hY;rw[hY]at M3 e5' ⊢;refine ar (gv C hk (Da _ (by lia)) (λi=>at' b (ib3+i)) (λi hi=>⟨qq (by lia),Db _ (by lia)⟩) (by lia) (lF W Sb (by lia)) λk' l1 l2 l3=>?_);dsimp only;have t2:∀i,ib3<=i->i<ib3+k'->LT (at' b i) (at' a ia3)=true:=λi g1 g2=>by
       have:=l2 (i-ib3) (by lia);rw[show ib3+(i-ib3)=i by lia]at this;exact this
      have t3:ib3+k'<b.size->LT (at' b (ib3+k')) (at' a ia3)=false:=λz=>l3 k' (aD _) (by lia)
      generalize hu:out5=u;generalize hv:ib3=v;revert u v;refine i8 (λout' ib'=>MI LT a b out' ia3 ib'/\ib'<b.size/\ib3<=ib'/\LT (at' b ib') (at' a ia3)=false) (λH u hu v hv=>?_) ?_
      ·subst hu;subst hv;by_cases e6:¬ k'>0
       ·rw[if_neg e6];refine H out5 ib3 ⟨M3,by lia,aD _,?_⟩;have:=t3 (by lia);rw[show k'=0 by lia]at this;exact this
       ·rw[if_pos (Decidable.not_not.mp e6)];have M4:=M3.takeB W Sb k' λi g1 g2 _ j' g3 g4=>W.neg _ _ _ (W.asym _ _ (t2 i g1 g2)) (zP W Sa g3 g4)
        refine wpI (λe8=>?_) λe8=>?_
        ·exact au ⟨_,rfl,.inl ⟨_,rfl,M4.done W Sa Sb (.inl (by simpa using e8))⟩⟩
        have e8':ib3+k'≠b.size:=by simpa using e8
        exact H _ _ ⟨M4,by lia,by lia,t3 (by lia)⟩
      rintro out4 ib4 ⟨M4,hib,hgb,q5⟩
      try dsimp only
      refine ar (qW (qq (show ia3<a.size by lia)) ?_);have M5:=M4.pushA W Sa Sb (show ia3<a.size by lia) λ_=>q5
      refine wpI (λe7=>?_) λe7=>?_
      ·exact au ⟨_,rfl,.inl ⟨_,rfl,M5.last W Sa Sb (by simpa using e7) (lastA (by simpa using e7))⟩⟩
      have e7':ia3+1+1≠a.size:=by simpa using e7
      split
      ·exact au ⟨_,rfl,.inr ⟨rfl,M5,by show ia3+1+1<a.size;lia,by show ib4<b.size;lia,by show ia+ib+1<=ia3+1+ib4;lia⟩⟩
      ·exact au ⟨_,rfl,rfl,M5,by show ia3+1+1<a.size;lia,by show ib4<b.size;lia,by show ia+ib+1+(j+1)<=ia3+1+ib4;lia⟩
     ·clear M h1 h2 h3;rintro⟨c0,out,ia2,ib2,mg2,ac,bc⟩ st' ⟨g,rfl,rfl,M,h1,h2,h3⟩;dsimp only at M h1 h2 h3;exact absurd h3 (by lia)
    ·refine pr7 λc0 out ia2 ib2 mg2 ac bc st' x=>exE (λg y=>stE y.1 ?_) x
     clear x;have hc:=y.2;clear y;dsimp only at hc ⊢;rcases hc with ⟨r,rfl,hm⟩|⟨rfl,M,h1,h2,h3⟩
     ·exact au ⟨r,g,rfl,hm,rfl⟩
     dsimp only;refine ar (wpS_modify ?_);exact au ⟨mg2+1,rfl,rfl,M,h1,h2,by show i+1<=ia2+ib2;lia⟩
  ·rintro⟨c0,out,ia,ib,mg⟩ st' ⟨g,rfl,rfl,M,h1,h2,h3⟩;dsimp only at M h1 h2 h3;exact absurd h3 (by lia)
 ·rintro⟨c0,out,ia,ib,mg⟩ st' ⟨r,g,hr,hm,rfl⟩;dsimp only at hr ⊢;subst hr;exact au (h r g hm)
end
section
variable{LT:ao->ao->Bool}
structure MH(LT:ao->ao->Bool)(a b out:Array ao)(na nb:Nat):Prop where
 pm:out.toList.Perm (a.toList.drop na++b.toList.drop nb)
 sr:Srt LT out.toList.reverse
 la:∀x∈out.toList,∀j,j<na->LT x (at' a j)=false
 lb:∀x∈out.toList,∀j,j<nb->LT x (at' b j)=false
variable{a b out:Array ao}{na nb:Nat}
theorem oX{l:List ao}{m n:Nat}(h:m<=n):l.drop m=(l.drop m).take (n-m)++l.drop n:=by
 have:=(bE (n-m) (l.drop m)).symm;rw[List.drop_drop,show m+(n-m)=n by lia]at this;exact this
theorem MH.takeA(W:Wo LT)(h:MH LT a b out na nb)(Sa:Srt LT a.toList)(hna:na<=a.size)(m:Nat)(hm:m<=na)(hb:∀i,m<=i->i<na->∀j,j<nb->LT (at' a i) (at' b j)=false):MH LT a b (out++(a.extract m na).reverse) m nb:=by
 have mem:∀{x},x∈(out++(a.extract m na).reverse).toList->x∈out.toList\/x∈(a.extract m na).toList:=λ{x} hx=>by
  rw[bg,Array.toList_reverse]at hx;rcases List.mem_append.mp hx with hx|hx
  ·exact .inl hx
  ·exact .inr (List.mem_reverse.mp hx)
 refine⟨?_,?_,λx hx j h1=>?_,λx hx j h1=>?_⟩
 ·rw[bg,Array.toList_reverse,zE];have e:=oX (l:=a.toList) hm;generalize (a.toList.drop m).take (na-m)=T at e ⊢;rw[e];refine(h.pm.append (List.reverse_perm _)).trans ?_;refine List.perm_append_comm.trans ?_;rw[bq]
 ·rw[bg,Array.toList_reverse,List.reverse_append,List.reverse_reverse];refine List.pairwise_append.mpr ⟨zU Sa _ _,h.sr,λx hx y hy=>?_⟩;obtain⟨i,g1,g2,g3,rfl⟩:=qy hx;exact h.la y (List.mem_reverse.mp hy) i g2
 ·rcases mem hx with hx|hx
  ·exact h.la x hx j (by lia)
  ·obtain⟨i,g1,g2,g3,rfl⟩:=qy hx;exact zP W Sa (by lia) g3
 ·rcases mem hx with hx|hx
  ·exact h.lb x hx j h1
  ·obtain⟨i,g1,g2,g3,rfl⟩:=qy hx;exact hb i g1 g2 j h1
theorem MH.takeB(W:Wo LT)(h:MH LT a b out na nb)(Sb:Srt LT b.toList)(hnb:nb<=b.size)(m:Nat)(hm:m<=nb)(hb:∀i,m<=i->i<nb->∀j,j<na->LT (at' b i) (at' a j)=false):MH LT a b (out++(b.extract m nb).reverse) na m:=by
 have mem:∀{x},x∈(out++(b.extract m nb).reverse).toList->x∈out.toList\/x∈(b.extract m nb).toList:=λ{x} hx=>by
  rw[bg,Array.toList_reverse]at hx;rcases List.mem_append.mp hx with hx|hx
  ·exact .inl hx
  ·exact .inr (List.mem_reverse.mp hx)
 refine⟨?_,?_,λx hx j h1=>?_,λx hx j h1=>?_⟩
 ·rw[bg,Array.toList_reverse,zE];have e:=oX (l:=b.toList) hm;generalize (b.toList.drop m).take (nb-m)=T at e ⊢;rw[e];refine(h.pm.append (List.reverse_perm _)).trans ?_;rw[bq];exact List.perm_append_comm.append_left _
 ·rw[bg,Array.toList_reverse,List.reverse_append,List.reverse_reverse];refine List.pairwise_append.mpr ⟨zU Sb _ _,h.sr,λx hx y hy=>?_⟩;obtain⟨i,g1,g2,g3,rfl⟩:=qy hx;exact h.lb y (List.mem_reverse.mp hy) i g2
 ·rcases mem hx with hx|hx
  ·exact h.la x hx j h1
  ·obtain⟨i,g1,g2,g3,rfl⟩:=qy hx;exact hb i g1 g2 j h1
 ·rcases mem hx with hx|hx
  ·exact h.lb x hx j (by lia)
  ·obtain⟨i,g1,g2,g3,rfl⟩:=qy hx;exact zP W Sb (by lia) g3
theorem rf{a out:Array ao}{i:Nat}(h:i<a.size):out.push (at' a i)=out++(a.extract i (i+1)).reverse:=by
 have:=kn (out:=(#[]:Array ao)) h;have e:a.extract i (i+1) = #[at' a i]:=by
  have h2:(#[]:Array ao)++a.extract i (i+1)=a.extract i (i+1):=by simp
  rw[h2]at this;rw[<-this];rfl
 rw[e];simp
theorem MH.pushA(W:Wo LT)(h:MH LT a b out (na+1) nb)(Sa:Srt LT a.toList)(Sb:Srt LT b.toList)(hi:na<a.size)(hnb:nb<=b.size)(hb:0<nb->LT (at' b (nb-1)) (at' a na)=true):MH LT a b (out.push (at' a na)) na nb:=by
 rw[rf hi];refine h.takeA W Sa (by lia) na (by lia) λi h1 h2 j g1=>?_
 have:i=na:=by lia
 subst this;exact W.neg _ _ _ (zP W Sb (show j<=nb-1 by lia) (by lia)) (W.asym _ _ (hb (by lia)))
theorem MH.pushB(W:Wo LT)(h:MH LT a b out na (nb+1))(Sa:Srt LT a.toList)(Sb:Srt LT b.toList)(hi:nb<b.size)(hna:na<=a.size)(hb:0<na->LT (at' b nb) (at' a (na-1))=false):MH LT a b (out.push (at' b nb)) na nb:=by
 rw[rf hi];refine h.takeB W Sb (by lia) nb (by lia) λi h1 h2 j g1=>?_
 have:i=nb:=by lia
 subst this;exact W.neg _ _ _ (zP W Sa (show j<=na-1 by lia) (by lia)) (hb (by lia))
theorem jb(a:Array ao)(n:Nat):(a.extract 0 n).toList=a.toList.take n:=by
 rw[zE,List.drop_zero];rfl
theorem MH.done(W:Wo LT)(h:MH LT a b out na nb)(Sa:Srt LT a.toList)(Sb:Srt LT b.toList)(he:na=0\/nb=0):Mg LT a b (a.extract 0 na++b.extract 0 nb++out.reverse):=by
 refine⟨?_,?_⟩
 ·rw[bg,bg,Array.toList_reverse,jb,jb];refine((List.reverse_perm _).trans h.pm).append_left _ |>.trans ?_;have e1:=bE na a.toList;have e2:=bE nb b.toList;rcases he with he|he
  ·subst he;rw[List.take_zero,List.drop_zero,List.nil_append];refine List.perm_append_comm.trans ?_;rw[bq];refine(List.perm_append_comm.append_left _).trans ?_;rw[e2]
  ·subst he;rw[List.take_zero,List.drop_zero,bZ,<-bq,e1]
 ·rw[bg,bg,Array.toList_reverse];refine List.pairwise_append.mpr ⟨List.pairwise_append.mpr ⟨zU Sa _ _,zU Sb _ _,λx hx y hy=>?_⟩,h.sr,λx hx y hy=>?_⟩
  ·obtain⟨i,g1,g2,g3,rfl⟩:=qy hx;obtain⟨j,k1,k2,k3,rfl⟩:=qy hy;lia
  ·have hy:=List.mem_reverse.mp hy;rcases List.mem_append.mp hx with hx|hx
   ·obtain⟨i,g1,g2,g3,rfl⟩:=qy hx;exact h.la y hy i g2
   ·obtain⟨i,g1,g2,g3,rfl⟩:=qy hx;exact h.lb y hy i g2
theorem MH.first(W:Wo LT)(h:MH LT a b out na nb)(Sa:Srt LT a.toList)(Sb:Srt LT b.toList)(hl:nb=1)(hb:∀j,j<a.size->LT (at' b 0) (at' a j)=true):Mg LT a b (b.extract 0 nb++a.extract 0 na++out.reverse):=by
 subst hl;refine⟨?_,?_⟩
 ·rw[bg,bg,Array.toList_reverse,jb,jb];refine((List.reverse_perm _).trans h.pm).append_left _ |>.trans ?_;have e1:=bE na a.toList;have e2:=bE 1 b.toList;rw[bq,<-bq (a.toList.take na),e1];refine List.perm_append_comm.trans ?_;rw[bq];refine(List.perm_append_comm.append_left _).trans ?_;rw[e2]
 ·rw[bg,bg,Array.toList_reverse];refine List.pairwise_append.mpr ⟨List.pairwise_append.mpr ⟨zU Sb _ _,zU Sa _ _,λx hx y hy=>?_⟩,h.sr,λx hx y hy=>?_⟩
  ·obtain⟨i,g1,g2,g3,rfl⟩:=qy hx;obtain⟨j,k1,k2,k3,rfl⟩:=qy hy;have:i=0:=by lia
   subst this;exact W.asym _ _ (hb j k3)
  ·have hy:=List.mem_reverse.mp hy;rcases List.mem_append.mp hx with hx|hx
   ·obtain⟨i,g1,g2,g3,rfl⟩:=qy hx;exact h.lb y hy i g2
   ·obtain⟨i,g1,g2,g3,rfl⟩:=qy hx;exact h.la y hy i g2
theorem mh0{a b:Array ao}:MH LT a b #[] a.size b.size:=⟨by
 rw[List.drop_eq_nil_of_le (by simp),List.drop_eq_nil_of_le (by simp)];simp,by simp[Srt],by simp,by simp⟩
end
section
variable{prog:aC}{w:av}{A:aA}{E:ae->af->Prop}{s:af}{κ:SortKind}{D:ao->Prop}{LT:ao->ao->Bool}
theorem rD(W:Wo LT){a:Array ao}(S:Srt LT a.toList){left:Bool}{key:ao}{n:Nat}(hn:n<=a.size):∀i j,i<=j->j<n->bey LT left key (at' a j)=true->bey LT left key (at' a i)=true:=by
 intro i j h1 h2 h3;have:=lF W S (left:=left) (key:=key) (base:=0) (n:=n) (by lia) i j h1 h2;rw[Nat.zero_add,Nat.zero_add]at this;exact this h3
theorem AD(C:Cmp prog w A s κ D LT){a b:Array ao}{st:aI}{Q:Array ao->aI->Prop}(hk:kindOf st=κ)(Da:∀i,i<a.size->D (at' a i))(Db:∀i,i<b.size->D (at' b i))(Sa:Srt LT a.toList)(Sb:Srt LT b.toList)
  (ha:0<a.size) (hb:0<b.size) (h0:LT (at' b 0) (at' a 0)=true) (hl:∀j,j<b.size->LT (at' b j) (at' a (a.size-1))=true) (h:∀r g,Mg LT a b r->Q r (setG st g)):wpS (aq prog w) A E s (nH a b) Q st:=by
 have W:=C.wo;have fst:∀j,j<a.size->LT (at' b 0) (at' a j)=true:=λj hj=>W.lt_le h0 (zP W Sa (br j) hj)
 unfold nH;refine ar (wpS_lift (wpAny_rule ⟨rfl,?_⟩));refine ar (qW (qq (show a.size-1<a.size by lia)) ?_);have M1:MH LT a b #[at' a (a.size-1)] (a.size-1) b.size:=by
  have M0:MH LT a b #[] (a.size-1+1) b.size:=by rw[show a.size-1+1=a.size by lia];exact mh0
  exact M0.pushA W Sa Sb (by lia) (aD _) λ_=>hl _ (by lia)
 dsimp only;refine wpI (λe1=>?_) λe1=>?_
 ·exact au (h _ (gallopOf st) (M1.done W Sa Sb (.inl (by simpa using e1))))
 refine wpI (λe2=>?_) λe2=>?_
 ·exact au (h _ (gallopOf st) (M1.first W Sa Sb (by simpa using e2) fst))
 have e1':a.size-1≠0:=by simpa using e1
 have e2':b.size≠1:=by simpa using e2
 refine ar (wpS_get ?_);refine ar (wpS_mono (Q:=λc st'=>∃r g,c.1=some r/\Mg LT a b r/\st'=setG st g) ?_ ?_)
 ·refine wpS_forRange (λi c st'=>∃g,st'=setG st g/\c.1=none/\MH LT a b c.2.2.2.1 c.2.1 c.2.2.1/\(1<=c.2.1/\c.2.1<a.size)/\(2<=c.2.2.1/\c.2.2.1<=b.size)/\c.2.1+c.2.2.1+i<=a.size+b.size) ?_ ?_ ⟨gallopOf st,rfl,rfl,M1,by show 1<=a.size-1/\a.size-1<a.size;lia,by show 2<=b.size/\b.size<=b.size;lia,by show a.size-1+b.size+0<=_;lia⟩
  ·refine λi=>pr5 λc0 na nb out mg st' _ hi x=>exE (λg y=>stE y.1 ?_) x
   clear x;have M:=y.2.2.1;have h1:=y.2.2.2.1;have h2:=y.2.2.2.2.1;have h3:=y.2.2.2.2.2;clear y;dsimp only at M h1 h2 h3 ⊢;refine ar (wpS_mono (Q:=λc st'=>st'=setG st g/\((∃r,c.1=some r/\Mg LT a b r)\/(c.1=none/\MH LT a b c.2.2.2.1 c.2.1 c.2.2.1/\(1<=c.2.1/\c.2.1<a.size)/\(2<=c.2.2.1/\c.2.2.1<=b.size)/\c.2.1+c.2.2.1+1<=na+nb))) ?_ ?_)
   ·refine wpS_forRange (λj c st'=>st'=setG st g/\c.1=none/\MH LT a b c.2.2.2.1 c.2.1 c.2.2.1/\(1<=c.2.1/\c.2.1<a.size)/\(2<=c.2.2.1/\c.2.2.1<=b.size)/\c.2.1+c.2.2.1+j<=na+nb) ?_ ?_ ⟨rfl,rfl,M,h1,h2,aD _⟩
    ·clear M;refine λj=>pr6 λc0 na2 nb2 out ac bc st' _ hj y=>stE y.1 ?_
     have M:=y.2.2.1;have g1:=y.2.2.2.1;have g2:=y.2.2.2.2.1;have g3:=y.2.2.2.2.2;clear y;dsimp only at M g1 g2 g3 ⊢;refine ar (qW (qq (show nb2-1<b.size by lia)) ?_);refine ar (qW (qq (show na2-1<a.size by lia)) ?_);refine ar (g_ C (Db _ (by lia)) (Da _ (by lia)) hk ?_);obtain⟨na3,rfl⟩:∃n,na2=n+1:=⟨na2-1,by lia⟩
     obtain⟨nb3,rfl⟩:∃n,nb2=n+1:=⟨nb2-1,by lia⟩
     simp only[Nat.add_sub_cancel];refine wpI (λq=>?_) λq=>?_
     ·refine ar (qW (qq (show na3<a.size by lia)) ?_);have M2:=M.pushA W Sa Sb (by lia) (by lia) λ_=>q
      refine wpI (λe3=>?_) λe3=>?_
      ·exact au ⟨rfl,.inl ⟨_,rfl,M2.done W Sa Sb (.inl (by simpa using e3))⟩⟩
      have e3':na3≠0:=by simpa using e3
      refine wpI (λe4=>?_) λe4=>?_
      ·exact au ⟨rfl,.inr ⟨rfl,M2,by show 1<=na3/\na3<a.size;lia,g2,by show na3+(nb3+1)+1<=na+nb;lia⟩⟩
      ·exact au ⟨rfl,rfl,M2,by show 1<=na3/\na3<a.size;lia,g2,by show na3+(nb3+1)+(j+1)<=na+nb;lia⟩
     ·have q:=eq_false_of_ne_true q;refine ar (qW (qq (show nb3<b.size by lia)) ?_);have M2:=M.pushB W Sa Sb (by lia) (by lia) λ_=>q
      refine wpI (λe3=>?_) λe3=>?_
      ·exact au ⟨rfl,.inl ⟨_,rfl,M2.first W Sa Sb (by simpa using e3) fst⟩⟩
      have e3':nb3≠1:=by simpa using e3
      refine wpI (λe4=>?_) λe4=>?_
      ·exact au ⟨rfl,.inr ⟨rfl,M2,g1,by show 2<=nb3/\nb3<=b.size;lia,by show na3+1+nb3+1<=na+nb;lia⟩⟩
      ·exact au ⟨rfl,rfl,M2,g1,by show 2<=nb3/\nb3<=b.size;lia,by show na3+1+nb3+(j+1)<=na+nb;lia⟩
    ·clear M;rintro⟨c0,na2,nb2,out,ac,bc⟩ st' ⟨rfl,rfl,M,g1,g2,g3⟩;dsimp only at M g1 g2 g3;exact absurd g3 (by lia)
   ·refine pr6 λc0 na2 nb2 out ac bc st' y=>stE y.1 ?_
    have hc:=y.2;clear y;dsimp only at hc ⊢;rcases hc with ⟨r,rfl,hm⟩|⟨rfl,M,g1,g2,g3⟩
    ·exact au ⟨r,g,rfl,hm,rfl⟩
    dsimp only;refine ar (wpS_lift (wpAny_rule ⟨rfl,?_⟩));refine ar (wpS_mono (Q:=λc st'=>∃g,st'=setG st g/\((∃r,c.1=some r/\Mg LT a b r)\/(c.1=none/\MH LT a b c.2.2.2.1 c.2.1 c.2.2.1/\(1<=c.2.1/\c.2.1<a.size)/\(2<=c.2.2.1/\c.2.2.1<=b.size)/\c.2.1+c.2.2.1+1<=na+nb))) ?_ ?_)
    ·refine wpS_forRange (λj c st'=>∃g,st'=setG st g/\c.1=none/\MH LT a b c.2.2.2.1 c.2.1 c.2.2.1/\(1<=c.2.1/\c.2.1<a.size)/\(2<=c.2.2.1/\c.2.2.1<=b.size)/\c.2.1+c.2.2.1+1+j<=na+nb) ?_ ?_ ⟨g,rfl,rfl,M,g1,g2,g3⟩
     ·clear M g1 g2 g3;refine λj=>pr7 λc0 na2 nb2 out mg2 ac bc st' _ hj x=>exE (λg y=>stE y.1 ?_) x
      clear x;have M:=y.2.2.1;have g1:=y.2.2.2.1;have g2:=y.2.2.2.2.1;have g3:=y.2.2.2.2.2;clear y;dsimp only at M g1 g2 g3 ⊢;obtain⟨nb3,rfl⟩:∃n,nb2=n+1:=⟨nb2-1,by lia⟩
      revert mg2;refine share1 (λH mg2=>?_) ?_
      ·by_cases e0:¬ mg2>1
       ·rw[if_neg e0];exact H mg2
       ·rw[if_pos (Decidable.not_not.mp e0)];exact H (mg2-1)
      intro mg3;refine ar (wpS_modify ?_);refine ar (qW (qq (show nb3+1-1<b.size by lia)) ?_);refine ar (gv C hk (Db _ (by lia)) (λi=>at' a i) (λi hi=>⟨by rw[Nat.zero_add];exact qq (by lia),Da _ (by lia)⟩) (by lia) (rD W Sa (by lia)) λk l1 l2 l3=>?_);simp only[Nat.add_sub_cancel]at l2 l3;dsimp only;have t2:∀i,i<k->LT (at' b nb3) (at' a i)=false:=λi g1=>by
       have this:(!LT (at' b nb3) (at' a i))=true:=l2 i g1
       simpa using this
      have t3:∀i,k<=i->i<na2->LT (at' b nb3) (at' a i)=true:=λi z1 z2=>by
       have this:(!LT (at' b nb3) (at' a i))=false:=l3 i z1 z2
       simpa using this
      generalize hac:na2-k=ac2;generalize hu:out=u;generalize hv:na2=v;revert u v;refine i8 (λout' na'=>MH LT a b out' na' (nb3+1)/\1<=na'/\na'<=na2/\LT (at' b nb3) (at' a (na'-1))=false) (λH u hu v hv=>?_) ?_
      ·subst hu;subst hv;by_cases e4:¬ ac2>0
       ·rw[if_neg e4];exact H out na2 ⟨M,by lia,aD _,t2 _ (by lia)⟩
       ·rw[if_pos (Decidable.not_not.mp e4)];have M2:=M.takeA W Sa (by lia) k (by lia) λi g1 g2 j' g3=>W.neg _ _ _ (zP W Sb (show j'<=nb3 by lia) (by lia)) (W.asym _ _ (t3 i g1 g2))
        refine wpI (λe3=>?_) λe3=>?_
        ·exact au ⟨_,rfl,.inl ⟨_,rfl,M2.done W Sa Sb (.inl (by simpa using e3))⟩⟩
        have e3':k≠0:=by simpa using e3
        exact H _ _ ⟨M2,by lia,by lia,t2 _ (by lia)⟩
      rintro out3 na3 ⟨M2,hn1,hn2,q2⟩;obtain⟨na9,rfl⟩:∃n,na3=n+1:=⟨na3-1,by lia⟩
      try dsimp only
      simp only[Nat.add_sub_cancel];refine ar (qW (qq (show nb3<b.size by lia)) ?_);have M3:=M2.pushB W Sa Sb (by lia) (by lia) λ_=>q2
      refine wpI (λe5=>?_) λe5=>?_
      ·exact au ⟨_,rfl,.inl ⟨_,rfl,M3.first W Sa Sb (by simpa using e5) fst⟩⟩
      have e5':nb3≠1:=by simpa using e5
      refine ar (qW (qq (show na9<a.size by lia)) ?_);generalize out3.push (at' b nb3)=out5 at M3 ⊢;refine ar (gv C hk (Da _ (by lia)) (λi=>at' b i) (λi hi=>⟨by rw[Nat.zero_add];exact qq (by lia),Db _ (by lia)⟩) (by lia) (rD W Sb (by lia)) λk' l1' l2' l3'=>?_);dsimp only;generalize hbc:nb3-k'=bc2;generalize hu:out5=u;generalize hv:nb3=v;revert u v;refine i8 (λout' nb'=>MH LT a b out' (na9+1) nb'/\2<=nb'/\nb'<=nb3/\LT (at' b (nb'-1)) (at' a na9)=true) (λH u hu v hv=>?_) ?_
      ·subst hu;subst hv;by_cases e6:¬ bc2>0
       ·rw[if_neg e6];exact H out5 nb3 ⟨M3,by lia,aD _,l2' (nb3-1) (by lia)⟩
       ·rw[if_pos (Decidable.not_not.mp e6)];have M4:=M3.takeB W Sb (by lia) k' (by lia) λi g1 g2 j' g3=>by
         have z:LT (at' b i) (at' a na9)=false:=l3' i g1 g2;exact W.neg _ _ _ (zP W Sa (show j'<=na9 by lia) (by lia)) z
        refine wpI (λe8=>?_) λe8=>?_
        ·exact au ⟨_,rfl,.inl ⟨_,rfl,M4.first W Sa Sb (by simpa using e8) fst⟩⟩
        have e8':k'≠1:=by simpa using e8
        refine wpI (λe9=>?_) λe9=>?_
        ·exact au ⟨_,rfl,.inl ⟨_,rfl,M4.done W Sa Sb (.inr (by simpa using e9))⟩⟩
        have e9':k'≠0:=by simpa using e9
        exact H _ _ ⟨M4,by lia,by lia,l2' (k'-1) (by lia)⟩
      rintro out4 nb4 ⟨M4,hb2,hb3,q5⟩
      try dsimp only
      refine ar (qW (qq (show na9<a.size by lia)) ?_);have M5:=M4.pushA W Sa Sb (by lia) (by lia) λ_=>q5
      refine wpI (λe7=>?_) λe7=>?_
      ·exact au ⟨_,rfl,.inl ⟨_,rfl,M5.done W Sa Sb (.inl (by simpa using e7))⟩⟩
      have e7':na9≠0:=by simpa using e7
      split
      ·exact au ⟨_,rfl,.inr ⟨rfl,M5,by show 1<=na9/\na9<a.size;lia,by show 2<=nb4/\nb4<=b.size;lia,by show na9+nb4+1<=na+nb;lia⟩⟩
      ·exact au ⟨_,rfl,rfl,M5,by show 1<=na9/\na9<a.size;lia,by show 2<=nb4/\nb4<=b.size;lia,by show na9+nb4+1+(j+1)<=na+nb;lia⟩
     ·clear M g1 g2 g3;rintro⟨c0,na2,nb2,out,mg2,ac,bc⟩ st' ⟨g,rfl,rfl,M,g1,g2,g3⟩;dsimp only at M g1 g2 g3;exact absurd g3 (by lia)
    ·refine pr7 λc0 na2 nb2 out mg2 ac bc st' x=>exE (λg y=>stE y.1 ?_) x
     clear x;have hc:=y.2;clear y;dsimp only at hc ⊢;rcases hc with ⟨r,rfl,hm⟩|⟨rfl,M,g1,g2,g3⟩
     ·exact au ⟨r,g,rfl,hm,rfl⟩
     dsimp only;refine ar (wpS_modify ?_);exact au ⟨mg2+1,rfl,rfl,M,g1,g2,by show na2+nb2+(i+1)<=a.size+b.size;lia⟩
  ·rintro⟨c0,na,nb,out,mg⟩ st' ⟨g,rfl,rfl,M,h1,h2,h3⟩;dsimp only at M h1 h2 h3;exact absurd h3 (by lia)
 ·rintro⟨c0,na,nb,out,mg⟩ st' ⟨r,g,hr,hm,rfl⟩;dsimp only at hr ⊢;subst hr;exact au (h r g hm)
end
structure Rk(D:ao->Prop)(LT:ao->ao->Bool)(R:ao->Int):Prop where
 rk:∀x y,D x->D y->LT x y=decide (R x<R y)
structure SB(κ:SortKind)(p:Array (Nat×Nat×Nat))(a₁:Array ao)(lo:Nat)(st:aI):Prop where
 kd:kindOf st=κ
 fl:failedOf st=none
 pn:a7 st=p
 pm:(ah st).Perm a₁
 lw:∀i,i<lo->at' (ah st) i=at' a₁ i
noncomputable def Kr(R:ao->Int)(xs:Array ao)(i:Nat):Int:=R (at' xs i)
noncomputable def Seg(R:ao->Int)(xs:Array ao)(lo n:Nat):Prop:=∀i j,i<=j->j<n->Kr R xs (lo+i)<=Kr R xs (lo+j)
noncomputable def Dsc(R:ao->Int)(xs:Array ao)(lo n:Nat):Prop:=∀i j,i<=j->j<n->Kr R xs (lo+j)<=Kr R xs (lo+i)
theorem fR{xs ys:Array ao}{i j:Nat}(h:xs[i]? = ys[j]?):at' xs i=at' ys j:=by
 unfold at';rw[Array.getD_eq_getD_getElem?,Array.getD_eq_getD_getElem?,h]
theorem mf{xs:Array ao}{src d:Nat}(hs:src<xs.size)(hd:d<=src)(k:Nat) :
  at' (bubble xs src d) k=if k=src-d then at' xs src else if src-d<k/\k<=src then at' xs (k-1)else at' xs k:=by
 have e:=getElem?_bubble hs d hd k;by_cases h1:k=src-d
 ·rw[if_pos h1]at e ⊢;exact fR e
 ·rw[if_neg h1]at e ⊢;by_cases h2:src-d<k/\k<=src
  ·rw[if_pos h2]at e ⊢;exact fR e
  ·rw[if_neg h2]at e ⊢;exact fR e
theorem mW{xs:Array ao}{i j:Nat}(hj:j<=xs.size)(k:Nat) :
  at' (aW xs i j ((j-i)/2)) k=if i<=k/\k<j then at' xs (i+j-1-k)else at' xs k:=by
 have e:=getElem?_mirror_all (i:=i) hj k;by_cases h1:i<=k/\k<j
 ·rw[if_pos h1]at e ⊢;exact fR e
 ·rw[if_neg h1]at e ⊢;exact fR e
section
variable{prog:aC}{w:av}{A:aA}{E:ae->af->Prop}{s:af}{κ:SortKind}{D:ao->Prop}{LT:ao->ao->Bool}{R:ao->Int}{p:Array (Nat×Nat×Nat)}{a₁:Array ao}{lo:Nat}
theorem pK{xs:Array ao}{src d:Nat}(hs:src<xs.size)(hd:d<=src)(k:Nat) :
  Kr R (bubble xs src d) k=if k=src-d then Kr R xs src else if src-d<k/\k<=src then Kr R xs (k-1)else Kr R xs k:=by
 unfold Kr;rw[mf hs hd];repeat' split
 all_goals rfl
theorem jO{xs:Array ao}{i j:Nat}(hj:j<=xs.size)(k:Nat) :
  Kr R (aW xs i j ((j-i)/2)) k=if i<=k/\k<j then Kr R xs (i+j-1-k)else Kr R xs k:=by
 unfold Kr;rw[mW hj];split
 all_goals rfl
theorem jC{xs:Array ao}{i j:Nat}(hj:j<=xs.size)(heq:∀k,i<=k->k<j->Kr R xs k=Kr R xs (j-1))(k:Nat) :
  Kr R (aW xs i j ((j-i)/2)) k=Kr R xs k:=by
 rw[jO hj];split
 ·rw[heq _ (by lia) (by lia),heq k (by lia) (by lia)]
 ·rfl
theorem SB.size{st:aI}(h:SB κ p a₁ lo st):(ah st).size=a₁.size:=h.pm.size_eq
theorem SB.dom{st:aI}(h:SB κ p a₁ lo st)(Da:∀x∈a₁.toList,D x){i:Nat}(hi:i<a₁.size):D (at' (ah st) i):=
 Da _ ((Array.perm_iff_toList_perm.mp h.pm).mem_iff.mp (jA (by rw[h.size];exact hi)))
theorem SB.setArr{st:aI}(h:SB κ p a₁ lo st){xs:Array ao}(hp:xs.Perm (ah st))(hl:∀i,i<lo->at' xs i=at' (ah st) i):SB κ p a₁ lo (setArr st xs):=
 ⟨h.kd,h.fl,h.pn,hp.trans h.pm,λi hi=>(hl i hi).trans (h.lw i hi)⟩
theorem SB.mir{st:aI}(h:SB κ p a₁ lo st){i j:Nat}(hi:lo<=i)(hj:j<=a₁.size):SB κ p a₁ lo (PyProof.Rows.setArr st (aW (ah st) i j ((j-i)/2))):=
 h.setArr (mirror_perm _ _ _ _) λk hk=>by
  rw[mW (by rw[h.size];exact hj),if_neg (by lia)]
theorem dR{st:aI}{i j:Nat}{Q:Option Bool->aI->Prop}(C:Cmp prog w A s κ D LT)(K:Rk D LT R)(Da:∀x∈a₁.toList,D x)(hB:SB κ p a₁ lo st)(hi:i<a₁.size)(hj:j<a₁.size)
  (h:Q (some (decide (Kr R (ah st) i<Kr R (ah st) j))) st):wpS (aq prog w) A E s (ltAt' i j) Q st:=by
 rw[ltAt'_eq];refine ar (wpS_get ?_);refine ar (qW (qq (by rw[hB.size];exact hi)) ?_);refine ar (qW (qq (by rw[hB.size];exact hj)) ?_);refine g_ C (hB.dom Da hi) (hB.dom Da hj) hB.kd ?_;rw[K.rk _ _ (hB.dom Da hi) (hB.dom Da hj)];exact h
structure Hf(R:ao->Int)(xs:Array ao)(lo k x l r:Nat):Prop where
 lr:l<=r
 rk:r<=k
 fu:r-l+x<=k
 low:∀i,lo<=i->i<lo+l->Kr R xs i<=Kr R xs (lo+k)
 upp:∀i,lo+r<=i->i<lo+k->Kr R xs (lo+k)<Kr R xs i
theorem Seg.at{xs:Array ao}{n:Nat}(S:Seg R xs lo n){i j:Nat}(a:lo<=i)(b:i<=j)(c:j<lo+n):Kr R xs i<=Kr R xs j:=by
 have z:=S (i-lo) (j-lo) (by lia) (by lia)
 rwa[Nat.add_sub_cancel' a,Nat.add_sub_cancel' (bD a b)]at z
theorem Hf.go{xs:Array ao}{k x l r:Nat}(h:Hf R xs lo k x l r)(S:Seg R xs lo k)(hl:l<r) :
  (Kr R xs (lo+k)<Kr R xs (lo+(l+r)/2)->Hf R xs lo k (x+1) l ((l+r)/2))/\(¬ Kr R xs (lo+k)<Kr R xs (lo+(l+r)/2)->Hf R xs lo k (x+1) ((l+r)/2+1) r):=by
 have:=h.rk;have:=h.fu;refine⟨λz=>⟨by lia,by lia,by lia,h.low,λi a b=>Int.lt_of_lt_of_le z (S.at (by lia) a (by lia))⟩,λz=>⟨by lia,h.rk,by lia,λi a b=>?_,h.upp⟩⟩;have:=S.at (i:=i) (j:=lo+(l+r)/2) a (by lia) (by lia);lia
theorem Hf.put{xs:Array ao}{k x l:Nat}(h:Hf R xs lo k x l l)(hk:lo+k<xs.size)(S:Seg R xs lo k) :
  Seg R (bubble xs (lo+k) (lo+k-(lo+l))) lo (k+1)/\∀i,i<lo->at' (bubble xs (lo+k) (lo+k-(lo+l))) i=at' xs i:=by
 have:=h.rk;have e:lo+k-(lo+k-(lo+l))=lo+l:=by lia
 refine⟨λi j hij hj=>?_,λi hi=>by rw[mf hk (by lia),if_neg (by lia),if_neg (by lia)]⟩;rw[pK hk (by lia),pK hk (by lia),e];by_cases ai:lo+i=lo+l<;>by_cases aj:lo+j=lo+l<;>by_cases bi:lo+l<lo+i/\lo+i<=lo+k<;>by_cases bj:lo+l<lo+j/\lo+j<=lo+k<;>simp only[ai,aj,bi,bj,if_true,if_false,and_self]<;>first
  | (exfalso;lia)
  |lia
  |exact h.low _ (by lia) (by lia)
  |exact Int.le_of_lt (h.upp _ (by lia) (by lia))
  |exact S.at (by lia) (by lia) (by lia)
theorem vE(C:Cmp prog w A s κ D LT)(K:Rk D LT R)(Da:∀x∈a₁.toList,D x){st:aI}{n ok:Nat}{Q:Bool->aI->Prop}(hn:lo+n<=a₁.size)(hok:ok<=n)(hB:SB κ p a₁ lo st)(hs:Seg R (ah st) lo ok)
  (h:∀st',SB κ p a₁ lo st'->Seg R (ah st') lo n->Q true st'):wpS (aq prog w) A E s (binarySort' lo n ok) Q st:=by
 rw[binarySort'_eq];have seg1:Seg R (ah st) lo (min (max ok 1) n):=λi j a b=>by
  by_cases z:ok=0
  ·rw[show i=j by lia];exact Int.le_refl _
  ·exact hs i j a (by lia)
 refine ar (wpS_mono (wpS_forRange (λk c t=>c=(none,())/\SB κ p a₁ lo t/\Seg R (ah t) lo (min k n)) (Q:=λc t=>c=(none,())/\SB κ p a₁ lo t/\Seg R (ah t) lo n) ?_ ?_ ⟨rfl,hB,seg1⟩) λc t ⟨e,b,z⟩=>by rw[e];exact au (h t b z))
 ·rintro k c t k1 k2 ⟨rfl,B,S⟩;rw[Nat.min_eq_left (Nat.le_of_lt k2)]at S;have kz:lo+k<a₁.size:=by lia
  have kz':lo+k<(ah t).size:=by rw[B.size];exact kz
  refine ar (wpS_mono (wpS_forRange (λx c u=>u=t/\∃l r,c=(none,l,r)/\Hf R (ah t) lo k x l r) (Q:=λc u=>u=t/\∃x l,c=(none,l,l)/\Hf R (ah t) lo k x l l) ?_ ?_ ⟨rfl,0,k,rfl,br _,aD _,by lia,λi a b=>by lia,λi a b=>by lia⟩) ?_)
  ·rintro x c u _ x2 ⟨rfl,l,r,rfl,f⟩;dsimp only;have:=f.lr;by_cases z:l >= r
   ·rw[if_pos z];obtain rfl:l=r:=by lia
    exact au ⟨rfl,x,l,rfl,f⟩
   rw[if_neg z];have:=f.rk;refine ar (dR C K Da B kz (by lia) ?_);obtain⟨g1,g2⟩:=f.go S (by lia);cases q:decide (Kr R (ah u) (lo+k)<Kr R (ah u) (lo+(l+r)/2))with
   |true=>exact au ⟨rfl,_,_,rfl,g1 (of_decide_eq_true q)⟩
   |false=>exact au ⟨rfl,_,_,rfl,g2 (of_decide_eq_false q)⟩
  ·rintro c u ⟨rfl,l,r,rfl,f⟩;have:=f.lr;have:=f.fu;obtain rfl:l=r:=by lia
   exact⟨rfl,_,l,rfl,f⟩
  ·rintro c u ⟨rfl,x,l,rfl,f⟩;obtain⟨g1,g2⟩:=f.put kz' S;dsimp only;rw[moveDown'_eq];refine ar (wpS_modify (au ⟨rfl,B.setArr (bubble_perm _ _ _) g2,?_⟩));rw[Nat.min_eq_left k2];exact g1
 ·rintro c t ⟨e,b,z⟩;rw[show min (max (max ok 1) n) n=n by lia]at z;exact⟨e,b,z⟩
end
section
variable{prog:aC}{w:av}{A:aA}{E:ae->af->Prop}{s:af}{κ:SortKind}{D:ao->Prop}{LT:ao->ao->Bool}{R:ao->Int}{p:Array (Nat×Nat×Nat)}{a₁:Array ao}{lo:Nat}{xs:Array ao}
theorem Seg.one:Seg R xs lo 1:=λi j a b=>by rw[show i=j by lia];exact Int.le_refl _
theorem Seg.more{n:Nat}(S:Seg R xs lo n)(z:1<=n->Kr R xs (lo+n-1)<=Kr R xs (lo+n)):Seg R xs lo (n+1):=λi j a b=>by
 by_cases c:j=n
 ·subst c;by_cases d:i=j
  ·rw[d];exact Int.le_refl _
  ·have y:=S i (j-1) (by lia) (by lia);rw[show lo+(j-1)=lo+j-1 by lia]at y;exact Int.le_trans y (z (by lia))
 ·exact S i j a (by lia)
theorem Dsc.one:Dsc R xs lo 1:=λi j a b=>by rw[show i=j by lia];exact Int.le_refl _
theorem Dsc.more{n:Nat}(S:Dsc R xs lo n)(z:1<=n->Kr R xs (lo+n)<=Kr R xs (lo+n-1)):Dsc R xs lo (n+1):=λi j a b=>by
 by_cases c:j=n
 ·subst c;by_cases d:i=j
  ·rw[d];exact Int.le_refl _
  ·have y:=S i (j-1) (by lia) (by lia);rw[show lo+(j-1)=lo+j-1 by lia]at y;exact Int.le_trans (z (by lia)) y
 ·exact S i j a (by lia)
theorem Dsc.alike{ys:Array ao}{n:Nat}(S:Dsc R xs lo n)(e:∀k,Kr R ys k=Kr R xs k):Dsc R ys lo n:=λi j a b=>by rw[e,e];exact S i j a b
theorem gD{st:aI}{a nrem:Nat}{β:Type}{mk:Nat->β}{Q:β->aI->Prop}(hn:lo+nrem<=a₁.size)(ha:1<=a)(han:a<=nrem)(S0:Seg R (ah st) lo a)
  {body:Nat->β->StateT aI Sem (ForInStep β)}
  (hb:∀x n (Q':ForInStep β->aI->Prop),lo+n<a₁.size->1<=n->(Kr R (ah st) (lo+n)<Kr R (ah st) (lo+n-1)->Q' (.done (mk n)) st)->(¬ Kr R (ah st) (lo+n)<Kr R (ah st) (lo+n-1)->Q' (.yield (mk (n+1))) st)->wpS (aq prog w) A E s (body x (mk n)) Q' st)
  (h:∀n,a<=n->n<=nrem->Seg R (ah st) lo n->(n≠nrem->Kr R (ah st) (lo+n)<Kr R (ah st) (lo+n-1))->Q (mk n) st) :
  wpS (aq prog w) A E s (forIn [a:nrem] (mk a) body) Q st:=
 wpS_forRange (λx c t=>t=st/\c=mk x/\Seg R (ah st) lo x) (λx c t x1 x2 ⟨e1,e2,S⟩=>by
   subst e1 e2;exact hb x x _ (by lia) (by lia) (λz=>h x x1 (by lia) S λ_=>z) λz=>⟨rfl,rfl,S.more λ_=>by lia⟩)
  (λc t ⟨e1,e2,S⟩=>by
   subst e1 e2;rw[Nat.max_eq_right han]at S ⊢;exact h nrem han (aD _) S λz=>absurd rfl z) ⟨rfl,rfl,S0⟩
theorem Dsc.turn{n:Nat}(S:Dsc R xs lo n)(hz:lo+n<=xs.size):Seg R (aW xs lo (lo+n) ((lo+n-lo)/2)) lo n:=λi j a b=>by
 have y:=S (n-1-j) (n-1-i) (by lia) (by lia);rw[show lo+(n-1-j)=lo+(lo+n)-1-(lo+j)by lia,show lo+(n-1-i)=lo+(lo+n)-1-(lo+i)by lia]at y
 rwa[jO hz,jO hz,if_pos ⟨by lia,by lia⟩,if_pos ⟨by lia,by lia⟩]
noncomputable def Flat(R:ao->Int)(xs:Array ao)(lo m neq:Nat):Prop:=∀i,lo+m-(neq+1)<=i->i<lo+m->Kr R xs i=Kr R xs (lo+m-1)
theorem Flat.zero{m:Nat}:Flat R xs lo m 0:=λi a b=>by rw[show i=lo+m-1 by lia]
theorem Flat.more{m neq:Nat}(f:Flat R xs lo m neq)(z:Kr R xs (lo+m)=Kr R xs (lo+m-1)):Flat R xs lo (m+1) (neq+1):=λi a b=>by
 rw[show lo+(m+1)-1=lo+m by lia];by_cases c:i=lo+m
 ·rw[c]
 ·rw[z];exact f i (by lia) (by lia)
theorem nO{st:aI}{n nrem:Nat}{β:Type}{mk:Nat->Nat->β}{Q:β->aI->Prop}(hn:lo+nrem<=a₁.size)(h1:1<=n)(hnn:n<=nrem)(B0:SB κ p a₁ lo st)(S0:Dsc R (ah st) lo n)
  {body:Nat->β->StateT aI Sem (ForInStep β)}
  (hb:∀x n neq t (Q':ForInStep β->aI->Prop),SB κ p a₁ lo t->lo+n<a₁.size->1<=n ->
   (Kr R (ah t) (lo+n)<Kr R (ah t) (lo+n-1)->neq>0->Q' (.yield (mk (n+1) 0)) (setArr t (aW (ah t) (lo+n-(neq+1)) (lo+n) ((lo+n-(lo+n-(neq+1)))/2)))) ->
   (Kr R (ah t) (lo+n)<Kr R (ah t) (lo+n-1)->¬ neq>0->Q' (.yield (mk (n+1) 0)) t) ->
   (Kr R (ah t) (lo+n-1)<Kr R (ah t) (lo+n)->Q' (.done (mk n neq)) t) ->
   (Kr R (ah t) (lo+n)=Kr R (ah t) (lo+n-1)->Q' (.yield (mk (n+1) (neq+1))) t) ->
   wpS (aq prog w) A E s (body x (mk n neq)) Q' t)
  (h:∀m neq t,SB κ p a₁ lo t->n<=m->m<=nrem->Dsc R (ah t) lo m->neq+1<=m->Flat R (ah t) lo m neq->Q (mk m neq) t) :
  wpS (aq prog w) A E s (forIn [n:nrem] (mk n 0) body) Q st:=
 wpS_forRange (λx c t=>∃neq,c=mk x neq/\SB κ p a₁ lo t/\Dsc R (ah t) lo x/\neq+1<=x/\Flat R (ah t) lo x neq) (λx c t x1 x2 ⟨neq,e,B,S,q,f⟩=>by
   subst e;have hz:lo+x<=(ah t).size:=by rw[B.size];lia
   refine hb x x neq t _ B (by lia) (by lia) (λz _=>?_) (λz _=>?_) (λ_=>h x neq t B x1 (by lia) S q f) λz=>⟨neq+1,rfl,B,S.more λ_=>Int.le_of_eq z,by lia,f.more z⟩
   ·exact⟨0,rfl,B.mir (by lia) (by lia),(S.more λ_=>Int.le_of_lt z).alike (jC hz f),by lia,Flat.zero⟩
   ·exact⟨0,rfl,B,S.more λ_=>Int.le_of_lt z,by lia,Flat.zero⟩)
  (λc t ⟨neq,e,B,S,q,f⟩=>by
   subst e;rw[Nat.max_eq_right hnn]at S q f ⊢;exact h nrem neq t B hnn (aD _) S q f) ⟨0,rfl,B0,S0,by lia,Flat.zero⟩
theorem yA(C:Cmp prog w A s κ D LT)(K:Rk D LT R)(Da:∀x∈a₁.toList,D x){st:aI}{nrem:Nat}{Q:Option Nat->aI->Prop}(hn:lo+nrem<=a₁.size)(h1:1<=nrem)(hB:SB κ p a₁ lo st)
  (h:∀m st',SB κ p a₁ lo st'->1<=m->m<=nrem->Seg R (ah st') lo m->Q (some m) st') :
  wpS (aq prog w) A E s (countRun' lo nrem) Q st:=by
 rw[countRun'_eq];refine ar (gD (R:=R) (mk:=λn=>(none,n)) hn (aD 1) h1 Seg.one ?_ ?_)
 ·intro x n Q' hl n1 q1 q2;dsimp only;refine ar (dR C K Da (hB) hl (by lia) ?_);cases z:decide (Kr R (ah st) (lo+n)<Kr R (ah st) (lo+n-1))with
  |true=>exact au (q1 (of_decide_eq_true z))
  |false=>exact au (q2 (of_decide_eq_false z))
 intro n n1 n2 S z;dsimp only;by_cases e:(n==nrem)=true
 ·rw[if_pos e];exact au (h n st hB n1 n2 S)
 rw[if_neg e];have e':n≠nrem:=by simpa using e
 have lt:=z e';have hz:lo+n<=(ah st).size:=by rw[hB.size];lia
 by_cases g:n>1
 ·rw[if_pos g];refine ar (dR C K Da hB (by lia) (by lia) ?_);cases y:decide (Kr R (ah st) lo<Kr R (ah st) (lo+n-1))with
  |true=>exact au (h n st hB n1 n2 S)
  |false=>
   have y':=of_decide_eq_false y;have f:∀k,lo<=k->k<lo+n->Kr R (ah st) k=Kr R (ah st) (lo+n-1):=λk a b=>by
    have b1:=S.at (i:=lo) (j:=k) (aD _) a b;have b2:=S.at (i:=k) (j:=lo+n-1) a (by lia) (by lia);lia
   dsimp only;rw[if_neg cw];refine ar (wpS_reverse ?_);have dB:SB κ p a₁ lo (setArr st (aW (ah st) lo (lo+n) ((lo+n-lo)/2))):=hB.mir (aD _) (by lia);have dS:Dsc R (ah (setArr st (aW (ah st) lo (lo+n) ((lo+n-lo)/2)))) lo (n+1):=Dsc.alike (xs:=ah st) (Dsc.more (λi j a b=>by rw[f (lo+i) (by lia) (by lia),f (lo+j) (by lia) (by lia)];exact Int.le_refl _) λ_=>Int.le_of_lt lt) (jC hz f);refine ar (wpS_lift (wpAny_rule ⟨rfl,?_⟩));refine ar (nO (mk:=λn q=>(none,n,q)) hn (by lia) (by lia) (dB) dS ?_ ?_)
   ·intro x n neq t Q' tB hl n1 q1 q2 q3 q4;dsimp only;refine ar (dR C K Da tB hl (by lia) ?_);cases z:decide (Kr R (ah t) (lo+n)<Kr R (ah t) (lo+n-1))with
    |true=>
     by_cases y:neq>0
     ·dsimp only;rw[if_pos rfl,if_pos y];exact ar (wpS_reverse (au (q1 (of_decide_eq_true z) y)))
     ·dsimp only;rw[if_pos rfl,if_neg y];exact au (q2 (of_decide_eq_true z) y)
    |false=>
     have z':=of_decide_eq_false z;refine ar (dR C K Da tB (by lia) hl ?_);cases y:decide (Kr R (ah t) (lo+n-1)<Kr R (ah t) (lo+n))with
     |true=>exact au (q3 (of_decide_eq_true y))
     |false=>
      have y':=of_decide_eq_false y;exact au (q4 (by lia))
   ·intro m neq t tB m1 m2 tS nm f;have hz:lo+m<=(ah t).size:=by rw[tB.size];lia
    dsimp only;by_cases y:neq>0
    ·rw[if_pos y];refine ar (wpS_reverse ?_);have MB:SB κ p a₁ lo (setArr t (aW (ah t) (lo+m-(neq+1)) (lo+m) ((lo+m-(lo+m-(neq+1)))/2))):=tB.mir (by lia) (by lia);have MS:Dsc R (ah (setArr t (aW (ah t) (lo+m-(neq+1)) (lo+m) ((lo+m-(lo+m-(neq+1)))/2)))) lo m:=tS.alike (jC hz f);refine ar (wpS_reverse ?_);have TB:SB κ p a₁ lo (setArr (setArr t (aW (ah t) (lo+m-(neq+1)) (lo+m) ((lo+m-(lo+m-(neq+1)))/2))) (aW (ah (setArr t (aW (ah t) (lo+m-(neq+1)) (lo+m) ((lo+m-(lo+m-(neq+1)))/2)))) lo (lo+m) ((lo+m-lo)/2))):=(MB).mir (aD _) (by lia);refine ar (gD (R:=R) (mk:=λn=>(none,n)) hn (by lia) m2 (Dsc.turn (MS) (by show lo+m<=(ah (setArr t (aW (ah t) (lo+m-(neq+1)) (lo+m) ((lo+m-(lo+m-(neq+1)))/2)))).size;rw[(MB).size];lia)) ?_ ?_)
     ·intro x n Q' hl n1 q1 q2;dsimp only;refine ar (dR C K Da (TB) hl (by lia) ?_);cases z:decide (Kr R (ah (setArr (setArr t (aW (ah t) (lo+m-(neq+1)) (lo+m) ((lo+m-(lo+m-(neq+1)))/2))) (aW (ah (setArr t (aW (ah t) (lo+m-(neq+1)) (lo+m) ((lo+m-(lo+m-(neq+1)))/2)))) lo (lo+m) ((lo+m-lo)/2)))) (lo+n)<Kr R (ah (setArr (setArr t (aW (ah t) (lo+m-(neq+1)) (lo+m) ((lo+m-(lo+m-(neq+1)))/2))) (aW (ah (setArr t (aW (ah t) (lo+m-(neq+1)) (lo+m) ((lo+m-(lo+m-(neq+1)))/2)))) lo (lo+m) ((lo+m-lo)/2)))) (lo+n-1))with
      |true=>exact au (q1 (of_decide_eq_true z))
      |false=>exact au (q2 (of_decide_eq_false z))
     ·intro j j1 j2 j3 _;exact au (h j _ TB (by lia) j2 j3)
    ·rw[if_neg y];refine ar (wpS_reverse ?_);have TB:SB κ p a₁ lo (setArr t (aW (ah t) lo (lo+m) ((lo+m-lo)/2))):=(tB).mir (aD _) (by lia);refine ar (gD (R:=R) (mk:=λn=>(none,n)) hn (by lia) m2 (Dsc.turn (tS) (by show lo+m<=(ah t).size;rw[(tB).size];lia)) ?_ ?_)
     ·intro x n Q' hl n1 q1 q2;dsimp only;refine ar (dR C K Da (TB) hl (by lia) ?_);cases z:decide (Kr R (ah (setArr t (aW (ah t) lo (lo+m) ((lo+m-lo)/2)))) (lo+n)<Kr R (ah (setArr t (aW (ah t) lo (lo+m) ((lo+m-lo)/2)))) (lo+n-1))with
      |true=>exact au (q1 (of_decide_eq_true z))
      |false=>exact au (q2 (of_decide_eq_false z))
     ·intro j j1 j2 j3 _;exact au (h j _ TB (by lia) j2 j3)
 ·rw[if_neg g];obtain rfl:n=1:=by lia
  have dS:Dsc R (ah st) lo (1+1):=Dsc.one.more λ_=>Int.le_of_lt lt
  refine ar (wpS_lift (wpAny_rule ⟨rfl,?_⟩));refine ar (nO (mk:=λn q=>(none,n,q)) hn (by lia) (by lia) (hB) dS ?_ ?_)
  ·intro x n neq t Q' tB hl n1 q1 q2 q3 q4;dsimp only;refine ar (dR C K Da tB hl (by lia) ?_);cases z:decide (Kr R (ah t) (lo+n)<Kr R (ah t) (lo+n-1))with
   |true=>
    by_cases y:neq>0
    ·dsimp only;rw[if_pos rfl,if_pos y];exact ar (wpS_reverse (au (q1 (of_decide_eq_true z) y)))
    ·dsimp only;rw[if_pos rfl,if_neg y];exact au (q2 (of_decide_eq_true z) y)
   |false=>
    have z':=of_decide_eq_false z;refine ar (dR C K Da tB (by lia) hl ?_);cases y:decide (Kr R (ah t) (lo+n-1)<Kr R (ah t) (lo+n))with
    |true=>exact au (q3 (of_decide_eq_true y))
    |false=>
     have y':=of_decide_eq_false y;exact au (q4 (by lia))
  ·intro m neq t tB m1 m2 tS nm f;have hz:lo+m<=(ah t).size:=by rw[tB.size];lia
   dsimp only;by_cases y:neq>0
   ·rw[if_pos y];refine ar (wpS_reverse ?_);have MB:SB κ p a₁ lo (setArr t (aW (ah t) (lo+m-(neq+1)) (lo+m) ((lo+m-(lo+m-(neq+1)))/2))):=tB.mir (by lia) (by lia);have MS:Dsc R (ah (setArr t (aW (ah t) (lo+m-(neq+1)) (lo+m) ((lo+m-(lo+m-(neq+1)))/2)))) lo m:=tS.alike (jC hz f);refine ar (wpS_reverse ?_);have TB:SB κ p a₁ lo (setArr (setArr t (aW (ah t) (lo+m-(neq+1)) (lo+m) ((lo+m-(lo+m-(neq+1)))/2))) (aW (ah (setArr t (aW (ah t) (lo+m-(neq+1)) (lo+m) ((lo+m-(lo+m-(neq+1)))/2)))) lo (lo+m) ((lo+m-lo)/2))):=(MB).mir (aD _) (by lia);refine ar (gD (R:=R) (mk:=λn=>(none,n)) hn (by lia) m2 (Dsc.turn (MS) (by show lo+m<=(ah (setArr t (aW (ah t) (lo+m-(neq+1)) (lo+m) ((lo+m-(lo+m-(neq+1)))/2)))).size;rw[(MB).size];lia)) ?_ ?_)
    ·intro x n Q' hl n1 q1 q2;dsimp only;refine ar (dR C K Da (TB) hl (by lia) ?_);cases z:decide (Kr R (ah (setArr (setArr t (aW (ah t) (lo+m-(neq+1)) (lo+m) ((lo+m-(lo+m-(neq+1)))/2))) (aW (ah (setArr t (aW (ah t) (lo+m-(neq+1)) (lo+m) ((lo+m-(lo+m-(neq+1)))/2)))) lo (lo+m) ((lo+m-lo)/2)))) (lo+n)<Kr R (ah (setArr (setArr t (aW (ah t) (lo+m-(neq+1)) (lo+m) ((lo+m-(lo+m-(neq+1)))/2))) (aW (ah (setArr t (aW (ah t) (lo+m-(neq+1)) (lo+m) ((lo+m-(lo+m-(neq+1)))/2)))) lo (lo+m) ((lo+m-lo)/2)))) (lo+n-1))with
     |true=>exact au (q1 (of_decide_eq_true z))
     |false=>exact au (q2 (of_decide_eq_false z))
    ·intro j j1 j2 j3 _;exact au (h j _ TB (by lia) j2 j3)
   ·rw[if_neg y];refine ar (wpS_reverse ?_);have TB:SB κ p a₁ lo (setArr t (aW (ah t) lo (lo+m) ((lo+m-lo)/2))):=(tB).mir (aD _) (by lia);refine ar (gD (R:=R) (mk:=λn=>(none,n)) hn (by lia) m2 (Dsc.turn (tS) (by show lo+m<=(ah t).size;rw[(tB).size];lia)) ?_ ?_)
    ·intro x n Q' hl n1 q1 q2;dsimp only;refine ar (dR C K Da (TB) hl (by lia) ?_);cases z:decide (Kr R (ah (setArr t (aW (ah t) lo (lo+m) ((lo+m-lo)/2)))) (lo+n)<Kr R (ah (setArr t (aW (ah t) lo (lo+m) ((lo+m-lo)/2)))) (lo+n-1))with
     |true=>exact au (q1 (of_decide_eq_true z))
     |false=>exact au (q2 (of_decide_eq_false z))
    ·intro j j1 j2 j3 _;exact au (h j _ TB (by lia) j2 j3)
end
theorem iY(a:Array ao)(i:Nat):at' a i=(a.toList[i]?).getD df:=by
 unfold at';rw[Array.getD_eq_getD_getElem?,Array.getElem?_toList]
theorem oR{a:Array ao}{i j m:Nat}(hj:j<=a.size)(hm:i+m<j):at' (a.extract i j) m=at' a (i+m):=by
 refine fR ?_;rw[Array.getElem?_extract,if_pos (by lia)]
noncomputable def putAll(s:Nat)(l:List ao)(n:Nat)(a:Array ao):Array Keyed:=(l.zipIdx n).foldl (λa (p:ao×Nat)=>a.setIfInBounds (s+p.2) p.1) a
theorem jN(s:Nat):∀(l:List ao) (n:Nat) (a:Array ao),s+n+l.length<=a.size->(putAll s l n a).toList=a.toList.take (s+n)++l++a.toList.drop (s+n+l.length)
 | [],n,a,_=>by
  show a.toList=_;simp
 |x::l,n,a,h=>by
  show (putAll s l (n+1) (a.setIfInBounds (s+n) x)).toList=_;rw[cf]at h;rw[jN s l (n+1) _ (by rw[Array.size_setIfInBounds];lia)];have hl:s+n<a.toList.length:=by rw[a9];lia
  rw[Array.toList_setIfInBounds,show s+(n+1)=s+n+1 by lia,List.take_set,List.drop_set,if_pos (by lia),cf,
   show s+n+1+l.length=s+n+(l.length+1)by lia]
  congr 1
  rw[show (x::l)=[x]++l from rfl,<-bq]
  congr 1
  rw[List.take_succ_eq_append_getElem hl,List.set_append_right _ _ (by rw[cz];lia),cz,Nat.min_eq_left (by lia),Nat.sub_self]
  rfl
theorem kR{s:Nat}{r a:Array ao}(h:s+r.size<=a.size)(t:Nat):at' (putAll s r.toList 0 a) t=if s<=t/\t<s+r.size then at' r (t-s)else at' a t:=by
 rw[iY,jN s _ _ _ (by rw[a9];lia),Nat.add_zero,a9];have h1:(a.toList.take s).length=s:=by rw[cz,a9];lia
 by_cases e1:t<s
 ·rw[if_neg (by lia),bq,List.getElem?_append_left (by lia),List.getElem?_take,if_pos e1,iY]
 ·rw[bq,List.getElem?_append_right (by lia),h1];by_cases e2:t<s+r.size
  ·rw[if_pos (by lia),List.getElem?_append_left (by rw[a9];lia),iY]
  ·rw[if_neg (by lia),List.getElem?_append_right (by rw[a9];lia),List.getElem?_drop,a9,iY]
   congr 2;lia
theorem mj{s e:Nat}{r x y a:Array ao}{m:Nat}(h1:s<=m)(h2:m<=e)(h3:e<=a.size)(hx:x=a.extract s m)(hy:y=a.extract m e)(hr:r.toList.Perm (x.toList++y.toList)):r.size=e-s/\(putAll s r.toList 0 a).Perm a:=by
 have hl:r.size=e-s:=by
  have:=hr.length_eq;rw[cb,a9,a9,a9,hx,hy,Array.size_extract,Array.size_extract]at this;lia
 refine⟨hl,Array.perm_iff_toList_perm.mpr ?_⟩;rw[jN s _ _ _ (by rw[a9];lia),Nat.add_zero,a9,hl];have hxy:x.toList++y.toList=(a.toList.drop s).take (e-s):=by
  rw[hx,hy,zE,zE,show e-s=(m-s)+(e-m)by lia,List.take_add,List.drop_drop,show s+(m-s)=m by lia]
 have e0:a.toList=a.toList.take s++(a.toList.drop s).take (e-s)++a.toList.drop (s+(e-s)):=by
  rw[bq,<-List.drop_drop,bE,bE]
 conv=>rhs;rw[e0]
 rw[hxy]at hr;exact(hr.append_left _).append_right _
section
variable{prog:aC}{w:av}{A:aA}{E:ae->af->Prop}{s:af}{κ:SortKind}{D:ao->Prop}{LT:ao->ao->Bool}{R:ao->Int}
theorem vZ{a r x y:Array ao}{sa s' sb e' en:Nat}(h1:sa<=s')(h2:s'<sb)(h3:sb<=e')(h4:e'<=en)(h5:en<=a.size)
  (SX:∀i j,sa<=i->i<=j->j<sb->Kr R a i<=Kr R a j) (SY:∀i j,sb<=i->i<=j->j<en->Kr R a i<=Kr R a j)
  (F1:∀i,sa<=i->i<s'->Kr R a i<=Kr R a sb) (hbn:sb<en) (F2:∀i,e'<=i->i<en->Kr R a (sb-1)<=Kr R a i)
  (hx:x=a.extract s' sb) (hy:y=a.extract sb e') (hr:r.toList.Perm (x.toList++y.toList)) (hs:∀i j,i<=j->j<r.size->Kr R r i<=Kr R r j) :
  ∀i j,sa<=i->i<=j->j<en->Kr R (putAll s' r.toList 0 a) i<=Kr R (putAll s' r.toList 0 a) j:=by
 have hp:=mj (by lia) h3 (by lia) hx hy hr;have mid:∀v,v<r.size->∃z,s'<=z/\z<e'/\at' r v=at' a z:=λv hv=>by
  have:=hr.mem_iff.mp (jA hv);rw[List.mem_append,hx,hy]at this;rcases this with q|q
  ·obtain⟨z,z1,z2,z3,z4⟩:=qy q;exact⟨z,z1,by lia,z4⟩
  ·obtain⟨z,z1,z2,z3,z4⟩:=qy q;exact⟨z,by lia,z2,z4⟩
 intro i j hi hij hj;unfold Kr;rw[kR (by lia),kR (by lia)];by_cases ci:s'<=i/\i<s'+r.size
 ·rw[if_pos ci];by_cases cj:s'<=j/\j<s'+r.size
  ·rw[if_pos cj];exact hs _ _ (by lia) (by lia)
  ·rw[if_neg cj];obtain⟨z,z1,z2,z3⟩:=mid (i-s') (by lia);rw[z3];by_cases hz:z<sb
   ·exact Int.le_trans (SX z (sb-1) (by lia) (by lia) (by lia)) (F2 j (by lia) hj)
   ·exact SY z j (by lia) (by lia) hj
 ·rw[if_neg ci];by_cases cj:s'<=j/\j<s'+r.size
  ·rw[if_pos cj];obtain⟨z,z1,z2,z3⟩:=mid (j-s') (by lia);rw[z3];by_cases hz:z<sb
   ·exact SX i z hi (by lia) hz
   ·exact Int.le_trans (F1 i hi (by lia)) (SY sb z (by lia) (by lia) (by lia))
  ·rw[if_neg cj];by_cases c1:i<s'
   ·by_cases c2:j<s'
    ·exact SX i j hi hij (by lia)
    ·exact Int.le_trans (F1 i hi c1) (SY sb j (by lia) (by lia) hj)
   ·exact SY i j (by lia) hij hj
end
theorem DH{σ:Type}{M:Model}{A:aA}{E:ae->af->Prop}{s:af}{x:σ}{Q:PUnit->σ->Prop}{st:σ}(h:Q ⟨⟩ x):wpS M A E s (set x:StateT σ Sem PUnit) Q st:=by
 unfold wpS;exact aw ⟨rfl,h⟩
section
variable{prog:aC}{w:av}{A:aA}{E:ae->af->Prop}{s:af}{κ:SortKind}{D:ao->Prop}{LT:ao->ao->Bool}{R:ao->Int}
noncomputable def fU(p:Array (Nat×Nat×Nat))(i sa na nb pw:Nat):Array (Nat×Nat×Nat):=(p.setIfInBounds i (sa,na+nb,pw)).eraseIdxIfInBounds (i+1)
theorem u_(C:Cmp prog w A s κ D LT)(K:Rk D LT R){st:aI}{i sa na pw sb nb pw2:Nat}{Q:Bool->aI->Prop}(hk:kindOf st=κ)(hf:failedOf st=none)(Da:∀x∈(ah st).toList,D x)
  (h1:(a7 st)[i]? = some (sa,na,pw)) (h2:(a7 st)[i+1]? = some (sb,nb,pw2)) (hsb:sb=sa+na) (hna:1<=na) (hnb:1<=nb) (hen:sb+nb<=(ah st).size)
  (SX:Seg R (ah st) sa na) (SY:Seg R (ah st) sb nb)
  (h:∀st',kindOf st'=κ->failedOf st'=none->a7 st'=fU (a7 st) i sa na nb pw->(ah st').Perm (ah st)->(∀j,(j<sa\/sb+nb<=j)->at' (ah st') j=at' (ah st) j)->Seg R (ah st') sa (na+nb)->Q true st') :
  wpS (aq prog w) A E s (mergeAt' i) Q st:=by
 have dm:∀j,j<(ah st).size->D (at' (ah st) j):=λj hj=>Da _ (jA hj)
 have rk:∀x y,x<(ah st).size->y<(ah st).size->LT (at' (ah st) x) (at' (ah st) y)=decide (Kr R (ah st) x<Kr R (ah st) y):=λx y hx hy=>K.rk _ _ (dm x hx) (dm y hy)
 have SX':∀i j,sa<=i->i<=j->j<sb->Kr R (ah st) i<=Kr R (ah st) j:=λi j a b c=>by
  have:=SX (i-sa) (j-sa) (by lia) (by lia)
  rwa[show sa+(i-sa)=i by lia,show sa+(j-sa)=j by lia]at this
 have SY':∀i j,sb<=i->i<=j->j<sb+nb->Kr R (ah st) i<=Kr R (ah st) j:=λi j a b c=>by
  have:=SY (i-sb) (j-sb) (by lia) (by lia)
  rwa[show sb+(i-sb)=i by lia,show sb+(j-sb)=j by lia]at this
 have W:=C.wo;unfold mergeAt';refine ar (wpS_get ?_);rw[h1,h2];dsimp only;refine ar (DH ?_);refine ar (qW (qq (show sb<(ah st).size by lia)) ?_);refine ar (gv C (by exact hk) (dm sb (by lia)) (λj=>at' (ah st) (sa+j)) (λj hj=>⟨qq (show sa+j<(ah st).size by lia),dm _ (by lia)⟩) (by lia) ?_ ?_)
 ·intro i j hij hj hb;unfold bey at hb ⊢;simp only[a_,if_false]at hb ⊢;rw[rk _ _ (by lia) (by lia)]at hb ⊢;have:=SX' (sa+i) (sa+j) (by lia) (by lia) (by lia);simp only[bR,decide_eq_false_iff_not]at hb ⊢;lia
 intro k hk1 hk2 hk3;dsimp only;have F1:∀j,sa<=j->j<sa+k->Kr R (ah st) j<=Kr R (ah st) sb:=λj a b=>by
  have:=hk2 (j-sa) (by lia);unfold bey at this;simp only[a_,if_false]at this;rw[show sa+(j-sa)=j by lia,rk _ _ (by lia) (by lia)]at this;simp only[bR,decide_eq_false_iff_not]at this;lia
 have F1':∀j,sa+k<=j->j<sb->Kr R (ah st) sb<Kr R (ah st) j:=λj a b=>by
  have:=hk3 (j-sa) (by lia) (by lia);unfold bey at this;simp only[a_,if_false]at this;rw[show sa+(j-sa)=j by lia,rk _ _ (by lia) (by lia)]at this;simp only[Bool.not_eq_false',decide_eq_true_eq]at this;lia
 by_cases e1:(na-k==0)=true
 ·rw[if_pos e1];have e1':na-k=0:=by simpa using e1
  refine au (h _ hk hf rfl (Array.Perm.refl _) (λ_ _=>rfl) ?_);intro x y hxy hy;show Kr R (ah st) (sa+x)<=Kr R (ah st) (sa+y);by_cases c:y<na
  ·exact SX x y hxy c
  ·by_cases c2:x<na
   ·exact Int.le_trans (F1 _ (by lia) (by lia)) (SY' sb _ (by lia) (by lia) (by lia))
   ·exact SY' _ _ (by lia) (by lia) (by lia)
 rw[if_neg e1];have e1':na-k≠0:=by simpa using e1
 rw[show sa+k+(na-k)-1=sb-1 by lia];refine ar (qW (qq (show sb-1<(ah st).size by lia)) ?_);refine ar (gv C (by exact hk) (dm (sb-1) (by lia)) (λj=>at' (ah st) (sb+j)) (λj hj=>⟨qq (show sb+j<(ah st).size by lia),dm _ (by lia)⟩) (by lia) ?_ ?_)
 ·intro i j hij hj hb;unfold bey at hb ⊢;simp only[if_true]at hb ⊢;rw[rk _ _ (by lia) (by lia)]at hb ⊢;have:=SY' (sb+i) (sb+j) (by lia) (by lia) (by lia);simp only[decide_eq_true_eq]at hb ⊢;lia
 intro m hm1 hm2 hm3;dsimp only;have F2:∀j,sb<=j->j<sb+m->Kr R (ah st) j<Kr R (ah st) (sb-1):=λj a b=>by
  have:=hm2 (j-sb) (by lia);unfold bey at this;simp only[if_true]at this;rw[show sb+(j-sb)=j by lia,rk _ _ (by lia) (by lia)]at this
  simpa using this
 have F2':∀j,sb+m<=j->j<sb+nb->Kr R (ah st) (sb-1)<=Kr R (ah st) j:=λj a b=>by
  have:=hm3 (j-sb) (by lia) (by lia);unfold bey at this;simp only[if_true]at this;rw[show sb+(j-sb)=j by lia,rk _ _ (by lia) (by lia)]at this;simp only[decide_eq_false_iff_not]at this;lia
 by_cases e2:(m==0)=true
 ·exfalso;have e2':m=0:=by simpa using e2
  have a1:=F1' (sb-1) (by lia) (by lia);have a2:=F2' sb (by lia) (by lia);lia
 rw[if_neg e2];have e2':m≠0:=by simpa using e2
 have sx:((ah st).extract (sa+k) sb).size=na-k:=by rw[Array.size_extract];lia
 have sy:((ah st).extract sb (sb+m)).size=m:=by rw[Array.size_extract];lia
 have ax:∀j,j<na-k->at' ((ah st).extract (sa+k) sb) j=at' (ah st) (sa+k+j):=λj hj=>oR (by lia) (by lia)
 have ay:∀j,j<m->at' ((ah st).extract sb (sb+m)) j=at' (ah st) (sb+j):=λj hj=>oR (by lia) (by lia)
 have srt:∀(z:Array ao) (o:Nat),(∀j,j<z.size->o+j<(ah st).size/\at' z j=at' (ah st) (o+j))->(∀i j,i<=j->j<z.size->Kr R (ah st) (o+i)<=Kr R (ah st) (o+j))->Srt LT z.toList:=λz o hz hs=>by
  unfold Srt;rw[List.pairwise_iff_getElem];intro i j hi hj hij;rw[a9]at hi hj;have b1:=qq hi;have b2:=qq hj;rw[Array.getElem?_eq_getElem hi]at b1;rw[Array.getElem?_eq_getElem hj]at b2;injection b1 with b1
  injection b2 with b2
  rw[Array.getElem_toList,Array.getElem_toList,b1,b2,(hz i hi).2,(hz j hj).2,rk _ _ (hz j hj).1 (hz i hi).1];have:=hs i j (by lia) hj;simp only[decide_eq_false_iff_not];lia
 have Sx:Srt LT ((ah st).extract (sa+k) sb).toList:=srt _ (sa+k) (λj hj=>⟨by lia,ax j (by lia)⟩) (λi j hij hj=>SX' _ _ (by lia) (by lia) (by lia));have Sy:Srt LT ((ah st).extract sb (sb+m)).toList:=srt _ sb (λj hj=>⟨by lia,ay j (by lia)⟩) (λi j hij hj=>SY' _ _ (by lia) (by lia) (by lia));have h0:LT (at' ((ah st).extract sb (sb+m)) 0) (at' ((ah st).extract (sa+k) sb) 0)=true:=by
  rw[ax 0 (by lia),ay 0 (by lia),rk _ _ (by lia) (by lia)];exact decide_eq_true (F1' _ (by lia) (by lia))
 have hl:∀j,j<((ah st).extract sb (sb+m)).size->LT (at' ((ah st).extract sb (sb+m)) j) (at' ((ah st).extract (sa+k) sb) (((ah st).extract (sa+k) sb).size-1))=true:=λj hj=>by
  rw[ax _ (by lia),ay j (by lia),sx,rk _ _ (by lia) (by lia),show sa+k+(na-k-1)=sb-1 by lia];exact decide_eq_true (F2 _ (by lia) (by lia))
 have Dx:∀j,j<((ah st).extract (sa+k) sb).size->D (at' ((ah st).extract (sa+k) sb) j):=λj hj=>by
  rw[ax j (by lia)];exact dm _ (by lia)
 have Dy:∀j,j<((ah st).extract sb (sb+m)).size->D (at' ((ah st).extract sb (sb+m)) j):=λj hj=>by
  rw[ay j (by lia)];exact dm _ (by lia)
 have fin:∀r g,Mg LT ((ah st).extract (sa+k) sb) ((ah st).extract sb (sb+m)) r->wpS (aq prog w) A E s (do
   modify λs=>setArr s (putAll (sa+k) r.toList 0 (ah s))
   return (failedOf (<-get)).isNone) Q (setG (setPending st (fU (a7 st) i sa na nb pw)) g):=λr g M=>by
  refine ar (wpS_modify ?_);refine ar (wpS_get ?_);refine au ?_;have hp:=mj (by lia) (by lia) (by lia) rfl rfl M.1;have e3:(failedOf (setArr (setG (setPending st (fU (a7 st) i sa na nb pw)) g) (putAll (sa+k) r.toList 0 (ah st)))).isNone=true:=by
   show (failedOf st).isNone=true;rw[hf];rfl
  show Q (failedOf (setArr (setG (setPending st (fU (a7 st) i sa na nb pw)) g) (putAll (sa+k) r.toList 0 (ah st)))).isNone _;rw[e3];refine h _ hk hf rfl hp.2 (λj hj=>?_) ?_
  ·show at' (putAll (sa+k) r.toList 0 (ah st)) j=_;rw[kR (by lia),if_neg (by lia)]
  ·have dr:∀j,j<r.size->D (at' r j):=λj hj=>by
    have:=M.1.mem_iff.mp (jA hj);rw[List.mem_append]at this;rcases this with q|q
    ·obtain⟨z,z1,z2,z3,z4⟩:=qy q;rw[z4];exact dm z z3
    ·obtain⟨z,z1,z2,z3,z4⟩:=qy q;rw[z4];exact dm z z3
   have:=vZ (R:=R) (a:=ah st) (sa:=sa) (s':=sa+k) (sb:=sb) (e':=sb+m) (en:=sb+nb) (by lia) (by lia) (by lia) (by lia) hen SX' SY' F1 (by lia) F2' rfl rfl M.1 (λx y hxy hy=>by
    have:=zP W M.2 hxy hy;rw[K.rk _ _ (dr _ hy) (dr _ (by lia))]at this;simp only[decide_eq_false_iff_not]at this;unfold Kr;lia)
   intro x y hxy hy;exact this _ _ (by lia) (by lia) (by lia)
 by_cases e4:na-k<=m
 ·rw[if_pos e4];exact ar (BH C (by exact hk) Dx Dy Sx Sy (show 0<((ah st).extract (sa+k) sb).size by lia) (show 0<((ah st).extract sb (sb+m)).size by lia) h0 hl fin)
 ·rw[if_neg e4];exact ar (AD C (by exact hk) Dx Dy Sx Sy (show 0<((ah st).extract (sa+k) sb).size by lia) (show 0<((ah st).extract sb (sb+m)).size by lia) h0 hl fin)
end
noncomputable def pr(x:Nat×Nat×Nat):Nat×Nat:=(x.1,x.2.1)
noncomputable def Runs(R:ao->Int)(a:Array ao):Nat->List (Nat×Nat)->Nat->Prop
 |b,[],e=>b=e
 |b,x::l,e=>x.1=b/\1<=x.2/\Seg R a b x.2/\Runs R a (b+x.2) l e
section
variable{R:ao->Int}{a a':Array ao}
theorem Runs.le:∀{l:List (Nat×Nat)}{b e:Nat},Runs R a b l e->b+l.length<=e
 | [],b,e,h=>by simp only[List.length_nil];exact Nat.le_of_eq h
 |x::l,b,e,h=>by
  have:=h.2.2.2.le;have:=h.2.1;simp only[cf];lia
theorem Seg.congr{b n:Nat}(h:Seg R a b n)(hc:∀j,b<=j->j<b+n->at' a' j=at' a j):Seg R a' b n:=λi j hij hj=>by
 unfold Kr;rw[hc _ (by lia) (by lia),hc _ (by lia) (by lia)];exact h i j hij hj
theorem Runs.congr:∀{l:List (Nat×Nat)}{b e:Nat},Runs R a b l e->(∀j,b<=j->j<e->at' a' j=at' a j)->Runs R a' b l e
 | [],b,e,h,_=>h
 |x::l,b,e,h,hc=>by
  have:=h.2.2.2.le;exact⟨h.1,h.2.1,h.2.2.1.congr λj h1 h2=>hc j h1 (by lia),h.2.2.2.congr λj h1 h2=>hc j (by lia) h2⟩
theorem Runs.append:∀{l l':List (Nat×Nat)}{b e:Nat},Runs R a b (l++l') e↔∃m,Runs R a b l m/\Runs R a m l' e
 | [],l',b,e=>⟨λh=>⟨b,rfl,h⟩,λ⟨m,h1,h2⟩=>by cases h1;exact h2⟩
 |x::l,l',b,e=>by
  constructor
  ·rintro⟨h1,h2,h3,h4⟩;obtain⟨m,h5,h6⟩:=Runs.append.mp h4;exact⟨m,⟨h1,h2,h3,h5⟩,h6⟩
  ·rintro⟨m,⟨h1,h2,h3,h4⟩,h5⟩;exact⟨h1,h2,h3,Runs.append.mpr ⟨m,h4,h5⟩⟩
theorem vR{α:Type}{l:List α}{i:Nat}{x y:α}(h1:l[i]? = some x)(h2:l[i+1]? = some y):∃u v,l=u++x::y::v/\u.length=i:=by
 obtain⟨hl,e2⟩:=List.getElem?_eq_some_iff.mp h2;obtain⟨hl1,e1⟩:=List.getElem?_eq_some_iff.mp h1;refine⟨l.take i,l.drop (i+2),?_,by rw[cz];lia⟩
 conv=>lhs;rw[<-bE i l]
 rw[dg hl1,dg hl,e1,e2]
theorem DE{p:Array (Nat×Nat×Nat)}{u v:List (Nat×Nat×Nat)}{x y:Nat×Nat×Nat}{sa na nb pw:Nat}(h:p.toList=u++x::y::v):(fU p u.length sa na nb pw).toList=u++(sa,na+nb,pw)::v:=by
 unfold fU;have hs:p.size=u.length+v.length+2:=by rw[<-a9,h];simp;lia
 rw[Array.eraseIdxIfInBounds_eq,dif_pos (by rw[Array.size_setIfInBounds];lia),Array.toList_eraseIdx,Array.toList_setIfInBounds,h];rw[List.set_append_right _ _ (aD _),Nat.sub_self];rw[List.eraseIdx_append_of_length_le (by lia)];rw[show u.length+1-u.length=1 by lia]
 rfl
end
structure SR(κ:SortKind)(R:ao->Int)(a₁:Array ao)(lo:Nat)(st:aI):Prop where
 kd:kindOf st=κ
 fl:failedOf st=none
 pm:(ah st).Perm a₁
 rn:Runs R (ah st) 0 ((a7 st).toList.map pr) lo
 le:lo<=a₁.size
section
variable{prog:aC}{w:av}{A:aA}{E:ae->af->Prop}{s:af}{κ:SortKind}{D:ao->Prop}{LT:ao->ao->Bool}{R:ao->Int}{a₁:Array ao}{lo:Nat}
theorem SR.sz{st:aI}(h:SR κ R a₁ lo st):(ah st).size=a₁.size:=h.pm.size_eq
theorem SR.dom{st:aI}(h:SR κ R a₁ lo st)(Da:∀x∈a₁.toList,D x):∀x∈(ah st).toList,D x:=λx hx=>Da x ((Array.perm_iff_toList_perm.mp h.pm).mem_iff.mp hx)
theorem SR.merge(C:Cmp prog w A s κ D LT)(K:Rk D LT R)(Da:∀x∈a₁.toList,D x){st:aI}{i:Nat}{Q:Bool->aI->Prop}(H:SR κ R a₁ lo st)(hi:i+1<(a7 st).size)
  (h:∀st',SR κ R a₁ lo st'->(∀j,lo<=j->at' (ah st') j=at' (ah st) j)->(a7 st').size+1=(a7 st).size->Q true st') :
  wpS (aq prog w) A E s (mergeAt' i) Q st:=by
 obtain⟨⟨sa,na,pw⟩,hx⟩:∃x,(a7 st)[i]? = some x:=⟨_,Array.getElem?_eq_getElem (by lia)⟩
 obtain⟨⟨sb,nb,pw2⟩,hy⟩:∃x,(a7 st)[i+1]? = some x:=⟨_,Array.getElem?_eq_getElem hi⟩
 obtain⟨u,v,hl,hu⟩:=vR (l:=(a7 st).toList) (by rw[Array.getElem?_toList];exact hx) (by rw[Array.getElem?_toList];exact hy);have rn:=H.rn;rw[hl,List.map_append]at rn;obtain⟨m,r1,r2⟩:=Runs.append.mp rn;obtain⟨q1,q2,q3,q4,q5,q6,q7⟩:=r2;have q1:sa=m:=q1;have q2:1<=na:=q2;have q3:Seg R (ah st) m na:=q3;have q4:sb=m+na:=q4;have q5:1<=nb:=q5;have q6:Seg R (ah st) (m+na) nb:=q6;have q7:Runs R (ah st) (m+na+nb) (v.map pr) lo:=q7;have hle:=q7.le;have hle2:=r1.le;have hlo:=H.le;have hz:=H.sz;subst q1;refine u_ C K H.kd H.fl (H.dom Da) hx hy q4 q2 q5 (by lia) q3 (by rw[q4];exact q6) λst' k1 k2 k3 k4 k5 k6=>?_
 have hp:(a7 st').toList=u++(sa,na+nb,pw)::v:=by rw[k3,<-hu];exact DE hl
 refine h st' ⟨k1,k2,k4.trans H.pm,?_,H.le⟩ (λj hj=>k5 j (.inr (by lia))) ?_
 ·rw[hp,List.map_append];refine Runs.append.mpr ⟨sa,r1.congr λj _ hj=>k5 j (.inl hj),rfl,show 1<=na+nb by lia,k6,?_⟩;show Runs R (ah st') (sa+(na+nb)) (v.map pr) lo;rw[<-Nat.add_assoc];exact q7.congr λj hj _=>k5 j (.inr (by lia))
 ·rw[<-a9,hp,<-a9,hl];simp;lia
end
section
variable{prog:aC}{w:av}{A:aA}{E:ae->af->Prop}{s:af}{κ:SortKind}{D:ao->Prop}{LT:ao->ao->Bool}{R:ao->Int}{a₁:Array ao}{lo:Nat}
theorem rE{p:Array (Nat×Nat×Nat)}{i pw:Nat}:(p.modify i λx=>(x.1,x.2.1,pw)).toList.map pr=p.toList.map pr:=by
 apply List.ext_getElem?;intro k;rw[List.getElem?_map,List.getElem?_map,Array.getElem?_toList,Array.getElem?_toList,Array.getElem?_modify];split
 ·rename_i e
  subst e;cases p[i]? <;> rfl
 ·rfl
theorem SR.pend{st:aI}{p:Array (Nat×Nat×Nat)}(H:SR κ R a₁ lo st)(hp:p.toList.map pr=(a7 st).toList.map pr):SR κ R a₁ lo (setPending st p):=
 ⟨H.kd,H.fl,H.pm,by show Runs R (ah st) 0 (p.toList.map pr) lo;rw[hp];exact H.rn,H.le⟩
theorem SR.push{st:aI}{n:Nat}(H:SR κ R a₁ lo st)(h1:1<=n)(h2:lo+n<=a₁.size)(hs:Seg R (ah st) lo n):SR κ R a₁ (lo+n) (setPending st ((a7 st).push (lo,n,0))):=
 ⟨H.kd,H.fl,H.pm,by
  show Runs R (ah st) 0 (((a7 st).push (lo,n,0)).toList.map pr) (lo+n);rw[Array.toList_push,List.map_append];exact Runs.append.mpr ⟨lo,H.rn,rfl,h1,hs,rfl⟩,h2⟩
theorem SR.base{st:aI}(H:SR κ R a₁ lo st):SB κ (a7 st) (ah st) lo st:=⟨H.kd,H.fl,rfl,Array.Perm.refl _,λ_ _=>rfl⟩
theorem SR.back{st st':aI}(H:SR κ R a₁ lo st)(B:SB κ (a7 st) (ah st) lo st'):SR κ R a₁ lo st':=
 ⟨B.kd,B.fl,B.pm.trans H.pm,by rw[B.pn];exact H.rn.congr λj _ hj=>B.lw j hj,H.le⟩
theorem Bu(C:Cmp prog w A s κ D LT)(K:Rk D LT R)(Da:∀x∈a₁.toList,D x){st:aI}{Q:Unit->aI->Prop}(hk:kindOf st=κ)(hf:failedOf st=none)(hp:a7 st = #[])(ha:ah st=a₁)(h2:2<=a₁.size)
  (h:∀st',(ah st').Perm a₁->failedOf st'=none->Seg R (ah st') 0 a₁.size->Q () st'):wpS (aq prog w) A E s sortRuns' Q st:=by
 have H0:SR κ R a₁ 0 st:=⟨hk,hf,by rw[ha],by rw[hp];rfl,by lia⟩
 rw[sortRuns'_eq];refine ar (wpS_get ?_);dsimp only;rw[ha];generalize minRun' a₁.size a₁.size 0=mr;refine ar (wpS_mono (wpS_forRange
  (I:=λx c st'=>∃lo,c=(none,lo)/\SR κ R a₁ lo st'/\x<=lo)
  (Q:=λc st'=>c=(none,a₁.size)/\SR κ R a₁ a₁.size st') ?step ?fin ⟨0,rfl,H0,aD _⟩) ?post)
 case fin=>
  rintro c st' ⟨lo,rfl,H,hx⟩;have:=H.le;have:lo=a₁.size:=by lia
  subst this;exact⟨rfl,H⟩
 case step=>
  rintro x c st' _ hx ⟨lo,rfl,H,hxl⟩;dsimp only;have hle:=H.le;by_cases e:lo >= a₁.size
  ·rw[if_pos e];have:lo=a₁.size:=by lia
   subst this;exact au ⟨rfl,H⟩
  rw[if_neg e];have hz:=H.sz;refine ar (yA C K (H.dom Da) (by lia) (by lia) H.base λm st2 B2 m1 m2 S2=>?_);dsimp only;by_cases e3:m<mr
  ·rw[if_pos e3];refine ar (wpS_lift (wpAny_rule ⟨rfl,?_⟩));by_cases e4:m<=min (a₁.size-lo) mr
   ·refine ar (vE C K (H.dom Da) (by lia) e4 B2 S2 λst3 B3 S3=>?_);simp only[Bool.not_true,a_,if_false];have Hn:=H.back B3;refine ar (wpS_get ?_);cases hb:(a7 st3).back? with
    |none=>
     dsimp only;exact ar (wpS_modify (au ⟨_,rfl,Hn.push (by lia) (by lia) S3,by lia⟩))
    |some q=>
     obtain⟨s1,k1,w1⟩:=q;dsimp only;generalize power' _ _ _ _=pw;refine ar (wpS_mono (wpS_forRange (I:=λ_ c st'=>c=(none,())/\SR κ R a₁ lo st'/\∀j,lo<=j->at' (ah st') j=at' (ah st3) j)
      (Q:=λc st'=>c=(none,())/\SR κ R a₁ lo st'/\∀j,lo<=j->at' (ah st') j=at' (ah st3) j) ?_ (λ_ _ h=>h) ⟨rfl,Hn,λ_ _=>rfl⟩) ?_)
     ·rintro y c st8 _ _ ⟨rfl,H8,c8⟩;refine ar (wpS_get ?_);by_cases e1:(a7 st8).size>1
      ·rw[if_pos e1];obtain⟨⟨u1,u2,older⟩,hy⟩:∃x,(a7 st8)[(a7 st8).size-2]? = some x:=⟨_,Array.getElem?_eq_getElem (by lia)⟩
       rw[hy];dsimp only;by_cases e2:older<=pw
       ·rw[if_pos e2];exact au ⟨rfl,H8,c8⟩
       ·rw[if_neg e2];refine ar (H8.merge C K Da (by lia) λst9 H9 c9 _=>?_);exact au ⟨rfl,H9,λj hj=>(c9 j hj).trans (c8 j hj)⟩
      ·rw[if_neg e1];exact au ⟨rfl,H8,c8⟩
     ·rintro c st8 ⟨rfl,H8,c8⟩;dsimp only;refine ar (wpS_modify ?_);exact ar (wpS_modify (au ⟨_,rfl,(H8.pend rE).push (by lia) (by lia) (S3.congr λj hj _=>c8 j hj),by lia⟩))
   ·exfalso;lia
  ·rw[if_neg e3];have Hn:=H.back B2;refine ar (wpS_get ?_);cases hb:(a7 st2).back? with
   |none=>
    dsimp only;exact ar (wpS_modify (au ⟨_,rfl,Hn.push (m1) (by lia) S2,by lia⟩))
   |some q=>
    obtain⟨s1,k1,w1⟩:=q;dsimp only;generalize power' _ _ _ _=pw;refine ar (wpS_mono (wpS_forRange (I:=λ_ c st'=>c=(none,())/\SR κ R a₁ lo st'/\∀j,lo<=j->at' (ah st') j=at' (ah st2) j)
     (Q:=λc st'=>c=(none,())/\SR κ R a₁ lo st'/\∀j,lo<=j->at' (ah st') j=at' (ah st2) j) ?_ (λ_ _ h=>h) ⟨rfl,Hn,λ_ _=>rfl⟩) ?_)
    ·rintro y c st8 _ _ ⟨rfl,H8,c8⟩;refine ar (wpS_get ?_);by_cases e1:(a7 st8).size>1
     ·rw[if_pos e1];obtain⟨⟨u1,u2,older⟩,hy⟩:∃x,(a7 st8)[(a7 st8).size-2]? = some x:=⟨_,Array.getElem?_eq_getElem (by lia)⟩
      rw[hy];dsimp only;by_cases e2:older<=pw
      ·rw[if_pos e2];exact au ⟨rfl,H8,c8⟩
      ·rw[if_neg e2];refine ar (H8.merge C K Da (by lia) λst9 H9 c9 _=>?_);exact au ⟨rfl,H9,λj hj=>(c9 j hj).trans (c8 j hj)⟩
     ·rw[if_neg e1];exact au ⟨rfl,H8,c8⟩
    ·rintro c st8 ⟨rfl,H8,c8⟩;dsimp only;refine ar (wpS_modify ?_);exact ar (wpS_modify (au ⟨_,rfl,(H8.pend rE).push (m1) (by lia) (S2.congr λj hj _=>c8 j hj),by lia⟩))
 case post=>
  rintro c st' ⟨rfl,H⟩;dsimp only;have hl:=H.rn.le;rw[aR,a9]at hl;refine ar (wpS_mono (wpS_forRange (I:=λx c st''=>c=(none,())/\SR κ R a₁ a₁.size st''/\((a7 st'').size<=1\/(a7 st'').size+x<=a₁.size))
   (Q:=λc st''=>c=(none,())/\SR κ R a₁ a₁.size st''/\(a7 st'').size<=1) ?_ ?_ ⟨rfl,H,.inr (by lia)⟩) ?_)
  ·rintro x c st3 _ hx ⟨rfl,H3,c3⟩;refine ar (wpS_get ?_);by_cases e1:(a7 st3).size<=1
   ·rw[if_pos e1];exact au ⟨rfl,H3,e1⟩
   rw[if_neg e1];refine ar (H3.merge C K Da ?_ λst4 H4 c4 z4=>?_)
   ·(repeat' split)<;>lia
   ·exact au ⟨rfl,H4,by lia⟩
  ·rintro c st3 ⟨rfl,H3,c3⟩;exact⟨rfl,H3,by lia⟩
  ·rintro c st3 ⟨rfl,H3,c3⟩;refine au (h st3 H3.pm H3.fl ?_);have rn:=H3.rn;generalize hq:(a7 st3).toList.map pr=q at rn;have hql:q.length<=1:=by rw[<-hq,aR,a9];exact c3
   match q,rn,hql with
   | [],rn,_=>exact absurd rn (by show ¬ (0=a₁.size);lia)
   | [x],rn,_=>
    obtain⟨_,_,r3,r4⟩:=rn;have r4:0+x.2=a₁.size:=r4;rw[<-r4,Nat.zero_add];exact r3
end
theorem rA{α:Type}{p q:α->Bool}{a:α}:∀{l:List α},(∀x∈l,p x=true->q x=true)->a∈l->p a=false->q a=true->l.countP p<l.countP q
 | [],_,h,_,_=>nomatch h
 |x::l,hi,h,h1,h2=>by
  rw[List.countP_cons,List.countP_cons];have le:=List.countP_mono_left (l:=l) (p:=p) (q:=q) λy hy=>hi y (aM _ hy)
  rcases aF.mp h with e|h
  ·subst e;rw[h1,h2];simp only[a_,if_false,if_true];lia
  ·have:=rA (λy hy=>hi y (aM _ hy)) h h1 h2;have:=hi x aO;cases e:p x with
   |true=>rw[this e];simp only[if_true];lia
   |false=>simp only[a_,if_false];split<;>lia
noncomputable def jo(LT:ao->ao->Bool)(l:List ao)(x:ao):Int:=(l.countP λz=>LT z x:Nat)
theorem Wo.rank{LT:ao->ao->Bool}(W:Wo LT)(l:List ao):Rk (·∈l) LT (jo LT l):=⟨λx y hx hy=>by
 unfold jo;cases e:LT x y with
 |true=>
  have:=rA (p:=λz=>LT z x) (q:=λz=>LT z y) (a:=x) (λz _ q=>W.lt_le (x:=z) (y:=x) (z:=y) q (W.asym x y e)) hx (W.irr x) e;exact(decide_eq_true (by lia)).symm
 |false=>
  have:=List.countP_mono_left (l:=l) (p:=λz=>LT z y) (q:=λz=>LT z x) λz _ q=>W.lt_le (x:=z) (y:=y) (z:=x) q e
  exact(decide_eq_false (by lia)).symm⟩
noncomputable def ltL:List Int->List Int->Bool
 | [],[]=>false
 | [],_::_=>true
 |_::_,[]=>false
 |a::x,b::y=>if a=b then ltL x y else decide (a<b)
theorem gC:∀{x y:List Int},ltL x y=true->ltL y x=false
 | [],[],h=>nomatch h
 | [],_::_,_=>rfl
 |_::_,[],h=>nomatch h
 |a::x,b::y,h=>by
  unfold ltL at h ⊢;by_cases e:a=b
  ·rw[if_pos e]at h;rw[if_pos e.symm];exact gC h
  ·rw[if_neg e]at h;have:=of_decide_eq_true h;rw[if_neg (λz=>e z.symm)];exact decide_eq_false (by lia)
theorem gY:∀{x y z:List Int},ltL y x=false->ltL z y=false->ltL z x=false
 | [],_,[],_,_=>rfl
 |_::_,[],[],h,_=>nomatch h
 |_::_,_::_,[],_,h=>nomatch h
 | [],_,_::_,_,_=>rfl
 |_::_,[],_::_,h,_=>nomatch h
 |a::x,b::y,c::z,h1,h2=>by
  unfold ltL at h1 h2 ⊢;by_cases e1:b=a
  ·rw[if_pos e1]at h1;by_cases e2:c=b
   ·rw[if_pos e2]at h2;rw[if_pos (e2.trans e1)];exact gY h1 h2
   ·rw[if_neg e2]at h2;have:=of_decide_eq_false h2;rw[if_neg (λq=>e2 (q.trans e1.symm))];exact decide_eq_false (by lia)
  ·rw[if_neg e1]at h1;have q1:=of_decide_eq_false h1;by_cases e2:c=b
   ·rw[if_neg (λq=>e1 (e2.symm.trans q))];exact decide_eq_false (by lia)
   ·rw[if_neg e2]at h2;have q2:=of_decide_eq_false h2;rw[if_neg (by lia)];exact decide_eq_false (by lia)
theorem yR(f:ao->List Int):Wo λx y=>ltL (f x) (f y):=⟨λ_ _ h=>gC h,λ_ _ _ h1 h2=>gY h1 h2⟩
theorem nM:∀{x y:List Int},ltL x y=false->ltL y x=false->x=y
 | [],[],_,_=>rfl
 | [],_::_,h,_=>nomatch h
 |_::_,[],_,h=>nomatch h
 |a::x,b::y,h1,h2=>by
  unfold ltL at h1 h2;by_cases e:a=b
  ·rw[if_pos e]at h1;rw[if_pos e.symm]at h2;rw[e,nM h1 h2]
  ·rw[if_neg e]at h1;rw[if_neg (λz=>e z.symm)]at h2;have:=of_decide_eq_false h1;have:=of_decide_eq_false h2;lia
theorem rN:∀x y:List Int,ltL x y=HT.lexLt x y
 | [],[]=>(HT.mC).symm
 | [],_::_=>(HT.nk ..).symm
 |_::_,[]=>(HT.sD ..).symm
 |a::x,b::y=>by
  rw[HT.rH,<-rN x y]
  rfl
section
variable{prog:aC}{w:av}{A:aA}{E:ae->af->Prop}{s:af}
theorem AI{l b:Addr}{items items2:Array ae}{ns ms:List Int}{Q:Bool->af->Prop}(hl:IsTup s.heap l items)(hb:IsTup s.heap b items2)(hi:bp items.toList ns)(hj:bp items2.toList ms)
  (hu:A.units<cLine) (h:Q (ltL ns ms) s):ak (aq prog w) A (oneLt' true (.ref l) (.ref b)) Q E s:=by
 obtain⟨⟨c1,d1,a1,s1⟩,ho,hc,n,hd⟩:=id hl;obtain⟨⟨c2,d2,a2,s2⟩,ho2,hc2,n2,hd2⟩:=id hb;simp only at hc hd hc2 hd2;subst hc hd hc2 hd2;rw[rN]at h;rw[oneLt'_eq];simp only[if_true];refine ag (wpAny_cRoomFor hu ?_);refine ag (wpAny_callSpecialIfBound?_slot ⟨_,ho,rfl⟩ PySem.F.slot_tuple_lt (call_meets PySem.F.slot_tuple_lt ⟨_,ho,rfl⟩ PySem.F.entry_tuple_lt (PySem.F.args_tuple_lt_2 _ _) (HT.l6 l b items items2 n n2 d1 d2 s1 s2 ns ms hi hj) ⟨ho,ho2,?_⟩));exact bH h
end
end TS
namespace TS
open PySem PySem.W PyProof.Rows
noncomputable def TupAt(h:Heap)(v:ae)(ns:List Int):Prop:=∃a o items n,v=.ref a/\h.get? a=some o/\o.cls=.type "tuple"/\o.data=.seq items n/\bp items.toList ns
inductive b_(h:Heap):List ae->List (List Int)->Prop
 |nil:b_ h [] []
 |cons {v:ae}{vs:List ae}{k:List Int}{ks:List (List Int)}:TupAt h v k->b_ h vs ks->b_ h (v::vs) (k::ks)
theorem b_.mem{h:Heap}{vs:List ae}{ks:List (List Int)}(t:b_ h vs ks):∀v∈vs,∃k,TupAt h v k:=by
 induction t with
 |nil=>intro v hv;cases hv
 |cons a t ih=>
  intro v hv;rcases aF.mp hv with e|hv
  ·subst e;exact⟨_,a⟩
  ·exact ih v hv
section
variable{M:Model}{A:aA}{E:ae->af->Prop}{s:af}
theorem rW{h:Heap}{v:ae}{k:List Int}(t:TupAt h v k):Looks M h (typeOf v) (.type "tuple"):=by
 obtain⟨a,o,items,n,rfl,ho,hc,_⟩:=t;have:Looks M h (typeOf (.ref a)) o.cls:=(Looks.ld ho).andThen .now
 rwa[hc]at this
theorem sF{vs:List ae}{ks:List (List Int)}(t:b_ s.heap vs ks):∀{Q:List (Option ae)->af->Prop},(∀os:List (Option ae),os.map Option.isSome=ks.map (λk=>!k.isEmpty)->Q os s)->ak M A (vs.mapM firstOfTuple') Q E s:=by
 induction t with
 |nil=>intro Q h;rw[List.mapM_nil];exact aw (h [] rfl)
 | @cons v vs k ks a t ih=>
  intro Q h;rw[List.mapM_cons];refine ag ?_;rw[kas_first_eq];refine ag ((rW a).here ?_);rw[if_neg (by first|decide|simp)];obtain⟨b,o,items,n,rfl,ho,hc,hd,hi⟩:=a;refine ag (listItems_at ho hd (aw (ag (ih λos e=>aw (h _ ?_)))));rw[aQ,e,aQ]
  congr 1
  obtain⟨l⟩:=items;cases hi with
  |nil=>rfl
  |cons _ _ _=>rfl
theorem vV{vs:List ae}{ks:List (List Int)}{Q:SortKind->af->Prop}(t:b_ s.heap vs ([]::ks))(h:Q oneType' s):ak M A (keyKind' vs.toArray) Q E s:=by
 rw[keyKind'_eq,List.mapM_toArray,map_eq_pure_bind];refine ag (ag (sF t λos e=>aw ?_));obtain⟨o,os',rfl,eo⟩:∃o os',os=o::os'/\o.isSome=false:=by
  cases os with
  |nil=>cases e
  |cons o os'=>rw[aQ,aQ]at e;exact⟨o,os',rfl,(List.cons.inj e).1⟩
 obtain rfl:o=none:=by cases o with
  |none=>rfl
  |some _=>cases eo
 rw[if_neg (by simp),if_neg (by simp),oneTypeOnly'_eq,List.mapM_toArray,map_eq_pure_bind];refine ag (ag (ag (kas_mapM (r:=bJ "tuple") _ (λv hv Q' hq=>by obtain⟨k,a⟩:=t.mem v hv;exact(rW a).here hq) (aw ?_))));have e0:(List.map (λ_=>bJ "tuple") vs).toArray[0]? = some (bJ "tuple"):=by
  cases t with
  |cons a t=>simp
 have e1:((List.map (λ_=>bJ "tuple") vs).toArray.all λx=>x==bJ "tuple")=true:=by
  simp only[List.all_toArray,List.all_map,cy];intro _ _
  rfl
 rw[e0];simp only[e1,if_true];exact aw (aw h)
end
section
variable{M:Model}{A:aA}{E:ae->af->Prop}{s:af}
theorem b_.firsts{h:Heap}{vs:List ae}{ks:List (List Int)}(t:b_ h vs ks)(hne:∀k∈ks,k≠[]):∃fs,KatTups h vs fs/\fs.length=vs.length/\∀v∈fs,∃i t,v=ae.int i t:=by
 induction t with
 |nil=>exact⟨[],trivial,rfl,λ_ h=>nomatch h⟩
 | @cons v vs k ks a t ih=>
  obtain⟨fs,k1,k2,k3⟩:=ih λk hk=>hne k (aM _ hk)
  obtain⟨b,o,items,n,rfl,ho,hc,hd,hi⟩:=a;obtain⟨l⟩:=items;cases hi with
  |nil=>exact absurd rfl (hne [] aO)
  |cons i t _=>exact⟨.int i t::fs,KatTups.cons ho hc hd rfl k1,by simp[k2],λw hw=>(aF.mp hw).elim (λz=>⟨i,t,z⟩) (k3 w)⟩
theorem kind_all{vs:List ae}{ks:List (List Int)}{Q:SortKind->af->Prop}(t:b_ s.heap vs ks)(h1:0<vs.length)(hne:∀k∈ks,k≠[])(h:Q (tuples' true) s):ak M A (keyKind' vs.toArray) Q E s:=by
 obtain⟨fs,k1,k2,k3⟩:=t.firsts hne;refine kat_kind (T:=.type "int") (fs:=fs) k1 (by lia) (λv hv=>?_) (by decide) ?_
 ·obtain⟨i,t,rfl⟩:=k3 v hv;exact Looks.of_pure rfl
 ·have hb:((bJ "int") != bJ "tuple")=true:=by decide
  rw[hb];exact h
theorem oM{prog:aC}{w:av}{Q:Bool->af->Prop}{fin:Bool}:∀{xs ys:List ae}{ns ms:List Int} (i:Nat),bp xs ns->bp ys ms->fin=decide (xs.length<ys.length)->Q (ltL ns ms) s->KatLex prog w A true fin Q (xs.zip ys) i s
 |_,_,_,_,i,.nil,.nil,hf,h=>kat_nil (by rw[hf];exact h)
 |_,_,_,_,i,.nil,.cons _ _ _,hf,h=>kat_nil (by rw[hf];exact h)
 |_,_,_,_,i,.cons _ _ _,.nil,hf,h=>kat_nil (by rw[hf];exact h)
 |_,_,_,_,i,.cons (vs:=xs) (ns:=ns) a t hx,.cons (vs:=ys) (ns:=ms) b u hy,hf,h=>by
  rw[List.zip_cons_cons];refine kat_cons (SeqAt.EqAt.int_int _ _ _ _ prog w _ _ ?_);unfold ltL at h;by_cases hc:a=b
  ·rw[if_pos hc]at h;rw[show (a==b)=true by simp[hc]];exact kat_yes (oM (i+1) hx hy (by rw[hf];simp) h)
  ·rw[if_neg hc]at h;rw[show (a==b)=false by simp[hc]];refine kat_no ?_;cases i with
   |zero=>exact oneLt_int h
   |succ i=>exact kat_one _ _ (lt_int h)
end
noncomputable def zZ(h:Heap)(x:ao):List Int:=open Classical in if z:∃k,TupAt h x.1 k then z.choose else []
theorem TupAt.keep{h h':Heap}(k:∀b o,h.get? b=some o->h'.get? b=some o){v:ae}{ns:List Int}(t:TupAt h v ns):TupAt h' v ns:=by
 obtain⟨a,o,its,n,e1,e2,e3⟩:=t;exact⟨a,o,its,n,e1,k _ _ e2,e3⟩
theorem b_.keep{h h':Heap}(k:∀b o,h.get? b=some o->h'.get? b=some o){vs:List ae}{ks:List (List Int)}(t:b_ h vs ks):b_ h' vs ks:=by
 induction t with
 |nil=>exact .nil
 |cons a _ ih=>exact .cons (a.keep k) ih
theorem g6{h:Heap}{x:ao}(z:∃k,TupAt h x.1 k):TupAt h x.1 (zZ h x):=by
 unfold zZ;rw[dif_pos z];exact z.choose_spec
theorem vF{prog:aC}{w:av}{A:aA}{s:af}{h0:Heap}{l:List ao}(hk:∀b o,h0.get? b=some o->s.heap.get? b=some o)(hl:∀x∈l,∃k,TupAt h0 x.1 k)(hu:A.units<cLine):Cmp prog w A s oneType' (·∈l) (λx y=>ltL (zZ h0 x) (zZ h0 y)):=
 ⟨λx y hx hy Q h=>by
  obtain⟨a,o,its,n,e1,e2,e3,e4,e5⟩:=(g6 (hl x hx)).keep hk;obtain⟨a',o',its',n',f1,f2,f3,f4,f5⟩:=(g6 (hl y hy)).keep hk;rw[keyLt'_oneType,e1,f1];exact AI ⟨o,e2,e3,n,e4⟩ ⟨o',f2,f3,n',f4⟩ e5 f5 hu h,
  λ_ _ h=>gC h,λ_ _ _ h1 h2=>gY h1 h2⟩
theorem sX{prog:aC}{w:av}{A:aA}{s:af}{h0:Heap}{l:List ao}(hk:∀b o,h0.get? b=some o->s.heap.get? b=some o)(hl:∀x∈l,∃k,TupAt h0 x.1 k):Cmp prog w A s (tuples' true) (·∈l) (λx y=>ltL (zZ h0 x) (zZ h0 y)):=
 ⟨λx y hx hy Q h=>by
  obtain⟨a,o,its,n,e1,e2,e3,e4,e5⟩:=(g6 (hl x hx)).keep hk;obtain⟨a',o',its',n',f1,f2,f3,f4,f5⟩:=(g6 (hl y hy)).keep hk;rw[e1,f1];refine kat_lt e2 e4 f2 f4 (oM 0 e5 f5 ?_ h);rw[a9,a9],
  λ_ _ h=>gC h,λ_ _ _ h1 h2=>gY h1 h2⟩
theorem mU{h:Heap}:∀(l:List ao),(∀x∈l,x.1=x.2/\∃k,TupAt h x.1 k)->b_ h (l.map (·.2)) (l.map (zZ h))
 | [],_=>.nil
 |x::l,z=>.cons (by have:=z x aO;show TupAt h x.2 _;rw[<-this.1];exact g6 this.2) (mU l λy hy=>z y (aM _ hy))
theorem y_{LT:ao->ao->Bool}{R:ao->Int}{a:Array ao}(S:Seg R a 0 a.size)(K:∀x∈a.toList,∀y∈a.toList,LT x y=decide (R x<R y)):a.toList.Pairwise λx y=>LT y x=false:=by
 rw[List.pairwise_iff_getElem];intro i j hi hj hij;rw[K _ (cK hj) _ (cK hi)];rw[a9]at hi hj;have:=S i j (by lia) hj;unfold Kr at this;have e1:=qq hi;have e2:=qq hj;rw[Array.getElem?_eq_getElem hi]at e1;rw[Array.getElem?_eq_getElem hj]at e2;injection e1 with e1
 injection e2 with e2
 rw[Nat.zero_add,Nat.zero_add,<-e1,<-e2]at this;rw[Array.getElem_toList,Array.getElem_toList];exact decide_eq_false (by lia)
section
variable{prog:aC}{w:av}{A:aA}{E:ae->af->Prop}{s:af}
theorem Bz{h0:Heap}{a:Addr}{vs:List ae}{ks:List (List Int)}{P:Fin->af->Prop}(hoL:s.heap.get? a=some (aJ "list" vs.toArray 0))(keep:∀b o,h0.get? b=some o->s.heap.get? b=some o)(hap:∀b o,h0.get? b=some o->b≠a)(h2:2<=vs.length)(hz:vs.length<=aV)(t:b_ h0 vs ks)(hed:ks.head? = some []\/∀k∈ks,k≠[])(hu:A.units<cLine)
  (h:∀(out:List ae) (ks':List (List Int)),out.Perm vs->b_ h0 out ks'->ks'.Pairwise (λa b=>ltL b a=false)->P (.done (.ret .none)) {s with heap:=sortedHeap s.heap a vs out.toArray}) :
  ak (aq prog w) A (Builtin.«list.sort» ⟨[.ref a],[]⟩) P E s:=by
 rw[list_sort_plain];refine ag (listItems_at  hoL rfl ?_);refine ag (listUpdate_at  hoL rfl ?_ (by rw[aS];exact hz) (br _));obtain⟨e1,ho1⟩:∃e1,(s.heap.update a (ba λ_=>#[])).get? a=some (aJ "list" #[] e1):=⟨_,get?_update_seq hoL (λ_=>#[])⟩
 refine ag (seqEpoch_at ho1 rfl ?_);refine ag (wpAny_newTuple ?_ (by show vs.length<=_;exact hz));refine ag (wpAny_newList ?_ (br _));refine bF ?_;have hlt:a<s.heap.objs.size:=aH hoL;have k6:∀b o,h0.get? b=some o->(((s.heap.update a (ba λ_=>#[])).push (aJ "tuple" vs.toArray 0)).push (aJ "list" #[] 0)).get? b=some o:=λb o q=>
  Heap.get?_push_of_some _ (Heap.get?_push_of_some _ (by rw[Heap.get?_update_ne _ _ _ _ (hap b o q)];exact keep b o q))
 have ho6:(((s.heap.update a (ba λ_=>#[])).push (aJ "tuple" vs.toArray 0)).push (aJ "list" #[] 0)).get? a=some (aJ "list" #[] e1):=Heap.get?_push_of_some _ (Heap.get?_push_of_some _ ho1);show ak (aq prog w) _ _ _ _ {s with heap:=((s.heap.update a (ba λ_=>#[])).push (aJ "tuple" vs.toArray 0)).push (aJ "list" #[] 0)};dsimp only;have h2':¬ vs.toArray.size<2:=by rw[aS];lia
 rw[if_neg h2',if_neg h2'];have pz:(vs.toArray.zip vs.toArray)=pairsOf vs:=rfl;have hx:∀x∈(pairsOf vs).toList,x.1=x.2/\∃k,TupAt h0 x.1 k:=λx hx=>by
  rw[pairsOf_toList]at hx;obtain⟨b1,b2⟩:=mem_zip_self hx;exact⟨b1,t.mem _ b2⟩
 obtain⟨κ,kk,C⟩:∃κ,(∀Q:SortKind->af->Prop,Q κ {s with heap:=((s.heap.update a (ba λ_=>#[])).push (aJ "tuple" vs.toArray 0)).push (aJ "list" #[] 0)}->ak (aq prog w) A (keyKind' vs.toArray) Q E {s with heap:=((s.heap.update a (ba λ_=>#[])).push (aJ "tuple" vs.toArray 0)).push (aJ "list" #[] 0)})/\Cmp prog w A {s with heap:=((s.heap.update a (ba λ_=>#[])).push (aJ "tuple" vs.toArray 0)).push (aJ "list" #[] 0)} κ (·∈(pairsOf vs).toList) (λx y=>ltL (zZ h0 x) (zZ h0 y)):=by
  rcases hed with hh|hh
  ·refine⟨oneType',λQ q=>?_,vF k6 (λx z=>(hx x z).2) hu⟩;cases ks with
   |nil=>cases hh
   |cons k ks=>
    cases hh;exact vV (t.keep k6) q
  ·exact⟨tuples' true,λQ q=>kind_all (t.keep k6) (by lia) hh q,sX k6 λx z=>(hx x z).2⟩
 refine ag (kk _ ?_);have K:=(yR (zZ h0)).rank (pairsOf vs).toList;refine ag (bQ (Bu (Q:=λ_ st'=>(ah st').Perm (pairsOf vs)/\failedOf st'=none/\Seg (jo (λx y=>ltL (zZ h0 x) (zZ h0 y)) (pairsOf vs).toList) (ah st') 0 (pairsOf vs).size) C K (λ_ z=>z) rfl rfl rfl rfl (by rw[pairsOf_size];exact h2) λst' z1 z2 z3=>⟨z1,z2,z3⟩) ?_ λ_ _ e=>e);rintro⟨⟨⟩,st'⟩ s' ⟨rfl,pm,fl,sg⟩;dsimp only;have pl:=Array.perm_iff_toList_perm.mp pm;have om:((ah st').map (·.2))=((ah st').toList.map (·.2)).toArray:=by
  generalize ah st'=z;apply Array.toList_inj.mp;rw[Array.toList_map]
 have op:((ah st').toList.map (·.2)).Perm vs:=by
  have:=pl.map (·.2)
  rwa[pairsOf_toList,List.map_snd_zip (aD _)]at this
 have ht:=mU (ah st').toList λx z=>hx x (pl.mem_iff.mp z)
 have hs:=y_ (LT:=λx y=>ltL (zZ h0 x) (zZ h0 y)) (R:=jo (λx y=>ltL (zZ h0 x) (zZ h0 y)) (pairsOf vs).toList) (a:=ah st') (by rw[pm.size_eq];exact sg) λx z1 y z2=>K.rk x y (pl.mem_iff.mp z1) (pl.mem_iff.mp z2)
 have fin:=h _ _ op ht (by rw[List.pairwise_map];exact hs);refine ag (seqEpoch_at ho6 rfl ?_);refine ag (listUpdate_at ho6 rfl ?_ (br _) (by rw[om,aS,op.length_eq];lia));rw[fl];simp only[bne_self_eq_false,a_,if_false];refine aw ?_;rw[om];exact fin
theorem sU{l:Addr}{vs:List ae}{ks:List (List Int)}{Q:ae->af->Prop}(hl:s.heap.IsList l vs.toArray)(h2:2<=vs.length)(hz:vs.length<=aV)(t:b_ s.heap vs ks)(hed:ks.head? = some []\/∀k∈ks,k≠[])(hu:A.in1.in1.units<cLine)
  (h:∀(out:List ae) (ks':List (List Int)),out.Perm vs->b_ s.heap out ks'->ks'.Pairwise (λa b=>ltL b a=false)->Q (.ref (s.heap.objs.size+1)) {s with heap:=sortedAll s.heap vs out.toArray}) :
  ak (aq prog w) A (call (.builtin "sorted") [.ref l]) Q E s:=by
 refine Calls.call_function_entry kind_sorted plain_sorted entry_sorted (args_sorted1 _) ?_;unfold Builtin.«sorted»;refine ag (m:=checkCount "sorted" 1 1 _) (aw ?_);refine ag (collect_list hl ?_ hz);refine ag (wpAny_newList ?_ hz);have hsz:((s.heap.push (aJ "list" #[] 0)).update s.heap.objs.size (ba (· ++ vs.toArray))).objs.size=s.heap.objs.size+1:=by rw[Heap.size_update,size_push']
 have hoL:(((s.heap.push (aJ "list" #[] 0)).update s.heap.objs.size (ba (· ++ vs.toArray))).push (aJ "list" vs.toArray 0)).get? (s.heap.objs.size+1)=some (aJ "list" vs.toArray 0):=by rw[<-hsz];exact Heap.get?_push_size _ rfl
 have keep:∀b o,s.heap.get? b=some o->(((s.heap.push (aJ "list" #[] 0)).update s.heap.objs.size (ba (· ++ vs.toArray))).push (aJ "list" vs.toArray 0)).get? b=some o:=λb o q=>by
  have hlt:b<s.heap.objs.size:=aH q;rw[Heap.get?_push_ne _ _ _ (by rw[hsz];exact aX (bO hlt)),Heap.get?_update_ne _ _ _ _ (aX hlt),Heap.get?_push_ne _ _ _ (aX hlt)];exact q
 show ak _ _ _ _ _ {s with heap:=((s.heap.push (aJ "list" #[] 0)).update s.heap.objs.size (ba (· ++ vs.toArray))).push (aJ "list" vs.toArray 0)};rw[hsz];refine ag (bF (bY slot_list_sort ⟨_,hoL,rfl⟩ entry_list_sort ?body (args_list_sort _)))
 case body=>
  have hap:∀b o,s.heap.get? b=some o->b≠s.heap.objs.size+1:=λb o q=>aX (bO (aH q))
  refine Bz (h0:=s.heap) hoL keep hap h2 hz t hed hu λout ks' a1 a2 a3=>⟨_,rfl,aw ⟨_,rfl,h out ks' a1 a2 a3⟩⟩
end
end TS
namespace L2
open PySem PySem.Spec PyProof.Rows TS
theorem mN:∀{vs:List ae}{a b:List Int},bp vs a->bp vs b->a=b
 |_,_,_,.nil,.nil=>rfl
 |_,_,_,.cons n t h,h'=>by
  cases h' with
  |cons n' t' h''=>rw[mN h h'']
theorem mX{h:Heap}{v:ae}{a b:List Int}(x:TupAt h v a)(y:TupAt h v b):a=b:=by
 obtain⟨p,o,its,n,rfl,e2,_,e4,e5⟩:=x;obtain⟨p',o',its',n',f1,f2,_,f4,f5⟩:=y;cases f1;rw[e2]at f2;cases f2;rw[e4]at f4;cases f4;exact mN e5 f5
theorem lx{h:Heap}{f:Addr->List Int}:∀(ps:List Addr),(∀p∈ps,TupAt h (.ref p) (f p))->b_ h (ps.map bx) (ps.map f)
 | [],_=>.nil
 |p::ps,z=>.cons (z p aO) (lx ps λq hq=>z q (aM _ hq))
theorem BV{h:Heap}{vs:List ae}{a b:List (List Int)}(x:b_ h vs a)(y:b_ h vs b):a=b:=by
 induction x generalizing b with
 |nil=>cases y;rfl
 |cons t _ ih=>
  cases y with
  |cons t' y'=>rw[mX t t',ih y']
theorem sE{ps:List Addr}:∀{us:List ae},Vals (ps.map V.ref) us->us=ps.map ae.ref:=by
 induction ps with
 |nil=>intro us r;cases r;rfl
 |cons p ps ih=>
  intro us r;cases r with
  |cons h t=>rw[ih t,show _=bx p from h];rfl
theorem rm:∀(ps:List Addr),Vals (ps.map V.ref) (ps.map bx)
 | []=>.nil
 |p::ps=>.cons rfl (rm ps)
noncomputable def fz:ae->Addr
 | .ref a=>a
 |_=>0
noncomputable def xt(K:aB):List V->Hp->VK->Prop:=λvs H Q=>∃(l:Addr) (p:Addr) (ps:List Addr) (f:Addr->List Int),vs=[.ref l]/\SqL K H l ((p::ps).map V.ref)/\ps≠[]/\(f p=[]\/∀q∈p::ps,f q≠[]) /\
 (∀q∈p::ps,SqT K H q ((f q).map V.int))/\∀(D:Addr) (qs:List Addr),H D=none->qs.Perm (p::ps)->(qs.map f).Pairwise (λa b=>ltL b a=false)->Q (.ref D) (upd H D (.lst (qs.map V.ref)))
theorem uf{X:Cx}(hu:X.A.in1.in1.units<cLine):qU X (.builtin "sorted") (xt X.K):=by
 intro pins s σ H xs us Q I r h;obtain⟨l,p,ps,f,rfl,hl,hne,hf,hp,q⟩:=h;obtain⟨u,rfl,ru⟩:=r.one;cases ru;obtain⟨its,rv,pl,hz⟩:=I.list hl;have ei:=sE rv;subst ei;have tp:∀z∈p::ps,TupAt s.heap (.ref z) (f z):=λz hz=>by
  obtain⟨its,r2,⟨o,e1,e2,n,e3⟩,_⟩:=I.tuple (hp z hz);exact⟨z,o,its.toArray,n,rfl,e1,e2,e3,by simpa using intsAre_of r2⟩
 have t:=lx (p::ps) tp;have hz':((p::ps).map bx).length<=sizeLine:=by simpa using hz
 refine sU pl.isList (by cases ps with
  |nil=>exact absurd rfl hne
  |cons _ _=>simp) hz' t (by
   rcases hf with hf|hf
   ·left;rw[aQ,hf];rfl
   ·right;intro k hk;obtain⟨q,hq,rfl⟩:=aP.mp hk;exact hf q hq) hu λout ks' op ot os=>?_
 have eo:out=(out.map fz).map ae.ref:=by
  rw[cg]
  conv=>lhs;rw[<-List.map_id out]
  refine List.map_congr_left λv hv=>?_
  obtain⟨a,_,rfl⟩:=aP.mp (op.mem_iff.mp hv)
  rfl
 have qp:(out.map fz).Perm (p::ps):=by
  have:=op.map fz
  rwa[cg,show (fz∘bx)=id from rfl,List.map_id]at this
 have ek:ks'=(out.map fz).map f:=by
  rw[eo]at ot;exact BV ot (lx _ λz hz=>tp z (qp.mem_iff.mp hz))
 subst ek;obtain⟨c,hc⟩:=sortedAll_at s.heap ((p::ps).map bx) out.toArray;have hD0:s.heap.get? (s.heap.objs.size+1)=none:=Heap.get?_none_of_le (Nat.le_succ _);have q':=q (s.heap.objs.size+1) (out.map fz) (I.hok.free_of hD0) qp os;refine⟨.ref (s.heap.objs.size+1),_,I.newList (s':={s with heap:=sortedAll s.heap ((p::ps).map bx) out.toArray}) (c:=c) (its:=out) rfl rfl (λb o _ e=>sortedAll_old e) (λm hm=>hm.keeps λb o e=>sortedAll_old e) hD0 (Nat.ne_of_gt (bO I.lt)) hc (by have:=rm (out.map fz);rwa[<-eo]at this) (by rw[aR,aR,op.length_eq];exact hz'),rfl,q'⟩
noncomputable def pA(K:aB):List V->Hp->VK->Prop:=λvs H Q=>∃(l:Addr) (as:List Addr) (ts:List (List Int)),vs=[.ref l]/\SqL K H l (as.map V.ref)/\as.length=ts.length/\2<=ts.length/\(ts[0]? = some []\/∀t∈ts,t≠[]) /\
 (∀(i:Nat) a t,as[i]? = some a->ts[i]? = some t->SqT K H a (t.map V.int)) /\
 ∀(D:Addr) (qs:List Addr) (f:Addr->List Int),H D=none->qs.Perm as->(∀(i:Nat) a t,as[i]? = some a->ts[i]? = some t->f a=t)->(qs.map f).Pairwise (λa b=>ltL b a=false)->Q (.ref D) (upd H D (.lst (qs.map V.ref)))
theorem BK{X:Cx}(hu:X.A.in1.in1.units<cLine):qU X (.builtin "sorted") (pA X.K):=by
 intro pins s σ H xs us Q I r h;obtain⟨l,as,ts,rfl,hl,hlen,h2,h0,ht,q⟩:=h;have tp:∀(i:Nat) a t,as[i]? = some a->ts[i]? = some t->TupAt s.heap (.ref a) t:=λi a t ha hb=>by
  obtain⟨its,r2,⟨o,e1,e2,n,e3⟩,_⟩:=I.tuple (ht i a t ha hb);exact⟨a,o,its.toArray,n,rfl,e1,e2,e3,by simpa using intsAre_of r2⟩
 let f:Addr->List Int:=λa=>ts.getD (as.idxOf a) []
 have hf:∀(i:Nat) a t,as[i]? = some a->ts[i]? = some t->f a=t:=λi a t ha hb=>by
  have hm:a∈as:=List.mem_of_getElem? ha;have hi:=List.idxOf_lt_length_of_mem hm;have e1:as[as.idxOf a]? = some a:=by rw[List.getElem?_eq_getElem hi];simp
  have e2:ts[as.idxOf a]? = some (f a):=by
   have:as.idxOf a<ts.length:=by lia
   simp[f,this]
  exact mX (tp _ _ _ e1 e2) (tp _ _ _ ha hb)
 match as,hlen with
 | [],hlen=>simp at hlen;lia
 |p::ps,hlen=>
  have hne:ps≠[]:=λz=>by subst z;simp at hlen;lia
  refine uf hu pins s σ H _ us Q I r ⟨l,p,ps,f,rfl,hl,hne,?_,λa ha=>?_,λD qs hD hp hs=>q D qs f hD hp hf hs⟩
  ·rcases h0 with h0|h0
   ·exact .inl (hf 0 p [] (by simp) h0)
   ·refine .inr λa ha=>?_
    obtain⟨i,hi,rfl⟩:=List.getElem_of_mem ha;have hi':i<ts.length:=by lia
    rw[hf i (p::ps)[i] ts[i] (by simp) (by simp)];exact h0 _ (cK hi')
  obtain⟨i,hi,rfl⟩:=List.getElem_of_mem ha;have hi':i<ts.length:=by lia
  have e:=ht i (p::ps)[i] ts[i] (by simp) (by simp)
  rwa[<-hf i (p::ps)[i] ts[i] (by simp) (by simp)]at e
noncomputable def B_(K:aB):List V->Hp->VK->Prop:=λvs H Q=>∃(l:Addr) (xs:List V),vs=[.ref l]/\SqL K H l xs/\xs.length<2/\∀D,H D=none->Q (.ref D) (upd H D (.lst xs))
theorem An{X:Cx}:qU X (.builtin "sorted") (B_ X.K):=by
 intro pins s σ H xs us Q I r h;obtain⟨l,ys,rfl,hl,h2,q⟩:=h;obtain⟨u,rfl,ru⟩:=r.one;cases ru;obtain⟨its,rv,pl,hz⟩:=I.list hl;have hl':=rv.length;refine vw pl.isList (by lia) ?_;obtain⟨c,hc⟩:=sortedAll_at s.heap its its.toArray;have hD0:s.heap.get? (s.heap.objs.size+1)=none:=Heap.get?_none_of_le (Nat.le_succ _);exact⟨.ref (s.heap.objs.size+1),_,I.newList (s':={s with heap:=sortedAll s.heap its its.toArray}) (c:=c) rfl rfl (λb o _ e=>sortedAll_old e) (λm hm=>hm.keeps λb o e=>sortedAll_old e) hD0 (Nat.ne_of_gt (bO I.lt)) hc rv (by rw[bt];lia),rfl,q _ (I.hok.free_of hD0)⟩
end L2
namespace L2
open PySem PySem.Spec PyProof.Rows
section
variable{X:Cx}
end
section
variable{X:Cx}
noncomputable def Dh(mx:Bool)(ns:List Int)(n:Int):Prop:=n∈ns/\∀m∈ns,if mx then m<=n else n<=m
end
end L2
namespace EV
open PySem PySem.Spec PySem.P PyProof.Rows L2
theorem insI_perm(i:Int):∀l,(insI i l).Perm (i::l)
 | []=>.refl _
 |j::r=>by
  unfold insI;split
  ·exact .refl _
  ·exact((insI_perm i r).cons j).trans (.swap ..)
theorem sortI_perm:∀l,(sortI l).Perm l
 | []=>.refl _
 |i::r=>(insI_perm i _).trans ((sortI_perm r).cons i)
theorem pR(i:Int):∀{l:List Int},l.Pairwise (·<=·)->(insI i l).Pairwise (·<=·)
 | [],_=>by simp[insI]
 |j::r,h=>by
  unfold insI;obtain⟨h1,h2⟩:=List.pairwise_cons.mp h;split
  ·rename_i hij
   refine List.pairwise_cons.mpr ⟨λx hx=>?_,h⟩;rcases aF.mp hx with rfl|hx
   ·exact hij
   ·exact Int.le_trans hij (h1 x hx)
  ·rename_i hij
   refine List.pairwise_cons.mpr ⟨λx hx=>?_,pR i h2⟩;rcases aF.mp ((insI_perm i r).mem_iff.mp hx)with rfl|hx
   ·lia
   ·exact h1 x hx
theorem pL:∀l:List Int,(sortI l).Pairwise (·<=·)
 | []=>.nil
 |i::r=>pR i (pL r)
theorem kl{l m:List Int}(h1:m.Perm l)(h2:m.Pairwise (·<=·)):m=sortI l:=PySem.W.ksm_same (h1.trans (sortI_perm l).symm) h2 (pL l)
theorem kg(p:Int×Int):∀l,(eS p l).Perm (p::l)
 | []=>.refl _
 |j::r=>by
  unfold eS;split
  ·exact((kg p r).cons j).trans (.swap ..)
  ·exact .refl _
theorem pP:∀l,(zK l).Perm l
 | []=>.refl _
 |i::r=>(kg i _).trans ((pP r).cons i)
theorem rM{a b:Int×Int}:ltP a b=true↔a.1<b.1\/(a.1=b.1/\a.2<b.2):=by
 unfold ltP;by_cases h:a.1=b.1
 ·simp[h]
 ·simp[h]
theorem mL{a b:Int×Int}:ltP a b=false↔b.1<a.1\/(a.1=b.1/\b.2<=a.2):=by
 rw[<-Bool.not_eq_true,rM];lia
theorem rq(p:Int×Int):∀{l:List (Int×Int)},l.Pairwise (λa b=>ltP b a=false)->(eS p l).Pairwise (λa b=>ltP b a=false)
 | [],_=>by simp[eS]
 |j::r,h=>by
  unfold eS;obtain⟨h1,h2⟩:=List.pairwise_cons.mp h;split
  ·rename_i hij
   rw[rM]at hij;refine List.pairwise_cons.mpr ⟨λx hx=>?_,rq p h2⟩;rcases aF.mp ((kg p r).mem_iff.mp hx)with rfl|hx
   ·rw[mL];lia
   ·exact h1 x hx
  ·rename_i hij
   have hij':ltP j p=false:=by simpa using hij
   refine List.pairwise_cons.mpr ⟨λx hx=>?_,h⟩;rcases aF.mp hx with rfl|hx
   ·exact hij'
   ·have:=h1 x hx;rw[mL]at this hij' ⊢;lia
theorem oA:∀l:List (Int×Int),(zK l).Pairwise (λa b=>ltP b a=false)
 | []=>.nil
 |i::r=>rq i (oA r)
theorem mO:∀(a b:List Int),cV a b=TS.ltL a b
 | [],[]=>rfl
 | [],_::_=>rfl
 |_::_,[]=>rfl
 |a::r,b::t=>by
  unfold cV TS.ltL;rw[mO r t]
theorem lD(p:List Int):∀l,(dt p l).Perm (p::l)
 | []=>.refl _
 |j::r=>by
  unfold dt;split
  ·exact((lD p r).cons j).trans (.swap ..)
  ·exact .refl _
theorem jr:∀l,(zA l).Perm l
 | []=>.refl _
 |i::r=>(lD i _).trans ((jr r).cons i)
theorem lR(p:List Int):∀{l:List (List Int)},l.Pairwise (λa b=>TS.ltL b a=false)->(dt p l).Pairwise (λa b=>TS.ltL b a=false)
 | [],_=>by simp[dt]
 |j::r,h=>by
  unfold dt;obtain⟨h1,h2⟩:=List.pairwise_cons.mp h;rw[mO];split
  ·rename_i hij
   refine List.pairwise_cons.mpr ⟨λx hx=>?_,lR p h2⟩;rcases aF.mp ((lD p r).mem_iff.mp hx)with rfl|hx
   ·exact TS.gC hij
   ·exact h1 x hx
  ·rename_i hij
   have hij':TS.ltL j p=false:=by simpa using hij
   refine List.pairwise_cons.mpr ⟨λx hx=>?_,h⟩;rcases aF.mp hx with rfl|hx
   ·exact hij'
   ·exact TS.gY hij' (h1 x hx)
theorem mQ:∀l:List (List Int),(zA l).Pairwise (λa b=>TS.ltL b a=false)
 | []=>.nil
 |i::r=>lR i (mQ r)
theorem xS{l m:List (List Int)}(h1:m.Perm l)(h2:m.Pairwise (λa b=>TS.ltL b a=false)):m=zA l:=
 (h1.trans (jr l).symm).eq_of_pairwise (λa b _ _ z1 z2=>TS.nM z2 z1) h2 (mQ l)
theorem rg(mx:Bool):∀(i:Int) (r:List Int) (n:Int),Dh mx (i::r) n->n=dq mx i r
 |i,[],n,h=>by
  obtain⟨h1,_⟩:=h
  simpa[dq]using h1
 |i,j::r,n,h=>by
  obtain⟨h1,h2⟩:=h;unfold dq;refine rg mx _ r n ⟨?_,?_⟩
  ·have hi:=h2 i (by simp);have hj:=h2 j (by simp);rcases aF.mp h1 with rfl|h1
   ·cases mx<;>simp at hi hj ⊢ <;> left<;>first|lia|(intro _;lia)
   ·rcases aF.mp h1 with rfl|h1
    ·cases mx<;>simp at hi hj ⊢ <;> left<;>first|lia|(intro _;lia)
    ·exact aM _ h1
  ·intro m hm;rcases aF.mp hm with rfl|hm
   ·have hi:=h2 i (by simp);have hj:=h2 j (by simp);cases mx<;>simp at hi hj ⊢ <;> split<;>assumption
   ·exact h2 m (by simp[hm])
section
variable{X:Cx}{g:Gc}
theorem qk.tups{H:Hp}{ds:List D}:∀{vs:List V}{ts:List (List Int)},qk g H ds vs->tups? ds=some ts->ds=ts.map gq/\∃as:List Addr,vs=as.map V.ref/\as.length=ts.length/\∀(i:Nat) a t,as[i]? = some a->ts[i]? = some t->SqT g.K H a (t.map V.int)/\Rep g H (gq t) (.ref a):=by
 induction ds with
 |nil=>intro vs ts h e;cases h;cases e;exact⟨rfl,[],rfl,rfl,λi a p h=>by cases h⟩
 |cons d ds ih=>
  intro vs ts h e;cases h with
  |cons h t=>cases d with
   |tup xs=>
    obtain⟨n,e0,e⟩:=aK.mp (show (ints? xs).bind (λn=>(tups? ds).map (n :: ·))=some ts from e);obtain⟨ms,e1,rfl⟩:=bB.mp e;obtain⟨h1,as,h2,h3,h4⟩:=ih t e1;have hh:=h;cases h with
    | @tup a _ _ q r=>
     obtain⟨rfl,e2⟩:=r.ints e0;refine⟨by rw[h1,e2];rfl,a::as,by rw[h2];rfl,congrArg (· + 1) h3,λi b p hb hp=>?_⟩;cases i with
     |zero=>cases hb;cases hp;exact⟨q,by rw[e2]at hh;exact hh⟩
     |succ i=>exact h4 i b p hb hp
   |_=>cases (show none=some ts from e)
theorem qk.pairs{H:Hp}{ds:List D}:∀{vs:List V}{ps:List (Int×Int)},qk g H ds vs->pairs? ds=some ps->ds=ps.map pairD/\∃as:List Addr,vs=as.map V.ref/\as.length=ps.length/\∀(i:Nat) a p,as[i]? = some a->ps[i]? = some p->SqT g.K H a [.int p.1,.int p.2]:=by
 induction ds with
 |nil=>intro vs ps h e;cases h;cases e;exact⟨rfl,[],rfl,rfl,λi a p h=>by cases h⟩
 |cons d ds ih=>
  intro vs ps h e;have no:∀{P:Prop},pairs? (d::ds)=none->P:=λz=>by rw[z]at e;cases e
  cases h with
  |cons h t=>cases d with
   |tup xs=>cases xs with
    |nil=>exact no rfl
    |cons a xs=>cases a with
     |int x=>cases xs with
      |nil=>exact no rfl
      |cons b xs=>cases b with
       |int y=>cases xs with
        |cons _ _=>exact no rfl
        |nil=>
         obtain⟨ms,e1,rfl⟩:=bB.mp (show (pairs? ds).map ((x,y) :: ·)=some ps from e);obtain⟨h1,as,h2,h3,h4⟩:=ih t e1;cases h with
         | @tup a xs _ q r=>
          obtain⟨rfl,_⟩:=r.ints (ns:=[x,y]) rfl;refine⟨by rw[h1];rfl,a::as,by rw[h2];rfl,congrArg (· + 1) h3,λi b p hb hp=>?_⟩;cases i with
          |zero=>cases hb;cases hp;exact q
          |succ i=>exact h4 i b p hb hp
       |_=>exact no rfl
     |_=>exact no rfl
   |_=>exact no rfl
theorem oQ{H:Hp}:∀{ts:List (List Int)}{as:List Addr},as.length=ts.length->(∀(i:Nat) a t,as[i]? = some a->ts[i]? = some t->Rep g H (gq t) (.ref a))->qk g H (ts.map gq) (as.map V.ref)
 | [],[],_,_=>.nil
 |t::ts,a::as,e,h=>.cons (h 0 a t rfl rfl) (oQ (by simpa using e) λi b u hb hu=>h (i+1) b u (by simpa using hb) (by simpa using hu))
theorem lX:∀{xs:List D}{ps:List (Int×Int)},pairs? xs=some ps->tups? xs=some (ps.map λp=>[p.1,p.2])
 | [],_,h=>by cases h;rfl
 | .tup [.int i,.int j]::r,ps,h=>by
  simp only[pairs?,bB]at h;obtain⟨qs,h1,rfl⟩:=h;show (some [i,j]).bind (λn=>(tups? r).map (n :: ·))=_;rw[lX h1];rfl
theorem rX(p:Int×Int):∀qs:List (Int×Int),dt [p.1,p.2] (qs.map λp=>[p.1,p.2])=(eS p qs).map λp=>[p.1,p.2]
 | []=>rfl
 |q::r=>by
  have e:cV [q.1,q.2] [p.1,p.2]=ltP q p:=by
   simp only[cV,ltP];by_cases h:q.1=p.1
   ·rw[if_pos h,if_pos h];by_cases h':q.2=p.2
    ·rw[if_pos h',h'];simp
    ·rw[if_neg h']
   ·rw[if_neg h,if_neg h]
  rw[aQ,dt,eS,e,rX p r];cases ltP q p<;>rfl
theorem oh:∀qs:List (Int×Int),zA (qs.map λp=>[p.1,p.2])=(zK qs).map λp=>[p.1,p.2]
 | []=>rfl
 |q::r=>by rw[aQ,zA,zK,oh r,rX]
theorem sJ{xs:List D}{ps:List (Int×Int)}(h:pairs? xs=some ps)(h2:2<=ps.length):cW xs=.ok (.lst ((zK ps).map pairD)):=by
 rw[cW,lX h];have e:fh (ps.map λp=>[p.1,p.2])=true:=by
  match ps,h2 with
  |p::q::r,_=>simp[fh]
 show (if fh _=true then _ else _)=_;rw[e,if_pos rfl,oh,cg]
 rfl
theorem xx(hK:X.K=g.K)(hu:X.A.units+64<cLine):qU X (.builtin "sorted") (rB1 g .sorted):=gb ((xg.or (An.or (BK (show X.A.units+1+1<cLine by lia)))).or sY) λS ds d vs H Q hs rs h q=>by
 obtain⟨x,rfl,h'⟩:=k7 (λ_ _=>rfl) h;by_cases htu:∃xs,x=.tup xs
 ·obtain⟨xs,rfl⟩:=htu;have h':(if xs.length<64 then cm (ints? xs) λns=>.ok (.lst ((sortI ns).map D.int))else .no)=R.ok d:=h';split at h'
  ·rename_i hz
   obtain⟨ns,e,h2⟩:=iM h';cases h2;cases rs with
   |cons r rs=>
    cases rs;obtain⟨a,us,rfl,h1,r1⟩:=r.tup;obtain⟨rfl,rfl⟩:=r1.ints e;refine .inr ⟨a,ns,rfl,by rw[hK];exact h1,by simpa using hz,λp ms hp pm pw=>?_⟩;rw[kl pm pw];exact q _ _ (qX hp) (eO hs hp (qk.ofInts _)) λ_=>fw (qf.refl _) hp (qk.ofInts _)
  ·cases h'
 refine .inl ?_;have h':(cY x λxs=>if xs.length<64 then (match ints? xs with
   |some ns=>.ok (.lst ((sortI ns).map D.int))
   |none=>match pairs? xs with
    |some ps=>.ok (.lst ((zK ps).map pairD))
    |none=>cW xs)else cW xs)=.ok d:=by cases x<;>first|exact absurd ⟨_,rfl⟩ htu|exact h'
 obtain⟨xs,rfl,h2⟩:=ip h'
 replace h:=h2
 cases rs with
 |cons r rs=>
  cases rs;obtain⟨a,us,rfl,h1,r1⟩:=r.lst;have big:cW xs=.ok d->pA X.K [.ref a] H Q:=λh=>by
   obtain⟨ts,e,h⟩:=iM h;split at h
   ·rename_i hh
    cases h;obtain⟨rfl,as,rfl,hl,hp⟩:=r1.tups e;have hh':2<=ts.length/\(ts[0]? = some []\/∀t∈ts,t≠[]):=by
     match ts,hh with
     |p::q::r,hh=>
      refine⟨by simp,?_⟩;rw[fh,cA]at hh;rcases hh with hh|hh
      ·exact .inl (by simpa using hh)
      ·exact .inr λt ht=>by simpa using cy.mp hh t ht
    refine⟨a,as,ts,rfl,by rw[hK];exact h1,hl,hh'.1,hh'.2,λi b t hb ht=>by rw[hK];exact zu zw (hp i b t hb ht).1,λD qs f hn pm hf ps=>?_⟩;have e1:as.map f=ts:=by
     refine List.ext_getElem (by simp[hl]) λi h1 h2=>?_
     rw[List.getElem_map];have:i<as.length:=by simpa using h1
     exact hf i as[i] ts[i] (by simp[this]) (by simp[h2])
    have e2:qs.map f=zA ts:=xS (by have:=pm.map f;rwa[e1]at this) ps;have hR:qk g (hid H S) ((zA ts).map gq) (qs.map V.ref):=by
     rw[<-e2];refine oQ (by simp) λi b t hb ht=>?_
     have hm:b∈as:=pm.mem_iff.mp (List.mem_of_getElem? hb);obtain⟨j,hj,rfl⟩:=List.getElem_of_mem hm;have hj':j<ts.length:=by lia
     have e3:t=ts[j]:=by
      have e4:=hf j as[j] ts[j] (by simp[hj]) (by simp[hj']);rw[List.getElem?_map,hb]at ht;simp at ht;rw[<-ht,e4]
     rw[e3];exact(hp j as[j] ts[j] (by simp[hj]) (by simp[hj'])).2
    exact q _ _ (qX hn) (eO hs hn hR) λ_=>fw (qf.refl _) hn hR
   ·cases h
  by_cases hz:xs.length<64
  ·rw[if_pos hz]at h;cases e:ints? xs with
   |some ns=>
    rw[e]at h;cases h;obtain⟨rfl,rfl⟩:=r1.ints e;refine .inl ⟨a,ns,rfl,by rw[hK];exact h1,by simpa using hz,λp ms hp pm pw=>?_⟩;rw[kl pm pw];exact q _ _ (qX hp) (eO hs hp (qk.ofInts _)) λ_=>fw (qf.refl _) hp (qk.ofInts _)
   |none=>
    rw[e]at h;cases e2:pairs? xs with
    |none=>rw[e2]at h;exact .inr (.inr (big h))
    |some ps=>
     rw[e2]at h;cases h;obtain⟨rfl,as,rfl,hl,hp⟩:=r1.pairs e2;by_cases h2:2<=ps.length
     ·exact .inr (.inr (big (sJ e2 h2)))
     ·have e3:zK ps=ps:=by
       match ps,h2 with
       | [],_=>rfl
       | [_],_=>rfl
       |_::_::r,h=>exact absurd (show 2<=r.length+1+1 by lia) h
      refine .inr (.inl ⟨a,as.map V.ref,rfl,by rw[hK];exact h1,by rw[aR];lia,λp hn=>?_⟩);rw[e3]at q;exact q _ _ (qX hn) (eO hs hn r1) λ_=>fw (qf.refl _) hn r1
  ·rw[if_neg hz]at h;exact .inr (.inr (big h))
theorem mq(hK:X.K=g.K)(hc:X.calm=true)(mx:Bool):qU X (.builtin (if mx then "max" else "min")) (rB1 g (if mx then .max else .min)):=by
 have two:∀{S:Sh}{H:Hp}{x y:D}{vs:List V}{i j:Int},x=.int i->y=.int j->fA g H S [x,y] vs->vs=[.int i,.int j]:=by
  intro S H x y vs i j hx hy rs;subst hx hy;cases rs with
  |cons r1 rs=>
   cases rs with
   |cons r2 rs=>cases rs;rw[r1.int,r2.int]
 have inv:∀{b:B1}{ds:List D}{d:D},b1 b ds=.ok d->(∃x,ds=[x]/\b11 b x=.ok d)\/∃x y,ds=[x,y]/\b12 b x y=.ok d:=by
  intro b ds d h
  match ds,h with
  | [x],h=>exact .inl ⟨x,rfl,h⟩
  | [x,y],h=>exact .inr ⟨x,y,rfl,h⟩
  | [],h=>cases h
  |_::_::_::_,h=>cases h
 cases mx
 ·exact gb (uR hc) λS ds d vs H Q hs rs h q=>by
   rcases inv h with ⟨x,rfl,h'⟩|⟨x,y,rfl,h'⟩
   ·cases h'
   ·obtain⟨i,j,hx,hy,h'⟩:=p_ h';cases h';exact⟨i,j,two hx hy rs,q _ _ (qf.refl _) (.int _) (by simp)⟩
 ·exact gb (xK hc) λS ds d vs H Q hs rs h q=>by
   rcases inv h with ⟨x,rfl,h'⟩|⟨x,y,rfl,h'⟩
   ·cases h'
   ·obtain⟨i,j,hx,hy,h'⟩:=p_ h';cases h';exact⟨i,j,two hx hy rs,q _ _ (qf.refl _) (.int _) (by simp)⟩
theorem Cj:qU X (.builtin "abs") (rB1 g .abs):=iI (λ_=>rfl) λ_ _=>rfl
theorem xb:qU X (.type "int") (rB1 g .int):=iI (λ_=>rfl) λ_ _=>rfl
theorem Dl:qU X (.type "bool") (rB1 g .bool):=iI (λ_=>rfl) λ_ _=>rfl
theorem Dj(hK:X.K=g.K)(hc:X.calm=true):qU X (.builtin "sum") (rB1 g .sum):=iI (λ_=>rfl) λ_ _=>rfl
theorem sv(hK:X.K=g.K)(hu:X.A.units+64<cLine):∀b,(X.calm=true\/b=.len\/b=.abs\/b=.tuple\/b=.list\/b=.int\/b=.bool)->qU X (b1V b) (rB1 g b)
 | .len,_=>yS hK
 | .tuple,_=>DD hK
 | .list,_=>CZ hK
 | .sorted,_=>xx hK hu
 | .all,h=>sk hK (by simpa using h) true
 | .any,h=>sk hK (by simpa using h) false
 | .sum,h=>Dj hK (by simpa using h)
 | .min,h=>mq hK (by simpa using h) false
 | .max,h=>mq hK (by simpa using h) true
 | .abs,_=>Cj
 | .int,_=>xb
 | .bool,_=>Dl
theorem mm{H:Hp}{ds:List D}{vs:List V}(r:qk g H ds vs):ds.isEmpty=vs.isEmpty:=by cases r<;>rfl
theorem u9(hK:X.K=g.K){S:Sh}{H:Hp}{d:D}{v:V}{b:Bool}(r:zx g H S d v)(e:truth d=.ok b):kK X.K v H b:=by
 cases d with
 |non=>cases r.rep;cases e;exact rfl
 |bl c=>cases r.rep;cases e;exact rfl
 |int i=>cases r.rep;cases e;exact rfl
 |tup xs=>
  cases e;obtain⟨a,vs,rfl,h1,r1⟩:=r.tup;exact .inr (.inl ⟨vs,by rw[hK];exact h1,by rw[mm r1]⟩)
 |lst xs=>
  cases e;obtain⟨a,vs,rfl,h1,r1⟩:=r.lst;exact .inl ⟨vs,by rw[hK];exact h1,by rw[mm r1]⟩
 |_=>cases e
theorem DN(hK:X.K=g.K):qU X (.builtin "isinstance") (λxs H Q=>∃S d v n t,xs=[v,.ty n]/\zx g H S d v/\tyD d=some t/\n∈["int","bool","str","list","tuple"]/\Q (.bl (gj t n)) H):=by
 intro pins s σ H xs us Q I r h;obtain⟨S,d,v,n,t,rfl,rd,ht,hn,q⟩:=h;obtain⟨u,cu,rfl,rx,rc⟩:=r.two;cases rc;have fin:∀tk,EP X pins σ Q (.bool (gj t n)) {s with toks:=tk}:=λtk=>⟨.bl _,H,I.tok tk,rfl,q⟩
 have kb:t∈["NoneType","bool","int","str","list","tuple","dict"]->cB X.K (.type t) (.type n)=some (gj t n):=λh=>xF h hn
 cases d with
 |non=>cases ht;cases rd.rep;exact gQ I rx .non (kb (by simp)) fin
 |bl c=>cases ht;cases rd.rep;exact gQ I rx (.bl c) (kb (by simp)) fin
 |int i=>cases ht;cases rd.rep;exact gQ I rx (.int i) (kb (by simp)) fin
 |str i=>cases ht;cases rd.rep;exact gQ I rx (.str i) (kb (by simp)) fin
 |tup xs=>
  cases ht;obtain⟨a,vs,rfl,h1,_⟩:=rd.tup;cases rx;obtain⟨its,_,⟨o,e1,e2,_⟩,_⟩:=I.tuple (by rw[hK];exact h1);exact bT PySem.W.kitx_tuple I.kIn ⟨o,e1,e2⟩ (kb (by simp)) (λz=>nomatch z) fin
 |lst xs=>
  cases ht;obtain⟨a,vs,rfl,h1,_⟩:=rd.lst;cases rx;obtain⟨its,_,pl,_⟩:=I.list (by rw[hK];exact h1);obtain⟨o,e1,e2,_⟩:=pl.isList;exact bT PySem.W.kitx_list I.kIn ⟨o,e1,e2⟩ (kb (by simp)) (λz=>nomatch z) fin
 |dic=>
  cases ht;cases rd.rep with
  |dic h1=>exact gQ I rx (.dK h1) (kb (by simp)) fin
 |_=>cases ht
end
theorem tK{o:O2}{a b:Int}{c:Str}:opI o a b≠.ex c:=by
 cases o<;>simp only[opI]<;>(try split)<;>intro h<;>cases h
theorem Cd{o:O2}{a b:D}{c:Str}:op2 o a b≠.ex c:=by
 unfold op2;split
 ·exact tK
 all_goals ((try split)<;>intro h<;>cases h)
theorem xl{n:Bool}{a b:D}{c:Str}:isB n a b≠.ex c:=by
 unfold isB;split<;>intro h<;>cases h
theorem CC{o:C2}{a b:D}{c:Str}:qi o a b≠.ex c:=by
 unfold qi;split<;>(try split)<;>(try split)<;>intro h<;>first|cases h|exact xl h
theorem DF{a:D}{c:Str}:truth a≠.ex c:=by
 unfold truth;split<;>intro h<;>cases h
theorem wV{a b:D}{c:Str}:ixD a b≠.ex c:=by
 unfold ixD;split<;>(try split)<;>intro h<;>cases h
theorem BN{a:D}{l h:Option Int}{c:Str}:slD a l h≠.ex c:=by
 unfold slD;split<;>(try split)<;>intro h<;>cases h
theorem gU{x:D}{k:List D->R D}{c:Str}(h:∀xs,k xs≠.ex c):cY x k≠.ex c:=by
 cases x with
 |lst xs=>exact h xs
 |_=>intro z;cases z
theorem mY{x y:D}{k:Int->Int->R D}{c:Str}(h:∀i j,k i j≠.ex c):iiR x y k≠.ex c:=by
 cases x with
 |int i=>
  cases y with
  |int j=>exact h i j
  |_=>intro z;cases z
 |_=>intro z;cases z
theorem fj{α β:Type}{o:Option α}{k:α->R β}{c:Str}(h:∀a,k a≠.ex c):cm o k≠.ex c:=by
 cases o with
 |some a=>exact h a
 |none=>intro z;cases z
theorem dF{α:Type}{a:α}{c:Str}:R.ok a≠.ex c:=by intro z;cases z
theorem cP{α:Type}{c:Str}:(R.no:R α)≠.ex c:=by intro z;cases z
theorem pS{xs:List D}{c:Str}:cW xs≠.ex c:=fj λ_=>by
 split
 ·exact dF
 ·exact cP
theorem Ci{b:B1}{d:D}{c:Str}:b11 b d≠.ex c:=by
 cases b with
 |len=>exact fj λ_=>dF
 |tuple=>exact fj λ_=>dF
 |list=>exact cP
 |all=>exact gU λ_=>fj λ_=>dF
 |any=>exact gU λ_=>fj λ_=>dF
 |sorted=>
  by_cases h:∃xs,d=.tup xs
  ·obtain⟨xs,rfl⟩:=h;show (if xs.length<64 then cm (ints? xs) λns=>R.ok (D.lst ((sortI ns).map D.int))else R.no)≠R.ex c;split
   ·exact fj λ_=>dF
   ·exact cP
  have e:b11 .sorted d=cY d λxs=>if xs.length<64 then (match ints? xs with
    |some ns=>.ok (.lst ((sortI ns).map D.int))
    |none=>match pairs? xs with
     |some ps=>.ok (.lst ((zK ps).map pairD))
     |none=>cW xs)else cW xs:=by cases d<;>first|exact absurd ⟨_,rfl⟩ h|rfl
  rw[e];refine gU λ_=>?_
  split
  ·split
   ·exact dF
   ·split
    ·exact dF
    ·exact pS
  ·exact pS
 |abs=>exact cP
 |int=>exact cP
 |bool=>exact cP
 |sum=>exact cP
 |min=>exact cP
 |max=>exact cP
theorem wN{b:B1}{ds:List D}{c:Str}:b1 b ds≠.ex c:=by
 match ds with
 | []=>exact cP
 | [_]=>exact Ci
 | [x,y]=>
  cases b with
  |min=>exact mY λ_ _=>dF
  |max=>exact mY λ_ _=>dF
  |_=>exact cP
 |_::_::_::_=>exact cP
structure bz(g:Gc)(c:Cc)(e:E)(S:Sh)(H:Hp)(d:D)(v:V)(H':Hp):Prop where
 same:qf H H'
 rb:zx g H' S d v
 st:esc e=true->Rep g (hid H' S) d v
 fr:fresh c e=true->Fr g H S H' d v
structure SE(g:Gc)(c:Cc)(τ:Env)(σ:L2.St)(H:Hp)(S:Sh):Prop where
 len:τ.length=σ.length
 val:∀(i:Nat) (d:D),τ[i]? = some (some d)->∃v,σ[i]? = some (some v)/\zx g H S d v/\∀x,c.N[i]? = some x->c.own.contains x=false->Rep g (hid H S) d v
 sub:Sub S H
theorem SE.up{g:Gc}{c:Cc}{τ:Env}{σ:L2.St}{H H':Hp}{S:Sh}(s:SE g c τ σ H S)(e:qf H H'):SE g c τ σ H' S:=
 ⟨s.len,λi d h=>let ⟨v,h1,h2,h3⟩:=s.val i d h;⟨v,h1,h2.mono e,λx a b=>(h3 x a b).mono (qh e)⟩,s.sub.same e⟩
noncomputable def tR{α:Type}(g:Gc)(E:XK)(H:Hp)(r:R α)(k:α->Prop):Prop:=match r with
 | .ok a=>k a
 | .ex c=>∀H' C,qf H H'->g.clA c=some C->E (.ref C) none H'
 | .no=>False
theorem tR.up{α:Type}{g:Gc}{E:XK}{H H':Hp}{r:R α}{k:α->Prop}(h:tR g E H r k)(e:qf H H'):tR g E H' r k:=by
 cases r with
 |ok a=>exact h
 |ex c=>exact λH2 C e2 hc=>h H2 C (e.trans e2) hc
 |no=>exact h
theorem tR.imp{α:Type}{g:Gc}{E:XK}{H:Hp}{r:R α}{k k':α->Prop}(h:tR g E H r k)(i:∀a,k a->k' a):tR g E H r k':=by
 cases r with
 |ok a=>exact i a h
 |ex c=>exact h
 |no=>exact h
section
variable(w:W)(g:Gc)(c:Cc)(E:XK)
noncomputable def tE(e:EV.E):TE:=λσ H Q=>∃τ S,SE g c τ σ H S/\tR g E H (evE w e τ) λd=>∀v H',bz g c e S H d v H'->Q v H'
noncomputable def tT(t:T):TT:=λσ H Q=>∃τ S,SE g c τ σ H S/\tR g E H (evT w t τ) λb=>∀H',qf H H'->Q b H'
noncomputable def tA(es:Es):TA:=λσ H Q=>∃τ S,SE g c τ σ H S/\tR g E H (zy w es τ) λds=>∀vs H',qf H H'->fA g H' S ds vs->(ey es=true->qk g (hid H' S) ds vs)->Q vs H'
noncomputable def tOe(o:OE):TO:=λσ H Q=>∃τ S,SE g c τ σ H S/\tR g E H (evO w o τ) λi=>∀H',qf H H'->Q i H'
noncomputable def Goes(g:Gc)(J:L2.It)(ds:List D)(H:Hp)(S:Sh):Prop:=
 (∀i,ds.length<=i->J.stop i H)/\∀i d,ds[i]? = some d->J.go i H/\∀x H',J.yld i H x H'->qf H H'/\Rep g (hid H' S) d x
noncomputable def tIt(it:It):TI:=λσ H R=>∃τ S,SE g c τ σ H S/\tR g E H (evI w it τ) λds=>∀J H',qf H H' ->
 (∀H2 S2,qf H' H2->qf (hid H' S) (hid H2 S2)->Sub S2 H2->Goes g J ds H2 S2)->(owned it=false->∀H2 S2,qf (hid H' S) (hid H2 S2)->Sub S2 H2->Goes g J ds H2 S2)->R J H'
end
theorem PE.imp{X:Cx}{e:Expr}{t t':TE}(h:PE X e t)(i:∀σ H Q,t' σ H Q->t σ H Q):PE X e t':=λpins s σ H Q I q=>h pins s σ H Q I (i _ _ _ q)
theorem PT.imp{X:Cx}{e:Expr}{t t':TT}(h:PT X e t)(i:∀σ H Q,t' σ H Q->t σ H Q):PT X e t':=λpins s σ H Q I q=>h pins s σ H Q I (i _ _ _ q)
theorem PW.imp{X:Cx}{e:Expr}{t t':TT}(h:PW X e t)(i:∀σ H Q,t' σ H Q->t σ H Q):PW X e t':=λwh pins s σ H Q I q=>h wh pins s σ H Q I (i _ _ _ q)
theorem PA.imp{X:Cx}{e:List Expr}{t t':TA}(h:PA X e t)(i:∀σ H Q,t' σ H Q->t σ H Q):PA X e t':=λpos pins s σ H Q I q=>h pos pins s σ H Q I (i _ _ _ q)
theorem PO.imp{X:Cx}{e:Option Expr}{t t':TO}(h:PO X e t)(i:∀σ H Q,t' σ H Q->t σ H Q):PO X e t':=λpins s σ H Q I q=>h pins s σ H Q I (i _ _ _ q)
theorem PI.imp{X:Cx}{tg e:Expr}{t t':TI}(h:PI X tg e t)(i:∀σ H Q,t' σ H Q->t σ H Q):PI X tg e t':=λpins s σ H Q I q=>h pins s σ H Q I (i _ _ _ q)
theorem PS.imp{X:Cx}{e:Stmt}{t t':TS}(h:PS X e t)(i:∀D σ H,t' D σ H->t D σ H):PS X e t':=λpins s σ H Q I q=>h pins s σ H Q I (i _ _ _ q)
theorem PSs.imp{X:Cx}{e:List Stmt}{t t':TS}(h:PSs X e t)(i:∀D σ H,t' D σ H->t D σ H):PSs X e t':=λpins s σ H Q I q=>h pins s σ H Q I (i _ _ _ q)
section
variable{w:W}{g:Gc}{c:Cc}{E:XK}{τ:Env}{σ:L2.St}{H H0:Hp}{S:Sh}
theorem zh{α:Type}{e:EV.E}{f:D->R α}{P:α->Prop}{Q:VK}(se:SE g c τ σ H S)(h:tR g E H ((evE w e τ).bind f) P)(k:∀d v H',evE w e τ=.ok d->bz g c e S H d v H'->tR g E H' (f d) P->Q v H'):tE w g c E e σ H Q:=by
 refine⟨τ,S,se,?_⟩;cases q:evE w e τ with
 |ok d=>rw[q]at h;exact λv H' p=>k d v H' q p (tR.up h p.same)
 |ex x=>rw[q]at h;exact h
 |no=>rw[q]at h;exact h
theorem jc{α:Type}{t:T}{f:Bool->R α}{P:α->Prop}{Q:Bool->Hp->Prop}(se:SE g c τ σ H S)(h:tR g E H ((evT w t τ).bind f) P)(k:∀b H',evT w t τ=.ok b->qf H H'->tR g E H' (f b) P->Q b H'):tT w g c E t σ H Q:=by
 refine⟨τ,S,se,?_⟩;cases q:evT w t τ with
 |ok d=>rw[q]at h;exact λH' p=>k d H' q p (tR.up h p)
 |ex x=>rw[q]at h;exact h
 |no=>rw[q]at h;exact h
theorem fJ{α:Type}{es:Es}{f:List D->R α}{P:α->Prop}{Q:List V->Hp->Prop}(se:SE g c τ σ H S)(h:tR g E H ((zy w es τ).bind f) P)
  (k:∀ds vs H',zy w es τ=.ok ds->qf H H'->fA g H' S ds vs->(ey es=true->qk g (hid H' S) ds vs)->tR g E H' (f ds) P->Q vs H'):tA w g c E es σ H Q:=by
 refine⟨τ,S,se,?_⟩;cases q:zy w es τ with
 |ok d=>rw[q]at h;exact λvs H' p r r'=>k d vs H' q p r r' (tR.up h p)
 |ex x=>rw[q]at h;exact h
 |no=>rw[q]at h;exact h
theorem pq{α:Type}{o:OE}{f:Option Int->R α}{P:α->Prop}{Q:Option Int->Hp->Prop}(se:SE g c τ σ H S)(h:tR g E H ((evO w o τ).bind f) P)(k:∀b H',evO w o τ=.ok b->qf H H'->tR g E H' (f b) P->Q b H'):tOe w g c E o σ H Q:=by
 refine⟨τ,S,se,?_⟩;cases q:evO w o τ with
 |ok d=>rw[q]at h;exact λH' p=>k d H' q p (tR.up h p)
 |ex x=>rw[q]at h;exact h
 |no=>rw[q]at h;exact h
theorem bz.of{e:EV.E}{d:D}{v:V}{H':Hp}(s:qf H H')(r:Rep g (hid H' S) d v)(f:fresh c e=false):bz g c e S H d v H':=⟨s,.inl r,λ_=>r,λz=>by rw[f]at z;cases z⟩
theorem bz.new{e:EV.E}{d:D}{v:V}{H':Hp}(s:qf H H')(r:Rep g (hid H' S) d v)(f:Fr g H S H' d v):bz g c e S H d v H':=⟨s,.inl r,λ_=>r,λ_=>f⟩
theorem Fr.low{d:D}{v:V}{H1 H':Hp}(f:Fr g H1 S H' d v)(e:qf H H1):Fr g H S H' d v:=by
 obtain⟨a,vs,ds,h1,h2,h3,h4,h5⟩:=f;exact⟨a,vs,ds,h1,h2,e.free h3,h4,h5⟩
end
noncomputable def b1N:B1->Str
 | .len=>"len"
 | .tuple=>"tuple"
 | .list=>"list"
 | .sorted=>"sorted"
 | .all=>"all"
 | .any=>"any"
 | .sum=>"sum"
 | .min=>"min"
 | .max=>"max"
 | .abs=>"abs"
 | .int=>"int"
 | .bool=>"bool"
theorem jk:∀b,bN (b1N b)=some (b1V b)
 | .len | .tuple | .list | .sorted | .all | .any | .sum | .min | .max | .abs | .int | .bool=>by decide +kernel
noncomputable def spF(w:W)(g:Gc)(x:Str)(fr:Bool):Sp:=λvs H Q E=>∃S ds,Sub S H/\qk g (hid H S) ds vs /\
 tR g E H (w.call x ds) λd=>∀v H',qf H H'->Rep g (hid H' S) d v->(fr=true->Fr g H S H' d v)->Q v H'
structure je(w:W)(g:Gc)(P:aC)(wl:av)(mg:Str->Option ae)(base:Heap)(A:aA)(calm:Bool)(x:Str)(f:Addr)(fr:Bool):Prop where
 at_:mg x=some (.ref f)
 kp:cL g.K (.ref f)=true
 fn:∃k fd ps,Binds g.K fd ps []/\((calm=true/\eY P wl g.K mg base (CX1 P wl) k f fd ps (spF w g x fr)/\cD k A)\/(calm=false/\jZ P wl g.K mg base (CX1 P wl) k f fd ps (spF w g x fr)/\hX k A))
noncomputable def GM(w:W)(g:Gc)(P:aC)(wl:av)(mg:Str->Option ae)(base:Heap)(A:aA)(calm:Bool)(x:Str):GK->Prop
 | .fn fr=>∃f,g.fnA x=some f/\je w g P wl mg base A calm x f fr
 | .val=>∃u v d,mg x=some u/\RelV v u/\w.glb x=some d/\∀H,Rep g H d v
 | .bi b=>mg x=none/\x=b1N b/\∃id,b1V b=.builtin id
 | .rng=>mg x=none/\x = "range"
 | .enum=>mg x=none/\x = "enumerate"
 | .zip=>mg x=none/\x = "zip"
 | .isi=>mg x=none/\x = "isinstance"
 | .ty n b=>mg x=none/\bN x=some (.type n)/\(n∈["int","bool","str","list","tuple"]\/n = "ValueError")/\∀b',b=some b'->x=b1N b'/\b1V b'=.type n
 | .exc=>∃C,mg x=some (.ref C)/\g.clA x=some C
 | .exk=>∃C,mg x=some (.ref C)/\g.clA x=some C
 | .set=>mg x=none/\bN x=some (.type "set")
structure XO(w:W)(g:Gc)(c:Cc)(E:XK)(X:Cx):Prop where
 K:X.K=g.K
 nm:X.env.scope.names=c.nm
 N:X.N=c.N
 nd:c.N.Nodup
 calm:c.calm=true->X.calm=true
 units:X.A.units+64<cLine
 fn:∀x,(c.fnc=true\/c.oc.contains x=true)->X.fn x=true
 kind:X.env.scope.kind=.function
 pass:Passes (CX1 X.prog X.w) X E
 gok:∀x k,c.G.lookup x=some k->GM w g X.prog X.w X.mg X.base X.A X.calm x k
 fns:X.calm=true->∀x f,g.fnA x=some f->∃fr,je w g X.prog X.w X.mg X.base X.A X.calm x f fr
 -- what isinstance says of a caught error
 sub:∀k cl b,w.sub k cl=some b->∃C cv,g.clA k=some C/\jV g.K C/\cB g.K (.ref C) cv=some b/\match cl with
  | .ty n=>n = "ValueError"/\cv=.type n
  | .ex x=>∃D,g.clA x=some D/\cv=.ref D
section
variable{w:W}{g:Gc}{c:Cc}{E:XK}{X:Cx}
theorem eQ{x:Str}{i:Nat}(h:loc c x=some i):c.N[i]? = some x/\(c.nm.lookup x=some .local\/c.nm.lookup x=some .cell\/c.nm.lookup x=some .free)/\(x==("__debug__" : Str))=false/\(x==("__classdict__" : Str))=false:=by
 unfold loc at h;split at h
 ·cases h
 ·rename_i hd
  have hd':(x==("__debug__" : Str))=false/\(x==("__classdict__" : Str))=false:=by simpa using hd
  have fin:∀{j},(if c.N[j]? = some x then some j else none)=some i->c.N[i]? = some x:=λ{j} z=>by
   split at z
   ·cases z;assumption
   ·cases z
  split at h
  ·rename_i q;exact⟨fin h,.inl q,hd'⟩
  ·rename_i q;exact⟨fin h,.inr (.inl q),hd'⟩
  ·rename_i q;exact⟨fin h,.inr (.inr q),hd'⟩
  ·cases h
theorem qw{x:Str}{k:GK}(h:glob c x=some k):c.nm.lookup x=some .globalImplicit/\c.G.lookup x=some k/\(x==("__debug__" : Str))=false/\x≠"__name__":=by
 unfold glob at h;split at h
 ·cases h
 ·rename_i hd
  have hd':(x==("__debug__" : Str))=false/\(x==("__name__" : Str))=false:=by simpa using hd
  split at h
  ·rename_i q;exact⟨q,h,hd'.1,by simpa using hd'.2⟩
  ·cases h
theorem XO.gl(O:XO w g c E X){x:Str}{k:GK}(h:glob c x=some k):Gl X x:=by
 show X.env.scope.names.lookup x=_;rw[O.nm];exact(qw h).1
theorem XO.gm(O:XO w g c E X){x:Str}{k:GK}(h:glob c x=some k):GM w g X.prog X.w X.mg X.base X.A X.calm x k:=O.gok x k (qw h).2.1
theorem qo{e:Expr}{es:List Expr}{env:PySem.Env}(h:isStar e=false):bf (e::es) env=(false,eval e env)::bf es env:=by
 cases e<;>first|rfl|(simp[isStar]at h)
theorem jv{es:List Expr}{env:PySem.Env}{pos:Pos}:(∀e∈es,isStar e=false)->(backTo pos (bf es env)).any (·.1)=false:=by
 induction es with
 |nil=>intro _;rfl
 |cons e es ih=>
  intro h;rw[qo (h e aO)];show (false||(backTo pos (bf es env)).any (·.1))=false;rw[ih λe he=>h e (aM _ he)]
  rfl
theorem fk:∀{n:Nat}{es:List Expr}{ir:Es},cEs n c es=some ir->∀e∈es,isStar e=false
 | 0,_,_,h=>by simp[cEs]at h
 |n+1,[],_,_=>by simp
 |n+1,e::es,ir,h=>by
  simp only[cEs]at h;cases hs:isStar e with
  |true=>simp[hs]at h
  |false=>
   simp only[hs,a_,if_false,aL,aK]at h;obtain⟨_,_,r,hr,_⟩:=h;intro x hx;rcases aF.mp hx with rfl|hx
   ·exact hs
   ·exact fk hr x hx
theorem nj{x:Str}{f:Addr}{fr:Bool}{e:Expr}{es:List Expr}{p pos:Pos}{t:TA}(O:XO w g c E X)(C:je w g X.prog X.w X.mg X.base X.A X.calm x f fr)(hg:Gl X x)(hd:(x==("__debug__" : Str))=false)(ha:PA X (e::es) t)
  (hs:∀z∈e::es,isStar z=false):PE X (.Call (.Name x p) (e::es) [] pos) (kD (spF w g x fr) [] E t):=by
 obtain⟨k,fd,ps,hb,h⟩:=C.fn;have he:=qo (es:=es) (env:=X.env) (hs e aO);have hp:=jv (env:=X.env) (pos:=pos) λz hz=>hs z (aM _ hz)
 rw[<-O.K]at hb h;rcases h with ⟨_,F,r⟩|⟨_,F,r⟩
 ·exact vp F r hg C.at_ (by rw[O.K];exact C.kp) hb .nil O.pass ha hd he hp
 ·exact uk F r hg C.at_ (by rw[O.K];exact C.kp) hb .nil O.pass ha hd he hp
end
end EV
namespace L2
open PySem PySem.Spec PyProof.Rows
section
variable{X:Cx}
end
theorem Inv.nsKept{X:Cx}{pins:List (Addr×Obj)}{σ:St}{H:Hp}{s s':af}(I:Inv X pins σ H s)(hos:s'.os=s.os)(hg:s'.gens=s.gens)
  (k:∀b o,b≠X.env.locals->s.heap.get? b=some o->s'.heap.get? b=some o) (ns:∀m,s.heap.Ns X.env.locals m->s'.heap.Ns X.env.locals m):Inv X pins σ H s':=by
 obtain⟨h',g',d',t',o'⟩:=s';have eo:o'=s.os:=hos;have eg:g'=s.gens:=hg;subst eo eg;obtain⟨m0,n0,_⟩:=id I.loc;obtain⟨oL',es',ep',hoL',_⟩:=ns _ n0;refine I.step (g':=s.gens) (d':=d') (ch:=[]) (λb hb=>absurd hb (by simp)) (λb o hL _ _ e _=>k b o hL e) (λb o hL _ _ e _=>⟨o.slots,k b o hL e⟩) (λb o _ e n=>n) (λb o _ e=>?_)
  (λb xs e=>e) (λb o u e=>e) (λb ps e=>⟨#[],by rw[e];simp⟩) ns (λb u e=>?_) I.bare
 ·by_cases hL:b=X.env.locals
  ·exact⟨oL',by rw[hL];exact hoL'⟩
  ·exact⟨o,k b o hL e⟩
 ·have nl:∀c,(∃u,H c=some u)->c≠X.env.locals:=λc ⟨u,e⟩ z=>by rw[z,I.free]at e;cases e
  refine(I.hok b u e).stay (λc v hc q=>k c v (nl c ?_) q) (λc q=>q) λc xs q=>q
  rcases hc with z|z
  ·exact⟨u,by rw[z];exact e⟩
  ·exact⟨_,z⟩
section
variable{X:Cx}
noncomputable def k_(mx:Bool)(ns:List Int)(i:Nat):Prop:=∀(n:Int),ns[i]? = some n->∀(j:Nat) (m:Int),ns[j]? = some m->if mx then m<=n/\(j<i->m<n)else n<=m/\(j<i->n<m)
end
end L2
namespace EV
open PySem PySem.Spec PySem.P PyProof.Rows L2
section
variable{w:W}{g:Gc}{c:Cc}{E:XK}{X:Cx}{a b d f:Expr}{ia ib id' if':EV.E}{pos p2:Pos}{ta tb:T}
theorem jD{e:Expr}{v:V}{dd:D}(h:PE X e (tC v))(r:∀H,Rep g H dd v):PE X e (tE w g c E (.con dd)):=PE.imp h λσ H Q ⟨τ,S,se,k⟩=>k v H (bz.of (qf.refl _) (r _) rfl)
theorem xW{x:Str}{i:Nat}(O:XO w g c E X)(h:loc c x=some i):PE X (.Name x pos) (tE w g c E (if c.own.contains x then .own i else .var i)):=by
 obtain⟨h1,h2,h3,h4⟩:=eQ h;refine PE.imp (iB (i:=i) (by rw[O.N];exact h1) (by unfold fB;rw[O.nm];exact h2) h3 h4) λσ H Q ⟨τ,S,se,k⟩=>?_
 have key:∀e,evE w e τ=zF τ i->fresh c e=false->(esc e=true->c.own.contains x=false)->tR g E H (evE w e τ) (λd=>∀v H',bz g c e S H d v H'->Q v H')->gA i σ H Q:=λe e1 e2 e3 k=>by
  rw[e1]at k;unfold zF at k;cases q:τ[i]? with
  |none=>rw[q]at k;exact k.elim
  |some o=>
   cases o with
   |none=>rw[q]at k;exact k.elim
   |some d=>
    rw[q]at k;obtain⟨v,z1,z2,z3⟩:=se.val i d q;exact⟨v,z1,k v H ⟨qf.refl _,z2,λz=>z3 x h1 (e3 z),λz=>by rw[e2]at z;cases z⟩⟩
 cases ho:c.own.contains x with
 |true=>rw[ho]at k;exact key (.own i) (by simp[qY,zc,zb,zg,zf,za,ze,qF,qJ,qG,qQ,qM,qx,qC,qK,qB,qN,qD,qz,qP,qT,qE,qA,qS,qL,qH,qO,qI]) rfl (by intro z;cases z) k
 |false=>rw[ho]at k;exact key (.var i) (by simp[qY,zc,zb,zg,zf,za,ze,qF,qJ,qG,qQ,qM,qx,qC,qK,qB,qN,qD,qz,qP,qT,qE,qA,qS,qL,qH,qO,qI]) rfl (λ_=>ho) k
theorem yo{x:Str}(O:XO w g c E X)(h:glob c x=some .val):PE X (.Name x pos) (tE w g c E (.glb x)):=by
 obtain⟨u,v,d,h1,h2,h3,h4⟩:=O.gm h;refine PE.imp (kM (O.gl h) h1 h2 (qw h).2.2.1) λσ H Q ⟨τ,S,se,k⟩=>?_
 simp only[qY,zc,zb,zg,zf,za,ze,qF,qJ,qG,qQ,qM,qx,qC,qK,qB,qN,qD,qz,qP,qT,qE,qA,qS,qL,qH,qO,qI,h3]at k;exact k v H (bz.of (qf.refl _) (h4 _) rfl)
theorem wR{x:Str}{fr:Bool}(O:XO w g c E X)(h:glob c x=some (.fn fr)):PE X (.Name x pos) (tE w g c E (.fnv x)):=λpins s σ H Q I ⟨τ,S,se,kk⟩=>by
 simp only[qY,zc,zb,zg,zf,za,ze,qF,qJ,qG,qQ,qM,qx,qC,qK,qB,qN,qD,qz,qP,qT,qE,qA,qS,qL,qH,qO,qI]at kk;exact bI kk
theorem l5{τ:EV.Env}{e:EV.E}{d:D}(h:isL e=true)(he:evE w e τ=.ok d):pB d=true:=by
 cases e<;>first|(cases h;done)|skip
 ·simp only[qY,zc,zb,zg,zf,za,ze,qF,qJ,qG,qQ,qM,qx,qC,qK,qB,qN,qD,qz,qP,qT,qE,qA,qS,qL,qH,qO,qI]at he;cases q:zy w ‹_› τ with
  |ok ds=>rw[q]at he;cases he;rfl
  |ex z=>rw[q]at he;cases he
  |no=>rw[q]at he;cases he
 ·simp only[qY,zc,zb,zg,zf,za,ze,qF,qJ,qG,qQ,qM,qx,qC,qK,qB,qN,qD,qz,qP,qT,qE,qA,qS,qL,qH,qO,qI]at he;cases q:evI w ‹_› τ with
  |ok ds=>rw[q]at he;cases he;rfl
  |ex z=>rw[q]at he;cases he
  |no=>rw[q]at he;cases he
 ·simp only[qY,zc,zb,zg,zf,za,ze,qF,qJ,qG,qQ,qM,qx,qC,qK,qB,qN,qD,qz,qP,qT,qE,qA,qS,qL,qH,qO,qI]at he;cases q:evI w ‹_› τ with
  |ok ds=>
   rw[q]at he;simp only[R.bind_ok]at he;split at he
   ·cases he
   ·generalize zj _ _ _ _=r at he;cases r with
    |ok o=>cases he;rfl
    |ex z=>cases he
    |no=>cases he
  |ex z=>rw[q]at he;cases he
  |no=>rw[q]at he;cases he
theorem xD(O:XO w g c E X){op:Operator}{o:O2}(ho:o2 op=some o)(ha:PE X a (tE w g c E ia))(hb:PE X b (tE w g c E ib)):PE X (.BinOp a op b pos) (tE w g c E (.op o ia ib)):=
 PE.imp (yP (yF O.K ho) ha hb) λσ H Q ⟨τ,S,se,k⟩=>by
  simp only[qY,zc,zb,zg,zf,za,ze,qF,qJ,qG,qQ,qM,qx,qC,qK,qB,qN,qD,qz,qP,qT,qE,qA,qS,qL,qH,qO,qI]at k;refine zh se k λda va H1 e1 p1 k1=>zh (se.up p1.same) k1 λdb vb H2 e2 p2 k2=>⟨S,da,db,(se.up (p1.same.trans p2.same)).sub,p1.rb.mono p2.same,p2.rb,?_⟩
  cases q:op2 o da db with
  |ok r=>
   rw[q]at k2;exact λv H' s r f=>k2 v H' ⟨(p1.same.trans p2.same).trans s,.inl r,λ_=>r,λz=>by
    simp only[fresh,cA,aU,beq_iff_eq]at z;refine(f ?_).low (p1.same.trans p2.same);rcases z with z|⟨rfl,z⟩
    ·exact l5 z.2 e1
    ·have:=l5 z e2;cases db<;>first|(cases this;done)|skip
     cases da<;>first|rfl|(cases q;done)⟩
  |ex z=>exact Cd q
  |no=>rw[q]at k2;exact k2
theorem AW(ha:PE X a (tE w g c E ia)):PE X (.UnaryOp .Not a pos) (tE w g c E (.not ia)):=
 PE.imp (CU ha) λσ H Q ⟨τ,S,se,k⟩=>by
  simp only[qY,zc,zb,zg,zf,za,ze,qF,qJ,qG,qQ,qM,qx,qC,qK,qB,qN,qD,qz,qP,qT,qE,qA,qS,qL,qH,qO,qI]at k;refine zh se k λda va H1 e1 p1 k1=>?_
  cases da with
  |bl i=>exact⟨i,p1.rb.bl,k1 _ _ (bz.of p1.same (.bl _) rfl)⟩
  |_=>exact k1.elim
theorem bz.pass{e e':EV.E}{S:Sh}{H H1 H':Hp}{dd:D}{v:V}(s:qf H H1)(p:bz g c e S H1 dd v H')(h:esc e=true)(f:fresh c e'=false):bz g c e' S H dd v H':=bz.of (s.trans p.same) (p.st h) f
theorem w_{rest:List Expr}{ir:EV.E}(ha:PE X a (tE w g c E ia))(hb:PE X (.BoolOp .And (b::rest) pos) (tE w g c E ir))(he:esc ir=true):PE X (.BoolOp .And (a::b::rest) pos) (tE w g c E (.and ia ir)):=
 PE.imp (uO ha hb) λσ H Q ⟨τ,S,se,k⟩=>by
  simp only[qY,zc,zb,zg,zf,za,ze,qF,qJ,qG,qQ,qM,qx,qC,qK,qB,qN,qD,qz,qP,qT,qE,qA,qS,qL,qH,qO,qI]at k;refine zh se k λda va H1 e1 p1 k1=>?_
  cases da with
  |bl i=>
   refine⟨i,p1.rb.bl,?_⟩;cases i with
   |true=>
    refine⟨τ,S,se.up p1.same,tR.imp k1 λd hk v H' p=>hk v H' (p.pass p1.same he rfl)⟩
   |false=>exact k1 _ _ (bz.of p1.same (.bl _) rfl)
  |_=>exact k1.elim
theorem xT{rest:List Expr}{ir:EV.E}(ha:PE X a (tE w g c E ia))(hb:PE X (.BoolOp .Or (b::rest) pos) (tE w g c E ir))(he:esc ir=true):PE X (.BoolOp .Or (a::b::rest) pos) (tE w g c E (.or ia ir)):=
 PE.imp (vt ha hb) λσ H Q ⟨τ,S,se,k⟩=>by
  simp only[qY,zc,zb,zg,zf,za,ze,qF,qJ,qG,qQ,qM,qx,qC,qK,qB,qN,qD,qz,qP,qT,qE,qA,qS,qL,qH,qO,qI]at k;refine zh se k λda va H1 e1 p1 k1=>?_
  cases da with
  |bl i=>
   refine⟨i,p1.rb.bl,?_⟩;cases i with
   |false=>
    refine⟨τ,S,se.up p1.same,tR.imp k1 λd hk v H' p=>hk v H' (p.pass p1.same he rfl)⟩
   |true=>exact k1 _ _ (bz.of p1.same (.bl _) rfl)
  |_=>exact k1.elim
theorem fX{op:CmpOp}{b:Expr}(h:qR b=true):behindInMarks op b=false:=by cases b<;>first|rfl|(simp[qR]at h)
theorem dG{o:C2}{S:Sh}{H:Hp}{da db:D}{va vb:V}{r:R Bool}{P:Bool->Prop}{Q:VK}(ra:zx g H S da va)(rb:zx g H S db vb)(q:tR g E H (qi o da db) P)(k:∀z,qi o da db=.ok z->P z->Q (.bl z) H):rCm g o va vb H Q:=by
 refine⟨S,da,db,ra,rb,?_⟩;cases e:qi o da db with
 |ok z=>rw[e]at q;exact k z e q
 |ex z=>exact CC e
 |no=>rw[e]at q;exact q
theorem tR.bnd{α β:Type}{H:Hp}{r:R α}{f:α->R β}{P:β->Prop}(h:tR g E H (r.bind f) P):tR g E H r λa=>tR g E H (f a) P:=by
 cases r with
 |ok a=>exact h
 |ex z=>exact h
 |no=>exact h
theorem xu(O:XO w g c E X){op:CmpOp}(ha:PE X a (tE w g c E ia))(hb:PE X b (tE w g c E ib))(hs:qR b=true):PE X (.Compare a [op] [b] pos) (tE w g c E (.cmp (c2 op) ia ib)):=
 PE.imp (CW (dA O.K O.units op) ha hb (fX hs)) λσ H Q ⟨τ,S,se,k⟩=>by
  simp only[qY,zc,zb,zg,zf,za,ze,qF,qJ,qG,qQ,qM,qx,qC,qK,qB,qN,qD,qz,qP,qT,qE,qA,qS,qL,qH,qO,qI]at k;refine zh se k λda va H1 e1 p1 k1=>zh (se.up p1.same) k1 λdb vb H2 e2 p2 k2=>?_
  exact dG (r:=.no) (p1.rb.mono p2.same) p2.rb (tR.bnd k2) λz _ q=>q _ _ (bz.of (p1.same.trans p2.same) (.bl _) rfl)
theorem xZ(O:XO w g c E X){op:CmpOp}(ha:PE X a (tE w g c E ia))(hb:PE X b (tE w g c E ib))(hs:qR b=true):PT X (.Compare a [op] [b] pos) (tT w g c E (.cmp (c2 op) ia ib)):=
 PT.imp (vK (dA O.K O.units op) ha hb (fX hs)) λσ H Q ⟨τ,S,se,k⟩=>by
  simp only[e_,eG,eK,ff,eX,fb,fc]at k;refine zh se k λda va H1 e1 p1 k1=>zh (se.up p1.same) k1 λdb vb H2 e2 p2 k2=>?_
  exact dG (r:=.no) (p1.rb.mono p2.same) p2.rb k2 λz _ q=>⟨z,rfl,q _ (p1.same.trans p2.same)⟩
theorem vG(O:XO w g c E X){op op':CmpOp}(ha:PE X a (tE w g c E ia))(hb:PE X b (tE w g c E ib))(hd:PE X d (tE w g c E id'))(hs':qR d=true):PE X (.Compare a [op,op'] [b,d] pos) (tE w g c E (.cmp2 (c2 op) (c2 op') ia ib id')):=
 PE.imp (tP (dA O.K O.units op) (dA O.K O.units op') ha hb hd (fX hs')) λσ H Q ⟨τ,S,se,k⟩=>by
  simp only[qY,zc,zb,zg,zf,za,ze,qF,qJ,qG,qQ,qM,qx,qC,qK,qB,qN,qD,qz,qP,qT,qE,qA,qS,qL,qH,qO,qI]at k;refine zh se k λda va H1 e1 p1 k1=>zh (se.up p1.same) k1 λdb vb H2 e2 p2 k2=>?_
  have s2:=p1.same.trans p2.same;refine dG (r:=.no) (p1.rb.mono p2.same) p2.rb (tR.bnd k2) λz _ q=>⟨z,rfl,?_⟩
  cases z with
  |true=>
   exact zh (se.up s2) q λdd vd H3 e3 p3 k3=>dG (r:=.no) (p2.rb.mono p3.same) p3.rb (tR.bnd k3) λz _ q=>q _ _ (bz.of (s2.trans p3.same) (.bl _) rfl)
  |false=>exact q _ _ (bz.of s2 (.bl _) rfl)
theorem vN(O:XO w g c E X){op op':CmpOp}(ha:PE X a (tE w g c E ia))(hb:PE X b (tE w g c E ib))(hd:PE X d (tE w g c E id'))(hs':qR d=true):PT X (.Compare a [op,op'] [b,d] pos) (tT w g c E (.cmp2 (c2 op) (c2 op') ia ib id')):=
 PT.imp (tq (dA O.K O.units op) (dA O.K O.units op') ha hb hd (fX hs')) λσ H Q ⟨τ,S,se,k⟩=>by
  simp only[e_,eG,eK,ff,eX,fb,fc]at k;refine zh se k λda va H1 e1 p1 k1=>zh (se.up p1.same) k1 λdb vb H2 e2 p2 k2=>?_
  have s2:=p1.same.trans p2.same;refine dG (r:=.no) (p1.rb.mono p2.same) p2.rb (tR.bnd k2) λz _ q=>⟨z,rfl,?_⟩
  cases z with
  |true=>
   exact zh (se.up s2) q λdd vd H3 e3 p3 k3=>dG (r:=.no) (p2.rb.mono p3.same) p3.rb k3 λz _ q=>⟨z,rfl,q _ (s2.trans p3.same)⟩
  |false=>exact⟨false,rfl,q _ s2⟩
theorem uj(O:XO w g c E X){op op' op'':CmpOp}(ha:PE X a (tE w g c E ia))(hb:PE X b (tE w g c E ib))(hd:PE X d (tE w g c E id'))(hf:PE X f (tE w g c E if'))(hs':qR f=true):PE X (.Compare a [op,op',op''] [b,d,f] pos) (tE w g c E (.cmp3 (c2 op) (c2 op') (c2 op'') ia ib id' if')):=
 PE.imp (wq (dA O.K O.units op) (dA O.K O.units op') (dA O.K O.units op'') ha hb hd hf (fX hs')) λσ H Q ⟨τ,S,se,k⟩=>by
  simp only[qY,zc,zb,zg,zf,za,ze,qF,qJ,qG,qQ,qM,qx,qC,qK,qB,qN,qD,qz,qP,qT,qE,qA,qS,qL,qH,qO,qI]at k;refine zh se k λda va H1 e1 p1 k1=>zh (se.up p1.same) k1 λdb vb H2 e2 p2 k2=>?_
  have s2:=p1.same.trans p2.same;refine dG (r:=.no) (p1.rb.mono p2.same) p2.rb (tR.bnd k2) λz _ q=>⟨z,rfl,?_⟩
  cases z with
  |true=>
   refine zh (se.up s2) q λdd vd H3 e3 p3 k3=>dG (r:=.no) (p2.rb.mono p3.same) p3.rb (tR.bnd k3) λz _ q=>⟨z,rfl,?_⟩
   have s3:=s2.trans p3.same;cases z with
   |true=>exact zh (se.up s3) q λdf vf H4 e4 p4 k4=>dG (r:=.no) (p3.rb.mono p4.same) p4.rb (tR.bnd k4) λz _ q=>q _ _ (bz.of (s3.trans p4.same) (.bl _) rfl)
   |false=>exact q _ _ (bz.of s3 (.bl _) rfl)
  |false=>exact q _ _ (bz.of s2 (.bl _) rfl)
theorem DS{a b c d:Expr}{ta tb tc td:TE}{pos:Pos}{op op' op'':CmpOp}{r r' r'':R2}(ho:OpR X (bh op) r)(ho':OpR X (bh op') r')(ho'':OpR X (bh op'') r'')(ha:PE X a ta)(hb:PE X b tb)(hc:PE X c tc)(hd:PE X d td)
  (hm:lastMarks [op,op',op''] [b,c,d]=false):PT X (.Compare a [op,op',op''] [b,c,d] pos) (lK (rK r r' r'' ta tb tc td)):=by
 intro pins s σ H Q I h;refine isTrue_chain (thn (ha pins s σ H _ I h) λv s1 ⟨x,H1,I1,r1,q1⟩=>test_link (thn (hb pins s1 σ H1 _ I1 q1) λu s2 ⟨y,H2,I2,r2,q2⟩=>
  thn (ho pins s2 σ H2 x y v u _ I2 r1 r2 q2) λd s3 ⟨z,H3,I3,r3,k,e,q3⟩=>?_)) hm
 subst e;cases r3;refine bH ?_;cases k with
 |false=>
  obtain⟨k',e',q'⟩:=q3;cases e';exact ite_ff ⟨H3,I3,q'⟩
 |true=>
  refine ite_tt (test_link (thn (hc pins s3 σ H3 _ I3 q3) λw' s4 ⟨z',H4,I4,r4,q4⟩=>thn (ho' pins s4 σ H4 y z' u w' _ I4 r2 r4 q4) λd' s5 ⟨z2,H5,I5,r5,k2,e2,q5⟩=>?_));subst e2;cases r5;refine bH ?_;cases k2 with
  |false=>
   obtain⟨k',e',q'⟩:=q5;cases e';exact ite_ff ⟨H5,I5,q'⟩
  |true=>
   refine ite_tt (test_last (thn (hd pins s5 σ H5 _ I5 q5) λw'' s6 ⟨z3,H6,I6,r6,q6⟩=>thn (ho'' pins s6 σ H6 z' z3 w' w'' _ I6 r4 r6 q6) λd'' s7 ⟨z4,H7,I7,r7,k4,e4,q7⟩=>?_));subst e4;cases r7;exact bH ⟨H7,I7,q7⟩
theorem R.bind_assoc{α β γ:Type}(r:R α)(f:α->R β)(h:β->R γ):(r.bind f).bind h=r.bind λa=>(f a).bind h:=by cases r<;>rfl
theorem uW(O:XO w g c E X){op op' op'':CmpOp}(ha:PE X a (tE w g c E ia))(hb:PE X b (tE w g c E ib))(hd:PE X d (tE w g c E id'))(hf:PE X f (tE w g c E if'))(hs':qR f=true):PT X (.Compare a [op,op',op''] [b,d,f] pos) (tT w g c E (.val (.cmp3 (c2 op) (c2 op') (c2 op'') ia ib id' if'))):=
 PT.imp (DS (dA O.K O.units op) (dA O.K O.units op') (dA O.K O.units op'') ha hb hd hf (fX hs')) λσ H Q ⟨τ,S,se,k⟩=>by
  simp only[e_,eG,eK,ff,eX,fb,fc,qY,zc,zb,zg,zf,za,ze,qF,qJ,qG,qQ,qM,qx,qC,qK,qB,qN,qD,qz,qP,qT,qE,qA,qS,qL,qH,qO,qI,R.bind_assoc]at k;refine zh se k λda va H1 e1 p1 k1=>zh (se.up p1.same) k1 λdb vb H2 e2 p2 k2=>?_
  have s2:=p1.same.trans p2.same;refine dG (r:=.no) (p1.rb.mono p2.same) p2.rb (tR.bnd k2) λz _ q=>⟨z,rfl,?_⟩
  cases z with
  |true=>
   simp only[if_true,R.bind_assoc]at q;refine zh (se.up s2) q λdd vd H3 e3 p3 k3=>dG (r:=.no) (p2.rb.mono p3.same) p3.rb (tR.bnd k3) λz _ q=>⟨z,rfl,?_⟩
   have s3:=s2.trans p3.same;cases z with
   |true=>
    simp only[if_true,R.bind_assoc]at q;exact zh (se.up s3) q λdf vf H4 e4 p4 k4=>dG (r:=.no) (p3.rb.mono p4.same) p4.rb (tR.bnd k4) λz _ q=>⟨z,rfl,q _ (s3.trans p4.same)⟩
   |false=>exact⟨false,rfl,q _ s3⟩
  |false=>exact⟨false,rfl,q _ s2⟩
theorem uB(ht:PT X d (tT w g c E ta))(ha:PE X a (tE w g c E ia))(hb:PE X b (tE w g c E ib))(h1:esc ia=true)(h2:esc ib=true):PE X (.IfExp d a b pos) (tE w g c E (.ite ta ia ib)):=
 PE.imp (BO ht ha hb) λσ H Q ⟨τ,S,se,k⟩=>by
  simp only[qY,zc,zb,zg,zf,za,ze,qF,qJ,qG,qQ,qM,qx,qC,qK,qB,qN,qD,qz,qP,qT,qE,qA,qS,qL,qH,qO,qI]at k;refine jc se k λz H1 e1 s1 k1=>?_
  cases z with
  |true=>exact⟨τ,S,se.up s1,tR.imp k1 λdd hk v H' p=>hk v H' (p.pass s1 h1 rfl)⟩
  |false=>exact⟨τ,S,se.up s1,tR.imp k1 λdd hk v H' p=>hk v H' (p.pass s1 h2 rfl)⟩
theorem tD:PA X [] (tA w g c E .nil):=PA.imp zX λσ H Q ⟨τ,S,se,k⟩=>k [] H (qf.refl _) .nil λ_=>.nil
theorem DP{es:List Expr}{ies:Es}(ha:PE X a (tE w g c E ia))(hr:PA X es (tA w g c E ies))(hs:isStar a=false):PA X (a::es) (tA w g c E (.cons ia ies)):=
 PA.imp (zv ha hr (qo hs)) λσ H Q ⟨τ,S,se,k⟩=>by
  simp only[zy]at k;refine zh se k λda va H1 e1 p1 k1=>fJ (se.up p1.same) k1 λds vs H2 e2 s2 r2 r2' k2=>k2 _ _ (p1.same.trans s2) (.cons (p1.rb.mono s2) r2) λz=>?_
  simp only[ey,aU]at z;exact .cons ((p1.st z.1).mono (qh s2)) (r2' z.2)
theorem kI:∀{es:Es}{τ:Env}{ds:List D}{l:List Expr}{n:Nat},cEs n c l=some es->zy w es τ=.ok ds->ds.length=l.length
 |_,_,_,l,0,h,_=>by simp[cEs]at h
 |es,τ,ds,[],n+1,h,e=>by
  simp only[cEs,cx]at h;subst h;simp only[zy,R.ok.injEq]at e;subst e;rfl
 |es,τ,ds,x::l,n+1,h,e=>by
  simp only[cEs]at h;cases hs:isStar x with
  |true=>simp[hs]at h
  |false=>
   simp only[hs,a_,if_false,aL,aK]at h;obtain⟨i1,_,r,hr,h⟩:=h;cases h;simp only[zy]at e;cases q:evE w i1 τ with
   |ok z=>
    rw[q]at e;simp only[R.bind_ok]at e;cases q2:zy w r τ with
    |ok zs=>
     rw[q2]at e;cases e;simp[kI hr q2]
    |ex z=>rw[q2]at e;cases e
    |no=>rw[q2]at e;cases e
   |ex z=>rw[q]at e;cases e
   |no=>rw[q]at e;cases e
theorem l7{n:Nat}(h:n<=100000):n<=sizeLine:=bD h (by rw[bt];decide)
theorem uo{es:List Expr}{ies:Es}{k:Nat}(ha:PA X es (tA w g c E ies))(he:ey ies=true)(hl:∀τ ds,zy w ies τ=.ok ds->ds.length<=100000):PE X (.Tuple es k pos) (tE w g c E (.tup ies)):=
 PE.imp (Ak ha) λσ H Q ⟨τ,S,se,k⟩=>by
  simp only[qY,zc,zb,zg,zf,za,ze,qF,qJ,qG,qQ,qM,qx,qC,qK,qB,qN,qD,qz,qP,qT,qE,qA,qS,qL,qH,qO,qI]at k;refine fJ se k λds vs H1 e1 s1 r1 r1' k1=>?_
  have r:=r1' he;exact⟨by rw[<-r.length];exact l7 (hl _ _ e1),λp hp=>k1 _ _ (bz.of (s1.trans (qX hp)) (fQ (se.sub.same s1) hp r) rfl)⟩
theorem Bh{es:List Expr}{ies:Es}(ha:PA X es (tA w g c E ies))(he:ey ies=true)(hl:∀τ ds,zy w ies τ=.ok ds->ds.length<=100000):PE X (.List es pos) (tE w g c E (.lst ies)):=
 PE.imp (DK ha) λσ H Q ⟨τ,S,se,k⟩=>by
  simp only[qY,zc,zb,zg,zf,za,ze,qF,qJ,qG,qQ,qM,qx,qC,qK,qB,qN,qD,qz,qP,qT,qE,qA,qS,qL,qH,qO,qI]at k;refine fJ se k λds vs H1 e1 s1 r1 r1' k1=>?_
  have r:=r1' he;exact⟨by rw[<-r.length];exact l7 (hl _ _ e1),λp hp=>k1 _ _ (bz.new (s1.trans (qX hp)) (eO (se.sub.same s1) hp r) (fw s1 hp r))⟩
theorem yr{b:Expr}(h:isSlice b=false):pN b:=λo i=>by cases b<;>first|rfl|(simp[isSlice]at h)
theorem Br(O:XO w g c E X)(ha:PE X a (tE w g c E ia))(hb:PE X b (tE w g c E ib))(hs:isSlice b=false):PE X (.Subscript a b pos) (tE w g c E (.ix ia ib)):=
 PE.imp (w8 (xc O.K) ha hb (yr hs)) λσ H Q ⟨τ,S,se,k⟩=>by
  simp only[qY,zc,zb,zg,zf,za,ze,qF,qJ,qG,qQ,qM,qx,qC,qK,qB,qN,qD,qz,qP,qT,qE,qA,qS,qL,qH,qO,qI]at k;refine zh se k λda va H1 e1 p1 k1=>zh (se.up p1.same) k1 λdb vb H2 e2 p2 k2=>⟨S,da,db,p1.rb.mono p2.same,p2.rb,?_⟩
  cases q:ixD da db with
  |ok r=>rw[q]at k2;exact λv r=>k2 v H2 (bz.of (p1.same.trans p2.same) r rfl)
  |ex z=>exact wV q
  |no=>rw[q]at k2;exact k2
theorem xE(O:XO w g c E X){lo hi:Option Expr}{il ih:OE}(ha:PE X a (tE w g c E ia))(hl:PO X lo (tOe w g c E il))(hh:PO X hi (tOe w g c E ih)):PE X (.Subscript a (.Slice lo hi none p2) pos) (tE w g c E (.sl ia il ih)):=
 PE.imp (wJ (CJ O.K) ha hl hh) λσ H Q ⟨τ,S,se,k⟩=>by
  simp only[qY,zc,zb,zg,zf,za,ze,qF,qJ,qG,qQ,qM,qx,qC,qK,qB,qN,qD,qz,qP,qT,qE,qA,qS,qL,qH,qO,qI]at k;refine zh se k λda va H1 e1 p1 k1=>pq (se.up p1.same) k1 λl H2 e2 s2 k2=>pq (se.up (p1.same.trans s2)) k2 λh H3 e3 s3 k3=>?_
  have s:=(p1.same.trans s2).trans s3;refine⟨S,da,se.sub.same s,p1.rb.mono (s2.trans s3),?_⟩;cases q:slD da l h with
  |ok r=>rw[q]at k3;exact λv H' s' r=>k3 v H' (bz.of (s.trans s') r rfl)
  |ex z=>exact BN q
  |no=>rw[q]at k3;exact k3
theorem xM:PO X none (tOe w g c E .none):=PO.imp wD λσ H Q ⟨τ,S,se,k⟩=>k H (qf.refl _)
theorem yQ(ha:PE X a (tE w g c E ia)):PO X (some a) (tOe w g c E (.some ia)):=PO.imp (Bn ha) λσ H Q ⟨τ,S,se,k⟩=>by
 simp only[evO]at k;refine zh se k λda va H1 e1 p1 k1=>?_
 cases da with
 |int i=>exact⟨i,p1.rb.int,k1 _ p1.same⟩
 |_=>exact k1.elim
theorem xQ(O:XO w g c E X){x:Str}{fr:Bool}{e:Expr}{es:List Expr}{ies:Es}(h:glob c x=some (.fn fr))(ha:PA X (e::es) (tA w g c E ies))(he:ey ies=true)(hs:∀z∈e::es,isStar z=false):PE X (.Call (.Name x p2) (e::es) [] pos) (tE w g c E (.call x ies)):=by
 obtain⟨f,h1,h2⟩:=O.gm h;refine PE.imp (nj O h2 (O.gl h) (qw h).2.2.1 ha hs) λσ H Q ⟨τ,S,se,k⟩=>?_
 simp only[qY,zc,zb,zg,zf,za,ze,qF,qJ,qG,qQ,qM,qx,qC,qK,qB,qN,qD,qz,qP,qT,qE,qA,qS,qL,qH,qO,qI]at k;refine fJ se k λds vs H1 e1 s1 r1 r1' k1=>⟨S,ds,se.sub.same s1,by rw[bZ];exact r1' he,tR.imp k1 λdd hk v H' s' r f=>hk v H' ⟨s1.trans s',.inl r,λ_=>r,λz=>?_⟩⟩
 simp only[fresh,(qw h).2.1,beq_iff_eq,cx,GK.fn.injEq]at z;exact(f z).low s1
theorem vB{H:Hp}{S S':Sh}(hL:∀a,S'.h a=false->S.h a=true->∃vs,H a=some (.lst vs)){K:aB}{a:Addr}{xs:List V}(q:SqT K (hid H S') a xs):SqT K (hid H S) a xs:=by
 have key:∀o:HO,(∀vs,o≠.lst vs)->hid H S' a=some o->hid H S a=some o:=λo ho z=>by
  obtain⟨z1,z2⟩:=bG.mp z;refine bG.mpr ⟨?_,z2⟩;cases y:S.h a with
  |false=>rfl
  |true=>
   obtain⟨vs,e⟩:=hL a z1 y;rw[z2]at e;cases e;exact absurd rfl (ho vs)
 rcases q with (q|⟨o,q⟩)|q
 ·exact .inl (.inl (key _ (by intro _ z;cases z) q))
 ·exact .inl (.inr ⟨o,key _ (by intro _ z;cases z) q⟩)
 ·exact .inr q
theorem Cb{H:Hp}{S S':Sh}(hL:∀a,S'.h a=false->S.h a=true->∃vs,H a=some (.lst vs)){d:D}{v:V}(hn:d.noL=true)(h:Rep g (hid H S') d v):Rep g (hid H S) d v:=
 h.rec (motive_1:=λd v _=>d.noL=true->Rep g (hid H S) d v) (motive_2:=λd v _=>kh d=true->qk g (hid H S) d v) (λ_=>.non) (λb _=>.bl b) (λb _=>.int b) (λb _=>.str b) (λq _ r p=>.tup (vB hL q) (r p)) (λ_ _ _ p=>nomatch p) (λ_ p=>nomatch p) (λ_ _ p=>nomatch p) (λ_ p=>nomatch p) (λ_=>.nil) (λ_ _ a b p=>.cons (a (jy p).1) (b (jy p).2)) hn
noncomputable def g8(S:Sh)(L:List Addr):Sh:=⟨λ_=>false,λb=>S.h b && !L.contains b,S.z,S.y⟩
theorem rR{H:Hp}{S:Sh}{L:List Addr}:qf (hid H S) (hid H (g8 S L)):=λb o h=>by
 obtain⟨h1,h2⟩:=bG.mp h;exact bG.mpr ⟨by show (S.h b&&_)=false;rw[h1];rfl,h2⟩
theorem AO{H:Hp}{S:Sh}{L:List Addr}{a:Addr}:qf (hid H (g8 S L)) (hid H (g8 S (a::L))):=λb o h=>by
 obtain⟨h1,h2⟩:=bG.mp h;refine bG.mpr ⟨?_,h2⟩;have h1:(S.h b && !L.contains b)=false:=h1;show (S.h b && !(a::L).contains b)=false;cases q:S.h b with
 |false=>rfl
 |true=>
  rw[q]at h1;have h1:L.contains b=true:=by simpa using h1
  simp only[List.contains_cons,h1,Bool.or_true];rfl
theorem seen{H:Hp}{S:Sh}:∀{ds:List D}{vs:List V},fA g H S ds vs->∃L:List Addr,(∀a∈L,∃us,H a=some (.lst us))/\qk g (hid H (g8 S L)) ds vs
 |_,_,.nil=>⟨[],by simp,.nil⟩
 |_,_,.cons r t=>by
  obtain⟨L,h1,h2⟩:=seen t;rcases r with r|⟨a,us,ds,z1,rfl,rfl,z4,z5⟩
  ·exact⟨L,h1,.cons (r.mono rR) h2⟩
  ·refine⟨a::L,λb hb=>?_,.cons (.lst (SqL.of (bG.mpr ⟨?_,z4⟩)) (z5.mono rR)) (h2.mono AO)⟩
   ·rcases aF.mp hb with rfl|hb
    ·exact⟨us,z4⟩
    ·exact h1 b hb
   ·show (S.h a && !(a::L).contains a)=false;simp
theorem uD(O:XO w g c E X){x:Str}{fr:Bool}{e:Expr}{es:List Expr}{ies:Es}(h:glob c x=some (.fn fr))(ha:PA X (e::es) (tA w g c E ies))(hs:∀z∈e::es,isStar z=false):PE X (.Call (.Name x p2) (e::es) [] pos) (tE w g c E (.callo x ies)):=by
 obtain⟨f,h1,h2⟩:=O.gm h;refine PE.imp (nj O h2 (O.gl h) (qw h).2.2.1 ha hs) λσ H Q ⟨τ,S,se,k⟩=>?_
 simp only[qY,zc,zb,zg,zf,za,ze,qF,qJ,qG,qQ,qM,qx,qC,qK,qB,qN,qD,qz,qP,qT,qE,qA,qS,qL,qH,qO,qI]at k;refine fJ se k λds vs H1 e1 s1 r1 r1' k1=>?_
 obtain⟨L,hL,rr⟩:=seen r1;refine⟨g8 S L,ds,λa ha=>?_,by rw[bZ];exact rr,?_⟩
 ·refine se.sub.same s1 a ?_;rcases ha with ha|ha
  ·have ha:(S.h a && !L.contains a)=true:=ha;exact .inl (aU _ _▸ha).1
  ·cases ha
 ·cases q:w.call x ds with
  |ok d=>
   rw[q]at k1;simp only[R.bind_ok]at k1;split at k1
   ·rename_i hd
    intro v H' s' r _;refine k1 v H' (bz.of (s1.trans s') (Cb (λa z1 z2=>?_) hd r) rfl);have z1:(S.h a && !L.contains a)=false:=z1;rw[z2]at z1;obtain⟨us,e⟩:=hL a (by simpa using z1);exact⟨us,s' _ _ e⟩
   ·exact k1.elim
  |ex z=>rw[q]at k1;exact λH' C sm hc=>k1 H' C sm hc
  |no=>rw[q]at k1;exact k1.elim
theorem rz{b:B1}{S:Sh}{H0 H:Hp}{ds:List D}{vs:List V}{Q:VK}{ies:Es}(s:qf H0 H)(hS:Sub S H)(r:fA g H S ds vs)(k:tR g E H (b1 b ds) λd=>∀v H',bz g c (.bi b ies) S H0 d v H'->Q v H'):rB1 g b vs H Q:=by
 refine⟨S,ds,hS,r,?_⟩;cases q:b1 b ds with
 |ok d=>
  rw[q]at k;exact λv H' s' r' f=>k v H' ⟨s.trans s',.inl r',λ_=>r',λz=>by
   have:b=.list\/b=.sorted:=by cases b<;>simp[fresh]at z ⊢
   exact(f this).low s⟩
 |ex z=>exact wN q
 |no=>rw[q]at k;exact k
theorem yd(O:XO w g c E X){x:Str}{b:B1}{e:Expr}{es:List Expr}{ies:Es}(h:glob c x=some (.bi b))(hc:X.calm=true\/b=.len\/b=.abs)(ha:PA X (e::es) (tA w g c E ies))(hs:∀z∈e::es,isStar z=false):PE X (.Call (.Name x p2) (e::es) [] pos) (tE w g c E (.bi b ies)):=by
 obtain⟨h1,h2,id,h3⟩:=O.gm h;have hb:=jk b;rw[<-h2,h3]at hb;have hcall:=sv (X:=X) (g:=g) O.K O.units b (by rcases hc with z|z|z;exact .inl z;exact .inr (.inl z);exact .inr (.inr (.inl z)));rw[h3]at hcall;refine PE.imp (kU hcall (O.gl h) h1 hb ha (qw h).2.2.2 (qw h).2.2.1 (qo (hs e aO)) (jv λz hz=>hs z (aM _ hz))) λσ H Q ⟨τ,S,se,k⟩=>?_
 simp only[qY,zc,zb,zg,zf,za,ze,qF,qJ,qG,qQ,qM,qx,qC,qK,qB,qN,qD,qz,qP,qT,qE,qA,qS,qL,qH,qO,qI]at k;exact fJ se k λds vs H1 e1 s1 r1 r1' k1=>rz (ies:=ies) s1 (se.sub.same s1) r1 k1
theorem qk.lens{H:Hp}:∀{ds:List D}{vs:List V}{ns:List Int},qk g H ds vs->lens? ds=some ns->ds.length=ns.length/\∃ps:List Addr,vs=ps.map V.ref/\ns.length=ps.length/\∀(i:Nat) p n,ps[i]? = some p->ns[i]? = some n->∃ys,(SqL g.K H p ys\/SqT g.K H p ys)/\(ys.length:Int)=n
 | [],_,ns,.nil,e=>by simp[lens?]at e;subst e;exact⟨rfl,[],rfl,rfl,λi a p h=>by simp at h⟩
 |x::r,_,ns,.cons h t,e=>by
  simp only[lens?,bB,aK]at e;obtain⟨xs,e0,ms,e1,rfl⟩:=e;obtain⟨h0,ps,h2,h3,h4⟩:=qk.lens t e1
  rename_i v0 vs0
  have key:∃p ys,v0=V.ref p/\(SqL g.K H p ys\/SqT g.K H p ys)/\(ys.length:Int)=xs.length:=by
   cases x with
   |tup zs=>
    cases e0;cases h with
    |tup q r=>exact⟨_,_,rfl,.inr q,by rw[r.length]⟩
   |lst zs=>
    cases e0;cases h with
    |lst q r=>exact⟨_,_,rfl,.inl q,by rw[r.length]⟩
   |_=>cases e0
  obtain⟨p,ys,rfl,k1,k2⟩:=key;refine⟨by simp[h0],p::ps,by rw[h2];rfl,by simp[h3],λi b n hb hn=>?_⟩;cases i with
  |zero=>simp at hb hn;subst hb hn;exact⟨ys,k1,k2⟩
  |succ i=>exact h4 i b n (by simpa using hb) (by simpa using hn)
theorem o8(n:Int):∀(ds:List D) (ns:List Int) (i:Nat),ds.length=ns.length->ns[i]? = some n->(∀(j:Nat) m,j<i->ns[j]? = some m->m≠n)->∃d,ds[i]? = some d/\pickK n ds ns=.ok d
 | [],[],_,_,h,_=>by simp at h
 |d::ds,m::ms,0,_,h,_=>by
  simp at h;exact⟨d,rfl,by rw[pickK,if_pos h]⟩
 |d::ds,m::ms,i+1,e,h,k=>by
  obtain⟨d',h1,h2⟩:=o8 n ds ms i (by simpa using e) (by simpa using h) λj m' hj hm=>k (j+1) m' (by lia) (by simpa using hm)
  exact⟨d',by simpa using h1,by rw[pickK,if_neg (k 0 m (by lia) rfl)];exact h2⟩
theorem ud{mx:Bool}{ds:List D}{ns:List Int}{i:Nat}{d:D}(hl:ds.length=ns.length)(hi:i<ns.length)(h:k_ mx ns i)(hm:fo mx (.lst ds)=.ok d)(he:lens? ds=some ns):ds[i]? = some d:=by
 simp only[fo,cY,cm]at hm;rw[he]at hm
 match ns,hi,h,hl,he,hm with
 |a::r,hi,h,hl,he,hm=>
  have hm:pickK (dq mx a r) ds (a::r)=.ok d:=hm;have e:(a::r)[i]? = some (a::r)[i]:=by simp[hi]
  have hb:(a::r)[i]=dq mx a r:=rg mx a r _ ⟨cK _,λm hmm=>by
   obtain⟨j,hj,rfl⟩:=List.getElem_of_mem hmm;have:=h _ e j (a::r)[j] (List.getElem?_eq_getElem hj);cases mx<;>exact this.1⟩
  rw[hb]at e;obtain⟨d',h1,h2⟩:=o8 _ ds (a::r) i hl e λj m hj hmj z=>by
   have:=h _ e j m hmj;cases mx
   ·exact absurd (this.2 hj) (by rw[z];exact Int.lt_irrefl _)
   ·exact absurd (this.2 hj) (by rw[z];exact Int.lt_irrefl _)
  rw[h2]at hm;cases hm;exact h1
theorem Cz{mx:Bool}{x:D}{z:Str}:fo mx x≠.ex z:=by
 have pk:∀n ds ns,pickK n ds ns≠.ex z:=by
  intro n ds
  induction ds with
  |nil=>intro ns;exact cP
  |cons d ds ih=>
   intro ns;cases ns with
   |nil=>exact cP
   |cons m ms=>
    rw[pickK];split
    ·exact dF
    ·exact ih ms
 refine gU λxs=>fj λns=>?_
 split
 ·exact cP
 ·exact pk _ _ _
theorem xi(O:XO w g c E X){x:Str}{n:String}{b:B1}{e:Expr}{es:List Expr}{ies:Es}(h:glob c x=some (.ty n (some b)))(ha:PA X (e::es) (tA w g c E ies))(hs:∀z∈e::es,isStar z=false):PE X (.Call (.Name x p2) (e::es) [] pos) (tE w g c E (.bi b ies)):=by
 obtain⟨h1,h2,_,h3⟩:=O.gm h;obtain⟨_,h4⟩:=h3 b rfl;have hcall:=sv (X:=X) (g:=g) O.K O.units b (by cases b<;>simp[b1V]at h4 ⊢);rw[h4]at hcall;refine PE.imp (gF hcall (O.gl h) h1 h2 ha (qw h).2.2.2 (qw h).2.2.1 (qo (hs e aO)) (jv λz hz=>hs z (aM _ hz))) λσ H Q ⟨τ,S,se,k⟩=>?_
 simp only[qY,zc,zb,zg,zf,za,ze,qF,qJ,qG,qQ,qM,qx,qC,qK,qB,qN,qD,qz,qP,qT,qE,qA,qS,qL,qH,qO,qI]at k;exact fJ se k λds vs H1 e1 s1 r1 r1' k1=>rz (ies:=ies) s1 (se.sub.same s1) r1 k1
end
section
variable{w:W}{g:Gc}{c:Cc}{E:XK}{X:Cx}{a b d f:Expr}{ia ib id' if':EV.E}{pos p2:Pos}{ta tb:T}
noncomputable def clV(g:Gc)(vc:V):Cl->Prop
 | .ty n=>vc=.ty n/\(n∈["int","bool","str","list","tuple"]\/n = "ValueError")
 | .ex x=>∃D,g.clA x=some D/\vc=.ref D
theorem yi{x:D}{cl:Cl}:(∃t n,tyD x=some t/\cl=.ty n/\n≠"ValueError"/\cF w x cl=.ok (.bl (gj t n)))\/cF w x cl=.no:=by
 unfold cF;cases e:tyD x with
 |some t=>
  cases cl with
  |ty n=>
   by_cases hn:n = "ValueError"
   ·exact .inr (by simp[hn])
   ·exact .inl ⟨t,n,rfl,rfl,hn,by simp[hn]⟩
  |ex y=>exact .inr rfl
 |none=>exact .inr (by cases cl<;>rfl)
theorem vQ(O:XO w g c E X){x:Str}{k:Expr}{cl:Cl}(h:glob c x=some .isi)(ha:PE X a (tE w g c E ia))(hk:iQ c k=some cl)(hs:isStar a=false):PE X (.Call (.Name x p2) [a,k] [] pos) (tE w g c E (.isi ia cl)):=by
 obtain⟨h1,rfl⟩:=O.gm h;obtain⟨y,q,rfl⟩:∃y q,k=.Name y q:=by
  cases k<;>first|exact⟨_,_,rfl⟩|(simp[iQ]at hk)
 obtain⟨vc,hv,hc⟩:∃vc,PE X (.Name y q) (tC vc)/\clV g vc cl:=by
  simp only[iQ]at hk;split at hk
  ·rename_i n b e
   cases hk;obtain⟨z1,z2,z3,_⟩:=O.gm e;exact⟨.ty n,Ds (O.gl e) z1 z2 rfl (qw e).2.2.2 (qw e).2.2.1,rfl,z3⟩
  ·rename_i e
   cases hk;obtain⟨C,z1,z2⟩:=O.gm e;exact⟨.ref C,kM (O.gl e) z1 rfl (qw e).2.2.1,C,z2,rfl⟩
  ·rename_i e
   cases hk;obtain⟨C,z1,z2⟩:=O.gm e;exact⟨.ref C,kM (O.gl e) z1 rfl (qw e).2.2.1,C,z2,rfl⟩
  ·cases hk
 refine PE.imp (kU (DN O.K) (O.gl h) h1 (by decide +kernel) (zv ha (zv hv zX) (qo hs)) (by decide) (by decide) (qo hs) rfl) λσ H Q ⟨τ,S,se,k⟩=>?_
 simp only[qY,zc,zb,zg,zf,za,ze,qF,qJ,qG,qQ,qM,qx,qC,qK,qB,qN,qD,qz,qP,qT,qE,qA,qS,qL,qH,qO,qI]at k;refine zh se k λda va H1 e1 p1 k1=>?_
 rcases yi (w:=w) (x:=da) (cl:=cl)with ⟨t,n,z1,rfl,z2,z3⟩|z3
 ·rw[z3]at k1;obtain⟨rfl,hc|hc⟩:=hc
  ·exact⟨S,da,va,n,t,rfl,p1.rb,z1,hc,k1 _ _ (bz.of p1.same (.bl _) rfl)⟩
  ·exact absurd hc z2
 ·rw[z3]at k1;exact k1.elim
theorem tQ(O:XO w g c E X)(ha:PE X a (tE w g c E ia))(he:∀whole,isTrue a X.env whole=(do let v <-whole;standAt a.pos;holding [v] (truthy v))):PT X a (tT w g c E (.val ia)):=
 PT.imp (Aq ha he) λσ H Q ⟨τ,S,se,k⟩=>by
  simp only[e_,eG,eK,ff,eX,fb,fc]at k;refine zh se k λda va H1 e1 p1 k1=>?_
  cases q:truth da with
  |ok z=>rw[q]at k1;exact⟨z,u9 O.K p1.rb q,k1 _ p1.same⟩
  |ex z=>exact absurd q DF
  |no=>rw[q]at k1;exact k1.elim
theorem yg(ha:PT X a (tT w g c E ta)):PT X (.UnaryOp .Not a pos) (tT w g c E (.not ta)):=
 PT.imp (yf ha) λσ H Q ⟨τ,S,se,k⟩=>by
  simp only[e_,eG,eK,ff,eX,fb,fc]at k;exact jc se k λz H1 e1 s1 k1=>k1 _ s1
theorem vg{rest:List Expr}(ha:PT X a (tT w g c E ta))(hb:PW X (.BoolOp .And (b::rest) pos) (tT w g c E tb)):PW X (.BoolOp .And (a::b::rest) pos) (tT w g c E (.and ta tb)):=
 PW.imp (DO ha hb) λσ H Q ⟨τ,S,se,k⟩=>by
  simp only[e_,eG,eK,ff,eX,fb,fc]at k;refine jc se k λz H1 e1 s1 k1=>?_
  cases z with
  |true=>exact⟨τ,S,se.up s1,tR.imp k1 λb hk H' s=>hk H' (s1.trans s)⟩
  |false=>exact k1 _ s1
theorem uQ{rest:List Expr}(ha:PT X a (tT w g c E ta))(hb:PW X (.BoolOp .Or (b::rest) pos) (tT w g c E tb)):PW X (.BoolOp .Or (a::b::rest) pos) (tT w g c E (.or ta tb)):=
 PW.imp (ya ha hb) λσ H Q ⟨τ,S,se,k⟩=>by
  simp only[e_,eG,eK,ff,eX,fb,fc]at k;refine jc se k λz H1 e1 s1 k1=>?_
  cases z with
  |false=>exact⟨τ,S,se.up s1,tR.imp k1 λb hk H' s=>hk H' (s1.trans s)⟩
  |true=>exact k1 _ s1
theorem PI.or{tg e:Expr}{t t':TI}(h:PI X tg e t)(h':PI X tg e t'):PI X tg e (λσ H R=>t σ H R\/t' σ H R):=λpins s σ H R I q=>by
 rcases q with q|q
 ·exact h pins s σ H R I q
 ·exact h' pins s σ H R I q
theorem lV{K:aB}{a:Addr}{vs:List V}{ds:List D}{H:Hp}{S:Sh}(hl:SqL K H a vs)(r:qk g (hid H S) ds vs):Goes g (Itl K a) ds H S:=by
 refine⟨λi hi=>⟨vs,hl,by rw[<-r.length];exact hi⟩,λi d hd=>?_⟩;obtain⟨v,h1,h2⟩:=r.get hd;refine⟨⟨vs,v,hl,h1⟩,λx H' ⟨e,hx⟩=>?_⟩;subst e;have:=hx vs hl;rw[h1]at this;cases this;exact⟨qf.refl _,h2⟩
theorem o4{K:aB}{a:Addr}{vs:List V}{ds:List D}{H:Hp}{S:Sh}(hl:SqT K H a vs)(r:qk g (hid H S) ds vs):Goes g (Itt K a) ds H S:=by
 refine⟨λi hi=>⟨vs,hl,by rw[<-r.length];exact hi⟩,λi d hd=>?_⟩;obtain⟨v,h1,h2⟩:=r.get hd;refine⟨⟨vs,v,hl,h1⟩,λx H' ⟨e,hx⟩=>?_⟩;subst e;have:=hx vs hl;rw[h1]at this;cases this;exact⟨qf.refl _,h2⟩
theorem mz:∀{xs:List D}{k i:Nat}{d:D},(dC k xs)[i]? = some d->∃x,xs[i]? = some x/\d=.tup [.int ((k+i:Nat):Int),x]
 | [],_,_,_,h=>by simp[dC]at h
 |x::r,k,0,d,h=>by simp[dC]at h;exact⟨x,rfl,by rw[<-h];rfl⟩
 |x::r,k,i+1,d,h=>by
  simp only[dC,List.getElem?_cons_succ]at h;obtain⟨y,h1,h2⟩:=mz h;exact⟨y,by simpa using h1,by rw[h2,show k+1+i=k+(i+1)by lia]⟩
theorem pW:∀(xs:List D) (k:Nat),(dC k xs).length=xs.length
 | [],_=>rfl
 |x::r,k=>by simp[dC,pW r]
theorem mi{K:aB}{a:Addr}{vs:List V}{ds:List D}{H:Hp}{S:Sh}(hl:SqL K H a vs)(r:qk g (hid H S) ds vs)(hS:Sub S H):Goes g (Ite K a) (dC 0 ds) H S:=by
 refine⟨λi hi=>⟨vs,hl,by rw[<-r.length,<-pW ds 0];exact hi⟩,λi d hd=>?_⟩;obtain⟨y,h0,rfl⟩:=mz hd;obtain⟨v,h1,h2⟩:=r.get h0;refine⟨⟨vs,v,hl,h1⟩,λx H' ⟨p,z,hp,e1,e2,hx⟩=>?_⟩;subst e1 e2;have:=hx vs hl;rw[h1]at this;cases this;refine⟨qX hp,?_⟩;rw[Nat.zero_add];exact fQ hS hp (.cons (.int _) (.cons h2 .nil))
theorem rL:∀{xs ys:List D}{i:Nat}{d:D},(ck xs ys)[i]? = some d->∃x y,xs[i]? = some x/\ys[i]? = some y/\d=.tup [x,y]
 | [],_,_,_,h=>by simp[ck]at h
 |_::_,[],_,_,h=>by simp[ck]at h
 |x::r,y::t,0,d,h=>by simp[ck]at h;exact⟨x,y,rfl,rfl,h.symm⟩
 |x::r,y::t,i+1,d,h=>by
  simp only[ck,List.getElem?_cons_succ]at h;obtain⟨x',y',h1,h2,h3⟩:=rL h;exact⟨x',y',by simpa using h1,by simpa using h2,h3⟩
theorem nJ:∀(xs ys:List D),(ck xs ys).length=min xs.length ys.length
 | [],_=>by simp[ck]
 |_::_,[]=>by simp[ck]
 |x::r,y::t=>by simp[ck,nJ r t]
theorem jt{K:aB}{tup:Bool}{a b:Addr}{vs us:List V}{ds es:List D}{H:Hp}{S:Sh}(hl:Sq2 K tup H a vs)(hl':Sq2 K tup H b us)(r:qk g (hid H S) ds vs)(r':qk g (hid H S) es us)(hn:ds.length=es.length)(hS:Sub S H):Goes g (Itz K tup a b) (ck ds es) H S:=by
 refine⟨λi hi=>⟨vs,us,hl,hl',by rw[nJ]at hi;rw[<-r.length];lia⟩,λi d hd=>?_⟩;obtain⟨x,y,h0,h0',rfl⟩:=rL hd;obtain⟨v,h1,h2⟩:=r.get h0;obtain⟨u,h3,h4⟩:=r'.get h0';refine⟨⟨vs,us,v,u,hl,hl',h1,h3⟩,λx H' ⟨p,z,z',hp,e1,e2,hx,hx'⟩=>?_⟩;subst e1 e2;have q:=hx vs hl;rw[h1]at q;cases q;have q:=hx' us hl';rw[h3]at q;cases q;exact⟨qX hp,fQ hS hp (.cons h2 (.cons h4 .nil))⟩
theorem i7{lo:Int}{n:Nat}{H:Hp}{S:Sh}:Goes g (Itr lo n) (zt lo n) H S:=by
 refine⟨λi hi=>by show n<=i;simpa[zt]using hi,λi d hd=>?_⟩;unfold zt at hd;rw[List.getElem?_map]at hd;cases q:(bu n)[i]? with
 |none=>rw[q]at hd;cases hd
 |some j=>
  rw[q]at hd;cases hd;have hi:=(List.getElem?_eq_some_iff.mp q)
  obtain⟨h1,h2⟩:=hi;simp at h1 h2;subst h2;exact⟨h1,λx H' ⟨e1,e2⟩=>by subst e1 e2;exact⟨qf.refl _,.int _⟩⟩
theorem wc(O:XO w g c E X){tg:Expr}(ha:PE X a (tE w g c E ia)):PI X tg a (tIt w g c E (.seq ia)):=
 PI.imp (PI.or (Cy ha) (t4 ha)) λσ H R ⟨τ,S,se,k⟩=>by
  have k0:=k;simp only[evI]at k;cases q:evE w ia τ with
  |ex z=>exact .inl ⟨τ,S,se,by rw[q]at k ⊢;exact k⟩
  |no=>rw[q]at k;exact k.elim
  |ok dd=>
   cases dd with
   |lst ds=>
    refine .inl (zh se k λda va H1 e1 p1 k1=>?_);rw[q]at e1;cases e1;obtain⟨ad,vs,rfl,h1,r1⟩:=p1.rb.lst;rw[<-O.K]at h1;refine⟨ad,rfl,⟨vs,h1⟩,k1 _ H1 p1.same (λH2 S2 s1 s2 _=>lV (s1.seq h1) (r1.mono s2)) λho H2 S2 s2 _=>?_⟩;have he:esc ia=true:=by
     cases ia<;>first|rfl|(simp[owned]at ho)
    cases p1.st he with
    |lst h2 r2=>exact lV (by rw[O.K];exact(s2.trans zw).seq h2) (r2.mono s2)
   |tup ds=>
    refine .inr (zh se k λda va H1 e1 p1 k1=>?_);rw[q]at e1;cases e1;cases p1.rb.strong (by intro _ z;cases z)with
    |tup h2 r2=>
     refine⟨_,rfl,⟨_,by rw[O.K];exact zu zw h2⟩,k1 _ H1 p1.same (λH2 S2 s1 s2 _=>o4 (by rw[O.K];exact zu (s2.trans zw) h2) (r2.mono s2)) λho H2 S2 s2 _=>o4 (by rw[O.K];exact zu (s2.trans zw) h2) (r2.mono s2)⟩
   |_=>rw[q]at k;exact k.elim
theorem fm{j:Int}(h:qu j=true):-1000000<=j/\j<=1000000:=by simpa[qu]using h
theorem Ac(O:XO w g c E X){x:Str}{tg:Expr}(h:glob c x=some .rng)(ha:PE X a (tE w g c E ia))(hs:isStar a=false):PI X tg (.Call (.Name x p2) [a] [] pos) (tIt w g c E (.rng ia)):=by
 obtain⟨h1,rfl⟩:=O.gm h;refine PI.imp (CF (O.gl h) h1 (zv ha zX (qo hs)) (qo hs)) λσ H R ⟨τ,S,se,k⟩=>?_
 simp only[evI]at k;refine zh se k λda va H1 e1 p1 k1=>?_
 cases da with
 |int j=>
  simp only at k1;cases q:qu j with
  |true=>
   rw[q,if_pos rfl]at k1;obtain⟨z1,z2⟩:=fm q;exact⟨j,by rw[p1.rb.int],by lia,by lia,k1 _ H1 p1.same (λ_ _ _ _ _=>i7) λ_ _ _ _ _=>i7⟩
  |false=>rw[q]at k1;exact k1.elim
 |_=>exact k1.elim
theorem BX(O:XO w g c E X){x:Str}{tg:Expr}(h:glob c x=some .rng)(ha:PE X a (tE w g c E ia))(hb:PE X b (tE w g c E ib))(hs:isStar a=false)(hs':isStar b=false):PI X tg (.Call (.Name x p2) [a,b] [] pos) (tIt w g c E (.rng2 ia ib)):=by
 obtain⟨h1,rfl⟩:=O.gm h;refine PI.imp (Aw (O.gl h) h1 (zv ha (zv hb zX (qo hs')) (qo hs)) (by rw[qo hs,qo hs'];rfl) (qo hs')) λσ H R ⟨τ,S,se,k⟩=>?_
 simp only[evI]at k;refine zh se k λda va H1 e1 p1 k1=>zh (se.up p1.same) k1 λdb vb H2 e2 p2 k2=>?_
 cases da with
 |int i=>
  cases db with
  |int j=>
   simp only at k2;cases q:qu i&&qu j with
   |true=>
    rw[q,if_pos rfl]at k2;simp only[aU]at q;obtain⟨z1,z2⟩:=fm q.1;obtain⟨z3,z4⟩:=fm q.2;exact⟨i,j,by rw[p1.rb.int,p2.rb.int],⟨by lia,by lia,by lia,by lia⟩,k2 _ H2 (p1.same.trans p2.same) (λ_ _ _ _ _=>i7) λ_ _ _ _ _=>i7⟩
   |false=>rw[q]at k2;exact k2.elim
  |_=>exact k2.elim
 |_=>exact k2.elim
theorem Dp(O:XO w g c E X){x:Str}{es:List Expr}{ek:Nat}{epos:Pos}(h:glob c x=some .enum)(ha:PE X a (tE w g c E ia))(hs:isStar a=false):PI X (.Tuple es ek epos) (.Call (.Name x p2) [a] [] pos) (tIt w g c E (.enum ia)):=by
 obtain⟨h1,rfl⟩:=O.gm h;refine PI.imp (xm (O.gl h) h1 (by decide +kernel) (zv ha zX (qo hs)) (qo hs)) λσ H R ⟨τ,S,se,k⟩=>?_
 simp only[evI]at k;refine zh se k λda va H1 e1 p1 k1=>?_
 cases da with
 |lst ds=>
  obtain⟨ad,vs,rfl,h1,r1⟩:=p1.rb.lst;rw[<-O.K]at h1;refine⟨ad,rfl,⟨vs,h1⟩,k1 _ H1 p1.same (λH2 S2 s1 s2 s3=>mi (s1.seq h1) (r1.mono s2) s3) λho H2 S2 s2 s3=>?_⟩;have he:esc ia=true:=by
   cases ia<;>first|rfl|(simp[owned]at ho)
  cases p1.st he with
  |lst h2 r2=>exact mi (by rw[O.K];exact(s2.trans zw).seq h2) (r2.mono s2) s3
 |_=>exact k1.elim
theorem Ck(O:XO w g c E X){x:Str}{es:List Expr}{ek:Nat}{epos:Pos}(h:glob c x=some .zip)(ha:PE X a (tE w g c E ia))(hb:PE X b (tE w g c E ib))(hs:isStar a=false)(hs':isStar b=false):PI X (.Tuple es ek epos) (.Call (.Name x p2) [a,b] [] pos) (tIt w g c E (.zip ia ib)):=by
 obtain⟨h1,rfl⟩:=O.gm h;refine PI.imp (Ad (O.gl h) h1 (by decide +kernel) (zv ha (zv hb zX (qo hs')) (qo hs)) (by rw[qo hs,qo hs'];rfl) (qo hs')) λσ H R ⟨τ,S,se,k⟩=>?_
 simp only[evI]at k;refine zh se k λda va H1 e1 p1 k1=>zh (se.up p1.same) k1 λdb vb H2 e2 p2 k2=>?_
 have hown:∀{i1 i2:EV.E},owned (.zip i1 i2)=false->esc i1=true/\esc i2=true:=λ{i1 i2} z=>by
  have a:∀{i:EV.E},esc i=false->∃k,i=.own k:=λ{i} h=>by cases i<;>first|exact⟨_,rfl⟩|cases h
  cases e1:esc i1 with
  |false=>obtain⟨k,rfl⟩:=a e1;cases z
  |true=>
   cases e2:esc i2 with
   |false=>obtain⟨k,rfl⟩:=a e2;cases i1<;>cases z
   |true=>exact⟨rfl,rfl⟩
 have s12:=p1.same.trans p2.same;cases da with
 |lst ds=>
  cases db with
  |lst es=>
   simp only at k2;by_cases hn:ds.length=es.length
   ·rw[if_pos hn]at k2;obtain⟨ad,vs,rfl,h1,r1⟩:=(p1.rb.mono p2.same).lst;obtain⟨bd,us,rfl,h2,r2⟩:=p2.rb.lst;rw[<-O.K]at h1 h2;refine⟨false,ad,bd,rfl,⟨vs,h1⟩,⟨us,h2⟩,k2 _ H2 s12 (λH3 S3 s1 s2 s3=>jt (tup:=false) (s1.seq h1) (s1.seq h2) (r1.mono s2) (r2.mono s2) hn s3) λho H3 S3 s2 s3=>?_⟩;obtain⟨o1,o2⟩:=hown ho;cases (p1.st o1).mono (qh p2.same)with
    |lst h3 r3=>
     cases p2.st o2 with
     |lst h4 r4=>exact jt (tup:=false) (by rw[O.K];exact(s2.trans zw).seq h3) (by rw[O.K];exact(s2.trans zw).seq h4) (r3.mono s2) (r4.mono s2) hn s3
   ·rw[if_neg hn]at k2;exact k2.elim
  |_=>exact k2.elim
 |tup ds=>
  cases db with
  |tup es=>
   simp only at k2;by_cases hn:ds.length=es.length
   ·rw[if_pos hn]at k2;cases (p1.rb.mono p2.same).strong (by intro _ z;cases z)with
    |tup h3 r3=>
     cases p2.rb.strong (by intro _ z;cases z)with
     |tup h4 r4=>
      refine⟨true,_,_,rfl,⟨_,by rw[O.K];exact zu zw h3⟩,⟨_,by rw[O.K];exact zu zw h4⟩,k2 _ H2 s12 (λH3 S3 s1 s2 s3=>?_) λho H3 S3 s2 s3=>?_⟩
      ·exact jt (tup:=true) (by rw[O.K];exact zu (s2.trans zw) h3) (by rw[O.K];exact zu (s2.trans zw) h4) (r3.mono s2) (r4.mono s2) hn s3
      ·exact jt (tup:=true) (by rw[O.K];exact zu (s2.trans zw) h3) (by rw[O.K];exact zu (s2.trans zw) h4) (r3.mono s2) (r4.mono s2) hn s3
   ·rw[if_neg hn]at k2;exact k2.elim
  |_=>exact k2.elim
 |_=>exact k2.elim
end
noncomputable def gM:List Nat->TGs
 | []=>nW
 |i::is=>mv (eZ i) (gM is)
noncomputable def gT(K:aB):Tg->TG
 | .nm i=>eZ i
 | .tp is=>lW K is.length (gM is)
section
variable{w:W}{g:Gc}{c:Cc}{E:XK}{X:Cx}
theorem fF{x:Str}{i:Nat}(h:dJ c x=some i):loc c x=some i/\(c.nm.lookup x=some .local\/(c.nm.lookup x=some .cell/\(c.fnc=true\/c.oc.contains x=true))):=by
 unfold dJ at h;split at h
 ·rename_i q;exact⟨h,.inl q⟩
 ·rename_i q
  split at h
  ·rename_i z;exact⟨h,.inr ⟨q,by simpa using z⟩⟩
  ·cases h
 ·cases h
theorem nD(O:XO w g c E X){x:Str}{i:Nat}{pos:Pos}(h:dJ c x=some i):PG X (.Name x pos) (eZ i):=by
 obtain⟨h1,h2⟩:=fF h;obtain⟨h3,_⟩:=eQ h1;refine Az (by rw[O.N];exact O.nd) (by rw[O.N];exact h3) (by unfold L2.Loc;rw[O.nm];rcases h2 with z|z;exact .inl z;exact .inr z.1) ?_;rcases h2 with z|z
 ·exact .inr (by rw[O.nm];exact z)
 ·exact .inl (O.fn x z.2)
theorem rB:∀{es:List Expr}{xs:List Str},gy es=some xs->∃ps:List Pos,es=(xs.zip ps).map (λp=>Expr.Name p.1 p.2)/\ps.length=xs.length
 | [],xs,h=>by simp[gy]at h;subst h;exact⟨[],rfl,rfl⟩
 |e::es,xs,h=>by
  cases e with
  |Name y p=>
   simp only[gy,bB]at h;obtain⟨ys,h1,rfl⟩:=h;obtain⟨ps,h2,h3⟩:=rB h1;exact⟨p::ps,by rw[h2];rfl,by simp[h3]⟩
  |_=>simp[gy]at h
theorem mI(O:XO w g c E X):∀{xs:List Str}{ps:List Pos}{is:List Nat},ps.length=xs.length->xs.mapM (dJ c)=some is ->
  PGs X ((xs.zip ps).map λp=>Expr.Name p.1 p.2) (gM is)/\(assignEach ((xs.zip ps).map λp=>Expr.Name p.1 p.2) X.env).length=is.length/\(assignEach ((xs.zip ps).map λp=>Expr.Name p.1 p.2) X.env).findIdx? (·.1)=none
 | [],ps,is,_,h=>by
  simp at h;subst h;exact⟨tI,rfl,rfl⟩
 |x::xs,[],_,h,_=>by simp at h
 |x::xs,p::ps,is,hl,h=>by
  simp only[List.mapM_cons,aL,aK]at h;obtain⟨i,h1,js,h2,h3⟩:=h;cases h3;obtain⟨r1,r2,r3⟩:=mI O (xs:=xs) (ps:=ps) (by simpa using hl) h2;refine⟨CD (nD O h1) r1 rfl,?_,?_⟩
  ·show (assignEach ((xs.zip ps).map λp=>Expr.Name p.1 p.2) X.env).length+1=js.length+1;rw[r2]
  ·show List.findIdx? (·.1) ((false,_)::assignEach ((xs.zip ps).map λp=>Expr.Name p.1 p.2) X.env)=none;rw[List.findIdx?_cons];simp only[a_,if_false];rw[r3];rfl
theorem gw(O:XO w g c E X){e:Expr}{tg:Tg}(h:cTg c e=some tg):PG X e (gT X.K tg):=by
 cases e with
 |Name x p=>
  simp only[cTg]at h;split at h
  ·cases h
  ·simp only[bB]at h;obtain⟨i,h1,rfl⟩:=h;exact nD O h1
 |Tuple es k p=>
  simp only[cTg]at h;split at h
  ·rename_i hc
   simp only[aL,aK]at h;obtain⟨xs,h1,h⟩:=h;split at h
   ·cases h
   ·simp only[aK]at h;obtain⟨is,h2,h⟩:=h;split at h
    ·cases h;obtain⟨ps,rfl,hl⟩:=rB h1;obtain⟨r1,r2,r3⟩:=mI O hl h2;exact Cq (O.calm hc) r1 r2 r3
    ·cases h
  ·cases h
 |_=>simp[cTg]at h
noncomputable def iH(c:Cc):Tg->Prop
 | .nm i=>∀x,c.N[i]? = some x->c.own.contains x=false
 | .tp is=>∀i∈is,∀x,c.N[i]? = some x->c.own.contains x=false
theorem rG{α β:Type}{f:α->Option β}:∀{xs:List α}{ys:List β},xs.mapM f=some ys->∀y∈ys,∃x∈xs,f x=some y
 | [],ys,h,y,hy=>by simp at h;subst h;simp at hy
 |x::xs,ys,h,y,hy=>by
  simp only[List.mapM_cons,aL,aK]at h;obtain⟨z,h1,zs,h2,h3⟩:=h;cases h3;rcases aF.mp hy with rfl|hy
  ·exact⟨x,aO,h1⟩
  ·obtain⟨x',h4,h5⟩:=rG h2 y hy;exact⟨x',aM _ h4,h5⟩
theorem mR{e:Expr}{tg:Tg}(h:cTg c e=some tg):iH c tg:=by
 have one:∀{x:Str}{i:Nat},c.own.contains x=false->dJ c x=some i->∀y,c.N[i]? = some y->c.own.contains y=false:=λ{x i} ho hl y hy=>by
  obtain⟨h3,_⟩:=eQ (fF hl).1;rw[h3]at hy;cases hy;exact ho
 cases e with
 |Name x p=>
  simp only[cTg]at h;split at h
  ·cases h
  ·rename_i ho
   simp only[bB]at h;obtain⟨i,h1,rfl⟩:=h;exact one (by simpa using ho) h1
 |Tuple es k p=>
  simp only[cTg]at h;split at h
  ·simp only[aL,aK]at h;obtain⟨xs,h1,h⟩:=h;split at h
   ·cases h
   ·rename_i ho
    simp only[aK]at h;obtain⟨is,h2,h⟩:=h;split at h
    ·cases h;intro i hi;obtain⟨x,hx,hl⟩:=rG h2 i hi;refine one ?_ hl;cases q:c.own.contains x with
     |false=>rfl
     |true=>exact absurd (List.any_eq_true.mpr ⟨x,hx,q⟩) ho
    ·cases h
  ·cases h
 |_=>simp[cTg]at h
section
variable{τ τ':Env}{σ:L2.St}{H:Hp}{S:Sh}
theorem SE.set{i:Nat}{d:D}{v:V}(se:SE g c τ σ H S)(r:Rep g (hid H S) d v):SE g c (τ.set i (some d)) (σ.set i (some v)) H S:=by
 refine⟨by simp[se.len],λj e h=>?_,se.sub⟩;by_cases hij:i=j
 ·subst hij;by_cases hi:i<τ.length
  ·simp[hi]at h;subst h;have hi':i<σ.length:=by rw[<-se.len];exact hi
   exact⟨v,by simp[hi'],.inl r,λ_ _ _=>r⟩
  ·rw[List.set_eq_of_length_le (by lia)]at h;rw[List.getElem?_eq_none (by lia)]at h;cases h
 ·rw[List.getElem?_set_ne hij]at h ⊢;exact se.val j e h
theorem SE.setAll{is:List Nat}:∀{ds:List D}{vs:List V}{τ:Env}{σ:L2.St}{Q:L2.St->Hp->Prop},SE g c τ σ H S->qk g (hid H S) ds vs->setAll is ds τ=.ok τ'->(∀σ',SE g c τ' σ' H S->Q σ' H)->gM is vs σ H Q:=by
 induction is with
 |nil=>
  intro ds vs τ σ Q se r h k;cases r with
  |nil=>cases (show R.ok τ=R.ok τ' from h);exact⟨rfl,k σ se⟩
  |cons _ _=>cases (show R.no=R.ok τ' from h)
 |cons i is ih=>
  intro ds vs τ σ Q se r h k;cases r with
  |nil=>cases (show R.no=R.ok τ' from h)
  |cons r rs=>exact⟨_,_,rfl,ih (se.set r) rs h k⟩
theorem j9(O:X.K=g.K){tg:Tg}{d:D}{v:V}{Q:L2.St->Hp->Prop}(se:SE g c τ σ H S)(r:Rep g (hid H S) d v)(h:store tg d τ=.ok τ')(k:∀σ',SE g c τ' σ' H S->Q σ' H):gT X.K tg v σ H Q:=by
 cases tg with
 |nm i=>
  simp only[store,R.ok.injEq]at h;subst h;exact k _ (se.set r)
 |tp is=>
  cases d with
  |tup ds=>
   simp only[store]at h;split at h
   ·rename_i hl
    cases r with
    |tup h1 r1=>exact⟨_,_,rfl,by rw[O];exact zu zw h1,by rw[<-r1.length];exact hl,se.setAll r1 h k⟩
   ·cases h
  |_=>simp[store]at h
end
end
abbrev zo(c:Cc)(sc:a8):Cc:={c with nm:=gK sc.names c.nm,N:=zk sc.names,fnc:=false,oc:=fV sc.names}
section
variable{w:W}{g:Gc}{c:Cc}{E:XK}{X:Cx}
theorem XO.comp(O:XO w g c E X){sc:a8}(hk:sc.kind=.function)(hnd:(zk sc.names).Nodup)(cl:List (Str×Addr))(C:Addr)(s₀:af)(H₀:Hp)(fp:List Addr):XO w g (zo c sc) E0 (zp X (zk sc.names) sc cl C s₀ H₀ fp) where
 K:=O.K
 nm:=by
  show (relabel sc X.env).names=gK sc.names c.nm;unfold relabel gK;simp only
  congr 1
  funext p;have h1:(X.env.scope.kind==ScopeKind.function)=true:=by rw[O.kind];rfl
  have h2:X.env.kindOf p.1=c.nm.lookup p.1:=by show X.env.scope.names.lookup p.1=_;rw[O.nm]
  obtain⟨n,k⟩:=p;simp only at h2;simp only[h1,h2,Bool.and_true]
 N:=rfl
 nd:=hnd
 calm:=O.calm
 units:=O.units
 fn:=λx z=>z.elim (λz=>by cases z) λz=>z
 kind:=hk
 pass:=p8 rfl rfl
 gok:=O.gok
 fns:=O.fns
 sub:=O.sub
theorem rp{α:Type}{τ:Env}{σ:L2.St}{H:Hp}{S:Sh}{it:It}{f:List D->R α}{P:α->Prop}{R':L2.It->Hp->Prop}(se:SE g c τ σ H S)(h:tR g E H ((evI w it τ).bind f) P)
  (k:∀ds J H',evI w it τ=.ok ds->qf H H'->(∀H2 S2,qf H' H2->qf (hid H' S) (hid H2 S2)->Sub S2 H2->Goes g J ds H2 S2)->(owned it=false->∀H2 S2,qf (hid H' S) (hid H2 S2)->Sub S2 H2->Goes g J ds H2 S2)->tR g E H' (f ds) P->R' J H'):tIt w g c E it σ H R':=by
 refine⟨τ,S,se,?_⟩;cases q:evI w it τ with
 |ok d=>rw[q]at h;exact λJ H' s k1 k2=>k d J H' q s k1 k2 (tR.up h s)
 |ex x=>rw[q]at h;exact h
 |no=>rw[q]at h;exact h
theorem px{α:Type}{r:R α}{x:Str}:noEx r≠.ex x:=by cases r<;>intro h<;>cases h
theorem mK{α:Type}{r:R α}{a:α}(h:noEx r=.ok a):r=.ok a:=by cases r<;>first|exact h|cases h
theorem kq{body:D->Env->R (Env×List D)}(hb:∀d τ x,body d τ≠.ex x):∀{ds:List D}{τ:Env}{acc:List D}{x:Str},zj body ds τ acc≠.ex x
 | [],_,_,_,h=>by cases h
 |d::r,τ,acc,x,h=>by
  simp only[zj]at h;cases q:body d τ with
  |ok p=>rw[q]at h;exact kq hb h
  |ex y=>exact hb _ _ _ q
  |no=>rw[q]at h;cases h
theorem SE.caps{sc:a8}{cap:List (Option Nat)}{τ:Env}{σ:L2.St}{H:Hp}{S:Sh}(O:XO w g c E X)(hc:pd X (zk sc.names) cap sc)(se:SE g c τ σ H S):SE g (zo c sc) (zW cap τ) (L2.caps cap σ) H S:=by
 refine⟨by simp[zW,L2.caps],λi d h=>?_,se.sub⟩;unfold zW at h;rw[List.getElem?_map]at h;cases q:cap[i]? with
 |none=>rw[q]at h;cases h
 |some o=>
  cases o with
  |none=>rw[q]at h;cases h
  |some j=>
   rw[q]at h;simp only[Option.map_some,Option.bind_some,cx]at h;cases q2:τ[j]? with
   |none=>rw[q2]at h;cases h
   |some z=>
    rw[q2]at h;cases z with
    |none=>cases h
    |some d'=>
     have:d'=d:=by simpa using h
     subst this;obtain⟨v,h1,h2,h3⟩:=se.val j d' q2;refine⟨v,?_,h2,λx hx ho=>?_⟩
     ·unfold L2.caps;rw[List.getElem?_map,q];simp[h1]
     ·obtain⟨y,e1,e2,_⟩:=hc.2 i j q;have hx':(zk sc.names)[i]? = some x:=hx;rw[e1]at hx';cases hx';exact h3 _ (by rw[<-O.N];exact e2) ho
theorem fq{H:Hp}{S:Sh}{p:Addr}{o:HO}(h:S.h p=true):hid (upd H p o) S=hid H S:=by
 funext b;unfold hid;by_cases hb:b=p
 ·subst hb;rw[if_pos h,if_pos h]
 ·rw[qt hb]
theorem SE.grow{c:Cc}{τ:Env}{σ:L2.St}{H:Hp}{S:Sh}{p:Addr}{o:HO}(se:SE g c τ σ H S)(h:S.h p=true)(ho:S.o p=false):SE g c τ σ (upd H p o) S:=by
 refine⟨se.len,λi d e=>?_,λa ha n=>?_⟩
 ·obtain⟨v,h1,h2,h3⟩:=se.val i d e;refine⟨v,h1,?_,λx hx hy=>by rw[fq h];exact h3 x hx hy⟩;rcases h2 with h2|⟨a,vs,ds,z1,z2,z3,z4,z5⟩
  ·exact .inl (by rw[fq h];exact h2)
  ·refine .inr ⟨a,vs,ds,z1,z2,z3,?_,by rw[fq h];exact z5⟩;rw[qt (λz=>by rw[z,ho]at z1;cases z1)];exact z4
 ·by_cases hb:a=p
  ·subst hb;rw[zm]at n;cases n
  ·rw[qt hb]at n;exact se.sub a ha n
theorem SE.hide{c:Cc}{τ:Env}{σ:L2.St}{H:Hp}{S:Sh}{p:Addr}{vs:List V}(se:SE g c τ σ H S)(hp:H p=none):SE g c τ σ (upd H p (.lst vs)) (zB S p):=by
 refine⟨se.len,λi d e=>?_,λa ha n=>?_⟩
 ·obtain⟨v,h1,h2,h3⟩:=se.val i d e;refine⟨v,h1,?_,λx hx hy=>(h3 x hx hy).mono (i_ hp)⟩;rcases h2 with h2|⟨a,vs,ds,z1,z2,z3,z4,z5⟩
  ·exact .inl (h2.mono (i_ hp))
  ·exact .inr ⟨a,vs,ds,z1,z2,z3,qX hp _ _ z4,z5.mono (i_ hp)⟩
 ·by_cases hb:a=p
  ·subst hb;rw[zm]at n;cases n
  ·rw[qt hb]at n;refine se.sub a ?_ n;rcases ha with ha|ha
   ·refine .inl ?_;have ha:(S.h a||a==p)=true:=ha
    simpa[hb]using ha
   ·exact .inr ha
theorem sf(O:XO w g c E X){sc:a8}{cap:List (Option Nat)}{iit:It}{itg:Tg}{tt:T}{ielt:EV.E}(hS:zD X (zk sc.names) cap sc)(he:esc ielt=true){σ:L2.St}{H:Hp}{Q:VK}(hq:tE w g c E (.comp iit cap itg tt ielt) σ H Q) :
  iV cap (tIt w g c E iit) (gT X.K itg) (tT w g (zo c sc) E0 tt) (λacc=>fv acc (tE w g (zo c sc) E0 ielt)) σ H Q:=by
 obtain⟨τ,S,se,k⟩:=hq;simp only[qY,zc,zb,zg,zf,za,ze,qF,qJ,qG,qQ,qM,qx,qC,qK,qB,qN,qD,qz,qP,qT,qE,qA,qS,qL,qH,qO,qI]at k;refine rp se k λds J H1 e1 s1 kW _ k1 acc hacc=>?_
 by_cases hz:SZ<ds.length
 ·rw[if_pos hz]at k1;exact k1.elim
 rw[if_neg hz]at k1;generalize hbody:(λx σ=>noEx ((store itg x σ).bind λσ'=>(evT w tt σ').bind λr=>if r=true then (evE w ielt σ').bind λd=>R.ok (σ',[d])else R.ok (σ',[])))=body at k1;have bex:∀d τ x,body d τ≠.ex x:=λd τ x=>by rw[<-hbody];exact px
 cases hl:zj body ds (zW cap τ) []with
 |ex z=>exact absurd hl (kq bex)
 |no=>rw[hl]at k1;exact k1.elim
 |ok out=>
  rw[hl]at k1;simp only[R.bind_ok]at k1;have k1:∀v H',bz g c (.comp iit cap itg tt ielt) S H (.lst out) v H'->Q v H':=k1;have sub1:=se.sub.same s1;have hoacc:S.o acc=false:=sub1.freeO hacc;have hhacc:(zB S acc).h acc=true:=by show (S.h acc||acc==acc)=true;simp
  -- what holds between two turns
  refine⟨λi m σ' H'=>m=ds.length-i/\i<=ds.length/\∃τ' o,zj body (ds.drop i) τ' o=.ok out/\SE g (zo c sc) τ' σ' H' (zB S acc)/\o.length<=i/\qf H1 H'/\∃vs,H' acc=some (.lst vs)/\qk g (hid H' (zB S acc)) o vs,
   ⟨ds.length,rfl,br _,zW cap τ,[],hl,(se.up s1).caps O hS.cap |>.hide hacc,aD _,qX hacc,[],zm,.nil⟩,?_⟩
  rintro i m σ' H' ⟨rfl,hi',τ',o,hlo,se',hol,s1',vs,hv,hr⟩;have keep:qf (hid H1 S) (hid H' (zB S acc)):=λb u hb=>by
   obtain⟨z1,z2⟩:=bG.mp hb;refine bG.mpr ⟨?_,s1' _ _ z2⟩;show (S.h b||b==acc)=false;rw[z1]
   simpa using λz:b=acc=>by rw[z,hacc]at z2;cases z2
  obtain⟨g1,g2⟩:=kW H' (zB S acc) s1' keep se'.sub;by_cases hlt:i<ds.length
  ·have hd:ds[i]? = some ds[i]:=List.getElem?_eq_getElem hlt;obtain⟨go1,go2⟩:=g2 i ds[i] hd;refine .inr ⟨go1,λσ'' H''=>∃τ' o,zj body (ds.drop (i+1)) τ' o=.ok out/\SE g (zo c sc) τ' σ'' H'' (zB S acc)/\o.length<=i+1/\qf H1 H''/\∃vs,H'' acc=some (.lst vs)/\qk g (hid H'' (zB S acc)) o vs,
    λσ'' H'' z=>⟨ds.length-(i+1),by lia,rfl,hlt,z⟩,λx H2 hy=>?_⟩
   obtain⟨s2,rx⟩:=go2 x H2 hy;rw[dg hlt]at hlo;simp only[zj]at hlo;cases q:body ds[i] τ' with
   |ex z=>exact absurd q (bex _ _ _)
   |no=>rw[q]at hlo;cases hlo
   |ok p=>
    rw[q]at hlo;simp only[R.bind_ok]at hlo;rw[<-hbody]at q;have q:=mK q;cases q1:store itg ds[i] τ' with
    |ex z=>rw[q1]at q;cases q
    |no=>rw[q1]at q;cases q
    |ok τ1=>
     rw[q1]at q;simp only[R.bind_ok]at q;refine j9 O.K (se'.up s2) rx q1 λσ1 se1=>?_
     cases q2:evT w tt τ1 with
     |ex z=>rw[q2]at q;cases q
     |no=>rw[q2]at q;cases q
     |ok r=>
      rw[q2]at q;simp only[R.bind_ok]at q;refine⟨τ1,zB S acc,se1,?_⟩;rw[q2];intro H3 s3;have hv3:=s3 _ _ (s2 _ _ hv);have s13:=s1'.trans (s2.trans s3);cases r with
      |false=>
       simp only[a_,if_false,R.ok.injEq]at q;subst q;rw[if_neg cw];exact⟨τ1,o++[],hlo,se1.up s3,by simp;lia,s13,vs,hv3,by rw[bZ];exact hr.mono (qh (s2.trans s3))⟩
      |true=>
       simp only[if_true]at q;rw[if_pos rfl];cases q3:evE w ielt τ1 with
       |ex z=>rw[q3]at q;cases q
       |no=>rw[q3]at q;cases q
       |ok dd=>
        rw[q3]at q;simp only[R.bind_ok,R.ok.injEq]at q;subst q;refine⟨τ1,zB S acc,se1.up s3,?_⟩;rw[q3];intro v H4 p4;have hv4:=p4.same _ _ hv3;have hr4:=hr.mono (qh ((s2.trans s3).trans p4.same));have hz':vs.length<sizeLine:=by
         rw[<-hr.length,bt];have:ds.length<=SZ:=dk hz;unfold SZ at this;lia
        refine⟨vs,hv4,hz',τ1,o++[dd],hlo,(se1.up (s3.trans p4.same)).grow hhacc hoacc,by simp;lia,λb u hb=>?_,vs++[v],zm,?_⟩
        ·rw[qt (λz=>by rw[z,hacc]at hb;cases hb)];exact p4.same _ _ (s13 _ _ hb)
        ·rw[fq hhacc];exact hr4.append (.cons (p4.st he) .nil)
  ·have e:i=ds.length:=by lia
   subst e;refine .inl ⟨g1 ds.length (aD _),?_⟩;rw[List.drop_length]at hlo;simp only[zj,R.ok.injEq]at hlo;subst hlo;have rep:Rep g (hid H' S) (.lst o) (.ref acc):=.lst (SqL.of (bG.mpr ⟨sub1.free hacc,hv⟩)) (hr.mono lM);exact k1 _ _ (bz.new (s1.trans s1') rep ⟨acc,vs,o,rfl,rfl,s1.free hacc,hv,hr⟩)
theorem vI(O:XO w g c E X)(hcalm:X.calm=true){sc:a8}{cap:List (Option Nat)}{tgt it elt:Expr}{ifs:List Expr}{pos:Pos}{iit:It}{itg:Tg}{tt:T}{ielt:EV.E}(hS:zD X (zk sc.names) cap sc)(hnd:(zk sc.names).Nodup)
  (hi:PI X tgt it (tIt w g c E iit)) (hb:∀cl C s₀ H₀ fp,PG (zp X (zk sc.names) sc cl C s₀ H₀ fp) tgt (gT X.K itg)/\PTs (zp X (zk sc.names) sc cl C s₀ H₀ fp) ifs (tT w g (zo c sc) E0 tt)/\PE (zp X (zk sc.names) sc cl C s₀ H₀ fp) elt (tE w g (zo c sc) E0 ielt))
  (he:esc ielt=true) (hs:qR it=true):PE X (.ListComp elt [⟨tgt,it,ifs,0⟩] sc pos) (tE w g c E (.comp iit cap itg tt ielt)):=by
 exact PE.imp (rV (tb:=λacc=>fv acc (tE w g (zo c sc) E0 ielt)) hcalm hS hi (λcl C s₀ H₀ fp=>⟨(hb cl C s₀ H₀ fp).1,(hb cl C s₀ H₀ fp).2.1,λacc=>km rfl (hb cl C s₀ H₀ fp).2.2⟩) (by simp) (λx=>by cases it<;>first|rfl|(simp[qR]at hs))) λσ H Q q=>sf O hS he q
theorem rJ{body:D->Env->R (Env×List D)}(hb:∀d τ p,body d τ=.ok p->p.2.length<=1):∀{ds:List D}{τ:Env}{acc:List D}{p:Env×List D},zR body ds τ acc=.ok p->p.2.length<=acc.length+ds.length
 | [],_,_,_,h=>by simp only[zR,R.ok.injEq]at h;subst h;simp
 |d::r,τ,acc,p,h=>by
  simp only[zR]at h;cases q:body d τ with
  |ok z=>
   rw[q]at h;have h1:=rJ hb h;have h2:=hb _ _ _ q;rw[cb]at h1;rw[cf];lia
  |ex y=>rw[q]at h;cases h
  |no=>rw[q]at h;cases h
abbrev fI(w:W)(tg2:Tg)(tt:T)(ie:EV.E):D->Env->R (Env×List D):=λy ρ=>(store tg2 y ρ).bind λρ'=>(evT w tt ρ').bind λr=>if r=true then (evE w ie ρ').bind λd=>R.ok (ρ',[d])else R.ok (ρ',[])
theorem DB{tg2:Tg}{tt:T}{ie:EV.E}:∀d τ p,fI w tg2 tt ie d τ=.ok p->p.2.length<=1:=λd τ p h=>by
 unfold fI at h;cases q:store tg2 d τ with
 |ok ρ=>
  rw[q]at h;simp only[R.bind_ok]at h;cases q2:evT w tt ρ with
  |ok r=>
   rw[q2]at h;simp only[R.bind_ok]at h;cases r with
   |false=>simp only[a_,if_false,R.ok.injEq]at h;subst h;simp
   |true=>
    simp only[if_true]at h;cases q3:evE w ie ρ with
    |ok d=>rw[q3]at h;simp only[R.bind_ok,R.ok.injEq]at h;subst h;simp
    |ex=>rw[q3]at h;cases h
    |no=>rw[q3]at h;cases h
  |ex=>rw[q2]at h;cases h
  |no=>rw[q2]at h;cases h
 |ex=>rw[q]at h;cases h
 |no=>rw[q]at h;cases h
theorem Ap(hK:X.K=g.K){cc:Cc}{it2:It}{tg2:Tg}{tt:T}{ie:EV.E}(he:esc ie=true)(hw:owned it2=false){τ τ2:Env}{σ:L2.St}{H H1:Hp}{S:Sh}{acc:Addr}{o out:List D}{vs:List V}{D:Ends}
  (hh:S.h acc=true) (ho:S.o acc=false) (hacc:H1 acc=none) (s1:qf H1 H) (se:SE g cc τ σ H S) (hv:H acc=some (.lst vs)) (hr:qk g (hid H S) o vs) (hn:o.length<=1000000)
  (hq:((evI w it2 τ).bind λes=>if 1000<es.length then .no else zR (fI w tg2 tt ie) es τ [])=.ok (τ2,out))
  (k:∀σ' H' vs',SE g cc τ2 σ' H' S->qf H1 H'->H' acc=some (.lst vs')->qk g (hid H' S) (o++out) vs'->out.length<=1000->D.nx σ' H') :
  iG (tIt w g cc E0 it2) (gT X.K tg2) (fg (tT w g cc E0 tt) (fv acc (tE w g cc E0 ie)) eI) D σ H:=by
 cases q:evI w it2 τ with
 |ex z=>rw[q]at hq;cases hq
 |no=>rw[q]at hq;cases hq
 |ok es=>
  rw[q]at hq;simp only[R.bind_ok]at hq;by_cases hz:1000<es.length
  ·rw[if_pos hz]at hq;cases hq
  rw[if_neg hz]at hq;have hol:=rJ DB hq;rw[List.length_nil]at hol;refine⟨τ,S,se,?_⟩;rw[q];intro J H0 s0 _ kO;have kO:=kO hw;have hid0:=qh (S:=S) s0;refine⟨λi m σ' H'=>m=es.length-i/\i<=es.length/\∃ρ o2,zR (fI w tg2 tt ie) (es.drop i) ρ o2=.ok (τ2,out)/\SE g cc ρ σ' H' S/\o2.length<=i/\qf H1 H'/\qf (hid H0 S) (hid H' S)/\∃vs',H' acc=some (.lst vs')/\qk g (hid H' S) (o++o2) vs',
   ⟨es.length,rfl,br _,τ,[],hq,se.up s0,aD _,s1.trans s0,λ_ _ z=>z,vs,s0 _ _ hv,by rw[bZ];exact hr.mono hid0⟩,?_⟩
  rintro i m σ' H' ⟨rfl,hi',ρ,o2,hlo,se',hol2,s1',sh,vs',hv',hr'⟩;obtain⟨g1,g2⟩:=kO H' S sh se'.sub;by_cases hlt:i<es.length
  ·have hd:es[i]? = some es[i]:=List.getElem?_eq_getElem hlt;obtain⟨go1,go2⟩:=g2 i es[i] hd;refine .inr ⟨go1,λσ'' H''=>∃ρ o2,zR (fI w tg2 tt ie) (es.drop (i+1)) ρ o2=.ok (τ2,out)/\SE g cc ρ σ'' H'' S/\o2.length<=i+1/\qf H1 H''/\qf (hid H0 S) (hid H'' S)/\∃vs',H'' acc=some (.lst vs')/\qk g (hid H'' S) (o++o2) vs',
    λσ'' H'' z=>⟨es.length-(i+1),by lia,rfl,hlt,z⟩,λx H2 hy=>?_⟩
   obtain⟨s2,rx⟩:=go2 x H2 hy;rw[dg hlt]at hlo;simp only[zR]at hlo;cases q0:fI w tg2 tt ie es[i] ρ with
   |ex z=>rw[q0]at hlo;cases hlo
   |no=>rw[q0]at hlo;cases hlo
   |ok p=>
    rw[q0]at hlo;simp only[R.bind_ok]at hlo;unfold fI at q0;cases q1:store tg2 es[i] ρ with
    |ex z=>rw[q1]at q0;cases q0
    |no=>rw[q1]at q0;cases q0
    |ok ρ1=>
     rw[q1]at q0;simp only[R.bind_ok]at q0;refine j9 hK (se'.up s2) rx q1 λσ1 se1=>?_
     cases q2:evT w tt ρ1 with
     |ex z=>rw[q2]at q0;cases q0
     |no=>rw[q2]at q0;cases q0
     |ok r=>
      rw[q2]at q0;simp only[R.bind_ok]at q0;refine⟨ρ1,S,se1,?_⟩;rw[q2];intro H3 s3;have hv3:=s3 _ _ (s2 _ _ hv');have s13:=s1'.trans (s2.trans s3);have sh3:=sh.trans (qh (S:=S) (s2.trans s3));cases r with
      |false=>
       simp only[a_,if_false,R.ok.injEq]at q0;subst q0;rw[if_neg cw];exact⟨ρ1,o2++[],hlo,se1.up s3,by simp;lia,s13,sh3,vs',hv3,by rw[bZ];exact hr'.mono (qh (s2.trans s3))⟩
      |true=>
       simp only[if_true]at q0;rw[if_pos rfl];cases q3:evE w ie ρ1 with
       |ex z=>rw[q3]at q0;cases q0
       |no=>rw[q3]at q0;cases q0
       |ok dd=>
        rw[q3]at q0;simp only[R.bind_ok,R.ok.injEq]at q0;subst q0;refine⟨ρ1,S,se1.up s3,?_⟩;rw[q3];intro v H4 p4;have hv4:=p4.same _ _ hv3;have hr4:=hr'.mono (qh ((s2.trans s3).trans p4.same));have hz':vs'.length<sizeLine:=by
         have:=hr'.length;rw[cb]at this;rw[<-this,bt];lia
        refine⟨vs',hv4,hz',ρ1,o2++[dd],hlo,(se1.up (s3.trans p4.same)).grow hh ho,by simp;lia,λb u hb=>?_,?_,vs'++[v],zm,?_⟩
        ·rw[qt (λz=>by rw[z,hacc]at hb;cases hb)];exact p4.same _ _ (s13 _ _ hb)
        ·rw[fq hh];exact sh3.trans (qh p4.same)
        ·rw[fq hh,<-bq];exact hr4.append (.cons (p4.st he) .nil)
  ·have e:i=es.length:=by lia
   subst e;refine .inl ⟨g1 es.length (aD _),?_⟩;rw[List.drop_length]at hlo;simp only[zR,R.ok.injEq]at hlo;cases hlo;exact k σ' H' vs' se' s1' hv' hr' (by lia)
theorem Dv(O:XO w g c E X){sc:a8}{cap:List (Option Nat)}{iit it2:It}{itg tg2:Tg}{tt:T}{ielt:EV.E}(hS:zD X (zk sc.names) cap sc)(he:esc ielt=true)(hw:owned it2=false){σ:L2.St}{H:Hp}{Q:VK}(hq:tE w g c E (.comp2 iit cap itg it2 tg2 tt ielt) σ H Q) :
  iV cap (tIt w g c E iit) (gT X.K itg) nR (λacc=>iG (tIt w g (zo c sc) E0 it2) (gT X.K tg2) (fg (tT w g (zo c sc) E0 tt) (fv acc (tE w g (zo c sc) E0 ielt)) eI)) σ H Q:=by
 obtain⟨τ,S,se,k⟩:=hq;simp only[qY,zc,zb,zg,zf,za,ze,qF,qJ,qG,qQ,qM,qx,qC,qK,qB,qN,qD,qz,qP,qT,qE,qA,qS,qL,qH,qO,qI]at k;refine rp se k λds J H1 e1 s1 kW _ k1 acc hacc=>?_
 by_cases hz:1000<ds.length
 ·rw[if_pos hz]at k1;exact k1.elim
 rw[if_neg hz]at k1;generalize hbody:(λx σ=>noEx ((store itg x σ).bind λσ'=>(evI w it2 σ').bind λes=>if 1000<es.length then R.no else zR (λy ρ=>(store tg2 y ρ).bind λρ'=>(evT w tt ρ').bind λr=>if r=true then (evE w ielt ρ').bind λd=>R.ok (ρ',[d])else R.ok (ρ',[])) es σ' []))=body at k1;have bex:∀d τ x,body d τ≠.ex x:=λd τ x=>by rw[<-hbody];exact px
 cases hl:zj body ds (zW cap τ) []with
 |ex z=>exact absurd hl (kq bex)
 |no=>rw[hl]at k1;exact k1.elim
 |ok out=>
  rw[hl]at k1;simp only[R.bind_ok]at k1;have k1:∀v H',bz g c (.comp2 iit cap itg it2 tg2 tt ielt) S H (.lst out) v H'->Q v H':=k1;have sub1:=se.sub.same s1;have hoacc:S.o acc=false:=sub1.freeO hacc;have hhacc:(zB S acc).h acc=true:=by show (S.h acc||acc==acc)=true;simp
  refine⟨λi m σ' H'=>m=ds.length-i/\i<=ds.length/\∃τ' o,zj body (ds.drop i) τ' o=.ok out/\SE g (zo c sc) τ' σ' H' (zB S acc)/\o.length<=1000 * i/\qf H1 H'/\∃vs,H' acc=some (.lst vs)/\qk g (hid H' (zB S acc)) o vs,
   ⟨ds.length,rfl,br _,zW cap τ,[],hl,(se.up s1).caps O hS.cap |>.hide hacc,aD _,qX hacc,[],zm,.nil⟩,?_⟩
  rintro i m σ' H' ⟨rfl,hi',τ',o,hlo,se',hol,s1',vs,hv,hr⟩;have keep:qf (hid H1 S) (hid H' (zB S acc)):=λb u hb=>by
   obtain⟨z1,z2⟩:=bG.mp hb;refine bG.mpr ⟨?_,s1' _ _ z2⟩;show (S.h b||b==acc)=false;rw[z1]
   simpa using λz:b=acc=>by rw[z,hacc]at z2;cases z2
  obtain⟨g1,g2⟩:=kW H' (zB S acc) s1' keep se'.sub;by_cases hlt:i<ds.length
  ·have hd:ds[i]? = some ds[i]:=List.getElem?_eq_getElem hlt;obtain⟨go1,go2⟩:=g2 i ds[i] hd;refine .inr ⟨go1,λσ'' H''=>∃τ' o,zj body (ds.drop (i+1)) τ' o=.ok out/\SE g (zo c sc) τ' σ'' H'' (zB S acc)/\o.length<=1000 * (i+1)/\qf H1 H''/\∃vs,H'' acc=some (.lst vs)/\qk g (hid H'' (zB S acc)) o vs,
    λσ'' H'' z=>⟨ds.length-(i+1),by lia,rfl,hlt,z⟩,λx H2 hy=>?_⟩
   obtain⟨s2,rx⟩:=go2 x H2 hy;rw[dg hlt]at hlo;simp only[zj]at hlo;cases q:body ds[i] τ' with
   |ex z=>exact absurd q (bex _ _ _)
   |no=>rw[q]at hlo;cases hlo
   |ok p=>
    rw[q]at hlo;simp only[R.bind_ok]at hlo;rw[<-hbody]at q;have q:=mK q;cases q1:store itg ds[i] τ' with
    |ex z=>rw[q1]at q;cases q
    |no=>rw[q1]at q;cases q
    |ok τ1=>
     rw[q1]at q;simp only[R.bind_ok]at q;refine j9 O.K (se'.up s2) rx q1 λσ1 se1=>?_
     refine Ap (τ2:=p.1) (out:=p.2) O.K he hw hhacc hoacc hacc (s1'.trans s2) se1 (s2 _ _ hv) (hr.mono (qh s2)) (by lia) q λσ3 H3 vs3 se3 s3 hv3 hr3 hl3=>⟨p.1,o++p.2,hlo,se3,by rw[cb];lia,s3,vs3,hv3,hr3⟩
  ·have e:i=ds.length:=by lia
   subst e;refine .inl ⟨g1 ds.length (aD _),?_⟩;rw[List.drop_length]at hlo;simp only[zj,R.ok.injEq]at hlo;subst hlo;have rep:Rep g (hid H' S) (.lst o) (.ref acc):=.lst (SqL.of (bG.mpr ⟨sub1.free hacc,hv⟩)) (hr.mono lM);exact k1 _ _ (bz.new (s1.trans s1') rep ⟨acc,vs,o,rfl,rfl,s1.free hacc,hv,hr⟩)
theorem oF{it:Expr}{env:PySem.Env}(hs:qR it=true)(x:ae):foldedSetIterable it env x=pure x:=by cases it<;>first|rfl|(simp[qR]at hs)
theorem By(O:XO w g c E X)(hcalm:X.calm=true){sc:a8}{cap:List (Option Nat)}{tgt it tgt2 it2 elt:Expr}{ifs2:List Expr}{pos:Pos}{iit ii2:It}{itg tg2:Tg}{tt:T}{ielt:EV.E}(hS:zD X (zk sc.names) cap sc)(hnd:(zk sc.names).Nodup)
  (hi:PI X tgt it (tIt w g c E iit)) (hb:∀cl C s₀ H₀ fp,PG (zp X (zk sc.names) sc cl C s₀ H₀ fp) tgt (gT X.K itg)/\PI (zp X (zk sc.names) sc cl C s₀ H₀ fp) tgt2 it2 (tIt w g (zo c sc) E0 ii2)/\PG (zp X (zk sc.names) sc cl C s₀ H₀ fp) tgt2 (gT X.K tg2)/\PTs (zp X (zk sc.names) sc cl C s₀ H₀ fp) ifs2 (tT w g (zo c sc) E0 tt)/\PE (zp X (zk sc.names) sc cl C s₀ H₀ fp) elt (tE w g (zo c sc) E0 ielt))
  (he:esc ielt=true) (hw:owned ii2=false) (hs:qR it=true) (hs2:qR it2=true):PE X (.ListComp elt [⟨tgt,it,[],0⟩,⟨tgt2,it2,ifs2,0⟩] sc pos) (tE w g c E (.comp2 iit cap itg ii2 tg2 tt ielt)):=by
 refine PE.imp (rV (tb:=λacc=>iG (tIt w g (zo c sc) E0 ii2) (gT X.K tg2) (fg (tT w g (zo c sc) E0 tt) (fv acc (tE w g (zo c sc) E0 ielt)) eI)) hcalm hS hi (λcl C s₀ H₀ fp=>⟨(hb cl C s₀ H₀ fp).1,lY,λacc=>?_⟩) (by simp) (oF hs)) λσ H Q q=>Dv O hS he hw q
 obtain⟨_,b2,b3,b4,b5⟩:=hb cl C s₀ H₀ fp;exact xP (g:=⟨tgt2,it2,ifs2,0⟩) hcalm (λ_ _ z=>z) rfl rfl (λ_ h=>by cases h) b2 b3 b4 (km rfl b5) (oF hs2)
end
section
variable{prog:aC}{w:av}{A:aA}{E:ae->af->Prop}{s:af}
theorem DU{Q:List ae->af->Prop}{r:Addr}{a b c:Int}{t u v:Tok}{n:Nat}(hh:A.handled=none)(hr:IsRange s.heap r a b c t u v)(hsmall:Builtin.Range.small a b c=true)(hn:Builtin.Range.rangeSize a b c=n)(hlen:n<=2^24)
  (hQ:∀h' tk acc,(∀b o',s.heap.get? b=some o'->h'.get? b=some o')->ItemsOf (λi v=>∃t,v=.int (a+i * c) t) acc n->Q acc.toList {s with heap:=h',toks:=tk}):ak (aq prog w) A (collect (.ref r)) Q E s:=by
 unfold collect;refine ag (wpAny_runValue (bV PySem.F.entry_proto_collect ?_));rw[cn PySem.F.plain_proto_collect _];show ak _ A.in1 (newList []>>=λl=>again (.builtin "list.__iadd__" ⟨[l,.ref r],[]⟩)) _ _ s;refine ag (cJ ?_);refine aw ⟨plainId_quiet PySem.F.plain_list_iadd _,bV PySem.F.entry_list_iadd ?_⟩;rw[cn PySem.F.plain_list_iadd _];show ak _ A.in1 (eU (.ref s.heap.objs.size) (.ref r) (.ref s.heap.objs.size)) _ _ _;have hS:(s.heap.push {cls:=.type "list",data:=.seq ([]:List ae).toArray}).get? s.heap.objs.size=some {cls:=.type "list",data:=.seq #[] 0}:=Heap.get?_push_size _ rfl;have fin':∀(h':Heap) (tk:Nat) (acc:Array ae) (c':Nat),(∀b o,b≠s.heap.objs.size->(s.heap.push {cls:=.type "list",data:=.seq ([]:List ae).toArray}).get? b=some o->h'.get? b=some o)->h'.get? s.heap.objs.size=some {cls:=.type "list",dict:=none,data:=.seq acc c',slots:=#[]} ->
   ItemsOf (λi v=>∃t,v=.int (a+i * c) t) acc n->ak (aq prog w) A (match bx s.heap.objs.size with
   |bx a=>do
    match (<-load a).data with
     |Data.seq xs _=>pure xs.toList
     |_=>unsupported "internal:collect"
   |_=>unsupported "internal:collect") Q E {s with heap:=h',toks:=tk}:=λh' tk acc c' hk hS' hacc=>by
  show ak _ A (load s.heap.objs.size>>=_) _ _ _;refine ag (wpAny_load hS' ?_);exact aw (hQ h' tk acc (λb o' hb=>hk b o' (aX (aH hb)) (Heap.get?_push_of_some _ hb)) hacc)
 refine bQ (wpAny_extend_range (A:=A) (R:=λr s'=>r=.ok (.ret (.ref s.heap.objs.size))/\∃h' tk acc c',s'={s with heap:=h',toks:=tk}/\(∀b o,b≠s.heap.objs.size->(s.heap.push {cls:=.type "list",data:=.seq ([]:List ae).toArray}).get? b=some o->h'.get? b=some o)/\h'.get? s.heap.objs.size=some {cls:=.type "list",dict:=none,data:=.seq acc c',slots:=#[]}/\ItemsOf (λi v=>∃t,v=.int (a+i * c) t) acc n)
  (s:={s with heap:=s.heap.push {cls:=.type "list",data:=.seq ([]:List ae).toArray}}) hh (Heap.get?_push_of_some _ hr) hsmall hn hlen _ _ 0 hS λh' tk acc c' hk hS' hacc=>⟨rfl,h',tk,acc,c',rfl,hk,hS',hacc⟩) (λfin s' h=>?_) (λe s' h=>?_)
 ·cases fin with
  |done f=>
   obtain⟨e,h',tk,acc,c',rfl,hk,hS',hacc⟩:=h;cases e;exact fin' h' tk acc c' hk hS' hacc
  |again c'=>exact⟨h.1,codeAny_mono h.2 λr s'' hr=>by obtain⟨rfl,h',tk,acc,c',rfl,hk,hS',hacc⟩:=hr;exact fin' h' tk acc c' hk hS' hacc⟩
 ·exact absurd h.1 (by simp)
theorem CS(r:Addr)(a b c:Int)(t u v:Tok)(n:Nat)(hsmall:Builtin.Range.small a b c=true)(hn:Builtin.Range.rangeSize a b c=n)(hlen:n<=2^24) :
  PySem.Meets (Builtin.«tuple.__new__» ⟨[.type "tuple",.ref r],[]⟩)
   (λA R s=>A.handled=none/\IsRange s.heap r a b c t u v/\∀(h':Heap) (tk:Nat) (acc:Array ae),(∀b o',s.heap.get? b=some o'->h'.get? b=some o')->ItemsOf (λi v=>∃t,v=.int (a+i * c) t) acc n->R (.ok (.ret (.ref h'.objs.size))) {s with heap:=h'.push {cls:=.type "tuple",data:=.seq acc},toks:=tk}):=
 .of_wp λprog w A R s h=>by
  obtain⟨hh,ht,h⟩:=h;have hsub:=sub_tuple_self;have hinit:=init_tuple_lookup;have hmh:=madeHere_tuple;have hT:s.TypeIs (.ref r) "range":=⟨_,ht,rfl⟩
  have hh1:A.in1.handled=none:=hh
  wp_walk using wpAny_typeOf hT,DU (hsmall:=hsmall) (hn:=hn) (hlen:=hlen) hh1 ht
  intro h' tk acc hk hacc;show ak _ _ (Builtin.Tuple.tupleExact acc.toList.toArray>>=λv=>ret v) _ _ _;unfold Builtin.Tuple.tupleExact;refine ag (cJ ?_ (show acc.toList.toArray.size<=aV by simp only[Array.toArray_toList];rw[hacc.1,bt];lia));refine aw ⟨_,rfl,?_⟩;have e:acc.toList.toArray=acc:=by simp
  rw[e];exact h h' tk acc hk hacc
theorem AA{r:Addr}{a b c:Int}{t u v:Tok}{n:Nat}{Q:ae->af->Prop}(hh:A.handled=none)(hr:IsRange s.heap r a b c t u v)(hsmall:Builtin.Range.small a b c=true)(hn:Builtin.Range.rangeSize a b c=n)(hlen:n<=2^24)
  (h:∀(h':Heap) (tk:Nat) (acc:Array ae),(∀b o',s.heap.get? b=some o'->h'.get? b=some o')->ItemsOf (λi v=>∃t,v=.int (a+i * c) t) acc n->Q (.ref h'.objs.size) {s with heap:=h'.push {cls:=.type "tuple",data:=.seq acc},toks:=tk}) :
  ak (aq prog w) A (call (.type "tuple") [.ref r]) Q E s:=
 callType_new PySem.F.called_tuple (by decide) (PySem.F.typeCall_tuple_1 _) (PySem.F.newCall_tuple_1 _) (λobj=>PySem.F.args_object_init_2 obj _) PySem.F.entry_tuple_new
  (CS r a b c t u v n hsmall hn hlen) ⟨hh,hr,λh' tk acc hk hacc=>⟨⟨_,Heap.get?_push_size _ rfl,rfl⟩,h h' tk acc hk hacc⟩⟩
end
theorem pf:∀{xs:List V}{us:List ae},xs.length=us.length->(∀(i:Nat) x u,xs[i]? = some x->us[i]? = some u->L2.RelV x u)->Vals xs us
 | [],[],_,_=>.nil
 |x::xs,u::us,h,k=>.cons (k 0 x u rfl rfl) (pf (by simpa using h) λi y v h1 h2=>k (i+1) y v (by simpa using h1) (by simpa using h2))
 | [],_::_,h,_=>by simp at h
 |_::_,[],h,_=>by simp at h
noncomputable def dO(lo:Int)(n:Nat):List V:=(bu n).map λ(i:Nat)=>.int (lo+(i:Int))
theorem rU{lo:Int}{n:Nat}{acc:Array ae}(h:ItemsOf (λi v=>∃t,v=.int (lo+i * 1) t) acc n):Vals (dO lo n) acc.toList:=by
 refine pf (by simp[dO,h.1]) λi x u hx hu=>?_
 unfold dO at hx;rw[List.getElem?_map]at hx;cases q:(bu n)[i]? with
 |none=>rw[q]at hx;cases hx
 |some j=>
  rw[q]at hx;cases hx;obtain⟨h1,h2⟩:=List.getElem?_eq_some_iff.mp q;simp at h2;subst h2;obtain⟨t,ht⟩:=h.2 i u (by simpa using hu);rw[ht];exact⟨t,by rw[Int.mul_one]⟩
theorem kc{g:Gc}{H:Hp}{lo:Int}{n:Nat}:qk g H (zt lo n) (dO lo n):=by
 unfold zt dO;generalize bu n=l
 induction l with
 |nil=>exact .nil
 |cons i l ih=>exact .cons (.int _) ih
section
variable{X:Cx}
theorem AV:qU X (.type "range") (λvs H Q=>∃lo hi,(vs=[.int hi]/\lo=0\/vs=[.int lo,.int hi])/\∀p,H p=none->Q (.ref p) (upd H p (.rng lo hi))):=by
 intro pins s σ H xs us Q I r h;obtain⟨lo,hi,h|h,q⟩:=h
 ·obtain⟨rfl,rfl⟩:=h;obtain⟨u,rfl,t,rfl⟩:=r.one;exact call_range_1 ⟨.ref _,_,I.laid (o:=.rng 0 hi) (λb o e=>Heap.get?_push_of_some _ e) (aD _) ⟨_,_,_,Heap.get?_push_size _ rfl⟩,rfl,q _ I.fresh⟩
 ·subst h;obtain⟨u,v,rfl,⟨t,rfl⟩,⟨t',rfl⟩⟩:=r.two;exact call_range_2 ⟨.ref _,_,I.laid (o:=.rng lo hi) (λb o e=>Heap.get?_push_of_some _ e) (aD _) ⟨_,_,_,Heap.get?_push_size _ rfl⟩,rfl,q _ I.fresh⟩
theorem nB{lo hi:Int}:Builtin.Range.rangeSize lo hi 1=((hi-lo).toNat:Nat):=by
 rw[rangeSize_one];split<;>lia
theorem t6(hc:X.calm=true):qU X (.type "list") (λvs H Q=>∃p lo hi,vs=[.ref p]/\H p=some (.rng lo hi)/\qu lo=true/\qu hi=true/\∀q,H q=none->Q (.ref q) (upd H q (.lst (dO lo (hi-lo).toNat)))):=by
 intro pins s σ H xs us Q I r h;obtain⟨p,lo,hi,rfl,hp,z1,z2,q⟩:=h;obtain⟨u,rfl,ru⟩:=r.one;cases ru;obtain⟨t,u,v,e⟩:=I.hok p _ hp;obtain⟨a1,a2⟩:=fm z1;obtain⟨b1,b2⟩:=fm z2;refine call_list_range (I.ok.hd hc) e (small_one (by lia) (by lia) (by lia) (by lia)) nB (by lia) λh' tk acc c' hk hS hacc=>?_
 refine⟨.ref _,_,I.laid (h':=h') (t':=tk) (o:=.lst (dO lo (hi-lo).toNat)) hk (aD _) ⟨by simp[dO,bt];lia,acc.toList,c',rU hacc,by simpa using hS⟩,rfl,q _ I.fresh⟩
theorem AJ(hc:X.calm=true):qU X (.type "tuple") (λvs H Q=>∃p lo hi,vs=[.ref p]/\H p=some (.rng lo hi)/\qu lo=true/\qu hi=true/\∀q,H q=none->Q (.ref q) (upd H q (.tup (dO lo (hi-lo).toNat)))):=by
 intro pins s σ H xs us Q I r h;obtain⟨p,lo,hi,rfl,hp,z1,z2,q⟩:=h;obtain⟨u,rfl,ru⟩:=r.one;cases ru;obtain⟨t,u,v,e⟩:=I.hok p _ hp;obtain⟨a1,a2⟩:=fm z1;obtain⟨b1,b2⟩:=fm z2;refine AA (I.ok.hd hc) e (small_one (by lia) (by lia) (by lia) (by lia)) nB (by lia) λh' tk acc hk hacc=>?_
 have I1:Inv X pins σ H {s with heap:=h',toks:=tk}:=I.kept hk;refine⟨.ref _,_,I1.laid (t':=tk) (o:=.tup (dO lo (hi-lo).toNat)) (λb o e=>Heap.get?_push_of_some _ e) (aD _) ⟨by simp[dO,bt];lia,acc.toList,rU hacc,⟨_,Heap.get?_push_size _ rfl,rfl,0,by simp⟩⟩,rfl,q _ I1.fresh⟩
end
section
variable{w:W}{g:Gc}{c:Cc}{E:XK}{X:Cx}{a b:Expr}{ia ib:EV.E}{pos p2 p3 pos3:Pos}
theorem Bc(O:XO w g c E X){x:Str}{e:Expr}{es:List Expr}{t:TA}(h:glob c x=some .rng)(ha:PA X (e::es) t)(hs:∀z∈e::es,isStar z=false) :
  PE X (.Call (.Name x p3) (e::es) [] pos3) (tCB (λvs H Q=>∃lo hi,(vs=[.int hi]/\lo=0\/vs=[.int lo,.int hi])/\∀p,H p=none->Q (.ref p) (upd H p (.rng lo hi))) t):=by
 obtain⟨h1,rfl⟩:=O.gm h;exact gF AV (O.gl h) h1 (by decide +kernel) ha (qw h).2.2.2 (qw h).2.2.1 (qo (hs e aO)) (jv λz hz=>hs z (aM _ hz))
theorem ye(O:XO w g c E X)(hc:X.calm=true){x y:Str}{n:String}{bb:Option B1}{e:Expr}{es:List Expr}{it:It}{t:TA}(hT:glob c x=some (.ty n bb))(h:glob c y=some .rng)(ha:PA X (e::es) t)(hs:∀z∈e::es,isStar z=false)
  (hn:n = "tuple"\/n = "list")
  (k:∀σ H (Q:List V->Hp->Prop) τ S (P:List D->Prop),SE g c τ σ H S->tR g E H (evI w it τ) P->(∀lo hi vs H',qf H H'->(vs=[.int hi]/\lo=0\/vs=[.int lo,.int hi])->qu lo=true->qu hi=true->P (zt lo (hi-lo).toNat)->Q vs H')->t σ H Q) :
  PE X (.Call (.Name x p2) [.Call (.Name y p3) (e::es) [] pos3] [] pos) (tE w g c E (if n = "tuple" then .rtup it else .rlst it)):=by
 obtain⟨h1,h2,_,_⟩:=O.gm hT;have hr:=Bc (p3:=p3) (pos3:=pos3) O h ha hs;rcases hn with rfl|rfl
 ·refine PE.imp (gF (AJ hc) (O.gl hT) h1 h2 (zv hr zX) (qw hT).2.2.2 (qw hT).2.2.1) λσ H Q ⟨τ,S,se,q⟩=>?_
  rw[if_pos rfl]at q;simp only[qY,zc,zb,zg,zf,za,ze,qF,qJ,qG,qQ,qM,qx,qC,qK,qB,qN,qD,qz,qP,qT,qE,qA,qS,qL,qH,qO,qI]at q;refine k σ H _ τ S _ se (tR.bnd q) λlo hi vs H' s hv z1 z2 hP=>⟨lo,hi,hv,λp hp=>⟨p,lo,hi,rfl,zm,z1,z2,λr hr=>?_⟩⟩
  have s1:=qX (o:=.rng lo hi) hp;exact hP _ _ (bz.of ((s.trans s1).trans (qX hr)) (fQ (se.sub.same (s.trans s1)) hr kc) rfl)
 ·refine PE.imp (gF (t6 hc) (O.gl hT) h1 h2 (zv hr zX) (qw hT).2.2.2 (qw hT).2.2.1) λσ H Q ⟨τ,S,se,q⟩=>?_
  rw[if_neg (by decide)]at q;simp only[qY,zc,zb,zg,zf,za,ze,qF,qJ,qG,qQ,qM,qx,qC,qK,qB,qN,qD,qz,qP,qT,qE,qA,qS,qL,qH,qO,qI]at q;refine k σ H _ τ S _ se (tR.bnd q) λlo hi vs H' s hv z1 z2 hP=>⟨lo,hi,hv,λp hp=>⟨p,lo,hi,rfl,zm,z1,z2,λr hr=>?_⟩⟩
  have s1:=qX (o:=.rng lo hi) hp;exact hP _ _ (bz.new ((s.trans s1).trans (qX hr)) (eO (se.sub.same (s.trans s1)) hr kc) (fw (s.trans s1) hr kc))
theorem Bo(ha:PE X a (tE w g c E ia))(hs:isStar a=false):PA X [a] (iC (tE w g c E ia) hV):=zv ha zX (qo hs)
theorem wI:∀σ H (Q:List V->Hp->Prop) τ S (P:List D->Prop),SE g c τ σ H S->tR g E H (evI w (.rng ia) τ) P->(∀lo hi vs H',qf H H'->(vs=[.int hi]/\lo=0\/vs=[.int lo,.int hi])->qu lo=true->qu hi=true->P (zt lo (hi-lo).toNat)->Q vs H')->iC (tE w g c E ia) hV σ H Q:=by
 intro σ H Q τ S P se q k;simp only[evI]at q;refine zh se q λda va H1 e1 p1 k1=>?_
 cases da with
 |int j=>
  simp only at k1;cases z:qu j with
  |true=>rw[z,if_pos rfl]at k1;exact k 0 j _ H1 p1.same (.inl ⟨by rw[p1.rb.int],rfl⟩) (by decide) z (by rw[Int.sub_zero];exact k1)
  |false=>rw[z]at k1;exact k1.elim
 |_=>exact k1.elim
end
structure Snd(w:W)(g:Gc)(n:Nat):Prop where
 e:∀{c:Cc}{E:XK}{X:Cx} (O:XO w g c E X) {x:Expr}{ir:EV.E},cE n c x=some ir->PE X x (tE w g c E ir)
 bo:∀{c:Cc}{E:XK}{X:Cx} (O:XO w g c E X) {op:PySem.BoolOp}{vs:List Expr}{pos:Pos}{ir:EV.E},cBo n c op vs=some ir->PE X (.BoolOp op vs pos) (tE w g c E ir)/\esc ir=true
 o:∀{c:Cc}{E:XK}{X:Cx} (O:XO w g c E X) {x:Option Expr}{ir:OE},cO n c x=some ir->PO X x (tOe w g c E ir)
 es:∀{c:Cc}{E:XK}{X:Cx} (O:XO w g c E X) {x:List Expr}{ir:Es},cEs n c x=some ir->PA X x (tA w g c E ir)
 i:∀{c:Cc}{E:XK}{X:Cx} (O:XO w g c E X) {tg x:Expr}{ir:It},cI n c x=some ir->eC ir tg=true->PI X tg x (tIt w g c E ir)
 t:∀{c:Cc}{E:XK}{X:Cx} (O:XO w g c E X) {x:Expr}{ir:T},cT n c x=some ir->PT X x (tT w g c E ir)
 ts:∀{c:Cc}{E:XK}{X:Cx} (O:XO w g c E X) {op:PySem.BoolOp}{vs:List Expr}{pos:Pos}{ir:T},cTs n c op vs=some ir->PW X (.BoolOp op vs pos) (tT w g c E ir)
 ifs:∀{c:Cc}{E:XK}{X:Cx} (O:XO w g c E X) {x:List Expr}{ir:T},eE n c x=some ir->PTs X x (tT w g c E ir)
section
variable{w:W}{g:Gc}{n:Nat}
theorem Snd.ifs_succ(ih:Snd w g n){c:Cc}{E:XK}{X:Cx}(O:XO w g c E X){x:List Expr}{ir:T}(h:eE (n+1) c x=some ir):PTs X x (tT w g c E ir):=by
 match x with
 | []=>
  simp only[eE,cx]at h;subst h;intro pins s σ H Q I ⟨τ,S,se,q⟩;exact lY pins s σ H Q I (q H (qf.refl _))
 | [t]=>simp only[eE]at h;exact Af (ih.t O h)
 |_::_::_=>simp[eE]at h
theorem Snd.bo_succ(ih:Snd w g n){c:Cc}{E:XK}{X:Cx}(O:XO w g c E X){op:PySem.BoolOp}{vs:List Expr}{pos:Pos}{ir:EV.E}(h:cBo (n+1) c op vs=some ir):PE X (.BoolOp op vs pos) (tE w g c E ir)/\esc ir=true:=by
 match vs with
 | []=>simp[cBo]at h
 | [a]=>
  simp only[cBo,aL,aK]at h;obtain⟨ia,h1,h⟩:=h;split at h
  ·rename_i he
   cases h;exact⟨sQ (ih.e O h1),he⟩
  ·cases h
 |a::b::r=>
  simp only[cBo,aL,aK]at h;obtain⟨ia,h1,ir',h2,h⟩:=h;obtain⟨r1,r2⟩:=ih.bo O (pos:=pos) h2;cases op with
  |And=>cases h;exact⟨w_ (ih.e O h1) r1 r2,rfl⟩
  |Or=>cases h;exact⟨xT (ih.e O h1) r1 r2,rfl⟩
theorem Snd.o_succ(ih:Snd w g n){c:Cc}{E:XK}{X:Cx}(O:XO w g c E X){x:Option Expr}{ir:OE}(h:cO (n+1) c x=some ir):PO X x (tOe w g c E ir):=by
 cases x with
 |none=>simp only[cO,cx]at h;subst h;exact xM
 |some e=>
  simp only[cO,bB]at h;obtain⟨ie,h1,rfl⟩:=h;exact yQ (ih.e O h1)
theorem Snd.es_succ(ih:Snd w g n){c:Cc}{E:XK}{X:Cx}(O:XO w g c E X){x:List Expr}{ir:Es}(h:cEs (n+1) c x=some ir):PA X x (tA w g c E ir):=by
 match x with
 | []=>simp only[cEs,cx]at h;subst h;exact tD
 |e::r=>
  have hs:=fk h e aO;simp only[cEs,hs,a_,if_false,aL,aK]at h;obtain⟨ie,h1,ir',h2,h⟩:=h;cases h;exact DP (ih.e O h1) (ih.es O h2) hs
theorem Snd.ts_succ(ih:Snd w g n){c:Cc}{E:XK}{X:Cx}(O:XO w g c E X){op:PySem.BoolOp}{vs:List Expr}{pos:Pos}{ir:T}(h:cTs (n+1) c op vs=some ir):PW X (.BoolOp op vs pos) (tT w g c E ir):=by
 match vs with
 | []=>simp[cTs]at h
 | [a]=>
  simp only[cTs]at h;cases op with
  |And=>exact uh (ih.t O h)
  |Or=>exact Bd (ih.t O h)
 |a::b::r=>
  simp only[cTs,aL,aK]at h;obtain⟨ia,h1,ir',h2,h⟩:=h;cases op with
  |And=>cases h;exact vg (ih.t O h1) (ih.ts O h2)
  |Or=>cases h;exact uQ (ih.t O h1) (ih.ts O h2)
theorem Snd.t_succ(ih:Snd w g n){c:Cc}{E:XK}{X:Cx}(O:XO w g c E X){x:Expr}{ir:T}(h:cT (n+1) c x=some ir):PT X x (tT w g c E ir):=by
 unfold cT at h;split at h
 ·simp only[bB]at h;obtain⟨ia,h1,rfl⟩:=h;exact yg (ih.t O h1)
 ·exact(ih.ts O h).pt
 ·cases h
 ·split at h
  ·simp only[aL,aK]at h;obtain⟨ia,h1,ib,h2,h⟩:=h;split at h
   ·rename_i hs;cases h;exact xZ O (ih.e O h1) (ih.e O h2) hs
   ·cases h
  ·simp only[aL,aK]at h;obtain⟨ia,h1,ib,h2,id',h3,h⟩:=h;split at h
   ·rename_i hs
    simp only[aU]at hs;cases h;exact vN O (ih.e O h1) (ih.e O h2) (ih.e O h3) hs.2
   ·cases h
  ·simp only[aL,aK]at h;obtain⟨ia,h1,ib,h2,id',h3,if',h4,h⟩:=h;split at h
   ·rename_i hs
    simp only[aU]at hs;cases h;exact uW O (ih.e O h1) (ih.e O h2) (ih.e O h3) (ih.e O h4) hs.2
   ·cases h
  ·cases h
 ·rename_i n1 n2 n3 n4
  simp only[bB]at h;obtain⟨ia,h1,rfl⟩:=h;refine tQ O (ih.e O h1) λwhole=>?_
  cases x with
  |UnaryOp op a p=>cases op<;>first|rfl|exact(n1 _ _ rfl).elim
  |BoolOp op vs p=>exact(n2 _ _ _ rfl).elim
  |IfExp a b d p=>exact(n3 _ _ _ _ rfl).elim
  |Compare a ops bs p=>exact(n4 _ _ _ _ rfl).elim
  |_=>rfl
theorem Snd.i_succ(ih:Snd w g n){c:Cc}{E:XK}{X:Cx}(O:XO w g c E X){tg x:Expr}{ir:It}(h:cI (n+1) c x=some ir)(ht:eC ir tg=true):PI X tg x (tIt w g c E ir):=by
 have sq:∀{x:Expr}{ir:It},(cE n c x).map It.seq=some ir->PI X tg x (tIt w g c E ir):=λ{x ir} h=>by
  simp only[bB]at h;obtain⟨ia,h1,rfl⟩:=h;exact wc O (ih.e O h1)
 have tup:isTup tg=true->∃es k p,tg=.Tuple es k p:=λh=>by cases tg<;>first|exact⟨_,_,_,rfl⟩|(simp[isTup]at h)
 unfold cI at h;split at h
 ·rename_i f p as q
  split at h
  ·exact sq h
  ·split at h
   ·rename_i hg
    split at h
    ·rename_i a
     split at h
     ·cases h
     ·rename_i hs
      simp only[bB]at h;obtain⟨ia,h1,rfl⟩:=h;exact Ac O hg (ih.e O h1) (by simpa using hs)
    ·rename_i a b
     split at h
     ·cases h
     ·rename_i hs
      have hs:isStar a=false/\isStar b=false:=by simpa using hs
      simp only[aL,aK]at h;obtain⟨ia,h1,ib,h2,h⟩:=h;cases h;exact BX O hg (ih.e O h1) (ih.e O h2) hs.1 hs.2
    ·cases h
   ·rename_i hg
    split at h
    ·rename_i a
     split at h
     ·cases h
     ·rename_i hs
      simp only[bB]at h;obtain⟨ia,h1,rfl⟩:=h;obtain⟨es,k,p',rfl⟩:=tup ht;exact Dp O hg (ih.e O h1) (by simpa using hs)
    ·cases h
   ·rename_i hg
    split at h
    ·rename_i a b
     split at h
     ·cases h
     ·rename_i hs
      have hs:isStar a=false/\isStar b=false:=by simpa using hs
      simp only[aL,aK]at h;obtain⟨ia,h1,ib,h2,h⟩:=h;cases h;obtain⟨es,k,p',rfl⟩:=tup ht;exact Ck O hg (ih.e O h1) (ih.e O h2) hs.1 hs.2
    ·cases h
   ·exact sq h
 ·exact sq h
end
end EV
namespace L2
open PySem PySem.Spec PyProof.Rows
abbrev dKw:List (Str×ae):=[("default",.none)]
abbrev yc(I S:Addr)(kid:String):Code:=.builtin "min.loop" ⟨[.ref I,.builtin kid,.ref S],dKw⟩
abbrev itO(l:Addr):Obj:={cls:=.type "list_iterator",data:=.fields #[.ref l,.int 0 0]}
structure MSt(h₀:Heap)(L:Addr)(m:Str->Option ae)(news:List (Addr×Obj))(S I l:Addr)(vs:List ae)(kf:Nat->Int)(h:Heap)(j i:Nat):Prop where
 F:Fr h₀ L h m
 N:News h₀ L h news
 at_:h.IsListIter I l j
 box:∃vb tb c,vs[i]? = some vb/\h.get? S=some (aJ "list" #[vb,.int (kf i) tb] c)
 le:i<j
 best:∀j',j'<j->kf i<=kf j'/\(j'<i->kf i<kf j')
structure MAp(h₀:Heap)(L:Addr)(news:List (Addr×Obj))(S I l:Addr):Prop where
 lI:l≠I
 SI:S≠I
 nS:∀p∈news,p.1≠S
 nI:∀p∈news,p.1≠I
 SL:S≠L
 IL:I≠L
 S0:h₀.get? S=none
 I0:h₀.get? I=none
section
variable{prog:aC}{w:av}{A:aA}{E:ae->af->Prop}{s:af}{h₀:Heap}{L l I S:Addr}{kid:String}{m:Str->Option ae}{news:List (Addr×Obj)}{vs:List ae}{R:Result->af->Prop}{Q:ae->af->Prop}{kf:Nat->Int}
abbrev mB(prog:aC)(w:av)(A:aA)(s:af)(h₀:Heap)(L:Addr)(kid:String)(m:Str->Option ae)(news:List (Addr×Obj))(vs:List ae)(kf:Nat->Int):Prop:=
 ∀(i:Nat) (v:ae),vs[i]? = some v->∀(h:Heap) (tk:Nat) (own:List (Addr×Obj)),Fr h₀ L h m->News h₀ L h (news++own) ->
  ak (aq prog w) A.in1 (call (.builtin kid) [v]) (KskEnd h₀ L m (news++own) (kf i) {s with heap:=h,toks:=tk}) (λ_ _=>False) {s with heap:=h,toks:=tk}
theorem sV(hh:A.handled=none)(P:MAp h₀ L news S I l)(hl:∀h,Fr h₀ L h m->News h₀ L h news->h.IsList l vs.toArray)(turn:mB prog w A s h₀ L kid m news vs kf)
  (hR:∀i v h' tk',vs[i]? = some v->(∀j,j<vs.length->kf i<=kf j/\(j<i->kf i<kf j))->Fr h₀ L h' m->News h₀ L h' news->R (.ok (.ret v)) {s with heap:=h',toks:=tk'}) :
  ∀(r:Nat) {j i:Nat}{h:Heap}{tk:Nat},vs.length=j+r->MSt h₀ L m news S I l vs kf h j i->codeAny (aq prog w) A (yc I S kid) R {s with heap:=h,toks:=tk}:=by
 have W:=Walks.list (prog:=prog) (w:=w) (A:=A.in1) hh I l P.lI vs.toArray;have size:vs.toArray.size=vs.length:=aS ..;have nm:(toString "min" ++ toString ".loop" : String) = "min.loop":=by decide
 have kFr:∀{h h':Heap},Fr h₀ L h m->(∀b o,b∉[I]->h.get? b=some o->h'.get? b=some o)->Fr h₀ L h' m:=λF k=>kmb_fr F k P.IL P.I0
 intro r
 induction r with
 |zero=>
  intro j i h tk hr M;obtain⟨vb,tb,c,hv,hS⟩:=M.box;refine bV PySem.F.entry_min_loop ?_;rw[cn PySem.F.plain_min_loop _];refine ag (wpAny_seqItems hS rfl ?_);refine ag (wpAny_tryCatch (W.done _ _ _ ⟨by rw[size,hr];exact M.at_,hl h M.F M.N⟩ λh' tk' k=>?_));have up:=Heap.SameBut.update h' S (ba λ_=>(#[]:Array ae));refine ag (wpAny_updateSeq (k S _ (by simpa using P.SI) hS) rfl (ag (wpAny_letGo (aw ?_))));exact hR i vb _ _ hv (λa ha=>M.best a (by lia)) (ksk_fr (kFr M.F k) up P.SL P.S0) (ksk_news (kmb_news M.N k P.nI) up P.nS)
 |succ r ih=>
  intro j i h tk hr M;obtain⟨vb,tb,c,hv,hS⟩:=M.box;refine bV PySem.F.entry_min_loop ?_;rw[cn PySem.F.plain_min_loop _];refine ag (wpAny_seqItems hS rfl ?_);refine ag (wpAny_tryCatch (W.item j _ _ _ (by rw[size];lia) ⟨M.at_,hl h M.F M.N⟩ λv h' tk' hP st k=>?_));have hvj:vs[j]? = some v:=by simpa using hP
  obtain⟨oI,gI,cI,dI⟩:=id st.1;have S':=k S _ (by simpa using P.SI) hS;have F1:=kFr M.F k;have N1:News h₀ L h' (news++[(S,aJ "list" #[vb,.int (kf i) tb] c),(I,oI)]):=λq hq=>by
   simp only[List.mem_append,aF,bS,or_false]at hq;rcases hq with hq|rfl|rfl
   ·exact kmb_news M.N k P.nI q hq
   ·exact⟨S',P.SL,P.S0⟩
   ·exact⟨gI,P.IL,P.I0⟩
  refine ag (wpAny_tryCatch (bF (bQ (turn j v hvj h' tk' _ F1 N1) (λx s2 he=>?_) λ_ _ no=>no.elim)));obtain⟨h2,tk2,t2,rfl,rfl,F2,N2⟩:=he;have S2:=(N2 _ (bK _ (aO (l:=[(I,oI)])))).1;have I2:=(N2 _ (bK _ (aM _ (List.mem_singleton.mpr rfl)))).1;have N3:News h₀ L h2 news:=λq hq=>N2 q (List.mem_append_left _ hq)
  refine ag (wpAny_tryCatch (bF (ag (CmpOf.ints_lt (prog:=prog) (w:=w) (A:=A.in1) (P:=λi v=>∃t,v=.int (kf i) t) kf (λi v h=>h) j i _ _ _ _ _ ⟨t2,rfl⟩ ⟨tb,rfl⟩ ?_))));refine ag (bF (bH ?_));refine ag (wpAny_letGo (aw ?_));by_cases less:kf j<kf i
  ·have up:=Heap.SameBut.update h2 S (ba λ_=>#[v,.int (kf j) t2]);simp only[less,decide_true,if_true];refine ag (wpAny_updateSeq S2 rfl (ag (wpAny_letGo ?_)));rw[nm];refine aw ⟨plainId_quiet PySem.F.plain_min_loop _,ih (j:=j+1) (i:=j) (by lia) ⟨ksk_fr F2 up P.SL P.S0,ksk_news N3 up P.nS,⟨oI,(up.2 I P.SI.symm).trans I2,cI,dI⟩,⟨v,t2,_,hvj,get?_update_seq S2 λ_=>#[v,.int (kf j) t2]⟩,by lia,λa ha=>?_⟩⟩;by_cases e:a=j
   ·subst e;lia
   ·have:=M.best a (by lia);lia
  ·simp only[less,decide_false,a_,if_false];refine ag (wpAny_letGo ?_);rw[nm];refine aw ⟨plainId_quiet PySem.F.plain_min_loop _,ih (j:=j+1) (i:=i) (by lia) ⟨F2,N3,⟨oI,I2,cI,dI⟩,⟨vb,tb,c,hv,S2⟩,by have:=M.le;lia,λa ha=>?_⟩⟩;by_cases e:a=j
   ·subst e;have:=M.le;lia
   ·exact M.best a (by lia)
theorem CH(a v:ae):argsOk "min" ⟨[a],[(aN "key",v),(aN "default",.none)]⟩:=by unfold argsOk;kernel_rfl
theorem Bm(hh:A.handled=none)(F:Fr h₀ L s.heap m)(N:News h₀ L s.heap news)(hl:∀h,Fr h₀ L h m->News h₀ L h news->h.IsList l vs.toArray)(turn:mB prog w A s h₀ L kid m news vs kf)
  (h0:vs=[]->∀h' tk',Fr h₀ L h' m->News h₀ L h' news->Q .none {s with heap:=h',toks:=tk'})
  (hQ:∀i v h' tk',vs[i]? = some v->(∀j,j<vs.length->kf i<=kf j/\(j<i->kf i<kf j))->Fr h₀ L h' m->News h₀ L h' news->Q v {s with heap:=h',toks:=tk'}) :
  ak (aq prog w) A (call (.builtin "min") [.ref l] [(aN "key",.builtin kid),(aN "default",.none)]) Q E s:=by
 have nm:(toString "min" ++ toString ".loop" : String) = "min.loop":=by decide
 have ls:=hl _ F N;obtain⟨ol,hol,_⟩:=id ls;have ll:l<s.heap.objs.size:=aH hol;have LL:L<s.heap.objs.size:=F.ns.lt;refine kmb_tree PySem.F.kind_min PySem.F.plain_min PySem.F.entry_min (CH _ _) ?_;refine ag (wpAny_of_eq (show Builtin.Builtins.bindParams "min" ["key","default"] 0 ⟨[],[(aN "key",.builtin kid),(aN "default",.none)]⟩=pure [some (.builtin kid),some .none]from rfl) ?_);refine ag (aw ?_);refine ag (wpAny_pyIter_list ls ?_);refine ag (wpAny_newList ?_ (br _));rw[nm];refine aw ⟨plainId_quiet PySem.F.plain_min_loop _,?_⟩;have sz:(s.heap.push (itO l)).objs.size=s.heap.objs.size+1:=size_push' ..;have up:∀b,L<b->h₀.get? b=none:=λb hb=>Heap.get?_none_of_le (bD F.above (Nat.le_of_lt hb))
 have P:MAp h₀ L news (s.heap.push (itO l)).objs.size s.heap.objs.size l:=by
  have n0:∀p∈news,p.1<s.heap.objs.size:=λp hp=>aH (N p hp).1
  exact⟨aX ll,by rw[sz];exact Nat.succ_ne_self _,λp hp=>by rw[sz];exact aX (bO (n0 p hp)),λp hp=>aX (n0 p hp),by rw[sz];exact Nat.ne_of_gt (bO LL),Nat.ne_of_gt LL,up _ (by rw[sz];exact bO LL),up _ LL⟩
 have F0:Fr h₀ L ((s.heap.push (itO l)).push (aJ "list" #[] 0)) m:=(F.push _).push _;have N0:News h₀ L ((s.heap.push (itO l)).push (aJ "list" #[] 0)) news:=N.grown λb x e=>Heap.get?_push_of_some _ (Heap.get?_push_of_some _ e)
 have gI:((s.heap.push (itO l)).push (aJ "list" #[] 0)).get? s.heap.objs.size=some (itO l):=Heap.get?_push_of_some _ (Heap.get?_push_size _ rfl);have gS:((s.heap.push (itO l)).push (aJ "list" #[] 0)).get? (s.heap.push (itO l)).objs.size=some (aJ "list" #[] 0):=Heap.get?_push_size _ rfl;have size:vs.toArray.size=vs.length:=aS ..;have W:=Walks.list (prog:=prog) (w:=w) (A:=A.in1) hh s.heap.objs.size l P.lI vs.toArray;refine bV PySem.F.entry_min_loop ?_;rw[cn PySem.F.plain_min_loop _];refine ag (wpAny_seqItems gS rfl ?_);by_cases hz:vs.length=0
 ·refine ag (wpAny_tryCatch (W.done _ _ _ ⟨by rw[size,hz];exact⟨_,gI,rfl,rfl⟩,hl _ F0 N0⟩ λh' tk' k=>?_));refine ag (wpAny_rule (aw ?_));exact h0 (List.length_eq_zero_iff.mp hz) _ _ (kmb_fr F0 k P.IL P.I0) (kmb_news N0 k P.nI)
 ·refine ag (wpAny_tryCatch (W.item 0 _ _ _ (by rw[size];lia) ⟨⟨_,gI,rfl,rfl⟩,hl _ F0 N0⟩ λv h' tk' hP st k=>?_));have hv0:vs[0]? = some v:=by simpa using hP
  obtain⟨oI,gI',cI,dI⟩:=id st.1;have N1:News h₀ L h' (news++[((s.heap.push (itO l)).objs.size,aJ "list" #[] 0),(s.heap.objs.size,oI)]):=λq hq=>by
   simp only[List.mem_append,aF,bS,or_false]at hq;rcases hq with hq|rfl|rfl
   ·exact kmb_news N0 k P.nI q hq
   ·exact⟨k _ _ (by simpa using P.SI) gS,P.SL,P.S0⟩
   ·exact⟨gI',P.IL,P.I0⟩
  refine ag (wpAny_tryCatch (bF (bQ (turn 0 v hv0 h' tk' _ (kmb_fr F0 k P.IL P.I0) N1) (λx s2 he=>?_) λ_ _ no=>no.elim)));obtain⟨h2,tk2,t2,rfl,rfl,F2,N2⟩:=he;have S2:=(N2 _ (bK _ (aO (l:=[(s.heap.objs.size,oI)])))).1;have I2:=(N2 _ (bK _ (aM _ (List.mem_singleton.mpr rfl)))).1;have N3:News h₀ L h2 news:=λq hq=>N2 q (List.mem_append_left _ hq)
  have up2:=Heap.SameBut.update h2 (s.heap.push (itO l)).objs.size (ba λ_=>#[v,.int (kf 0) t2]);refine ag (wpAny_updateSeq S2 rfl ?_);rw[nm];refine aw ⟨plainId_quiet PySem.F.plain_min_loop _,sV hh P hl turn hQ (vs.length-1) (j:=1) (i:=0) (by lia) ⟨ksk_fr F2 up2 P.SL P.S0,ksk_news N3 up2 P.nS,⟨oI,(up2.2 _ P.SI.symm).trans I2,cI,dI⟩,⟨v,t2,_,hv0,get?_update_seq S2 λ_=>#[v,.int (kf 0) t2]⟩,by lia,λa ha=>?_⟩⟩;have:a=0:=by lia
  subst this;lia
end
section
variable{X:Cx}
theorem ua(hc:X.calm=true){pins:List (Addr×Obj)}{s:af}{σ:St}{H:Hp}{Q:VK}(I:Inv X pins σ H s){l:Addr}{ps:List Addr}{ns:List Int}(hl:SqL X.K H l (ps.map V.ref))(hn:ns.length=ps.length)(h0:ps=[]->Q .non H)
  (hp:∀(i:Nat) p n,ps[i]? = some p->ns[i]? = some n->∃ys,(SqL X.K H p ys\/SqT X.K H p ys)/\(ys.length:Int)=n)
  (q:∀(i:Nat) p,ps[i]? = some p->k_ false ns i->Q (.ref p) H) :
  ak (aq X.prog X.w) X.A (call (.builtin "min") [.ref l] [(aN "key",.builtin "len"),(aN "default",.none)]) (EP X pins σ Q) X.xe s:=by
 obtain⟨its,rv,pl,hz⟩:=I.list hl;have hits:its.length=ps.length:=by rw[<-rv.length,aR]
 obtain⟨m,F⟩:=I.fr;have N:=m5 (g:=X.base) (h:=s.heap) (L:=X.env.locals);have keep:∀(h':Heap),PyProof.Rows.Fr X.base X.env.locals h' m->News X.base X.env.locals h' (dP X.base s.heap X.env.locals)->∀b o,b≠X.env.locals->s.heap.get? b=some o->h'.get? b=some o:=λh' F' N' b o hb e=>by
  cases qb:X.base.get? b with
  |some ob=>have:=I.bk b ob qb;rw[e]at this;cases this;exact F'.keep b _ qb
  |none=>exact(N' (b,o) (ki hb qb e)).1
 have notL:∀b o vs n,s.heap.get? b=some o->o.data=.seq vs n->b≠X.env.locals:=λb o vs n e1 e3 z=>by
  obtain⟨_,⟨oL,es,ep,hoL,hdL,_⟩,_⟩:=I.loc;rw[z,hoL]at e1;cases e1;rw[hdL]at e3;cases e3
 have lst:∀(h':Heap) b vs,PyProof.Rows.Fr X.base X.env.locals h' m->News X.base X.env.locals h' (dP X.base s.heap X.env.locals)->s.heap.IsList b vs->h'.IsList b vs:=λh' b vs F' N' hh=>by
  obtain⟨o,e1,e2,n,e3⟩:=hh;exact⟨o,keep h' F' N' b o (notL _ _ _ _ e1 e3) e1,e2,n,e3⟩
 have tup:∀(h':Heap) b vs,PyProof.Rows.Fr X.base X.env.locals h' m->News X.base X.env.locals h' (dP X.base s.heap X.env.locals)->s.heap.IsTuple b vs->h'.IsTuple b vs:=λh' b vs F' N' hh=>by
  obtain⟨o,e1,e2,n,e3⟩:=hh;exact⟨o,keep h' F' N' b o (notL _ _ _ _ e1 e3) e1,e2,n,e3⟩
 have h63:=f_;have turn:∀(i:Nat) (v:ae),its[i]? = some v->∀(h:Heap) (tk:Nat) (own:List (Addr×Obj)),PyProof.Rows.Fr X.base X.env.locals h m->News X.base X.env.locals h (dP X.base s.heap X.env.locals++own) ->
   ak (aq X.prog X.w) X.A.in1 (call (.builtin "len") [v]) (KskEnd X.base X.env.locals m (dP X.base s.heap X.env.locals++own) (ns.getD i 0) {s with heap:=h,toks:=tk}) (λ_ _=>False) {s with heap:=h,toks:=tk}:=by
  intro i v hv h tk own F' N';have hi:i<ps.length:=by rw[<-hits];exact(List.getElem?_eq_some_iff.mp hv).1
  obtain⟨v',hv',rvv⟩:=rv.get (i:=i) (x:=.ref ps[i]) (by simp[hi]);rw[hv]at hv';cases hv';cases rvv;have hni:ns[i]? = some (ns.getD i 0):=by simp[show i<ns.length by lia]
  have N'':News X.base X.env.locals h (dP X.base s.heap X.env.locals):=λp hp=>N' p (List.mem_append_left _ hp)
  obtain⟨ys,hy,hlen⟩:=hp i ps[i] _ (by simp[hi]) hni;rcases hy with hy|hy
  ·obtain⟨i2,r2,p2,z2⟩:=I.list hy;have e:=r2.length;refine Calls.call_len_list (lst h _ _ F' N'' p2.isList) (by simp only[aS]<;>lia) ?_;rw[show ((i2.toArray.size:Nat):Int)=ns.getD i 0 by rw[aS,<-e];exact hlen];exact .intro F' N' λp hp=>hp
  ·obtain⟨i2,r2,p2,z2⟩:=I.tuple hy;have e:=r2.length;refine len_tuple (tup h _ _ F' N'' p2) (by simp only[aS]<;>lia) ?_;rw[show ((i2.toArray.size:Nat):Int)=ns.getD i 0 by rw[aS,<-e];exact hlen];exact .intro F' N' λp hp=>hp
 have fin:∀i v h' tk',its[i]? = some v->(∀j,j<its.length->ns.getD i 0<=ns.getD j 0/\(j<i->ns.getD i 0<ns.getD j 0))->PyProof.Rows.Fr X.base X.env.locals h' m->News X.base X.env.locals h' (dP X.base s.heap X.env.locals)->EP X pins σ Q v {s with heap:=h',toks:=tk'}:=by
  intro i v h' tk' hv hb F' N';have hi:i<ps.length:=by rw[<-hits];exact(List.getElem?_eq_some_iff.mp hv).1
  obtain⟨v',hv',rvv⟩:=rv.get (i:=i) (x:=.ref ps[i]) (by simp[hi]);rw[hv]at hv';cases hv';cases rvv;refine⟨.ref ps[i],H,I.nsKept (s':={s with heap:=h',toks:=tk'}) rfl rfl (keep h' F' N') (λm' hm'=>by rw[kJ hm' F.ns];exact F'.ns),rfl,q i _ (by simp[hi]) λn en j m' em=>?_⟩;have hj:=(List.getElem?_eq_some_iff.mp em).1;have:=hb j (by rw[hits];lia);rw[List.getD_eq_getElem?_getD,List.getD_eq_getElem?_getD,en,em]at this;exact this
 refine Bm (kf:=λi=>ns.getD i 0) (I.ok.hd hc) F N (λh' F' N'=>lst h' _ _ F' N' pl.isList) turn (λz h' tk' F' N'=>?_) λi v h' tk' hv hb F' N'=>fin i v h' tk' hv hb F' N'
 refine⟨.non,H,I.nsKept (s':={s with heap:=h',toks:=tk'}) rfl rfl (keep h' F' N') (λm' hm'=>by rw[kJ hm' F.ns];exact F'.ns),rfl,h0 ?_⟩;rw[z]at hits;exact List.length_eq_zero_iff.mp hits.symm
end
end L2
namespace ST
open PySem PySem.SetTable
noncomputable def adv(mask:Nat)(p:Probe):Probe:=
 if p.more>0 then {p with j:=p.j+1,more:=p.more-1}else
 {p with j:=(leap mask p.i p.perturb).1,more:=runEnd mask (leap mask p.i p.perturb).1-(leap mask p.i p.perturb).1,i:=(leap mask p.i p.perturb).1,perturb:=(leap mask p.i p.perturb).2}
theorem n_(t:aZ)(p:Probe):t.advance p=adv t.mask p:=rfl
noncomputable def RS(mask:Nat)(x:Nat×Nat):Probe:=⟨x.1,runEnd mask x.1-x.1,x.1,x.2,none⟩
noncomputable def pr(mask:Nat)(h:Int):Nat->Probe
 | 0=>RS mask (bits h%(mask+1),bits h)
 |n+1=>adv mask (pr mask h n)
theorem xB(t:aZ)(h:Int):t.probeStart h=pr t.mask h 0:=rfl
noncomputable def it(mask:Nat):Nat->Probe->Probe
 | 0,p=>p
 |d+1,p=>it mask d (adv mask p)
theorem iP(mask:Nat)(h:Int):∀d n,pr mask h (n+d)=it mask d (pr mask h n)
 | 0,n=>rfl
 |d+1,n=>by rw[it,show n+(d+1)=n+1+d by lia,iP mask h d (n+1)];rfl
theorem jT(mask:Nat):∀d e p,it mask (d+e) p=it mask e (it mask d p)
 | 0,e,p=>by rw[Nat.zero_add];rfl
 |d+1,e,p=>by rw[show d+1+e=d+e+1 by lia,it,it,jT mask d e]
noncomputable def lp(mask:Nat):Nat->Nat×Nat->Nat×Nat
 | 0,x=>x
 |k+1,x=>lp mask k (leap mask x.1 x.2)
theorem r_(mask:Nat):∀d e x,lp mask (d+e) x=lp mask e (lp mask d x)
 | 0,e,x=>by rw[Nat.zero_add];rfl
 |d+1,e,x=>by rw[show d+1+e=d+e+1 by lia,lp,lp,r_ mask d e]
structure Ok(mask:Nat)(p:Probe):Prop where
 more:p.more<=9
 le:p.j+p.more<=mask
 pt:p.perturb<2^64
 dm:p.dummy=none
theorem hU{mask i:Nat}(h:i<=mask):runEnd mask i-i<=9/\i+(runEnd mask i-i)<=mask/\i<=runEnd mask i:=by
 unfold runEnd;split<;>lia
theorem CP{mask:Nat}{x:Nat×Nat}(h:x.1<=mask)(hp:x.2<2^64):Ok mask (RS mask x):=⟨(hU h).1,(hU h).2.1,hp,rfl⟩
theorem gk(mask i p:Nat):(leap mask i p).1<=mask:=Nat.le_of_lt_succ (Nat.mod_lt _ (Nat.succ_pos _))
theorem BJ{mask:Nat}{p:Probe}(h:Ok mask p):Ok mask (adv mask p):=by
 have a:=h.more;have b:=h.le;have c:=h.pt;have d:=h.dm;unfold adv;split
 ·exact⟨by show p.more-1<=9;lia,by show p.j+1+(p.more-1)<=mask;lia,c,d⟩
 ·have:=hU (gk mask p.i p.perturb);exact⟨this.1,this.2.1,by show p.perturb/32<_;lia,d⟩
theorem hJ(mask:Nat)(h:Int):∀n,Ok mask (pr mask h n)
 | 0=>CP (Nat.le_of_lt_succ (Nat.mod_lt _ (Nat.succ_pos _))) (by
   show bits h<2^64;unfold bits;have:=Int.emod_lt_of_pos h (show (0:Int)<2^64 by decide);have:=Int.emod_nonneg h (show (2^64:Int)≠0 by decide);lia)
 |n+1=>BJ (hJ mask h n)
theorem lE(mask:Nat)(h:Int)(n:Nat):(pr mask h n).j<=mask:=by have:=(hJ mask h n).le;lia
theorem i6(mask:Nat):∀(r:Nat) (p:Probe),p.more=r->p.dummy=none->it mask (r+1) p=RS mask (leap mask p.i p.perturb)/\∀c,c<=r->(it mask c p).j=p.j+c
 | 0,p,h,hd=>by
  refine⟨?_,λc hc=>by rw[Nat.le_zero.mp hc];rfl⟩;rw[it,it,adv,if_neg (by lia)];obtain⟨j,m,i,q,d⟩:=p;cases hd
  rfl
 |r+1,p,h,hd=>by
  have e:adv mask p={p with j:=p.j+1,more:=p.more-1}:=by rw[adv,if_pos (by lia)]
  have g:=i6 mask r (adv mask p) (by rw[e];show p.more-1=r;lia) (by rw[e];exact hd);refine⟨?_,λc hc=>?_⟩
  ·rw[it,g.1,e]
  ·cases c with
   |zero=>rfl
   |succ c=>rw[it,g.2 c (by lia),e];show p.j+1+c=_;lia
theorem oa(mask:Nat):∀(k:Nat) (x:Nat×Nat),x.1<=mask->∃d,d<=10 * k/\it mask d (RS mask x)=RS mask (lp mask k x)
 | 0,x,_=>⟨0,by lia,rfl⟩
 |k+1,x,hx=>by
  obtain⟨d,h1,h2⟩:=oa mask k (leap mask x.1 x.2) (gk ..);have r:=(i6 mask _ (RS mask x) rfl rfl).1;have:=(hU hx).1;refine⟨(RS mask x).more+1+d,by show runEnd mask x.1-x.1+1+d<=_;lia,?_⟩;rw[jT,r];exact h2
theorem pj(mask:Nat):∀(k:Nat) (x:Nat×Nat),(lp mask k x).2=x.2/32^k
 | 0,x=>by simp[lp]
 |k+1,x=>by rw[lp,pj mask k];show x.2/32/32^k=_;rw[Nat.div_div_eq_div_mul,Nat.pow_succ,Nat.mul_comm]
theorem rS(mask:Nat):∀(k:Nat) (x:Nat×Nat),x.1<=mask->(lp mask k x).1<=mask
 | 0,_,h=>h
 |k+1,_,_=>rS mask k _ (gk ..)
noncomputable def om(mask:Nat):Nat->Nat->Nat
 | 0,_=>0
 |n+1,i=>2^i |||om mask n ((i * 5+1)%(mask+1))
theorem mM(mask:Nat){j:Nat}:∀(n i:Nat),(om mask n i).testBit j=true->∃k,k<n/\lp mask k (i,0)=(j,0)
 | 0,i,h=>by simp[om]at h
 |n+1,i,h=>by
  rw[om,Nat.testBit_or,Nat.testBit_two_pow,cA,decide_eq_true_eq]at h;rcases h with rfl|h
  ·exact⟨0,by lia,rfl⟩
  ·obtain⟨k,h1,h2⟩:=mM mask n _ h;refine⟨k+1,by lia,?_⟩;rw[lp,<-h2];show lp mask k ((i * 5+1+0/32)%(mask+1),0/32)=_;rw[Nat.zero_div,Nat.add_zero]
noncomputable def Mk(mask:Nat):Prop:=mask=7\/mask=31\/mask=127
theorem xo{mask:Nat}(h:Mk mask):(bu (mask+1)).all (λi=>om mask (mask+1) i==2^(mask+1)-1)=true:=by
 rcases h with rfl|rfl|rfl<;>decide +kernel
theorem rC{mask:Nat}(hM:Mk mask){x:Nat×Nat}(hp:x.2<2^64)(hx:x.1<=mask){j:Nat}(hj:j<=mask):∃k,k<=mask+13/\(lp mask k x).1=j:=by
 have a:=cy.mp (xo hM) (lp mask 13 x).1 (List.mem_range.mpr (Nat.lt_succ_of_le (rS mask 13 x hx)));have b:(om mask (mask+1) (lp mask 13 x).1).testBit j=true:=by
  rw[eq_of_beq a,Nat.testBit_two_pow_sub_one,decide_eq_true_eq];lia
 obtain⟨k,h1,h2⟩:=mM mask _ _ b;have c:lp mask 13 x=((lp mask 13 x).1,0):=by
  refine Prod.ext rfl ?_;rw[pj];exact Nat.div_eq_of_lt (bA hp (by decide))
 exact⟨13+k,by lia,by rw[r_,c,h2]⟩
theorem cover{mask:Nat}(hM:Mk mask)(h:Int)(n:Nat){j:Nat}(hj:j<=mask):∃m,n<=m/\m<n+10 * turns mask/\(pr mask h m).j=j:=by
 have o:=hJ mask h n;obtain⟨k,h1,h2⟩:=rC hM (x:=leap mask (pr mask h n).i (pr mask h n).perturb) (by have:=o.pt;show _/32<_;lia) (gk ..) hj;obtain⟨d,h3,h4⟩:=oa mask k (leap mask (pr mask h n).i (pr mask h n).perturb) (gk ..);have r:=(i6 mask _ (pr mask h n) rfl o.dm).1;have:=o.more;refine⟨n+((pr mask h n).more+1+d),by lia,by unfold turns;lia,?_⟩;rw[iP,jT,r,h4];exact h2
noncomputable def Ri(xs:Array Nat):Prop:=∀i k x y:Nat,i<k->xs[i]? = some x->xs[k]? = some y->x<y
theorem Ri.of{xs:Array Nat}(h:xs.toList.Pairwise (· < ·)):Ri xs:=by
 intro i k x y hik hx hy;rw[List.pairwise_iff_getElem]at h;obtain⟨a,rfl⟩:=Array.getElem?_eq_some_iff.mp hx;obtain⟨b,rfl⟩:=Array.getElem?_eq_some_iff.mp hy;exact h i k a b hik
theorem kx{xs:Array Nat}(hr:Ri xs)(j:Nat):∀(fuel lo hi:Nat),hi-lo<=fuel->lo<=hi->hi<=xs.size->(∀i x,i<lo->xs[i]? = some x->x<j)->(∀i x,hi<=i->xs[i]? = some x->j<=x) ->
  below.go xs j fuel lo hi<=xs.size/\(∀i x,xs[i]? = some x->(i<below.go xs j fuel lo hi↔x<j))
 | 0,lo,hi,h1,h2,h3,h4,h5=>by
  rw[below.go];refine⟨by lia,λi x e=>⟨λh=>h4 i x h e,λh=>?_⟩⟩;refine Nat.lt_of_not_le λg=>?_
  have:=h5 i x (by lia) e;lia
 |fuel+1,lo,hi,h1,h2,h3,h4,h5=>by
  rw[below.go];split
  ·rename_i hl
   have hm:(lo+hi)/2<xs.size:=by lia
   have e:xs[(lo+hi)/2]? = some xs[(lo+hi)/2]:=Array.getElem?_eq_getElem hm;have g:xs.getD ((lo+hi)/2) j=xs[(lo+hi)/2]:=by rw[Array.getD_eq_getD_getElem?,e];rfl
   dsimp only;rw[g];split
   ·rename_i hq
    refine kx hr j fuel _ hi (by lia) (by lia) h3 (λi x hi' e'=>?_) h5;rcases Nat.lt_trichotomy i ((lo+hi)/2)with q|q|q
    ·exact Nat.lt_trans (hr i _ x _ q e' e) hq
    ·subst q;rw[e]at e';cases e';exact hq
    ·lia
   ·rename_i hq
    refine kx hr j fuel lo _ (by lia) (by lia) (by lia) h4 λi x hi' e'=>?_
    rcases Nat.lt_trichotomy i ((lo+hi)/2)with q|q|q
    ·lia
    ·subst q;rw[e]at e';cases e';lia
    ·have:=hr _ i _ x q e e';lia
  ·refine⟨by lia,λi x e=>⟨λh=>h4 i x h e,λh=>?_⟩⟩;refine Nat.lt_of_not_le λg=>?_
   have:=h5 i x (by lia) e;lia
theorem iW{xs:Array Nat}(hr:Ri xs)(j:Nat):below xs j<=xs.size/\(∀i x,xs[i]? = some x->(i<below xs j↔x<j)):=
 kx hr j xs.size 0 xs.size (by lia) (by lia) (aD _) (λ_ _ h=>absurd h (Nat.not_lt_zero _)) λi x h e=>by
  have:=(Array.getElem?_eq_some_iff.mp e).1;lia
theorem below_at{xs:Array Nat}(hr:Ri xs){i j:Nat}(h:xs[i]? = some j):below xs j=i:=by
 obtain⟨a,b⟩:=iW hr j;have c:=(b i j h)
 rcases Nat.lt_trichotomy (below xs j) i with q|q|q
 ·have hs:i<xs.size:=(Array.getElem?_eq_some_iff.mp h).1;have e:xs[below xs j]? = some xs[below xs j]:=Array.getElem?_eq_getElem (by lia);have:=(b _ _ e).mpr (hr _ _ _ _ q e h);lia
 ·exact q
 ·have:=c.mp q;lia
theorem DI{t:aZ}(hr:Ri t.place){i j:Nat}(h:t.place[i]? = some j):t.slot j=.live i:=by
 unfold slot;dsimp only;rw[below_at hr h,h];simp
theorem oz(j:Nat):has #[] j=false:=by simp[has]
theorem C4{t:aZ}(hd:t.dummies = #[]){j:Nat}(h:∀i:Nat,t.place[i]?≠some j):t.slot j=.empty:=by
 unfold slot;dsimp only;rw[if_neg (by simpa using h _),hd,oz];simp
noncomputable def Reach(mask:Nat)(P:Nat->Prop)(h:Int)(j:Nat):Prop:=∃n,(pr mask h n).j=j/\∀m,m<n->P (pr mask h m).j
theorem Reach.mono{mask:Nat}{P Q:Nat->Prop}{h:Int}{j:Nat}(r:Reach mask P h j)(s:∀j,P j->Q j):Reach mask Q h j:=
 let ⟨n,a,b⟩:=r;⟨n,a,λm hm=>s _ (b m hm)⟩
structure Good(t:aZ)(hs:List Int):Prop where
 ma:Mk t.mask
 dum:t.dummies = #[]
 len:t.place.size=hs.length
 ri:t.place.toList.Pairwise (· < ·)
 le:∀j∈t.place.toList,j<=t.mask
 re:∀jh∈t.place.toList.zip hs,Reach t.mask (·∈t.place.toList) jh.2 jh.1
theorem long:∀(n:Nat) (l:List Nat),(∀j,j<n->j∈l)->n<=l.length
 | 0,_,_=>br _
 |n+1,l,h=>by
  have a:=long n (l.erase n) λj hj=>(List.mem_erase_of_ne (by lia)).mpr (h j (by lia))
  have b:=List.length_erase_of_mem (h n (by lia));have c:=List.length_pos_of_mem (h n (by lia));lia
section
variable{t:aZ}{hs:List Int}(G:Good t hs)
include G
theorem Good.free(hf:hs.length<=t.mask)(h:Int)(n:Nat):∃m,n<=m/\m<n+10 * turns t.mask/\(pr t.mask h m).j∉t.place.toList:=by
 have:∃j,j<=t.mask/\j∉t.place.toList:=Classical.byContradiction λg=>by
  have:=long (t.mask+1) t.place.toList λj hj=>Classical.byContradiction λq=>g ⟨j,by lia,q⟩
  rw[a9,G.len]at this;lia
 obtain⟨j,h1,h2⟩:=this;obtain⟨m,a,b,c⟩:=cover G.ma h n h1;exact⟨m,a,b,by rw[c];exact h2⟩
theorem Good.go(hashAt:Nat->Int)(h:Int):∀(fuel n:Nat),(∃m,n<=m/\m<n+fuel/\(pr t.mask h m).j∉t.place.toList) ->
  ∃m,n<=m/\(∀k,n<=k->k<m->∃i,t.place[i]? = some (pr t.mask h k).j/\hashAt i≠h) /\
   (((pr t.mask h m).j∉t.place.toList/\probe.go t hashAt h fuel (pr t.mask h n)=some (.empty (pr t.mask h m).j none)) \/
    ∃i,t.place[i]? = some (pr t.mask h m).j/\hashAt i=h/\probe.go t hashAt h fuel (pr t.mask h n)=some (.candidate (pr t.mask h m).j i (pr t.mask h (m+1))))
 | 0,n,⟨m,a,b,_⟩=>by lia
 |fuel+1,n,⟨m,a,b,c⟩=>by
  have hr:=Ri.of G.ri;by_cases hin:(pr t.mask h n).j∈t.place.toList
  ·obtain⟨i,hi⟩:=List.mem_iff_getElem?.mp hin;rw[Array.getElem?_toList]at hi;rw[probe.go,DI hr hi];dsimp only;by_cases hq:hashAt i=h
   ·refine⟨n,aD _,λk h1 h2=>by lia,.inr ⟨i,hi,hq,?_⟩⟩;rw[if_pos (beq_iff_eq.mpr hq),n_];rfl
   ·rw[if_neg (by simpa using hq),n_];have hne:m≠n:=λe=>c (e▸hin)
    obtain⟨m',a',b',c'⟩:=Good.go hashAt h fuel (n+1) ⟨m,by lia,by lia,c⟩;refine⟨m',by lia,λk h1 h2=>?_,c'⟩;rcases Nat.eq_or_lt_of_le h1 with rfl|h1
    ·exact⟨i,hi,hq⟩
    ·exact b' k h1 h2
  ·refine⟨n,aD _,λk h1 h2=>by lia,.inl ⟨hin,?_⟩⟩;rw[probe.go,C4 G.dum λi e=>hin (by rw[<-Array.getElem?_toList]at e;exact List.mem_of_getElem? e)];dsimp only;rw[(hJ t.mask h n).dm]
theorem Good.fits(hf:hs.length<=t.mask):t.fits hs.length=true:=by
 unfold aZ.fits aZ.fill;rw[G.dum,G.len]
 simpa using hf
theorem Good.put{h:Int}{j:Nat}(hj:j∉t.place.toList)(hR:Reach t.mask (·∈t.place.toList) h j) :
  t.put j=({t with place:=insertAt t.place (below t.place j) j},below t.place j)/\below t.place j<=hs.length /\
   Good {t with place:=insertAt t.place (below t.place j) j} (hs.take (below t.place j)++h::hs.drop (below t.place j)):=by
 have hr:=Ri.of G.ri;obtain⟨b1,b2⟩:=iW hr j;have hb:below t.place j<=hs.length:=by rw[<-G.len];exact b1
 refine⟨by unfold aZ.put;dsimp only;rw[G.dum,oz];simp,hb,?_⟩;have ins:(insertAt t.place (below t.place j) j).toList=t.place.toList.take (below t.place j)++j::t.place.toList.drop (below t.place j):=aZ.toList_insertAt ..;have mem:∀{x},x∈(insertAt t.place (below t.place j) j).toList↔x=j\/x∈t.place.toList:=by
  intro x;rw[ins,List.mem_append,aF];constructor
  ·rintro(h|h|h)
   ·exact .inr (List.mem_of_mem_take h)
   ·exact .inl h
   ·exact .inr (List.mem_of_mem_drop h)
  ·rintro(h|h)
   ·exact .inr (.inl h)
   ·rw[<-bE (below t.place j) t.place.toList,List.mem_append]at h;rcases h with h|h
    ·exact .inl h
    ·exact .inr (.inr h)
 have jle:j<=t.mask:=by obtain⟨n,e,_⟩:=hR;rw[<-e];exact lE ..
 refine⟨G.ma,G.dum,?_,?_,?_,?_⟩
 ·show (insertAt t.place (below t.place j) j).size=_;rw[<-a9,ins];simp only[cb,cf,cz,List.length_drop,a9,G.len]
 ·show (insertAt t.place (below t.place j) j).toList.Pairwise (· < ·);rw[ins];have pw:=G.ri;rw[<-bE (below t.place j) t.place.toList,List.pairwise_append]at pw;have lo:∀x∈t.place.toList.take (below t.place j),x<j:=by
   intro x hx;obtain⟨i,hi⟩:=List.mem_iff_getElem?.mp hx;have il:i<below t.place j:=Nat.lt_of_not_le λq=>by rw[List.getElem?_take,if_neg (by lia)]at hi;cases hi
   rw[List.getElem?_take_of_lt il,Array.getElem?_toList]at hi;exact(b2 i x hi).mp il
  have hi:∀x∈t.place.toList.drop (below t.place j),j<x:=by
   intro x hx;obtain⟨i,hi⟩:=List.mem_iff_getElem?.mp hx;rw[List.getElem?_drop,Array.getElem?_toList]at hi;have:=(b2 _ x hi)
   have ne:x≠j:=λe=>hj (by rw[<-e,<-Array.getElem?_toList]at *;exact List.mem_of_getElem? hi)
   lia
  refine List.pairwise_append.mpr ⟨pw.1,List.pairwise_cons.mpr ⟨hi,pw.2.1⟩,λa ha b hb=>?_⟩;rcases aF.mp hb with rfl|hb
  ·exact lo a ha
  ·exact Nat.lt_trans (lo a ha) (hi b hb)
 ·intro x hx;rcases mem.mp hx with rfl|hx
  ·exact jle
  ·exact G.le x hx
 ·rintro⟨x,g⟩ hx;have up:∀y,y∈t.place.toList->y∈(insertAt t.place (below t.place j) j).toList:=λy hy=>mem.mpr (.inr hy)
  change (x,g)∈(insertAt t.place (below t.place j) j).toList.zip _ at hx;rw[ins,List.zip_append (by simp only[cz,a9,G.len]),List.zip_cons_cons,List.mem_append,aF]at hx;have old:(x,g)∈t.place.toList.zip hs->Reach t.mask (·∈(insertAt t.place (below t.place j) j).toList) g x:=λq=>(G.re _ q).mono up
  have hz:t.place.toList.zip hs=(t.place.toList.take (below t.place j)).zip (hs.take (below t.place j))++(t.place.toList.drop (below t.place j)).zip (hs.drop (below t.place j)):=by
   rw[<-List.zip_append (by simp only[cz,a9,G.len]),bE,bE]
  rcases hx with hx|hx|hx
  ·exact old (by rw[hz];exact List.mem_append_left _ hx)
  ·cases hx;exact hR.mono up
  ·exact old (by rw[hz];exact bK _ hx)
end
theorem rP{α β:Type}{f:α->Option β}:∀{l:List α},(∀x∈l,(f x).isSome=true)->∀i:Nat,(l.filterMap f)[i]? = (l[i]?).bind f
 | [],_,i=>by simp
 |a::l,h,i=>by
  obtain⟨b,hb⟩:=Option.isSome_iff_exists.mp (h a aO);rw[List.filterMap_cons_some hb];cases i with
  |zero=>simp[hb]
  |succ i=>rw[List.getElem?_cons_succ,List.getElem?_cons_succ];exact rP (λx hx=>h x (aM _ hx)) i
noncomputable def Fa(ow:Array (Option Nat))(j:Nat):Prop:=(ow.getD j (some 0)).isNone=true
theorem kN{ow:Array (Option Nat)}{j:Nat}:Fa ow j↔ow[j]? = some none:=by
 unfold Fa;rw[Array.getD_eq_getD_getElem?];cases h:ow[j]? with
 |none=>simp
 |some x=>cases x<;>simp
theorem oH{mask:Nat}{h:Int}{ow:Array (Option Nat)}:∀(k fuel n:Nat) (x:Nat×Nat),k<fuel->x.1<=mask->pr mask h n=RS mask x->Fa ow (lp mask k x).1 ->
  ∃m,n<=m/\layClean.free mask ow fuel x.1 x.2=some (pr mask h m).j/\Fa ow (pr mask h m).j/\∀l,n<=l->l<m->¬ Fa ow (pr mask h l).j
 |_,0,_,_,hk,_,_,_=>by lia
 |k,fuel+1,n,x,hk,hx,hn,hf=>by
  have run:=i6 mask (runEnd mask x.1-x.1) (RS mask x) rfl rfl;have rl:=hU hx;have at_:∀c,c<=runEnd mask x.1-x.1->(pr mask h (n+c)).j=x.1+c:=λc hc=>by rw[iP,hn];exact run.2 c hc
  have nxt:pr mask h (n+(runEnd mask x.1-x.1+1))=RS mask (leap mask x.1 x.2):=by rw[iP,hn];exact run.1
  rw[layClean.free];cases q:(bu (runEnd mask x.1+1-x.1)).find? λk=>(ow.getD (x.1+k) (some 0)).isNone with
  |some c=>
   obtain⟨h1,h2,h3⟩:=List.find?_range_eq_some.mp q;have hc:c<=runEnd mask x.1-x.1:=by have:=List.mem_range.mp h2;lia
   refine⟨n+c,by lia,by rw[at_ c hc],by rw[at_ c hc];exact h1,λl a b=>?_⟩;have:=h3 (l-n) (by lia);rw[show l=n+(l-n)by lia,at_ (l-n) (by lia)];exact λg=>by rw[show (ow.getD (x.1+(l-n)) (some 0)).isNone=true from g]at this;cases this
  |none=>
   have h3:=List.find?_range_eq_none.mp q;have no:∀c,c<=runEnd mask x.1-x.1->¬ Fa ow (x.1+c):=λc hc=>by
    have:=h3 c (by lia);exact λg=>by rw[show (ow.getD (x.1+c) (some 0)).isNone=true from g]at this;cases this
   dsimp only;cases k with
   |zero=>exact absurd hf (no 0 (by lia))
   |succ k=>
    obtain⟨m,a,b,c,d⟩:=oH k fuel _ (leap mask x.1 x.2) (by lia) (gk ..) nxt hf;refine⟨m,by lia,b,c,λl l1 l2=>?_⟩;by_cases e:l<n+(runEnd mask x.1-x.1+1)
    ·rw[show l=n+(l-n)by lia,at_ (l-n) (by lia)];exact no _ (by lia)
    ·exact d l (by lia) l2
structure Lay(mask:Nat)(hs:List Int)(ow:Array (Option Nat))(k:Nat):Prop where
 sz:ow.size=mask+1
 lo:∀(j i:Nat),ow[j]? = some (some i)->i<k
 one:∀(j j' i:Nat),ow[j]? = some (some i)->ow[j']? = some (some i)->j=j'
 all:∀i h,i<k->hs[i]? = some h->∃j:Nat,ow[j]? = some (some i)/\Reach mask (λj=>∃i,ow[j]? = some (some i)) h j
theorem t5{mask:Nat}(hM:Mk mask){hs:List Int}{ow:Array (Option Nat)}{k:Nat}(L:Lay mask hs ow k)(hk:k<=mask):∃j,j<=mask/\Fa ow j:=by
 refine Classical.byContradiction λg=>?_
 have:∀j,j<mask+1->∃i,ow[j]? = some (some i):=λj hj=>by
  cases q:ow[j]? with
  |none=>have:=Array.getElem?_eq_none_iff.mp q;have:=L.sz;lia
  |some x=>
   cases x with
   |none=>exact absurd ⟨j,by lia,kN.mpr q⟩ g
   |some i=>exact⟨i,rfl⟩
 -- more places than things
 have len:=long k ((bu k)) λj hj=>List.mem_range.mpr hj
 have inj:∀n,n<=mask+1->∃l:List Nat,l.Nodup/\l.length=n/\∀i∈l,∃j,j<n/\ow[j]? = some (some i):=by
  intro n
  induction n with
  |zero=>exact λ_=>⟨[],List.nodup_nil,rfl,by simp⟩
  |succ n ih=>
   intro hn;obtain⟨l,a,b,c⟩:=ih (by lia);obtain⟨i,hi⟩:=this n (by lia);refine⟨i::l,List.nodup_cons.mpr ⟨λhm=>?_,a⟩,by simp[b],λx hx=>?_⟩
   ·obtain⟨j,h1,h2⟩:=c i hm;have:=L.one _ _ _ hi h2;lia
   ·rcases aF.mp hx with rfl|hx
    ·exact⟨n,by lia,hi⟩
    ·obtain⟨j,h1,h2⟩:=c x hx;exact⟨j,by lia,h2⟩
 obtain⟨l,a,b,c⟩:=inj (mask+1) (aD _);have sub:∀i∈l,i<k:=λi hi=>by obtain⟨j,_,h2⟩:=c i hi;exact L.lo _ _ h2
 have:l.length<=(bu k).length:=by
  have:∀(l r:List Nat),l.Nodup->(∀i∈l,i∈r)->l.length<=r.length:=by
   intro l
   induction l with
   |nil=>intro r _ _;exact br _
   |cons a l ih=>
    intro r hn hs;rw[List.nodup_cons]at hn;have:=ih (r.erase a) hn.2 λi hi=>(List.mem_erase_of_ne (a:=i) (b:=a) (λe=>hn.1 (by rw[<-e];exact hi))).mpr (hs i (aM _ hi))
    have b:=List.length_erase_of_mem (hs a aO);have c:=List.length_pos_of_mem (hs a aO);simp only[cf];lia
  exact this _ _ a λi hi=>List.mem_range.mpr (sub i hi)
 rw[List.length_range]at this;lia
theorem yG{mask:Nat}(hM:Mk mask){hs:List Int}{ow:Array (Option Nat)}{k:Nat}(L:Lay mask hs ow k)(hk:k<=mask){h:Int}(hh:hs[k]? = some h) :
  ∃j,layClean.free mask ow (turns mask) (bits h%(mask+1)) (bits h)=some j/\Lay mask hs (ow.setIfInBounds j (some k)) (k+1):=by
 obtain⟨j0,h1,h2⟩:=t5 hM L hk;have o:=hJ mask h 0;have hx:bits h%(mask+1)<=mask:=Nat.le_of_lt_succ (Nat.mod_lt _ (Nat.succ_pos _));obtain⟨c,h3,h4⟩:=rC hM (x:=(bits h%(mask+1),bits h)) o.pt hx h1;obtain⟨m,_,a,b,d⟩:=oH (h:=h) (ow:=ow) c (turns mask) 0 (bits h%(mask+1),bits h) (by unfold turns;lia) hx rfl (by rw[h4];exact h2);have jl:(pr mask h m).j<=mask:=lE ..;have hf:=kN.mp b;have old:∀{x i:Nat},ow[x]? = some (some i)->(ow.setIfInBounds (pr mask h m).j (some k))[x]? = some (some i):=λ{x i} e=>by
  rw[Array.getElem?_setIfInBounds,if_neg];· exact e
  ·intro q;rw[q,e]at hf;cases hf
 have new:(ow.setIfInBounds (pr mask h m).j (some k))[(pr mask h m).j]? = some (some k):=by
  rw[Array.getElem?_setIfInBounds,if_pos rfl,if_pos (by rw[L.sz];lia)]
 have inv:∀{x i:Nat},(ow.setIfInBounds (pr mask h m).j (some k))[x]? = some (some i)->(x=(pr mask h m).j/\i=k)\/ow[x]? = some (some i):=λ{x i} e=>by
  rw[Array.getElem?_setIfInBounds]at e;split at e
  ·rename_i q
   rw[if_pos (by rw[L.sz];lia)]at e;cases e;exact .inl ⟨q.symm,rfl⟩
  ·exact .inr e
 refine⟨_,a,⟨by rw[Array.size_setIfInBounds];exact L.sz,λx i e=>?_,λx y i e e'=>?_,λi g hi hg=>?_⟩⟩
 ·rcases inv e with ⟨_,rfl⟩|e
  ·lia
  ·have:=L.lo _ _ e;lia
 ·rcases inv e with ⟨e1,e0⟩|e1<;>rcases inv e' with ⟨e2,e3⟩|e2
  ·rw[e1,e2]
  ·have:=L.lo _ _ e2;lia
  ·have:=L.lo _ _ e1;lia
  ·exact L.one _ _ _ e1 e2
 ·by_cases hik:i=k
  ·subst hik;rw[hh]at hg;cases hg;refine⟨_,new,m,rfl,λl hl=>?_⟩;have nf:=d l (br _) hl;cases q:ow[(pr mask h l).j]? with
   |none=>have:=Array.getElem?_eq_none_iff.mp q;have:=L.sz;have:=lE mask h l;lia
   |some y=>
    cases y with
    |none=>exact absurd (kN.mpr q) nf
    |some i=>exact⟨i,old q⟩
  ·obtain⟨j,e,r⟩:=L.all i g (by lia) hg;exact⟨j,old e,r.mono λj ⟨i,e⟩=>⟨i,old e⟩⟩
noncomputable def kL(mask:Nat):Option (Array (Option Nat)×Nat)->Int->Option (Array (Option Nat)×Nat):=λacc h=>do
  let (owner,k) <-acc
  let j <-layClean.free mask owner (turns mask) (bits h%(mask+1)) (bits h)
  pure (owner.setIfInBounds j (some k),k+1)
theorem mG{mask:Nat}(hM:Mk mask):∀(ls dn:List Int) (ow:Array (Option Nat)),(dn++ls).length<=mask+1->Lay mask (dn++ls) ow dn.length ->
  ∃ow',ls.foldl (kL mask) (some (ow,dn.length))=some (ow',(dn++ls).length)/\Lay mask (dn++ls) ow' (dn++ls).length
 | [],dn,ow,hl,L=>⟨ow,by simp,by simpa using L⟩
 |h::ls,dn,ow,hl,L=>by
  have hl':=hl;simp only[cb,cf]at hl';obtain⟨j,e,L'⟩:=yG hM L (by lia) (h:=h) (by simp);have e1:dn++h::ls=dn++[h]++ls:=by simp
  have:=mG hM ls (dn++[h]) (ow.setIfInBounds j (some dn.length)) (by rw[<-e1];exact hl) (by rw[<-e1];simpa using L');obtain⟨ow',a,b⟩:=this;refine⟨ow',?_,by rw[e1];exact b⟩;rw[List.foldl_cons,e1,<-a]
  congr 1
  simp only[kL,e,aL,Option.bind_some];simp
theorem C9{mask:Nat}(hM:Mk mask)(hs:List Int)(hl:hs.length<=mask+1):∃ow,layClean mask hs.toArray=some ow/\Lay mask hs ow hs.length:=by
 have L0:Lay mask ([]++hs) (Array.replicate (mask+1) none) ([]:List Int).length:=by
  have no:∀(x i:Nat),(Array.replicate (mask+1) (none:Option Nat))[x]?≠some (some i):=λx i e=>by
   rw[Array.getElem?_replicate]at e;split at e<;>cases e
  exact⟨by simp,λj i e=>absurd e (no j i),λj _ i e=>absurd e (no j i),λi g hi=>by simp at hi⟩
 obtain⟨ow,a,b⟩:=mG hM hs [] _ (by simpa using hl) L0;refine⟨ow,?_,by simpa using b⟩;show (Array.foldl (kL mask) (some (Array.replicate (mask+1) none,0)) hs.toArray).map (·.1)=some ow;rw[<-Array.foldl_toList];rw[show hs.toArray.toList=hs from rfl];rw[show (some (Array.replicate (mask+1) (none:Option Nat),0))=some (Array.replicate (mask+1) none,([]:List Int).length)from rfl,a]
 rfl
theorem jE(ow:Array (Option Nat)):∀l:List Nat,(l.filterMap λj=>(ow.getD j none).map (j,·)).map (·.1)=l.filter λj=>(ow.getD j none).isSome
 | []=>rfl
 |j::l=>by
  cases q:ow.getD j none with
  |none=>rw[List.filterMap_cons_none (by rw[q];rfl),List.filter_cons_of_neg (by rw[q];simp)];exact jE ow l
  |some i=>rw[List.filterMap_cons_some (by rw[q];rfl),List.filter_cons_of_pos (by rw[q];simp),aQ,jE ow l]
theorem yI{ow:Array (Option Nat)}{mask:Nat}(hz:ow.size=mask+1){j i:Nat}:(j,i)∈((bu (mask+1)).filterMap λj=>(ow.getD j none).map (j,·))↔ow[j]? = some (some i):=by
 rw[List.mem_filterMap];constructor
 ·rintro⟨x,_,e⟩;rw[bB]at e;obtain⟨y,e1,e2⟩:=e;cases e2;rw[Array.getD_eq_getD_getElem?]at e1;cases q:ow[j]? with
  |none=>rw[q]at e1;cases e1
  |some z=>rw[q]at e1;rw[show z=some i from e1]
 ·intro e;have:=(Array.getElem?_eq_some_iff.mp e).1;exact⟨j,List.mem_range.mpr (by lia),by rw[Array.getD_eq_getD_getElem?,e];rfl⟩
theorem relaid{mask:Nat}(hM:Mk mask)(hs:List Int)(hl:hs.length<=mask+1)(fi mo:Nat)(le pl:Bool) :
  ∃t' order,laid mask fi mo le pl hs.toArray=some (t',order)/\order.toList.Perm (bu hs.length)/\Good t' (order.toList.filterMap (hs[·]?))/\t'.mask=mask/\t'.led=le/\t'.plain=pl/\t'.moves=mo:=by
 obtain⟨ow,a,L⟩:=C9 hM hs hl;generalize hv:((bu (mask+1)).filterMap λj=>(ow.getD j none).map (j,·))=live;have mem:∀{j i:Nat},(j,i)∈live↔ow[j]? = some (some i):=λ{j i}=>by rw[<-hv];exact yI L.sz
 have fst:live.map (·.1)=(bu (mask+1)).filter λj=>(ow.getD j none).isSome:=by rw[<-hv];exact jE ow _
 have ri:(live.map (·.1)).Pairwise (· < ·):=by rw[fst];exact List.pairwise_lt_range.filter _
 have nd:(live.map (·.2)).Nodup:=by
  have:live.Pairwise λx y=>x.1<y.1:=List.pairwise_map.mp ri
  unfold List.Nodup;rw[List.pairwise_map];refine(List.Pairwise.and_mem.mp this).imp λ{x y} ⟨hx,hy,hlt⟩ e=>?_
  have e1:=mem.mp (show (x.1,x.2)∈live from hx);have e2:=mem.mp (show (y.1,y.2)∈live from hy);rw[<-e]at e2;have:=L.one _ _ _ e1 e2;lia
 have pm:(live.map (·.2)).Perm (bu hs.length):=by
  refine(List.perm_ext_iff_of_nodup nd List.nodup_range).mpr λi=>?_
  rw[aP,List.mem_range];constructor
  ·rintro⟨⟨j,x⟩,h1,rfl⟩;exact L.lo _ _ (mem.mp h1)
  ·intro hi;obtain⟨j,e,_⟩:=L.all i (hs[i]) hi (List.getElem?_eq_getElem hi);exact⟨(j,i),mem.mpr e,rfl⟩
 refine⟨{mask,place:=(live.map (·.1)).toArray,dummies:=#[],finger:=fi,led:=le,moves:=mo,plain:=pl},(live.map (·.2)).toArray,?_,?_⟩
 ·unfold laid;rw[a];simp only[aL,Option.bind_some];rw[hv];rfl
 ·refine⟨pm,?_,rfl,rfl,rfl,rfl⟩;have okk:∀x∈live.map (·.2),(hs[x]?).isSome=true:=λx hx=>by
   have:=List.mem_range.mp (pm.mem_iff.mp hx);rw[List.getElem?_eq_getElem this];rfl
  have ln:((live.map (·.2)).filterMap (hs[·]?)).length=live.length:=by
   have:((live.map (·.2)).filterMap (hs[·]?)).Perm hs:=by
    refine(pm.filterMap _).trans ?_;rw[List.filterMap_getElem?_range_length]
   have p2:=pm.length_eq;rw[this.length_eq];simp at p2;lia
  refine⟨hM,rfl,?_,ri,λj hj=>?_,?_⟩
  ·show (live.map (·.1)).toArray.size=((live.map (·.2)).filterMap (hs[·]?)).length;rw[ln];simp
  ·rw[show (live.map (·.1)).toArray.toList=live.map (·.1)from rfl,fst,bP,List.mem_range]at hj;exact Nat.le_of_lt_succ hj.1
  ·rintro⟨j,g⟩ hx;obtain⟨i,hi⟩:=List.mem_iff_getElem?.mp hx;have hz:=List.getElem?_zip_eq_some.mp hi;have h1:=hz.1;have h2:=hz.2;rw[show (live.map (·.1)).toArray.toList=live.map (·.1)from rfl,List.getElem?_map]at h1;rw[show (live.map (·.2)).toArray.toList=live.map (·.2)from rfl,rP okk,List.getElem?_map]at h2;cases q:live[i]? with
   |none=>rw[q]at h1;cases h1
   |some y=>
    rw[q]at h1 h2;cases h1;obtain⟨j',e,r⟩:=L.all y.2 g (by have:=okk y.2 (aP.mpr ⟨y,List.mem_of_getElem? q,rfl⟩);rw[Option.isSome_iff_exists]at this;obtain⟨_,this⟩:=this;exact(List.getElem?_eq_some_iff.mp this).1) h2;have e2:=mem.mp (show (y.1,y.2)∈live from List.mem_of_getElem? q);have:=L.one _ _ _ e e2;subst this;exact r.mono λj ⟨i,e⟩=>by
     rw[show (live.map (·.1)).toArray.toList=live.map (·.1)from rfl];exact aP.mpr ⟨(j,i),mem.mpr e,rfl⟩
end ST
namespace ST
open PySem PySem.Spec PySem.SetTable
section
variable{K:Type} [DecidableEq K]
noncomputable def ent(hash:K->Int)(x:K×ae):Int×Value:=(hash x.1,x.2)
noncomputable def eh(es:List (Int×ae))(ep:Nat)(t:aZ):Obj:={cls:=.type "set",dict:=none,data:=.set es.toArray ep t,slots:=#[]}
structure Tb(w:av)(hash:K->Int)(xs:List (K×ae))(t:aZ):Prop where
 good:Good t (xs.map λx=>hash x.1)
 few:xs.length * 5<t.mask * 3
 led:t.led = !w.params.followText "set-order"
 plain:t.plain=true
 nd:(xs.map (·.1)).Nodup
noncomputable def fH(w:av)(hash:K->Int)(xs:List (K×ae))(o:Obj):Prop:=∃ep t,o=eh (xs.map (ent hash)) ep t/\Tb w hash xs t
variable{w:av}{hash:K->Int}{xs:List (K×ae)}{t:aZ}
theorem Tb.fits(T:Tb w hash xs t):t.fits (xs.map (ent hash)).toArray.size=true:=by
 have:=T.good.fits (by rw[aR];have:=T.few;rcases T.good.ma with h|h|h<;>rw[h]at this ⊢ <;> lia)
 simpa using this
theorem Tb.nil(fi mo:Nat):Tb w hash [] (.fresh fi mo (!w.params.followText "set-order")):=by
 refine⟨⟨.inl rfl,rfl,rfl,.nil,(λj h=>absurd h (by simp[aZ.fresh])),(λjh h=>absurd h (by simp[aZ.fresh]))⟩,by show 0 * 5<7 * 3;lia,rfl,rfl,.nil⟩
theorem DT(hash:K->Int)(es:List (K×ae))(p:Nat)(x:K×ae):insertAt (es.map (ent hash)).toArray p (hash x.1,x.2)=((es.take p++x::es.drop p).map (ent hash)).toArray:=by
 apply Array.toList_inj.mp;rw[aZ.toList_insertAt];simp[ent]
theorem Tb.put(T:Tb w hash xs t){k:K}{v:ae}{j:Nat}(hj:j∉t.place.toList)(hR:Reach t.mask (·∈t.place.toList) (hash k) j)(hk:k∉xs.map (·.1)) :
  ∃p,t.put j=({t with place:=insertAt t.place p j},p)/\Good {t with place:=insertAt t.place p j} ((xs.take p++(k,v)::xs.drop p).map λx=>hash x.1) /\
   (xs.take p++(k,v)::xs.drop p).Perm (xs++[(k,v)])/\((xs.take p++(k,v)::xs.drop p).map (·.1)).Nodup:=by
 obtain⟨a,b,c⟩:=T.good.put hj hR;have pm:(xs.take (below t.place j)++(k,v)::xs.drop (below t.place j)).Perm (xs++[(k,v)]):=by
  refine List.perm_middle.trans ?_;rw[bE];exact(List.perm_append_singleton _ _).symm
 refine⟨below t.place j,a,?_,pm,?_⟩
 ·simpa[List.map_append,List.map_take,List.map_drop]using c
 ·refine((pm.map (·.1)).nodup_iff).mpr ?_;rw[List.map_append,List.nodup_append];exact⟨T.nd,by simp,λa ha b hb=>by simp at hb;subst hb;exact λe=>hk (e▸ha)⟩
theorem BI{n:Nat}(hn:n+1<64)(hm:Mk t.mask)(hd:t.dummies = #[])(hl:t.place.size=n+1)(hf:n * 5<t.mask * 3) :
  (t.tooFull=false/\(n+1) * 5<t.mask * 3)\/(t.tooFull=true/\∃m,Mk m/\sizeAbove (grown (n+1))-1=m/\sizeAbove (grown (n+1))<=128/\n+1<=m+1/\(n+1) * 5<m * 3):=by
 have e:t.tooFull=decide ((n+1) * 5 >= t.mask * 3):=by unfold tooFull fill;rw[hd,hl];rfl
 rw[e];by_cases q:(n+1) * 5 >= t.mask * 3
 ·refine .inr ⟨by simpa using q,?_⟩;rcases hm with h|h|h<;>rw[h]at q hf
  ·obtain rfl:n=4:=by lia
   exact⟨31,.inr (.inl rfl),by decide,by decide,by lia,by lia⟩
  ·obtain rfl:n=18:=by lia
   exact⟨127,.inr (.inr rfl),by decide,by decide,by lia,by lia⟩
  ·lia
 ·exact .inl ⟨by simpa using q,by lia⟩
theorem BR{t:aZ}{ys:List (K×ae)}{n m:Nat}(hM:Mk m)(hs:sizeAbove (grown (n+1))-1=m)(hl:n+1<=m+1)(hq:(n+1) * 5<m * 3)(hn:ys.length=n+1)(led:t.led = !w.params.followText "set-order")(plain:t.plain=true)(nd:(ys.map (·.1)).Nodup) :
  ∃t' order zs,t.relaid ((ys.map (ent hash)).toArray.map (·.1)) (grown (n+1))=some (t',order)/\order.filterMap ((ys.map (ent hash)).toArray[·]?)=(zs.map (ent hash)).toArray/\order.toList.Perm (bu (n+1))/\zs.Perm ys/\Tb w hash zs t':=by
 have e0:(ys.map (ent hash)).toArray.map (·.1)=(ys.map λx=>hash x.1).toArray:=by
  apply Array.toList_inj.mp;simp[ent,Function.comp_def]
 obtain⟨t',order,h1,h2,h3,h4,h5,h6,h7⟩:=relaid hM (ys.map λx=>hash x.1) (by rw[aR,hn];exact hl) t.finger (t.movedTo m) t.led t.plain;rw[aR,hn]at h2;have pz:(order.toList.filterMap (ys[·]?)).Perm ys:=by
  refine(h2.filterMap _).trans ?_;rw[<-hn,List.filterMap_getElem?_range_length]
 refine⟨t',order,order.toList.filterMap (ys[·]?),?_,?_,h2,pz,⟨?_,?_,h5.trans led,h6.trans plain,?_⟩⟩
 ·unfold aZ.relaid;rw[hs,e0];exact h1
 ·apply Array.toList_inj.mp;rw[Array.toList_filterMap,List.map_filterMap];refine congrArg (λf=>List.filterMap f order.toList) (funext λi=>?_);simp
 ·rw[List.map_filterMap];refine(congrArg (Good t') (congrArg (λf=>List.filterMap f order.toList) (funext λi=>?_))).mp h3;simp
 ·rw[pz.length_eq,hn,h4];exact hq
 ·exact((pz.map (·.1)).nodup_iff).mpr nd
end
section
variable{prog:aC}{w:av}{A:aA}{E:ae->af->Prop}{s:af}{K:Type} [DecidableEq K]{hash:K->Int}
theorem store{a:Addr}{es:List (Int×ae)}{ep:Nat}{t t':aZ}{es':Array (Int×ae)}{Q:Unit->af->Prop}(ho:s.heap.get? a=some (eh es ep t))(hz:es'.size<=aV)
  (h:∀h',Heap.SameBut a s.heap h'->h'.get? a=some (eh es'.toList (ep+1) t')->Q () {s with heap:=h'}):ak (aq prog w) A (storeSet a es' t') Q E s:=by
 refine wpAny_storeSet_of ho rfl (h _ (Heap.SameBut.update _ _ _) ?_) hz;have:=Heap.get?_update_self (Obj.putSet es' t') ho (by rw[putSet_of es' t' rfl];rfl);rw[putSet_of es' t' rfl]at this;rw[this];simp[eh]
end
section
variable{prog:aC}{w:av}{A:aA}{E:ae->af->Prop}{s:af}
theorem uF{t:aZ}{hs:List Int}(G:Good t hs)(hf:hs.length<=t.mask)(h:Int):∃m,m<10 * turns t.mask/\(pr t.mask h m).j∉t.place.toList/\∀k,k<m->(pr t.mask h k).j∈t.place.toList:=by
 obtain⟨m0,_,b0,c0⟩:=G.free hf h 0;obtain⟨m,_,b,c⟩:=G.go (λ_=>h+1) h (10 * turns t.mask) 0 ⟨m0,br _,b0,c0⟩;have occ:∀k,k<m->(pr t.mask h k).j∈t.place.toList:=λk hk=>by
  obtain⟨i,hi,_⟩:=b k (br _) hk;rw[<-Array.getElem?_toList]at hi;exact List.mem_of_getElem? hi
 rcases c with ⟨c,_⟩|⟨i,_,c,_⟩
 ·refine⟨m,?_,c,occ⟩;have:m<=m0:=dk λq=>c0 (occ m0 q)
  lia
 ·lia
end
section
variable{prog:aC}{w:av}{A:aA}{E:ae->af->Prop}{s:af}
end
section
variable{prog:aC}{w:av}{A:aA}{E:ae->af->Prop}{s:af}
theorem y6{K:Type} [DecidableEq K]{hash:K->Int}{xs:List (K×ae)}{t:aZ}(T:Tb w hash xs t):(xs.map λx=>hash x.1).length<=t.mask:=by
 rw[aR];have:=T.few;rcases T.good.ma with h|h|h<;>rw[h]at this ⊢ <;> lia
noncomputable def More{K:Type} [DecidableEq K](xs:List (K×ae))(k:K)(v:ae):List (K×ae):=if k∈xs.map (·.1)then xs else xs++[(k,v)]
noncomputable def lg(h:Heap)(k:Int)(v:ae):Prop:=∃t,v=.int k t
theorem elems{xs:List (Int×ae)}{h:Heap}(hel:∀x∈xs,lg h x.1 x.2):ElemsOf (intKind prog w) (xs.map (ent hashInt)):=by
 intro e he;obtain⟨x,hx,rfl⟩:=aP.mp he;obtain⟨t,e⟩:=hel x hx;have e2:(ent hashInt x).2=.int x.1 t:=e;rw[e2];exact⟨⟨x.1,intKind_is _ _ _ _,rfl⟩,rfl⟩
theorem vm{a:Addr}{xs:List (Int×ae)}{k:Int}{tk:Tok}{o:Obj}(ho:s.heap.get? a=some o)(hS:fH w hashInt xs o)
  (hel:∀x∈xs,lg s.heap x.1 x.2) (hn:xs.length+1<64) {Q:Bool->af->Prop}
  (h:∀b h' ys,Heap.SameBut a s.heap h'->(∃o,h'.get? a=some o/\fH w hashInt ys o)->ys.Perm (More xs k (.int k tk))->Q b {s with heap:=h'}) :
  ak (aq prog w) A (setAddHashed a (.int k tk) (hashInt k)) Q E s:=by
 obtain⟨ep,t,rfl,T⟩:=hS;have EL:ElemsOf (intKind prog w) (xs.map (ent hashInt)).toArray.toList:=elems hel;obtain⟨ms,m1,m2,m3⟩:=uF T.good (y6 T) (hashInt k);have e:s={s with heap:=s.heap}:=by cases s;rfl
 have hb:(xs.map (ent hashInt)).toArray.size<scanBound:=by simp[scanBound];lia
 unfold setAddHashed;refine bF ?_;unfold setAddHashedIn;refine ag (wpAny_setState_of ho rfl T.fits ?_);dsimp only;rw[byScan_of (knd:=intKind prog w) rfl hb EL];simp only[↓reduceIte];unfold setAddByScan;refine ag ?_;refine ag (wpAny_rule ?_);refine ag (wpAny_setScan_of (knd:=intKind prog w) (k:=k) (intKind_is _ _ _ _) ho rfl T.fits EL ?_);have is_:∀(x:Int×ae),x∈xs->((intKind prog w).is k (ent hashInt x).2=true↔x.1=k):=λx hx=>by
  obtain⟨t,e⟩:=hel x hx;have e2:(ent hashInt x).2=.int x.1 t:=e;rw[e2];constructor
  ·intro q;exact((intKind prog w).inj _ _ _ q (intKind_is _ _ _ _)).symm
  ·intro q;rw[q];exact intKind_is _ _ _ _
 cases hr:List.findIdx? (λe=>(intKind prog w).is k e.2) (xs.map (ent hashInt)).toArray.toList with
 |some j=>
  dsimp only;obtain⟨hj,hpj,_⟩:=List.findIdx?_eq_some_iff_getElem.mp hr;have hm:k∈xs.map (·.1):=by
   have hj':j<xs.length:=by simpa using hj
   have q:(intKind prog w).is k (ent hashInt xs[j]).2=true:=by simpa using hpj
   exact aP.mpr ⟨xs[j],cK _,(is_ _ (cK _)).mp q⟩
  refine aw (aw ?_);have:=h false s.heap xs (Heap.SameBut.refl a s.heap) ⟨_,ho,ep,t,rfl,T⟩ (by rw[More,if_pos hm]);rw[e];exact this
 |none=>
  dsimp only;have hm:k∉xs.map (·.1):=λhm=>by
   obtain⟨x,hx,e⟩:=aP.mp hm;have:=List.findIdx?_eq_none_iff.mp hr (ent hashInt x) (aP.mpr ⟨x,hx,rfl⟩);rw[(is_ x hx).mpr e]at this;cases this
  obtain⟨p,e1,g,pm,nd⟩:=T.put (k:=k) (v:=.int k tk) m2 ⟨ms,rfl,m3⟩ hm;have e2:insertAt (xs.map (ent hashInt)).toArray p (hashInt k,.int k tk)=((xs.take p++(k,.int k tk)::xs.drop p).map (ent hashInt)).toArray:=DT hashInt xs p (k,.int k tk);have fr:t.freeSlot (hashInt k)=some ((pr t.mask (hashInt k) ms).j,false):=by
   obtain⟨m,a1,a2,a3⟩:=T.good.go (λ_=>hashInt k+1) (hashInt k) (10 * turns t.mask) 0 ⟨ms,br _,by lia,m2⟩;have occ:∀l,l<m->(pr t.mask (hashInt k) l).j∈t.place.toList:=λl hl=>by
    obtain⟨i,hi,_⟩:=a2 l (br _) hl;rw[<-Array.getElem?_toList]at hi;exact List.mem_of_getElem? hi
   rcases a3 with ⟨b1,b2⟩|⟨i,_,b,_⟩
   ·have:m=ms:=Nat.le_antisymm (dk λq=>m2 (occ ms q)) (dk λq=>b1 (m3 m q));subst this;unfold freeSlot probe;rw[xB,b2];rfl
   ·lia
  generalize hy:xs.take p++(k,.int k tk)::xs.drop p=ys at *;have hl:ys.length=xs.length+1:=by rw[pm.length_eq];simp
  have zl:ys.length<=sizeLine:=by rw[hl,bt];lia
  have ft:({t with place:=insertAt t.place p (pr t.mask (hashInt k) ms).j}:aZ).fits (ys.map (ent hashInt)).toArray.size=true:=by
   have:=g.fits (by rw[aR,hl];have:=T.few;show _<=t.mask;rcases T.good.ma with h|h|h<;>rw[h]at this ⊢ <;> lia)
   simpa using this
  have ly:layNew t (xs.map (ent hashInt)).toArray (hashInt k) (.int k tk)=((ys.map (ent hashInt)).toArray,{t with place:=insertAt t.place p (pr t.mask (hashInt k) ms).j},false,false):=by
   unfold layNew;rw[fr];dsimp only;rw[e1];dsimp only;rw[e2];unfold orStandIn;rw[ft];rfl
  have hr':(intKind prog w).hash k=hashInt k:=rfl;rw[ly];dsimp only;refine ag (aw ?_);rw[show ({t with place:=insertAt t.place p (pr t.mask (hashInt k) ms).j}:aZ).plain=true from T.plain];simp only[if_true];rw[hashByValue_scannable 8 rfl];refine ag (aw ?_);simp only[plainKind,if_true];have len:=g.len;rw[aR,hl]at len;have gt:∀{tt:aZ},tt={t with place:=insertAt t.place p (pr t.mask (hashInt k) ms).j}->ak (aq prog w) A (do
    storeSet a (ys.map (ent hashInt)).toArray tt
    if (!false&&tt.tooFull)=true then do
      (match (relayAll tt (ys.map (ent hashInt)).toArray (aZ.grown (ys.map (ent hashInt)).toArray.size)).2.2 with|true=>rule "set.scan.the-table-gave-way" |false=>pure ())
      storeSet a (relayAll tt (ys.map (ent hashInt)).toArray (aZ.grown (ys.map (ent hashInt)).toArray.size)).1 (relayAll tt (ys.map (ent hashInt)).toArray (aZ.grown (ys.map (ent hashInt)).toArray.size)).2.1
      pure (some true)
     else pure (some true)) (λx s'=>ak (aq prog w) A (match x with|some added=>pure added|none=>setAddHashedIn a (.int k tk) (hashInt k) 99999) Q E s') E s:=by
   rintro _ rfl;refine ag (store ho (by simpa using zl) λh1 sb1 o1=>?_);rcases BI (t:={t with place:=insertAt t.place p (pr t.mask (hashInt k) ms).j}) hn T.good.ma T.good.dum len T.few with ⟨f,few⟩|⟨f,m,hM,hs,hsl,hl',hq⟩
   ·rw[f];simp only[Bool.not_false,Bool.and_false,a_,if_false];exact aw (aw (h true h1 ys sb1 ⟨_,o1,ep+1,_,rfl,⟨g,by rw[hl];exact few,T.led,T.plain,nd⟩⟩ (by rw[More,if_neg hm];exact pm)))
   ·rw[f];simp only[Bool.not_false,Bool.and_self,if_true];obtain⟨t',order,zs,r1,r2,r3,r4,r5⟩:=BR (w:=w) (hash:=hashInt) (t:={t with place:=insertAt t.place p (pr t.mask (hashInt k) ms).j}) hM hs hl' hq hl T.led T.plain nd;have zs_l:zs.length=ys.length:=r4.length_eq;have ra:relayAll {t with place:=insertAt t.place p (pr t.mask (hashInt k) ms).j} (ys.map (ent hashInt)).toArray (aZ.grown (ys.map (ent hashInt)).toArray.size)=((zs.map (ent hashInt)).toArray,t',false):=by
     unfold relayAll;rw[show (ys.map (ent hashInt)).toArray.size=xs.length+1 by simp[hl],r1];dsimp only;rw[r2];have ca:coversAll order (xs.length+1)=true:=List.isPerm_iff.mpr r3;rw[ca,r5.fits];rfl
    rw[ra];dsimp only;refine ag (aw ?_);refine ag (store (es:=ys.map (ent hashInt)) (ep:=ep+1) o1 (by simp[zs_l];exact zl) λh2 sb2 o2=>?_);exact aw (aw (h true h2 zs (sb1.trans sb2) ⟨_,o2,ep+1+1,t',rfl,r5⟩ (by rw[More,if_neg hm];exact r4.trans pm)))
  refine gt ?_;rw[<-T.plain]
end
structure Kd(prog:aC)(w:av)(K:Type) [DecidableEq K] where
 hash:K->Int
 el:Heap->K->ae->Prop
 grow:∀{h h':Heap}{k:K}{v:ae},el h k v->(∀b o,h.get? b=some o->h'.get? b=some o)->el h' k v
 room:aA->Prop
 pyHash:∀{A:aA}{E:ae->af->Prop}{s:af}{k:K}{v:ae}{Q:Int->af->Prop},room A->el s.heap k v->(∀tk,s.toks<=tk->Q (hash k) {s with toks:=tk})->ak (aq prog w) A (pyHash v) Q E s
 add:∀{A:aA}{E:ae->af->Prop}{s:af}{a:Addr}{xs:List (K×ae)}{k:K}{v:ae}{o:Obj}{Q:Bool->af->Prop},room A->s.heap.get? a=some o->fH w hash xs o ->
  (∀x∈xs,el s.heap x.1 x.2)->el s.heap k v->xs.length+1<64 ->
  (∀b h' ys,Heap.SameBut a s.heap h'->(∃o,h'.get? a=some o/\fH w hash ys o)->ys.Perm (More xs k v)->Q b {s with heap:=h'})->ak (aq prog w) A (setAddHashed a v (hash k)) Q E s
noncomputable def inK(prog:aC)(w:av):Kd prog w Int where
 hash:=hashInt
 el:=lg
 grow:=λh _=>h
 room:=λ_=>True
 pyHash:=λ_ ⟨t,e⟩ h=>by subst e;exact wpAny_pyHash_int (h _ (Nat.le_succ _))
 add:=λ_ ho hS hel ⟨t,e⟩ hn h=>by subst e;exact vm ho hS hel hn h
section
variable{prog:aC}{w:av}{K:Type} [DecidableEq K](D:Kd prog w K)
noncomputable def Holds(h0 h:Heap)(a:Addr)(keys:Nat->K)(i:Nat):Prop:=∃o xs,h.get? a=some o/\fH w D.hash xs o/\(∀x∈xs,D.el h0 x.1 x.2)/\(∀k,k∈xs.map (·.1)↔∃j,j<i/\keys j=k)/\xs.length<=i
variable{D}
variable{A:aA}{R:Result->af->Prop}{I:Addr}{fp wr:List Addr}{G:Array GenState->Array GenState->Prop}{n:Nat}{P:Nat->ae->Prop}{St:Nat->af->Prop}
theorem loop(W:WalksS prog w A.in1 I fp wr G n P St)(hu:D.room A.in1)(S:Addr)(hSf:S∉fp){h0:Heap}(hS0:h0.get? S=none)(hwr:∀b∈wr,h0.get? b=none)
  (keys:Nat->K) (hval:∀i v,P i v->D.el h0 (keys i) v) (hb:n<64) :
  ∀(k i:Nat) (s:af),n-i=k->i<=n->St i s->(∀b o,h0.get? b=some o->s.heap.get? b=some o)->Holds D h0 s.heap S keys i ->
   (∀s',Moved (S::wr) G s s'->Holds D h0 s'.heap S keys n->R (.ok (.ret .none)) s') ->
   codeAny (aq prog w) A (.builtin "set.update.loop" ⟨[.ref S,.ref I],[]⟩) R s:=by
 have hSw:S∉wr:=λh=>hSf (W.sub _ h)
 have hsub:∀b∈wr,b∈S::wr:=λb hb=>aM _ hb
 intro k
 induction k with
 |zero=>
  intro i s hk hi hst hk0 hS hR;have hin:i=n:=by lia
  subst hin;refine bV PyProof.Rows.F.entry_set_update_loop ?_;rw[cn PyProof.Rows.F.plain_set_update_loop _];show ak _ A.in1 (pyNext (.ref I)>>=_) _ _ s;refine ag (W.done s _ _ hst λs' hm=>?_);show ak _ A.in1 (ret bW) _ _ s';obtain⟨o,xs,ho,r⟩:=hS;exact aw (hR s' (hm.mono hsub) ⟨o,xs,hm.heap S _ hSw ho,r⟩)
 |succ k ih=>
  intro i s hk hi hst hk0 hS hR;have hlt:i<n:=by lia
  refine bV PyProof.Rows.F.entry_set_update_loop ?_;rw[cn PyProof.Rows.F.plain_set_update_loop _];show ak _ A.in1 (pyNext (.ref I)>>=_) _ _ s;refine ag (W.item i s _ _ hlt hst λv s' hP hst' hm=>?_);have hel:=hval i v hP;obtain⟨o,xs,ho,r1,r2,r3,r4⟩:=hS;have hk1:∀b o,h0.get? b=some o->s'.heap.get? b=some o:=λb o e=>hm.heap b o (λq=>by rw[hwr b q]at e;cases e) (hk0 b o e)
  have ho':=hm.heap S _ hSw ho;show ak _ A.in1 (holding [v] (setAdd S v)>>=_) _ _ s';refine ag (bF ?_);unfold setAdd;refine bF ?_;refine ag (D.pyHash hu (D.grow hel hk1) λtk htk=>?_);refine D.add (s:={s' with toks:=tk}) hu ho' r1 (λx hx=>D.grow (r2 x hx) hk1) (D.grow hel hk1) (by lia) λb h' ys sb hS2 pm=>?_
  have hk2:∀b o,h0.get? b=some o->h'.get? b=some o:=λb o e=>by
   rw[sb.2 b (λh:b=S=>by rw[h,hS0]at e;cases e)];exact hk1 b o e
  have hS3:Holds D h0 h' S keys (i+1):=by
   obtain⟨o2,ho2,si⟩:=hS2;refine⟨o2,ys,ho2,si,λx hx=>?_,λk'=>?_,?_⟩
   ·have:=pm.mem_iff.mp hx;unfold More at this;split at this
    ·exact r2 x this
    ·rcases List.mem_append.mp this with q|q
     ·exact r2 x q
     ·rw[List.mem_singleton.mp q];exact hel
   ·rw[(pm.map (·.1)).mem_iff];have:(∃j,j<i+1/\keys j=k')↔(∃j,j<i/\keys j=k')\/keys i=k':=by
     constructor
     ·rintro⟨j,a,b⟩;rcases Nat.lt_succ_iff_lt_or_eq.mp a with q|q
      ·exact .inl ⟨j,q,b⟩
      ·subst q;exact .inr b
     ·rintro(⟨j,a,b⟩|b)
      ·exact⟨j,by lia,b⟩
      ·exact⟨i,by lia,b⟩
    rw[this,<-r3 k'];unfold More;split
    ·rename_i q
     exact⟨.inl,λh=>h.elim id λe=>e▸q⟩
    ·rw[List.map_append,List.mem_append];simp only[aQ,List.map_nil,List.mem_singleton];exact⟨λh=>h.imp id Eq.symm,λh=>h.imp id Eq.symm⟩
   ·rw[pm.length_eq];unfold More;split
    ·lia
    ·simp;lia
  refine aw ⟨plainId_quiet PyProof.Rows.F.plain_set_update_loop _,ih (i+1) _ (by lia) hlt (W.frame _ s' _ _ hst' htk λb hb o e=>?_) hk2 hS3 λs'' hm'' hS''=>?_⟩
  ·rw[sb.2 b (λh:b=S=>hSf (by rw[<-h];exact hb))];exact e
  ·refine hR s'' (Moved.trans W.gtrans ((hm.mono hsub).then_heap htk λb o hb e=>?_) hm'') hS'';rw[sb.2 b (λh:b=S=>hb (by rw[h];exact aO))];exact e
end
abbrev dY(w:av):Obj:={cls:=.type "set",dict:=none,data:=.set #[] 0 (.fresh 0 0 (!w.params.followText "set-order"))}
section
variable{prog:aC}{w:av}{A:aA}{E:ae->af->Prop}{s:af}{K:Type} [DecidableEq K]{D:Kd prog w K}
theorem C6(a:ae){Q₁:ae->af->Prop}(h:Q₁ (.ref s.heap.objs.size) {s with heap:=s.heap.push (dY w)}) :
  codeAny (aq prog w) A (.call (.builtin "set.__new__") ⟨[.type "set",a],[]⟩) (wants Q₁ E) s:=by
 refine codeAny_of_tree ?_;show ak _ A.in1 (do checkBuiltinCall "set.__new__" ⟨[.type "set",a],[]⟩;again (.builtin "set.__new__" ⟨[.type "set",a],[]⟩)) _ _ s;refine ag (wpAny_of_eq (F.newCall_set_1 a) (aw ⟨plainId_quiet F.plain_set_new _,bV F.entry_set_new ?_⟩));rw[cn F.plain_set_new _];unfold Builtin.«set.__new__» Builtin.Frozenset.newClass;have hsub:=sub_set_self;obtain⟨hp,g,d,tk,os⟩:=s;dsimp only
 wp_walk
 refine wpAny_askSetting (aw ?_);dsimp only;simp only[newObj];refine ag (wpAny_alloc (aw ?_));exact aw h
theorem wW:fH w D.hash [] (dY w):=⟨0,_,rfl,Tb.nil 0 0⟩
theorem BY(hu:D.room A.in1.in1.in1){I:Addr}{fp wr:List Addr}{items:Array ae}{St:Nat->Heap->Prop}(W:Walks prog w A.in1.in1.in1 I fp wr items.size (λi v=>items[i]? = some v) St){h1:Heap}
  (keys:Nat->K) (hval:∀(i:Nat) v,items[i]? = some v->D.el s.heap (keys i) v) (hb:items.size<64) (hst:St 0 h1) (hS:h1.get? s.heap.objs.size=some (dY w)) (hold:∀b o,s.heap.get? b=some o->h1.get? b=some o)
  (hSf:s.heap.objs.size∉fp) (hwr:∀b∈wr,s.heap.objs.size<=b) {R:Result->af->Prop}
  (h:∀(h':Heap) (tk:Nat),Holds D s.heap h' s.heap.objs.size keys items.size->(∀b o,b<s.heap.objs.size->s.heap.get? b=some o->h'.get? b=some o)->R (.ok (.ret .none)) {s with heap:=h',toks:=tk}) :
  codeAny (aq prog w) A.in1.in1 (.builtin "set.update.loop" ⟨[.ref s.heap.objs.size,.ref I],[]⟩) R {s with heap:=h1}:=by
 have out:∀b,s.heap.objs.size<=b->s.heap.get? b=none:=λb hb=>by
  cases q:s.heap.get? b with
  |none=>rfl
  |some o=>exact absurd (aH q) (Nat.not_lt.mpr hb)
 refine loop W.toS hu s.heap.objs.size hSf (h0:=s.heap) (out _ (aD _)) (λb hb=>out b (hwr b hb)) keys hval hb (items.size-0) 0 _ (by lia) (br _) hst hold ?_ λs' hm hS'=>?_
 ·exact⟨_,[],hS,wW,(λx hx=>absurd hx (bS)),(λk=>by simp),aD _⟩
 ·obtain⟨h',g',d',tk',os'⟩:=s';have eg:g'=s.gens:=hm.gens;have ed:d'=s.drawn:=hm.drawn;have eo:os'=s.os:=hm.os;subst eg;subst ed;subst eo;refine h h' tk' hS' λb o hb e=>hm.heap b o (λq=>?_) (hold b o e)
  rcases aF.mp q with q|q
  ·rw[q]at hb;exact bM _ hb
  ·exact absurd hb (Nat.not_lt.mpr (hwr b q))
theorem sub_tuple_set:isSubtype (.type "tuple") (.type "set")=pure false:=by rw[isSubtype_type];kernel_rfl
theorem sub_tuple_frozenset:isSubtype (.type "tuple") (.type "frozenset")=pure false:=by rw[isSubtype_type];kernel_rfl
theorem xk{l:Addr}{items:Array ae}{Q:ae->af->Prop}(hh:A.handled=none)(hu:D.room A.in1.in1.in1)(hl:s.heap.IsTuple l items)(keys:Nat->K)(hval:∀(i:Nat) v,items[i]? = some v->D.el s.heap (keys i) v)(hb:items.size<64)
  (h:∀(h':Heap) (tk:Nat),Holds D s.heap h' s.heap.objs.size keys items.size->(∀b o,b<s.heap.objs.size->s.heap.get? b=some o->h'.get? b=some o)->Q (.ref s.heap.objs.size) {s with heap:=h',toks:=tk}) :
  ak (aq prog w) A (call (.type "set") [.ref l]) Q E s:=by
 obtain⟨c,tl,hmro⟩:=F.called_set.mro;have hmade:=F.called_set.made;have hsub:=F.called_set.sub;refine wpAny_call (codeAny_of_tree ?_);show ak _ _ (callAny (.type "set") _) _ _ _;refine aw ⟨Code.quiet_builtin _ (by decide +kernel),bV F.entry_type_call ?_⟩;rw[aA.under_plain (weight_type_call_type "set" [.ref l] []) rfl];have h1:=F.called_set.notType;have h2:=F.called_set.canCreate;have hct:=F.typeCall_set_1 (.ref l)
 repeat (any_goals (first|assumption|wp_step))
 refine codeAny_mono (C6 (.ref l) (E:=E) (Q₁:=λobj s₁=>obj=.ref s.heap.objs.size/\s₁={s with heap:=s.heap.push (dY w)}) ⟨rfl,rfl⟩) λr s₁ hr=>?_
 cases r with
 |error e=>exact hr
 |ok fl=>
  cases fl with
  |ret obj=>
   obtain⟨rfl,rfl⟩:=hr;have hS:(s.heap.push (dY w)).get? s.heap.objs.size=some (dY w):=Heap.get?_push_size _ rfl;have hT:af.TypeIs {s with heap:=s.heap.push (dY w)} (.ref s.heap.objs.size) "set":=⟨_,hS,rfl⟩
   have hli:=F.called_set.init.lookup;have hbi:=F.called_set.init.bind (.ref s.heap.objs.size)
   repeat (any_goals (first|assumption|wp_step))
   refine codeAny_mono (codeAny_call_builtin (R:=wants (λr s₂=>r=.none/\∃h' tk,s₂={s with heap:=h',toks:=tk}/\Holds D s.heap h' s.heap.objs.size keys items.size /\
     (∀b o,b<s.heap.objs.size->s.heap.get? b=some o->h'.get? b=some o)) E) F.called_set.init.plain F.entry_set_init (check_set_init_1 hT ?_)) λr₂ s₂ hr₂=>?_
   ·obtain⟨ol,hol,hcl,nl,hdl⟩:=hl;obtain⟨ocls,odict,odata,oslots⟩:=ol;simp only at hcl hdl;subst hcl;subst hdl;have hol':(s.heap.push (dY w)).get? l=some {cls:=.type "tuple",dict:=odict,data:=.seq items nl,slots:=oslots}:=Heap.get?_push_of_some _ hol;have hsls:=sub_tuple_set;have hslf:=sub_tuple_frozenset;have hne:(bJ "tuple" == bJ "dict")=false:=by decide
    have hl1:(s.heap.push (dY w)).IsTuple l items:=⟨_,hol',rfl,nl,rfl⟩
    unfold Builtin.«set.__init__» noKeywords Builtin.Frozenset.updateFrom;generalize hPI:pyIter=PI
    wp_walk
    subst hPI;refine wpAny_pyIter_tuple hl1 ?_;refine ag (wpAny_runValue ?_);have hlS:l<s.heap.objs.size:=aH hol;have hh3:A.in1.in1.in1.handled=none:=by simp[hh]
    have hneI:l≠(s.heap.push (dY w)).objs.size:=by
     rw[bL];exact aX (bO hlS)
    have hSf:s.heap.objs.size∉[(s.heap.push (dY w)).objs.size,l]:=by
     rw[bL];simp only[aF,List.mem_singleton,bS,or_false,not_or];exact⟨aX (Nat.lt_succ_self _),Nat.ne_of_gt hlS⟩
    refine BY hu (Walks.tuple hh3 _ l hneI items) keys hval hb ⟨⟨_,Heap.get?_push_size _ rfl,rfl,rfl⟩,(hl1.push _)⟩ (Heap.get?_push_of_some _ hS) (λb o e=>Heap.get?_push_of_some _ (Heap.get?_push_of_some _ e)) hSf (λb hb=>by rw[List.mem_singleton.mp hb,bL];exact Nat.le_succ _) λh' tk hH hk=>?_
    show ak _ _ _ _ _ _;refine aw ?_;show ak _ _ (ret bW) _ _ _;exact aw ⟨rfl,h',tk,rfl,hH,hk⟩
   ·cases r₂ with
    |error e=>exact hr₂
    |ok fl₂=>
     cases fl₂ with
     |ret r=>
      obtain⟨rfl,h',tk,rfl,hS',hk'⟩:=hr₂
      repeat (any_goals (first|assumption|wp_step))
      exact h _ _ hS' hk'
     |_=>exact hr₂.elim
  |_=>exact hr.elim
end
theorem sA:Manifest.owners.lookup (String.ofList ['r','o','t','a','r','e','t','i','_','t','e','s'].reverse)=some Manifest.sig_set_iterator:=by kernel_rfl
theorem gB:Slot "set_iterator" "__next__" "set_iterator.__next__":=
 .of (owner:="set_iterator") (n:="__next__") (by rw[typeLookup_type,builtinLookup_eq_fast];kernel_rfl) (by decide +kernel) (by decide +kernel) (by decide +kernel)
  (by first|exact .inl (by decide +kernel)|exact .inr (by decide +kernel)) (by rw[isSubtype_type];kernel_rfl)
theorem oE:entryFor table "set_iterator.__next__" = some Builtin.«set_iterator.__next__»:=entryFor_of_tree (by kernel_rfl)
theorem o7(a:ae):argsOk "set_iterator.__next__" ⟨[a],[]⟩:=by
 unfold argsOk;rw[signature?_of (id:="set_iterator.__next__") (n:=['_','_','t','x','e','n','_','_']) (o:=['r','o','t','a','r','e','t','i','_','t','e','s']) (by kernel_rfl) sA];kernel_rfl
theorem p0:Slot "set_iterator" "__iter__" "set_iterator.__iter__":=
 .of (owner:="set_iterator") (n:="__iter__") (by rw[typeLookup_type,builtinLookup_eq_fast];kernel_rfl) (by decide +kernel) (by decide +kernel) (by decide +kernel)
  (by first|exact .inl (by decide +kernel)|exact .inr (by decide +kernel)) (by rw[isSubtype_type];kernel_rfl)
theorem xC:entryFor table "set_iterator.__iter__" = some Builtin.«dict_keyiterator.__iter__»:=entryFor_alias (id':="dict_keyiterator.__iter__") (by kernel_rfl) (by first|rfl|decide +kernel) (by decide +kernel) (by kernel_rfl)
theorem t7(a:ae):argsOk "set_iterator.__iter__" ⟨[a],[]⟩:=by
 unfold argsOk;rw[signature?_of (id:="set_iterator.__iter__") (n:=['_','_','r','e','t','i','_','_']) (o:=['r','o','t','a','r','e','t','i','_','t','e','s']) (by kernel_rfl) sA];kernel_rfl
theorem xf:entryFor table "set.__iter__" = some Builtin.«frozenset.__iter__»:=entryFor_alias (id':="frozenset.__iter__") (by kernel_rfl) (by first|rfl|decide +kernel) (by decide +kernel) (by kernel_rfl)
noncomputable def ef(w:av)(a:Addr)(ep:Nat)(es:List (Int×ae)):List (Int×ae):=if w.params.followText "set-order" = true then (pickOrder (w.params.setOrder a ep) es.toArray).toList else es
theorem nv{α:Type}:∀{l:List α}{i:Nat} (h:i<l.length),(l[i]::l.eraseIdx i).Perm l
 |_::_,0,_=>.refl _
 |a::l,i+1,h=>by
  rw[List.eraseIdx_cons_succ,List.getElem_cons_succ];exact(List.Perm.swap _ _ _).trans ((nv (by simpa using h)).cons a)
theorem q_{α:Type}(next:Nat->Nat):∀(fuel k:Nat) (left:List α) (out:Array α),left.length=fuel->(pickOrder.go next fuel k left out).toList.Perm (out.toList++left)
 | 0,k,left,out,h=>by rw[pickOrder.go,List.length_eq_zero_iff.mp h,bZ]
 |fuel+1,k,left,out,h=>by
  have hl:next k%left.length<left.length:=Nat.mod_lt _ (by lia);rw[pickOrder.go,List.getElem?_eq_getElem hl];dsimp only;refine(q_ next fuel (k+1) _ _ (by rw[List.length_eraseIdx_of_lt hl];lia)).trans ?_;rw[Array.toList_push,bq];refine List.Perm.append_left _ ?_;rw[List.singleton_append];exact nv hl
theorem gE(w:av)(a:Addr)(ep:Nat)(es:List (Int×ae)):(ef w a ep es).Perm es:=by
 unfold ef;split
 ·have:=q_ (w.params.setOrder a ep) es.toArray.size 0 es.toArray.toList #[] (by simp);simp only[List.nil_append]at this;exact this
 ·exact .refl _
section
variable{prog:aC}{w:av}{A:aA}{E:ae->af->Prop}{s:af}{K:Type} [DecidableEq K]{hash:K->Int}
noncomputable def itO(slot i:Nat)(a:Addr)(n ep:Nat):Obj:={cls:=.type "set_iterator",data:=.fields #[.int slot 0,.int i 0,.ref a,.int n 0,.int ep 0]}
theorem Di{a:Addr}{xs:List (K×ae)}{ep:Nat}{t:aZ}(ho:s.heap.get? a=some (eh (xs.map (ent hash)) ep t))(T:Tb w hash xs t){Q:ae->af->Prop}
  (h:Q (.ref s.heap.objs.size) {s with heap:=s.heap.push (itO 0 0 a xs.length ep)}):ak (aq prog w) A (pyIter (.ref a)) Q E s:=by
 have hT:s.TypeIs (.ref a) "set":=⟨_,ho,rfl⟩
 refine wpAny_pyIter_slot hT PySem.F.slot_set_iter (bY PySem.F.slot_set_iter hT xf ?_ (PySem.F.args_set_iter_1 _));unfold Builtin.«frozenset.__iter__» Builtin.Frozenset.slot0 slotArgs;simp only[List.isEmpty_nil,Bool.not_true,a_,↓reduceIte,bind_assoc,List.length_nil,bne_self_eq_false];unfold Builtin.Frozenset.addrOf Builtin.Frozenset.sizeOf;refine ag (aw ?_)
 try dsimp only
 refine ag (aw ?_);refine ag (ag (wpAny_setEntries_of ho rfl T.fits (aw ?_)));refine ag ?_;unfold setDrawn;refine ag (wpAny_setState_of ho rfl T.fits ?_);unfold setsByText;refine ag (ag (wpAny_askSetting (aw ?_)));refine aw ?_;show ak _ _ (if (!(w.params.followText "set-order")&&(!t.plain&&decide ((xs.map (ent hash)).toArray.size>1)))=true then _ else _) _ _ _;rw[T.plain];simp only[Bool.not_true,Bool.false_and,Bool.and_false,a_,if_false];refine ag (aw ?_);refine ag (wpAny_setEpoch_of ho rfl T.fits ?_);refine ag (cJ (aw ⟨_,rfl,"set_iterator",_,⟨_,Heap.get?_push_size _ rfl,rfl⟩,gB.lookup,?_⟩));have e:(xs.map (ent hash)).toArray.size=xs.length:=by simp
 rw[e];exact h
end
section
variable{prog:aC}{w:av}{A:aA}{E:ae->af->Prop}{s:af}{K:Type} [DecidableEq K]{hash:K->Int}
theorem xR{xs:Array Nat}(hr:Ri xs):below xs 0=0:=by
 obtain⟨a,b⟩:=iW hr 0;refine Nat.le_zero.mp (dk λq=>?_);have:=(b 0 xs[0] (Array.getElem?_eq_getElem (by lia))).mp q;lia
theorem sS{xs:Array Nat}(hr:Ri xs){i x:Nat}(h:xs[i]? = some x):below xs (x+1)=i+1:=by
 obtain⟨a,b⟩:=iW hr (x+1);have h1:=(b i x h).mpr (by lia);refine Nat.le_antisymm (dk λq=>?_) h1;have e:xs[i+1]? = some xs[i+1]:=Array.getElem?_eq_getElem (by lia);have:=(b _ _ e).mp q;have:=hr i (i+1) x _ (by lia) h e;lia
theorem pQ{a:Addr}{xs:List (K×ae)}{ep slot i:Nat}{t:aZ}(ho:s.heap.get? a=some (eh (xs.map (ent hash)) ep t))(T:Tb w hash xs t)(hs:w.params.followText "set-order" = false->below t.place slot=i)
  {Q:Option (ae×Nat)->af->Prop}
  (h:∀slot',(w.params.followText "set-order" = false->i<xs.length->below t.place slot'=i+1)->Q (((ef w a ep (xs.map (ent hash)))[i]?).map λe=>(e.2,slot')) s):ak (aq prog w) A (setNext a slot i ep) Q E s:=by
 have hr:=Ri.of T.good.ri;unfold setNext;refine ag (wpAny_setState_of ho rfl T.fits ?_);dsimp only;unfold setsByText;refine ag (ag (wpAny_askSetting (aw ?_)));show ak _ _ (if w.params.followText "set-order" = true then _ else _) _ _ _;unfold ef at h;cases q:w.params.followText "set-order" with
 |true=>
  rw[q]at h;simp only[if_true]at h ⊢;rw[if_neg (by simp)];refine ag ?_;unfold setWalk;refine ag (wpAny_setState_of ho rfl T.fits ?_);dsimp only;unfold setsByText;refine ag (ag (wpAny_askSetting (aw ?_)));show ak _ _ (if w.params.followText "set-order" = true then _ else _) _ _ _;rw[q];simp only[if_true];refine ag (wpAny_askSetting (aw (aw ?_)));have:=h slot (λe=>by cases e);rw[Array.getElem?_toList]at this;exact this
 |false=>
  rw[q]at h;simp only[a_,if_false]at h ⊢;show ak _ _ (if (!t.plain&&decide ((xs.map (ent hash)).toArray.size>1))=true then _ else _) _ _ _;rw[T.plain];simp only[Bool.not_true,Bool.false_and,a_,if_false];refine ag ?_;show ak _ _ (if (!t.led && !(xs.map (ent hash)).toArray.isEmpty)=true then _ else _) _ _ _;rw[T.led,q];simp only[Bool.not_false,Bool.not_true,Bool.false_and,a_,if_false];refine aw ?_;rw[hs q];have ln:=T.good.len;rw[aR]at ln;by_cases hi:i<xs.length
  ·have e1:(xs.map (ent hash)).toArray[i]? = some (ent hash xs[i]):=by simp[hi]
   have e2:t.place[i]? = some t.place[i]:=Array.getElem?_eq_getElem (by lia);rw[e1,e2];refine aw ?_;have:=h (t.place[i]+1) λ_ _=>sS hr e2
   rw[show (xs.map (ent hash))[i]? = some (ent hash xs[i])by simp[hi]]at this;exact this
  ·have e1:(xs.map (ent hash)).toArray[i]? = none:=by simp;lia
   rw[e1];refine aw ?_;have:=h 0 λ_ q=>absurd q hi
   rw[show (xs.map (ent hash))[i]? = none by simp;lia]at this;exact this
noncomputable def StI(w:av)(hash:K->Int)(I a:Addr)(xs:List (K×ae))(ep:Nat)(t:aZ)(i:Nat)(h:Heap):Prop:=
 (∃slot,h.get? I=some (itO slot i a xs.length ep)/\(w.params.followText "set-order" = false->below t.place slot=i))/\h.get? a=some (eh (xs.map (ent hash)) ep t)
theorem next_item{I a:Addr}(hne:a≠I){xs:List (K×ae)}{ep i:Nat}{t:aZ}(T:Tb w hash xs t)(st:StI w hash I a xs ep t i s.heap){e:Int×ae}(he:(ef w a ep (xs.map (ent hash)))[i]? = some e){Q:Option ae->af->Prop}
  (hQ:∀h',StI w hash I a xs ep t (i+1) h'->Heap.SameBut I s.heap h'->Q (some e.2) {s with heap:=h'}):ak (aq prog w) A (pyNext (.ref I)) Q E s:=by
 obtain⟨⟨slot,hI,hs⟩,ho⟩:=st;have hT:s.TypeIs (.ref I) "set_iterator":=⟨_,hI,rfl⟩
 have il:i<xs.length:=by
  have:=(List.getElem?_eq_some_iff.mp he).1;rw[(gE ..).length_eq,aR]at this;exact this
 unfold pyNext;refine ag (wpAny_attempt (wpAny_callSpecial?_slot (name:=aN "__next__") hT gB (bY gB hT oE ?_ (o7 _))));show ak _ _ (fieldsOf (.ref I)>>=_) _ _ s;refine ag (wpAny_fieldsOf hI rfl ?_);show ak _ _ (setEntries a>>=_) _ _ s;refine ag (wpAny_setEntries_of ho rfl T.fits ?_);rw[show ((((xs.map (ent hash)).toArray.size:Nat):Int) != ((xs.length:Nat):Int))=false by simp];simp only[a_,if_false];show ak _ _ (setNext a (Int.toNat ((slot:Nat):Int)) (Int.toNat ((i:Nat):Int)) (Int.toNat ((ep:Nat):Int))>>=_) _ _ s;rw[Int.toNat_natCast,Int.toNat_natCast,Int.toNat_natCast];refine ag (pQ ho T hs λslot' h1=>?_);rw[he];show ak _ _ (setField (.ref I) 0 (rawInt slot')>>=_) _ _ s;refine ag (wpAny_setField hI rfl (by simp) ?_);have hI2:(s.heap.update I (Obj.mapFields (·.setIfInBounds 0 (rawInt slot')))).get? I=some (itO slot' i a xs.length ep):=by
  rw[Heap.get?_update_self _ hI (Obj.isFreed_of_fields (Obj.data_mapFields (by rfl) _))];rfl
 refine ag (wpAny_setField hI2 rfl (by simp) ?_);have hI3:((s.heap.update I (Obj.mapFields (·.setIfInBounds 0 (rawInt slot')))).update I (Obj.mapFields (·.setIfInBounds 1 (rawInt ((i:Int)+1))))).get? I=some (itO slot' (i+1) a xs.length ep):=by
  rw[Heap.get?_update_self _ hI2 (Obj.isFreed_of_fields (Obj.data_mapFields (by rfl) _))];rfl
 refine aw ⟨e.2,rfl,aw (hQ _ ⟨⟨slot',hI3,λq=>h1 q il⟩,?_⟩ ((Heap.SameBut.update ..).trans (Heap.SameBut.update ..)))⟩;rw[Heap.get?_update_other _ _ (Ne.symm hne),Heap.get?_update_other _ _ (Ne.symm hne)];exact ho
theorem next_end{I a:Addr}(hh:A.handled=none){xs:List (K×ae)}{ep:Nat}{t:aZ}(T:Tb w hash xs t)(st:StI w hash I a xs ep t xs.length s.heap){Q:Option ae->af->Prop}
  (hQ:∀h',Heap.ExtBut I s.heap h'->Q none {s with heap:=h'}):ak (aq prog w) A (pyNext (.ref I)) Q E s:=by
 obtain⟨⟨slot,hI,hs⟩,ho⟩:=st;have hT:s.TypeIs (.ref I) "set_iterator":=⟨_,hI,rfl⟩
 unfold pyNext;refine ag (wpAny_attempt (wpAny_callSpecial?_slot (name:=aN "__next__") hT gB (bY gB hT oE ?_ (o7 _))));show ak _ _ (fieldsOf (.ref I)>>=_) _ _ s;refine ag (wpAny_fieldsOf hI rfl ?_);show ak _ _ (setEntries a>>=_) _ _ s;refine ag (wpAny_setEntries_of ho rfl T.fits ?_);rw[show ((((xs.map (ent hash)).toArray.size:Nat):Int) != ((xs.length:Nat):Int))=false by simp];simp only[a_,if_false];show ak _ _ (setNext a (Int.toNat ((slot:Nat):Int)) (Int.toNat ((xs.length:Nat):Int)) (Int.toNat ((ep:Nat):Int))>>=_) _ _ s;rw[Int.toNat_natCast,Int.toNat_natCast,Int.toNat_natCast];refine ag (pQ ho T hs λslot' h1=>?_);rw[show (ef w a ep (xs.map (ent hash)))[xs.length]? = none from List.getElem?_eq_none (by rw[(gE ..).length_eq,aR];exact aD _)];show ak _ _ (setField (.ref I) 2 .none>>=_) _ _ s;refine ag (wpAny_setField hI rfl (by simp) ?_);show ak _ _ (newExc (.type "StopIteration") []>>=_) _ _ _;refine ag ?_;simp only[newExc,newTuple];refine ag (cJ ?_ (by size_fits));refine ag (m:=firstArgMember _ _) (wpAny_of_eq (a:=bW) (by first|rfl|(simp only[firstArgMember];rfl)) ?_);refine cJ ?_ (by size_fits);simp only[raiseNew];refine ag (wpAny_handled ?_)
 first|rw[show A.in1.handled=none from hh]|rw[hh]
 refine ag (aw (wpAny_throw ?_));refine ag (wpAny_isInstance (T:="StopIteration") (b:=true) ⟨_,Heap.get?_push_size _ rfl,rfl⟩ isSubtype_stop ?_);exact aw (hQ _ (((Heap.SameBut.update ..).extBut.push _).push _))
theorem vX{I a:Addr}{xs:List (K×ae)}{ep i:Nat}{t:aZ}(st:StI w hash I a xs ep t i s.heap){Q:ae->af->Prop}(h:Q (.ref I) s):ak (aq prog w) A (pyIter (.ref I)) Q E s:=by
 obtain⟨⟨slot,hI,hs⟩,ho⟩:=st;have hT:s.TypeIs (.ref I) "set_iterator":=⟨_,hI,rfl⟩
 refine wpAny_pyIter_slot hT p0 (bY p0 hT xC ?_ (t7 _));show ak _ _ (ret (.ref I)) _ _ s;exact aw ⟨_,rfl,"set_iterator",_,hT,gB.lookup,h⟩
theorem walks(hh:A.handled=none)(I a:Addr)(hne:a≠I){xs:List (K×ae)}{ep:Nat}{t:aZ}(T:Tb w hash xs t) :
  Walks prog w A I [I,a] [I] xs.length (λi v=>∃e,(ef w a ep (xs.map (ent hash)))[i]? = some e/\e.2=v) (λi h=>StI w hash I a xs ep t i h) where
 sub:=λb hb=>by simp at hb;simp[hb]
 frame:=λ_ _ _ st hk=>⟨let ⟨slot,x,y⟩:=st.1;⟨slot,hk I (by simp) _ x,y⟩,hk a (by simp) _ st.2⟩
 item:=λi s Q E hi st hQ=>by
  have il:i<(ef w a ep (xs.map (ent hash))).length:=by rw[(gE ..).length_eq,aR];exact hi
  refine next_item hne T st (List.getElem?_eq_getElem il) λh' st' hs'=>?_
  exact hQ _ h' s.toks ⟨_,List.getElem?_eq_getElem il,rfl⟩ st' λb o hb e=>hs'.extBut b o (λh=>hb (by simp[h])) e
 done:=λs Q E st hQ=>next_end hh T st λh' he'=>hQ h' s.toks λb o hb e=>he' b o (λh=>hb (by simp[h])) e
 self:=λ_ _ _ _ st hQ=>vX st hQ
end
section
variable{prog:aC}{w:av}{A:aA}{E:ae->af->Prop}{s:af}{K:Type} [DecidableEq K]{hash:K->Int}
theorem yl{a:Addr}{xs:List (K×ae)}{ep:Nat}{t:aZ}(hh:A.handled=none)(ho:s.heap.get? a=some (eh (xs.map (ent hash)) ep t))(T:Tb w hash xs t)(hn:xs.length<=aV){Q:List ae->af->Prop}
  (hQ:∀h' tk (acc:List ae),s.toks<=tk->s.heap.objs.size<h'.objs.size->(∀b o,s.heap.get? b=some o->h'.get? b=some o)->acc.Perm (xs.map (·.2))->Q acc {s with heap:=h',toks:=tk}):ak (aq prog w) A (collect (.ref a)) Q E s:=by
 have ha:a<s.heap.objs.size:=aH ho;have hSI:s.heap.objs.size≠a:=Nat.ne_of_gt ha;unfold collect;refine ag (wpAny_runValue (bV F.entry_proto_collect ?_));rw[cn F.plain_proto_collect _];show ak _ A.in1 (newList []>>=λl=>again (.builtin "list.__iadd__" ⟨[l,.ref a],[]⟩)) _ _ s;refine ag (cJ ?_);refine aw ⟨plainId_quiet F.plain_list_iadd _,bV F.entry_list_iadd ?_⟩;rw[cn F.plain_list_iadd _];have ho₁:(s.heap.push {cls:=.type "list",data:=.seq ([]:List ae).toArray}).get? a=some (eh (xs.map (ent hash)) ep t):=Heap.get?_push_of_some _ ho;have hT₁:af.TypeIs {s with heap:=s.heap.push {cls:=.type "list",data:=.seq ([]:List ae).toArray}} (.ref a) "set":=⟨_,ho₁,rfl⟩
 show ak _ A.in1 (eU (.ref s.heap.objs.size) (.ref a) (.ref s.heap.objs.size)) _ _ _;unfold eU;refine ag (wpAny_typeOf hT₁ ?_);have h1:Builtin.List.listSameRef (.ref s.heap.objs.size) (.ref a)=false:=by simp[Builtin.List.listSameRef,hSI]
 have h2:(bJ "set" == bJ "list")=false:=by decide
 have h3:(bJ "set" == bJ "tuple")=false:=by decide
 simp only[h1,h2,h3,Bool.or_false,a_,if_false];refine ag (Di ho₁ T ?_);have hsz:(s.heap.push {cls:=.type "list",data:=.seq ([]:List ae).toArray}).objs.size=s.heap.objs.size+1:=bL ..;have ho₂:=Heap.get?_push_of_some (itO 0 0 a xs.length ep) ho₁;have hI₂:((s.heap.push {cls:=.type "list",data:=.seq ([]:List ae).toArray}).push (itO 0 0 a xs.length ep)).get? (s.heap.push {cls:=.type "list",data:=.seq ([]:List ae).toArray}).objs.size=some (itO 0 0 a xs.length ep):=Heap.get?_push_size _ rfl;have hT₂:af.TypeIs {s with heap:=(s.heap.push {cls:=.type "list",data:=.seq ([]:List ae).toArray}).push (itO 0 0 a xs.length ep)} (.ref a) "set":=⟨_,ho₂,rfl⟩
 refine ag (bF ?_);unfold Builtin.List.listLengthHint;refine ag (wpAny_specialOf hT₂ PySem.F.slot_set_len.lookup ?_);show ak _ A.in1 (isInstance (bx a) (.type "set")>>=_) _ _ _;refine ag (wpAny_isInstance hT₂ sub_set_self ?_);simp only[Bool.not_true,a_,if_false];show ak _ A.in1 (typeOf (bx a)>>=_) _ _ _;refine ag (wpAny_typeOf hT₂ ?_);refine aw ?_;show ak _ A.in1 (rule "list.extend.makes-room" >>= λ_=>Builtin.List.listTouch (.ref s.heap.objs.size)>>=λ_=>
  again (.builtin "list.extend.loop" ⟨[.ref s.heap.objs.size,.ref (s.heap.push {cls:=.type "list",data:=.seq ([]:List ae).toArray}).objs.size,.ref s.heap.objs.size],[]⟩)) _ _ _
 refine ag (wpAny_rule ?_);have hS₁:((s.heap.push {cls:=.type "list",data:=.seq ([]:List ae).toArray}).push (itO 0 0 a xs.length ep)).get? s.heap.objs.size=some {cls:=.type "list",data:=.seq ([]:List ae).toArray}:=Heap.get?_push_of_some _ (Heap.get?_push_size _ rfl);rw[hsz]at *;generalize hH:(s.heap.push {cls:=.type "list",data:=.seq ([]:List ae).toArray}).push (itO 0 0 a xs.length ep)=H1 at *;have old1:∀b o,s.heap.get? b=some o->H1.get? b=some o:=λb o e=>by rw[<-hH];exact Heap.get?_push_of_some _ (Heap.get?_push_of_some _ e)
 refine ag ?_;show ak _ A.in1 (updateSeq s.heap.objs.size (·.push .none)>>=λ_=>updateSeq s.heap.objs.size (·.pop)) _ _ _;refine ag (wpAny_updateSeq hS₁ rfl ?_);have hS₂:=Heap.get?_update_self (ba (·.push bW)) hS₁ rfl;refine wpAny_updateSeq hS₂ rfl ?_;have hS₃:=Heap.get?_update_self (ba (·.pop)) hS₂ rfl;have oth:∀b o,b≠s.heap.objs.size->H1.get? b=some o->((H1.update s.heap.objs.size (ba (·.push bW))).update s.heap.objs.size (ba (·.pop))).get? b=some o:=
  λb o hb e=>(Heap.get?_update_other _ _ (Ne.symm hb)).trans ((Heap.get?_update_other _ _ (Ne.symm hb)).trans e)
 have hne:a≠s.heap.objs.size+1:=aX (bO ha);have hSf:s.heap.objs.size∉[s.heap.objs.size+1,a]:=by
  simp only[aF,bS,or_false,not_or];exact⟨aX (Nat.lt_succ_self _),hSI⟩
 refine aw ⟨plainId_quiet F.plain_extend_loop _,codeAny_extend_loopS ((walks (prog:=prog) (A:=A.in1) hh (s.heap.objs.size+1) a hne (ep:=ep) T).toS) hn _ hSf _ xs.length 0 _ _ _ rfl (br _)
  ⟨⟨0,oth _ _ (Nat.succ_ne_self _) hI₂,λ_=>xR (Ri.of T.good.ri)⟩,oth _ _ (Ne.symm hSI) ho₂⟩ hS₃ (ItemsOf.nil _) λs' acc' c' hm hS' hacc=>?_⟩
 show ak _ A (load s.heap.objs.size>>=_) _ _ s';refine ag (wpAny_load hS' ?_);obtain⟨h',g',d',tk',os'⟩:=s';have eg:g'=s.gens:=hm.gens;have ed:d'=s.drawn:=hm.drawn;have eo:os'=s.os:=hm.os;subst eg;subst ed;subst eo;refine aw (hQ h' tk' acc'.toList hm.toks (aH hS') (λb o e=>?_) ?_)
 ·have hb:=aH e;refine hm.heap b o (λq=>?_) (oth b o (aX hb) (old1 b o e));rcases aF.mp q with q|q
  ·exact absurd q (aX hb)
  ·exact absurd (List.mem_singleton.mp q) (aX (bO hb))
 ·have e1:acc'.toList=(ef w a ep (xs.map (ent hash))).map (·.2):=by
   refine List.ext_getElem? λi=>?_
   have ln:(ef w a ep (xs.map (ent hash))).length=xs.length:=by rw[(gE ..).length_eq,aR]
   rw[Array.getElem?_toList,List.getElem?_map];by_cases hi:i<xs.length
   ·have hi':i<acc'.size:=by rw[hacc.1];exact hi
    have e2:acc'[i]? = some acc'[i]:=Array.getElem?_eq_getElem hi';obtain⟨e,e3,e4⟩:=hacc.2 i _ e2;rw[e2,e3,<-e4];rfl
   ·rw[Array.getElem?_eq_none (by rw[hacc.1];lia),List.getElem?_eq_none (by lia)];rfl
  rw[e1];refine((gE w a ep _).map _).trans ?_;rw[cg];exact .refl _
end
end ST
namespace ST
open PySem PySem.Spec PySem.SetTable PyProof.Rows
section
variable{prog:aC}{w:av}{A:aA}{E:ae->af->Prop}{s:af}
noncomputable def vInt:ae->Int
 | .int n _=>n
 |_=>0
theorem ints_map:∀{acc:List ae},(∀v∈acc,∃n t,v=.int n t)->PyProof.Rows.IntsAre acc (acc.map vInt)
 | [],_=>.nil
 |v::acc,h=>by
  obtain⟨n,t,rfl⟩:=h v aO;exact .cons n t (ints_map λu hu=>h u (aM _ hu))
theorem vh{a:Addr}{xs:List (Int×ae)}{ep:Nat}{t:aZ}(hh:A.handled=none)(ho:s.heap.get? a=some (eh (xs.map (ent hashInt)) ep t))(T:Tb w hashInt xs t)(hel:∀x∈xs,∃t,x.2=.int x.1 t)(hn:xs.length<64){Q:ae->af->Prop}
  (h:∀(h':Heap) (tk:Nat) (D:Addr) (out:List ae) (ns:List Int) (c:Nat),s.heap.objs.size<=D->(∀b o,s.heap.get? b=some o->h'.get? b=some o)->h'.get? D=some {cls:=.type "list",data:=.seq out.toArray c}->PyProof.Rows.IntsAre out ns->ns.Perm (xs.map (·.1))->ns.Pairwise (·<=·)->Q (.ref D) {s with heap:=h',toks:=tk}) :
  ak (aq prog w) A (call (.builtin "sorted") [.ref a]) Q E s:=by
 refine Calls.call_function_entry kind_sorted plain_sorted entry_sorted (PyProof.Rows.args_sorted1 _) ?_;unfold Builtin.«sorted»;refine ag (m:=checkCount "sorted" 1 1 _) (aw ?_);refine ag (yl (A:=A.in1) hh ho T (by rw[bt];lia) λh1 tk acc _ hs1 k1 pm=>?_);have hI:∀v∈acc,∃n t,v=.int n t:=λv hv=>by
  obtain⟨x,hx,rfl⟩:=aP.mp (pm.mem_iff.mp hv);obtain⟨t,e⟩:=hel x hx;exact⟨_,t,e⟩
 have al:acc.length=xs.length:=by rw[pm.length_eq,aR]
 refine ag (wpAny_newList (hsz:=by rw[bt,al];lia) ?_);have hL:(h1.push (PyProof.Rows.seqObj "list" acc.toArray 0)).get? h1.objs.size=some (PyProof.Rows.seqObj "list" acc.toArray 0):=Heap.get?_push_size _ rfl;show ak _ _ _ _ _ ({s with heap:=h1.push (PyProof.Rows.seqObj "list" acc.toArray 0),toks:=tk}:af);refine ag (bF ?_);refine bY PyProof.Rows.slot_list_sort ⟨_,hL,rfl⟩ PyProof.Rows.entry_list_sort (PyProof.Rows.list_sort_tree hL (ints_map hI) (by rw[al];exact hn) λout ns' a1 a2 a3=>⟨_,rfl,?_⟩) (PyProof.Rows.args_list_sort _);obtain⟨c,hc⟩:=PyProof.Rows.sortedHeap_at (out:=out) hL;refine aw ⟨_,rfl,h _ tk _ out.toList ns' c (Nat.le_of_lt hs1) (λb o e=>?_) (by rw[Array.toArray_toList];exact hc) a1 (a2.trans ?_) a3⟩
 ·have e1:=k1 b o e;have hb:=aH e1;show (PyProof.Rows.sortedHeap _ _ _ _).get? b=some o;rw[PyProof.Rows.sortedHeap_old (aX hb) (by rw[bL];exact bO hb)];exact Heap.get?_push_of_some _ e1
 ·refine(pm.map vInt).trans ?_;rw[cg,show xs.map (vInt∘λx=>x.2)=xs.map (·.1)from List.map_congr_left λx hx=>by obtain⟨t,e⟩:=hel x hx;simp[e,vInt]]
end
end ST
namespace L2
open PySem PySem.Spec PyProof.Rows
variable{X:Cx}
noncomputable def jf(w:av)(p:Addr)(ns:List Int):Heap->Prop:=λh=>∃o xs,h.get? p=some o/\ST.fH w hashInt xs o/\(∀x∈xs,∃t,x.2=.int x.1 t)/\(∀k,k∈xs.map (·.1)↔k∈ns)/\xs.length<64
noncomputable def nV(X:Cx):List V->Hp->VK->Prop:=λvs H Q=>∃(l:Addr) (ns:List Int),vs=[.ref l]/\SqT X.K H l (ns.map V.int)/\ns.length<64/\∀p,H p=none->Q (.ref p) (upd H p (.ext (jf X.w p ns)))
theorem getD_mem{α:Type} [DecidableEq α](l:List α)(d:α)(k:α):(∃j,j<l.length/\l.getD j d=k)↔k∈l:=by
 constructor
 ·rintro⟨j,hj,rfl⟩;rw[List.getD_eq_getElem?_getD,List.getElem?_eq_getElem hj];exact cK hj
 ·intro h;obtain⟨i,hi,rfl⟩:=List.getElem_of_mem h;exact⟨i,hi,by rw[List.getD_eq_getElem?_getD,List.getElem?_eq_getElem hi];rfl⟩
theorem As(hc:X.calm=true):qU X (.type "set") (nV X):=by
 intro pins s σ H xs us Q I r ⟨l,ns,e,hl,h64,q⟩;subst e;obtain⟨u,rfl,ru⟩:=r.one;cases ru;have fin:∀{its:List ae} (h':Heap) (tk:Nat),its.length=ns.length->ST.Holds (ST.inK X.prog X.w) s.heap h' s.heap.objs.size (λi=>ns.getD i 0) its.toArray.size->(∀b o,b<s.heap.objs.size->s.heap.get? b=some o->h'.get? b=some o)->EP X pins σ Q (.ref s.heap.objs.size) {s with heap:=h',toks:=tk}:=by
  intro its h' tk hle ⟨o,ys,e1,e2,e3,e4,e5⟩ hk;rw[aS,hle]at e4 e5;refine⟨.ref _,_,I.laid (t':=tk) (o:=.ext (jf X.w s.heap.objs.size ns)) (λb o e=>hk b o (aH e) e) (aD _) ⟨⟨o,ys,e1,e2,e3,λk=>(e4 k).trans (getD_mem ns 0 k),by lia⟩,⟨_,e1⟩,λh1 h2 ⟨o,ys,a1,a2⟩ k=>⟨o,ys,k _ a1,a2⟩⟩,rfl,q _ I.fresh⟩
 obtain⟨its,rv,pl,hz⟩:=I.tuple hl;have hI:=intsAre_of rv;have hle:=bp.length hI;exact ST.xk (D:=ST.inK X.prog X.w) (I.ok.hd hc) trivial pl (λi=>ns.getD i 0) (λi v hv=>bp.int_at hI i v (by simpa using hv)) (by rw[aS,hle];exact h64) λh' tk hH hk=>fin h' tk hle hH hk
theorem Cn(hc:X.calm=true):qU X (.builtin "sorted") (λvs H Q=>∃(p:Addr) (ns:List Int),vs=[.ref p]/\H p=some (.ext (jf X.w p ns))/\∀(D:Addr) (ms:List Int),H D=none->ms.Nodup->(∀k,k∈ms↔k∈ns)->ms.Pairwise (·<=·)->Q (.ref D) (upd H D (.lst (ms.map V.int)))):=by
 intro pins s σ H xs us Q I r ⟨p,ns,e,hp,q⟩;subst e;obtain⟨u,rfl,ru⟩:=r.one;cases ru;obtain⟨⟨o,ys,e1,⟨ep,t,rfl,T⟩,e3,e4,e5⟩,_⟩:=I.hok p _ hp;refine ST.vh (I.ok.hd hc) e1 T e3 e5 λh' tk D out ms c hD hk hl a1 a2 a3=>?_
 have hle:=bp.length a1;exact⟨.ref D,_,I.laid (t':=tk) (o:=.lst (ms.map V.int)) hk hD ⟨by rw[aR,a2.length_eq,aR,bt];lia,out,c,jL a1,hl⟩,rfl,q D ms (I.hok.fresh hD) (a2.nodup_iff.mpr T.nd) (λk=>a2.mem_iff.trans (e4 k)) a3⟩
end L2
namespace ST
open PySem PySem.Spec PySem.SetTable PyProof.Rows TS L2
section
variable{prog:aC}{w:av}{A:aA}{E:ae->af->Prop}{s:af}
end
end ST
namespace L2
open PySem PySem.Spec PyProof.Rows TS
variable{X:Cx}
end L2
namespace EV
open PySem PySem.Spec PySem.P PyProof.Rows L2
theorem ig{α:Type} [DecidableEq α]{x:α}:∀{l:List α},x∈uq l↔x∈l
 | []=>.rfl
 |a::l=>by
  rw[uq];split
  ·rename_i h
   rw[ig,aF];exact⟨.inr,λz=>z.elim (λe=>e▸h) id⟩
  ·rw[aF,aF,ig]
theorem jg{α:Type} [DecidableEq α]:∀(l:List α),(uq l).Nodup
 | []=>.nil
 |a::l=>by
  rw[uq];split
  ·exact jg l
  ·rename_i h
   exact List.nodup_cons.mpr ⟨λz=>h (ig.mp z),jg l⟩
theorem DA{α:Type} [DecidableEq α]{l m:List α}(h1:m.Nodup)(h2:∀k,k∈m↔k∈l):m.Perm (uq l):=
 (List.perm_ext_iff_of_nodup h1 (jg l)).mpr λk=>(h2 k).trans ig.symm
theorem yu{c:Cc}{b:B1}{as:List Expr}{a:Expr}(h:lu c b as=some a):∃y p3 pos3,as=[.Call (.Name y p3) [a] [] pos3]/\b=.sorted/\glob c y=some .set/\isStar a=false/\c.calm=true:=by
 unfold lu at h;split at h
 ·split at h
  ·rename_i hq
   cases h;simp only[aU,cA,beq_iff_eq,bR]at hq;exact⟨_,_,_,rfl,hq.1.1.1.1,hq.1.1.2,hq.1.2,hq.2⟩
  ·cases h
 ·cases h
section
variable{w:W}{g:Gc}{c:Cc}{E:XK}{X:Cx}{a:Expr}{ia:EV.E}{pos p2 p3 pos3:Pos}
theorem su{e:Expr}{y:Str}(h:jQ e=some y):∃p,e=.Name y p:=by
 cases e<;>first|(cases (show none=some y from h);done)|(cases h;exact⟨_,rfl⟩)
theorem CQ{e:Expr}(h:my e=true):∃j p,e=.Constant .none j p:=by
 cases e with
 |Constant k j p=>cases k<;>first|exact⟨_,_,rfl⟩|(cases (show false=true from h);done)
 |_=>cases (show false=true from h)
theorem xy{c:Cc}{fe:Expr}{ks:List Keyword}{as:List Expr}{a:Expr}(h:kP c fe ks as=some a):∃x p2 y p3 kp j jp jq,fe=.Name x p2/\ks=[⟨some "key",.Name y p3,kp⟩,⟨some "default",.Constant .none j jp,jq⟩]/\as=[a]/\c.calm=true/\isStar a=false/\glob c x=some (.bi .min)/\glob c y=some (.bi .len):=by
 have ie:∀{b:Bool}{x:Option Expr},(if b=true then x else none)=some a->b=true/\x=some a:=λ{b x} z=>by
  cases b with
  |false=>cases z
  |true=>exact⟨rfl,z⟩
 have oe:∀{f:Str->Option Expr}{o:Option Str},(match o with|some y=>f y|none=>none)=some a->∃y,o=some y/\f y=some a:=λ{f o} z=>by
  cases o with
  |none=>cases z
  |some y=>exact⟨y,rfl,z⟩
 cases as with
 |nil=>cases h
 |cons a' r=>
  obtain⟨q1,h⟩:=ie h;obtain⟨x,q2,h⟩:=oe h;obtain⟨q3,h⟩:=ie h;cases ks with
  |nil=>cases h
  |cons k1 ks=>cases ks with
   |nil=>cases h
   |cons k2 ks=>
    obtain⟨q4,h⟩:=ie h;obtain⟨y,q5,h⟩:=oe h;obtain⟨q6,h⟩:=ie h;cases h;simp only[aU,List.isEmpty_iff,beq_iff_eq,bR]at q1 q3 q4 q6;obtain⟨p2,rfl⟩:=su q2;obtain⟨n1,v1,kp⟩:=k1;obtain⟨n2,v2,jq⟩:=k2;obtain⟨p3,rfl⟩:=su q5;obtain⟨j,jp,rfl⟩:=CQ q4.2;obtain⟨⟨⟨rfl,q7⟩,q8⟩,_⟩:=q4;obtain⟨⟨rfl,q9⟩,qa⟩:=q1;cases q7;cases q8;exact⟨x,p2,y,p3,kp,j,jp,jq,rfl,rfl,rfl,qa,q9,q3.2,q6.2⟩
theorem ue(O:XO w g c E X)(hc:X.calm=true){x y:Str}{kp jp jq:Pos}{j}(h:glob c x=some (.bi .min))(hy:glob c y=some (.bi .len))(ha:PE X a (tE w g c E ia))(hs:isStar a=false) :
  PE X (.Call (.Name x p2) [a] [⟨some "key",.Name y p3,kp⟩,⟨some "default",.Constant .none j jp,jq⟩] pos) (tE w g c E (.mxd ia)):=by
 obtain⟨h1,h2,id,h3⟩:=O.gm h;obtain⟨y1,y2,idy,y3⟩:=O.gm hy;have hb:=jk .min;rw[<-h2]at hb;have hby:=jk .len;rw[<-y2]at hby;have hst:=qo (es:=[]) (env:=X.env) hs;have hst':backTo pos (bf [a] X.env)=(false,eval a X.env)::backTo pos (bf [] X.env):=by rw[hst];rfl
 intro pins s σ H Q I hq;refine wpAny_Call_Name_kw (eP I (O.gl h) h1 hb ?_ (qw h).2.2.2 (qw h).2.2.1);refine callWith_kw ?_ hst' (by rw[hst'];rfl);obtain⟨τ,S,se,k⟩:=hq;simp only[qY,zc,zb,zg,zf,za,ze,qF,qJ,qG,qQ,qM,qx,qC,qK,qB,qN,qD,qz,qP,qT,qE,qA,qS,qL,qH,qO,qI]at k;have hA:=zv ha (zX (X:=X)) hst;refine thn (hA pos pins s σ H (λvs H2=>∃da v,vs=[v]/\zx g H2 S da v/\qf H H2/\tR g E H2 (gx da) λd=>∀v H',bz g c (.mxd ia) S H d v H'->Q v H') I (zh se k λda va H1 e1 p1 k1=>⟨da,va,rfl,p1.rb,p1.same,k1⟩)) λus s1 ⟨vs,H1,I1,r1,da,va,q0,q1,q2,q3⟩=>?_
 subst q0;obtain⟨u,rfl,ru⟩:=r1.one;refine kws_cons (eP I1 (O.gl hy) y1 hby ?_ (qw hy).2.2.2 (qw hy).2.2.1);refine kws_cons (Constant_none ?_);refine kws_nil ?_;cases hm:gx da with
 |ex z=>
  refine absurd hm (gU λxs=>?_);split
  ·exact dF
  ·exact Cz
 |no=>rw[hm]at q3;exact q3.elim
 |ok d=>
  rw[hm]at q3;obtain⟨xs,rfl,hm1⟩:=ip hm;obtain⟨l,vs,rfl,z1,z2⟩:=q1.lst;cases ru;have go:∃ns ps,vs=ps.map V.ref/\ns.length=ps.length/\(∀(i:Nat) p n,ps[i]? = some p->ns[i]? = some n->∃ys,(SqL g.K (hid H1 S) p ys\/SqT g.K (hid H1 S) p ys)/\(ys.length:Int)=n)/\(ps=[]->d=.non)/\∀(i:Nat) p,ps[i]? = some p->k_ false ns i->xs[i]? = some d:=by
   cases xs with
   |nil=>
    cases z2;exact⟨[],[],rfl,rfl,λi p n z=>(by cases z),λ_=>(by cases hm1;rfl),λi p z=>(by cases z)⟩
   |cons x0 xr=>
    have hm1:fo false (.lst (x0::xr))=.ok d:=hm1;obtain⟨xs',e0,hm2⟩:=ip hm1;cases e0;obtain⟨ns,e,hm3⟩:=iM hm2;obtain⟨hl,ps,rfl,hn,hp⟩:=z2.lens e;refine⟨ns,ps,rfl,hn,hp,λz=>?_,λi p a1 hb=>?_⟩
    ·subst z;rw[hn]at hl;cases hl
    ·exact ud hl (by rw[hn];exact(List.getElem?_eq_some_iff.mp a1).1) hb hm1 e
  obtain⟨ns,ps,rfl,hn,hp,hz,hbs⟩:=go;refine ua hc I1 (by rw[O.K];exact z1) hn (λz=>?_) (λi p n a1 a2=>?_) λi p a1 hb=>?_
  ·rw[hz z]at q3;exact q3 _ _ (bz.of q2 .non rfl)
  ·obtain⟨ys,b1,b2⟩:=hp i p n a1 a2;refine⟨ys,?_,b2⟩;rw[O.K];rcases b1 with b1|b1
   ·exact .inl (zw.seq b1)
   ·exact .inr (zu zw b1)
  ·obtain⟨v',w1,w2⟩:=z2.get (hbs i p a1 hb);rw[List.getElem?_map,a1]at w1;cases w1;exact q3 _ _ (bz.of q2 w2 rfl)
theorem sP(O:XO w g c E X)(hc:X.calm=true){x y:Str}{b:B1}(hb:b=.sorted)(hx:glob c x=some (.bi b))(hy:glob c y=some .set)(ha:PE X a (tE w g c E ia))(hs:isStar a=false) :
  PE X (.Call (.Name x p2) [.Call (.Name y p3) [a] [] pos3] [] pos) (tE w g c E (.sset (b==.len) ia)):=by
 obtain⟨h1,h2,id,h3⟩:=O.gm hx;have hbt:=jk b;rw[<-h2,h3]at hbt;obtain⟨r1,r2⟩:=O.gm hy;have hK:=O.K;have hr:=gF (p:=p3) (pos:=pos3) (As hc) (O.gl hy) r1 r2 (zv ha zX (qo hs)) (qw hy).2.2.2 (qw hy).2.2.1 (qo hs);have arg:∀{S:Sh}{H:Hp}{da:D}{va:V}{xs:List D},zx g H S da va->one? da=some xs->∃l vs,va=.ref l/\SqT g.K H l vs/\qk g (hid H S) xs vs:=λ{S H da va xs} r e=>by
  cases da with
  |tup ys=>cases e;obtain⟨l,vs,rfl,q1,q2⟩:=r.tup;exact⟨l,vs,rfl,q1,q2⟩
  |_=>cases e
 have hbc:∀(r:List V->Hp->VK->Prop),qU X (b1V b) r->PE X (.Call (.Name x p2) [.Call (.Name y p3) [a] [] pos3] [] pos) (tCB r (iC (tCB (nV X) (iC (tE w g c E ia) hV)) hV)):=λr hcall=>by
  rw[h3]at hcall;exact kU hcall (O.gl hx) h1 hbt (zv hr zX) (qw hx).2.2.2 (qw hx).2.2.1
 subst hb
 ·refine PE.imp (hbc _ (Cn hc)) λσ H Q ⟨τ,S,se,q⟩=>?_
  simp only[qY,zc,zb,zg,zf,za,ze,qF,qJ,qG,qQ,qM,qx,qC,qK,qB,qN,qD,qz,qP,qT,qE,qA,qS,qL,qH,qO,qI]at q;refine zh se q λda va H1 e1 p1 k1=>?_
  unfold iz at k1;cases e2:one? da with
  |none=>rw[e2]at k1;exact k1.elim
  |some xs=>
   rw[e2]at k1;simp only[cm]at k1;by_cases h64:xs.length<64
   ·rw[if_pos h64]at k1;obtain⟨l,vs,rfl,hl,rr⟩:=arg p1.rb e2;cases e3:ints? xs with
    |some ns=>
     rw[e3]at k1;obtain⟨rfl,rfl⟩:=rr.ints e3;refine⟨l,ns,rfl,by rw[hK];exact hl,by simpa using h64,λp hp=>⟨p,ns,rfl,zm,λD ms hD nd mem pw=>?_⟩⟩;have s1:=qX (o:=.ext (jf X.w p ns)) hp;have e4:=kl (DA nd mem) pw;subst e4;refine k1 _ _ (bz.of ((p1.same.trans s1).trans (qX hD)) (eO (se.sub.same (p1.same.trans s1)) hD (qk.ofInts _)) rfl)
    |none=>
     rw[e3]at k1;exact bI k1
   ·rw[if_neg h64]at k1;exact k1.elim
end
section
variable{w:W}{g:Gc}{n:Nat}
theorem Snd.call_name(ih:Snd w g n){c:Cc}{E:XK}{X:Cx}(O:XO w g c E X){f:Str}{p pos:Pos}{as:List Expr}{ir:EV.E}(h:cE (n+1) c (.Call (.Name f p) as [] pos)=some ir):PE X (.Call (.Name f p) as [] pos) (tE w g c E ir):=by
 unfold cE at h;dsimp only at h;split at h
 ·cases h
 ·split at h
  ·rename_i fr hg
   simp only[aL,aK]at h;obtain⟨ies,h1,h⟩:=h;split at h
   ·rename_i hc
    simp only[aU,bR]at hc;cases h
    match as with
    | []=>simp at hc
    |e::es=>exact xQ O hg (ih.es O h1) hc.1 (fk h1)
   ·split at h
    ·rename_i hc
     simp only[bR]at hc;cases h
     match as with
     | []=>simp at hc
     |e::es=>exact uD O hg (ih.es O h1) (fk h1)
    ·cases h
  ·rename_i b hg
   split at h
   ·rename_i a hs
    obtain⟨y,p3,pos3,rfl,hb,hy,hst,hc⟩:=yu hs;rw[bB]at h;obtain⟨ia,h1,rfl⟩:=h;exact sP O (O.calm hc) hb hg hy (ih.e O h1) hst
   simp only[aL,aK]at h;obtain⟨ies,h1,h⟩:=h;split at h
   ·rename_i hc
    simp only[aU,bR,cA,beq_iff_eq]at hc;cases h
    match as with
    | []=>simp at hc
    |e::es=>exact yd O hg (by rcases hc.2 with (z|z)|z;exact .inl (O.calm z);exact .inr (.inl z);exact .inr (.inr z)) (ih.es O h1) (fk h1)
   ·cases h
  ·rename_i t b hg
   have plain:∀{ies:Es},cEs n c as=some ies->as.isEmpty=false->PE X (.Call (.Name f p) as [] pos) (tE w g c E (.bi b ies)):=λ{ies} h1 he=>by
    match as with
    | []=>simp at he
    |e::es=>exact xi O hg (ih.es O h1) (fk h1)
   split at h
   ·rename_i y p' as' q
    split at h
    ·rename_i hr
     simp only[aU,beq_iff_eq]at hr;split at h
     ·rename_i hc
      simp only[aU,cA,beq_iff_eq]at hc;split at h
      ·rename_i a
       split at h
       ·cases h
       ·rename_i hs
        have hs:isStar a=false:=by simpa using hs
        simp only[aL,aK]at h;obtain⟨ia,h1,h⟩:=h;cases h;exact ye O (O.calm hc.1) hg hr.2 (Bo (ih.e O h1) hs) (by intro z hz;simp at hz;rw[hz];exact hs) hc.2 wI
      ·cases h
     ·cases h
    ·simp only[aL,aK]at h;obtain⟨ies,h1,h⟩:=h;cases h;exact plain h1 rfl
   ·simp only[aL,aK]at h;obtain⟨ies,h1,h⟩:=h;split at h
    ·rename_i hc
     cases h;exact plain h1 (by simpa using hc)
    ·cases h
  ·rename_i hg
   split at h
   ·rename_i a k
    split at h
    ·cases h
    ·rename_i hs
     simp only[aL,aK]at h;obtain⟨ia,h1,cl,h2,h⟩:=h;cases h;exact vQ O hg (ih.e O h1) h2 (by simpa using hs)
   ·cases h
  ·cases h
theorem jJ:∀{n:Nat}{c:Cc}{l:List Expr}{es:Es},cEs n c l=some es->l.length<=n
 | 0,_,_,_,h=>by simp[cEs]at h
 |n+1,_,[],_,_=>by simp
 |n+1,c,x::l,es,h=>by
  have hs:=fk h x aO;simp only[cEs,hs,a_,if_false,aL,aK]at h;obtain⟨_,_,r,hr,_⟩:=h;have:=jJ hr
  simpa using this
theorem oB{c:Cc}{elt:Expr}{gs:List b8}{sc:a8}{p:Pos}{ir:EV.E}(h:cE (n+1) c (.ListComp elt gs sc p)=some ir)(h2:fO (.ListComp elt gs sc p)=false) :
  ∃tgt it ifs iit itg it' ie,gs=[⟨tgt,it,ifs,0⟩]/\(c.calm=true/\qR it=true)/\(eV (λx=>c.nm.lookup x) c.N (zk sc.names) (dZ c sc.names) sc=true/\(zk sc.names).Nodup)/\cI n c it=some iit/\cTg (zo c sc) tgt=some itg/\eE n (zo c sc) ifs=some it'/\cE n (zo c sc) elt=some ie/\(esc ie=true/\eC iit tgt=true)/\ir=.comp iit (dZ c sc.names) itg it' ie:=by
 unfold cE at h;dsimp only at h;split at h
 ·rename_i tgt it ifs asy
  split at h
  ·cases h
  ·rename_i hs
   have hs:(asy=0/\c.calm=true)/\qR it=true:=by simpa using hs
   obtain⟨⟨rfl,hs1⟩,hs2⟩:=hs;split at h
   ·cases h
   ·rename_i hk
    have hk:eV (λx=>c.nm.lookup x) c.N (zk sc.names) (dZ c sc.names) sc=true/\(zk sc.names).Nodup:=by simpa using hk
    simp only[aL,aK]at h;obtain⟨iit,h1,itg,h2,it',h3,ie,h4,h⟩:=h;split at h
    ·rename_i he
     simp only[aU]at he;cases h;exact⟨tgt,it,ifs,iit,itg,it',ie,rfl,⟨hs1,hs2⟩,hk,h1,h2,h3,h4,he,rfl⟩
    ·cases h
 ·cases h2
 ·cases h
theorem AN{c:Cc}{elt:Expr}{gs:List b8}{sc:a8}{p:Pos}{ir:EV.E}(h:cE (n+1) c (.ListComp elt gs sc p)=some ir)(h2:fO (.ListComp elt gs sc p)=true) :
  ∃tgt it tgt2 it2 ifs2 iit itg ii2 tg2 it' ie,gs=[⟨tgt,it,[],0⟩,⟨tgt2,it2,ifs2,0⟩]/\(c.calm=true/\qR it=true/\qR it2=true)/\(eV (λx=>c.nm.lookup x) c.N (zk sc.names) (dZ c sc.names) sc=true/\(zk sc.names).Nodup)/\cI n c it=some iit/\cTg (zo c sc) tgt=some itg/\cI n (zo c sc) it2=some ii2/\cTg (zo c sc) tgt2=some tg2/\eE n (zo c sc) ifs2=some it'/\cE n (zo c sc) elt=some ie/\(((esc ie=true/\eC iit tgt=true)/\eC ii2 tgt2=true)/\owned ii2=false)/\ir=.comp2 iit (dZ c sc.names) itg ii2 tg2 it' ie:=by
 unfold cE at h;dsimp only at h;split at h
 ·cases h2
 ·rename_i tgt it ifs asy tgt2 it2 ifs2 asy2
  split at h
  ·cases h
  ·rename_i hs
   have hs:((((asy=0/\asy2=0)/\ifs=[])/\c.calm=true)/\qR it=true)/\qR it2=true:=by simpa using hs
   obtain⟨⟨⟨⟨⟨rfl,rfl⟩,rfl⟩,hs1⟩,hs2⟩,hs3⟩:=hs;split at h
   ·cases h
   ·rename_i hk
    have hk:eV (λx=>c.nm.lookup x) c.N (zk sc.names) (dZ c sc.names) sc=true/\(zk sc.names).Nodup:=by simpa using hk
    simp only[aL,aK]at h;obtain⟨iit,h1,itg,h2,ii2,h3,tg2,h4,it',h5,ie,h6,h⟩:=h;split at h
    ·rename_i he
     simp only[aU,bR]at he;cases h;exact⟨tgt,it,tgt2,it2,ifs2,iit,itg,ii2,tg2,it',ie,rfl,⟨hs1,hs2,hs3⟩,hk,h1,h2,h3,h4,h5,h6,he,rfl⟩
    ·cases h
 ·cases h
theorem Snd.e_succ(ih:Snd w g n)(hn:n<=100000){c:Cc}{E:XK}{X:Cx}(O:XO w g c E X){x:Expr}{ir:EV.E}(h:cE (n+1) c x=some ir):PE X x (tE w g c E ir):=by
 have h0:=h;unfold cE at h;split at h
 ·-- Name
  rename_i y p
  split at h
  ·rename_i i hl
   have:=xW (w:=w) (E:=E) (pos:=p) O hl;cases ho:c.own.contains y with
   |true=>rw[ho]at h this;cases h;exact this
   |false=>rw[ho]at h this;cases h;exact this
  ·split at h
   ·rename_i hg;cases h;exact yo O hg
   ·rename_i fr hg;cases h;exact wR O hg
   ·cases h
 ·split at h
  ·cases h;exact jD AB λ_=>.int _
  ·cases h;exact jD vO λ_=>.bl _
  ·cases h;exact jD A8 λ_=>.non
  ·cases h;exact jD uP λ_=>.str _
  ·cases h
 ·simp only[aL,aK]at h;obtain⟨o,ho,ia,h1,ib,h2,h⟩:=h;cases h;exact xD O ho (ih.e O h1) (ih.e O h2)
 ·rename_i op a p
  simp only[aL,aK]at h;obtain⟨ia,h1,h⟩:=h;cases op with
  |USub=>cases h
  |Invert=>cases h
  |Not=>cases h;exact AW (ih.e O h1)
  |UAdd=>cases h
 ·exact(ih.bo O h).1
 ·split at h
  ·simp only[aL,aK]at h;obtain⟨ia,h1,ib,h2,h⟩:=h;split at h
   ·rename_i hs;cases h;exact xu O (ih.e O h1) (ih.e O h2) hs
   ·cases h
  ·simp only[aL,aK]at h;obtain⟨ia,h1,ib,h2,id',h3,h⟩:=h;split at h
   ·rename_i hs
    simp only[aU]at hs;cases h;exact vG O (ih.e O h1) (ih.e O h2) (ih.e O h3) hs.2
   ·cases h
  ·simp only[aL,aK]at h;obtain⟨ia,h1,ib,h2,id',h3,if',h4,h⟩:=h;split at h
   ·rename_i hs
    simp only[aU]at hs;cases h;exact uj O (ih.e O h1) (ih.e O h2) (ih.e O h3) (ih.e O h4) hs.2
   ·cases h
  ·cases h
 ·simp only[aL,aK]at h;obtain⟨it,h1,ia,h2,ib,h3,h⟩:=h;split at h
  ·rename_i hs
   simp only[aU]at hs;cases h;exact uB (ih.t O h1) (ih.e O h2) (ih.e O h3) hs.1 hs.2
  ·cases h
 ·simp only[aL,aK]at h;obtain⟨ies,h1,h⟩:=h;split at h
  ·rename_i hs;cases h
   exact uo (ih.es O h1) hs λτ ds e=>by rw[kI h1 e];exact bD (jJ h1) hn
  ·cases h
 ·simp only[aL,aK]at h;obtain⟨ies,h1,h⟩:=h;split at h
  ·rename_i hs;cases h
   exact Bh (ih.es O h1) hs λτ ds e=>by rw[kI h1 e];exact bD (jJ h1) hn
  ·cases h
 ·split at h
  ·rename_i lo hi st' sp
   split at h
   ·cases h
   ·simp only[aL,aK]at h;obtain⟨ia,h1,il,h2,ih',h3,h⟩:=h;cases h;exact xE O (ih.e O h1) (ih.o O h2) (ih.o O h3)
  ·split at h
   ·cases h
   ·rename_i hs
    simp only[aL,aK]at h;obtain⟨ia,h1,ib,h2,h⟩:=h;cases h;exact Br O (ih.e O h1) (ih.e O h2) (by simpa using hs)
 ·-- ListComp
  rename_i elt gs sc p
  cases htwo:fO (.ListComp elt gs sc p)with
  |true=>
   obtain⟨tgt,it,tgt2,it2,ifs2,iit,itg,ii2,tg2,it',ie,rfl,hs,hk,h1,h2,h3,h4,h5,h6,he,rfl⟩:=AN h0 htwo;have hS:zD X (zk sc.names) (dZ c sc.names) sc:=zD.of (by
    have e1:(λx=>c.nm.lookup x)=X.env.kindOf:=by funext x;show _=X.env.scope.names.lookup x;rw[O.nm]
    rw[<-e1,O.N];exact hk.1)
   refine By O (O.calm hs.1) hS hk.2 (ih.i O h1 he.1.1.2) (λcl C s₀ H₀ fp=>?_) he.1.1.1 he.2 hs.2.1 hs.2.2;have OY:=O.comp hS.kind hk.2 cl C s₀ H₀ fp;exact⟨gw OY h2,ih.i OY h3 he.1.2,gw OY h4,ih.ifs OY h5,ih.e OY h6⟩
  |false=>
  obtain⟨tgt,it,ifs,iit,itg,it',ie,rfl,hs,hk,h1,h2,h3,h4,he,rfl⟩:=oB h0 htwo;have hS:zD X (zk sc.names) (dZ c sc.names) sc:=zD.of (by
   have e1:(λx=>c.nm.lookup x)=X.env.kindOf:=by funext x;show _=X.env.scope.names.lookup x;rw[O.nm]
   rw[<-e1,O.N];exact hk.1)
  refine vI O (O.calm hs.1) hS hk.2 (ih.i O h1 he.2) (λcl C s₀ H₀ fp=>?_) he.1 hs.2;have OY:=O.comp hS.kind hk.2 cl C s₀ H₀ fp;exact⟨gw OY h2,ih.ifs OY h3,ih.e OY h4⟩
 ·split at h
  ·split at h
   ·exact ih.call_name O h0
   ·cases h
  ·cases hk:kP c _ _ _ with
   |none=>rw[hk]at h;cases h
   |some a=>
    rw[hk]at h;obtain⟨ia,h1,rfl⟩:=bB.mp h;obtain⟨x,p2,y,p3,kp,j,jp,jq,rfl,rfl,rfl,hc,hs,hx,hy⟩:=xy hk;exact ue O (O.calm hc) hx hy (ih.e O h1) hs
 ·cases h
theorem yW:Snd w g 0:=⟨λ_ _ _ h=>(by cases h),λ_ _ _ _ _ h=>by simp[cBo]at h,λ_ _ _ h=>by simp[cO]at h,λ_ _ _ h=>by simp[cEs]at h,λ_ _ _ _ h=>by simp[cI]at h,λ_ _ _ h=>by simp[cT]at h,λ_ _ _ _ _ h=>by simp[cTs]at h,λ_ _ _ h=>by simp[eE]at h⟩
theorem snd:∀n,n<=100000->Snd w g n
 | 0,_=>yW
 |n+1,h=>
  have ih:=snd n (Nat.le_of_succ_le h)
  ⟨λO _ _ q=>ih.e_succ (Nat.le_of_succ_le h) O q,λO _ _ _ _ q=>ih.bo_succ O q,λO _ _ q=>ih.o_succ O q,λO _ _ q=>ih.es_succ O q,λO _ _ _ q t=>ih.i_succ O q t,λO _ _ q=>ih.t_succ O q,λO _ _ _ _ q=>ih.ts_succ O q,λO _ _ q=>ih.ifs_succ O q⟩
end
noncomputable def zz(c:Cc)(i:Nat):Prop:=∃x,c.N[i]? = some x/\c.own.contains x=true
structure SS(g:Gc)(c:Cc)(H0:Hp)(B:Sh)(τ:Env)(σ:L2.St)(H:Hp)(S:Sh):Prop where
 se:SE g c τ σ H S
 lenN:τ.length=c.N.length
 same:qf H0 H
 sub0:Sub B H0
 hd:∀a,S.h a=(B.h a||S.o a)
 new:∀a,S.o a=true->H0 a=none
 own:∀i d,zz c i->τ[i]? = some (some d)->∃a vs ds,σ[i]? = some (some (.ref a))/\S.o a=true/\d=.lst ds/\H a=some (.lst vs)/\qk g (hid H S) ds vs
 inj:∀i j d e a,zz c i->zz c j->τ[i]? = some (some d)->τ[j]? = some (some e)->σ[i]? = some (some (.ref a))->σ[j]? = some (some (.ref a))->i=j
 frz:c.frz=true->(∀i,zz c i->σ[i]? = B.z[i]?)/\qf B.y H
section
variable{g:Gc}{c:Cc}{H0:Hp}{B:Sh}{τ:Env}{σ:L2.St}{H H':Hp}{S:Sh}
theorem SS.up(s:SS g c H0 B τ σ H S)(e:qf H H'):SS g c H0 B τ σ H' S:=
 ⟨s.se.up e,s.lenN,s.same.trans e,s.sub0,s.hd,s.new,λi d hi h=>let ⟨a,vs,ds,h1,h2,h3,h4,h5⟩:=s.own i d hi h;⟨a,vs,ds,h1,h2,h3,e _ _ h4,h5.mono (qh e)⟩,s.inj,λz=>⟨(s.frz z).1,(s.frz z).2.trans e⟩⟩
theorem SS.set{i:Nat}{d:D}{v:V}(s:SS g c H0 B τ σ H S)(hi:¬ zz c i)(r:Rep g (hid H S) d v):SS g c H0 B (τ.set i (some d)) (σ.set i (some v)) H S:=by
 refine⟨s.se.set r,by simp[s.lenN],s.same,s.sub0,s.hd,s.new,λj e hj h=>?_,λj k e f a hj hk h1 h2 h3 h4=>?_,λz=>⟨λj hj=>?_,(s.frz z).2⟩⟩
 ·have hij:i≠j:=λz=>hi (z▸hj)
  rw[List.getElem?_set_ne hij]at h ⊢;exact s.own j e hj h
 ·have hij:i≠j:=λz=>hi (z▸hj)
  have hik:i≠k:=λz=>hi (z▸hk)
  rw[List.getElem?_set_ne hij]at h1 h3;rw[List.getElem?_set_ne hik]at h2 h4;exact s.inj j k e f a hj hk h1 h2 h3 h4
 ·rw[List.getElem?_set_ne (λz:i=j=>hi (z▸hj))];exact(s.frz z).1 j hj
theorem SS.setAll{is:List Nat}:∀{ds:List D}{vs:List V}{τ τ':Env}{σ:L2.St}{Q:L2.St->Hp->Prop},SS g c H0 B τ σ H S->(∀i∈is,¬ zz c i)->qk g (hid H S) ds vs->EV.setAll is ds τ=.ok τ'->(∀σ',SS g c H0 B τ' σ' H S->Q σ' H)->gM is vs σ H Q:=by
 induction is with
 |nil=>
  intro ds vs τ τ' σ Q se _ r h k;cases r with
  |nil=>cases (show R.ok τ=R.ok τ' from h);exact⟨rfl,k σ se⟩
  |cons _ _=>cases (show R.no=R.ok τ' from h)
 |cons i is ih=>
  intro ds vs τ τ' σ Q se ho r h k;cases r with
  |nil=>cases (show R.no=R.ok τ' from h)
  |cons r rs=>exact⟨_,_,rfl,ih (se.set (ho i aO) r) (λj hj=>ho j (aM _ hj)) rs h k⟩
theorem Ag{tg:Tg}(h:iH c tg):match tg with | .nm i=>¬ zz c i | .tp is=>∀i∈is,¬ zz c i:=by
 cases tg with
 |nm i=>rintro⟨x,h1,h2⟩;rw[h x h1]at h2;cases h2
 |tp is=>rintro i hi ⟨x,h1,h2⟩;rw[h i hi x h1]at h2;cases h2
theorem SS.store{X:Cx}(O:X.K=g.K){tg:Tg}{d:D}{v:V}{τ':Env}{Q:L2.St->Hp->Prop}(s:SS g c H0 B τ σ H S)(hf:iH c tg)(r:Rep g (hid H S) d v)(h:EV.store tg d τ=.ok τ')(k:∀σ',SS g c H0 B τ' σ' H S->Q σ' H):gT X.K tg v σ H Q:=by
 have ho:=Ag hf;cases tg with
 |nm i=>
  simp only[EV.store,R.ok.injEq]at h;subst h;exact k _ (s.set ho r)
 |tp is=>
  cases d with
  |tup ds=>
   simp only[EV.store]at h;split at h
   ·rename_i hl
    cases r with
    |tup h1 r1=>exact⟨_,_,rfl,by rw[O];exact zu zw h1,by rw[<-r1.length];exact hl,s.setAll ho r1 h k⟩
   ·cases h
  |_=>simp[EV.store]at h
noncomputable def rQ(S:Sh)(a:Addr):Sh:=⟨λb=>S.o b||b==a,λb=>S.h b||b==a,S.z,S.y⟩
theorem SS.setOwn{i:Nat}{d:D}{v:V}(s:SS g c H0 B τ σ H S)(hz:c.frz=false)(hi:zz c i)(hlt:i<τ.length)(e:qf H H')(f:Fr g H S H' d v):∃S',SS g c H0 B (τ.set i (some d)) (σ.set i (some v)) H' S'/\qf (hid H S) (hid H' S'):=by
 obtain⟨a,vs,ds,rfl,rfl,h1,h2,h3⟩:=f;have up:qf (hid H S) (hid H' (rQ S a)):=λb o hb=>by
  obtain⟨z1,z2⟩:=bG.mp hb;refine bG.mpr ⟨?_,e _ _ z2⟩;show (S.h b||b==a)=false;rw[z1]
  simpa using λz:b=a=>by rw[z,h1]at z2;cases z2
 have hlt':i<σ.length:=by rw[<-s.se.len];exact hlt
 refine⟨rQ S a,⟨⟨by simp[s.se.len],λj e' hj=>?_,λb hb n=>?_⟩,by simp[s.lenN],s.same.trans e,s.sub0,λb=>?_,λb hb=>?_,λj e' hj h=>?_,λj k e1 e2 b hj hk q1 q2 q3 q4=>?_,λz=>by rw[hz]at z;cases z⟩,up⟩
 ·by_cases hij:i=j
  ·subst hij;simp[hlt]at hj;subst hj;refine⟨.ref a,by simp[hlt'],.inr ⟨a,vs,ds,by show (S.o a||a==a)=true;simp,rfl,rfl,h2,h3⟩,λx hx hn=>?_⟩;obtain⟨y,hy1,hy2⟩:=hi;rw[hy1]at hx;cases hx;rw[hn]at hy2;cases hy2
  ·rw[List.getElem?_set_ne hij]at hj ⊢;obtain⟨u,z1,z2,z3⟩:=s.se.val j e' hj;refine⟨u,z1,?_,λx hx hn=>(z3 x hx hn).mono up⟩;rcases z2 with z2|⟨a',vs',ds',y1,y2,y3,y4,y5⟩
   ·exact .inl (z2.mono up)
   ·exact .inr ⟨a',vs',ds',by show (S.o a'||a'==a)=true;rw[y1];rfl,y2,y3,e _ _ y4,y5.mono up⟩
 ·have hb:(S.h b||b==a)=true\/(S.o b||b==a)=true:=hb;by_cases hba:b=a
  ·rw[hba,h2]at n;cases n
  ·have:S.h b=true\/S.o b=true:=by
    rcases hb with z|z
    ·exact .inl (by simpa[hba]using z)
    ·exact .inr (by simpa[hba]using z)
   exact(s.se.sub.same e) b this n
 ·show (S.h b||b==a)=(B.h b||(S.o b||b==a))
  rw[s.hd b,Bool.or_assoc]
 ·have hb:(S.o b||b==a)=true:=hb;by_cases hba:b=a
  ·rw[hba];exact s.same.free h1
  ·exact s.new b (by simpa[hba]using hb)
 ·by_cases hij:i=j
  ·subst hij;simp[hlt]at h;subst h;exact⟨a,vs,ds,by simp[hlt'],by show (S.o a||a==a)=true;simp,rfl,h2,h3⟩
  ·rw[List.getElem?_set_ne hij]at h ⊢;obtain⟨a',vs',ds',y1,y2,y3,y4,y5⟩:=s.own j e' hj h;exact⟨a',vs',ds',y1,by show (S.o a'||a'==a)=true;rw[y2];rfl,y3,e _ _ y4,y5.mono up⟩
 ·have other:∀j e1 b,i≠j->zz c j->τ[j]? = some (some e1)->σ[j]? = some (some (.ref b))->b≠a:=λj e1 b hij hj q1 q3 z=>by
   obtain⟨a',vs',ds',y1,y2,y3,y4,y5⟩:=s.own j e1 hj q1;rw[q3]at y1;cases y1;rw[z,h1]at y4;cases y4
  by_cases hij:i=j
  ·by_cases hik:i=k
   ·rw[<-hij,<-hik]
   ·subst hij;rw[List.getElem?_set_ne hik]at q2 q4;have q3':b=a:=by
     have:(σ.set i (some (.ref a)))[i]? = some (some (.ref a)):=by simp[hlt']
     rw[this]at q3;cases q3;rfl
    exact absurd q3' (other k e2 b hik hk q2 q4)
  ·by_cases hik:i=k
   ·subst hik;rw[List.getElem?_set_ne hij]at q1 q3;have q4':b=a:=by
     have:(σ.set i (some (.ref a)))[i]? = some (some (.ref a)):=by simp[hlt']
     rw[this]at q4;cases q4;rfl
    exact absurd q4' (other j e1 b hij hj q1 q3)
   ·rw[List.getElem?_set_ne hij]at q1 q3;rw[List.getElem?_set_ne hik]at q2 q4;exact s.inj j k e1 e2 b hj hk q1 q2 q3 q4
theorem SS.change{i:Nat}{a:Addr}{d0:D}{vs:List V}{ds:List D}(s:SS g c H0 B τ σ H S)(hz:c.frz=false)(hi:zz c i)(h0:τ[i]? = some (some d0))(ha:σ[i]? = some (some (.ref a)))(r:qk g (hid H S) ds vs):SS g c H0 B (τ.set i (some (.lst ds))) σ (upd H a (.lst vs)) S/\qf (hid H S) (hid (upd H a (.lst vs)) S):=by
 have hlt:i<τ.length:=(List.getElem?_eq_some_iff.mp h0).1;obtain⟨a',vs0,ds0,y1,y2,y3,y4,y5⟩:=s.own i d0 hi h0;rw[ha]at y1;cases y1;have hh:S.h a=true:=by rw[s.hd,y2,Bool.or_true]
 have he:hid (upd H a (.lst vs)) S=hid H S:=fq hh;have other:∀j e,i≠j->zz c j->τ[j]? = some (some e)->∀b,σ[j]? = some (some (.ref b))->b≠a:=λj e hij hj h b hb z=>by
  subst z;exact hij (s.inj i j d0 e b hi hj h0 h ha hb)
 refine⟨⟨⟨by simp[s.se.len],λj e hj=>?_,λb hb n=>?_⟩,by simp[s.lenN],λb o hb=>?_,s.sub0,s.hd,s.new,λj e hj h=>?_,λj k e1 e2 b hj hk q1 q2 q3 q4=>?_,λz=>by rw[hz]at z;cases z⟩,by rw[he];exact qf.refl _⟩
 ·by_cases hij:i=j
  ·subst hij;simp[hlt]at hj;subst hj;refine⟨.ref a,ha,.inr ⟨a,vs,ds,y2,rfl,rfl,zm,by rw[he];exact r⟩,λx hx hn=>?_⟩;obtain⟨y,hy1,hy2⟩:=hi;rw[hy1]at hx;cases hx;rw[hn]at hy2;cases hy2
  ·rw[List.getElem?_set_ne hij]at hj;obtain⟨u,z1,z2,z3⟩:=s.se.val j e hj;by_cases ho:zz c j
   ·obtain⟨b,ws,es,w1,w2,w3,w4,w5⟩:=s.own j e ho hj;rw[z1]at w1;cases w1;refine⟨_,z1,.inr ⟨b,ws,es,w2,rfl,w3,by rw[qt (other j e hij ho hj b z1)];exact w4,by rw[he];exact w5⟩,λx hx hn=>?_⟩;obtain⟨y,hy1,hy2⟩:=ho;rw[hy1]at hx;cases hx;rw[hn]at hy2;cases hy2
   ·have st:Rep g (hid H S) e u:=by
     cases q:c.N[j]? with
     |some x=>
      refine z3 x q ?_;cases q2:c.own.contains x with
      |false=>rfl
      |true=>exact absurd ⟨x,q,q2⟩ ho
     |none=>
      have h1:=(List.getElem?_eq_some_iff.mp hj).1;have h2:=List.getElem?_eq_none_iff.mp q;have h3:=s.lenN;lia
    exact⟨u,z1,.inl (by rw[he];exact st),λ_ _ _=>by rw[he];exact st⟩
 ·by_cases hba:b=a
  ·subst hba;rw[zm]at n;cases n
  ·rw[qt hba]at n;exact s.se.sub b hb n
 ·by_cases hba:b=a
  ·subst hba;rw[s.new b y2]at hb;cases hb
  ·rw[qt hba];exact s.same _ _ hb
 ·by_cases hij:i=j
  ·subst hij;simp[hlt]at h;subst h;exact⟨a,vs,ds,ha,y2,rfl,zm,by rw[he];exact r⟩
  ·rw[List.getElem?_set_ne hij]at h;obtain⟨b,ws,es,w1,w2,w3,w4,w5⟩:=s.own j e hj h;exact⟨b,ws,es,w1,w2,w3,by rw[qt (other j e hij hj h b w1)];exact w4,by rw[he];exact w5⟩
 ·have f:∀k e,(τ.set i (some (.lst ds)))[k]? = some (some e)->∃e',τ[k]? = some (some e'):=λk e h=>by
   by_cases hik:i=k
   ·subst hik;exact⟨d0,h0⟩
   ·rw[List.getElem?_set_ne hik]at h;exact⟨e,h⟩
  obtain⟨e1',q1'⟩:=f j e1 q1;obtain⟨e2',q2'⟩:=f k e2 q2;exact s.inj j k e1' e2' b hj hk q1' q2' q3 q4
end
noncomputable def cG(g:Gc)(c:Cc)(E:XK)(fr:Bool)(H0:Hp)(B:Sh)(H:Hp)(S:Sh)(D:Ends):O->Prop
 | .nx τ'=>∀σ' H' S',SS g c H0 B τ' σ' H' S'->qf (hid H S) (hid H' S')->D.nx σ' H'
 | .bk τ'=>∀σ' H' S',SS g c H0 B τ' σ' H' S'->qf (hid H S) (hid H' S')->D.bk σ' H'
 | .ct τ'=>∀σ' H' S',SS g c H0 B τ' σ' H' S'->qf (hid H S) (hid H' S')->D.ct σ' H'
 | .rt d=>∀v H',qf H0 H'->Rep g (hid H' B) d v->(fr=true->Fr g H0 B H' d v)->D.rt v H'
 | .ex k=>∀H' C,qf H0 H'->g.clA k=some C->E (.ref C) none H'
 | .no=>False
section
variable(w:W)(g:Gc)(c:Cc)(E:XK)(fr:Bool)
noncomputable def tS(s:EV.S):TS:=λD σ H=>∃H0 B τ S,SS g c H0 B τ σ H S/\cG g c E fr H0 B H S D (evS w s τ)
noncomputable def tSs(s:Ss):TS:=λD σ H=>∃H0 B τ S,SS g c H0 B τ σ H S/\cG g c E fr H0 B H S D (qm w s τ)
end
structure XS(w:W)(g:Gc)(c:Cc)(E:XK)(X:Cx):Prop extends XO w g c E X where
 thr:c.thr=true->Throws X E
 exc:∀x C,c.G.lookup x=some .exc->g.clA x=some C->rh g.K C
 cat:∀k x,w.cat k x=true->∀C D,g.clA k=some C->g.clA x=some D->PySem.W.exmOne g.K (.ref C) (.ref D)=some true
 frm:X.ex=[]/\X.stack=X.env::X.outer/\X.env.frame=some X.env.locals
 gh:∀x k,c.GH.lookup x=some k->k≠.exc/\∀v,GM w g X.prog X.w X.mg X.base (X.A.mark v) false x k
section
variable{w:W}{g:Gc}{c:Cc}{E:XK}{fr:Bool}{X:Cx}{H0:Hp}{B:Sh}{τ:Env}{σ:L2.St}{H H':Hp}{S:Sh}{Ed:Ends}
theorem cG.up{o:O}{S':Sh}(h:cG g c E fr H0 B H S Ed o)(e:qf (hid H S) (hid H' S')):cG g c E fr H0 B H' S' Ed o:=by
 cases o with
 |nx t=>exact λσ' H2 S2 s e2=>h σ' H2 S2 s (e.trans e2)
 |bk t=>exact λσ' H2 S2 s e2=>h σ' H2 S2 s (e.trans e2)
 |ct t=>exact λσ' H2 S2 s e2=>h σ' H2 S2 s (e.trans e2)
 |rt d=>exact h
 |ex k=>exact h
 |no=>exact h
theorem s_e{e:EV.E}{f:D->O}{Q:VK}(ss:SS g c H0 B τ σ H S)(h:cG g c E fr H0 B H S Ed ((evE w e τ).out f))(k:∀d v H',evE w e τ=.ok d->bz g c e S H d v H'->cG g c E fr H0 B H S Ed (f d)->Q v H'):tE w g c E e σ H Q:=by
 refine⟨τ,S,ss.se,?_⟩;cases q:evE w e τ with
 |ok d=>rw[q]at h;exact λv H' p=>k d v H' q p h
 |ex x=>rw[q]at h;exact λH' C s hc=>h H' C (ss.same.trans s) hc
 |no=>rw[q]at h;exact h
theorem s_t{t:T}{f:Bool->O}{Q:Bool->Hp->Prop}(ss:SS g c H0 B τ σ H S)(h:cG g c E fr H0 B H S Ed ((evT w t τ).out f))(k:∀b H',evT w t τ=.ok b->qf H H'->cG g c E fr H0 B H S Ed (f b)->Q b H'):tT w g c E t σ H Q:=by
 refine⟨τ,S,ss.se,?_⟩;cases q:evT w t τ with
 |ok d=>rw[q]at h;exact λH' p=>k d H' q p h
 |ex x=>rw[q]at h;exact λH' C s hc=>h H' C (ss.same.trans s) hc
 |no=>rw[q]at h;exact h
theorem ny(ss:SS g c H0 B τ σ H S){b:Addr}(h:S.h b=false):B.h b=false:=by
 have:=ss.hd b;rw[h]at this;cases q:B.h b with
 |false=>rfl
 |true=>rw[q]at this;cases this
theorem vL(ss:SS g c H0 B τ σ H S):qf (hid H' S) (hid H' B):=λb o h=>by
 obtain⟨z1,z2⟩:=bG.mp h;exact bG.mpr ⟨ny ss z1,z2⟩
theorem p6:∀{is:List Nat}{ds:List EV.D}{τ:Env}{x:Str},setAll is ds τ≠.ex x
 | [],[],_,_,h=>by cases h
 | [],_::_,_,_,h=>by cases h
 |_::_,[],_,_,h=>by cases h
 |i::is,d::ds,τ,x,h=>by simp only[setAll]at h;exact p6 h
theorem uV{pos:Pos}:PS X (.Pass pos) (tS w g c E fr .pass):=PS.imp yD λD σ H ⟨H0,B,τ,S,ss,h⟩=>h σ H S ss (qf.refl _)
theorem B9{pos:Pos}:PS X (.Break pos) (tS w g c E fr .brk):=PS.imp Dr λD σ H ⟨H0,B,τ,S,ss,h⟩=>h σ H S ss (qf.refl _)
theorem tY{pos:Pos}:PS X (.Continue pos) (tS w g c E fr .cnt):=PS.imp Bp λD σ H ⟨H0,B,τ,S,ss,h⟩=>h σ H S ss (qf.refl _)
theorem jj{e:Expr}{t:Option Expr}{l:Nat}{env:PySem.Env}(h:eN e=false):swapsWith e t l env=pure false:=by
 cases e<;>first|rfl|(simp[eN]at h)
theorem B5{e:Expr}{ie:EV.E}{pos:Pos}(he:PE X e (tE w g c E ie))(hc:eN e=false):PS X (.Expr e pos) (tS w g c E fr (.exp ie)):=
 PS.imp (jG he (jj hc)) λD σ H ⟨H0,B,τ,S,ss,h⟩=>by
  simp only[cN,de,dv,dD,zQ,dE,dw,cR,dN,dz,dW,dH,ee,dM,dX,dQ]at h;exact s_e ss h λd v H' _ p k=>k σ H' S (ss.up p.same) (qh p.same)
theorem uU{pos:Pos}(hf:fr=false):PS X (.Return none pos) (tS w g c E fr .retN):=PS.imp wB λD σ H ⟨H0,B,τ,S,ss,h⟩=>h _ _ ss.same .non (by rw[hf];intro z;cases z)
theorem k8(ss:SS g c H0 B τ σ H S){a:Addr}{vs:List V}{ds:List EV.D}(h1:H0 a=none)(h2:H' a=some (.lst vs))(h3:qk g (hid H' (zB S a)) ds vs):Rep g (hid H' B) (.lst ds) (.ref a)/\Fr g H0 B H' (.lst ds) (.ref a):=by
 have up:qf (hid H' (zB S a)) (hid H' (zB B a)):=λb o hb=>by
  obtain⟨z1,z2⟩:=bG.mp hb;refine bG.mpr ⟨?_,z2⟩;have z1:(S.h b||b==a)=false:=z1;simp only[Bool.or_eq_false_iff]at z1;show (B.h b||b==a)=false;rw[ny ss z1.1,z1.2];rfl
 exact⟨.lst (SqL.of (bG.mpr ⟨ss.sub0.free h1,h2⟩)) (h3.mono (up.trans lM)),⟨a,vs,ds,rfl,rfl,h1,h2,h3.mono up⟩⟩
theorem nz(ss:SS g c H0 B τ σ H S){a:Addr}{vs:List V}{ds:List EV.D}(y1:S.o a=true)(y3:qk g (hid H' S) ds vs):qk g (hid H' (zB S a)) ds vs:=y3.mono λb o hb=>by
 have hh:S.h a=true:=by rw[ss.hd,y1,Bool.or_true]
 obtain⟨z1,z2⟩:=bG.mp hb;refine bG.mpr ⟨?_,z2⟩;show (S.h b||b==a)=false;rw[z1]
 simpa using λz:b=a=>by rw[z,hh]at z1;cases z1
theorem pV{e:Expr}{ie:EV.E}{pos:Pos}(he:PE X e (tE w g c E ie))(hf:fr=true->fresh c ie=true):PS X (.Return (some e) pos) (tS w g c E fr (.ret ie)):=
 PS.imp (m9 he) λD σ H ⟨H0,B,τ,S,ss,h⟩=>by
  simp only[cN,de,dv,dD,zQ,dE,dw,cR,dN,dz,dW,dH,ee,dM,dX,dQ]at h;refine s_e ss h λd v H' _ p k=>?_
  have k:∀v H',qf H0 H'->Rep g (hid H' B) d v->(fr=true->Fr g H0 B H' d v)->D.rt v H':=k;have s1:=ss.up p.same;by_cases hz:fr=true
  ·obtain⟨a,vs,ds,rfl,rfl,h1,h2,h3⟩:=p.fr (hf hz);obtain⟨r1,r2⟩:=k8 (H':=H') ss (ss.same.free h1) h2 h3;exact k _ H' s1.same r1 λ_=>r2
  ·rcases p.rb with r|⟨a,vs,ds,y1,rfl,rfl,y2,y3⟩
   ·exact k v H' s1.same (r.mono (vL ss)) λz=>absurd z hz
   ·obtain⟨r1,r2⟩:=k8 (H':=H') ss (ss.new a y1) y2 (nz ss y1 y3);exact k _ H' s1.same r1 λ_=>r2
theorem uw(O:XO w g c E X){x:Str}{i:Nat}{p pos:Pos}(h:loc c x=some i)(ho:c.own.contains x=true):PS X (.Return (some (.Name x p)) pos) (tS w g c E fr (.ret (.own i))):=by
 obtain⟨h1,h2,h3,h4⟩:=eQ h;refine PS.imp (m9 (iB (i:=i) (by rw[O.N];exact h1) (by unfold fB;rw[O.nm];exact h2) h3 h4)) λD σ H ⟨H0,B,τ,S,ss,h⟩=>?_
 simp only[cN,de,dv,dD,zQ,dE,dw,cR,dN,dz,dW,dH,ee,dM,dX,dQ,qY,zc,zb,zg,zf,za,ze,qF,qJ,qG,qQ,qM,qx,qC,qK,qB,qN,qD,qz,qP,qT,qE,qA,qS,qL,qH,qO,qI,zF]at h;cases q:τ[i]? with
 |none=>rw[q]at h;exact h.elim
 |some o=>
  cases o with
  |none=>rw[q]at h;exact h.elim
  |some d=>
   rw[q]at h;obtain⟨a,vs,ds,z1,y1,rfl,y2,y3⟩:=ss.own i d ⟨x,h1,ho⟩ q;obtain⟨r1,r2⟩:=k8 (H':=H) ss (ss.new a y1) y2 (nz ss y1 y3);exact⟨_,z1,h _ H ss.same r1 λ_=>r2⟩
theorem j_{e:Expr}{ie:EV.E}{i:Nat}{st:Stmt}{te:TE}(hp:PS X st (iZ te (eZ i)))(hr:∀σ H Q,tE w g c E ie σ H Q->te σ H Q)(hlt:i<c.N.length)(hk:(zz c i/\fresh c ie=true/\c.frz=false)\/(¬ zz c i/\esc ie=true)):PS X st (tS w g c E fr (.set (.nm i) ie)):=
 PS.imp hp λD σ H ⟨H0,B,τ,S,ss,h⟩=>by
  simp only[cN,de,dv,dD,zQ,dE,dw,cR,dN,dz,dW,dH,ee,dM,dX,dQ,store]at h;refine hr σ H _ (s_e ss h λd v H' _ p k=>?_);have k:∀σ' H2 S2,SS g c H0 B (τ.set i (some d)) σ' H2 S2->qf (hid H S) (hid H2 S2)->D.nx σ' H2:=k;rcases hk with ⟨ho,hf,hfz⟩|⟨ho,he⟩
  ·obtain⟨S',s1,s2⟩:=ss.setOwn hfz ho (by rw[ss.lenN];exact hlt) p.same (p.fr hf);exact k _ _ S' s1 s2
  ·exact k _ _ S ((ss.up p.same).set ho (p.st he)) (qh p.same)
theorem CK(O:XO w g c E X){tg e:Expr}{itg:Tg}{ie:EV.E}{pos:Pos}(he:PE X e (tE w g c E ie))(hg:PG X tg (gT X.K itg))(hf:iH c itg)(hes:esc ie=true)(hs:swapsWithSole [tg] e pos.line X.env=pure false)(hw:swappedStores [tg] e X.env=pure none)(h1:(assignEach [tg] X.env).map (·.2)=[assign tg X.env]) :
  PS X (.Assign [tg] e pos) (tS w g c E fr (.set itg ie)):=
 PS.imp (nZ he hg hs hw h1) λD σ H ⟨H0,B,τ,S,ss,h⟩=>by
  simp only[cN,de,dv,dD,zQ,dE,dw,cR,dN,dz,dW,dH,ee,dM,dX,dQ]at h;refine s_e ss h λd v H' _ p k=>?_
  cases q:store itg d τ with
  |ok τ'=>
   rw[q]at k;exact(ss.up p.same).store O.K hf (p.st hes) q λσ' s1=>k σ' H' S s1 (qh p.same)
  |ex z=>cases itg<;>simp only[store]at q<;>first|cases q|(split at q<;>first|cases q|(split at q<;>first|(exact absurd q (p6))|cases q))
  |no=>rw[q]at k;exact k.elim
end
section
variable{w:W}{g:Gc}{c:Cc}{E:XK}{fr:Bool}{X:Cx}{H0:Hp}{B:Sh}{τ:Env}{σ:L2.St}{H H':Hp}{S:Sh}{Ed:Ends}
theorem kj{i:Nat}{d:EV.D}(h:zF τ i=.ok d):τ[i]? = some (some d):=by
 unfold zF at h;split at h
 ·rename_i q;cases h;exact q
 ·cases h
theorem Bw(O:XO w g c E X)(hfz:c.frz=false){x:Str}{i:Nat}{a:Expr}{ia:EV.E}{p ap cp pos:Pos}(h:loc c x=some i)(ho:c.own.contains x=true)(ha:PE X a (tE w g c E ia))(hes:esc ia=true)(hs:isStar a=false)(hl:(ap.endLine==cp.line)=true) :
  PS X (.Expr (.Call (.Attribute (.Name x p) "append" ap) [a] [] cp) pos) (tS w g c E fr (.app i ia)):=by
 obtain⟨h1,h2,h3,h4⟩:=eQ h;have hv:PE X (.Name x p) (gA i):=iB (i:=i) (by rw[O.N];exact h1) (by unfold fB;rw[O.nm];exact h2) h3 h4;have hst:=qo (es:=[]) (env:=X.env) hs;have hb:=o_ (X:=X) (apos:=ap) (cpos:=cp) PySem.F.plainAttrs_list PySem.F.slot_list_append PySem.F.type_list_append nt hv (zv ha zX hst) rfl (by rw[hst];rfl) hl hst rfl;refine PS.imp (jG hb rfl) λD σ H ⟨H0,B,τ,S,ss,k⟩=>?_
 simp only[cN,de,dv,dD,zQ,dE,dw,cR,dN,dz,dW,dH,ee,dM,dX,dQ]at k;cases q:zF τ i with
 |ex z=>unfold zF at q;split at q<;>cases q
 |no=>rw[q]at k;exact k.elim
 |ok d0=>
  rw[q]at k;have q':=kj q;have hi:zz c i:=⟨x,h1,ho⟩
  obtain⟨ad,vs,ds,z1,y1,rfl,y2,y3⟩:=ss.own i d0 hi q';refine⟨_,z1,.inl ⟨rfl,vs,SqL.of y2⟩,s_e ss k λd v H1 _ p1 k1=>?_⟩;simp only at k1;by_cases hz:ds.length<SZ
  ·rw[if_pos hz]at k1;have s1:=ss.up p1.same;have y2':=p1.same _ _ y2;obtain⟨s2,s3⟩:=s1.change (vs:=vs++[v]) (ds:=ds++[d]) hfz hi q' z1 ((y3.mono (qh p1.same)).append (.cons (p1.st hes) .nil));exact⟨ad,vs,v,rfl,rfl,y2',by rw[<-y3.length,bt];unfold SZ at hz;lia,k1 _ _ S s2 ((qh p1.same).trans s3)⟩
  ·rw[if_neg hz]at k1;exact k1.elim
theorem Dz(O:XO w g c E X)(hfz:c.frz=false){x:Str}{i:Nat}{k e:Expr}{ik ie:EV.E}{p sp pos:Pos}(h:loc c x=some i)(ho:c.own.contains x=true)(hk:PE X k (tE w g c E ik))(he:PE X e (tE w g c E ie))(hes:esc ie=true)(hsl:isSlice k=false)(hc:eN e=false) :
  PS X (.Assign [.Subscript (.Name x p) k sp] e pos) (tS w g c E fr (.seti i ik ie)):=by
 obtain⟨h1,h2,h3,h4⟩:=eQ h;have hv:PE X (.Name x p) (gA i):=iB (i:=i) (by rw[O.N];exact h1) (by unfold fB;rw[O.nm];exact h2) h3 h4;have hg:PG X (.Subscript (.Name x p) k sp) (nq (gA i) (tE w g c E ik) ng):=CA hv hk set_list (by intro v;cases k<;>first|rfl|(simp[isSlice]at hsl));refine PS.imp (nZ he hg (by simp only[swapsWithSole];exact jj hc) rfl rfl) λD σ H ⟨H0,B,τ,S,ss,k⟩=>?_
 simp only[cN,de,dv,dD,zQ,dE,dw,cR,dN,dz,dW,dH,ee,dM,dX,dQ]at k;refine s_e ss k λd v H1 _ p1 k1=>?_
 cases q:zF τ i with
 |ex z=>unfold zF at q;split at q<;>cases q
 |no=>rw[q]at k1;exact k1.elim
 |ok d0=>
  rw[q]at k1;have q':=kj q;have hi:zz c i:=⟨x,h1,ho⟩
  have s1:=ss.up p1.same;obtain⟨ad,vs,ds,z1,y1,rfl,y2,y3⟩:=s1.own i d0 hi q';refine⟨_,z1,s_e s1 (cG.up k1 (qh p1.same)) λn vn H2 _ p2 k2=>?_⟩;cases n with
  |int j=>
   simp only at k2;cases qj:ixN ds.length j with
   |none=>rw[qj]at k2;exact k2.elim
   |some m=>
    rw[qj]at k2;have s2:=s1.up p2.same;have y2':=p2.same _ _ y2;obtain⟨s3,s4⟩:=s2.change (vs:=vs.set m v) (ds:=ds.set m d) hfz hi q' z1 ((y3.mono (qh p2.same)).set ((p1.st hes).mono (qh p2.same)) m);exact⟨ad,vs,j,m,rfl,p2.rb.int,y2',by rw[<-y3.length];exact qj,k2 _ _ S s3 ((qh p2.same).trans s4)⟩
  |_=>exact k2.elim
theorem xH:PSs X [] (tSs w g c E fr .nil):=PSs.imp DQ λD σ H ⟨H0,B,τ,S,ss,h⟩=>by
 simp only[qm]at h;exact h σ H S ss (qf.refl _)
theorem nT{s:Stmt}{r:List Stmt}{is:EV.S}{ir:Ss}(h1:PS X s (tS w g c E fr is))(h2:PSs X r (tSs w g c E fr ir)):PSs X (s::r) (tSs w g c E fr (.cons is ir)):=
 PSs.imp (tM h1 h2) λD σ H ⟨H0,B,τ,S,ss,h⟩=>by
  simp only[qm]at h;refine⟨H0,B,τ,S,ss,?_⟩;cases q:evS w is τ with
  |nx τ'=>rw[q]at h;exact λσ' H' S' s' e=>⟨H0,B,τ',S',s',cG.up h e⟩
  |bk τ'=>rw[q]at h;exact h
  |ct τ'=>rw[q]at h;exact h
  |rt d=>rw[q]at h;exact h
  |ex k=>rw[q]at h;exact h
  |no=>rw[q]at h;exact h
theorem wZ{t:Expr}{a b:List Stmt}{it:T}{ia ib:Ss}{pos:Pos}(ht:PT X t (tT w g c E it))(ha:PSs X a (tSs w g c E fr ia))(hb:PSs X b (tSs w g c E fr ib)):PS X (.If t a b pos) (tS w g c E fr (.ite it ia ib)):=
 PS.imp (DR ht ha hb) λD σ H ⟨H0,B,τ,S,ss,h⟩=>by
  simp only[cN,de,dv,dD,zQ,dE,dw,cR,dN,dz,dW,dH,ee,dM,dX,dQ]at h;refine s_t ss h λz H1 _ s1 k1=>?_
  cases z with
  |true=>exact⟨H0,B,τ,S,ss.up s1,cG.up k1 (qh s1)⟩
  |false=>exact⟨H0,B,τ,S,ss.up s1,cG.up k1 (qh s1)⟩
theorem PS.nox'{st:Stmt}{t:TS}(h:PS X.nox st t):PS X st t:=λpins s σ H D I hw=>
 bQ (h pins s σ H D (I.wish _) hw) (λ_ _ q=>q.unwish) λ_ _ z=>bI z
theorem XO.nox(O:XO w g c E X):XO w g c E0 X.nox:=⟨O.K,O.nm,O.N,O.nd,O.calm,O.units,O.fn,O.kind,p8 rfl rfl,O.gok,O.fns,O.sub⟩
theorem XS.nox(O:XS w g c E X):XS w g c E0 X.nox:=⟨O.toXO.nox,λ_ _ _ _ _ _ _ _ _ _ _ z=>bI z,O.exc,O.cat,O.frm,O.gh⟩
theorem xG{o:O}(h:cG g c E fr H0 B H S Ed o.noEx):cG g c E0 fr H0 B H S Ed o/\(∀k,o≠.ex k)/\o≠.no:=by
 cases o with
 |ex k=>exact h.elim
 |no=>exact h.elim
 |nx t=>exact⟨h,(λ_ z=>by cases z),(λz=>by cases z)⟩
 |bk t=>exact⟨h,(λ_ z=>by cases z),(λz=>by cases z)⟩
 |ct t=>exact⟨h,(λ_ z=>by cases z),(λz=>by cases z)⟩
 |rt t=>exact⟨h,(λ_ z=>by cases z),(λz=>by cases z)⟩
noncomputable def frozen(c:Cc)(b:Bool):Cc:={c with frz:=c.frz||b}
theorem XS.froze(O:XS w g c E X){b:Bool}:XS w g (frozen c b) E X:=
 ⟨⟨O.K,O.nm,O.N,O.nd,O.calm,O.units,O.fn,O.kind,O.pass,O.gok,O.fns,O.sub⟩,O.thr,O.exc,O.cat,O.frm,O.gh⟩
noncomputable def et(B:Sh)(b:Bool)(σ:L2.St)(H:Hp):Sh:=if b=true then ⟨B.o,B.h,σ,H⟩else B
theorem lC{b:Bool}:(et B b σ H).h=B.h:=by unfold et;split<;>rfl
theorem uH{b:Bool}{H1:Hp}:hid H1 (et B b σ H)=hid H1 B:=by funext a;unfold hid;rw[lC]
theorem SS.froze(b:Bool)(ss:SS g c H0 B τ σ H S):SS g (frozen c b) H0 (et B b σ H) τ σ H S:=by
 refine⟨⟨ss.se.len,ss.se.val,ss.se.sub⟩,ss.lenN,ss.same,?_,?_,ss.new,ss.own,ss.inj,λz=>?_⟩
 ·unfold et;split
  ·exact ss.sub0
  ·exact ss.sub0
 ·rw[lC];exact ss.hd
 ·cases b with
  |true=>exact⟨λi _=>rfl,qf.refl _⟩
  |false=>
   have z:(c.frz||false)=true:=z;rw[Bool.or_false]at z;exact ss.frz z
theorem SS.thaw{b:Bool}{σ1:L2.St}{H1:Hp}{τ1:Env}{S1:Sh}(s0:SS g c H0 B τ1 σ1 H1 S1)(ss:SS g (frozen c b) H0 (et B b σ1 H1) τ σ H S):SS g c H0 B τ σ H S:=by
 refine⟨⟨ss.se.len,ss.se.val,ss.se.sub⟩,ss.lenN,ss.same,s0.sub0,?_,ss.new,ss.own,ss.inj,λz=>?_⟩
 ·have:=ss.hd;rw[lC]at this;exact this
 ·have f:=ss.frz (by show (c.frz||b)=true;rw[z];rfl);cases b with
  |true=>exact⟨λi hi=>(f.1 i hi).trans ((s0.frz z).1 i hi),(s0.frz z).2.trans f.2⟩
  |false=>exact f
theorem SS.iced{b:Bool}{σ1:L2.St}{H1:Hp}(hb:b=true)(ss:SS g (frozen c b) H0 (et B b σ1 H1) τ σ H S):qf H1 H:=by
 subst hb;exact(ss.frz (by show (c.frz||true)=true;rw[Bool.or_true])).2
theorem yC(O:XO w g c E X)(hc:X.calm=true){tg it:Expr}{b:List Stmt}{itg:Tg}{iit:It}{ib:Ss}{pos:Pos}(hi:PI X.nox tg it (tIt w g c E0 iit))(hg:PG X.nox tg (gT X.K itg))(hf:iH c itg)(hb:PSs X.nox b (tSs w g (frozen c (owned iit)) E0 fr ib))(hs:qR it=true) :
  PS X (.For tg it b [] pos) (tS w g c E fr (.for itg iit ib)):=by
 refine PS.nox' (PS.imp (ub (X:=X.nox) PassesOwn.never hc hi hg hb (λx=>by cases it<;>first|rfl|(simp[qR]at hs))) λD σ H ⟨H0,B,τ,S,ss,h⟩=>?_);simp only[cN,de,dv,dD,zQ,dE,dw,cR,dN,dz,dW,dH,ee,dM,dX,dQ]at h;obtain⟨h,nex,nno⟩:=xG h;cases q:evI w iit τ with
 |ex z=>rw[q]at nex;exact absurd rfl (nex z)
 |no=>rw[q]at nno;exact absurd rfl nno
 |ok ds=>
  rw[q]at h nex nno;simp only[R.out_ok]at h nex nno;refine⟨τ,S,ss.se,?_⟩;rw[q];intro J H1 s1 kW kS;generalize hr:zY itg (λσ=>qm w ib σ) ds τ=r at h nex nno;refine⟨λi m σ' H'=>m=ds.length-i/\i<=ds.length/\∃τ' S',SS g (frozen c (owned iit)) H0 (et B (owned iit) σ H1) τ' σ' H' S'/\qf (hid H1 S) (hid H' S')/\zY itg (λσ=>qm w ib σ) (ds.drop i) τ'=r,⟨ds.length,rfl,br _,τ,S,(ss.up s1).froze _,qf.refl _,hr⟩,?_⟩;rintro i m σ' H' ⟨rfl,hi',τ',S',ss',e',hl⟩;have gg:Goes g J ds H' S':=by
   cases hw:owned iit with
   |false=>exact kS hw H' S' e' ss'.se.sub
   |true=>exact kW H' S' (ss'.iced hw) e' ss'.se.sub
  obtain⟨g1,g2⟩:=gg;have eH:qf (hid H S) (hid H' S'):=(qh s1).trans e';by_cases hlt:i<ds.length
  ·have hd:ds[i]? = some ds[i]:=List.getElem?_eq_getElem hlt;obtain⟨go1,go2⟩:=g2 i ds[i] hd;refine .inr ⟨go1,λσ2 H2=>∃τ' S',SS g (frozen c (owned iit)) H0 (et B (owned iit) σ H1) τ' σ2 H2 S'/\qf (hid H1 S) (hid H2 S')/\zY itg (λσ=>qm w ib σ) (ds.drop (i+1)) τ'=r,λσ2 H2 z=>⟨ds.length-(i+1),by lia,rfl,hlt,z⟩,λx H2 hy=>?_⟩;obtain⟨s2,rx⟩:=go2 x H2 hy;rw[dg hlt]at hl;simp only[zY]at hl;cases q1:store itg ds[i] τ' with
   |ex z=>rw[q1]at hl;exact absurd hl.symm (nex z)
   |no=>rw[q1]at hl;exact absurd hl.symm nno
   |ok τ1=>
    rw[q1]at hl;simp only[R.out_ok]at hl;refine(ss'.up s2).store O.K hf rx q1 λσ1 ss1=>⟨H0,_,τ1,S',ss1,?_⟩
    cases q2:qm w ib τ1 with
    |nx τ2=>rw[q2]at hl;exact λσ2 H3 S3 s3 e3=>⟨τ2,S3,s3,(e'.trans (qh s2)).trans e3,hl⟩
    |ct τ2=>rw[q2]at hl;exact λσ2 H3 S3 s3 e3=>⟨τ2,S3,s3,(e'.trans (qh s2)).trans e3,hl⟩
    |bk τ2=>
     rw[q2]at hl;simp only at hl;rw[<-hl]at h;exact λσ2 H3 S3 s3 e3=>h σ2 H3 S3 ((ss.up s1).thaw s3) ((eH.trans (qh s2)).trans e3)
    |rt d=>
     rw[q2]at hl;simp only at hl;rw[<-hl]at h;refine λv H3 s3 r3 f3=>h v H3 s3 (by rw[uH]at r3;exact r3) λz=>?_
     have f3:=f3 z;unfold et at f3;split at f3
     ·exact f3
     ·exact f3
    |ex z=>rw[q2]at hl;exact absurd hl.symm (nex z)
    |no=>rw[q2]at hl;exact absurd hl.symm nno
  ·have e:i=ds.length:=by lia
   subst e;rw[List.drop_length]at hl;simp only[zY]at hl;rw[<-hl]at h;exact .inl ⟨g1 ds.length (aD _),h σ' H' S' ((ss.up s1).thaw ss') eH⟩
end
section
variable{w:W}{g:Gc}{c:Cc}{E:XK}{fr:Bool}{X:Cx}{H0:Hp}{B:Sh}{τ:Env}{σ:L2.St}{H H':Hp}{S:Sh}{Ed:Ends}
theorem tx{s:Stmt}:PS X s (tS w g c E fr .unk):=λpins s σ H D I ⟨H0,B,τ,S,ss,h⟩=>by
 simp only[cN,de,dv,dD,zQ,dE,dw,cR,dN,dz,dW,dH,ee,dM,dX,dQ]at h;exact h.elim
theorem AH(O:XO w g c E X)(hfz:c.frz=false){x:Str}{i:Nat}{k a:Expr}{ik ia:EV.E}{p ap cp pos:Pos}(h:loc c x=some i)(ho:c.own.contains x=true)(hk:PE X k (tE w g c E ik))(ha:PE X a (tE w g c E ia))(hes:esc ia=true)(hsk:isStar k=false)(hs:isStar a=false)(hl:(ap.endLine==cp.line)=true) :
  PS X (.Expr (.Call (.Attribute (.Name x p) "insert" ap) [k,a] [] cp) pos) (tS w g c E fr (.ins i ik ia)):=by
 obtain⟨h1,h2,h3,h4⟩:=eQ h;have hv:PE X (.Name x p) (gA i):=iB (i:=i) (by rw[O.N];exact h1) (by unfold fB;rw[O.nm];exact h2) h3 h4;have hst:=qo (es:=[]) (env:=X.env) hs;have hst2:=qo (es:=[a]) (env:=X.env) hsk;have hb:=o_ (X:=X) (apos:=ap) (cpos:=cp) PySem.F.plainAttrs_list PySem.F.slot_list_insert PySem.F.type_list_insert wz hv (zv hk (zv ha zX hst) hst2) rfl (by rw[hst2,hst];rfl) hl hst2 (by rw[hst];rfl);refine PS.imp (jG hb rfl) λD σ H ⟨H0,B,τ,S,ss,z⟩=>?_
 simp only[cN,de,dv,dD,zQ,dE,dw,cR,dN,dz,dW,dH,ee,dM,dX,dQ]at z;cases q:zF τ i with
 |ex y=>unfold zF at q;split at q<;>cases q
 |no=>rw[q]at z;exact z.elim
 |ok d0=>
  rw[q]at z;have q':=kj q;have hi:zz c i:=⟨x,h1,ho⟩
  obtain⟨ad,vs,ds,z1,y1,rfl,y2,y3⟩:=ss.own i d0 hi q';refine⟨_,z1,.inl ⟨rfl,vs,SqL.of y2⟩,s_e ss z λn vn H1 _ p1 k1=>?_⟩;have s1:=ss.up p1.same;refine s_e s1 (cG.up k1 (qh p1.same)) λd v H2 _ p2 k2=>?_
  simp only[iA]at k2;cases n with
  |int j=>
   simp only at k2;split at k2
   ·rename_i hj
    have s2:=s1.up p2.same;have y2':=p2.same _ _ (p1.same _ _ y2);have y3':=(y3.mono (qh p1.same)).mono (qh p2.same);obtain⟨s3,s4⟩:=s2.change (vs:=vs.take j.toNat++v::vs.drop j.toNat) (ds:=ds.take j.toNat++d::ds.drop j.toNat) hfz hi q' z1 ((y3'.take _).append (.cons (p2.st hes) (y3'.drop _)));have hn:=y3.length;exact⟨ad,vs,j,v,rfl,by rw[p1.rb.int],y2',by rw[<-hn,bt];have:=hj.2.2;unfold SZ at this;lia,hj.1,by rw[<-hn];exact hj.2.1,k2 _ _ S s3 ((qh p2.same).trans s4)⟩
   ·exact k2.elim
  |_=>exact k2.elim
end
theorem yk{e:Expr}{x:Str}{ap cp:Pos}{k a:Expr}(h:jF e=some (x,ap,k,a,cp)):∃p,e=.Call (.Attribute (.Name x p) "insert" ap) [k,a] [] cp:=by
 unfold jF at h;split at h
 ·split at h
  ·split at h
   ·split at h
    ·split at h
     ·rename_i hk
      simp only[aU,List.isEmpty_iff,beq_iff_eq]at hk;obtain⟨rfl,rfl⟩:=hk;cases h;exact⟨_,rfl⟩
     ·cases h
    ·cases h
   ·cases h
  ·cases h
 ·cases h
theorem uv{ts:List Expr}{k:Nat}{p:Pos}{e:Expr}{env:PySem.Env}(h:isTup e=true->kQ e=true):swappedStores [.Tuple ts k p] e env=pure none:=by
 cases e<;>first|rfl|skip
 rename_i vs k2 p2
 have h:vs.all (foldedForSure 8)=true:=h rfl;unfold swappedStores;simp only[h,if_true];split
 ·rfl
 ·split
  ·rfl
  ·split
   ·rfl
   ·rfl
section
variable{w:W}{g:Gc}{c:Cc}{E:XK}{fr:Bool}{X:Cx}
theorem Aa(O:XO w g c E X){n:Nat}(hn:n<=100000){x:Str}{i:Nat}{elt:Expr}{gs:List b8}{sc:a8}{p p' pos:Pos}{ie:EV.E}(hl:dJ c x=some i)(h:cE n c (.ListComp elt gs sc p)=some ie)(htw:fO (.ListComp elt gs sc p)=false)(hk:(zz c i/\fresh c ie=true/\c.frz=false)\/(¬ zz c i/\esc ie=true)) :
  PS X (.Assign [.Name x p'] (.ListComp elt gs sc p) pos) (tS w g c E fr (.set (.nm i) ie)):=by
 obtain⟨l1,l2⟩:=fF hl;obtain⟨l3,_⟩:=eQ l1;have hlt:i<c.N.length:=(List.getElem?_eq_some_iff.mp l3).1;have hN:X.N.Nodup:=by rw[O.N];exact O.nd
 have hix:X.N[i]? = some x:=by rw[O.N];exact l3
 have hx:L2.Loc X.env.scope x:=by unfold L2.Loc;rw[O.nm];rcases l2 with z|z;exact .inl z;exact .inr z.1
 have hf:X.fn x=true\/X.env.scope.names.lookup x=some .local:=by
  rcases l2 with z|z
  ·exact .inr (by rw[O.nm];exact z)
  ·exact .inl (O.fn x z.2)
 cases hb:(X.env.blockKind==.function&&X.env.kindOf x==some .local&&p'.line==p.line && !(sc.names.any λ(n,k)=>n==x&&(k==.local||k==.cell)))with
 |false=>
  have hs:swapsWith (.ListComp elt gs sc p) (some (.Name x p')) pos.line X.env=pure false:=by rw[<-hb];rfl
  exact j_ (e:=.ListComp elt gs sc p) (nh hN hix hx ((snd n hn).e O h) hs hf) (λ_ _ _ z=>z) hlt hk
 |true=>
  have hs:swapsWith (.ListComp elt gs sc p) (some (.Name x p')) pos.line X.env=pure true:=by rw[<-hb];rfl
  match n,h with
  | 0,h=>cases h
  |m+1,h=>
   have ih:=snd (w:=w) (g:=g) m (Nat.le_of_succ_le hn);obtain⟨tgt,it,ifs,iit,itg,it',ie',rfl,hs1,hk1,h1,h2,h3,h4,he,rfl⟩:=oB h htw;have hS:zD X (zk sc.names) (dZ c sc.names) sc:=zD.of (by
    have e1:(λx=>c.nm.lookup x)=X.env.kindOf:=by funext x;show _=X.env.scope.names.lookup x;rw[O.nm]
    rw[<-e1,O.N];exact hk1.1)
   refine j_ (e:=.ListComp elt [⟨tgt,it,ifs,0⟩] sc p) (wQ (tb:=λacc=>fv acc (tE w g (zo c sc) E0 ie')) hN hix hx (O.calm hs1.1) hS (ih.i O h1 he.2) (λcl C s₀ H₀ fp=>?_) (by simp) hs hf (λx=>by
    have q:=hs1.2;cases it<;>first|rfl|cases q)) (λσ H Q q=>sf O hS he.1 q) hlt hk
   have OY:=O.comp hS.kind hk1.2 cl C s₀ H₀ fp;exact⟨gw OY h2,ih.ifs OY h3,λacc=>km rfl (ih.e OY h4)⟩
end
structure iu(w:W)(g:Gc)(n:Nat):Prop where
 s:∀{c:Cc}{E:XK}{X:Cx} (O:XS w g c E X) {fr:Bool}{x:Stmt}{ir:EV.S},cS n c fr x=some ir->PS X x (tS w g c E fr ir)
 ss:∀{c:Cc}{E:XK}{X:Cx} (O:XS w g c E X) {fr:Bool}{x:List Stmt}{ir:Ss},cSs n c fr x=some ir->PSs X x (tSs w g c E fr ir)
section
variable{w:W}{g:Gc}{n:Nat}
theorem iu.ss_succ(ih:iu w g n){c:Cc}{E:XK}{X:Cx}(O:XS w g c E X){fr:Bool}{x:List Stmt}{ir:Ss}(h:cSs (n+1) c fr x=some ir):PSs X x (tSs w g c E fr ir):=by
 match x with
 | []=>simp only[cSs,cx]at h;subst h;exact xH
 |s::r=>
  simp only[cSs,aL,aK]at h;obtain⟨ir',h2,h⟩:=h;cases h;cases h1:cS n c fr s with
  |none=>exact nT tx (ih.ss O h2)
  |some is=>exact nT (ih.s O h1) (ih.ss O h2)
theorem Bg{c:Cc}{x:Str}{i:Nat}(h:c.N[i]? = some x):zz c i↔c.own.contains x=true:=⟨λ⟨y,h1,h2⟩=>by rw[h]at h1;cases h1;exact h2,λh2=>⟨x,h,h2⟩⟩
theorem x_{e:Expr}{x m:Str}{ap cp:Pos}{a:Expr}(h:lh e=some (x,m,ap,a,cp)):∃p,e=.Call (.Attribute (.Name x p) m ap) [a] [] cp:=by
 unfold lh at h;split at h
 ·split at h
  ·split at h
   ·split at h
    ·split at h
     ·rename_i hk;cases h;rw[List.isEmpty_iff]at hk;subst hk;exact⟨_,rfl⟩
     ·cases h
    ·cases h
   ·cases h
  ·cases h
 ·cases h
theorem iu.s_succ(ih:iu w g n)(hn:n<=100000){c:Cc}{E:XK}{X:Cx}(O:XS w g c E X){fr:Bool}{x:Stmt}{ir:EV.S}(h:cS (n+1) c fr x=some ir):PS X x (tS w g c E fr ir):=by
 have K:=snd (w:=w) (g:=g) n hn;unfold cS at h;split at h
 ·rename_i ts0 e pos
  split at h
  ·rename_i t0
   split at h
   ·-- x = e
    rename_i y p
    split at h
    ·cases h
    rename_i htw
    have htw:fO e=false:=by simpa using htw
    simp only[aL,aK]at h;obtain⟨i,hl,ie,h1,h⟩:=h;obtain⟨l1,l2⟩:=fF hl;obtain⟨l3,_⟩:=eQ l1;have ho:=Bg l3;have hk:((zz c i/\fresh c ie=true/\c.frz=false)\/(¬ zz c i/\esc ie=true))/\ir=.set (.nm i) ie:=by
     split at h
     ·rename_i hy
      split at h
      ·rename_i hf;cases h;exact⟨.inl ⟨ho.mpr hy,by simpa using hf⟩,rfl⟩
      ·cases h
     ·rename_i hy
      split at h
      ·rename_i hf;cases h;exact⟨.inr ⟨λz=>hy (ho.mp z),hf⟩,rfl⟩
      ·cases h
    obtain⟨hk,rfl⟩:=hk;cases hc:eN e with
    |false=>
     refine j_ (e:=e) (nh (i:=i) (by rw[O.N];exact O.nd) (by rw[O.N];exact l3) (by unfold L2.Loc;rw[O.nm];rcases l2 with z|z;exact .inl z;exact .inr z.1) (K.e O.toXO h1) (jj hc) ?_) (λ_ _ _ z=>z) (List.getElem?_eq_some_iff.mp l3).1 hk;rcases l2 with z|z
     ·exact .inr (by rw[O.nm];exact z)
     ·exact .inl (O.fn y z.2)
    |true=>
     cases e with
     |ListComp elt gs sc p=>exact Aa O.toXO hn hl h1 htw hk
     |SetComp elt gs sc p=>match n,h1 with
      | 0,h1=>cases h1
      |m+1,h1=>cases h1
     |DictComp a b gs sc p=>match n,h1 with
      | 0,h1=>cases h1
      |m+1,h1=>cases h1
     |_=>cases hc
   ·-- (a, b) = e
    rename_i ts k p
    simp only[aL,aK]at h;obtain⟨tg,h1,ie,h2,h⟩:=h;split at h
    ·cases h
    ·rename_i hc
     have hc:((isTup e=true->kQ e=true)/\eN e=false)/\esc ie=true:=by simpa using hc
     cases h;refine CK O.toXO (K.e O.toXO h2) (gw O.toXO h1) (mR h1) hc.2 (by simp only[swapsWithSole];exact jj hc.1.2) ?_ rfl;exact uv hc.1.1
   ·-- x[k] = e
    split at h
    ·simp only[aL,aK]at h;obtain⟨i,hl,ie,h1,ik,h2,h⟩:=h;split at h
     ·rename_i hc
      simp only[aU,bR]at hc;cases h;exact Dz O.toXO hc.2 (fF hl).1 hc.1.1.1.1 (K.e O.toXO h2) (K.e O.toXO h1) hc.1.1.1.2 hc.1.1.2 hc.1.2
     ·cases h
    ·cases h
   ·cases h
  ·cases h
 ·split at h
  ·-- x.insert(k, a)
   rename_i he
   obtain⟨p,rfl⟩:=yk he;simp only[aL,aK]at h;obtain⟨i,hl,ik,h0,ia,h1,h⟩:=h;split at h
   ·rename_i hc
    simp only[aU,bR,beq_iff_eq]at hc;cases h;obtain⟨⟨⟨⟨⟨c2,c3⟩,c4⟩,c5⟩,c6⟩,c7⟩:=hc;exact AH O.toXO c7 (fF hl).1 c2 (K.e O.toXO h0) (K.e O.toXO h1) c3 c4 c5 (by simpa using c6)
   ·cases h
  split at h
  ·-- x.append(a)
   rename_i he
   obtain⟨p,rfl⟩:=x_ he;simp only[aL,aK]at h;obtain⟨i,hl,ia,h1,h⟩:=h;split at h
   ·rename_i hc
    simp only[aU,bR,beq_iff_eq]at hc;cases h;obtain⟨⟨⟨⟨⟨rfl,c2⟩,c3⟩,c4⟩,c5⟩,c6⟩:=hc;exact Bw O.toXO c6 (fF hl).1 c2 (K.e O.toXO h1) c3 c4 (by simpa using c5)
   ·cases h
  ·split at h
   ·cases h
   ·rename_i hc
    simp only[aL,aK]at h;obtain⟨ie,h1,h⟩:=h;cases h;exact B5 (K.e O.toXO h1) (by simpa using hc)
 ·split at h
  ·-- return e
   rename_i e
   simp only[aL,aK]at h;obtain⟨ie,h1,h⟩:=h;split at h
   ·rename_i hf
    split at h
    ·rename_i y p
     split at h
     ·rename_i ho
      simp only[bB]at h;obtain⟨i,hl,rfl⟩:=h;exact uw O.toXO hl ho
     ·cases h
    ·split at h
     ·rename_i hfr
      cases h;exact pV (K.e O.toXO h1) λ_=>hfr
     ·cases h
   ·rename_i hf
    cases h;exact pV (K.e O.toXO h1) λz=>absurd z hf
  ·split at h
   ·cases h
   ·rename_i hf
    cases h;exact uU (by simpa using hf)
 ·simp only[aL,aK]at h;obtain⟨it,h1,ia,h2,ib,h3,h⟩:=h;cases h;exact wZ (K.t O.toXO h1) (ih.ss O h2) (ih.ss O h3)
 ·split at h
  ·cases h
  ·rename_i tg0 it0 b0 els0 pos0 hc
   have hc:(els0=[]/\c.calm=true)/\qR it0=true:=by simpa using hc
   obtain⟨⟨rfl,hc1⟩,hc2⟩:=hc;simp only[aL,aK]at h;obtain⟨tg,h1,it,h2,h⟩:=h;split at h
   ·cases h
   ·rename_i ho
    have ho:eC it tg0=true:=by simpa using ho
    simp only[aK]at h;obtain⟨ib,h3,h⟩:=h;cases h;exact yC O.toXO (O.calm hc1) (K.i O.toXO.nox h2 ho) (gw O.toXO.nox h1) (mR h1) (ih.ss O.nox.froze h3) hc2
 ·cases h;exact uV
 ·cases h;exact B9
 ·cases h;exact tY
 ·cases h
theorem m6:∀n,n<=100000->iu w g n
 | 0,_=>⟨λ_ _ _ _ h=>(by cases h),λ_ _ _ _ h=>by simp[cSs]at h⟩
 |n+1,h=>
  have ih:=m6 n (Nat.le_of_succ_le h)
  ⟨λO _ _ _ q=>ih.s_succ (Nat.le_of_succ_le h) O q,λO _ _ _ q=>ih.ss_succ O q⟩
end
section
variable{w:W}{g:Gc}{c:Cc}{E:XK}{fr:Bool}{X:Cx}{H0:Hp}{B:Sh}{τ:Env}{σ:L2.St}{H H':Hp}{S:Sh}{n:Nat}
noncomputable def jX(g:Gc)(E:XK)(fr:Bool)(H0:Hp)(B:Sh)(D:Ends):O->Prop
 | .nx _=>∀σ' H',qf H0 H'->D.nx σ' H'
 | .rt d=>∀v H',qf H0 H'->Rep g (hid H' B) d v->(fr=true->Fr g H0 B H' d v)->D.rt v H'
 | .ex k=>∀H' C,qf H0 H'->g.clA k=some C->E (.ref C) none H'
 |_=>False
theorem jX.out{D:Ends}{o:O}(h:jX g E fr H0 B D o):cG g c E fr H0 B H S D o:=by
 cases o with
 |nx t=>exact λσ' H' S' ss _=>h σ' H' ss.same
 |rt d=>exact h
 |ex k=>exact h
 |bk t=>exact h.elim
 |ct t=>exact h.elim
 |no=>exact h.elim
noncomputable def Am(w:W)(g:Gc)(c:Cc)(E:XK)(fr:Bool)(s:Ss):TS:=λD σ H=>∃H0 B τ S,SS g c H0 B τ σ H S/\jX g E fr H0 B D (qm w s τ)
theorem BZ(hn:n<=100000)(O:XS w g c E X){x:List Stmt}{ir:Ss}(h:jz n c fr x=some ir):PSs X x (Am w g c E fr ir):=
 PSs.imp ((m6 n hn).ss O h) λD σ H ⟨H0,B,τ,S,ss,z⟩=>⟨H0,B,τ,S,ss,z.out⟩
end
noncomputable def GM0(p:Pr)(g:Gc)(mg:Str->Option ae)(x:Str):GK->Prop
 | .fn _=>∃f,g.fnA x=some f
 | .val=>∃u v d,mg x=some u/\RelV v u/\p.glb x=some d/\∀H,Rep g H d v
 | .bi b=>mg x=none/\x=b1N b/\∃id,b1V b=.builtin id
 | .rng=>mg x=none/\x = "range"
 | .enum=>mg x=none/\x = "enumerate"
 | .zip=>mg x=none/\x = "zip"
 | .isi=>mg x=none/\x = "isinstance"
 | .ty n b=>mg x=none/\bN x=some (.type n)/\(n∈["int","bool","str","list","tuple"]\/n = "ValueError")/\∀b',b=some b'->x=b1N b'/\b1V b'=.type n
 | .exc=>∃C,mg x=some (.ref C)/\g.clA x=some C/\rh g.K C
 | .exk=>∃C,mg x=some (.ref C)/\g.clA x=some C
 | .set=>mg x=none/\bN x=some (.type "set")
structure Ground(p:Pr)(g:Gc)(G GH GU:List (Str×GK))(mg:Str->Option ae):Prop where
 fn:∀x f,g.fnA x=some f->∃st own fr fd fnn,p.fns x=some fnn/\cFn G GH own fr st=some fnn/\Fun g.K x x st f fd/\Binds g.K fd (argNames (zi st)) []/\cL g.K (.ref f)=true/\mg x=some (.ref f)/\G.lookup x=some (.fn fr)
 gl:∀x k,G.lookup x=some k->GM0 p g mg x k
 gu:∀x k,GU.lookup x=some k->(∀fr,k≠.fn fr)/\k≠.exc/\GM0 p g mg x k
 gh:∀x k,GH.lookup x=some k->GU.lookup x=some k
 sub:∀k cl b,p.sub k cl=some b->∃C cv,g.clA k=some C/\jV g.K C/\cB g.K (.ref C) cv=some b/\match cl with
  | .ty n=>n = "ValueError"/\cv=.type n
  | .ex x=>∃D,g.clA x=some D/\cv=.ref D
 cat:∀k x,p.cat k x=true->∀C D,g.clA k=some C->g.clA x=some D->PySem.W.exmOne g.K (.ref C) (.ref D)=some true
abbrev wAt(p:Pr)(k:Nat):W:=⟨qe p k,p.glb,p.sub,p.cat⟩
theorem u4{N ps:List Str}{sc:a8}(h:iX N ps sc=true):gP N ps sc:=by
 unfold iX at h;simp only[aU,beq_iff_eq,bR,decide_eq_true_eq,cy,cA,bne_iff_ne,ne_eq]at h;obtain⟨⟨⟨⟨⟨⟨h1,h2⟩,h3⟩,h4⟩,h5⟩,h6⟩,h7⟩:=h;exact⟨h1,h2,h3,h4,h5,h6,h7⟩
theorem DG{G GH:List (Str×GK)}{own:List Str}{fr:Bool}{st:Stmt}{fnn:Fn}(h:cFn G GH own fr st=some fnn):iX (gG (zi st) (qZ st)) (argNames (zi st)) (qZ st)=true/\(argNames (zi st)).any own.contains=false /\
  ∃b,jz kE ⟨(qZ st).names,gG (zi st) (qZ st),own,G,true,true,false,GH,[],false⟩ fr (d_ st)=some b/\fnn=⟨(argNames (zi st)).length,(gG (zi st) (qZ st)).length,fr,b⟩:=by
 unfold cFn at h;dsimp only at h;split at h
 ·cases h
 ·rename_i hc
  simp only[cA,bR,not_or,Bool.not_eq_false,Bool.not_eq_true]at hc;simp only[aL,aK,cx]at h;obtain⟨b,h1,h2⟩:=h;exact⟨hc.1,hc.2,b,h1,h2.symm⟩
section
variable{P:aC}{w:av}{K:aB}{mg:Str->Option ae}{base:Heap}{N:List Str}{qual:Str}{scope:a8}{f:Addr}{cd:ae}{A:aA}{outer:List PySem.Env}{s₀:af}{H₀:Hp}{E:XK}
end
theorem GM0.gm{p:Pr}{g:Gc}{mg:Str->Option ae}{x:Str}{k:GK}{P:aC}{wl:av}{base:Heap}{A:aA}{calm:Bool}{n:Nat}(h:GM0 p g mg x k)(hf:∀fr,k≠.fn fr):GM (wAt p n) g P wl mg base A calm x k:=by
 cases k with
 |fn fr'=>exact absurd rfl (hf fr')
 |exc=>obtain⟨C,h1,h2,_⟩:=h;exact⟨C,h1,h2⟩
 |val=>exact h
 |bi b=>exact h
 |rng=>exact h
 |enum=>exact h
 |zip=>exact h
 |isi=>exact h
 |ty n b=>exact h
 |exk=>exact h
 |set=>exact h
theorem AZ{w:W}{g:Gc}{c:Cc}{E:XK}{X:Cx}{N ps own:List Str}{sc:a8}{fr:Bool}{body:List Stmt}{b:Ss}(hcN:c.N=N)(hco:c.own=own)(hcz:c.frz=false)(FS:gP N ps sc)(c2:ps.any own.contains=false)(c3:jz kE c fr body=some b)
  (O:XS w g c E X) {vs:List V}{ds:List D}{B:Sh}{H:Hp}{Q:VK} (hB:Sub B H) (rv:qk g (hid H B) ds vs) (hl:ds.length=ps.length)
  (h:tR g E H (match qm w b (ds.map some++b6 (N.length-ps.length) none)with
   | .nx _=>if fr then .no else .ok .non
   | .rt d=>.ok d
   | .ex c=>.ex c
   |_=>.no) (λd=>∀v H',qf H H'->Rep g (hid H' B) d v->(fr=true->Fr g H B H' d v)->Q v H')) :
  ∃t,PSs X body t/\t {nx:=λ_ H'=>Q .non H',rt:=Q} (start N vs) H:=by
 have hNl:ps.length<=N.length:=by have:=congrArg List.length FS.pre;rw[cz]at this;lia
 refine⟨_,BZ (by decide) O c3,H,B,ds.map some++b6 (N.length-ps.length) none,⟨λ_=>false,B.h,B.z,B.y⟩,?_,?_⟩
 ·-- at the start
  have hh:hid H ⟨λ_=>false,B.h,B.z,B.y⟩=hid H B:=rfl;have hvl:=rv.length;have par:∀i d,(ds.map some++b6 (N.length-ps.length) none)[i]? = some (some d)->i<ps.length/\ds[i]? = some d:=λi d hi=>by
   by_cases hlt:i<ds.length
   ·rw[List.getElem?_append_left (by simpa using hlt),List.getElem?_map]at hi;refine⟨by lia,?_⟩;cases q:ds[i]? with
    |none=>rw[q]at hi;cases hi
    |some e=>rw[q]at hi;simpa using hi
   ·rw[List.getElem?_append_right (by simpa using hlt)]at hi;rw[List.getElem?_replicate]at hi;split at hi<;>cases hi
  have noOwn:∀i d,zz c i->(ds.map some++b6 (N.length-ps.length) none)[i]? = some (some d)->False:=λi d ⟨y,h1,h2⟩ hi=>by
   obtain⟨hlt,_⟩:=par i d hi;rw[hcN]at h1;rw[hco]at h2;have:N.take ps.length=ps:=FS.pre;have hy:ps[i]? = some y:=by
    rw[<-this,List.getElem?_take,if_pos hlt];exact h1
   have:=List.any_eq_false.mp c2 y (List.mem_of_getElem? hy);exact this h2
  refine⟨⟨by simp[L2.start];lia,λi d hi=>?_,λa ha=>?_⟩,by simp[hcN];lia,qf.refl _,hB,(λa=>by simp),(λa ha=>by cases ha),(λi d ho hi=>(noOwn i d ho hi).elim),λi j d e a ho _ hi _ _ _=>(noOwn i d ho hi).elim,λz=>by rw[hcz]at z;cases z⟩
  ·obtain⟨hlt,hd⟩:=par i d hi;obtain⟨v,h1,h2⟩:=rv.get hd;have hlt':i<vs.length:=by lia
   refine⟨v,?_,.inl h2,λ_ _ _=>h2⟩;unfold L2.start;rw[List.getElem?_append_left (by simpa using hlt'),List.getElem?_map,h1]
   rfl
  ·refine hB a ?_;rcases ha with ha|ha
   ·exact .inl ha
   ·cases ha
 ·-- at the end
  cases q:qm w b (ds.map some++b6 (N.length-ps.length) none)with
  |nx τ'=>
   rw[q]at h;simp only at h;cases fr with
   |true=>exact h.elim
   |false=>exact λσ' H' hs=>h .non H' hs .non (by intro z;cases z)
  |rt d=>rw[q]at h;exact h
  |ex z=>rw[q]at h;exact h
  |bk z=>rw[q]at h;exact h.elim
  |ct z=>rw[q]at h;exact h.elim
  |no=>rw[q]at h;exact h.elim
section
variable{p:Pr}{g:Gc}{G GH GU:List (Str×GK)}{mg:Str->Option ae}{P:aC}{wl:av}{base:Heap}
theorem Ground.ok(T:Ground p g G GH GU mg):∀(k:Nat) (x:Str) (f:Addr) (st:Stmt) (own:List Str) (fr:Bool) (fd:FuncData) (fnn:Fn),p.fns x=some fnn->cFn G GH own fr st=some fnn->Fun g.K x x st f fd ->
  eY P wl g.K mg base (CX1 P wl) k f fd (argNames (zi st)) (spF (wAt p k) g x fr)
 | 0,x,f,st,own,fr,fd,fnn,_,_,_=>⟨λvs H Q E ⟨S,ds,_,_,h⟩=>h.elim,λA outer s H args us vs Q E _ _ _ _ ⟨S,ds,_,_,h⟩=>h.elim⟩
 |k+1,x,f,st,own,fr,fd,fnn,hf,hc,F=>by
  obtain⟨c1,c2,b,c3,rfl⟩:=DG hc;have FS:=u4 c1;generalize hN:gG (zi st) (qZ st)=N at *;generalize hps:argNames (zi st)=ps at *;have call:∀ds,qe p (k+1) x ds=cX (wAt p k) ⟨ps.length,N.length,fr,b⟩ ds:=λds=>by simp only[qe,hf]
  have lenOf:∀vs H Q E,spF (wAt p (k+1)) g x fr vs H Q E->vs.length=ps.length:=λvs H Q E ⟨S,ds,_,r,h⟩=>by
   have h:tR g E H (qe p (k+1) x ds) _:=h;rw[call]at h;unfold cX at h;by_cases hl:ds.length=ps.length
   ·rw[<-r.length];exact hl
   ·rw[if_neg hl]at h;exact h.elim
  refine F.ok1 FS lenOf λcdv A outer s H vs Q E hr hsp=>?_
  obtain⟨B,ds,hB,rv,h⟩:=hsp;have h:tR g E H (qe p (k+1) x ds) (λd=>∀v H',qf H H'->Rep g (hid H' B) d v->(fr=true->Fr g H B H' d v)->Q v H'):=h;rw[call]at h;unfold cX at h;by_cases hl:ds.length=ps.length
  ·rw[if_pos hl]at h
   -- the ground of the body
   have calls:∀y fy,g.fnA y=some fy->∃fry,G.lookup y=some (.fn fry)/\je (wAt p k) g P wl mg base (A.deeper (envOfC x (qZ st) s.heap.objs.size f cdv)) true y fy fry:=λy fy hy=>by
    obtain⟨sty,owny,fry,fdy,fny,z1,z2,z3,z4,z5,z6,z7⟩:=T.fn y fy hy;exact⟨fry,z7,z6,z5,k,fdy,_,z4,.inl ⟨rfl,Ground.ok T k y fy sty owny fry fdy fny z1 z2 z3,hr⟩⟩
   have O:XS (wAt p k) g ⟨(qZ st).names,N,own,G,true,true,false,GH,[],false⟩ E (eM (CX1 P wl) P wl g.K mg base N x (qZ st) f cdv A outer s H E):=by
    refine⟨⟨rfl,rfl,rfl,FS.nd,λ_=>rfl,hr.units,λ_ _=>rfl,FS.kind,Bf,λy ky hy=>?_,λ_ y fy hy=>?_,T.sub⟩,(λz=>by cases z),λy C hy hC=>?_,T.cat,⟨rfl,rfl,rfl⟩,λy ky hy=>?_⟩
    ·have:=T.gl y ky hy;by_cases hf:∃fr,ky=.fn fr
     ·obtain⟨fr',rfl⟩:=hf;obtain⟨fy,h1⟩:=this;obtain⟨fry,h2,h3⟩:=calls y fy h1;have hy:G.lookup y=some (.fn fr'):=hy;rw[hy]at h2;cases h2;exact⟨fy,h1,h3⟩
     ·exact this.gm λfr z=>hf ⟨fr,z⟩
    ·obtain⟨fry,_,h3⟩:=calls y fy hy;exact⟨fry,h3⟩
    ·obtain⟨C',_,h2,h3⟩:=T.gl y .exc hy;rw[h2]at hC;cases hC;exact h3
    ·obtain⟨u1,u2,u3⟩:=T.gu y ky (T.gh y ky hy);exact⟨u2,λv=>u3.gm u1⟩
   exact AZ rfl rfl rfl FS c2 c3 O hB rv hl h
  ·rw[if_neg hl]at h;exact h.elim
end
end EV
namespace WB
open PySem PySem.Spec PyProof.Rows L2
structure Dd(K:aB)(n:Str)(st:Stmt)(f:Addr):Prop where
 a:aG K aE n=some (some (.ref f))
 l:∃oc od an sl kV dc pm cd ct,K.lookup f=some ⟨oc,od,.func (cC n n (zi st) (d_ st) (qZ st) .none kV dc pm an cd ct),sl⟩/\PySem.W.codeIn K cd n=true
 k:cL K (.ref f)=true
theorem zd{K:aB}{n:Str}{st:Stmt}{f:Addr}{od an:Option Addr}{sl:Array (Option ae)}{oc kV dc pm cd ct:ae}(a:aG K aE n=some (some (.ref f)))
  (l:K.lookup f=some ⟨oc,od,.func (cC n n (zi st) (d_ st) (qZ st) .none kV dc pm an cd ct),sl⟩) (c:PySem.W.codeIn K cd n=true) (k:cL K (.ref f)=true):Dd K n st f:=
 ⟨a,⟨oc,od,an,sl,kV,dc,pm,cd,ct,l,c⟩,k⟩
theorem Dd.fn{K:aB}{n:Str}{st:Stmt}{f:Addr}(d:Dd K n st f):∃fd,Fun K n n st f fd:=by
 obtain⟨oc,od,an,sl,kV,dc,pm,cd,ct,l,c⟩:=d.l;exact⟨_,oN (st:=st) l c d.k⟩
theorem nQ{us:List ae}(h:us.length=1):∃a,us=[a]:=List.length_eq_one_iff.mp h
theorem rZ{n:Nat}{us:List ae}(h:us.length=n+1):∃a r,us=a::r/\r.length=n:=by
 cases us with
 |nil=>cases h
 |cons a r=>exact⟨a,r,rfl,Nat.succ.inj h⟩
theorem o5{us:List ae}(h:us.length=2):∃a b,us=[a,b]:=by
 obtain⟨a,r,e,h⟩:=rZ h;obtain⟨b,q⟩:=nQ h;subst q;exact⟨a,b,e⟩
theorem uI{us:List ae}(h:us.length=3):∃a b c,us=[a,b,c]:=by
 obtain⟨a,r,e,h⟩:=rZ h;obtain⟨b,c,q⟩:=o5 h;subst q;exact⟨a,b,c,e⟩
structure Dk(K:aB)(n:Str)(D:Addr):Prop where
 a:aG K aE n=some (some (.ref D))
 c:∃x,PySem.W.clsIn K D=some x
 t:PySem.W.typeIn K (.ref D)=some (.type "type")
end WB
namespace EV
open PySem PySem.Spec PySem.P PyProof.Rows L2
structure Ent where
 x:Str
 st:Stmt
 own:List Str
 fr:Bool
 fn:Fn
noncomputable def prT(tab:List Ent)(vals:List (Str×D))(cM:List (Str×Str))(subs:List ((Str×Cl)×Bool):=[]):Pr:=⟨λx=>(tab.find? (·.x==x)).map (·.fn),λx=>vals.lookup x,λk c=>subs.lookup (k,c),λk x=>cM.contains (k,x)⟩
noncomputable def unx:GK->GK
 | .exc=>.exk
 |k=>k
noncomputable def eR(oth:List (Str×GK)):List (Str×GK):=oth.map λy=>(y.1,unx y.2)
noncomputable def fC(us:List Ent)(oth:List (Str×GK)):List (Str×GK):=us.map (λe=>(e.x,GK.fn e.fr))++eR oth
theorem oS{x:Str}{k:GK}:∀{oth:List (Str×GK)},(eR oth).lookup x=some k->∃k0,oth.lookup x=some k0/\k=unx k0
 | [],h=>by cases h
 | (y,k1)::r,h=>by
  have h:List.lookup x ((y,unx k1)::eR r)=some k:=h;rw[bC]at h;split at h
  ·rename_i q;cases h;exact⟨k1,by rw[bC,q],rfl⟩
  ·rename_i q
   obtain⟨k0,h1,h2⟩:=oS h;exact⟨k0,by rw[bC,q];exact h1,h2⟩
theorem pH{x:Str}{k:GK}{oth:List (Str×GK)}:∀{us:List Ent},(fC us oth).lookup x=some k->(∃e∈us,e.x=x/\k=.fn e.fr)\/(eR oth).lookup x=some k
 | [],h=>.inr h
 |a::r,h=>by
  have h:List.lookup x ((a.x,GK.fn a.fr)::fC r oth)=some k:=h;rw[bC]at h;split at h
  ·rename_i q;cases h;exact .inl ⟨a,aO,(eq_of_beq q).symm,rfl⟩
  ·rcases pH h with ⟨e,h1,h2⟩|h1
   ·exact .inl ⟨e,aM _ h1,h2⟩
   ·exact .inr h1
noncomputable def eF(K:aB)(ns:List Str)(x:Str):Option Addr:=if ns.contains x then (match aG K aE x with
 |some (some (.ref f))=>some f
 |_=>none)else none
noncomputable def gOf(K:aB)(fns cls:List Str):Gc:=⟨K,eF K fns,eF K cls⟩
theorem ij{K:aB}{ns:List Str}{x:Str}{f:Addr}(h:aG K aE x=some (some (.ref f)))(hx:ns.contains x=true):eF K ns x=some f:=by
 unfold eF;rw[if_pos hx,h]
theorem ku{K:aB}{ns:List Str}{x:Str}{f:Addr}(h:eF K ns x=some f):ns.contains x=true/\aG K aE x=some (some (.ref f)):=by
 unfold eF at h;split at h
 ·rename_i hx
  split at h
  ·rename_i q;cases h;exact⟨hx,q⟩
  ·cases h
 ·cases h
noncomputable def Bnd(e:Ent):Prop:=∀(kV doc pm:ae) (an:Option Addr) (cdv ct:ae) (us:List ae),us.length=(argNames (zi e.st)).length->bindArgs (cC e.x e.x (zi e.st) (d_ e.st) (qZ e.st) .none kV doc pm an cdv ct) ⟨us,[]⟩=pure ((argNames (zi e.st)).zip us)
structure gJ(K:aB)(G:List (Str×GK))(e:Ent):Prop where
 dd:∃f,WB.Dd K e.x e.st f
 bnd:Bnd e
noncomputable def oK(K:aB)(vals:List (Str×D))(x:Str):GK->Prop
 | .fn _=>True
 | .val=>∃u v d,aG K aE x=some (some u)/\RelV v u/\vals.lookup x=some d/\∀g H,g.K=K->Rep g H d v
 | .bi b=>aG K aE x=some none/\x=b1N b/\∃id,b1V b=.builtin id
 | .rng=>aG K aE x=some none/\x = "range"
 | .enum=>aG K aE x=some none/\x = "enumerate"
 | .zip=>aG K aE x=some none/\x = "zip"
 | .isi=>aG K aE x=some none/\x = "isinstance"
 | .ty n b=>aG K aE x=some none/\bN x=some (.type n)/\(n∈["int","bool","str","list","tuple"]\/n = "ValueError")/\∀b',b=some b'->x=b1N b'/\b1V b'=.type n
 | .exc=>∃C,aG K aE x=some (some (.ref C))/\PySem.W.excIn K C fM "ValueError.__new__" = true
 | .exk=>∃C,aG K aE x=some (some (.ref C))
 | .set=>aG K aE x=some none/\bN x=some (.type "set")
noncomputable def oq(K:aB)(cls:List Str)(y:(Str×Cl)×Bool):Prop:=∃C cv,cls.contains y.1.1=true/\aG K aE y.1.1=some (some (.ref C))/\jV K C/\cB K (.ref C) cv=some y.2/\match y.1.2 with
 | .ty n=>n = "ValueError"/\cv=.type n
 | .ex x=>∃D,cls.contains x=true/\aG K aE x=some (some (.ref D))/\cv=.ref D
theorem nP{α β:Type} [BEq α] [LawfulBEq α]{a:α}{b:β}:∀{l:List (α×β)},l.lookup a=some b->(a,b)∈l
 | (c,d)::r,h=>by
  rw[bC]at h;split at h
  ·rename_i q;cases h;rw[eq_of_beq q];exact aO
  ·exact aM _ (nP h)
theorem rF{tab:List Ent}{e:Ent}(hn:(tab.map (·.x)).Nodup)(he:e∈tab):tab.find? (·.x==e.x)=some e:=by
 induction tab with
 |nil=>simp at he
 |cons a r ih=>
  simp only[aQ,List.nodup_cons]at hn;rw[List.find?_cons];rcases aF.mp he with rfl|h
  ·simp
  ·have:(a.x==e.x)=false:=by
    cases q:a.x==e.x with
    |false=>rfl
    |true=>
     have:=eq_of_beq q;exact absurd (this▸aP.mpr ⟨e,h,rfl⟩) hn.1
   rw[this];exact ih hn.2 h
theorem u5{K:aB}{h:Heap}{mg:Str->Option ae}(X:K.In h)(N:h.Ns aE mg){tab:List Ent}{oth G:List (Str×GK)}{vals:List (Str×D)}(hG:G=tab.map (λe=>(e.x,GK.fn e.fr))++oth)
  (hnd:(tab.map (·.x)).Nodup) (ho:∀x k,oth.lookup x=some k->oK K vals x k) (hof:∀x fr,oth.lookup x≠some (.fn fr)) {us:List Ent} (hus:∀e∈us,e∈tab) (hcu:∀e∈us,mF (eR oth) e.own e.fr e.st=some e.fn) (hc:∀e∈tab,cFn G (fC us oth) e.own e.fr e.st=some e.fn) (he:∀e∈tab,gJ K G e) (cls:List Str) {cM:List (Str×Str)} (hcat:∀y∈cM,∃C D,aG K aE y.1=some (some (.ref C))/\aG K aE y.2=some (some (.ref D))/\PySem.W.exmOne K (.ref C) (.ref D)=some true) (hcl:∀x,(oth.lookup x=some .exc\/oth.lookup x=some .exk)->cls.contains x=true)
  {subs:List ((Str×Cl)×Bool)} (hsub:∀y∈subs,oq K cls y) :
  Ground (prT tab vals cM subs) (gOf K (tab.map (·.x)) cls) G (fC us oth) (eR oth) mg:=by
 have lk:∀x k,G.lookup x=some k->(∃e∈tab,e.x=x/\k=.fn e.fr)\/oth.lookup x=some k:=by
  subst hG;clear hnd hc he hus
  induction tab with
  |nil=>intro x k hx;exact .inr hx
  |cons a r ih=>
   intro x k hx;simp only[aQ,List.cons_append,bC]at hx;split at hx
   ·rename_i q;cases hx;exact .inl ⟨a,aO,(eq_of_beq q).symm,rfl⟩
   ·rcases ih x k hx with ⟨e,h1,h2⟩|h1
    ·exact .inl ⟨e,aM _ h1,h2⟩
    ·exact .inr h1
 have lkE:∀e∈tab,G.lookup e.x=some (.fn e.fr):=by
  subst hG;clear hc he lk hus
  induction tab with
  |nil=>intro e h;simp at h
  |cons a r ih=>
   intro e hm;simp only[aQ,List.nodup_cons]at hnd;simp only[aQ,List.cons_append,bC];rcases aF.mp hm with rfl|hm
   ·rw[beq_self_eq_true]
   ·have:(e.x==a.x)=false:=by
     cases q:e.x==a.x with
     |false=>rfl
     |true=>exact absurd ((eq_of_beq q)▸aP.mpr ⟨e,hm,rfl⟩) hnd.1
    rw[this];exact ih hnd.2 e hm
 have hca:∀k x,cM.contains (k,x)=true->∀C D,eF K cls k=some C->eF K cls x=some D->PySem.W.exmOne K (.ref C) (.ref D)=some true:=λk x z C D h1 h2=>by
  obtain⟨C',D',e1,e2,e3⟩:=hcat (k,x) (by simpa using z);have a1:=(ku h1).2;have a2:=(ku h2).2;rw[e1]at a1;rw[e2]at a2;cases a1;cases a2;exact e3
 have fnd:∀e∈tab,∃f fd,eF K (tab.map (·.x)) e.x=some f/\Fun K e.x e.x e.st f fd/\Binds K fd (argNames (zi e.st)) []/\cL K (.ref f)=true/\mg e.x=some (.ref f):=λe hm=>by
  obtain⟨⟨f',d⟩,hb⟩:=he e hm;obtain⟨fd,F⟩:=d.fn;exact⟨f',fd,ij d.a (by simpa using aP.mpr ⟨e,hm,rfl⟩),F,F.binds hb,d.k,PySem.W.mg_of X N d.a⟩
 have fne:∀e∈tab,(prT tab vals cM subs).fns e.x=some e.fn:=λe hm=>by show (tab.find? (·.x==e.x)).map (·.fn)=_;rw[rF hnd hm];rfl
 have gl:∀x k,oth.lookup x=some k->GM0 (prT tab vals cM subs) (gOf K (tab.map (·.x)) cls) mg x k:=λx k hk=>by
  have:=ho x k hk;cases k with
  |fn fr=>exact absurd hk (hof x fr)
  |val=>obtain⟨u,v,d,h1,h2,h3,h4⟩:=this;exact⟨u,v,d,PySem.W.mg_of X N h1,h2,h3,λH=>h4 _ H rfl⟩
  |bi b=>exact⟨dh X N this.1,this.2⟩
  |rng=>exact⟨dh X N this.1,this.2⟩
  |enum=>exact⟨dh X N this.1,this.2⟩
  |zip=>exact⟨dh X N this.1,this.2⟩
  |isi=>exact⟨dh X N this.1,this.2⟩
  |ty n b=>exact⟨dh X N this.1,this.2⟩
  |exc=>obtain⟨C,h1,h2⟩:=this;exact⟨C,PySem.W.mg_of X N h1,ij h1 (hcl x (.inl hk)),h2⟩
  |exk=>obtain⟨C,h1⟩:=this;exact⟨C,PySem.W.mg_of X N h1,ij h1 (hcl x (.inr hk))⟩
  |set=>exact⟨dh X N this.1,this.2⟩
 refine⟨λx f hf=>?_,λx k hx=>?_,λx k hx=>?_,λx k hx=>?_,λk cl b z=>?_,hca⟩
 ·obtain⟨h1,h2⟩:=ku hf;obtain⟨e,hm,rfl⟩:=aP.mp (by simpa using h1:x∈tab.map (·.x));obtain⟨f',fd,z1,z2,z3,z4,z5⟩:=fnd e hm;have hf:eF K (tab.map (·.x)) e.x=some f:=hf;rw[hf]at z1;cases z1;exact⟨e.st,e.own,e.fr,fd,e.fn,fne e hm,hc e hm,z2,z3,z4,z5,lkE e hm⟩
 ·rcases lk x k hx with ⟨e,hm,rfl,rfl⟩|hk
  ·obtain⟨f',fd,z1,_⟩:=fnd e hm;exact⟨f',z1⟩
  ·exact gl x k hk
 ·obtain⟨k0,h1,rfl⟩:=oS hx;have:=gl x k0 h1;cases k0 with
  |fn fr=>exact absurd h1 (hof x fr)
  |exc=>obtain⟨C,z1,z2,_⟩:=this;exact⟨by simp[unx],by simp[unx],⟨C,z1,z2⟩⟩
  |_=>exact⟨by simp[unx],by simp[unx],this⟩
 ·rcases pH hx with ⟨e,hm,rfl,rfl⟩|hk
  ·have:=hcu e hm;cases this
  ·exact hk
 ·have z:subs.lookup (k,cl)=some b:=z;obtain⟨C,cv,h0,h1,h2,h3,h4⟩:=hsub _ (nP z);refine⟨C,cv,ij h1 h0,h2,h3,?_⟩;cases cl with
  |ty n=>exact h4
  |ex x=>obtain⟨D,d0,d1,d2⟩:=h4;exact⟨D,ij d1 d0,d2⟩
theorem Ce{l:PySem.W.OpenLaw}{q:aC}{loose:List Str}{XP:(Str->Option ae)->Heap->Prop}{YP:av->Heap->Prop}{d:DefRec}{K:Params->aB}{tab:List Ent}{G:List (Str×GK)}{vals:List (Str×D)}{cls:List Str}{cM:List (Str×Str)}{subs:List ((Str×Cl)×Bool)}{GH GU:List (Str×GK)}{e:Ent}{k:Nat}
  (hn:l.most=some 63) (hdf:d.params.defaults=[]) (hd:d.name=e.x) (hr:cD k callerA) (hY:∀(w:av) (h:Heap),YP w h->(K w.params).In h) (hm:e∈tab) (hnd:(tab.map (·.x)).Nodup) (hx:e.x = "law") (hfr:e.fr=false) (hp:argNames (zi e.st)=[("_law_script" : Str)])
  (hG:∀(w:av) (mg:Str->Option ae) (h:Heap),(K w.params).In h->h.Ns aE mg->Ground (prT tab vals cM subs) (gOf (K w.params) (tab.map (·.x)) cls) G GH GU mg/\gJ (K w.params) G e) (hc:cFn G GH e.own e.fr e.st=some e.fn)
  (hlaw:∀ns:List Int,ns.length<=63->qe (prT tab vals cM subs) k "law" [.lst (ns.map D.int)]=.ok (.bl true)) :
  PySem.W.WalkO q loose XP YP l.row.toRowW d [] (λf vs=>PySem.call f vs):=by
 refine L2.Aj (n:=63) (k:=k) (x:="_law_script") (CX:=λw=>CX1 l.prog w) (sp:=λw=>spF (wAt (prT tab vals cM subs) k) (gOf (K w.params) (tab.map (·.x)) cls) "law" false) hn (by decide) hdf hr hY (λw mg fa h KX N hfa=>?_) (λw H a ns hl _ hS=>?_) λw H s e s' z=>?_
 ·obtain⟨T,⟨f,dd⟩,hb⟩:=hG w mg h KX N;have e1:=hfa.symm.trans (hd▸PySem.W.mg_of KX N dd.a);cases e1;obtain⟨oc,od,an,sl,kV,dc,pm,cd,ct,lk,hcd⟩:=dd.l;refine⟨cC e.x e.x (zi e.st) (d_ e.st) (qZ e.st) .none kV dc pm an cd ct,λs u=>.of_eq ?_,λbase _ _=>?_⟩
  ·have:=hb kV dc pm an cd ct [u] (by rw[hp];rfl);rw[hp]at this;exact this
  ·have:=T.ok (P:=l.prog) (wl:=w) (base:=base) k e.x fa e.st e.own e.fr _ e.fn (by show (tab.find? (·.x==e.x)).map (·.fn)=_;rw[rF hnd hm];rfl) hc (oN (st:=e.st) lk hcd dd.k);rw[hp,hx,hfr]at this;rw[hx];exact this
 ·refine⟨⟨λ_=>false,λ_=>false,[],λ_=>none⟩,[.lst (ns.map D.int)],(λa z=>by rcases z with z|z<;>cases z),.cons (.lst (xs:=ns.map V.int) ?_ (qk.ofInts _)) .nil,?_⟩
  ·have:hid H ⟨λ_=>false,λ_=>false,[],λ_=>none⟩=H:=by funext b;unfold hid;rw[if_neg (by simp)]
   rw[this];exact hS
  ·show tR _ _ _ (qe (prT tab vals cM subs) k "law" [.lst (ns.map D.int)]) _;rw[hlaw ns hl];intro v H' _ r _;cases r;rfl
 ·obtain⟨_,_,_,_,_,_,_,_,_,z⟩:=z;exact z
end EV
namespace KG
open EV
open PySem (Str)
open L2 (atI ixN ltP)
abbrev prD:Int×Int->D:=EV.pairD
theorem qV{w:W}{f:Fn}{ds:List D}{d:D}{τ:Env}(hl:ds.length=f.ps)(hτ:ds.map some++b6 (f.N-f.ps) none=τ)(h:qm w f.body τ=.rt d):cX w f ds=.ok d:=by
 rw[cX,if_pos hl,hτ,h]
theorem zL{w:W}{s:S}{r:Ss}{τ σ:Env}{o:O}(h:evS w s τ=.nx σ)(h':qm w r σ=o):qm w (.cons s r) τ=o:=by rw[qm,h];exact h'
theorem kF{w:W}{tg:Tg}{it:It}{b r:Ss}{τ:Env}{o:O}{ds:List D}(I:List D->Env->Prop)(h:evI w it τ=.ok ds)(h0:I ds τ)
  (hs:∀x t σ,I (x::t) σ->∃σ1 σ2,store tg x σ=.ok σ1/\qm w b σ1=.nx σ2/\I t σ2) (hn:∀σ,I [] σ->qm w r σ=o):qm w (.cons (.for tg it b) r) τ=o:=by
 have key:∀(l:List D) (σ:Env),I l σ->∃σ',zY tg (λσ=>qm w b σ) l σ=.nx σ'/\I [] σ':=by
  intro l
  induction l with
  |nil=>intro σ q;exact⟨σ,rfl,q⟩
  |cons x t ih=>
   intro σ q;obtain⟨σ1,σ2,a,b',c⟩:=hs x t σ q;obtain⟨σ',d,e⟩:=ih σ2 c;exact⟨σ',by rw[zY,a];simp only[R.out_ok];rw[b'];exact d,e⟩
 obtain⟨σ',a,b'⟩:=key ds τ h0;rw[qm,cR,h];simp only[R.out_ok];rw[a];exact hn σ' b'
theorem eA{w:W}{it:It}{cap:List (Option Nat)}{t:T}{elt:E}{τ c:Env}{ds:List D}{g:D->List D}(h:evI w it τ=.ok ds)(hz:ds.length<=SZ)(hc:zW cap τ=none::none::c)
  (hb:∀x∈ds,((evT w t (none::some x::c)).bind λr=>if r then (evE w elt (none::some x::c)).bind λd=>.ok [d]else .ok [])=.ok (g x)):evE w (.comp it cap (.nm 1) t elt) τ=.ok (.lst (ds.flatMap g)):=by
 have key:∀(l:List D) (v:Option D) (acc:List D),(∀x∈l,x∈ds)->zj (λx σ=>noEx ((store (.nm 1) x σ).bind λσ'=>(evT w t σ').bind λr=>if r then (evE w elt σ').bind λd=>.ok (σ',[d])else .ok (σ',[]))) l (none::v::c) acc=.ok (acc++l.flatMap g):=by
  intro l
  induction l with
  |nil=>intro v acc _;simp[zj]
  |cons x r ih=>
   intro v acc hm;have q:=hb x (hm x aO);rw[zj];have e:noEx ((store (.nm 1) x (none::v::c)).bind λσ'=>(evT w t σ').bind λr=>if r then (evE w elt σ').bind λd=>.ok (σ',[d])else .ok (σ',[]))=.ok (none::some x::c,g x):=by
    simp only[store,R.bind_ok,List.set_cons_succ,List.set_cons_zero];cases ht:evT w t (none::some x::c)with
    |ok b=>
     rw[ht]at q;simp only[R.bind_ok]at q ⊢;cases b
     ·simp at q ⊢;rw[<-q];rfl
     ·simp only[if_true]at q ⊢;cases he:evE w elt (none::some x::c)with
      |ok d=>rw[he]at q;simp only[R.bind_ok,R.ok.injEq]at q ⊢;rw[<-q];rfl
      |ex=>rw[he]at q;cases q
      |no=>rw[he]at q;cases q
    |ex=>rw[ht]at q;cases q
    |no=>rw[ht]at q;cases q
   rw[e];simp only[R.bind_ok];rw[ih (some x) _ λy hy=>hm y (aM _ hy),bX,bq]
 rw[qA,h];simp only[R.bind_ok];rw[if_neg (by lia),hc,key ds none [] λ_ h=>h]
 rfl
theorem comp2{w:W}{it:It}{cap:List (Option Nat)}{t:T}{elt:E}{τ c:Env}{ds:List D}{g:D->List D}(h:evI w it τ=.ok ds)(hz:ds.length<=SZ)(hc:zW cap τ=none::none::none::c)
  (hb:∀x∈ds,∃a b,x=.tup [a,b]/\((evT w t (none::some a::some b::c)).bind λr=>if r then (evE w elt (none::some a::some b::c)).bind λd=>.ok [d]else .ok [])=.ok (g x)):evE w (.comp it cap (.tp [1,2]) t elt) τ=.ok (.lst (ds.flatMap g)):=by
 have key:∀(l:List D) (v u:Option D) (acc:List D),(∀x∈l,x∈ds)->zj (λx σ=>noEx ((store (.tp [1,2]) x σ).bind λσ'=>(evT w t σ').bind λr=>if r then (evE w elt σ').bind λd=>.ok (σ',[d])else .ok (σ',[]))) l (none::v::u::c) acc=.ok (acc++l.flatMap g):=by
  intro l
  induction l with
  |nil=>intro v u acc _;simp[zj]
  |cons x r ih=>
   intro v u acc hm;obtain⟨a,b,rfl,q⟩:=hb x (hm x aO);rw[zj];have e:noEx ((store (.tp [1,2]) (.tup [a,b]) (none::v::u::c)).bind λσ'=>(evT w t σ').bind λr=>if r then (evE w elt σ').bind λd=>.ok (σ',[d])else .ok (σ',[]))=.ok (none::some a::some b::c,g (.tup [a,b])):=by
    simp only[store,setAll,cf,List.length_nil,if_true,R.bind_ok,List.set_cons_succ,List.set_cons_zero];cases ht:evT w t (none::some a::some b::c)with
    |ok b'=>
     rw[ht]at q;simp only[R.bind_ok]at q ⊢;cases b'
     ·simp at q ⊢;rw[q];rfl
     ·simp only[if_true]at q ⊢;cases he:evE w elt (none::some a::some b::c)with
      |ok d=>rw[he]at q;simp only[R.bind_ok,R.ok.injEq]at q ⊢;rw[<-q];rfl
      |ex=>rw[he]at q;cases q
      |no=>rw[he]at q;cases q
    |ex=>rw[ht]at q;cases q
    |no=>rw[ht]at q;cases q
   rw[e];simp only[R.bind_ok];rw[ih (some a) (some b) _ λy hy=>hm y (aM _ hy),bX,bq]
 rw[qA,h];simp only[R.bind_ok];rw[if_neg (by lia),hc,key ds none none [] λ_ h=>h]
 rfl
theorem uT{w:W}{i:Int}:cF w (.int i) (.ty "int")=.ok (.bl true):=rfl
theorem sL{w:W}{i:Int}:cF w (.int i) (.ty "bool")=.ok (.bl false):=rfl
theorem t8{w:W}{i:List D}:cF w (.tup i) (.ty "tuple")=.ok (.bl true):=rfl
theorem wa{w:W}{i:List D}:cF w (.tup i) (.ty "bool")=.ok (.bl false)/\cF w (.tup i) (.ty "int")=.ok (.bl false)/\cF w (.tup i) (.ty "str")=.ok (.bl false)/\cF w (.tup i) (.ty "list")=.ok (.bl false):=⟨rfl,rfl,rfl,rfl⟩
theorem Cf{w:W}{i:Bool}:cF w (.bl i) (.ty "bool")=.ok (.bl true):=rfl
theorem Bk(i:Int):(D.int i).asks=true:=rfl
theorem Du(t:Int×Int):(prD t).asks=true:=rfl
theorem pI:∀ns:List Int,plainAll (ns.map D.int)=true
 | []=>rfl
 |_::r=>pI r
theorem sd:∀ns:List Int,dU (ns.map D.int)=0
 | []=>rfl
 |_::r=>by show max 0 (dU _)=0;rw[sd r];rfl
theorem gn(ns:List Int):(D.tup (ns.map D.int)).asks=true:=by
 simp[D.asks,D.plain,D.deep,pI,sd]
theorem kT:∀ns ms:List Int,eqvAll (ns.map D.int) (ms.map D.int)=decide (ns=ms)
 | [],[]=>rfl
 | [],_::_=>rfl
 |_::_,[]=>rfl
 |a::r,b::t=>by
  show (a==b&&eqvAll (r.map D.int) (t.map D.int))=_;rw[kT r t];simp[Bool.decide_and]
  rfl
noncomputable def mn(a b:Int):Int:=if b<a then b else a
noncomputable def mx(a b:Int):Int:=if a<b then b else a
noncomputable def fG(ts:List (Int×Int))(a b:Int):Bool:=ts.any λt=>t.1==mn a b&&t.2==mx a b
theorem Ar(ts:List (Int×Int))(u v:Int):qi .isin (.tup [.int u,.int v]) (.tup (ts.map prD))=.ok (ts.any λt=>t.1==u&&t.2==v):=by
 rw[qi];simp only[seq?];rw[if_pos (by simp only[aU,cy,aP];exact⟨rfl,λx ⟨t,_,e⟩=>e▸Du t⟩),inD,List.any_map]
 congr 2;funext t;show ((t.1==u)&&((t.2==v)&&true))=_;rw[Bool.and_true]
theorem mT(ns:List Int)(a:Int):qi .isin (.int a) (.tup (ns.map D.int))=.ok (ns.any λt=>t==a):=by
 rw[qi];simp only[seq?];rw[if_pos (by simp only[aU,cy,aP];exact⟨rfl,λx ⟨t,_,e⟩=>e▸Bk t⟩),inD,List.any_map]
 rfl
theorem tX(ns ms:List Int):qi .eq (.tup (ns.map D.int)) (.tup (ms.map D.int))=.ok (decide (ns=ms)):=by
 rw[qi]
 ·rw[if_pos (by simp only[aU];exact⟨gn _,gn _⟩)];show R.ok (eqvAll _ _)=_;rw[kT]
 all_goals (intros;rintro⟨⟩)
structure GW(m:Int)(ts:List (Int×Int)):Prop where
 lo:1<=m
 hi:m<=8
 lt:ts.Pairwise λs t=>ltP s t=true
 ok:∀t∈ts,0<=t.1/\t.1<t.2/\t.2<m
 len:ts.length<=28
structure GS(m:Int)(s:List Int):Prop where
 lt:s.Pairwise (· < ·)
 ok:∀i∈s,0<=i/\i<m
 len:s.length<=8
abbrev wb(m:Int)(ts:List (Int×Int)):D:=.tup [.int m,.tup (ts.map prD)]
abbrev tu(s:List Int):D:=.tup (s.map D.int)
theorem iK{xs:List D}{i:Nat}(h:i<xs.length):atI xs (i:Int)=some xs[i]:=by
 rw[atI,ixN,if_pos (by lia),if_pos (by lia)];simp[h]
theorem all_true(xs:List D):bools? (xs.flatMap λ_=>[.bl true])=some (b6 xs.length true):=by
 induction xs with
 |nil=>rfl
 |cons x r ih=>show (bools? (r.flatMap λ_=>[.bl true])).map (true :: ·)=_;rw[ih];rfl
theorem uc(n:Nat):(b6 n true).all id=true:=by simp
theorem Bb{s t:Int×Int}(h:ltP s t=true):qi .lt (prD s) (prD t)=.ok true:=by
 show R.ok (cV [s.1,s.2] [t.1,t.2])=_;rw[ltP]at h;simp only[cV];by_cases e:s.1=t.1
 ·rw[if_pos e]at h ⊢;by_cases e2:s.2=t.2
  ·rw[e2]at h;simp at h
  ·rw[if_neg e2,h]
 ·rw[if_neg e]at h ⊢;rw[h]
noncomputable def rng(m:Int):List Int:=(bu m.toNat).map λ(i:Nat)=>(i:Int)
theorem zq(m:Int):zt 0 m.toNat=(rng m).map D.int:=by
 rw[zt,rng,cg];simp
theorem zr(m:Int):(rng m).length=m.toNat:=by simp[rng]
theorem cU{m i:Int}:i∈rng m↔0<=i/\i<m:=by
 simp only[rng,aP,List.mem_range];constructor
 ·rintro⟨a,h,rfl⟩;lia
 ·intro h;exact⟨i.toNat,by lia,by lia⟩
theorem gR(m:Int):(rng m).Pairwise (· < ·):=by
 rw[rng,List.pairwise_map];exact List.pairwise_lt_range.imp λh=>by lia
theorem i9(c:Int->Bool)(ns:List Int):(ns.map D.int).flatMap (λx=>match x with | .int i=>if c i then [D.int i]else []|_=>[])=(ns.filter c).map D.int:=by
 induction ns with
 |nil=>rfl
 |cons a r ih=>
  rw[aQ,bX,ih,dj];show (if c a=true then [D.int a]else [])++_=_;cases c a<;>rfl
theorem xY(x y:Int)(h:0<y)(h':y<=2^64):small (x%y)=true:=by
 have a:=Int.emod_nonneg x (show y≠0 by lia);have b:=Int.emod_lt_of_pos x h;simp only[small,aU,decide_eq_true_eq];lia
noncomputable def st(c j:Int):Int:=
 ((((c%2147483647+977 * j+1) * 48271%2147483647) * ((c%2147483647+977 * j+1) * 48271%2147483647)%2147483629+40692 * (j+3)) * 69621%2147483647)/8
theorem GW.sub{m:Int}{ts ps:List (Int×Int)}(h:GW m ps)(s:ts.Sublist ps):GW m ts:=
 ⟨h.lo,h.hi,h.lt.sublist s,λt ht=>h.ok t (s.subset ht),bD s.length_le h.len⟩
theorem eq_int(a b:Int):qi .eq (.int a) (.int b)=.ok (decide (a=b)):=by
 show R.ok (a==b)=_;congr 1
theorem lt_int(a b:Int):qi .lt (.int a) (.int b)=.ok (decide (a<b)):=rfl
theorem A0{w:W}{tg:Tg}{it:It}{b r:Ss}{τ:Env}{ds:List D}(I:List D->Env->Prop)(h:evI w it τ=.ok ds)(h0:I ds τ)
  (hs:∀x t σ,I (x::t) σ->∃σ1 σ2,store tg x σ=.ok σ1/\qm w b σ1=.nx σ2/\I t σ2):∃σ,I [] σ/\qm w (.cons (.for tg it b) r) τ=qm w r σ:=by
 have key:∀(l:List D) (σ:Env),I l σ->∃σ',zY tg (λσ=>qm w b σ) l σ=.nx σ'/\I [] σ':=by
  intro l
  induction l with
  |nil=>intro σ q;exact⟨σ,rfl,q⟩
  |cons x t ih=>
   intro σ q;obtain⟨σ1,σ2,a,b',c⟩:=hs x t σ q;obtain⟨σ',d,e⟩:=ih σ2 c;exact⟨σ',by rw[zY,a];simp only[R.out_ok];rw[b'];exact d,e⟩
 obtain⟨σ',a,b'⟩:=key ds τ h0;refine⟨σ',b',?_⟩;rw[qm,cR,h];simp only[R.out_ok];rw[a]
 rfl
theorem ints_map(ns:List Int):ints? (ns.map D.int)=some ns:=by
 induction ns with
 |nil=>rfl
 |cons a r ih=>show (ints? (r.map D.int)).map (a :: ·)=_;rw[ih];rfl
theorem AY{f:Int->D}(ns:List Int):(ns.map D.int).flatMap (λx=>match x with | .int i=>[f i]|_=>[])=ns.map f:=by
 induction ns with
 |nil=>rfl
 |cons a r ih=>rw[aQ,bX,ih];rfl
noncomputable instance (m:Int) (ts:List (Int×Int)):Decidable (GW m ts):=
 decidable_of_iff (1<=m/\m<=8/\ts.Pairwise (λs t=>ltP s t=true)/\(∀t∈ts,0<=t.1/\t.1<t.2/\t.2<m)/\ts.length<=28) ⟨λ⟨a,b,c,d,e⟩=>⟨a,b,c,d,e⟩,λ⟨a,b,c,d,e⟩=>⟨a,b,c,d,e⟩⟩
noncomputable def Ends(J:Env->Prop)(Q:D->Prop):O->Prop
 | .nx σ=>J σ
 | .rt d=>Q d
 |_=>False
section
variable{w:W}{J K:Env->Prop}{Q:D->Prop}{s:S}{r:Ss}{τ σ:Env}
theorem iq(h:J τ):Ends J Q (qm w .nil τ):=by rw[qm];exact h
theorem zH(h:evS w s τ=.nx σ)(h':Ends J Q (qm w r σ)):Ends J Q (qm w (.cons s r) τ):=by rw[qm,h];exact h'
theorem Dg(h:Ends K Q (evS w s τ))(h':∀σ,K σ->Ends J Q (qm w r σ)):Ends J Q (qm w (.cons s r) τ):=by
 rw[qm];cases q:evS w s τ with
 |nx σ=>rw[q]at h;exact h' σ h
 |rt d=>rw[q]at h;exact h
 |_=>rw[q]at h;exact h.elim
theorem lN{e:E}{d:D}(h:evE w e τ=.ok d)(hq:Q d):Ends J Q (qm w (.cons (.ret e) r) τ):=by
 rw[qm,zQ,h];exact hq
theorem gZ{tg:Tg}{it:It}{b:Ss}{ds:List D}(I:List D->Env->Prop)(h:evI w it τ=.ok ds)(h0:I ds τ)(hs:∀x t σ,I (x::t) σ->∃σ1,store tg x σ=.ok σ1/\Ends (I t) Q (qm w b σ1))(hn:∀σ,I [] σ->Ends J Q (qm w r σ)):Ends J Q (qm w (.cons (.for tg it b) r) τ):=by
 have key:∀(l:List D) (σ:Env),I l σ->Ends (I []) Q (zY tg (λσ=>qm w b σ) l σ):=by
  intro l
  induction l with
  |nil=>intro σ q;exact q
  |cons x t ih=>
   intro σ q;obtain⟨σ1,a,b'⟩:=hs x t σ q;rw[zY,a];simp only[R.out_ok];cases z:qm w b σ1 with
   |nx σ2=>rw[z]at b';exact ih σ2 b'
   |rt d=>rw[z]at b';exact b'
   |_=>rw[z]at b';exact b'.elim
 have hk:=key ds τ h0;refine Dg (K:=I []) ?_ hn;rw[cR,h];simp only[R.out_ok];cases z:zY tg (λσ=>qm w b σ) ds τ with
 |nx σ2=>rw[z]at hk;exact hk
 |rt d=>rw[z]at hk;exact hk
 |_=>rw[z]at hk;exact hk.elim
end
theorem nY{J J':Env->Prop}{Q:D->Prop}{o:O}(h:Ends J Q o)(hj:∀σ,J σ->J' σ):Ends J' Q o:=by
 cases o with
 |nx σ=>exact hj σ h
 |rt d=>exact h
 |_=>exact h.elim
noncomputable def vo(m:Int):List Int:=(bu (m-1).toNat).map λ(i:Nat)=>1+(i:Int)
noncomputable def C5(b:Int):List (Int×Int):=(rng b).map λa=>(a,b)
noncomputable def kY(m:Int):List (Int×Int):=(vo m).flatMap C5
structure Pok(n:Int):Prop where
 nd:(kY n).Nodup
 ok:∀t∈kY n,0<=t.1/\t.1<t.2/\t.2<n
 len:(kY n).length<=28
theorem Cv{s t:Int×Int}(h:ltP t s=false)(hn:s≠t):ltP s t=true:=by
 simp only[ltP]at h ⊢;by_cases e:s.1=t.1
 ·rw[if_pos e.symm]at h;rw[if_pos e];have:s.2≠t.2:=λz=>hn (Prod.ext e z)
  simp at h ⊢;lia
 ·rw[if_neg (λz=>e z.symm)]at h;rw[if_neg e];simp at h ⊢;lia
theorem yX{l:List (Int×Int)}(h:l.Pairwise λa b=>ltP b a=false)(hn:l.Nodup):l.Pairwise λs t=>ltP s t=true:=
 List.Pairwise.imp₂ (λa b h1 h2=>Cv h1 h2) h hn
theorem p7:∀ts:List (Int×Int),pairs? (ts.map prD)=some ts
 | []=>rfl
 |t::r=>by show (pairs? (r.map prD)).map (t :: ·)=_;rw[p7 r];rfl
theorem jP(xs:List D):b1 .sorted [.lst xs]=(if xs.length<64 then (match ints? xs with
  |some ns=>.ok (.lst ((sortI ns).map D.int))
  |none=>match pairs? xs with
   |some ps=>.ok (.lst ((zK ps).map pairD))
   |none=>cW xs)else cW xs):=rfl
theorem t_(ts:List (Int×Int))(h:ts.length<64):b1 .sorted [.lst (ts.map prD)]=.ok (.lst ((zK ts).map prD)):=by
 rw[jP,if_pos (by simpa using h)];cases ts with
 |nil=>rfl
 |cons t r=>
  have e:ints? ((t::r).map prD)=none:=rfl;rw[e];simp only;rw[p7]
noncomputable def hd(m:Int)(ts:List (Int×Int))(a:Int):List Int:=(rng m).filter λb=>b==a||fG ts a b
noncomputable def mk(m:Int)(ts:List (Int×Int))(s:List Int)(a:Int):List Int:=s.filter λx=>(hd m ts a).any λt=>t==x
end KG
noncomputable def KG.Z:=az @EV.qm.eq_1 (az @EV.qm.eq_2 (az @EV.cN (az @EV.de (az @EV.dD (az @EV.zQ (az @EV.dE (az @EV.dw (az @EV.dz (az @EV.qY (az @EV.zc (az @EV.zb (az @EV.zg (az @EV.zf (az @EV.za (az @EV.ze (az @EV.qF (az @EV.qJ (az @EV.qG (az @EV.qQ (az @EV.qM (az @EV.qC (az @EV.qK (az @EV.qB (az @EV.qN (az @EV.qD (az @EV.qz (az @EV.qP (az @EV.qE (az @EV.zy.eq_1 (az @EV.zy.eq_2 (az @EV.e_ (az @EV.eG (az @EV.eK (az @EV.ff (az @EV.eX (az @EV.fb (az @EV.fc (az @EV.evI.eq_1 (az @EV.evI.eq_2 (az @EV.evI.eq_3 (az @EV.evI.eq_4 (az @EV.evI.eq_5 (az @EV.evO.eq_1 (az @EV.evO.eq_2 (az @EV.opI.eq_1 (az @EV.opI.eq_2 (az @EV.opI.eq_3 (az @EV.opI.eq_4 (az @EV.opI.eq_5 (az @EV.opI.eq_6 (az @EV.opI.eq_7 (az @EV.opI.eq_8 (az @EV.opI.eq_9 (az @EV.opI.eq_10 (az @EV.opI.eq_11 (az @EV.b11.eq_1 (az @EV.b11.eq_2 (az @EV.b11.eq_3 (az @EV.b11.eq_4 (az @EV.b11.eq_5 (az @EV.b11.eq_6 (az @EV.b11.eq_7 (az @EV.b11.eq_8 (az @EV.b11.eq_9 (az @EV.b11.eq_10 (az @EV.b11.eq_11 (az @EV.b11.eq_12 (az @EV.b11.eq_13 (az @EV.b12.eq_1 (az @EV.b12.eq_2 (az @EV.b12.eq_3 (az @EV.cm.eq_1 (az @EV.cm.eq_2 (az @EV.cY.eq_1 (az @EV.cY.eq_2 (az @EV.iiR.eq_1 (az @EV.iiR.eq_2 (az @EV.zF.eq_1 (az @EV.store.eq_1 (az @EV.store.eq_2 (az @EV.store.eq_3 (az @EV.setAll.eq_1 (az @EV.setAll.eq_2 (az @EV.setAll.eq_3 (az @EV.truth.eq_1 (az @EV.truth.eq_2 (az @EV.truth.eq_3 (az @EV.truth.eq_4 (az @EV.truth.eq_5 (az @EV.truth.eq_6 (az @KG.uT (az @KG.sL (az @KG.t8 (az @KG.wa (@KG.Cf)))))))))))))))))))))))))))))))))))))))))))))))))))))))))))))))))))))))))))))))))))))))))))))))
namespace KG
open EV
open PySem (Str)
open L2 (atI ixN ltP)
noncomputable def iT:Fn:=⟨1,1,false,(.cons (.ret (.and (.isi (.var 0) (.ty "int")) (.not (.isi (.var 0) (.ty "bool"))))) .nil)⟩
noncomputable def gN:Fn:=⟨3,3,false,(.cons (.ret (.and (.call "is_whole" (.cons (.var 0) .nil)) (.cmp2 .le .le (.var 1) (.var 0) (.var 2)))) .nil)⟩
noncomputable def h_:Fn:=⟨1,1,false,(.cons (.ret (.and (.isi (.var 0) (.ty "tuple")) (.cmp .eq (.bi .len (.cons (.var 0) .nil)) (.con (.int 2))))) .nil)⟩
noncomputable def gW:Fn:=⟨1,1,false,(.cons (.ret (.bi .all (.cons (.comp (.rng (.op .sub (.bi .len (.cons (.var 0) .nil)) (.con (.int 1)))) [none,none,some 0] (.nm 1) .yes (.cmp .lt (.ix (.var 2) (.var 1)) (.ix (.var 2) (.op .add (.var 1) (.con (.int 1)))))) .nil))) .nil)⟩
noncomputable def iJ:Fn:=⟨1,3,false,(.cons (.ite (.not (.val (.call "is_pair" (.cons (.var 0) .nil)))) (.cons (.ret (.con (.bl false))) .nil) .nil) (.cons (.set (.tp [1,2]) (.var 0)) (.cons (.ite (.or (.not (.val (.call "is_between" (.cons (.var 1) (.cons (.con (.int 1)) (.cons (.glb "MOST") .nil)))))) (.not (.val (.isi (.var 2) (.ty "tuple"))))) (.cons (.ret (.con (.bl false))) .nil) .nil) (.cons (.ret (.and (.bi .all (.cons (.comp (.seq (.var 2)) [none,none,some 1] (.nm 1) .yes (.call "is_tie" (.cons (.var 1) (.cons (.var 2) .nil)))) .nil)) (.call "rises" (.cons (.var 2) .nil)))) .nil))))⟩
noncomputable def h9:Fn:=⟨2,4,false,(.cons (.ite (.not (.val (.call "is_pair" (.cons (.var 0) .nil)))) (.cons (.ret (.con (.bl false))) .nil) .nil) (.cons (.set (.tp [2,3]) (.var 0)) (.cons (.ret (.and (.call "is_whole" (.cons (.var 2) .nil)) (.and (.call "is_whole" (.cons (.var 3) .nil)) (.cmp3 .le .lt .lt (.con (.int 0)) (.var 2) (.var 3) (.var 1))))) .nil)))⟩
noncomputable def iD:Fn:=⟨1,1,false,(.cons (.ite (.not (.val (.call "is_web" (.cons (.var 0) .nil)))) (.cons .unk .nil) .nil) .nil)⟩
noncomputable def fS:Fn:=⟨1,1,false,(.cons (.exp (.call "need_web" (.cons (.var 0) .nil))) (.cons (.ret (.bi .tuple (.cons (.comp (.rng (.ix (.var 0) (.con (.int 0)))) [none,none,some 0] (.nm 1) .yes (.call "hood_of" (.cons (.var 2) (.cons (.var 1) .nil)))) .nil))) .nil))⟩
noncomputable def fE:Fn:=⟨2,4,false,(.cons (.set (.tp [2,3]) (.var 0)) (.cons (.ret (.bi .tuple (.cons (.comp (.rng (.var 2)) [none,none,some 1,some 3] (.nm 1) (.or (.cmp .eq (.var 1) (.var 2)) (.val (.call "are_tied" (.cons (.var 3) (.cons (.var 2) (.cons (.var 1) .nil)))))) (.var 1)) .nil))) .nil))⟩
noncomputable def zV:Fn:=⟨3,3,false,(.cons (.ret (.cmp .isin (.tup (.cons (.bi .min (.cons (.var 1) (.cons (.var 2) .nil))) (.cons (.bi .max (.cons (.var 1) (.cons (.var 2) .nil))) .nil))) (.var 0))) .nil)⟩
noncomputable def g7:Fn:=⟨2,2,false,(.cons (.ret (.bi .tuple (.cons (.comp (.seq (.var 1)) [none,none,some 0] (.nm 1) (.cmp .isin (.var 1) (.var 2)) (.var 1)) .nil))) .nil)⟩
noncomputable def gO:Fn:=⟨2,2,false,(.cons (.ret (.comp (.seq (.var 0)) [none,none,some 1] (.nm 1) .yes (.call "mark_of" (.cons (.var 1) (.cons (.var 2) .nil))))) .nil)⟩
noncomputable def zM:Fn:=⟨1,3,false,(.cons (.set (.nm 1) (.lst (.cons (.tup .nil) .nil))) (.cons (.for (.nm 2) (.rng (.ix (.var 0) (.con (.int 0)))) (.cons (.set (.nm 1) (.op .add (.var 1) (.comp (.seq (.var 1)) [none,none,some 2] (.nm 1) .yes (.op .add (.var 1) (.tup (.cons (.var 2) .nil)))))) .nil)) (.cons (.ret (.bi .sorted (.cons (.var 1) .nil))) .nil)))⟩
noncomputable def jY:Fn:=⟨1,2,false,(.cons (.set (.nm 1) (.call "hoods" (.cons (.var 0) .nil))) (.cons (.ret (.comp (.seq (.call "all_some" (.cons (.var 0) .nil))) [none,none,some 1] (.nm 1) (.cmp .notin (.tup .nil) (.call "marks_of" (.cons (.var 2) (.cons (.var 1) .nil)))) (.var 1))) .nil))⟩
noncomputable def Au:Fn:=⟨1,1,false,(.cons (.ret (.bi .len (.cons (.call "first_fewest" (.cons (.var 0) .nil)) .nil))) .nil)⟩
noncomputable def Cs:Fn:=⟨1,1,false,(.cons (.ret (.ix (.call "all_fewest" (.cons (.var 0) .nil)) (.con (.int 0)))) .nil)⟩
noncomputable def BU:Fn:=⟨1,3,true,(.cons (.exp (.call "need_web" (.cons (.var 0) .nil))) (.cons (.set (.nm 1) (.call "all_holding" (.cons (.var 0) .nil))) (.cons (.set (.nm 2) (.bi .min (.cons (.comp (.seq (.var 1)) [none,none] (.nm 1) .yes (.bi .len (.cons (.var 1) .nil))) .nil))) (.cons (.ret (.comp (.seq (.var 1)) [none,none,some 2] (.nm 1) (.cmp .eq (.bi .len (.cons (.var 1) .nil)) (.var 2)) (.var 1))) .nil))))⟩
noncomputable def nF:Fn:=⟨2,2,false,(.cons (.ite (.cmp .lt (.var 1) (.bi .len (.cons (.var 0) .nil))) (.cons (.ret (.ix (.var 0) (.var 1))) .nil) .nil) (.cons (.ret (.con (.int 0))) .nil))⟩
noncomputable def zC:Fn:=⟨2,3,false,(.cons (.set (.nm 2) (.op .mod (.op .mul (.op .add (.op .add (.op .mod (.var 0) (.con (.int 2147483647))) (.op .mul (.con (.int 977)) (.var 1))) (.con (.int 1))) (.con (.int 48271))) (.con (.int 2147483647)))) (.cons (.set (.nm 2) (.op .mod (.op .mul (.var 2) (.var 2)) (.con (.int 2147483629)))) (.cons (.set (.nm 2) (.op .mod (.op .mul (.op .add (.var 2) (.op .mul (.con (.int 40692)) (.op .add (.var 1) (.con (.int 3))))) (.con (.int 69621))) (.con (.int 2147483647)))) (.cons (.ret (.op .fdiv (.var 2) (.con (.int 8)))) .nil))))⟩
noncomputable def mS:Fn:=⟨2,10,false,(.cons (.set (.nm 2) (.op .add (.con (.int 1)) (.op .mod (.var 0) (.var 1)))) (.cons (.set (.nm 3) (.op .fdiv (.var 0) (.var 1))) (.cons (.set (.nm 4) (.op .mod (.var 3) (.con (.int 6)))) (.cons (.set (.nm 5) (.lst .nil)) (.cons (.for (.nm 6) (.rng2 (.con (.int 1)) (.var 2)) (.cons (.for (.nm 7) (.rng (.var 6)) (.cons (.set (.nm 8) (.op .band (.op .shr (.op .fdiv (.var 3) (.con (.int 6))) (.op .add (.op .fdiv (.op .mul (.var 6) (.op .sub (.var 6) (.con (.int 1)))) (.con (.int 2))) (.var 7))) (.con (.int 1)))) (.cons (.ite (.cmp .eq (.var 4) (.con (.int 3))) (.cons (.set (.nm 8) (.op .fdiv (.op .mod (.call "_law_stir" (.cons (.var 0) (.cons (.op .add (.op .mul (.con (.int 8)) (.var 7)) (.var 6)) .nil))) (.con (.int 3))) (.con (.int 2)))) .nil) .nil) (.cons (.ite (.cmp .eq (.var 4) (.con (.int 4))) (.cons (.set (.nm 8) (.op .fdiv (.op .add (.op .mod (.call "_law_stir" (.cons (.var 0) (.cons (.op .add (.op .mul (.con (.int 8)) (.var 7)) (.var 6)) .nil))) (.con (.int 4))) (.con (.int 2))) (.con (.int 3)))) .nil) .nil) (.cons (.ite (.cmp .eq (.var 4) (.con (.int 5))) (.cons (.set (.nm 9) (.lst (.cons (.cmp .eq (.var 6) (.op .add (.var 7) (.con (.int 1)))) (.cons (.or (.cmp .eq (.var 6) (.op .add (.var 7) (.con (.int 1)))) (.cmp .eq (.op .sub (.var 6) (.var 7)) (.op .sub (.var 2) (.con (.int 1))))) (.cons (.cmp .eq (.var 7) (.con (.int 0))) (.cons (.con (.bl true)) (.cons (.and (.cmp .eq (.var 6) (.op .add (.var 7) (.con (.int 1)))) (.cmp .lt (.op .mod (.var 7) (.con (.int 3))) (.con (.int 2)))) .nil))))))) (.cons (.set (.nm 8) (.bi .int (.cons (.ix (.var 9) (.op .mod (.op .fdiv (.var 3) (.con (.int 6))) (.con (.int 5)))) .nil))) .nil)) .nil) (.cons (.ite (.cmp .eq (.var 8) (.con (.int 1))) (.cons (.app 5 (.tup (.cons (.var 7) (.cons (.var 6) .nil)))) .nil) .nil) .nil)))))) .nil)) (.cons (.ret (.tup (.cons (.var 2) (.cons (.bi .tuple (.cons (.bi .sorted (.cons (.own 5) .nil)) .nil)) .nil)))) .nil))))))⟩
noncomputable def Co:Fn:=⟨1,4,false,(.cons (.set (.nm 1) (.comp (.rng (.ix (.var 0) (.con (.int 0)))) [none,none] (.nm 1) .yes (.op .shl (.con (.int 1)) (.var 1)))) (.cons (.for (.tp [2,3]) (.seq (.ix (.var 0) (.con (.int 1)))) (.cons (.seti 1 (.var 2) (.op .bor (.ix (.own 1) (.var 2)) (.op .shl (.con (.int 1)) (.var 3)))) (.cons (.seti 1 (.var 3) (.op .bor (.ix (.own 1) (.var 3)) (.op .shl (.con (.int 1)) (.var 2)))) .nil))) (.cons (.ret (.own 1)) .nil)))⟩
noncomputable def Ct:Fn:=⟨2,2,false,(.cons (.ret (.bi .tuple (.cons (.comp (.rng (.var 0)) [none,none,some 1] (.nm 1) (.cmp .eq (.op .band (.op .shr (.var 2) (.var 1)) (.con (.int 1))) (.con (.int 1))) (.var 1)) .nil))) .nil)⟩
noncomputable def fW:Fn:=⟨2,2,false,(.cons (.ret (.call "is_between" (.cons (.var 1) (.cons (.con (.int 0)) (.cons (.op .sub (.ix (.var 0) (.con (.int 0))) (.con (.int 1))) .nil))))) .nil)⟩
noncomputable def fN:Fn:=⟨2,2,false,(.cons (.ite (.not (.val (.isi (.var 1) (.ty "tuple")))) (.cons (.ret (.con (.bl false))) .nil) .nil) (.cons (.ret (.and (.bi .all (.cons (.comp (.seq (.var 1)) [none,none,some 0] (.nm 1) .yes (.call "is_place" (.cons (.var 2) (.cons (.var 1) .nil)))) .nil)) (.call "rises" (.cons (.var 1) .nil)))) .nil))⟩
noncomputable def iN:Fn:=⟨2,2,false,(.cons (.ite (.not (.val (.call "is_some" (.cons (.var 0) (.cons (.var 1) .nil))))) (.cons .unk .nil) .nil) .nil)⟩
structure Web(p:Pr):Prop where
 is_whole:p.fns "is_whole" = some iT
 is_between:p.fns "is_between" = some gN
 is_pair:p.fns "is_pair" = some h_
 rises:p.fns "rises" = some gW
 is_web:p.fns "is_web" = some iJ
 is_tie:p.fns "is_tie" = some h9
 need_web:p.fns "need_web" = some iD
 MOST:p.glb "MOST" = some (.int 8)
structure Base(p:Pr):Prop extends Web p where
 all_some:p.fns "all_some" = some zM
 _law_cell_at:p.fns "_law_cell_at" = some nF
 _law_stir:p.fns "_law_stir" = some zC
 _law_web:p.fns "_law_web" = some mS
 _law_some:p.fns "_law_some" = some Ct
structure oP(p:Pr):Prop where
 _law_cell_at:p.fns "_law_cell_at" = some nF
 _law_stir:p.fns "_law_stir" = some zC
 _law_web:p.fns "_law_web" = some mS
theorem Base.draw{p:Pr}(B:Base p):oP p:=⟨B._law_cell_at,B._law_stir,B._law_web⟩
structure Hds(p:Pr):Prop where
 hoods:p.fns "hoods" = some fS
 hood_of:p.fns "hood_of" = some fE
 are_tied:p.fns "are_tied" = some zV
structure Nbr(p:Pr):Prop where
 hoods:p.fns "hoods" = some fS
 hood_of:p.fns "hood_of" = some fE
 are_tied:p.fns "are_tied" = some zV
 mark_of:p.fns "mark_of" = some g7
 marks_of:p.fns "marks_of" = some gO
structure rT(p:Pr):Prop extends Nbr p where
 _law_masks:p.fns "_law_masks" = some Co
noncomputable instance {p:Pr}:CoeOut (Base p) (Web p):=⟨λb=>b.toWeb⟩
theorem Nbr.hds{p:Pr}(O:Nbr p):Hds p:=⟨O.hoods,O.hood_of,O.are_tied⟩
noncomputable instance {p:Pr}:CoeOut (Base p) (oP p):=⟨λb=>b.draw⟩
noncomputable instance {p:Pr}:CoeOut (Nbr p) (Hds p):=⟨λb=>b.hds⟩
noncomputable instance {p:Pr}:CoeOut (rT p) (Nbr p):=⟨λb=>b.toNbr⟩
structure ja(p:Pr):Prop where
 is_place:p.fns "is_place" = some fW
 is_some:p.fns "is_some" = some fN
structure fL(p:Pr):Prop where
 is_place:p.fns "is_place" = some fW
 is_some:p.fns "is_some" = some fN
 need_some:p.fns "need_some" = some iN
theorem fL.a{p:Pr}(b:fL p):ja p:=⟨b.is_place,b.is_some⟩
noncomputable instance {p:Pr}:CoeOut (fL p) (ja p):=⟨λb=>b.a⟩
section
variable{p:Pr}
theorem qg{k:Nat}{x:Str}{f:Fn}{ds:List D}(h:p.fns x=some f):qe p (k+1) x ds=cX ⟨qe p k,p.glb,p.sub,p.cat⟩ f ds:=by
 rw[qe,h]
theorem mH{k:Nat}{x:Str}{f:Fn}{ds:List D}{τ:Env}{Q:D->Prop}(hf:p.fns x=some f)(hl:ds.length=f.ps)(hτ:ds.map some++b6 (f.N-f.ps) none=τ)(h:Ends (λ_=>False) Q (qm (wAt p k) f.body τ)):∃d,qe p (k+1) x ds=.ok d/\Q d:=by
 rw[qg hf,cX,if_pos hl,hτ];cases z:qm ⟨qe p k,p.glb,p.sub,p.cat⟩ f.body τ with
 |rt d=>rw[z]at h;exact⟨d,rfl,h⟩
 |nx _=>rw[z]at h;exact h.elim
 |_=>rw[z]at h;exact h.elim
section
variable(B:Web p)
include B
theorem is_whole{k:Nat}(i:Int):qe p (k+1) "is_whole" [.int i]=.ok (.bl true):=by rw[qg B.is_whole];rfl
theorem is_between{k:Nat}(i a b:Int)(h:a<=i/\i<=b):qe p (k+2) "is_between" [.int i,.int a,.int b]=.ok (.bl true):=by
 rw[qg B.is_between];refine qV rfl rfl ?_;simp[KG.Z,gN,is_whole B,qi,ji,h.1,h.2]
theorem is_pair{k:Nat}(a b:D):qe p (k+1) "is_pair" [.tup [a,b]]=.ok (.bl true):=by
 rw[qg B.is_pair];refine qV rfl rfl ?_;simp[KG.Z,h_,b1,seq?,qi,D.asks,D.plain,D.deep,D.eqv]
theorem is_tie{k:Nat}(a b m:Int)(h:0<=a/\a<b/\b<m):qe p (k+2) "is_tie" [.tup [.int a,.int b],.int m]=.ok (.bl true):=by
 rw[qg B.is_tie];refine qV rfl rfl ?_;simp[KG.Z,h9,is_pair B,is_whole B,qi,ji,h.1,h.2.1,h.2.2]
theorem rises{k:Nat}(xs:List D)(hz:xs.length<=28)(h:∀(i:Nat) (q:i+1<xs.length),qi .lt xs[i] xs[i+1]=.ok true):qe p (k+1) "rises" [.tup xs]=.ok (.bl true):=by
 rw[qg B.rises];refine qV rfl rfl ?_;have hr:qu ((xs.length:Int)-1)=true:=by simp[qu];lia
 have hc:evE ⟨qe p k,p.glb,p.sub,p.cat⟩ (.comp (.rng (.op .sub (.bi .len (.cons (.var 0) .nil)) (.con (.int 1)))) [none,none,some 0] (.nm 1) .yes (.cmp .lt (.ix (.var 2) (.var 1)) (.ix (.var 2) (.op .add (.var 1) (.con (.int 1)))))) [some (.tup xs)]=.ok (.lst ((zt 0 ((xs.length:Int)-1).toNat).flatMap λ_=>[.bl true])):=by
  refine eA (c:=[some (.tup xs)]) ?_ ?_ rfl ?_
  ·simp[KG.Z,b1,seq?,op2,hr]
  ·simp[zt,SZ];lia
  ·intro x hx;simp only[zt,aP,List.mem_range]at hx;obtain⟨i,hi,rfl⟩:=hx;have e1:atI xs ((0:Int)+(i:Int))=some xs[i]:=by rw[Int.zero_add];exact iK (by lia)
   have e2:atI xs ((0:Int)+(i:Int)+1)=some xs[i+1]:=by rw[Int.zero_add];exact iK (i:=i+1) (by lia)
   have e3:=h i (by lia);simp only[Int.zero_add]at e1 e2;simp[KG.Z,ixD,op2,e1,e2,e3]
 simp[KG.Z,gW,hc,b1,all_true,uc]
theorem is_web{k:Nat}{m:Int}{ts:List (Int×Int)}(h:GW m ts):qe p (k+3) "is_web" [wb m ts]=.ok (.bl true):=by
 rw[qg B.is_web];refine qV rfl rfl ?_;have hr:=rises B (k:=k+1) (ts.map prD) (by simpa using h.len) (λi q=>by
  rw[List.getElem_map,List.getElem_map];exact Bb (List.pairwise_iff_getElem.mp h.lt i (i+1) (by simp at q;lia) (by simpa using q) (by lia)))
 have hc:evE ⟨qe p (k+2),p.glb,p.sub,p.cat⟩ (.comp (.seq (.var 2)) [none,none,some 1] (.nm 1) .yes (.call "is_tie" (.cons (.var 1) (.cons (.var 2) .nil)))) [some (wb m ts),some (.int m),some (.tup (ts.map prD))]=.ok (.lst ((ts.map prD).flatMap λ_=>[.bl true])):=by
  refine eA (c:=[some (.int m)]) ?_ ?_ rfl ?_
  ·simp[KG.Z,seq?]
  ·simp[SZ];have:=h.len;lia
  ·intro x hx;rw[aP]at hx;obtain⟨t,ht,rfl⟩:=hx;have e:=is_tie B (k:=k) t.1 t.2 m (h.ok t ht);have e':qe p (k+2) "is_tie" [prD t,.int m]=.ok (.bl true):=e;simp[KG.Z,e']
 simp[KG.Z,iJ,is_pair B,is_between B m 1 8 ⟨h.lo,h.hi⟩,B.MOST,hc,b1,all_true,hr]
theorem need_web{k:Nat}{m:Int}{ts:List (Int×Int)}(h:GW m ts):qe p (k+4) "need_web" [wb m ts]=.ok .non:=by
 rw[qg B.need_web];simp only[cX];simp[KG.Z,iD,is_web B h]
end
theorem iL(hf:p.fns "_law_stir" = some zC){k:Nat}(c j:Int):qe p (k+1) "_law_stir" [.int c,.int j]=.ok (.int (st c j)):=by
 have s1:small 977=true:=by decide
 have s2:small 48271=true:=by decide
 have s3:small 40692=true:=by decide
 have s4:small 69621=true:=by decide
 have s5:=xY ((c%2147483647+977 * j+1) * 48271) 2147483647 (by decide) (by decide);rw[qg hf];refine qV rfl rfl ?_;simp[KG.Z,zC,op2,s1,s2,s3,s4,s5,st]
section
variable(B:Base p)
include B
end
section
variable(B:Web p)(S:ja p)
include B S
theorem is_place{k:Nat}(i m:Int)(t:D)(h:0<=i/\i<m):qe p (k+3) "is_place" [.tup [.int m,t],.int i]=.ok (.bl true):=by
 rw[qg S.is_place];refine qV rfl rfl ?_;simp[KG.Z,fW,ixD,atI,ixN,op2,is_between B i 0 (m-1) (by lia)]
theorem is_some{k:Nat}{m:Int}{t:D}{s:List Int}(h:GS m s):qe p (k+4) "is_some" [.tup [.int m,t],tu s]=.ok (.bl true):=by
 rw[qg S.is_some];refine qV rfl rfl ?_;have hr:=rises B (k:=k+2) (s.map D.int) (by simp;have:=h.len;lia) (λi q=>by
  rw[List.getElem_map,List.getElem_map];have:=List.pairwise_iff_getElem.mp h.lt i (i+1) (by simp at q;lia) (by simpa using q) (by lia);simp[qi,ji,this])
 have hc:evE ⟨qe p (k+3),p.glb,p.sub,p.cat⟩ (.comp (.seq (.var 1)) [none,none,some 0] (.nm 1) .yes (.call "is_place" (.cons (.var 2) (.cons (.var 1) .nil)))) [some (.tup [.int m,t]),some (tu s)]=.ok (.lst ((s.map D.int).flatMap λ_=>[.bl true])):=by
  refine eA (c:=[some (.tup [.int m,t])]) ?_ ?_ rfl ?_
  ·simp[KG.Z,seq?]
  ·simp[SZ];have:=h.len;lia
  ·intro x hx;rw[aP]at hx;obtain⟨i,hi,rfl⟩:=hx;simp[KG.Z,is_place B S i m t (h.ok i hi)]
 simp[KG.Z,fN,hc,b1,all_true,hr]
omit S in
theorem need_some(S:fL p){k:Nat}{m:Int}{t:D}{s:List Int}(h:GS m s):qe p (k+5) "need_some" [.tup [.int m,t],tu s]=.ok .non:=by
 rw[qg S.need_some];simp only[cX];simp[KG.Z,iN,is_some B S h]
end
theorem r8(hA:p.fns "are_tied" = some zV){k:Nat}(ts:List (Int×Int))(a b:Int):qe p (k+1) "are_tied" [.tup (ts.map prD),.int a,.int b]=.ok (.bl (fG ts a b)):=by
 rw[qg hA];refine qV rfl rfl ?_;simp[KG.Z,zV,b1,Ar,fG,mn,mx]
theorem Ab(hH:p.fns "hood_of" = some fE)(hA:p.fns "are_tied" = some zV){k:Nat}{m:Int}{ts:List (Int×Int)}(h:GW m ts)(a:Int):qe p (k+2) "hood_of" [wb m ts,.int a]=.ok (tu (hd m ts a)):=by
 rw[qg hH];refine qV rfl rfl ?_;have h1:=h.lo;have h2:=h.hi;have hc:evE ⟨qe p (k+1),p.glb,p.sub,p.cat⟩ (.comp (.rng (.var 2)) [none,none,some 1,some 3] (.nm 1) (.or (.cmp .eq (.var 1) (.var 2)) (.val (.call "are_tied" (.cons (.var 3) (.cons (.var 2) (.cons (.var 1) .nil)))))) (.var 1)) [some (wb m ts),some (.int a),some (.int m),some (.tup (ts.map prD))]=.ok (.lst ((hd m ts a).map D.int)):=by
  rw[hd,<-i9,<-zq];refine eA (c:=[some (.int a),some (.tup (ts.map prD))]) ?_ ?_ rfl ?_
  ·have:qu m=true:=by simp[qu];lia
   simp[KG.Z,this]
  ·simp[zt,SZ];lia
  ·intro x hx;rw[zq,aP]at hx;obtain⟨b,hb,rfl⟩:=hx;have e:qi .eq (.int b) (.int a)=.ok (b==a):=rfl;simp[KG.Z,e,r8 hA];by_cases q:b=a
   ·simp[q]
   ·simp[q];cases fG ts a b<;>simp
 simp[KG.Z,fE,hc,b1,seq?]
section
variable(B:Web p)(O:Hds p)
include O
theorem are_tied{k:Nat}(ts:List (Int×Int))(a b:Int):qe p (k+1) "are_tied" [.tup (ts.map prD),.int a,.int b]=.ok (.bl (fG ts a b)):=r8 O.are_tied ts a b
theorem hood_of{k:Nat}{m:Int}{ts:List (Int×Int)}(h:GW m ts)(a:Int):qe p (k+2) "hood_of" [wb m ts,.int a]=.ok (tu (hd m ts a)):=Ab O.hood_of O.are_tied h a
include B
theorem hoods{k:Nat}{m:Int}{ts:List (Int×Int)}(h:GW m ts):qe p (k+5) "hoods" [wb m ts]=.ok (.tup ((rng m).map λa=>tu (hd m ts a))):=by
 rw[qg O.hoods];refine qV rfl rfl ?_;have h1:=h.lo;have h2:=h.hi;have hc:evE ⟨qe p (k+4),p.glb,p.sub,p.cat⟩ (.comp (.rng (.ix (.var 0) (.con (.int 0)))) [none,none,some 0] (.nm 1) .yes (.call "hood_of" (.cons (.var 2) (.cons (.var 1) .nil)))) [some (wb m ts)]=.ok (.lst ((rng m).map λa=>tu (hd m ts a))):=by
  rw[<-AY,<-zq];refine eA (c:=[some (wb m ts)]) ?_ ?_ rfl ?_
  ·have:qu m=true:=by simp[qu];lia
   simp[KG.Z,this,ixD,atI,ixN]
  ·simp[zt,SZ];lia
  ·intro x hx;rw[zq,aP]at hx;obtain⟨b,hb,rfl⟩:=hx;simp[KG.Z,hood_of O h]
 simp[KG.Z,fS,need_web B h,hc,b1,seq?]
end
section
variable(O:Nbr p)
include O
theorem mark_of{k:Nat}(n s:List Int)(hz:s.length<=8):qe p (k+1) "mark_of" [tu n,tu s]=.ok (tu (s.filter λx=>n.any λt=>t==x)):=by
 rw[qg O.mark_of];refine qV rfl rfl ?_;have hc:evE ⟨qe p k,p.glb,p.sub,p.cat⟩ (.comp (.seq (.var 1)) [none,none,some 0] (.nm 1) (.cmp .isin (.var 1) (.var 2)) (.var 1)) [some (tu n),some (tu s)]=.ok (.lst ((s.filter λx=>n.any λt=>t==x).map D.int)):=by
  rw[<-i9];refine eA (c:=[some (tu n)]) ?_ ?_ rfl ?_
  ·simp[KG.Z,seq?]
  ·simp[SZ];lia
  ·intro x hx;rw[aP]at hx;obtain⟨b,hb,rfl⟩:=hx;simp[KG.Z,mT];by_cases q:b∈n<;>simp[q]
 simp[KG.Z,g7,hc,b1,seq?]
theorem marks_of{k:Nat}(ns:List Int)(f:Int->List Int)(s:List Int)(hz:s.length<=8)(hn:ns.length<=8):qe p (k+2) "marks_of" [.tup (ns.map λa=>tu (f a)),tu s]=.ok (.lst (ns.map λa=>tu (s.filter λx=>(f a).any λt=>t==x))):=by
 rw[qg O.marks_of];refine qV rfl rfl ?_;have hc:evE ⟨qe p (k+1),p.glb,p.sub,p.cat⟩ (.comp (.seq (.var 0)) [none,none,some 1] (.nm 1) .yes (.call "mark_of" (.cons (.var 1) (.cons (.var 2) .nil)))) [some (.tup (ns.map λa=>tu (f a))),some (tu s)]=.ok (.lst ((ns.map λa=>tu (f a)).flatMap λx=>match qe p (k+1) "mark_of" [x,tu s]with | .ok d=>[d]|_=>[])):=by
  refine eA (c:=[some (tu s)]) ?_ ?_ rfl ?_
  ·simp[KG.Z,seq?]
  ·simp[SZ];lia
  ·intro x hx;rw[aP]at hx;obtain⟨b,hb,rfl⟩:=hx;simp[KG.Z,mark_of O (f b) s hz]
 have he:((ns.map λa=>tu (f a)).flatMap λx=>match qe p (k+1) "mark_of" [x,tu s]with | .ok d=>[d]|_=>[])=ns.map λa=>tu (s.filter λx=>(f a).any λt=>t==x):=by
  clear hc hn
  induction ns with
  |nil=>rfl
  |cons a r ih=>rw[aQ,bX,ih,mark_of O (f a) s hz];rfl
 simp[KG.Z,gO,hc,he]
end
end
theorem jS{α:Type}{w:W}{it:It}{cap:List (Option Nat)}{t:T}{elt:E}{τ c:Env}{l:List α}{f:α->D}(q:α->Bool)(g:α->D)(h:evI w it τ=.ok (l.map f))(hz:l.length<=SZ)(hc:zW cap τ=none::none::c)
  (hb:∀a∈l,evT w t (none::some (f a)::c)=.ok (q a)/\(q a=true->evE w elt (none::some (f a)::c)=.ok (g a))):evE w (.comp it cap (.nm 1) t elt) τ=.ok (.lst ((l.filter q).map g)):=by
 have key:∀(r:List α) (v:Option D) (acc:List D),(∀x∈r,x∈l)->zj (λx σ=>noEx ((store (.nm 1) x σ).bind λσ'=>(evT w t σ').bind λr=>if r then (evE w elt σ').bind λd=>.ok (σ',[d])else .ok (σ',[]))) (r.map f) (none::v::c) acc=.ok (acc++(r.filter q).map g):=by
  intro r
  induction r with
  |nil=>intro v acc _;simp[zj]
  |cons x r ih=>
   intro v acc hm;obtain⟨h1,h2⟩:=hb x (hm x aO);rw[aQ,zj];have e:noEx ((store (.nm 1) (f x) (none::v::c)).bind λσ'=>(evT w t σ').bind λr=>if r then (evE w elt σ').bind λd=>.ok (σ',[d])else .ok (σ',[]))=.ok (none::some (f x)::c,if q x then [g x]else []):=by
    simp only[store,R.bind_ok,List.set_cons_succ,List.set_cons_zero,h1];cases hq:q x with
    |false=>rfl
    |true=>simp only[if_true,h2 hq,R.bind_ok];rfl
   rw[e];simp only[R.bind_ok];rw[ih (some (f x)) _ λy hy=>hm y (aM _ hy),dj,bq];cases q x<;>simp
 rw[qA,h];simp only[R.bind_ok];rw[if_neg (by simp;lia),hc,key l none [] λ_ h=>h]
 rfl
theorem mP{α:Type}{w:W}{it:It}{cap:List (Option Nat)}{elt:E}{τ c:Env}{l:List α}{f:α->D}(g:α->D)(h:evI w it τ=.ok (l.map f))(hz:l.length<=SZ)(hc:zW cap τ=none::none::c)
  (hb:∀a∈l,evE w elt (none::some (f a)::c)=.ok (g a)):evE w (.comp it cap (.nm 1) .yes elt) τ=.ok (.lst (l.map g)):=by
 have:=jS (t:=.yes) (elt:=elt) (f:=f) (λ_=>true) g h hz hc λa ha=>⟨rfl,λ_=>hb a ha⟩
 rwa[List.filter_eq_self.mpr (λ_ _=>rfl)]at this
theorem iF{w:W}{e:E}{τ:Env}{xs:List D}(h:evE w e τ=.ok (.lst xs)):evI w (.seq e) τ=.ok xs:=by rw[evI.eq_1,h];rfl
theorem BQ(xs:List D):b1 .len [.lst xs]=.ok (.int xs.length):=rfl
theorem pU(xs:List D):b1 .len [.tup xs]=.ok (.int xs.length):=rfl
theorem m_(s t:List Int):qi .eq (tu s) (tu t)=.ok (decide (s=t)):=tX s t
theorem ne_int(a b:Int):qi .ne (.int a) (.int b)=.ok (!decide (a=b)):=by
 show R.ok (!(a==b))=_
 congr 1
theorem g9(a b:Bool):qi .ne (.bl a) (.bl b)=.ok (!decide (a=b)):=by
 cases a<;>cases b<;>rfl
theorem y0(l:List Int)(f:Int->List Int):qi .notin (.tup []) (.lst (l.map λa=>tu (f a)))=.ok (l.all λa=>!(f a).isEmpty):=by
 rw[qi];simp only[seq?];rw[if_pos (by simp only[aU,cy,aP];exact⟨rfl,λx ⟨t,_,e⟩=>e▸gn _⟩),inD,List.any_map]
 congr 1
 rw[List.not_any_eq_all_not]
 congr 1;funext a
 show (!D.eqv (tu (f a)) (.tup []))=_;rw[show D.eqv (tu (f a)) (.tup [])=eqvAll ((f a).map D.int) []from by simp[D.eqv]];cases f a<;>rfl
theorem ix0{α:Type}(f:α->D)(a:α)(r:List α):ixD (.lst ((a::r).map f)) (.int 0)=.ok (f a):=by
 have:=iK (xs:=(a::r).map f) (i:=0) (by simp);simp only[ixD];rw[show (0:Int)=((0:Nat):Int)from rfl,this];rfl
theorem wF(ns:List Int)(lo hi:Option Int):∃cs:List Int,cutD (ns.map D.int) lo hi=cs.map D.int/\cs.length<=ns.length:=by
 refine⟨(ns.drop _).take _,by rw[cutD,<-List.map_drop,<-List.map_take],by simp;lia⟩
theorem fx{α:Type}{f:α->D}{r:List D}{x:D}{l:List α}(e:x::r=l.map f):∃a l',l=a::l'/\x=f a/\r=l'.map f:=by
 cases l with
 |nil=>cases e
 |cons a l'=>rw[aQ]at e;injection e with e1 e2;exact⟨a,l',rfl,e1,e2⟩
theorem s_{w:W}{f:Fn}{ds:List D}{τ:Env}{Q:D->Prop}(hl:ds.length=f.ps)(hτ:ds.map some++b6 (f.N-f.ps) none=τ)(h:Ends (λ_=>False) Q (qm w f.body τ)):∃d,cX w f ds=.ok d/\Q d:=by
 rw[cX,if_pos hl,hτ];cases z:qm w f.body τ with
 |rt d=>rw[z]at h;exact⟨d,rfl,h⟩
 |nx _=>rw[z]at h;exact h.elim
 |_=>rw[z]at h;exact h.elim
noncomputable def vS:Fn:=⟨2,2,false,(.cons (.exp (.call "need_web" (.cons (.var 0) .nil))) (.cons (.exp (.call "need_some" (.cons (.var 0) (.cons (.var 1) .nil)))) (.cons (.ret (.call "spare_by" (.cons (.call "marks_of" (.cons (.call "hoods" (.cons (.var 0) .nil)) (.cons (.var 1) .nil))) (.cons (.var 1) .nil)))) .nil)))⟩
noncomputable def sZ:Fn:=⟨2,2,false,(.cons (.ret (.bi .tuple (.cons (.comp (.seq (.var 1)) [none,none,some 0] (.nm 1) (.cmp .notin (.tup (.cons (.var 1) .nil)) (.var 2)) (.var 1)) .nil))) .nil)⟩
noncomputable def gp:Fn:=⟨2,5,false,(.cons (.set (.nm 2) (.lst (.cons (.var 1) .nil))) (.cons (.for (.tp [3,4]) (.seq (.ix (.var 0) (.con (.int 1)))) (.cons (.ite (.cmp .isin (.var 1) (.tup (.cons (.var 3) (.cons (.var 4) .nil)))) (.cons (.app 2 (.op .sub (.op .add (.var 3) (.var 4)) (.var 1))) .nil) .nil) .nil)) (.cons (.ret (.bi .tuple (.cons (.bi .sorted (.cons (.own 2) .nil)) .nil))) .nil)))⟩
noncomputable def tU:Fn:=⟨3,3,false,(.cons (.ret (.bi .tuple (.cons (.comp (.seq (.call "_law_hood" (.cons (.var 0) (.cons (.var 2) .nil)))) [none,none,some 1] (.nm 1) (.cmp .isin (.var 1) (.var 2)) (.var 1)) .nil))) .nil)⟩
noncomputable def zN:Fn:=⟨2,4,false,(.cons (.ite (.cmp .is (.var 1) (.con .non)) (.cons (.ret (.cmp .is (.var 0) (.con .non))) .nil) .nil) (.cons (.ite (.val (.isi (.var 1) (.ty "bool"))) (.cons (.ret (.and (.isi (.var 0) (.ty "bool")) (.cmp .eq (.var 0) (.var 1)))) .nil) .nil) (.cons (.ite (.val (.isi (.var 1) (.ty "int"))) (.cons (.ret (.and (.isi (.var 0) (.ty "int")) (.and (.not (.isi (.var 0) (.ty "bool"))) (.cmp .eq (.var 0) (.var 1))))) .nil) .nil) (.cons (.ite (.val (.isi (.var 1) (.ty "str"))) (.cons (.ret (.and (.isi (.var 0) (.ty "str")) (.cmp .eq (.var 0) (.var 1)))) .nil) .nil) (.cons (.ite (.or (.cmp .ne (.isi (.var 1) (.ty "list")) (.isi (.var 0) (.ty "list"))) (.cmp .ne (.isi (.var 1) (.ty "tuple")) (.isi (.var 0) (.ty "tuple")))) (.cons (.ret (.con (.bl false))) .nil) .nil) (.cons (.ite (.cmp .ne (.bi .len (.cons (.var 0) .nil)) (.bi .len (.cons (.var 1) .nil))) (.cons (.ret (.con (.bl false))) .nil) .nil) (.cons (.for (.tp [2,3]) (.zip (.var 0) (.var 1)) (.cons (.ite (.not (.val (.call "_law_same" (.cons (.var 2) (.cons (.var 3) .nil))))) (.cons (.ret (.con (.bl false))) .nil) .nil) .nil)) (.cons (.ret (.con (.bl true))) .nil))))))))⟩
noncomputable def zJ:Fn:=⟨1,3,false,(.cons (.set (.nm 1) (.lst .nil)) (.cons (.for (.nm 2) (.rng (.var 0)) (.cons (.set (.nm 1) (.op .add (.var 1) (.comp (.rng2 (.op .add (.var 2) (.con (.int 1))) (.var 0)) [none,none,some 2] (.nm 1) .yes (.tup (.cons (.var 2) (.cons (.var 1) .nil)))))) .nil)) (.cons (.ret (.var 1)) .nil)))⟩
noncomputable def iy:Fn:=⟨2,5,false,(.cons (.set (.nm 2) (.lst .nil)) (.cons (.for (.tp [3,4]) (.enum (.call "_law_pairs" (.cons (.var 0) .nil))) (.cons (.ite (.and (.cmp .eq (.op .mod (.var 1) (.con (.int 2))) (.con (.int 0))) (.cmp .eq (.op .mod (.op .shr (.op .fdiv (.var 1) (.con (.int 2))) (.var 3)) (.con (.int 2))) (.con (.int 1)))) (.cons (.app 2 (.var 4)) .nil) .nil) (.cons (.ite (.and (.cmp .eq (.op .mod (.var 1) (.con (.int 2))) (.con (.int 1))) (.cmp .lt (.op .mod (.call "_law_stir" (.cons (.var 1) (.cons (.var 3) .nil))) (.con (.int 5))) (.op .add (.con (.int 1)) (.op .mod (.op .fdiv (.var 1) (.con (.int 2))) (.con (.int 3)))))) (.cons (.app 2 (.var 4)) .nil) .nil) .nil))) (.cons (.ret (.tup (.cons (.var 0) (.cons (.bi .tuple (.cons (.own 2) .nil)) .nil)))) .nil)))⟩
noncomputable def zO:Fn:=⟨2,2,false,(.cons (.ite (.cmp .eq (.op .mod (.var 1) (.con (.int 2))) (.con (.int 0))) (.cons (.ret (.bi .tuple (.cons (.comp (.rng (.var 0)) [none,none,some 1] (.nm 1) (.cmp .eq (.op .mod (.op .shr (.op .fdiv (.var 2) (.con (.int 2))) (.var 1)) (.con (.int 2))) (.con (.int 1))) (.var 1)) .nil))) .nil) .nil) (.cons (.ret (.bi .tuple (.cons (.comp (.rng (.var 0)) [none,none,some 1] (.nm 1) (.cmp .lt (.op .mod (.call "_law_stir" (.cons (.var 2) (.cons (.op .add (.var 1) (.con (.int 60))) .nil))) (.con (.int 4))) (.op .add (.con (.int 1)) (.op .mod (.op .fdiv (.var 2) (.con (.int 2))) (.con (.int 3))))) (.var 1)) .nil))) .nil))⟩
structure Lw(p:Pr):Prop where
 _law_stir:p.fns "_law_stir" = some zC
 _law_pairs:p.fns "_law_pairs" = some zJ
 _law_web_by:p.fns "_law_web_by" = some iy
 _law_some_by:p.fns "_law_some_by" = some zO
structure Lh(p:Pr):Prop where
 _law_hood:p.fns "_law_hood" = some gp
 _law_holders:p.fns "_law_holders" = some tU
section
variable{p:Pr}
noncomputable def un(m:Int)(ts:List (Int×Int))(s:List Int):List Int:=(rng m).filter λa=>decide (mk m ts s a=[])
noncomputable def prs(n:Nat):List (Int×Int):=(bu n).flatMap λa=>((bu n).filter λb=>decide (a<b)).map λ(b:Nat)=>((a:Int),(b:Int))
theorem AM(hf:p.fns "_law_pairs" = some zJ)(m:Int)(h1:1<=m)(h2:m<=8):∃P,(∀k,qe p (k+1) "_law_pairs" [.int m]=.ok (.lst (P.map prD)))/\GW m P:=by
 have:m=1\/m=2\/m=3\/m=4\/m=5\/m=6\/m=7\/m=8:=by lia
 rcases this with rfl|rfl|rfl|rfl|rfl|rfl|rfl|rfl
 ·exact⟨prs 1,λk=>by rw[qg hf];kernel_rfl,by decide +kernel⟩
 ·exact⟨prs 2,λk=>by rw[qg hf];kernel_rfl,by decide +kernel⟩
 ·exact⟨prs 3,λk=>by rw[qg hf];kernel_rfl,by decide +kernel⟩
 ·exact⟨prs 4,λk=>by rw[qg hf];kernel_rfl,by decide +kernel⟩
 ·exact⟨prs 5,λk=>by rw[qg hf];kernel_rfl,by decide +kernel⟩
 ·exact⟨prs 6,λk=>by rw[qg hf];kernel_rfl,by decide +kernel⟩
 ·exact⟨prs 7,λk=>by rw[qg hf];kernel_rfl,by decide +kernel⟩
 ·exact⟨prs 8,λk=>by rw[qg hf];kernel_rfl,by decide +kernel⟩
noncomputable def WI(m c:Int)(P:List (Int×Int))(r:List D)(σ:Env):Prop:=
 ∃(j:Nat) (ts ps:List (Int×Int)) (v u:Option D),r=dC j (ps.map prD)/\(ts++ps).Sublist P/\σ=[some (.int m),some (.int c),some (.lst (ts.map prD)),v,u]
theorem wG(hS:p.fns "_law_stir" = some zC)(hP0:p.fns "_law_pairs" = some zJ)(hW:p.fns "_law_web_by" = some iy){k:Nat}(m c:Int)(h1:1<=m)(h2:m<=8):∃ts,GW m ts/\qe p (k+2) "_law_web_by" [.int m,.int c]=.ok (wb m ts):=by
 obtain⟨P,hP,g⟩:=AM hP0 m h1 h2;have hl:=g.len;obtain⟨σ,⟨j,ts,ps,v,u,e,s,rfl⟩,ev⟩:=A0 (w:=⟨qe p (k+1),p.glb,p.sub,p.cat⟩) (tg:=.tp [3,4]) (it:=.enum (.call "_law_pairs" (.cons (.var 0) .nil)))
  (b:=.cons (.ite (.and (.cmp .eq (.op .mod (.var 1) (.con (.int 2))) (.con (.int 0))) (.cmp .eq (.op .mod (.op .shr (.op .fdiv (.var 1) (.con (.int 2))) (.var 3)) (.con (.int 2))) (.con (.int 1)))) (.cons (.app 2 (.var 4)) .nil) .nil) (.cons (.ite (.and (.cmp .eq (.op .mod (.var 1) (.con (.int 2))) (.con (.int 1))) (.cmp .lt (.op .mod (.call "_law_stir" (.cons (.var 1) (.cons (.var 3) .nil))) (.con (.int 5))) (.op .add (.con (.int 1)) (.op .mod (.op .fdiv (.var 1) (.con (.int 2))) (.con (.int 3)))))) (.cons (.app 2 (.var 4)) .nil) .nil) .nil))
  (r:=.cons (.ret (.tup (.cons (.var 0) (.cons (.bi .tuple (.cons (.own 2) .nil)) .nil)))) .nil) (τ:=[some (.int m),some (.int c),some (.lst []),none,none]) (ds:=dC 0 (P.map prD)) (WI m c P)
  (by simp[KG.Z,hP k]) ⟨0,[],P,none,none,rfl,by simp,rfl⟩ (by
   rintro x t σ ⟨j,ts,ps,v,u,e,s,rfl⟩;cases ps with
   |nil=>cases e
   |cons y ps=>
    rw[aQ,dC]at e;injection e with e1 e2
    subst e1 e2;have hlen:ts.length<SZ:=by have:=s.length_le;simp at this;simp[SZ];lia
    have A:∀b:Bool,∃us,(us++ps).Sublist P/\us=if b then ts++[y]else ts:=by
     intro b;cases b
     ·exact⟨ts,(List.Sublist.append_left (List.sublist_cons_self _ _) _).trans s,rfl⟩
     ·exact⟨ts++[y],by simpa using s,rfl⟩
    refine⟨[some (.int m),some (.int c),some (.lst (ts.map prD)),some (.int j),some (prD y)],?_⟩;by_cases q:c%2=0
    ·obtain⟨us,a1,a2⟩:=A (decide (c/2/2^j%2=1));refine⟨[some (.int m),some (.int c),some (.lst (us.map prD)),some (.int j),some (prD y)],by simp[KG.Z],?_,j+1,us,ps,_,_,rfl,a1,rfl⟩;by_cases q2:c/2/2^j%2=1
     ·simp[KG.Z,op2,eq_int,q,q2,hlen]at a2 ⊢;subst a2;simp
     ·simp[KG.Z,op2,eq_int,q,q2]at a2 ⊢;subst a2;simp
    ·have q1:c%2=1:=by lia
     obtain⟨us,a1,a2⟩:=A (decide (st c j%5<1+c/2%3));refine⟨[some (.int m),some (.int c),some (.lst (us.map prD)),some (.int j),some (prD y)],by simp[KG.Z],?_,j+1,us,ps,_,_,rfl,a1,rfl⟩;by_cases q2:st c j%5<1+c/2%3
     ·simp[KG.Z,op2,eq_int,q1,lt_int,iL hS,q2,hlen]at a2 ⊢;subst a2;simp
     ·simp[KG.Z,op2,eq_int,q1,lt_int,iL hS,q2]at a2 ⊢;subst a2;simp)
 cases ps with
 |cons y ps=>cases e
 |nil=>
  refine⟨ts,g.sub (by simpa using s),?_⟩;rw[qg hW];refine qV (τ:=[some (.int m),some (.int c),none,none,none]) rfl rfl (zL (σ:=[some (.int m),some (.int c),some (.lst []),none,none]) (by simp[KG.Z]) (ev.trans ?_));simp[KG.Z,b1,seq?]
theorem tH(H:Lw p){k:Nat}(m c:Int)(h1:1<=m)(h2:m<=8):∃ts,GW m ts/\qe p (k+2) "_law_web_by" [.int m,.int c]=.ok (wb m ts):=wG H._law_stir H._law_pairs H._law_web_by m c h1 h2
theorem GS.filter{m:Int}(h1:1<=m)(h2:m<=8)(c:Int->Bool):GS m ((rng m).filter c):=
 ⟨(gR m).sublist List.filter_sublist,λi hi=>cU.mp (bP.mp hi).1,bD (List.length_filter_le _ _) (by rw[zr];lia)⟩
theorem xh(H:Lw p){k:Nat}(m c:Int)(h1:1<=m)(h2:m<=8):∃s,GS m s/\qe p (k+2) "_law_some_by" [.int m,.int c]=.ok (tu s):=by
 have hm:qu m=true:=by simp[qu];lia
 by_cases q:c%2=0
 ·refine⟨_,GS.filter h1 h2 λi=>decide (c/2/2^i.toNat%2=1),?_⟩;have hc:evE ⟨qe p (k+1),p.glb,p.sub,p.cat⟩ (.comp (.rng (.var 0)) [none,none,some 1] (.nm 1) (.cmp .eq (.op .mod (.op .shr (.op .fdiv (.var 2) (.con (.int 2))) (.var 1)) (.con (.int 2))) (.con (.int 1))) (.var 1)) [some (.int m),some (.int c)]=.ok (.lst (((rng m).filter λi=>decide (c/2/2^i.toNat%2=1)).map D.int)):=by
   rw[<-i9,<-zq];refine eA (c:=[some (.int c)]) ?_ ?_ rfl ?_
   ·simp[KG.Z,hm]
   ·simp[zt,SZ];lia
   ·intro x hx;rw[zq,aP]at hx;obtain⟨b,hb,rfl⟩:=hx;have hb':=(cU.mp hb).1;simp[KG.Z,op2,eq_int,hb'];by_cases q:c/2/2^b.toNat%2=1<;>simp[q]
  rw[qg H._law_some_by];refine qV rfl rfl ?_;simp[KG.Z,zO,op2,eq_int,q,hc,b1,seq?]
 ·have q1:c%2=1:=by lia
  refine⟨_,GS.filter h1 h2 λi=>decide (st c (i+60)%4<1+c/2%3),?_⟩;have hc:evE ⟨qe p (k+1),p.glb,p.sub,p.cat⟩ (.comp (.rng (.var 0)) [none,none,some 1] (.nm 1) (.cmp .lt (.op .mod (.call "_law_stir" (.cons (.var 2) (.cons (.op .add (.var 1) (.con (.int 60))) .nil))) (.con (.int 4))) (.op .add (.con (.int 1)) (.op .mod (.op .fdiv (.var 2) (.con (.int 2))) (.con (.int 3))))) (.var 1)) [some (.int m),some (.int c)]=.ok (.lst (((rng m).filter λi=>decide (st c (i+60)%4<1+c/2%3)).map D.int)):=by
   rw[<-i9,<-zq];refine eA (c:=[some (.int c)]) ?_ ?_ rfl ?_
   ·simp[KG.Z,hm]
   ·simp[zt,SZ];lia
   ·intro x hx;rw[zq,aP]at hx;obtain⟨b,hb,rfl⟩:=hx;simp[KG.Z,op2,lt_int,iL H._law_stir];by_cases q:st c (b+60)%4<1+c/2%3<;>simp[q]
  rw[qg H._law_some_by];refine qV rfl rfl ?_;simp[KG.Z,zO,op2,eq_int,q1,hc,b1,seq?]
theorem fK(a:D):qi .is a .non=.ok (cZ a):=by cases a<;>rfl
theorem same_int(hf:p.fns "_law_same" = some zN){k:Nat}(i:Int):qe p (k+1) "_law_same" [.int i,.int i]=.ok (.bl true):=by
 rw[qg hf];refine qV rfl rfl ?_;simp[KG.Z,zN,fK,cZ,eq_int]
theorem same_ints(hf:p.fns "_law_same" = some zN){k:Nat}(ns:List Int):qe p (k+2) "_law_same" [tu ns,tu ns]=.ok (.bl true):=by
 rw[qg hf];refine qV (τ:=[some (tu ns),some (tu ns),none,none]) rfl rfl ?_;refine zL (σ:=[some (tu ns),some (tu ns),none,none]) (by simp[KG.Z,fK,cZ]) ?_;refine zL (σ:=[some (tu ns),some (tu ns),none,none]) (by simp[KG.Z]) ?_;refine zL (σ:=[some (tu ns),some (tu ns),none,none]) (by simp[KG.Z]) ?_;refine zL (σ:=[some (tu ns),some (tu ns),none,none]) (by simp[KG.Z]) ?_;refine zL (σ:=[some (tu ns),some (tu ns),none,none]) (by simp[KG.Z,g9]) ?_;refine zL (σ:=[some (tu ns),some (tu ns),none,none]) (by simp[KG.Z,ne_int,b1,seq?]) ?_;refine kF (ds:=ck (ns.map D.int) (ns.map D.int)) (λr σ=>∃(ms:List Int) (v u:Option D),r=ck (ms.map D.int) (ms.map D.int)/\σ=[some (tu ns),some (tu ns),v,u]) (by simp[KG.Z]) ⟨ns,none,none,rfl,rfl⟩ ?_ ?_
 ·rintro x t σ ⟨ms,v,u,e,rfl⟩;cases ms with
  |nil=>cases e
  |cons y ms=>
   rw[aQ,ck]at e;injection e with e1 e2
   subst e1 e2;exact⟨[some (tu ns),some (tu ns),some (.int y),some (.int y)],[some (tu ns),some (tu ns),some (.int y),some (.int y)],by simp[KG.Z],by simp[KG.Z,same_int hf],ms,_,_,rfl,rfl⟩
 ·rintro σ ⟨ms,v,u,e,rfl⟩;simp[KG.Z]
theorem lT{i x:Int}{l:List Int}:x∈insI i l↔x=i\/x∈l:=by
 induction l with
 |nil=>simp[insI]
 |cons a r ih=>
  rw[insI];split
  ·simp
  ·simp only[aF,ih];constructor<;>rintro(h|h|h)<;>simp[h]
theorem m7{x:Int}{l:List Int}:x∈sortI l↔x∈l:=by
 induction l with
 |nil=>simp[sortI]
 |cons a r ih=>rw[sortI,lT,ih,aF]
theorem BD{i:Int}{l:List Int}(h:l.Pairwise (· < ·))(hn:i∉l):(insI i l).Pairwise (· < ·):=by
 induction l with
 |nil=>simp[insI]
 |cons a r ih=>
  rw[List.pairwise_cons]at h;have h0:i≠a:=λe=>hn (e▸aO)
  rw[insI];split
  ·rename_i q
   rw[List.pairwise_cons];refine⟨λb hb=>?_,List.pairwise_cons.mpr h⟩;rcases aF.mp hb with rfl|hb
   ·lia
   ·have:=h.1 b hb;lia
  ·rename_i q
   rw[List.pairwise_cons];refine⟨λb hb=>?_,ih h.2 λe=>hn (aM _ e)⟩;rcases lT.mp hb with rfl|hb
   ·lia
   ·exact h.1 b hb
theorem nL{l:List Int}(h:l.Nodup):(sortI l).Pairwise (· < ·):=by
 induction l with
 |nil=>simp[sortI]
 |cons a r ih=>
  rw[List.nodup_cons]at h;rw[sortI];exact BD (ih h.2) λe=>h.1 (m7.mp e)
theorem pE:∀{a b:List Int},a.Pairwise (· < ·)->b.Pairwise (· < ·)->(∀x,x∈a↔x∈b)->a=b
 | [],[],_,_,_=>rfl
 | [],y::_,_,_,h=>absurd ((h y).mpr aO) (by simp)
 |x::_,[],_,_,h=>absurd ((h x).mp aO) (by simp)
 |x::r,y::t,ha,hb,h=>by
  rw[List.pairwise_cons]at ha hb;have e:x=y:=by
   rcases aF.mp ((h x).mp aO)with q|q
   ·exact q
   ·rcases aF.mp ((h y).mpr aO)with q'|q'
    ·exact q'.symm
    ·have:=hb.1 x q;have:=ha.1 y q';lia
  subst e;rw[pE ha.2 hb.2 λz=>⟨λq=>by
   rcases aF.mp ((h z).mp (aM _ q))with e|e
   ·subst e;have:=ha.1 z q;lia
   ·exact e,λq=>by
   rcases aF.mp ((h z).mpr (aM _ q))with e|e
   ·subst e;have:=hb.1 z q;lia
   ·exact e⟩]
noncomputable def nbf(a:Int)(t:Int×Int):List Int:=if t.1=a\/t.2=a then [t.1+t.2-a]else []
theorem y7{m:Int}{ts:List (Int×Int)}(h:GW m ts){a:Int}(ha:0<=a/\a<m):sortI (a::ts.flatMap (nbf a))=hd m ts a:=by
 have nb_mem:∀x t,t∈ts->x∈nbf a t->(t.1=a/\t.2=x/\a<x\/t.2=a/\t.1=x/\x<a):=by
  intro x t ht hx;have:=h.ok t ht;rw[nbf]at hx;split at hx
  ·simp only[List.mem_singleton]at hx;lia
  ·cases hx
 apply pE
 ·apply nL;rw[List.nodup_cons];constructor
  ·intro q;obtain⟨t,ht,q⟩:=List.mem_flatMap.mp q;have:=nb_mem a t ht q;lia
  ·rw[List.Nodup,List.pairwise_flatMap];constructor
   ·intro t ht;rw[nbf];split<;>simp
   ·refine List.Pairwise.imp_of_mem ?_ h.lt;intro s t hs ht q x hx y hy e;subst e;have h1:=nb_mem _ s hs hx;have h2:=nb_mem _ t ht hy;have:s=t:=Prod.ext (by lia) (by lia);subst this;rw[ltP]at q;simp at q
 ·exact(gR m).sublist List.filter_sublist
 ·intro x;rw[m7,aF,List.mem_flatMap,hd,bP,cU];simp only[cA,beq_iff_eq,fG,List.any_eq_true,aU];constructor
  ·rintro(rfl|⟨t,ht,q⟩)
   ·exact⟨ha,.inl rfl⟩
   ·have h1:=nb_mem x t ht q;have h2:=h.ok t ht;refine⟨by lia,.inr ⟨t,ht,?_⟩⟩;rw[mn,mx];split<;>split<;>lia
  ·rintro⟨hx,rfl|⟨t,ht,q1,q2⟩⟩
   ·exact .inl rfl
   ·by_cases e:x=a
    ·exact .inl e
    ·refine .inr ⟨t,ht,?_⟩;rw[mn]at q1;rw[mx]at q2;rw[nbf];split at q1<;>split at q2<;>first|lia|(rw[if_pos (by lia),List.mem_singleton];lia)
theorem wH{w:W}{i:Nat}{e:E}{τ:Env}{xs:List D}{d:D}(h:zF τ i=.ok (.lst xs))(he:evE w e τ=.ok d)(hz:xs.length<SZ):evS w (.app i e) τ=.nx (τ.set i (some (.lst (xs++[d])))):=by
 rw[de,h];simp only[R.out_ok];rw[he];simp only[R.out_ok,hz,if_true]
theorem o9(hf:p.fns "_law_hood" = some gp){k:Nat}{m:Int}{ts:List (Int×Int)}(h:GW m ts){a:Int}(ha:0<=a/\a<m):qe p (k+1) "_law_hood" [wb m ts,.int a]=.ok (tu (hd m ts a)):=by
 rw[qg hf];have hl:=h.len;refine qV (τ:=[some (wb m ts),some (.int a),none,none,none]) rfl rfl ?_;refine zL (σ:=[some (wb m ts),some (.int a),some (.lst [.int a]),none,none]) (by simp[KG.Z]) ?_;refine kF (ds:=ts.map prD) (λr σ=>∃(ps:List (Int×Int)) (ns:List Int) (v u:Option D),r=ps.map prD/\ns++ps.flatMap (nbf a)=a::ts.flatMap (nbf a)/\ns.length+ps.length<=29/\σ=[some (wb m ts),some (.int a),some (.lst (ns.map D.int)),v,u]) ?_ ⟨ts,[a],none,none,rfl,rfl,by simp;lia,rfl⟩ ?_ ?_
 ·have e:ixD (wb m ts) (.int 1)=.ok (.tup (ts.map prD)):=rfl;simp[KG.Z,e,seq?]
 ·rintro x t σ ⟨ps,ns,v,u,e,e',hz,rfl⟩;cases ps with
  |nil=>cases e
  |cons y ps=>
   rw[aQ]at e;injection e with e1 e2
   subst e1 e2;have hin:=mT [y.1,y.2] a;have hin':qi .isin (.int a) (.tup [.int y.1,.int y.2])=.ok (y.1==a||(y.2==a||false)):=hin;have hs:ns.length<SZ:=by simp at hz;simp[SZ];lia
   by_cases q:y.1=a\/y.2=a
   ·refine⟨[some (wb m ts),some (.int a),some (.lst (ns.map D.int)),some (.int y.1),some (.int y.2)],[some (wb m ts),some (.int a),some (.lst ((ns++[y.1+y.2-a]).map D.int)),some (.int y.1),some (.int y.2)],rfl,?_,ps,ns++[y.1+y.2-a],_,_,rfl,?_,?_,rfl⟩
    ·simp[KG.Z,hin',op2,hs];rw[if_pos q]
    ·rw[<-e',bX,nbf,if_pos q];simp
    ·simp at hz ⊢;lia
   ·refine⟨[some (wb m ts),some (.int a),some (.lst (ns.map D.int)),some (.int y.1),some (.int y.2)],[some (wb m ts),some (.int a),some (.lst (ns.map D.int)),some (.int y.1),some (.int y.2)],rfl,?_,ps,ns,_,_,rfl,?_,?_,rfl⟩
    ·have q1:¬ y.1=a:=λe=>q (.inl e)
     have q2:¬ y.2=a:=λe=>q (.inr e)
     simp[KG.Z,hin',q1,q2]
    ·rw[<-e',bX,nbf,if_neg q];rfl
    ·simp at hz ⊢;lia
 ·rintro σ ⟨ps,ns,v,u,e,e',hz,rfl⟩;cases ps with
  |cons y ps=>cases e
  |nil=>
   simp only[List.flatMap_nil,bZ]at e';subst e';have e1:=ints_map (a::ts.flatMap (nbf a));have e2:=y7 h ha;have e3:b1 .sorted [.lst ((a::ts.flatMap (nbf a)).map D.int)]=.ok (.lst ((hd m ts a).map D.int)):=by
    rw[jP,if_pos (by simp at hz ⊢;lia),e1];simp only;rw[e2]
   have e4:b1 .tuple [.lst ((hd m ts a).map D.int)]=.ok (tu (hd m ts a)):=rfl;simp only[aQ]at e3;simp[KG.Z,e3,e4]
theorem GS.none{m:Int}:GS m []:=⟨List.Pairwise.nil,by simp,by simp⟩
end
theorem BG(xs ys:List D)(h:xs.length+ys.length<=SZ):op2 .add (.tup xs) (.tup ys)=.ok (.tup (xs++ys)):=by
 rw[op2,if_pos ⟨rfl,h⟩]
section
variable{p:Pr}(B:Web p)
include B
end
end KG
namespace K62
open PySem PySem.Spec PyProof.Rows L2 EV
noncomputable def top(i:Nat):Stmt:=PySem.Challenge.pw_holdplaces_k62_whole_twins_bar.main.body.getD i (.Pass ⟨0,0,0,0⟩)
abbrev iT:Fn:=KG.iT
abbrev gN:Fn:=KG.gN
abbrev h_:Fn:=KG.h_
abbrev gW:Fn:=KG.gW
abbrev iJ:Fn:=KG.iJ
abbrev h9:Fn:=KG.h9
abbrev iD:Fn:=KG.iD
abbrev fW:Fn:=KG.fW
abbrev fS:Fn:=KG.fS
abbrev fE:Fn:=KG.fE
abbrev zV:Fn:=KG.zV
abbrev fN:Fn:=KG.fN
abbrev iN:Fn:=KG.iN
abbrev g7:Fn:=KG.g7
abbrev gO:Fn:=KG.gO
abbrev zM:Fn:=KG.zM
noncomputable def kG:Fn:=⟨2,2,false,(.cons (.exp (.call "need_web" (.cons (.var 0) .nil))) (.cons (.exp (.call "need_some" (.cons (.var 0) (.cons (.var 1) .nil)))) (.cons (.ret (.bi .tuple (.cons (.call "marks_of" (.cons (.call "hoods" (.cons (.var 0) .nil)) (.cons (.var 1) .nil))) .nil))) .nil)))⟩
noncomputable def iO:Fn:=⟨2,2,false,(.cons (.exp (.call "need_web" (.cons (.var 0) .nil))) (.cons (.ret (.and (.call "is_some" (.cons (.var 0) (.cons (.var 1) .nil))) (.call "are_told" (.cons (.call "marks_of" (.cons (.call "hoods" (.cons (.var 0) .nil)) (.cons (.var 1) .nil))) .nil)))) .nil))⟩
noncomputable def jW:Fn:=⟨2,3,false,(.cons (.set (.nm 2) (.call "pairs_alike" (.cons (.call "marks" (.cons (.var 0) (.cons (.var 1) .nil))) .nil))) (.cons (.ret (.ite (.val (.var 2)) (.ix (.var 2) (.con (.int 0))) (.con .non))) .nil))⟩
noncomputable def kC:Fn:=⟨1,1,true,(.cons (.ret (.call "pairs_alike" (.cons (.call "hoods" (.cons (.var 0) .nil)) .nil))) .nil)⟩
noncomputable def zG:Fn:=⟨1,2,false,(.cons (.set (.nm 1) (.call "first_telling" (.cons (.var 0) .nil))) (.cons (.ret (.ite (.cmp .is (.var 1) (.con .non)) (.con .non) (.bi .len (.cons (.var 1) .nil)))) .nil))⟩
noncomputable def jn:Fn:=⟨1,3,false,(.cons (.set (.nm 1) (.call "hoods" (.cons (.var 0) .nil))) (.cons (.set (.nm 2) (.comp (.seq (.call "all_some" (.cons (.var 0) .nil))) [none,none,some 1] (.nm 1) (.val (.call "are_told" (.cons (.call "marks_of" (.cons (.var 2) (.cons (.var 1) .nil))) .nil))) (.var 1))) (.cons (.ret (.mxd (.var 2))) .nil)))⟩
noncomputable def jm:Fn:=⟨1,1,false,(.cons (.ret (.and (.cmp .notin (.tup .nil) (.var 0)) (.cmp .eq (.call "pairs_alike" (.cons (.var 0) .nil)) (.lst .nil)))) .nil)⟩
noncomputable def jR:Fn:=⟨1,2,true,(.cons (.set (.nm 1) (.bi .len (.cons (.var 0) .nil))) (.cons (.ret (.comp2 (.rng (.var 1)) [none,none,none,some 1,some 0] (.nm 1) (.rng2 (.op .add (.var 1) (.con (.int 1))) (.var 3)) (.nm 2) (.cmp .eq (.ix (.var 4) (.var 1)) (.ix (.var 4) (.var 2))) (.tup (.cons (.var 1) (.cons (.var 2) .nil))))) .nil))⟩
abbrev zJ:Fn:=KG.zJ
abbrev gp:Fn:=KG.gp
abbrev zC:Fn:=KG.zC
abbrev iy:Fn:=KG.iy
noncomputable def iU:Fn:=⟨2,5,false,(.cons (.set (.nm 2) (.lst .nil)) (.cons (.for (.nm 3) (.rng (.var 0)) (.cons (.ins 2 (.op .mod (.call "_law_stir" (.cons (.var 1) (.cons (.op .add (.var 3) (.con (.int 70))) .nil))) (.op .add (.var 3) (.con (.int 1)))) (.var 3)) .nil)) (.cons (.set (.nm 4) (.comp (.rng (.op .sub (.var 0) (.con (.int 1)))) [none,none,some 2] (.nm 1) .yes (.tup (.cons (.ix (.own 2) (.var 1)) (.cons (.ix (.own 2) (.op .add (.var 1) (.con (.int 1)))) .nil))))) (.cons (.ite (.and (.cmp .eq (.op .mod (.var 1) (.con (.int 3))) (.con (.int 1))) (.cmp .gt (.var 0) (.con (.int 3)))) (.cons (.app 4 (.tup (.cons (.ix (.own 2) (.con (.int 0))) (.cons (.ix (.own 2) (.op .sub (.var 0) (.con (.int 1)))) .nil)))) .nil) .nil) (.cons (.ite (.and (.cmp .eq (.op .mod (.var 1) (.con (.int 3))) (.con (.int 2))) (.cmp .gt (.var 0) (.con (.int 4)))) (.cons (.seti 4 (.op .sub (.var 0) (.con (.int 2))) (.tup (.cons (.ix (.own 2) (.op .sub (.var 0) (.con (.int 1)))) (.cons (.ix (.own 2) (.con (.int 1))) .nil)))) .nil) .nil) (.cons (.ret (.tup (.cons (.var 0) (.cons (.bi .tuple (.cons (.bi .sorted (.cons (.comp (.seq (.own 4)) [none,none] (.nm 1) .yes (.bi .tuple (.cons (.bi .sorted (.cons (.var 1) .nil)) .nil))) .nil)) .nil)) .nil)))) .nil))))))⟩
abbrev zN:Fn:=KG.zN
abbrev zO:Fn:=KG.zO
noncomputable def oJ:Fn:=⟨1,1,false,(.cons (.ret (.comp (.seq (.call "_law_pairs" (.cons (.ix (.var 0) (.con (.int 0))) .nil))) [none,none,none,some 0] (.tp [1,2]) (.cmp .eq (.call "_law_hood" (.cons (.var 3) (.cons (.var 1) .nil))) (.call "_law_hood" (.cons (.var 3) (.cons (.var 2) .nil)))) (.tup (.cons (.var 1) (.cons (.var 2) .nil))))) .nil)⟩
noncomputable def fD:Fn:=⟨1,9,false,(.cons (.for (.nm 1) (.seq (.op .add (.sl (.var 0) .none (.some (.con (.int 5)))) (.lst (.cons (.con (.int 0)) (.cons (.con (.int 3)) (.cons (.con (.int 9)) .nil)))))) (.cons (.set (.nm 2) (.op .add (.con (.int 1)) (.op .mod (.op .fdiv (.var 1) (.con (.int 64))) (.con (.int 8))))) (.cons (.for (.nm 3) (.seq (.lst (.cons (.call "_law_web_by" (.cons (.var 2) (.cons (.op .fdiv (.var 1) (.con (.int 512))) .nil))) (.cons (.call "_law_twin_free" (.cons (.var 2) (.cons (.var 1) .nil))) .nil)))) (.cons (.set (.nm 4) (.call "twins" (.cons (.var 3) .nil))) (.cons (.set (.nm 5) (.call "_law_twins" (.cons (.var 3) .nil))) (.cons (.ite (.or (.not (.val (.callo "_law_same" (.cons (.own 4) (.cons (.var 5) .nil))))) (.cmp .ne (.call "tells_apart" (.cons (.var 3) (.cons (.rtup (.rng (.var 2))) .nil))) (.cmp .eq (.var 5) (.lst .nil)))) (.cons (.ret (.con (.bl false))) .nil) .nil) (.cons (.app 4 (.tup (.cons (.con (.int 0)) (.cons (.con (.int 0)) .nil)))) (.cons (.ite (.or (.cmp .ne (.call "twins" (.cons (.var 3) .nil)) (.var 5)) (.cmp .ne (.cmp .is (.call "first_telling" (.cons (.var 3) .nil)) (.con .non)) (.cmp .ne (.var 5) (.lst .nil)))) (.cons (.ret (.con (.bl false))) .nil) .nil) (.cons (.ite (.cmp .ne (.cmp .is (.call "fewest_telling" (.cons (.var 3) .nil)) (.con .non)) (.cmp .ne (.var 5) (.lst .nil))) (.cons (.ret (.con (.bl false))) .nil) .nil) (.cons (.for (.nm 6) (.rng (.con (.int 5))) (.cons (.set (.nm 7) (.call "_law_some_by" (.cons (.var 2) (.cons (.call "_law_stir" (.cons (.var 1) (.cons (.var 6) .nil))) .nil)))) (.cons (.ite (.cmp .ne (.call "tells_apart" (.cons (.var 3) (.cons (.var 7) .nil))) (.and (.cmp .is (.call "first_alike" (.cons (.var 3) (.cons (.var 7) .nil))) (.con .non)) (.cmp .notin (.tup .nil) (.call "marks" (.cons (.var 3) (.cons (.var 7) .nil)))))) (.cons (.ret (.con (.bl false))) .nil) .nil) (.cons (.set (.nm 8) (.bi .tuple (.cons (.sset false (.op .add (.var 7) (.tup (.cons (.op .mod (.call "_law_stir" (.cons (.var 1) (.cons (.op .add (.con (.int 9)) (.var 6)) .nil))) (.var 2)) .nil)))) .nil))) (.cons (.ite (.and (.val (.call "tells_apart" (.cons (.var 3) (.cons (.var 7) .nil)))) (.or (.cmp .ne (.var 5) (.lst .nil)) (.not (.val (.call "tells_apart" (.cons (.var 3) (.cons (.var 8) .nil))))))) (.cons (.ret (.con (.bl false))) .nil) .nil) .nil))))) .nil)))))))) .nil))) (.cons (.ret (.con (.bl true))) .nil))⟩
abbrev yv:Ent:=⟨"is_whole",top 5,[],false,iT⟩
abbrev vj:Ent:=⟨"is_between",top 6,[],false,gN⟩
abbrev Ba:Ent:=⟨"is_pair",top 7,[],false,h_⟩
abbrev vM:Ent:=⟨"rises",top 8,[],false,gW⟩
abbrev yx:Ent:=⟨"is_web",top 11,[],false,iJ⟩
abbrev vq:Ent:=⟨"is_tie",top 12,[],false,h9⟩
abbrev yY:Ent:=⟨"need_web",top 13,[],false,iD⟩
abbrev tj:Ent:=⟨"is_place",top 14,[],false,fW⟩
abbrev yh:Ent:=⟨"hoods",top 15,[],false,fS⟩
abbrev Dq:Ent:=⟨"hood_of",top 16,[],false,fE⟩
abbrev A9:Ent:=⟨"are_tied",top 17,[],false,zV⟩
abbrev vT:Ent:=⟨"is_some",top 19,[],false,fN⟩
abbrev ux:Ent:=⟨"need_some",top 20,[],false,iN⟩
abbrev xq:Ent:=⟨"mark_of",top 21,[],false,g7⟩
abbrev CV:Ent:=⟨"marks_of",top 22,[],false,gO⟩
abbrev w6:Ent:=⟨"all_some",top 23,[],false,zM⟩
abbrev xU:Ent:=⟨"marks",top 25,[],false,kG⟩
abbrev t9:Ent:=⟨"tells_apart",top 26,[],false,iO⟩
abbrev y9:Ent:=⟨"first_alike",top 27,[],false,jW⟩
abbrev xv:Ent:=⟨"twins",top 28,[],true,kC⟩
abbrev xX:Ent:=⟨"fewest_telling",top 29,[],false,zG⟩
abbrev x8:Ent:=⟨"first_telling",top 30,[],false,jn⟩
abbrev CT:Ent:=⟨"are_told",top 31,[],false,jm⟩
abbrev Bs:Ent:=⟨"pairs_alike",top 32,[],true,jR⟩
abbrev Dw:Ent:=⟨"_law_pairs",top 34,[],false,zJ⟩
abbrev Bq:Ent:=⟨"_law_hood",top 35,[aN "_law_found"],false,gp⟩
abbrev ur:Ent:=⟨"_law_stir",top 36,[],false,zC⟩
abbrev Bj:Ent:=⟨"_law_web_by",top 37,[aN "_law_ties"],false,iy⟩
abbrev BE:Ent:=⟨"_law_twin_free",top 38,[aN "_law_order",aN "_law_ties"],false,iU⟩
abbrev vA:Ent:=⟨"_law_same",top 39,[],false,zN⟩
abbrev wA:Ent:=⟨"_law_some_by",top 40,[],false,zO⟩
abbrev uJ:Ent:=⟨"_law_twins",top 41,[],false,oJ⟩
abbrev fT:Ent:=⟨"law",top 42,[aN "_law_found"],false,fD⟩
abbrev tab:List Ent:=[yv,vj,Ba,vM,yx,vq,yY,tj,yh,Dq,A9,vT,ux,xq,CV,w6,xU,t9,y9,xv,xX,x8,CT,Bs,Dw,Bq,ur,Bj,BE,vA,wA,uJ,fT]
abbrev oth:List (Str×GK):=[(aN "NoWeb",GK.exc),(aN "NoPlaces",GK.exc),(aN "MOST",GK.val),(aN "len",GK.bi .len),(aN "tuple",GK.ty "tuple" (some .tuple)),(aN "list",GK.ty "list" (some .list)),(aN "int",GK.ty "int" (some .int)),(aN "bool",GK.ty "bool" (some .bool)),(aN "str",GK.ty "str" none),(aN "set",GK.set),(aN "sorted",GK.bi .sorted),(aN "all",GK.bi .all),(aN "min",GK.bi .min),(aN "max",GK.bi .max),(aN "range",GK.rng),(aN "enumerate",GK.enum),(aN "zip",GK.zip),(aN "isinstance",GK.isi)]
abbrev vals:List (Str×D):=[(aN "MOST",(.int 8))]
abbrev G:List (Str×GK):=tab.map (λe=>(e.x,GK.fn e.fr))++oth
abbrev cM:List (Str×Str):=[]
abbrev us:List Ent:=[]
abbrev subs:List ((Str×Cl)×Bool):=[]
abbrev p:Pr:=prT tab vals cM subs
theorem Dn:p.fns "marks" = some kG:=by kernel_rfl
theorem sC:p.fns "first_alike" = some jW:=by kernel_rfl
theorem B8:p.fns "twins" = some kC:=by kernel_rfl
theorem xa:p.fns "_law_twins" = some oJ:=by kernel_rfl
theorem yn:p.fns "law" = some fD:=by kernel_rfl
end K62
namespace KG
open EV
open PySem (Str)
open L2 (atI ixN ltP)
theorem Be{w:W}{it it2:It}{cap:List (Option Nat)}{t:T}{elt:E}{τ c:Env}{ds:List D}{G:D->List D}(h:evI w it τ=.ok ds)(hz:ds.length<=1000)(hc:zW cap τ=none::none::none::c)
  (hb:∀x∈ds,∃(es:List D) (g:D->List D),(∀v,evI w it2 (none::some x::v::c)=.ok es)/\es.length<=1000/\(∀y∈es,((evT w t (none::some x::some y::c)).bind λr=>if r then (evE w elt (none::some x::some y::c)).bind λd=>.ok [d]else .ok [])=.ok (g y))/\es.flatMap g=G x) :
  evE w (.comp2 it cap (.nm 1) it2 (.nm 2) t elt) τ=.ok (.lst (ds.flatMap G)):=by
 have inner:∀(x:D) (g:D->List D) (l:List D),(∀y∈l,((evT w t (none::some x::some y::c)).bind λr=>if r then (evE w elt (none::some x::some y::c)).bind λd=>.ok [d]else .ok [])=.ok (g y))->∀(v:Option D) (acc:List D),
   ∃v',zR (λy ρ=>(store (.nm 2) y ρ).bind λρ'=>(evT w t ρ').bind λr=>if r then (evE w elt ρ').bind λd=>.ok (ρ',[d])else .ok (ρ',[])) l (none::some x::v::c) acc=.ok (none::some x::v'::c,acc++l.flatMap g):=by
  intro x g l
  induction l with
  |nil=>intro _ v acc;exact⟨v,by simp[zR]⟩
  |cons y r ih=>
   intro hm v acc;have q:=hm y aO;obtain⟨v',e'⟩:=ih (λz hz=>hm z (aM _ hz)) (some y) (acc++g y);refine⟨v',?_⟩;rw[zR];have e:((store (.nm 2) y (none::some x::v::c)).bind λρ'=>(evT w t ρ').bind λr=>if r then (evE w elt ρ').bind λd=>.ok (ρ',[d])else .ok (ρ',[]))=.ok (none::some x::some y::c,g y):=by
    simp only[store,R.bind_ok,List.set_cons_succ,List.set_cons_zero];cases ht:evT w t (none::some x::some y::c)with
    |ok b=>
     rw[ht]at q;simp only[R.bind_ok]at q ⊢;cases b
     ·simp at q ⊢;rw[<-q]
     ·simp only[if_true]at q ⊢;cases he:evE w elt (none::some x::some y::c)with
      |ok d=>rw[he]at q;simp only[R.bind_ok,R.ok.injEq]at q ⊢;rw[<-q]
      |ex=>rw[he]at q;cases q
      |no=>rw[he]at q;cases q
    |ex=>rw[ht]at q;cases q
    |no=>rw[ht]at q;cases q
   rw[e];simp only[R.bind_ok];rw[e',bX,bq]
 have key:∀(l:List D) (u v:Option D) (acc:List D),(∀x∈l,x∈ds)->zj (λx σ=>noEx ((store (.nm 1) x σ).bind λσ'=>(evI w it2 σ').bind λes=>if 1000<es.length then .no else zR (λy ρ=>(store (.nm 2) y ρ).bind λρ'=>(evT w t ρ').bind λr=>if r then (evE w elt ρ').bind λd=>.ok (ρ',[d])else .ok (ρ',[])) es σ' [])) l (none::u::v::c) acc=.ok (acc++l.flatMap G):=by
  intro l
  induction l with
  |nil=>intro u v acc _;simp[zj]
  |cons x r ih=>
   intro u v acc hm;obtain⟨es,g,e1,e2,e3,e4⟩:=hb x (hm x aO);obtain⟨v',e5⟩:=inner x g es e3 v [];have e:noEx ((store (.nm 1) x (none::u::v::c)).bind λσ'=>(evI w it2 σ').bind λes=>if 1000<es.length then .no else zR (λy ρ=>(store (.nm 2) y ρ).bind λρ'=>(evT w t ρ').bind λr=>if r then (evE w elt ρ').bind λd=>.ok (ρ',[d])else .ok (ρ',[])) es σ' [])=.ok (none::some x::v'::c,G x):=by
    show noEx ((evI w it2 (none::some x::v::c)).bind _)=_;rw[e1 v];show noEx (if 1000<es.length then R.no else _)=_;rw[if_neg (by lia)];show noEx (zR _ es (none::some x::v::c) [])=_;rw[e5,List.nil_append,e4]
    rfl
   rw[zj,e];simp only[R.bind_ok];rw[ih (some x) v' _ λy hy=>hm y (aM _ hy),bX,bq]
 rw[qH,h];simp only[R.bind_ok];rw[if_neg (by lia),hc,key ds none none [] λ_ h=>h]
 rfl
noncomputable def rg2(lo hi:Int):List Int:=(bu (hi-lo).toNat).map λ(i:Nat)=>lo+(i:Int)
theorem kv{lo hi i:Int}:i∈rg2 lo hi↔lo<=i/\i<hi:=by
 simp only[rg2,aP,List.mem_range];constructor
 ·rintro⟨a,h,rfl⟩;lia
 ·intro h;exact⟨(i-lo).toNat,by lia,by lia⟩
theorem yp(lo hi:Int):zt lo (hi-lo).toNat=(rg2 lo hi).map D.int:=by
 rw[zt,rg2,cg];rfl
noncomputable def PR(m:Int):List (Int×Int):=(rng m).flatMap λa=>(rg2 (a+1) m).map λb=>(a,b)
section
variable{p:Pr}
theorem vv(hf:p.fns "_law_pairs" = some zJ){k:Nat}(m:Int)(h1:1<=m)(h2:m<=8):qe p (k+1) "_law_pairs" [.int m]=.ok (.lst ((PR m).map prD)):=by
 have:m=1\/m=2\/m=3\/m=4\/m=5\/m=6\/m=7\/m=8:=by lia
 rcases this with rfl|rfl|rfl|rfl|rfl|rfl|rfl|rfl<;>(rw[qg hf];kernel_rfl)
theorem mE(m:Int)(h1:1<=m)(h2:m<=8):(PR m).length<=28/\∀t∈PR m,0<=t.1/\t.1<t.2/\t.2<m:=by
 have:m=1\/m=2\/m=3\/m=4\/m=5\/m=6\/m=7\/m=8:=by lia
 rcases this with rfl|rfl|rfl|rfl|rfl|rfl|rfl|rfl<;>decide +kernel
noncomputable def jR:Fn:=⟨1,2,false,(.cons (.set (.nm 1) (.bi .len (.cons (.var 0) .nil))) (.cons (.ret (.comp2 (.rng (.var 1)) [none,none,none,some 1,some 0] (.nm 1) (.rng2 (.op .add (.var 1) (.con (.int 1))) (.var 3)) (.nm 2) (.cmp .eq (.ix (.var 4) (.var 1)) (.ix (.var 4) (.var 2))) (.tup (.cons (.var 1) (.cons (.var 2) .nil))))) .nil))⟩
theorem oZ{m:Int}(f:Int->List Int){a:Int}(h0:0<=a)(h:a<m)(tup:Bool):ixD (if tup then .tup ((rng m).map λa=>tu (f a))else .lst ((rng m).map λa=>tu (f a))) (.int a)=.ok (tu (f a)):=by
 obtain⟨j,rfl⟩:∃j:Nat,a=j:=⟨a.toNat,by lia⟩
 have hj:j<((rng m).map λa=>tu (f a)).length:=by rw[aR,zr];lia
 have e:=iK (xs:=(rng m).map λa=>tu (f a)) (i:=j) hj;have e2:((rng m).map λa=>tu (f a))[j]=tu (f (j:Int)):=by simp[rng]
 cases tup<;>(simp only[a_,if_false,if_true,ixD];rw[e,e2])
noncomputable def al(m:Int)(f:Int->List Int):List (Int×Int):=(PR m).filter λt=>decide (f t.1=f t.2)
theorem AX(a:Int)(q:Int->Bool)(l:List Int):(l.map D.int).flatMap (λy=>match y with | .int b=>if q b then [prD (a,b)]else []|_=>[])=((l.map λb=>(a,b)).filter λt=>q t.2).map prD:=by
 induction l with
 |nil=>rfl
 |cons b r ih=>
  rw[aQ,bX,ih,aQ,dj];show (if q b=true then [prD (a,b)]else [])++_=_;cases q b<;>rfl
end
noncomputable def iU:Fn:=⟨2,5,false,(.cons (.set (.nm 2) (.lst .nil)) (.cons (.for (.nm 3) (.rng (.var 0)) (.cons (.ins 2 (.op .mod (.call "_law_stir" (.cons (.var 1) (.cons (.op .add (.var 3) (.con (.int 70))) .nil))) (.op .add (.var 3) (.con (.int 1)))) (.var 3)) .nil)) (.cons (.set (.nm 4) (.comp (.rng (.op .sub (.var 0) (.con (.int 1)))) [none,none,some 2] (.nm 1) .yes (.tup (.cons (.ix (.own 2) (.var 1)) (.cons (.ix (.own 2) (.op .add (.var 1) (.con (.int 1)))) .nil))))) (.cons (.ite (.and (.cmp .eq (.op .mod (.var 1) (.con (.int 3))) (.con (.int 1))) (.cmp .gt (.var 0) (.con (.int 3)))) (.cons (.app 4 (.tup (.cons (.ix (.own 2) (.con (.int 0))) (.cons (.ix (.own 2) (.op .sub (.var 0) (.con (.int 1)))) .nil)))) .nil) .nil) (.cons (.ite (.and (.cmp .eq (.op .mod (.var 1) (.con (.int 3))) (.con (.int 2))) (.cmp .gt (.var 0) (.con (.int 4)))) (.cons (.seti 4 (.op .sub (.var 0) (.con (.int 2))) (.tup (.cons (.ix (.own 2) (.op .sub (.var 0) (.con (.int 1)))) (.cons (.ix (.own 2) (.con (.int 1))) .nil)))) .nil) .nil) (.cons (.ret (.tup (.cons (.var 0) (.cons (.bi .tuple (.cons (.bi .sorted (.cons (.comp (.seq (.own 4)) [none,none] (.nm 1) .yes (.bi .tuple (.cons (.bi .sorted (.cons (.var 1) .nil)) .nil))) .nil)) .nil)) .nil)))) .nil))))))⟩
noncomputable def srt(t:Int×Int):Int×Int:=if t.1<=t.2 then t else (t.2,t.1)
theorem wK(a b:Int):sortI [a,b]=[(srt (a,b)).1,(srt (a,b)).2]:=by
 show insI a [b]=_;rw[insI,srt];by_cases h:a<=b
 ·rw[if_pos h,if_pos h]
 ·rw[if_neg h,if_neg h];rfl
theorem yU{a b c d:Int}(h:srt (a,b)=srt (c,d)):(a=c/\b=d)\/(a=d/\b=c):=by
 unfold srt at h;split at h<;>split at h<;>(injection h with h1 h2;lia)
structure Iok(m:Int)(I:List (Int×Int)):Prop where
 ok:∀t∈I,0<=t.1/\t.1<m/\0<=t.2/\t.2<m/\t.1≠t.2
 pw:I.Pairwise λs t=>¬ (s.1=t.1/\s.2=t.2)/\¬ (s.1=t.2/\s.2=t.1)
 len:I.length<=8
noncomputable instance (m:Int) (I:List (Int×Int)):Decidable (Iok m I):=
 decidable_of_iff ((∀t∈I,0<=t.1/\t.1<m/\0<=t.2/\t.2<m/\t.1≠t.2)/\I.Pairwise (λs t=>¬ (s.1=t.1/\s.2=t.2)/\¬ (s.1=t.2/\s.2=t.1))/\I.length<=8) ⟨λ⟨a,b,c⟩=>⟨a,b,c⟩,λ⟨a,b,c⟩=>⟨a,b,c⟩⟩
noncomputable def I0(m:Int):List (Int×Int):=(rng (m-1)).map λk=>(k,k+1)
theorem BL(m:Int)(h1:1<=m)(h2:m<=8):Iok m (I0 m)/\(3<m->Iok m (I0 m++[(0,m-1)]))/\(4<m->Iok m ((I0 m).set (m-2).toNat (m-1,1))):=by
 have:m=1\/m=2\/m=3\/m=4\/m=5\/m=6\/m=7\/m=8:=by lia
 rcases this with rfl|rfl|rfl|rfl|rfl|rfl|rfl|rfl<;>decide +kernel
section
variable{m:Int}{o:List Int}
theorem p9(hp:o.Perm (rng m)){i:Int}(h0:0<=i)(h:i<m):0<=o.getD i.toNat 0/\o.getD i.toNat 0<m:=by
 have hl:i.toNat<o.length:=by rw[hp.length_eq,zr];lia
 have e:o.getD i.toNat 0=o[i.toNat]:=by simp[List.getD,hl]
 rw[e];exact cU.mp (hp.mem_iff.mp (cK hl))
theorem iE(hp:o.Perm (rng m)){i j:Int}(h0:0<=i)(h:i<m)(g0:0<=j)(g:j<m)(e:o.getD i.toNat 0=o.getD j.toNat 0):i=j:=by
 have nd:o.Nodup:=hp.nodup_iff.mpr ((gR m).imp λh=>Int.ne_of_lt h);have hl:i.toNat<o.length:=by rw[hp.length_eq,zr];lia
 have gl:j.toNat<o.length:=by rw[hp.length_eq,zr];lia
 have e1:o.getD i.toNat 0=o[i.toNat]:=by simp[List.getD,hl]
 have e2:o.getD j.toNat 0=o[j.toNat]:=by simp[List.getD,gl]
 rw[e1,e2]at e;have key:=List.pairwise_iff_getElem.mp nd;rcases Nat.lt_trichotomy i.toNat j.toNat with z|z|z
 ·exact absurd e (key _ _ hl gl z)
 ·lia
 ·exact absurd e.symm (key _ _ gl hl z)
noncomputable def du(o:List Int)(t:Int×Int):Int×Int:=srt (o.getD t.1.toNat 0,o.getD t.2.toNat 0)
theorem BP(h1:1<=m)(h2:m<=8)(hp:o.Perm (rng m)){I:List (Int×Int)}(hI:Iok m I):GW m (zK (I.map (du o))):=by
 have pm:=pP (I.map (du o));have nd:(I.map (du o)).Nodup:=by
  rw[List.Nodup,List.pairwise_map];refine hI.pw.imp_of_mem λ{s t} hs ht h e=>?_
  obtain⟨a1,a2,a3,a4,_⟩:=hI.ok s hs;obtain⟨b1,b2,b3,b4,_⟩:=hI.ok t ht;rcases yU e with ⟨e1,e2⟩|⟨e1,e2⟩
  ·exact h.1 ⟨iE hp a1 a2 b1 b2 e1,iE hp a3 a4 b3 b4 e2⟩
  ·exact h.2 ⟨iE hp a1 a2 b3 b4 e1,iE hp a3 a4 b1 b2 e2⟩
 refine⟨h1,h2,yX (oA _) (pm.nodup_iff.mpr nd),λt ht=>?_,?_⟩
 ·obtain⟨s,hs,rfl⟩:=aP.mp (pm.mem_iff.mp ht);obtain⟨a1,a2,a3,a4,a5⟩:=hI.ok s hs;have b1:=p9 hp a1 a2;have b2:=p9 hp a3 a4;have b3:o.getD s.1.toNat 0≠o.getD s.2.toNat 0:=λe=>a5 (iE hp a1 a2 a3 a4 e)
  rw[du,srt];split<;>(simp only;simp only at *;lia)
 ·rw[pm.length_eq,aR];have:=hI.len;lia
theorem wO(hl:(o.length:Int)=m){i:Int}(h0:0<=i)(h:i<m):ixD (.lst (o.map D.int)) (.int i)=.ok (.int (o.getD i.toNat 0)):=by
 obtain⟨j,rfl⟩:∃j:Nat,i=j:=⟨i.toNat,by lia⟩
 have hj:j<o.length:=by lia
 have:=iK (xs:=o.map D.int) (i:=j) (by simpa using hj);simp only[ixD];rw[this];simp[hj]
end
theorem Ao(j:Nat):rng ((j:Int)+1)=rng (j:Int)++[(j:Int)]:=by
 rw[rng,rng,show ((j:Int)+1).toNat=j+1 by lia,show ((j:Int)).toNat=j by lia,List.range_succ,List.map_append];rfl
theorem tN(m:Int):rng m=rg2 0 m:=by
 rw[rng,rg2,Int.sub_zero];simp
theorem l4{lo hi:Int}(h:lo<hi):rg2 lo hi=lo::rg2 (lo+1) hi:=by
 rw[rg2,rg2,show (hi-lo).toNat=(hi-(lo+1)).toNat+1 by lia,List.range_succ_eq_map,aQ,cg]
 congr 1
 ·simp
 ·refine List.map_congr_left λi _=>?_
  simp only[Function.comp];lia
abbrev oD(o:List Int)(t:Int×Int):D:=.tup [.int (o.getD t.1.toNat 0),.int (o.getD t.2.toNat 0)]
theorem Bl{w:W}{τ:Env}{o:List Int}{I:List (Int×Int)}(h8:I.length<=8)(h:τ[4]? = some (some (.lst (I.map (oD o))))):evE w (.comp (.seq (.own 4)) [none,none] (.nm 1) .yes (.bi .tuple (.cons (.bi .sorted (.cons (.var 1) .nil)) .nil))) τ=.ok (.lst ((I.map (du o)).map prD)):=by
 rw[cg];refine mP (f:=oD o) (c:=[]) (λt=>prD (du o t)) (iF (by rw[zc,zF,h])) (by simp[SZ];lia) rfl λt _=>?_
 have e1:b1 .sorted [oD o t]=.ok (.lst ((sortI [o.getD t.1.toNat 0,o.getD t.2.toNat 0]).map D.int)):=rfl;have e2:b1 .tuple [.lst ((sortI [o.getD t.1.toNat 0,o.getD t.2.toNat 0]).map D.int)]=.ok (prD (du o t)):=by rw[wK];rfl
 generalize D.lst ((sortI [o.getD t.1.toNat 0,o.getD t.2.toNat 0]).map D.int)=Y at *;generalize oD o t=X at *;generalize prD (du o t)=Z at *;simp[KG.Z,e1,e2]
abbrev TE(m c:Int)(o:List Int)(v3 v4:Option D):Env:=[some (.int m),some (.int c),some (.lst (o.map D.int)),v3,v4]
theorem Ae{p:Pr}(hS:p.fns "_law_stir" = some zC)(hf:p.fns "_law_twin_free" = some iU){k:Nat}(m c:Int)(h1:1<=m)(h2:m<=8):∃ts,GW m ts/\qe p (k+2) "_law_twin_free" [.int m,.int c]=.ok (wb m ts):=by
 suffices hs:∃d,qe p (k+2) "_law_twin_free" [.int m,.int c]=.ok d/\∃ts,GW m ts/\d=wb m ts by
  obtain⟨d,e,ts,g,rfl⟩:=hs;exact⟨ts,g,e⟩
 refine mH (k:=k+1) (τ:=[some (.int m),some (.int c),none,none,none]) hf rfl rfl ?_;refine zH (σ:=TE m c [] none none) rfl ?_;have hm:qu m=true:=by simp[qu];lia
 refine gZ (ds:=(rng m).map D.int) (λr σ=>∃(j:Nat) (o:List Int) (v3:Option D),(j:Int)<=m/\r=(rg2 (j:Int) m).map D.int/\o.Perm (rng (j:Int))/\σ=TE m c o v3 none) (by rw[<-zq];simp[KG.Z,hm]) ⟨0,[],none,by lia,by rw[tN];rfl,by simp[rng],rfl⟩ ?_ ?_
 ·rintro x t σ ⟨j,o,v3,hj,e,hp,rfl⟩;have hlt:(j:Int)<m:=by
   by_cases z:(j:Int)<m
   ·exact z
   ·rw[rg2,show (m-(j:Int)).toNat=0 by lia]at e;cases e
  rw[l4 hlt,aQ]at e;injection e with e1 e2
  subst e1 e2;refine⟨TE m c o (some (.int (j:Nat))) none,rfl,?_⟩;have e5:=iL hS (k:=k) c ((j:Int)+70);have z1:op2 .add (.int (j:Nat)) (.int 70)=.ok (.int ((j:Int)+70)):=rfl;have z2:op2 .add (.int (j:Nat)) (.int 1)=.ok (.int ((j:Int)+1)):=rfl;have z3:op2 .mod (.int (st c ((j:Int)+70))) (.int ((j:Int)+1))=.ok (.int (st c ((j:Int)+70)%((j:Int)+1))):=by
   show opI .mod _ _=_;rw[opI,if_pos (by lia)]
  have q0:=Int.emod_nonneg (st c ((j:Int)+70)) (show ((j:Int)+1)≠0 by lia);have q1:=Int.emod_lt_of_pos (st c ((j:Int)+70)) (show (0:Int)<(j:Int)+1 by lia);have hl:o.length=j:=by rw[hp.length_eq,zr];lia
  generalize st c ((j:Int)+70)%((j:Int)+1)=q at *;have hk:evE (wAt p (k+1)) (.op .mod (.call "_law_stir" (.cons (.var 1) (.cons (.op .add (.var 3) (.con (.int 70))) .nil))) (.op .add (.var 3) (.con (.int 1)))) (TE m c o (some (.int (j:Nat))) none)=.ok (.int q):=by
   dsimp only[TE];generalize st c ((j:Int)+70)=QQ at *;generalize (j:Int)+70=J1 at *;generalize (j:Int)+1=J2 at *;generalize (j:Int)=J at *;simp[KG.Z,z1,z2,z3,e5]
  refine zH (σ:=TE m c (o.take q.toNat++(j:Int)::o.drop q.toNat) (some (.int (j:Nat))) none) ?_ (iq ⟨j+1,_,_,by lia,by rw[show (((j+1:Nat)):Int)=(j:Int)+1 by lia],?_,rfl⟩)
  ·rw[dH,hk];show iA (.lst (o.map D.int)) (.int q) (.int (j:Nat)) 2 (TE m c o (some (.int (j:Nat))) none)=_;rw[iA];rw[if_pos ⟨q0,by rw[aR,hl];lia,by simp[SZ,hl];lia⟩,<-List.map_take,<-List.map_drop,<-aQ,<-List.map_append]
   rfl
  ·rw[show (((j+1:Nat)):Int)=(j:Int)+1 by lia,Ao];have a1:(o.take q.toNat++(j:Int)::o.drop q.toNat).Perm ((j:Int)::o):=by
    have:=List.perm_middle (a:=(j:Int)) (l₁:=o.take q.toNat) (l₂:=o.drop q.toNat)
    rwa[bE]at this
   exact a1.trans ((hp.cons _).trans (List.perm_append_comm (l₁:=[(j:Int)]) (l₂:=rng (j:Int))))
 ·rintro σ ⟨j,o,v3,hj,e,hp,rfl⟩;have hjm:(j:Int)=m:=by
   by_cases z:(j:Int)<m
   ·rw[l4 z]at e;cases e
   ·lia
  rw[hjm]at hp;have hl:(o.length:Int)=m:=by rw[hp.length_eq,zr];lia
  have ho:=λ(i:Int) (h0:0<=i) (h:i<m)=>wO (o:=o) hl h0 h
  have hc:evE (wAt p (k+1)) (.comp (.rng (.op .sub (.var 0) (.con (.int 1)))) [none,none,some 2] (.nm 1) .yes (.tup (.cons (.ix (.own 2) (.var 1)) (.cons (.ix (.own 2) (.op .add (.var 1) (.con (.int 1)))) .nil)))) (TE m c o v3 none)=.ok (.lst ((I0 m).map (oD o))):=by
   rw[I0,cg];refine mP (f:=D.int) (c:=[some (.lst (o.map D.int))]) (λi=>oD o (i,i+1)) ?_ (by rw[zr];simp[SZ];lia) rfl λi hi=>?_
   ·have s1:qu (m-1)=true:=by simp[qu];lia
    have z:op2 .sub (.int m) (.int 1)=.ok (.int (m-1)):=rfl;rw[<-zq];dsimp only[TE];generalize m-1=M1 at *;simp[KG.Z,z,s1]
   ·have hi':=cU.mp hi;have i1:=ho i hi'.1 (by lia);have i2:=ho (i+1) (by lia) (by lia);have z:op2 .add (.int i) (.int 1)=.ok (.int (i+1)):=rfl;generalize D.lst (o.map D.int)=OL at *;simp only[oD];generalize i+1=i' at *;generalize o.getD i.toNat 0=A at *;generalize o.getD i'.toNat 0=A' at *;simp[KG.Z,i1,i2,z]
  refine zH (σ:=TE m c o v3 (some (.lst ((I0 m).map (oD o))))) (by rw[cN,hc];rfl) ?_;obtain⟨k0,k1,k2⟩:=BL m h1 h2;have c1:qi .eq (.int (c%3)) (.int 1)=.ok (decide (c%3=1)):=eq_int _ _;have c2:qi .eq (.int (c%3)) (.int 2)=.ok (decide (c%3=2)):=eq_int _ _;have g3:qi .gt (.int m) (.int 3)=.ok (decide (3<m)):=rfl;have g4:qi .gt (.int m) (.int 4)=.ok (decide (4<m)):=rfl;have md:op2 .mod (.int c) (.int 3)=.ok (.int (c%3)):=rfl;have fin:∀I,Iok m I->Ends (λ_=>False) (λd=>∃ts,GW m ts/\d=wb m ts) (qm (wAt p (k+1)) (.cons (.ret (.tup (.cons (.var 0) (.cons (.bi .tuple (.cons (.bi .sorted (.cons (.comp (.seq (.own 4)) [none,none] (.nm 1) .yes (.bi .tuple (.cons (.bi .sorted (.cons (.var 1) .nil)) .nil))) .nil)) .nil)) .nil)))) .nil) (TE m c o v3 (some (.lst (I.map (oD o)))))):=λI hI=>by
   refine lN (d:=wb m (zK (I.map (du o)))) ?_ ⟨_,BP h1 h2 hp hI,rfl⟩;have t1:=Bl (w:=wAt p (k+1)) (τ:=TE m c o v3 (some (.lst (I.map (oD o))))) hI.len rfl;have t2:=t_ (I.map (du o)) (by rw[aR];have:=hI.len;lia);have t3:b1 .tuple [.lst ((zK (I.map (du o))).map prD)]=.ok (.tup ((zK (I.map (du o))).map prD)):=rfl;rw[qC,zy,zy,zy,qY,qz,zy,zy,qz,zy,zy,t1];simp only[R.bind_ok,t2,t3]
   rfl
  by_cases q1:c%3=1/\3<m
  ·have a0:=ho 0 (by lia) (by lia);have a1:=ho (m-1) (by lia) (by lia);have z:op2 .sub (.int m) (.int 1)=.ok (.int (m-1)):=rfl;refine zH (σ:=TE m c o v3 (some (.lst ((I0 m++[(0,m-1)]).map (oD o))))) ?_ ?_
   ·have hz:((I0 m).map (oD o)).length<SZ:=by simp[I0,zr,SZ];lia
    rw[decide_eq_true q1.1]at c1;rw[decide_eq_true q1.2]at g3;rw[List.map_append];show _=O.nx [_,_,_,_,some (.lst ((I0 m).map (oD o)++[.tup [.int (o.getD (0:Int).toNat 0),.int (o.getD (m-1).toNat 0)]]))];dsimp only[TE];generalize (I0 m).map (oD o)=IL at *;generalize D.lst (o.map D.int)=OL at *;generalize o.getD (0:Int).toNat 0=A at *;generalize o.getD (m-1).toNat 0=A' at *;generalize m-1=M1 at *;generalize c%3=C3 at *;simp[KG.Z,md,c1,g3,a0,a1,z,hz]
   ·refine zH (σ:=TE m c o v3 (some (.lst ((I0 m++[(0,m-1)]).map (oD o))))) ?_ ?_
    rotate_left
    ·exact fin _ (k1 q1.2)
    have nc:decide (c%3=2)=false:=decide_eq_false (by lia);rw[nc]at c2;dsimp only[TE];generalize (I0 m++[(0,m-1)]).map (oD o)=IL at *;generalize D.lst (o.map D.int)=OL at *;generalize c%3=C3 at *;simp[KG.Z,md,c2]
  ·refine zH (σ:=TE m c o v3 (some (.lst ((I0 m).map (oD o))))) ?_ ?_
   ·dsimp only[TE];clear ho hc fin k0 k1 k2 e hp hl;generalize (I0 m).map (oD o)=IL at *;generalize D.lst (o.map D.int)=OL at *;by_cases z1:c%3=1
    ·have z2:¬ 3<m:=λz=>q1 ⟨z1,z⟩
     rw[decide_eq_true z1]at c1;rw[decide_eq_false z2]at g3;generalize c%3=C3 at *;simp[KG.Z,md,c1,g3]
    ·rw[decide_eq_false z1]at c1;generalize c%3=C3 at *;simp[KG.Z,md,c1]
   ·by_cases q2:c%3=2/\4<m
    ·have a0:=ho (m-1) (by lia) (by lia);have a1:=ho 1 (by lia) (by lia);have z:op2 .sub (.int m) (.int 1)=.ok (.int (m-1)):=rfl;have z':op2 .sub (.int m) (.int 2)=.ok (.int (m-2)):=rfl;refine zH (σ:=TE m c o v3 (some (.lst (((I0 m).set (m-2).toNat (m-1,1)).map (oD o))))) ?_ ?_
     rotate_left
     ·exact fin _ (k2 q2.2)
     have hx:ixN ((I0 m).map (oD o)).length (m-2)=some (m-2).toNat:=by
      rw[ixN,if_pos (by lia),if_pos (by simp[I0,zr];lia)]
     rw[decide_eq_true q2.1]at c2;rw[decide_eq_true q2.2]at g4;rw[List.map_set];show _=O.nx [_,_,_,_,some (.lst (((I0 m).map (oD o)).set (m-2).toNat (.tup [.int (o.getD (m-1).toNat 0),.int (o.getD (1:Int).toNat 0)])))];dsimp only[TE];clear ho hc fin k0 k1 k2 e hp hl;generalize (I0 m).map (oD o)=IL at *;generalize D.lst (o.map D.int)=OL at *;generalize o.getD (1:Int).toNat 0=A at *;generalize o.getD (m-1).toNat 0=A' at *;generalize (m-2).toNat=MN at *;generalize m-1=M1 at *;generalize m-2=M2 at *;generalize c%3=C3 at *;simp[KG.Z,md,c2,g4,a0,a1,z,z',hx,dv]
    ·refine zH (σ:=TE m c o v3 (some (.lst ((I0 m).map (oD o))))) ?_ ?_
     rotate_left
     ·exact fin _ k0
     dsimp only[TE];clear ho hc fin k0 k1 k2 e hp hl;generalize (I0 m).map (oD o)=IL at *;generalize D.lst (o.map D.int)=OL at *;by_cases z1:c%3=2
     ·have z2:¬ 4<m:=λz=>q2 ⟨z1,z⟩
      rw[decide_eq_true z1]at c2;rw[decide_eq_false z2]at g4;generalize c%3=C3 at *;simp[KG.Z,md,c2,g4]
     ·rw[decide_eq_false z1]at c2;generalize c%3=C3 at *;simp[KG.Z,md,c2]
section
variable{p:Pr}{k:Nat}{M c:Int}{n:Int}{ts:List (Int×Int)}{a b:Int}{i:Int}{v3 v4:Option D}{Q:D->Prop}
end
end KG
namespace KG
open EV
open PySem (Str Builtin.bitAnd Builtin.bitOr)
open L2 (atI ixN ltP)
noncomputable def bs(m:Int)(n:Nat):List Int:=(rng m).filter λi=>n.testBit i.toNat
theorem r9{m:Int}(h:m<=8)(n:Nat):GS m (bs m n):=
 ⟨(gR m).sublist List.filter_sublist,λi hi=>cU.mp (bP.mp hi).1,bD (List.length_filter_le _ _) (by rw[zr];lia)⟩
noncomputable def subs:Nat->List (List Int)
 | 0=>[[]]
 |j+1=>subs j++(subs j).map (· ++ [(j:Int)])
theorem uM(m:Int)(h1:1<=m)(h2:m<=8):subs m.toNat=(bu (2^m.toNat)).map (bs m):=by
 have:m=1\/m=2\/m=3\/m=4\/m=5\/m=6\/m=7\/m=8:=by lia
 rcases this with rfl|rfl|rfl|rfl|rfl|rfl|rfl|rfl<;>decide +kernel
theorem kH:∀j,(subs j).length=2^j
 | 0=>rfl
 |j+1=>by rw[subs,cb,aR,kH j,Nat.pow_succ];lia
theorem nK:∀ts:List (List Int),tups? (ts.map tu)=some ts
 | []=>rfl
 |t::r=>by
  show (ints? (t.map D.int)).bind (λn=>(tups? (r.map tu)).map (n :: ·))=_;rw[ints_map,nK r];rfl
theorem ko:∀j,1<=j->∃b r,subs j=[]::b::r
 | 1,_=>⟨_,_,rfl⟩
 |j+2,_=>by
  obtain⟨b,r,e⟩:=ko (j+1) (by lia);rw[subs,e];exact⟨_,_,rfl⟩
theorem yT(j:Nat)(h:1<=j):fh (subs j)=true:=by
 obtain⟨b,r,e⟩:=ko j h;rw[e];rfl
theorem ph{m:Nat}(h:m<=8):2^m<=256:=Nat.pow_le_pow_right (by decide) h
theorem BB{j:Nat}(h1:1<=j):b1 .sorted [.lst ((subs j).map tu)]=.ok (.lst ((zA (subs j)).map tu)):=by
 have hT:cW ((subs j).map tu)=.ok (.lst ((zA (subs j)).map tu)):=by
  rw[cW,nK];show (if fh (subs j)=true then _ else _)=_;rw[yT j h1];rfl
 rw[jP];obtain⟨b,r,e⟩:=ko j h1;have hi:ints? ((subs j).map tu)=none:=by rw[e];rfl
 have hp:pairs? ((subs j).map tu)=none:=by rw[e];rfl
 rw[hi,hp];simp only;rw[hT];split<;>rfl
theorem ke{p:Pr}(hf:p.fns "all_some" = some zM){k:Nat}{m:Int}{t:D}(h1:1<=m)(h2:m<=8):qe p (k+1) "all_some" [.tup [.int m,t]]=.ok (.lst ((zA (subs m.toNat)).map tu)):=by
 obtain⟨d,e,rfl⟩:∃d,qe p (k+1) "all_some" [.tup [.int m,t]]=.ok d/\d=.lst ((zA (subs m.toNat)).map tu):=by
  refine mH (k:=k) (τ:=[some (.tup [.int m,t]),none,none]) hf rfl rfl ?_;refine zH (σ:=[some (.tup [.int m,t]),some (.lst ((subs 0).map tu)),none]) (by simp[KG.Z];rfl) ?_;have hm:qu m=true:=by simp[qu];lia
  have hx:ixD (.tup [.int m,t]) (.int 0)=.ok (.int m):=rfl;refine gZ (ds:=(rng m).map D.int) (λr σ=>∃(j:Nat) (v2:Option D),j<=m.toNat/\r=((List.range' j (m.toNat-j)).map λ(i:Nat)=>(i:Int)).map D.int/\σ=[some (.tup [.int m,t]),some (.lst ((subs j).map tu)),v2]) (by rw[<-zq];simp[KG.Z,hm,hx]) ⟨0,none,by lia,by rw[rng,List.range_eq_range'];rfl,rfl⟩ ?_ ?_
  ·rintro x r σ ⟨j,v2,hj,e,rfl⟩;by_cases hjm:j=m.toNat
   ·subst hjm;simp at e
   ·have ej:m.toNat-j=(m.toNat-(j+1))+1:=by lia
    rw[ej,List.range'_succ,aQ,aQ]at e;injection e with e1 e2
    subst e1 e2;refine⟨[some (.tup [.int m,t]),some (.lst ((subs j).map tu)),some (.int j)],rfl,?_⟩;have hl:=kH j;have hp:=ph (m:=j) (by lia);have hc:evE (wAt p k) (.comp (.seq (.var 1)) [none,none,some 2] (.nm 1) .yes (.op .add (.var 1) (.tup (.cons (.var 2) .nil)))) [some (.tup [.int m,t]),some (.lst ((subs j).map tu)),some (.int j)]=.ok (.lst (((subs j).map (· ++ [(j:Int)])).map tu)):=by
     have he:((subs j).map tu).flatMap (λx=>match x with | .tup xs=>[D.tup (xs++[.int j])]|_=>[])=((subs j).map (· ++ [(j:Int)])).map tu:=by
      generalize subs j=l
      induction l with
      |nil=>rfl
      |cons a r ih=>rw[aQ,bX,ih];simp[tu]
     rw[<-he];refine eA (c:=[some (.int j)]) ?_ ?_ rfl ?_
     ·simp[KG.Z,seq?]
     ·simp[SZ];lia
     ·intro x hx;rw[aP]at hx;obtain⟨s,hs,rfl⟩:=hx;have hsl:s.length<=j:=by
       have:∀(n:Nat) (s:List Int),s∈subs n->s.length<=n:=by
        intro n
        induction n with
        |zero=>intro s hs;simp[subs]at hs;subst hs;simp
        |succ n ih=>
         intro s hs;rw[subs,List.mem_append,aP]at hs;rcases hs with hs|⟨u,hu,rfl⟩
         ·have:=ih s hs;lia
         ·have:=ih u hu;simp;lia
       exact this j s hs
      have e:op2 .add (tu s) (.tup [.int j])=.ok (.tup (s.map D.int++[.int j])):=by
       rw[op2,if_pos (by simp[SZ];lia)]
      simp[KG.Z,e]
    have e3:op2 .add (.lst ((subs j).map tu)) (.lst (((subs j).map (· ++ [(j:Int)])).map tu))=.ok (.lst ((subs (j+1)).map tu)):=by
     rw[op2,if_pos (by simp[SZ];lia),subs,List.map_append]
    refine zH (σ:=[some (.tup [.int m,t]),some (.lst ((subs (j+1)).map tu)),some (.int j)]) (by rw[cN,za,hc,qY];simp only[zF,List.getElem?_cons_succ,List.getElem?_cons_zero,R.bind_ok];rw[e3];rfl) (iq ⟨j+1,_,by lia,rfl,rfl⟩)
  ·rintro σ ⟨j,v2,hj,e,rfl⟩;have:j=m.toNat:=by
    have:=congrArg List.length e;simp at this;lia
   subst this;exact lN (d:=.lst ((zA (subs m.toNat)).map tu)) (by simp[KG.Z,BB (j:=m.toNat) (by lia)]) rfl
 exact e
section
variable{p:Pr}(B:Base p)
include B
theorem all_some{k:Nat}{m:Int}{t:D}(h1:1<=m)(h2:m<=8):qe p (k+1) "all_some" [.tup [.int m,t]]=.ok (.lst ((zA (subs m.toNat)).map tu)):=ke B.all_some h1 h2
end
end KG
namespace KG
open EV
open PySem (Str)
open L2 (atI ixN ltP)
section
variable{p:Pr}(B:Base p)
include B
end
abbrev ln(N:List Nat):D:=.lst (N.map λ(x:Nat)=>D.int (x:Int))
theorem lP{m:Int}(h1:1<=m)(h2:m<=8){s:List Int}(hs:s∈zA (subs m.toNat)):∃n,n<2^m.toNat/\s=bs m n:=by
 have:=(jr _).mem_iff.mp hs;rw[uM m h1 h2,aP]at this;obtain⟨n,hn,rfl⟩:=this;exact⟨n,List.mem_range.mp hn,rfl⟩
theorem sub_len{m:Int}(h2:m<=8):(zA (subs m.toNat)).length<=256:=by
 rw[(jr _).length_eq,kH];exact ph (by lia)
noncomputable def hz(m:Int)(ts:List (Int×Int))(s:List Int):Bool:=(rng m).all λa=>!(mk m ts s a).isEmpty
noncomputable def hl(m:Int)(ts:List (Int×Int)):List (List Int):=(zA (subs m.toNat)).filter (hz m ts)
theorem vH{p:Pr}(B:Web p)(O:Nbr p)(ha:p.fns "all_some" = some zM)(hf:p.fns "all_holding" = some jY){k:Nat}{m:Int}{ts:List (Int×Int)}(h:GW m ts):qe p (k+6) "all_holding" [wb m ts]=.ok (.lst ((hl m ts).map tu)):=by
 have h1:=h.lo;have h2:=h.hi;rw[qg hf];refine qV (τ:=[some (wb m ts),none]) rfl rfl ?_;have e0:=hoods B O (k:=k) h;have hc:evE ⟨qe p (k+5),p.glb,p.sub,p.cat⟩ (.comp (.seq (.call "all_some" (.cons (.var 0) .nil))) [none,none,some 1] (.nm 1) (.cmp .notin (.tup .nil) (.call "marks_of" (.cons (.var 2) (.cons (.var 1) .nil)))) (.var 1)) [some (wb m ts),some (.tup ((rng m).map λa=>tu (hd m ts a)))]=.ok (.lst ((hl m ts).map tu)):=by
  refine jS (f:=tu) (c:=[some (.tup ((rng m).map λa=>tu (hd m ts a)))]) (hz m ts) tu (iF ?_) ?_ rfl ?_
  ·simp[KG.Z,ke ha (k:=k+4) (t:=.tup (ts.map prD)) h1 h2]
  ·have:=sub_len h2;simp[SZ];lia
  ·intro s hs;obtain⟨n,hn,rfl⟩:=lP h1 h2 hs;have e1:=marks_of O (k:=k+3) (rng m) (hd m ts) (bs m n) (r9 h2 n).len (by rw[zr];lia);have e2:=y0 (rng m) (λa=>(bs m n).filter λx=>(hd m ts a).any λt=>t==x);refine⟨?_,λ_=>rfl⟩;rw[eK];have a1:evE ⟨qe p (k+5),p.glb,p.sub,p.cat⟩ (.call "marks_of" (.cons (.var 2) (.cons (.var 1) .nil))) [none,some (tu (bs m n)),some (.tup ((rng m).map λa=>tu (hd m ts a)))]=.ok (.lst ((rng m).map λa=>tu ((bs m n).filter λx=>(hd m ts a).any λt=>t==x))):=by
    rw[qD];show qe p (k+5) "marks_of" [.tup ((rng m).map λa=>tu (hd m ts a)),tu (bs m n)]=_;exact e1
   have a0:evE ⟨qe p (k+5),p.glb,p.sub,p.cat⟩ (.tup .nil) [none,some (tu (bs m n)),some (.tup ((rng m).map λa=>tu (hd m ts a)))]=.ok (.tup []):=by simp[KG.Z]
   rw[a1,a0];simp only[R.bind_ok];rw[e2]
   rfl
 show qm _ (.cons (.set (.nm 1) (.call "hoods" (.cons (.var 0) .nil))) (.cons (.ret _) .nil)) _=_;refine zL (σ:=[some (wb m ts),some (.tup ((rng m).map λa=>tu (hd m ts a)))]) (by simp[KG.Z,e0]) ?_;rw[qm,zQ,hc]
 rfl
theorem CL{p:Pr}(B:Base p)(O:rT p)(hf:p.fns "all_holding" = some jY){k:Nat}{m:Int}{ts:List (Int×Int)}(h:GW m ts):qe p (k+6) "all_holding" [wb m ts]=.ok (.lst ((hl m ts).map tu)):=vH B.toWeb O.toNbr B.all_some hf h
structure Fw(p:Pr):Prop where
 all_some:p.fns "all_some" = some zM
 CL:p.fns "all_holding" = some jY
 all_fewest:p.fns "all_fewest" = some BU
 first_fewest:p.fns "first_fewest" = some Cs
 fewest:p.fns "fewest" = some Au
structure Sp(p:Pr):Prop where
 spare:p.fns "spare" = some vS
 spare_by:p.fns "spare_by" = some sZ
noncomputable def ow(m:Int)(ts:List (Int×Int))(s:List Int)(x:Int):List Int:=(rng m).filter λa=>decide (mk m ts s a=[x])
noncomputable def sp(m:Int)(ts:List (Int×Int))(s:List Int):List Int:=s.filter λx=>decide (ow m ts s x=[])
theorem oC(l:List Int)(f:Int->List Int)(z:List Int):qi .notin (tu z) (.lst (l.map λa=>tu (f a)))=.ok (decide (l.filter (λa=>decide (f a=z))=[])):=by
 have h:(l.map λa=>tu (f a)).all D.asks=true:=by
  simp only[cy,aP];rintro x ⟨a,_,rfl⟩;exact gn _
 simp only[qi,seq?,gn,h,Bool.and_self,if_true]
 congr 1
 rw[inD,List.any_map];have e:∀a,((λy=>y.eqv (tu z))∘λa=>tu (f a)) a=decide (f a=z):=λa=>by
  show D.eqv (.tup ((f a).map D.int)) (.tup (z.map D.int))=_;rw[D.eqv,kT]
 rw[show (l.any ((λy=>y.eqv (tu z))∘λa=>tu (f a)))=l.any λa=>decide (f a=z)from by congr 1;funext a;exact e a]
 induction l with
 |nil=>rfl
 |cons a r ih=>
  by_cases q:f a=z
  ·simp[dj,q]
  ·simp only[List.any_cons,dj,q,decide_false,Bool.false_or,a_,if_false];refine ih ?_;simp only[cy,aP];rintro x ⟨a,_,rfl⟩;exact gn _
section
variable{p:Pr}(B:Web p)(O:Nbr p)(S:fL p)
include B O S
end
noncomputable def lsm(L:List (List Int)):Int:=match L.map (λs=>(s.length:Int))with
 | []=>0
 |x::r=>dq false x r
noncomputable def few(L:List (List Int)):List (List Int):=L.filter λs=>decide ((s.length:Int)=lsm L)
theorem vU(i:Int)(r:List Int):dq false i r∈i::r:=by
 induction r generalizing i with
 |nil=>simp[dq]
 |cons j r ih=>
  rw[dq];have:=ih (if j<i then j else i);simp only[a_,if_false];rcases aF.mp this with e|e
  ·rw[e];split<;>simp
  ·exact aM _ (aM _ e)
theorem oV{L:List (List Int)}(h:L≠[]):∃s r,few L=s::r/\(s.length:Int)=lsm L:=by
 obtain⟨a,r,rfl⟩:∃a r,L=a::r:=by cases L with|nil=>exact absurd rfl h|cons a r=>exact⟨a,r,rfl⟩
 have hm:lsm (a::r)∈(a::r).map λs=>(s.length:Int):=by
  rw[lsm,aQ];exact vU _ _
 obtain⟨s,hs,e⟩:=aP.mp hm;have:s∈few (a::r):=bP.mpr ⟨hs,by simpa using e⟩;cases q:few (a::r)with
 |nil=>rw[q]at this;cases this
 |cons t u=>
  have ht:t∈few (a::r):=by rw[q];exact aO
  exact⟨t,u,rfl,by simpa using (bP.mp ht).2⟩
section
variable{w:W}{τ:Env}{L:List (List Int)}
end
theorem hZ:∀(j:Nat) (s:List Int),s.Pairwise (· < ·)->(∀i∈s,0<=i/\i<(j:Int))->s∈subs j
 | 0,s,_,h=>by
  cases s with
  |nil=>simp[subs]
  |cons a r=>have:=h a aO;lia
 |j+1,s,hp,h=>by
  rw[subs,List.mem_append,aP];rcases List.eq_nil_or_concat s with rfl|⟨t,x,rfl⟩
  ·exact .inl (hZ j [] .nil (by simp))
  ·rw[List.concat_eq_append]at *;have hp':=List.pairwise_append.mp hp;have hx:=h x (by simp);by_cases e:x=(j:Int)
   ·subst e;exact .inr ⟨t,hZ j t hp'.1 λi hi=>⟨(h i (by simp[hi])).1,hp'.2.2 i hi _ (by simp)⟩,rfl⟩
   ·refine .inl (hZ j _ hp λi hi=>⟨(h i hi).1,?_⟩);rcases List.mem_append.mp hi with hi|hi
    ·have:=hp'.2.2 i hi x (by simp);lia
    ·rw[List.mem_singleton.mp hi];lia
theorem mw{p x:List Int}:∀{l:List (List Int)},x∈dt p l↔x=p\/x∈l
 | []=>by simp[dt]
 |q::r=>by
  rw[dt];split
  ·rw[aF,mw,aF];constructor
   ·rintro(h|h|h)
    ·exact .inr (.inl h)
    ·exact .inl h
    ·exact .inr (.inr h)
   ·rintro(h|h|h)
    ·exact .inr (.inl h)
    ·exact .inl h
    ·exact .inr (.inr h)
  ·simp
theorem lz{x:List Int}:∀{l:List (List Int)},x∈zA l↔x∈l
 | []=>by simp[zA]
 |q::r=>by rw[zA,mw,lz,aF]
theorem DJ{m:Int}(h1:1<=m){s:List Int}(g:GS m s):s∈zA (subs m.toNat):=lz.mpr (hZ _ s g.lt λi hi=>by have:=g.ok i hi;lia)
section
variable(m:Int)(ts:List (Int×Int))
noncomputable def grow:Nat->List Int->List Int
 | 0,s=>s
 |n+1,s=>match un m ts s with
  | []=>s
  |a::_=>grow n (sortI (s++[a]))
noncomputable def fr(h:List Int)(a:Int):Bool:=decide (((hd m ts a).filter λx=>h.any λt=>t==x)=[])
end
section
variable{m:Int}{ts:List (Int×Int)}
end
noncomputable def both(s:List Int)(t:Int×Int):Bool:=(s.any λx=>x==t.1)&&(s.any λx=>x==t.2)
theorem yq{w:W}{it:It}{cap:List (Option Nat)}{t:T}{elt:E}{τ c:Env}{l:List (Int×Int)}(q:Int×Int->Bool)(g:Int×Int->D)(h:evI w it τ=.ok (l.map prD))(hz:l.length<=SZ)(hc:zW cap τ=none::none::none::c)
  (hb:∀x∈l,evT w t (none::some (.int x.1)::some (.int x.2)::c)=.ok (q x)/\evE w elt (none::some (.int x.1)::some (.int x.2)::c)=.ok (g x)):evE w (.comp it cap (.tp [1,2]) t elt) τ=.ok (.lst ((l.filter q).map g)):=by
 have e:=comp2 (g:=λd=>match d with | .tup [.int a,.int b]=>(if q (a,b)then [g (a,b)]else [])|_=>[]) h (by simpa using hz) hc (t:=t) (elt:=elt) λx hx=>by
  obtain⟨y,hy,rfl⟩:=aP.mp hx;refine⟨.int y.1,.int y.2,rfl,?_⟩;rw[(hb y hy).1];simp only[R.bind_ok];cases z:q y with
  |true=>rw[if_pos rfl,(hb y hy).2];simp[prD,pairD,z]
  |false=>simp[prD,pairD,z]
 rw[e]
 congr 2
 clear e h hz hb
 induction l with
 |nil=>rfl
 |cons x r ih=>
  rw[aQ,bX,ih,dj];cases z:q x<;>simp[prD,pairD,z]
noncomputable def ls(L:List (List Int)):Int:=match L.map (λs=>(s.length:Int))with
 | []=>0
 |x::r=>dq true x r
noncomputable def gr(L:List (List Int)):List (List Int):=L.filter λs=>decide ((s.length:Int)=ls L)
theorem pO:∀L:List (List Int),lens? (L.map tu)=some (L.map λs=>(s.length:Int))
 | []=>rfl
 |s::r=>by
  show (seq? (tu s)).bind (λxs=>(lens? (r.map tu)).map ((xs.length:Int) :: ·))=_;rw[pO r];show some (((s.map D.int).length:Int)::_)=_;rw[aR];rfl
theorem sj(n:Int):∀(L:List (List Int)) {s:List Int}{r:List (List Int)},(L.filter λs=>decide ((s.length:Int)=n))=s::r->pickK n (L.map tu) (L.map λs=>(s.length:Int))=.ok (tu s)
 | [],_,_,h=>by cases h
 |t::L,s,r,h=>by
  rw[aQ,aQ,pickK];rw[dj]at h;by_cases e:(t.length:Int)=n
  ·rw[if_pos e];rw[if_pos (by simpa using e)]at h;cases h;rfl
  ·rw[if_neg e];rw[if_neg (by simpa using e)]at h;exact sj n L h
section
variable{m:Int}{ts:List (Int×Int)}
end
theorem Dc{p:Pr}(hf:p.fns "_law_same" = some zN){k:Nat}(L:List (List Int)):qe p (k+3) "_law_same" [.lst (L.map tu),.lst (L.map tu)]=.ok (.bl true):=by
 rw[qg hf];have i1:cF ⟨qe p (k+2),p.glb,p.sub,p.cat⟩ (.lst (L.map tu)) (.ty "list")=.ok (.bl true):=rfl;have i2:cF ⟨qe p (k+2),p.glb,p.sub,p.cat⟩ (.lst (L.map tu)) (.ty "bool")=.ok (.bl false):=rfl;have i3:cF ⟨qe p (k+2),p.glb,p.sub,p.cat⟩ (.lst (L.map tu)) (.ty "int")=.ok (.bl false):=rfl;have i4:cF ⟨qe p (k+2),p.glb,p.sub,p.cat⟩ (.lst (L.map tu)) (.ty "str")=.ok (.bl false):=rfl;have i5:cF ⟨qe p (k+2),p.glb,p.sub,p.cat⟩ (.lst (L.map tu)) (.ty "tuple")=.ok (.bl false):=rfl;refine qV (τ:=[some (.lst (L.map tu)),some (.lst (L.map tu)),none,none]) rfl rfl ?_;refine zL (σ:=[some (.lst (L.map tu)),some (.lst (L.map tu)),none,none]) (by simp[KG.Z,fK,cZ]) ?_;refine zL (σ:=[some (.lst (L.map tu)),some (.lst (L.map tu)),none,none]) (by simp[KG.Z,i1,i2,i3,i4,i5]) ?_;refine zL (σ:=[some (.lst (L.map tu)),some (.lst (L.map tu)),none,none]) (by simp[KG.Z,i1,i2,i3,i4,i5]) ?_;refine zL (σ:=[some (.lst (L.map tu)),some (.lst (L.map tu)),none,none]) (by simp[KG.Z,i1,i2,i3,i4,i5]) ?_;refine zL (σ:=[some (.lst (L.map tu)),some (.lst (L.map tu)),none,none]) (by simp[KG.Z,g9,i1,i2,i3,i4,i5]) ?_;refine zL (σ:=[some (.lst (L.map tu)),some (.lst (L.map tu)),none,none]) (by simp[KG.Z,ne_int,b1,seq?]) ?_;refine kF (ds:=ck (L.map tu) (L.map tu)) (λr σ=>∃(M:List (List Int)) (v u:Option D),r=ck (M.map tu) (M.map tu)/\σ=[some (.lst (L.map tu)),some (.lst (L.map tu)),v,u]) (by simp[KG.Z,i1,i2,i3,i4,i5]) ⟨L,none,none,rfl,rfl⟩ ?_ ?_
 ·rintro x t σ ⟨M,v,u,e,rfl⟩;cases M with
  |nil=>cases e
  |cons y M=>
   rw[aQ,ck]at e;injection e with e1 e2
   subst e1 e2;have q:=same_ints hf (k:=k) y;refine⟨[some (.lst (L.map tu)),some (.lst (L.map tu)),some (tu y),some (tu y)],[some (.lst (L.map tu)),some (.lst (L.map tu)),some (tu y),some (tu y)],by simp[KG.Z],?_,M,_,_,rfl,rfl⟩;generalize tu y=TY at *;generalize L.map tu=LT at *;simp[KG.Z,q]
 ·rintro σ ⟨M,v,u,e,rfl⟩;simp[KG.Z]
theorem oj{m a b:Int}:(a,b)∈PR m↔0<=a/\a<b/\b<m:=by
 rw[PR,List.mem_flatMap];constructor
 ·rintro⟨x,hx,h⟩;obtain⟨y,hy,e⟩:=aP.mp h;cases e;have:=cU.mp hx;have:=kv.mp hy;lia
 ·intro h;exact⟨a,cU.mpr (by lia),aP.mpr ⟨b,kv.mpr (by lia),rfl⟩⟩
theorem pY{m:Int}{f:Int->List Int}:al m f=[]↔∀a b,0<=a->a<b->b<m->f a≠f b:=by
 rw[al,List.filter_eq_nil_iff];constructor
 ·intro h a b h1 h2 h3 e;exact h (a,b) (oj.mpr ⟨h1,h2,h3⟩) (by simpa using e)
 ·rintro h ⟨a,b⟩ ht e;obtain⟨h1,h2,h3⟩:=oj.mp ht;exact h a b h1 h2 h3 (by simpa using e)
theorem mem_mk{m:Int}{ts:List (Int×Int)}{s:List Int}{a x:Int}:x∈mk m ts s a↔x∈s/\x∈hd m ts a:=by
 rw[mk,bP,List.any_eq_true];refine and_congr_right λ_=>⟨?_,λh=>⟨x,h,by simp⟩⟩
 rintro⟨y,hy,e⟩;rw[eq_of_beq e]at hy;exact hy
theorem xV(m:Int)(ts:List (Int×Int)):mk m ts (rng m)=hd m ts:=by
 funext a;rw[mk];have:∀x∈rng m,((hd m ts a).any λt=>t==x)=(x==a||fG ts a x):=λx hx=>by
  rw[Bool.eq_iff_iff,List.any_eq_true];constructor
  ·rintro⟨y,hy,e⟩;rw[eq_of_beq e]at hy;exact(bP.mp hy).2
  ·intro h;exact⟨x,bP.mpr ⟨hx,h⟩,by simp⟩
 rw[List.filter_congr this];rfl
theorem Av{m:Int}{ts:List (Int×Int)}{a:Int}(h0:0<=a)(h:a<m):a∈hd m ts a:=bP.mpr ⟨cU.mpr ⟨h0,h⟩,by simp⟩
noncomputable def tl(m:Int)(ts:List (Int×Int))(s:List Int):Bool:=decide ((rng m).filter (λa=>decide (mk m ts s a=[]))=[])&&decide (al m (mk m ts s)=[])
theorem mV{m:Int}{ts:List (Int×Int)}{s:List Int}:tl m ts s=true↔(∀a,0<=a->a<m->mk m ts s a≠[])/\∀a b,0<=a->a<b->b<m->mk m ts s a≠mk m ts s b:=by
 rw[tl,aU,decide_eq_true_eq,decide_eq_true_eq,pY,List.filter_eq_nil_iff];refine and_congr_left λ_=>⟨λh a h0 h1 e=>h a (cU.mpr ⟨h0,h1⟩) (by simpa using e),λh a ha e=>?_⟩
 obtain⟨h0,h1⟩:=cU.mp ha;exact h a h0 h1 (by simpa using e)
theorem sW{m:Int}{ts:List (Int×Int)}{s s':List Int}(sub:∀x∈s,x∈s'){a b:Int}(e:mk m ts s' a=mk m ts s' b):mk m ts s a=mk m ts s b:=by
 have key:∀c x,((hd m ts c).any λt=>t==x)=true↔x∈hd m ts c:=λc x=>by
  rw[List.any_eq_true];exact⟨λ⟨y,hy,z⟩=>by rw[eq_of_beq z]at hy;exact hy,λh=>⟨x,h,by simp⟩⟩
 rw[mk,mk];refine List.filter_congr λx hx=>?_
 rw[Bool.eq_iff_iff,key,key];have h1:=mem_mk (m:=m) (ts:=ts) (s:=s') (a:=a) (x:=x);have h2:=mem_mk (m:=m) (ts:=ts) (s:=s') (a:=b) (x:=x);rw[e]at h1;exact⟨λz=>(h2.mp (h1.mpr ⟨sub x hx,z⟩)).2,λz=>(h1.mp (h2.mpr ⟨sub x hx,z⟩)).2⟩
theorem vC{m:Int}{ts:List (Int×Int)}{s s':List Int}(sub:∀x∈s,x∈s')(h:tl m ts s=true):tl m ts s'=true:=by
 rw[mV]at h ⊢;refine⟨λa h0 h1 e=>?_,λa b h0 h1 h2 e=>h.2 a b h0 h1 h2 (sW sub e)⟩;have:=h.1 a h0 h1;cases q:mk m ts s a with
 |nil=>exact this q
 |cons x r=>
  have hx:x∈mk m ts s a:=by rw[q];simp
  have:=mem_mk.mpr ⟨sub x (mem_mk.mp hx).1,(mem_mk.mp hx).2⟩;rw[e]at this;cases this
theorem nN(m:Int)(ts:List (Int×Int)):tl m ts (rng m)=decide (al m (hd m ts)=[]):=by
 rw[tl,xV];have:(rng m).filter (λa=>decide (hd m ts a=[]))=[]:=by
  rw[List.filter_eq_nil_iff];intro a ha e;obtain⟨h0,h1⟩:=cU.mp ha;have:=Av (ts:=ts) h0 h1;rw[of_decide_eq_true e]at this;cases this
 rw[decide_eq_true this,Bool.true_and]
theorem lZ{m:Int}{ts:List (Int×Int)}{s:List Int}(h:al m (hd m ts)≠[]):tl m ts s=false:=by
 cases q:tl m ts s with
 |false=>rfl
 |true=>
  refine absurd (pY.mpr λa b h0 h1 h2 e=>?_) h;refine(mV.mp q).2 a b h0 h1 h2 ?_;rw[mk,mk,e]
noncomputable def iS(b:Bool):Fn:={jR with fr:=b}
theorem so{p:Pr}{b:Bool}(hf:p.fns "pairs_alike" = some (iS b)){k:Nat}{m:Int}(h1:1<=m)(h2:m<=8)(f:Int->List Int){TT:D}(el:b1 .len [TT]=.ok (.int m))(at1:∀a:Int,0<=a->a<m->ixD TT (.int a)=.ok (tu (f a))):qe p (k+1) "pairs_alike" [TT]=.ok (.lst ((al m f).map prD)):=by
 rw[qg hf];refine qV (τ:=[some TT,none]) rfl rfl ?_;refine zL (σ:=[some TT,some (.int m)]) (by simp[KG.Z,el]) ?_;have hm:qu m=true:=by simp[qu];lia
 have hc:evE (wAt p k) (.comp2 (.rng (.var 1)) [none,none,none,some 1,some 0] (.nm 1) (.rng2 (.op .add (.var 1) (.con (.int 1))) (.var 3)) (.nm 2) (.cmp .eq (.ix (.var 4) (.var 1)) (.ix (.var 4) (.var 2))) (.tup (.cons (.var 1) (.cons (.var 2) .nil)))) [some TT,some (.int m)]=.ok (.lst ((al m f).map prD)):=by
  have he:((rng m).map D.int).flatMap (λx=>match x with | .int a=>(((rg2 (a+1) m).map λb=>(a,b)).filter λt=>decide (f a=f t.2)).map prD|_=>[])=(al m f).map prD:=by
   rw[al,PR,List.filter_flatMap,List.map_flatMap,List.flatMap_map]
   congr 1
   funext a;show List.map prD _=List.map prD _
   congr 1
   refine List.filter_congr λt ht=>?_
   obtain⟨b,_,rfl⟩:=aP.mp ht
   rfl
  rw[<-he];refine Be (c:=[some (.int m),some TT]) (by rw[<-zq];simp[KG.Z,hm]) (by rw[aR,zr];lia) rfl ?_;intro x hx;obtain⟨a,ha,rfl⟩:=aP.mp hx;obtain⟨a0,am⟩:=cU.mp ha;refine⟨(rg2 (a+1) m).map D.int,λy=>match y with | .int b=>if decide (f a=f b)then [prD (a,b)]else []|_=>[],λv=>?_,by rw[aR,rg2,aR,List.length_range];lia,λy hy=>?_,AX a (λb=>decide (f a=f b)) _⟩
  ·have s1:qu (a+1)=true:=by simp[qu];lia
   have z:op2 .add (.int a) (.int 1)=.ok (.int (a+1)):=rfl;rw[<-yp];generalize a+1=A1 at *;simp[KG.Z,z,s1,hm]
  ·obtain⟨b,hb,rfl⟩:=aP.mp hy;obtain⟨b0,bm⟩:=kv.mp hb;have i1:=at1 a a0 am;have i2:=at1 b (by lia) bm;have i3:=m_ (f a) (f b);have i4:prD (a,b)=.tup [.int a,.int b]:=rfl;generalize tu (f a)=FA at *;generalize tu (f b)=FB at *;simp only[i4];generalize decide (f a=f b)=q at *;cases q<;>simp[KG.Z,i1,i2,i3]
 show qm (wAt p k) (.cons (.ret _) .nil) _=_;rw[qm,zQ,hc];rfl
theorem wx{p:Pr}{b:Bool}(hf:p.fns "pairs_alike" = some (iS b)){k:Nat}{m:Int}(h1:1<=m)(h2:m<=8)(f:Int->List Int):qe p (k+1) "pairs_alike" [.lst ((rng m).map λa=>tu (f a))]=.ok (.lst ((al m f).map prD)):=by
 refine so hf h1 h2 f ?_ λa h0 h=>?_
 ·rw[BQ,aR,zr];congr 2;lia
 ·have:=oZ (m:=m) f h0 h false
  simpa only[a_,if_false]using this
theorem l8{p:Pr}{b:Bool}(hf:p.fns "pairs_alike" = some (iS b)){k:Nat}{m:Int}(h1:1<=m)(h2:m<=8)(f:Int->List Int):qe p (k+1) "pairs_alike" [.tup ((rng m).map λa=>tu (f a))]=.ok (.lst ((al m f).map prD)):=by
 refine so hf h1 h2 f ?_ λa h0 h=>?_
 ·rw[pU,aR,zr];congr 2;lia
 ·have:=oZ (m:=m) f h0 h true
  simpa only[if_true]using this
theorem j6(ts:List (Int×Int)):(D.lst (ts.map prD)).asks=true:=by
 have a:plainAll (ts.map prD)=true:=by
  induction ts with
  |nil=>rfl
  |cons t r ih=>rw[aQ,plainAll,ih];rfl
 have b:dU (ts.map prD)<=1:=by
  clear a
  induction ts with
  |nil=>simp[dU]
  |cons t r ih=>rw[aQ,dU];show max 1 _<=1;lia
 rw[D.asks,D.plain,a,D.deep];simp;lia
noncomputable def iO:Fn:=⟨2,2,false,(.cons (.exp (.call "need_web" (.cons (.var 0) .nil))) (.cons (.ret (.and (.call "is_some" (.cons (.var 0) (.cons (.var 1) .nil))) (.call "are_told" (.cons (.call "marks_of" (.cons (.call "hoods" (.cons (.var 0) .nil)) (.cons (.var 1) .nil))) .nil)))) .nil))⟩
noncomputable def jm:Fn:=⟨1,1,false,(.cons (.ret (.and (.cmp .notin (.tup .nil) (.var 0)) (.cmp .eq (.call "pairs_alike" (.cons (.var 0) .nil)) (.lst .nil)))) .nil)⟩
structure jH(p:Pr)(b:Bool):Prop where
 pairs_alike:p.fns "pairs_alike" = some (iS b)
 are_told:p.fns "are_told" = some jm
theorem lQ(ts:List (Int×Int)):qi .eq (.lst (ts.map prD)) (.lst [])=.ok (decide (ts=[])):=by
 have a0:(D.lst []).asks=true:=rfl;rw[qi,j6,a0];simp only[Bool.and_self,if_true,D.eqv];cases ts<;>rfl
theorem o3(ts:List (Int×Int)):qi .ne (.lst (ts.map prD)) (.lst [])=.ok (!decide (ts=[])):=by
 have a0:(D.lst []).asks=true:=rfl;rw[qi,j6,a0];simp only[Bool.and_self,if_true,D.eqv];cases ts<;>rfl
section
variable{p:Pr}{b:Bool}(T:jH p b){m:Int}{ts:List (Int×Int)}(h:GW m ts)
include T h
theorem are_told{k:Nat}(f:Int->List Int):qe p (k+2) "are_told" [.lst ((rng m).map λa=>tu (f a))]=.ok (.bl (decide ((rng m).filter (λa=>decide (f a=[]))=[])&&decide (al m f=[]))):=by
 have e1:=oC (rng m) f [];have z:tu []=.tup []:=rfl;rw[z]at e1;have e2:=wx T.pairs_alike (k:=k) h.lo h.hi f;have e3:=lQ (al m f);generalize D.lst ((rng m).map λa=>tu (f a))=RW at *;generalize D.lst ((al m f).map prD)=AL at *;generalize decide (al m f=[])=q at *;generalize hq:decide ((rng m).filter (λa=>decide (f a=[]))=[])=q' at *;cases q'<;>(rw[qg T.are_told];refine qV rfl rfl ?_;simp[KG.Z,jm,e1,e2,e3])
theorem xJ(B:Web p)(O:Nbr p)(S:ja p)(hf:p.fns "tells_apart" = some iO){k:Nat}{s:List Int}(g:GS m s):qe p (k+7) "tells_apart" [wb m ts,tu s]=.ok (.bl (tl m ts s)):=by
 have h2:=h.hi;have e0:=hoods B O (k:=k+1) h;have e1:=need_web B (k:=k+2) h;have e2:qe p (k+6) "is_some" [wb m ts,tu s]=.ok (.bl true):=is_some B S (k:=k+2) (t:=.tup (ts.map prD)) g;have e3:qe p (k+6) "marks_of" [.tup ((rng m).map λa=>tu (hd m ts a)),tu s]=.ok (.lst ((rng m).map λa=>tu (mk m ts s a))):=marks_of O (k:=k+4) (rng m) (hd m ts) s g.len (by rw[zr];lia);have e4:=are_told T h (k:=k+4) (mk m ts s);change qe p (k+6) "are_told" [.lst ((rng m).map λa=>tu (mk m ts s a))]=.ok (.bl (tl m ts s))at e4;generalize (D.tup ((rng m).map λa=>tu (hd m ts a)))=U at *;generalize D.lst ((rng m).map λa=>tu (mk m ts s a))=M at *;generalize tl m ts s=T at *;generalize wb m ts=WB at *;generalize tu s=TS at *;rw[qg hf];refine qV rfl rfl ?_;simp[KG.Z,iO,e0,e1,e2,e3,e4]
end
theorem nu{m:Int}(h1:1<=m)(h2:m<=8){s:List Int}(hs:s∈zA (subs m.toNat)):GS m s:=by
 obtain⟨n,_,rfl⟩:=lP h1 h2 hs;exact r9 h2 n
noncomputable def tls(m:Int)(ts:List (Int×Int)):List (List Int):=(zA (subs m.toNat)).filter (tl m ts)
theorem nA{m:Int}(h1:1<=m)(h2:m<=8):GS m (rng m):=⟨gR m,λi hi=>cU.mp hi,by rw[zr];lia⟩
theorem oo{m:Int}{ts:List (Int×Int)}(h:GW m ts):tls m ts=[]↔al m (hd m ts)≠[]:=by
 constructor
 ·intro e q;have:rng m∈tls m ts:=bP.mpr ⟨DJ h.lo (nA h.lo h.hi),by rw[nN,decide_eq_true q]⟩;rw[e]at this;cases this
 ·intro q;rw[tls,List.filter_eq_nil_iff];intro s _ e;rw[lZ q]at e;cases e
theorem wt{L:List (List Int)}{s:List Int}{r:List (List Int)}(h:few L=s::r):fo false (.lst (L.map tu))=.ok (tu s):=by
 simp only[fo,cY];rw[pO];simp only[cm];cases L with
 |nil=>cases h
 |cons a L=>
  have:=sj (lsm (a::L)) (a::L) h;rw[<-this];rfl
theorem xA{L:List (List Int)}:gx (.lst (L.map tu))=.ok (match few L with | []=>.non|s::_=>tu s):=by
 cases L with
 |nil=>rfl
 |cons a L=>
  obtain⟨s,r,e,_⟩:=oV (L:=a::L) (by simp);rw[e,<-wt e];rfl
noncomputable def ftD(m:Int)(ts:List (Int×Int)):D:=match few (tls m ts)with
 | []=>.non
 |s::_=>tu s
theorem lU{m:Int}{ts:List (Int×Int)}(h:GW m ts):cZ (ftD m ts) = !decide (al m (hd m ts)=[]):=by
 by_cases q:al m (hd m ts)=[]
 ·rw[decide_eq_true q];have:tls m ts≠[]:=λz=>(oo h).mp z q
  obtain⟨s,r,e,_⟩:=oV this;rw[ftD,e];rfl
 ·rw[decide_eq_false q,ftD,(oo h).mpr q];rfl
noncomputable def flD(m:Int)(ts:List (Int×Int)):D:=match few (tls m ts)with
 | []=>.non
 |s::_=>.int s.length
theorem yL{m:Int}{ts:List (Int×Int)}:cZ (flD m ts)=cZ (ftD m ts):=by
 rw[ftD,flD];cases few (tls m ts)<;>rfl
noncomputable def jn:Fn:=⟨1,3,false,(.cons (.set (.nm 1) (.call "hoods" (.cons (.var 0) .nil))) (.cons (.set (.nm 2) (.comp (.seq (.call "all_some" (.cons (.var 0) .nil))) [none,none,some 1] (.nm 1) (.val (.call "are_told" (.cons (.call "marks_of" (.cons (.var 2) (.cons (.var 1) .nil))) .nil))) (.var 1))) (.cons (.ret (.mxd (.var 2))) .nil)))⟩
noncomputable def zG:Fn:=⟨1,2,false,(.cons (.set (.nm 1) (.call "first_telling" (.cons (.var 0) .nil))) (.cons (.ret (.ite (.cmp .is (.var 1) (.con .non)) (.con .non) (.bi .len (.cons (.var 1) .nil)))) .nil))⟩
section
variable{p:Pr}{b:Bool}(T:jH p b)(B:Web p)(O:Nbr p)(ha:p.fns "all_some" = some zM)(hf:p.fns "first_telling" = some jn){m:Int}{ts:List (Int×Int)}(h:GW m ts)
include T B O ha hf h
theorem o6{k:Nat}:qe p (k+6) "first_telling" [wb m ts]=.ok (ftD m ts):=by
 have h1:=h.lo;have h2:=h.hi;have e0:=hoods B O (k:=k) h;rw[qg hf];refine qV (τ:=[some (wb m ts),none,none]) rfl rfl ?_;refine zL (σ:=[some (wb m ts),some (.tup ((rng m).map λa=>tu (hd m ts a))),none]) (by
  generalize (D.tup ((rng m).map λa=>tu (hd m ts a)))=U at *;generalize wb m ts=WB at *;simp[KG.Z,e0]) ?_
 have hc:evE (wAt p (k+5)) (.comp (.seq (.call "all_some" (.cons (.var 0) .nil))) [none,none,some 1] (.nm 1) (.val (.call "are_told" (.cons (.call "marks_of" (.cons (.var 2) (.cons (.var 1) .nil))) .nil))) (.var 1)) [some (wb m ts),some (.tup ((rng m).map λa=>tu (hd m ts a))),none]=.ok (.lst ((tls m ts).map tu)):=by
  refine jS (f:=tu) (c:=[some (.tup ((rng m).map λa=>tu (hd m ts a)))]) (tl m ts) tu (iF ?_) ?_ rfl ?_
  ·have e:=ke ha (k:=k+4) (t:=.tup (ts.map prD)) h1 h2;change qe p (k+5) "all_some" [wb m ts]=_ at e;generalize (D.tup ((rng m).map λa=>tu (hd m ts a)))=U at *;generalize wb m ts=WB at *;simp[KG.Z,e]
  ·have:=sub_len h2;simp[SZ];lia
  ·intro s hs;refine⟨?_,λ_=>rfl⟩;have g:=nu h1 h2 hs;have e3:qe p (k+5) "marks_of" [.tup ((rng m).map λa=>tu (hd m ts a)),tu s]=.ok (.lst ((rng m).map λa=>tu (mk m ts s a))):=marks_of O (k:=k+3) (rng m) (hd m ts) s g.len (by rw[zr];lia);have e4:=are_told T h (k:=k+3) (mk m ts s);change qe p (k+5) "are_told" [.lst ((rng m).map λa=>tu (mk m ts s a))]=.ok (.bl (tl m ts s))at e4;generalize (D.tup ((rng m).map λa=>tu (hd m ts a)))=U at *;generalize D.lst ((rng m).map λa=>tu (mk m ts s a))=M at *;generalize tl m ts s=T at *;generalize tu s=TS at *;simp[KG.Z,e3,e4]
 have e5:=xA (L:=tls m ts);change gx _=.ok (ftD m ts)at e5;generalize D.lst ((tls m ts).map tu)=LL at *;generalize (D.tup ((rng m).map λa=>tu (hd m ts a)))=U at *;generalize ftD m ts=F at *;refine zL (σ:=[some (wb m ts),some U,some LL]) (by rw[cN,hc];rfl) ?_;show qm _ (.cons (.ret (.mxd (.var 2))) .nil) _=_;rw[qm,zQ,qI];rw[show evE ⟨qe p (k+5),p.glb,p.sub,p.cat⟩ (.var 2) [some (wb m ts),some U,some LL]=.ok LL from rfl,R.bind_ok,e5];rfl
theorem BC(hg:p.fns "fewest_telling" = some zG){k:Nat}:qe p (k+7) "fewest_telling" [wb m ts]=.ok (flD m ts):=by
 have e:=o6 T B O ha hf h (k:=k);rw[ftD]at e;rw[flD];rw[qg hg];refine qV (τ:=[some (wb m ts),none]) rfl rfl ?_;cases q:few (tls m ts)with
 |nil=>
  rw[q]at e;have e:qe p (k+6) "first_telling" [wb m ts]=.ok .non:=e;have z:qi .is .non .non=.ok true:=rfl;generalize wb m ts=WB at *;simp[KG.Z,zG,e,z,qx]
 |cons s r=>
  rw[q]at e;have e:qe p (k+6) "first_telling" [wb m ts]=.ok (tu s):=e;have z:qi .is (tu s) .non=.ok false:=rfl;have z2:b1 .len [tu s]=.ok (.int s.length):=by rw[tu,pU,aR]
  generalize wb m ts=WB at *;generalize tu s=TS at *;simp[KG.Z,zG,e,z,z2,qx]
end
end KG
namespace K62
open EV KG
open PySem (Str)
open L2 (atI ixN ltP)
noncomputable def depth:Nat:=11
theorem B:Web p:=⟨by kernel_rfl,by kernel_rfl,by kernel_rfl,by kernel_rfl,by kernel_rfl,by kernel_rfl,by kernel_rfl,by kernel_rfl⟩
theorem S:fL p:=⟨by kernel_rfl,by kernel_rfl,by kernel_rfl⟩
theorem O:Nbr p:=⟨by kernel_rfl,by kernel_rfl,by kernel_rfl,by kernel_rfl,by kernel_rfl⟩
theorem LW:Lw p:=⟨by kernel_rfl,by kernel_rfl,by kernel_rfl,by kernel_rfl⟩
theorem Te:jH p true:=⟨by kernel_rfl,by kernel_rfl⟩
theorem hLH:p.fns "_law_hood" = some KG.gp:=by kernel_rfl
theorem hTF:p.fns "_law_twin_free" = some KG.iU:=by kernel_rfl
theorem hTA:p.fns "tells_apart" = some KG.iO:=by kernel_rfl
theorem hAS:p.fns "all_some" = some KG.zM:=by kernel_rfl
theorem hFT:p.fns "first_telling" = some KG.jn:=by kernel_rfl
theorem hFL:p.fns "fewest_telling" = some KG.zG:=by kernel_rfl
theorem hSm:p.fns "_law_same" = some KG.zN:=by kernel_rfl
theorem hPr:p.fns "_law_pairs" = some KG.zJ:=by kernel_rfl
noncomputable def more(s:List Int)(x:Int):List Int:=sortI (uq (s++[x]))
theorem rO{s:List Int}{x y:Int}:y∈more s x↔y∈s\/y=x:=by
 rw[more,(sortI_perm _).mem_iff,ig];simp
theorem uy{m:Int}(h1:1<=m)(h2:m<=8){s:List Int}(g:GS m s){x:Int}(hx:0<=x/\x<m):GS m (more s x):=by
 have lt:(more s x).Pairwise (· < ·):=nL (jg _);have ok:∀i∈more s x,0<=i/\i<m:=λi hi=>by
  rcases rO.mp hi with z|rfl
  ·exact g.ok i z
  ·exact hx
 exact nu h1 h2 (lz.mpr (hZ _ _ lt λi hi=>by have:=ok i hi;lia))
theorem v9(xs:List Int)(hz:xs.length<64):iz false (tu xs)=.ok (.lst ((sortI (uq xs)).map D.int)):=by
 have e:ints? (xs.map D.int)=some xs:=by
  induction xs with
  |nil=>rfl
  |cons a r ih=>rw[aQ,ints?,ih (by simp at hz;lia)];rfl
 simp only[iz,tu,one?,cm];rw[if_pos (by simpa using hz),e]
 rfl
theorem vY{k:Nat}{m:Int}{ts:List (Int×Int)}(h:GW m ts):qe p (k+6) "twins" [wb m ts]=.ok (.lst ((al m (hd m ts)).map prD)):=by
 have e0:=hoods B O (k:=k) h;have e1:=l8 Te.pairs_alike (k:=k+4) h.lo h.hi (hd m ts);generalize (D.tup ((rng m).map λa=>tu (hd m ts a)))=U at *;generalize D.lst ((al m (hd m ts)).map prD)=AL at *;generalize wb m ts=WB at *;rw[qg B8];refine qV rfl rfl ?_;simp[KG.Z,kC,e0,e1]
theorem Cm{k:Nat}{m:Int}{ts:List (Int×Int)}(h:GW m ts):qe p (k+3) "_law_twins" [wb m ts]=.ok (.lst ((al m (hd m ts)).map prD)):=by
 have hx:ixD (wb m ts) (.int 0)=.ok (.int m):=rfl;have hP:=vv hPr (k:=k+1) m h.lo h.hi;obtain⟨hl,hok⟩:=mE m h.lo h.hi;have hc:evE (wAt p (k+2)) (.comp (.seq (.call "_law_pairs" (.cons (.ix (.var 0) (.con (.int 0))) .nil))) [none,none,none,some 0] (.tp [1,2]) (.cmp .eq (.call "_law_hood" (.cons (.var 3) (.cons (.var 1) .nil))) (.call "_law_hood" (.cons (.var 3) (.cons (.var 2) .nil)))) (.tup (.cons (.var 1) (.cons (.var 2) .nil)))) [some (wb m ts)]=.ok (.lst ((al m (hd m ts)).map prD)):=by
  refine yq (c:=[some (wb m ts)]) (λt=>decide (hd m ts t.1=hd m ts t.2)) prD (iF ?_) (by simp[SZ];lia) rfl λt ht=>⟨?_,rfl⟩
  ·generalize wb m ts=WB at *;simp[KG.Z,hx,hP]
  ·obtain⟨t0,t1,t2⟩:=hok t ht;have i1:=o9 hLH (k:=k+1) h (a:=t.1) ⟨t0,by lia⟩;have i2:=o9 hLH (k:=k+1) h (a:=t.2) ⟨by lia,t2⟩;have i3:=m_ (hd m ts t.1) (hd m ts t.2);generalize tu (hd m ts t.1)=FA at *;generalize tu (hd m ts t.2)=FB at *;generalize decide (hd m ts t.1=hd m ts t.2)=q at *;generalize wb m ts=WB at *;simp[KG.Z,i1,i2,i3]
 rw[qg xa];refine qV (τ:=[some (wb m ts)]) rfl rfl ?_;show qm (wAt p (k+2)) (.cons (.ret _) .nil) _=_;rw[qm,zQ,hc];rfl
theorem wC{k:Nat}(l:List (Int×Int)):qe p (k+3) "_law_same" [.lst (l.map prD),.lst (l.map prD)]=.ok (.bl true):=by
 have e:l.map prD=(l.map λt=>[t.1,t.2]).map tu:=by rw[cg];rfl
 rw[e];exact Dc hSm _
abbrev mks(m:Int)(ts:List (Int×Int))(s:List Int):List D:=(rng m).map λa=>tu (mk m ts s a)
theorem marks{k:Nat}{m:Int}{ts:List (Int×Int)}(h:GW m ts){s:List Int}(g:GS m s):qe p (k+6) "marks" [wb m ts,tu s]=.ok (.tup (mks m ts s)):=by
 have h2:=h.hi;have e0:=hoods B O (k:=k) h;have e1:=need_web B (k:=k+1) h;have e2:qe p (k+5) "need_some" [wb m ts,tu s]=.ok .non:=need_some B S (k:=k) (t:=.tup (ts.map prD)) g;have e3:qe p (k+5) "marks_of" [.tup ((rng m).map λa=>tu (hd m ts a)),tu s]=.ok (.lst (mks m ts s)):=marks_of O (k:=k+3) (rng m) (hd m ts) s g.len (by rw[zr];lia);generalize (D.tup ((rng m).map λa=>tu (hd m ts a)))=U at *;generalize mks m ts s=M at *;generalize wb m ts=WB at *;generalize tu s=TS at *;rw[qg Dn];refine qV rfl rfl ?_;simp[KG.Z,kG,e0,e1,e2,e3,b1,seq?]
noncomputable def eW:List (Int×Int)->D
 | []=>.non
 |t::_=>prD t
theorem ug{k:Nat}{m:Int}{ts:List (Int×Int)}(h:GW m ts){s:List Int}(g:GS m s):qe p (k+7) "first_alike" [wb m ts,tu s]=.ok (eW (al m (mk m ts s))):=by
 have e1:=marks (k:=k) h g;have e2:qe p (k+6) "pairs_alike" [.tup (mks m ts s)]=.ok (.lst ((al m (mk m ts s)).map prD)):=l8 Te.pairs_alike (k:=k+5) h.lo h.hi (mk m ts s);generalize D.tup (mks m ts s)=M at *;generalize wb m ts=WB at *;generalize tu s=TS at *;cases q:al m (mk m ts s)with
 |nil=>
  rw[q]at e2;have e2:qe p (k+6) "pairs_alike" [M]=.ok (.lst []):=e2;rw[qg sC];refine qV rfl rfl ?_;simp[KG.Z,jW,e1,e2,qx,eW]
 |cons t r=>
  rw[q]at e2;have e3:=ix0 prD t r;rw[aQ]at e2 e3;have e4:truth (.lst (prD t::r.map prD))=.ok true:=rfl;have e5:eW (t::r)=prD t:=rfl;rw[e5];generalize D.lst (prD t::r.map prD)=LL at *;generalize prD t=PT at *;rw[qg sC];refine qV (τ:=[some WB,some TS,none]) rfl rfl ?_;refine zL (σ:=[some WB,some TS,some LL]) (by simp[KG.Z,e1,e2]) ?_;show qm _ (.cons (.ret (.ite (.val (.var 2)) (.ix (.var 2) (.con (.int 0))) (.con .non))) .nil) _=_;rw[qm,zQ,qx,eG,qY,zF];simp only[List.getElem?_cons_succ,List.getElem?_cons_zero,R.bind_ok,e4,if_true];rw[qB,qY,zb,zF];simp only[List.getElem?_cons_succ,List.getElem?_cons_zero,R.bind_ok,e3,R.out_ok]
theorem yK(l:List (Int×Int)):cZ (eW l)=decide (l=[]):=by cases l<;>rfl
theorem DW(l:List Int)(f:Int->List Int):qi .notin (.tup []) (.tup (l.map λa=>tu (f a)))=.ok (decide (l.filter (λa=>decide (f a=[]))=[])):=by
 have h:=oC l f [];have z:tu []=.tup []:=rfl;rw[z]at h;exact h
theorem ne_self(l:List (Int×Int)):qi .ne (.lst (l.map prD)) (.lst (l.map prD))=.ok false:=by
 have e:∀l:List (Int×Int),eqvAll (l.map prD) (l.map prD)=true:=λl=>by
  induction l with
  |nil=>rfl
  |cons t r ih=>rw[aQ,eqvAll,ih];simp[prD,pairD,D.eqv,eqvAll]
 rw[qi,j6];simp only[Bool.and_self,if_true,D.eqv,e]
 rfl
abbrev LS(ns:List Int)(v1 v2 v3 v4 v5 v6 v7 v8:Option D):Env:=[some (.lst (ns.map D.int)),v1,v2,v3,v4,v5,v6,v7,v8]
section
variable{w:W}{ns:List Int}{c M:Int}{ts:List (Int×Int)}(m1:1<=M)(m2:M<=8)(g:GW M ts)(hst:∀c j:Int,w.call "_law_stir" [.int c,.int j]=.ok (.int (st c j)))
  (hs:∀m c:Int,1<=m->m<=8->∃s,GS m s/\w.call "_law_some_by" [.int m,.int c]=.ok (tu s))
  (hta:∀m ts s,GW m ts->GS m s->w.call "tells_apart" [wb m ts,tu s]=.ok (.bl (tl m ts s)))
  (hfa:∀m ts s,GW m ts->GS m s->w.call "first_alike" [wb m ts,tu s]=.ok (eW (al m (mk m ts s))))
  (hmk:∀m ts s,GW m ts->GS m s->w.call "marks" [wb m ts,tu s]=.ok (.tup (mks m ts s)))
include m1 m2 g hst hs hta hfa hmk
theorem CO{v4 v7 v8:Option D}{t:Int}{Q:D->Prop}:Ends (λσ=>∃v7 v8,σ=LS ns (some (.int c)) (some (.int M)) (some (wb M ts)) v4 (some (.lst ((al M (hd M ts)).map prD))) (some (.int t)) v7 v8) Q (qm w (.cons (.set (.nm 7) (.call "_law_some_by" (.cons (.var 2) (.cons (.call "_law_stir" (.cons (.var 1) (.cons (.var 6) .nil))) .nil)))) (.cons (.ite (.cmp .ne (.call "tells_apart" (.cons (.var 3) (.cons (.var 7) .nil))) (.and (.cmp .is (.call "first_alike" (.cons (.var 3) (.cons (.var 7) .nil))) (.con .non)) (.cmp .notin (.tup .nil) (.call "marks" (.cons (.var 3) (.cons (.var 7) .nil)))))) (.cons (.ret (.con (.bl false))) .nil) .nil) (.cons (.set (.nm 8) (.bi .tuple (.cons (.sset false (.op .add (.var 7) (.tup (.cons (.op .mod (.call "_law_stir" (.cons (.var 1) (.cons (.op .add (.con (.int 9)) (.var 6)) .nil))) (.var 2)) .nil)))) .nil))) (.cons (.ite (.and (.val (.call "tells_apart" (.cons (.var 3) (.cons (.var 7) .nil)))) (.or (.cmp .ne (.var 5) (.lst .nil)) (.not (.val (.call "tells_apart" (.cons (.var 3) (.cons (.var 8) .nil))))))) (.cons (.ret (.con (.bl false))) .nil) .nil) .nil)))) (LS ns (some (.int c)) (some (.int M)) (some (wb M ts)) v4 (some (.lst ((al M (hd M ts)).map prD))) (some (.int t)) v7 v8)):=by
 obtain⟨s,gs,es⟩:=hs M (st c t) m1 m2;have q1:=hta M ts s g gs;have q2:=hfa M ts s g gs;have q3:=hmk M ts s g gs;have hx:0<=st c (9+t)%M/\st c (9+t)%M<M:=⟨Int.emod_nonneg _ (by lia),Int.emod_lt_of_pos _ (by lia)⟩
 have gm:=uy m1 m2 gs hx;have q4:=hta M ts (more s (st c (9+t)%M)) g gm;have q5:=DW (rng M) (mk M ts s);have q6:=fK (eW (al M (mk M ts s)));rw[yK]at q6;have q7:=o3 (al M (hd M ts));have q8:=g9 (tl M ts s) (tl M ts s);rw[decide_eq_true rfl]at q8;have ql:=gs.len;have q9:op2 .add (tu s) (.tup [.int (st c (9+t)%M)])=.ok (tu (s++[st c (9+t)%M])):=by
  rw[BG _ _ (by simp[SZ];lia)];simp
 have qa:=v9 (s++[st c (9+t)%M]) (by simp;lia);have qb:b1 .tuple [.lst ((sortI (uq (s++[st c (9+t)%M]))).map D.int)]=.ok (tu (more s (st c (9+t)%M))):=rfl;have qc:op2 .mod (.int (st c (9+t))) (.int M)=.ok (.int (st c (9+t)%M)):=by
  show (if 0<M then R.ok (D.int (st c (9+t)%M))else .no)=_;rw[if_pos (by lia)]
 have qd:op2 .add (.int 9) (.int t)=.ok (.int (9+t)):=rfl;have hst2:=hst c (9+t);have tm:tl M ts s=true->tl M ts (more s (st c (9+t)%M))=true:=vC λx hx=>rO.mpr (.inl hx)
 have tt:tl M ts s=true->al M (hd M ts)=[]:=λz=>by
  by_cases q:al M (hd M ts)=[]
  ·exact q
  ·rw[lZ q]at z;cases z
 have te:tl M ts s=(decide ((rng M).filter (λa=>decide (mk M ts s a=[]))=[])&&decide (al M (mk M ts s)=[])):=rfl;generalize tl M ts (more s (st c (9+t)%M))=T2 at *;generalize tu (more s (st c (9+t)%M))=TM at *;generalize D.lst ((sortI (uq (s++[st c (9+t)%M]))).map D.int)=LM at *;generalize tu (s++[st c (9+t)%M])=TA at *;generalize eW (al M (mk M ts s))=FA at *;generalize D.tup (mks M ts s)=MK at *;generalize D.lst ((al M (hd M ts)).map prD)=AL at *;generalize wb M ts=WB at *;generalize tu s=TS at *;generalize st c (9+t)%M=X1 at *;generalize st c (9+t)=X2 at *;generalize tl M ts s=T1 at *;generalize decide (al M (mk M ts s)=[])=A1 at *;generalize decide ((rng M).filter (λa=>decide (mk M ts s a=[]))=[])=A2 at *;refine zH (σ:=LS ns (some (.int c)) (some (.int M)) (some WB) v4 (some AL) (some (.int t)) (some TS) v8) (by simp[KG.Z,hst,es]) ?_;refine zH (σ:=LS ns (some (.int c)) (some (.int M)) (some WB) v4 (some AL) (some (.int t)) (some TS) v8) (by
  subst te;cases A1<;>cases A2<;>first|(simp at q8)|skip
  all_goals simp[KG.Z,q1,q2,q3,q5,q6,q8]) ?_
 refine zH (σ:=LS ns (some (.int c)) (some (.int M)) (some WB) v4 (some AL) (some (.int t)) (some TS) (some TM)) (by simp[KG.Z,hst2,qd,qc,q9,qa,qb,qO]) ?_;refine zH (σ:=LS ns (some (.int c)) (some (.int M)) (some WB) v4 (some AL) (some (.int t)) (some TS) (some TM)) (by
  cases T1 with
  |false=>simp[KG.Z,q1]
  |true=>
   have z1:=tm rfl;have z2:=tt rfl;rw[z1]at q4;rw[decide_eq_true z2]at q7;simp[KG.Z,q1,q4,q7]) (iq ⟨_,_,rfl⟩)
theorem xp(htw:∀m ts,GW m ts->w.call "twins" [wb m ts]=.ok (.lst ((al m (hd m ts)).map prD)))(hlt:∀m ts,GW m ts->w.call "_law_twins" [wb m ts]=.ok (.lst ((al m (hd m ts)).map prD)))
  (hsm:∀l:List (Int×Int),w.call "_law_same" [.lst (l.map prD),.lst (l.map prD)]=.ok (.bl true)) (hft:∀m ts,GW m ts->w.call "first_telling" [wb m ts]=.ok (ftD m ts)) (hfl:∀m ts,GW m ts->w.call "fewest_telling" [wb m ts]=.ok (flD m ts))
  (v4 v5 v6 v7 v8:Option D) {Q:D->Prop}:Ends (λσ=>∃v4 v5 v6 v7 v8,σ=LS ns (some (.int c)) (some (.int M)) (some (wb M ts)) v4 v5 v6 v7 v8) Q (qm w (.cons (.set (.nm 4) (.call "twins" (.cons (.var 3) .nil))) (.cons (.set (.nm 5) (.call "_law_twins" (.cons (.var 3) .nil))) (.cons (.ite (.or (.not (.val (.callo "_law_same" (.cons (.own 4) (.cons (.var 5) .nil))))) (.cmp .ne (.call "tells_apart" (.cons (.var 3) (.cons (.rtup (.rng (.var 2))) .nil))) (.cmp .eq (.var 5) (.lst .nil)))) (.cons (.ret (.con (.bl false))) .nil) .nil) (.cons (.app 4 (.tup (.cons (.con (.int 0)) (.cons (.con (.int 0)) .nil)))) (.cons (.ite (.or (.cmp .ne (.call "twins" (.cons (.var 3) .nil)) (.var 5)) (.cmp .ne (.cmp .is (.call "first_telling" (.cons (.var 3) .nil)) (.con .non)) (.cmp .ne (.var 5) (.lst .nil)))) (.cons (.ret (.con (.bl false))) .nil) .nil) (.cons (.ite (.cmp .ne (.cmp .is (.call "fewest_telling" (.cons (.var 3) .nil)) (.con .non)) (.cmp .ne (.var 5) (.lst .nil))) (.cons (.ret (.con (.bl false))) .nil) .nil) (.cons (.for (.nm 6) (.rng (.con (.int 5))) (.cons (.set (.nm 7) (.call "_law_some_by" (.cons (.var 2) (.cons (.call "_law_stir" (.cons (.var 1) (.cons (.var 6) .nil))) .nil)))) (.cons (.ite (.cmp .ne (.call "tells_apart" (.cons (.var 3) (.cons (.var 7) .nil))) (.and (.cmp .is (.call "first_alike" (.cons (.var 3) (.cons (.var 7) .nil))) (.con .non)) (.cmp .notin (.tup .nil) (.call "marks" (.cons (.var 3) (.cons (.var 7) .nil)))))) (.cons (.ret (.con (.bl false))) .nil) .nil) (.cons (.set (.nm 8) (.bi .tuple (.cons (.sset false (.op .add (.var 7) (.tup (.cons (.op .mod (.call "_law_stir" (.cons (.var 1) (.cons (.op .add (.con (.int 9)) (.var 6)) .nil))) (.var 2)) .nil)))) .nil))) (.cons (.ite (.and (.val (.call "tells_apart" (.cons (.var 3) (.cons (.var 7) .nil)))) (.or (.cmp .ne (.var 5) (.lst .nil)) (.not (.val (.call "tells_apart" (.cons (.var 3) (.cons (.var 8) .nil))))))) (.cons (.ret (.con (.bl false))) .nil) .nil) .nil))))) .nil))))))) (LS ns (some (.int c)) (some (.int M)) (some (wb M ts)) v4 v5 v6 v7 v8)):=by
 have gr:=nA m1 m2;have q0:=htw M ts g;have q1:=hlt M ts g;have q2:=hsm (al M (hd M ts));have q3:=hta M ts (rng M) g gr;rw[nN]at q3;have q4:=hft M ts g;have q5:=hfl M ts g;have q6:=lQ (al M (hd M ts));have q7:=o3 (al M (hd M ts));have q8:=ne_self (al M (hd M ts));have q9:=g9 (decide (al M (hd M ts)=[])) (decide (al M (hd M ts)=[]));rw[decide_eq_true rfl]at q9;have qa:=fK (ftD M ts);rw[lU g]at qa;have qb:=fK (flD M ts);rw[yL,lU g]at qb;have qc:=g9 (!decide (al M (hd M ts)=[])) (!decide (al M (hd M ts)=[]));rw[decide_eq_true rfl]at qc;have hm:qu M=true:=by simp[qu];lia
 have qr:evE w (.rtup (.rng (.var 2))) (LS ns (some (.int c)) (some (.int M)) (some (wb M ts)) (some (.lst ((al M (hd M ts)).map prD))) (some (.lst ((al M (hd M ts)).map prD))) v6 v7 v8)=.ok (tu (rng M)):=by
  show ((evI w (.rng (.var 2)) _).bind _)=_;rw[show evI w (.rng (.var 2)) (LS ns (some (.int c)) (some (.int M)) (some (wb M ts)) (some (.lst ((al M (hd M ts)).map prD))) (some (.lst ((al M (hd M ts)).map prD))) v6 v7 v8)=.ok (zt 0 M.toNat)from by
   show (if qu M then R.ok (zt 0 M.toNat)else .no)=_;rw[hm];rfl]
  rw[zq];rfl
 have turn:=@CO w ns c M ts m1 m2 g hst hs hta hfa hmk;have hz:((al M (hd M ts)).map prD).length<SZ:=by
  rw[aR];have:=(mE M m1 m2).1;have:(al M (hd M ts)).length<=(PR M).length:=List.length_filter_le _ _;simp[SZ];lia
 refine zH (σ:=LS ns (some (.int c)) (some (.int M)) (some (wb M ts)) (some (.lst ((al M (hd M ts)).map prD))) v5 v6 v7 v8) (by
  generalize D.lst ((al M (hd M ts)).map prD)=AL at *;generalize wb M ts=WB at *;simp[KG.Z,q0]) ?_
 refine zH (σ:=LS ns (some (.int c)) (some (.int M)) (some (wb M ts)) (some (.lst ((al M (hd M ts)).map prD))) (some (.lst ((al M (hd M ts)).map prD))) v6 v7 v8) (by
  generalize D.lst ((al M (hd M ts)).map prD)=AL at *;generalize wb M ts=WB at *;simp[KG.Z,q1]) ?_
 refine zH (σ:=LS ns (some (.int c)) (some (.int M)) (some (wb M ts)) (some (.lst ((al M (hd M ts)).map prD))) (some (.lst ((al M (hd M ts)).map prD))) v6 v7 v8) (by
  dsimp only[LS]at qr ⊢;generalize D.lst ((al M (hd M ts)).map prD)=AL at *;generalize wb M ts=WB at *;generalize tu (rng M)=TR at *;generalize decide (al M (hd M ts)=[])=A at *;generalize hE:(EV.E.rtup (.rng (.var 2)))=EE at *;simp[KG.Z,q2,q3,q6,q9,qr,D.noL,qL]) ?_
 refine zH (σ:=LS ns (some (.int c)) (some (.int M)) (some (wb M ts)) (some (.lst ((al M (hd M ts)).map prD++[.tup [.int 0,.int 0]]))) (some (.lst ((al M (hd M ts)).map prD))) v6 v7 v8) (by
  rw[wH (xs:=(al M (hd M ts)).map prD) (d:=.tup [.int 0,.int 0]) rfl rfl hz];rfl) ?_
 refine zH (σ:=LS ns (some (.int c)) (some (.int M)) (some (wb M ts)) (some (.lst ((al M (hd M ts)).map prD++[.tup [.int 0,.int 0]]))) (some (.lst ((al M (hd M ts)).map prD))) v6 v7 v8) (by
  generalize D.lst ((al M (hd M ts)).map prD++[.tup [.int 0,.int 0]])=AL2 at *;generalize D.lst ((al M (hd M ts)).map prD)=AL at *;generalize wb M ts=WB at *;generalize ftD M ts=FT at *;generalize decide (al M (hd M ts)=[])=A at *;simp[KG.Z,q0,q4,q7,q8,qa,qc]) ?_
 refine zH (σ:=LS ns (some (.int c)) (some (.int M)) (some (wb M ts)) (some (.lst ((al M (hd M ts)).map prD++[.tup [.int 0,.int 0]]))) (some (.lst ((al M (hd M ts)).map prD))) v6 v7 v8) (by
  generalize D.lst ((al M (hd M ts)).map prD++[.tup [.int 0,.int 0]])=AL2 at *;generalize D.lst ((al M (hd M ts)).map prD)=AL at *;generalize wb M ts=WB at *;generalize flD M ts=FL at *;generalize decide (al M (hd M ts)=[])=A at *;simp[KG.Z,q5,q7,qb,qc]) ?_
 generalize some (D.lst ((al M (hd M ts)).map prD++[.tup [.int 0,.int 0]]))=V4 at *;refine gZ (ds:=(rng 5).map D.int) (λr σ=>∃(l:List Int) (v6 v7 v8:Option D),r=l.map D.int/\σ=LS ns (some (.int c)) (some (.int M)) (some (wb M ts)) V4 (some (.lst ((al M (hd M ts)).map prD))) v6 v7 v8) rfl ⟨_,v6,v7,v8,rfl,rfl⟩ ?_ ?_
 ·rintro x r σ ⟨l,u6,u7,u8,e,rfl⟩;obtain⟨t,l,rfl,rfl,rfl⟩:=fx e;refine⟨LS ns (some (.int c)) (some (.int M)) (some (wb M ts)) V4 (some (.lst ((al M (hd M ts)).map prD))) (some (.int t)) u7 u8,rfl,?_⟩;exact nY (turn (v4:=V4) (v7:=u7) (v8:=u8) (t:=t)) λσ ⟨a,b,z⟩=>⟨l,_,a,b,rfl,z⟩
 ·rintro σ ⟨l,u6,u7,u8,e,rfl⟩;exact iq ⟨_,_,_,_,_,rfl⟩
end
theorem Al{w:W}(ns:List Int)(hn:ns.length<=63)(hst:∀c j:Int,w.call "_law_stir" [.int c,.int j]=.ok (.int (st c j)))
  (hw:∀m c:Int,1<=m->m<=8->∃ts,GW m ts/\w.call "_law_web_by" [.int m,.int c]=.ok (wb m ts))
  (hf:∀m c:Int,1<=m->m<=8->∃ts,GW m ts/\w.call "_law_twin_free" [.int m,.int c]=.ok (wb m ts))
  (hs:∀m c:Int,1<=m->m<=8->∃s,GS m s/\w.call "_law_some_by" [.int m,.int c]=.ok (tu s))
  (hta:∀m ts s,GW m ts->GS m s->w.call "tells_apart" [wb m ts,tu s]=.ok (.bl (tl m ts s)))
  (hfa:∀m ts s,GW m ts->GS m s->w.call "first_alike" [wb m ts,tu s]=.ok (eW (al m (mk m ts s))))
  (hmk:∀m ts s,GW m ts->GS m s->w.call "marks" [wb m ts,tu s]=.ok (.tup (mks m ts s)))
  (htw:∀m ts,GW m ts->w.call "twins" [wb m ts]=.ok (.lst ((al m (hd m ts)).map prD))) (hlt:∀m ts,GW m ts->w.call "_law_twins" [wb m ts]=.ok (.lst ((al m (hd m ts)).map prD)))
  (hsm:∀l:List (Int×Int),w.call "_law_same" [.lst (l.map prD),.lst (l.map prD)]=.ok (.bl true)) (hft:∀m ts,GW m ts->w.call "first_telling" [wb m ts]=.ok (ftD m ts)) (hfl:∀m ts,GW m ts->w.call "fewest_telling" [wb m ts]=.ok (flD m ts)) :
  Ends (λ_=>False) (λd=>d=.bl true) (qm w fD.body (LS ns none none none none none none none none)):=by
 obtain⟨cs,hcs,hcl⟩:=wF ns none (some 5);refine gZ (ds:=(cs++[0,3,9]).map D.int) (λr σ=>∃(ms:List Int) (v1 v2 v3 v4 v5 v6 v7 v8:Option D),r=ms.map D.int/\σ=LS ns v1 v2 v3 v4 v5 v6 v7 v8) ?_ ⟨_,none,none,none,none,none,none,none,none,rfl,rfl⟩ ?_ ?_
 ·have e:op2 .add (.lst (cs.map D.int)) (.lst [.int 0,.int 3,.int 9])=.ok (.lst ((cs++[0,3,9]).map D.int)):=by
   rw[op2,if_pos (by simp[SZ];lia)];simp
  simp[KG.Z,slD,hcs,e,seq?]
 ·rintro x t σ ⟨ms,v1,v2,v3,v4,v5,v6,v7,v8,e,rfl⟩;obtain⟨c,ms,rfl,rfl,rfl⟩:=fx e;have m1:1<=1+c/64%8:=by lia
  have m2:1+c/64%8<=8:=by lia
  obtain⟨ts,g,hw'⟩:=hw (1+c/64%8) (c/512) m1 m2;obtain⟨tf,gf,hf'⟩:=hf (1+c/64%8) c m1 m2;refine⟨LS ns (some (.int c)) v2 v3 v4 v5 v6 v7 v8,rfl,?_⟩;refine zH (σ:=LS ns (some (.int c)) (some (.int (1+c/64%8))) v3 v4 v5 v6 v7 v8) (by simp[KG.Z,op2]) ?_;generalize hM:1+c/64%8=M at *;refine gZ (ds:=[ts,tf].map (wb M)) (λr σ=>∃(l:List (List (Int×Int))) (v3 v4 v5 v6 v7 v8:Option D),r=l.map (wb M)/\(∀z∈l,GW M z)/\σ=LS ns (some (.int c)) (some (.int M)) v3 v4 v5 v6 v7 v8) ?_ ⟨[ts,tf],v3,v4,v5,v6,v7,v8,rfl,by
   intro z hz;simp only[aF,bS,or_false]at hz;rcases hz with rfl|rfl<;>assumption,rfl⟩ ?_ ?_
  ·refine iF ?_;have z:op2 .fdiv (.int c) (.int 512)=.ok (.int (c/512)):=rfl;show evE w _ _=.ok (.lst [wb M ts,wb M tf]);dsimp only[LS];generalize wb M ts=W1 at *;generalize wb M tf=W2 at *;simp[KG.Z,z,hw',hf']
  ·rintro x t σ ⟨l,v3,v4,v5,v6,v7,v8,e,hl',rfl⟩;obtain⟨z,l,rfl,rfl,rfl⟩:=fx e;refine⟨LS ns (some (.int c)) (some (.int M)) (some (wb M z)) v4 v5 v6 v7 v8,rfl,?_⟩;have:=xp (w:=w) (ns:=ns) (c:=c) m1 m2 (hl' z aO) hst hs hta hfa hmk htw hlt hsm hft hfl v4 v5 v6 v7 v8 (Q:=λd=>d=.bl true);refine nY this λσ ⟨a,b,d,e,f,q⟩=>⟨l,_,a,b,d,e,f,rfl,λy hy=>hl' y (aM _ hy),q⟩
  ·rintro σ ⟨l,v3,v4,v5,v6,v7,v8,e,hl',rfl⟩;exact iq ⟨ms,_,_,_,_,_,_,_,_,rfl,rfl⟩
 ·rintro σ ⟨ms,v1,v2,v3,v4,v5,v6,v7,v8,e,rfl⟩;exact lN (d:=.bl true) rfl rfl
theorem yz{F:Str->List D->R D}(ns:List Int)(h:Ends (λ_=>False) (λd=>d=.bl true) (qm ⟨F,p.glb,p.sub,p.cat⟩ fD.body (LS ns none none none none none none none none))):cX ⟨F,p.glb,p.sub,p.cat⟩ fD [.lst (ns.map D.int)]=.ok (.bl true):=by
 obtain⟨d,e,rfl⟩:=s_ (w:=⟨F,p.glb,p.sub,p.cat⟩) (f:=fD) (ds:=[.lst (ns.map D.int)]) rfl rfl h;exact e
theorem yj{F:Str->List D->R D}(hF:F=qe p 10)(ns:List Int)(hn:ns.length<=63):cX ⟨F,p.glb,p.sub,p.cat⟩ fD [.lst (ns.map D.int)]=.ok (.bl true):=by
 refine yz ns (Al (w:=⟨F,p.glb,p.sub,p.cat⟩) ns hn ?_ ?_ ?_ ?_ ?_ ?_ ?_ ?_ ?_ ?_ ?_ ?_)<;>rw[hF]
 ·exact λc j=>iL LW._law_stir (k:=9) c j
 ·exact λm c h1 h2=>tH LW (k:=8) m c h1 h2
 ·exact λm c h1 h2=>Ae LW._law_stir hTF (k:=8) m c h1 h2
 ·exact λm c h1 h2=>xh LW (k:=8) m c h1 h2
 ·exact λm ts s g gs=>xJ Te g B O S.a hTA (k:=3) gs
 ·exact λm ts s g gs=>ug (k:=3) g gs
 ·exact λm ts s g gs=>marks (k:=4) g gs
 ·exact λm ts g=>vY (k:=4) g
 ·exact λm ts g=>Cm (k:=7) g
 ·exact λl=>wC (k:=7) l
 ·exact λm ts g=>o6 Te B O hAS hFT g (k:=4)
 ·exact λm ts g=>BC Te B O hAS hFT g hFL (k:=3)
theorem tZ:∀ns:List Int,ns.length<=63->qe p depth "law" [.lst (ns.map D.int)]=.ok (.bl true):=by
 intro ns hn;rw[show depth=10+1 from rfl,qg yn];exact yj rfl ns hn
end K62
namespace K62
open PySem PySem.Spec PyProof.Rows L2 EV
theorem l0:∀e∈tab,cFn G (fC us oth) e.own e.fr e.st=some e.fn:=by
 intro e he;simp only[tab,aF,bS,or_false]at he;rcases he with rfl|rfl|rfl|rfl|rfl|rfl|rfl|rfl|rfl|rfl|rfl|rfl|rfl|rfl|rfl|rfl|rfl|rfl|rfl|rfl|rfl|rfl|rfl|rfl|rfl|rfl|rfl|rfl|rfl|rfl|rfl|rfl|rfl<;>kernel_rfl
theorem Ah:∀e∈us,e∈tab:=by
 intro e he;cases he
theorem B':∀e∈us,mF (eR oth) e.own e.fr e.st=some e.fn:=by
 intro e he;cases he
theorem nd:(tab.map (·.x)).Nodup:=by decide +kernel
section
variable{K:aB}{h:Heap}{mg:Str->Option ae}{f0:Addr}(d0:WB.Dd K "is_whole" (top 5) f0){f1:Addr}(d1:WB.Dd K "is_between" (top 6) f1){f2:Addr}(d2:WB.Dd K "is_pair" (top 7) f2){f3:Addr}(d3:WB.Dd K "rises" (top 8) f3){f4:Addr}(d4:WB.Dd K "is_web" (top 11) f4){f5:Addr}(d5:WB.Dd K "is_tie" (top 12) f5){f6:Addr}(d6:WB.Dd K "need_web" (top 13) f6){f7:Addr}(d7:WB.Dd K "is_place" (top 14) f7){f8:Addr}(d8:WB.Dd K "hoods" (top 15) f8){f9:Addr}(d9:WB.Dd K "hood_of" (top 16) f9){f10:Addr}(d10:WB.Dd K "are_tied" (top 17) f10){f11:Addr}(d11:WB.Dd K "is_some" (top 19) f11){f12:Addr}(d12:WB.Dd K "need_some" (top 20) f12){f13:Addr}(d13:WB.Dd K "mark_of" (top 21) f13){f14:Addr}(d14:WB.Dd K "marks_of" (top 22) f14){f15:Addr}(d15:WB.Dd K "all_some" (top 23) f15){f16:Addr}(d16:WB.Dd K "marks" (top 25) f16){f17:Addr}(d17:WB.Dd K "tells_apart" (top 26) f17){f18:Addr}(d18:WB.Dd K "first_alike" (top 27) f18){f19:Addr}(d19:WB.Dd K "twins" (top 28) f19){f20:Addr}(d20:WB.Dd K "fewest_telling" (top 29) f20){f21:Addr}(d21:WB.Dd K "first_telling" (top 30) f21){f22:Addr}(d22:WB.Dd K "are_told" (top 31) f22){f23:Addr}(d23:WB.Dd K "pairs_alike" (top 32) f23){f24:Addr}(d24:WB.Dd K "_law_pairs" (top 34) f24){f25:Addr}(d25:WB.Dd K "_law_hood" (top 35) f25){f26:Addr}(d26:WB.Dd K "_law_stir" (top 36) f26){f27:Addr}(d27:WB.Dd K "_law_web_by" (top 37) f27){f28:Addr}(d28:WB.Dd K "_law_twin_free" (top 38) f28){f29:Addr}(d29:WB.Dd K "_law_same" (top 39) f29){f30:Addr}(d30:WB.Dd K "_law_some_by" (top 40) f30){f31:Addr}(d31:WB.Dd K "_law_twins" (top 41) f31){f32:Addr}(d32:WB.Dd K "law" (top 42) f32)
include d0 d1 d2 d3 d4 d5 d6 d7 d8 d9 d10 d11 d12 d13 d14 d15 d16 d17 d18 d19 d20 d21 d22 d23 d24 d25 d26 d27 d28 d29 d30 d31 d32
theorem wU:∀e∈tab,gJ K G e:=by
 intro e he;simp only[tab,aF,bS,or_false]at he;rcases he with rfl|rfl|rfl|rfl|rfl|rfl|rfl|rfl|rfl|rfl|rfl|rfl|rfl|rfl|rfl|rfl|rfl|rfl|rfl|rfl|rfl|rfl|rfl|rfl|rfl|rfl|rfl|rfl|rfl|rfl|rfl|rfl|rfl<;>refine⟨⟨_,by assumption⟩,λ_ _ _ _ _ _ us hl=>?_⟩<;>first|(obtain⟨_,rfl⟩:=WB.nQ hl;rfl)|(obtain⟨_,_,rfl⟩:=WB.o5 hl;rfl)|(obtain⟨_,_,_,rfl⟩:=WB.uI hl;rfl)
omit d0 d1 d2 d3 d4 d5 d6 d7 d8 d9 d10 d11 d12 d13 d14 d15 d16 d17 d18 d19 d20 d21 d22 d23 d24 d25 d26 d27 d28 d29 d30 d31 d32
theorem kA{x:Str}{k:GK}(h:oth.lookup x=some k):∃y∈oth,x=y.1/\k=y.2:=by
 generalize oth=l at h ⊢
 induction l with
 |nil=>cases h
 |cons a r ih=>
  rw[bC]at h;split at h
  ·rename_i q;cases h;exact⟨a,aO,eq_of_beq q,rfl⟩
  ·obtain⟨y,h1,h2⟩:=ih h;exact⟨y,aM _ h1,h2⟩
theorem ui{K:aB}{C0:Addr}(k0:aG K aE "NoWeb" = some (some (.ref C0)))(x0:PySem.W.excIn K C0 fM "ValueError.__new__" = true){C1:Addr}(k1:aG K aE "NoPlaces" = some (some (.ref C1)))(x1:PySem.W.excIn K C1 fM "ValueError.__new__" = true){tk0:Tok}(u0:aG K aE "MOST" = some (some (.int 8 tk0)))(z0:aG K aE "len" = some none)(z1:aG K aE "tuple" = some none)(z2:aG K aE "list" = some none)(z3:aG K aE "int" = some none)(z4:aG K aE "bool" = some none)(z5:aG K aE "str" = some none)(z6:aG K aE "set" = some none)(z7:aG K aE "sorted" = some none)(z8:aG K aE "all" = some none)(z9:aG K aE "min" = some none)(z10:aG K aE "max" = some none)(z11:aG K aE "range" = some none)(z12:aG K aE "enumerate" = some none)(z13:aG K aE "zip" = some none)(z14:aG K aE "isinstance" = some none):∀x k,oth.lookup x=some k->oK K vals x k:=by
 intro x k h;obtain⟨y,h1,rfl,rfl⟩:=kA h;simp only[oth,aF,bS,or_false]at h1;rcases h1 with rfl|rfl|rfl|rfl|rfl|rfl|rfl|rfl|rfl|rfl|rfl|rfl|rfl|rfl|rfl|rfl|rfl|rfl
 ·exact⟨_,k0,x0⟩
 ·exact⟨_,k1,x1⟩
 ·exact⟨_,.int 8,.int 8,u0,⟨_,rfl⟩,rfl,λg H _=>.int _⟩
 ·exact⟨z0,rfl,_,rfl⟩
 ·exact⟨z1,by decide +kernel,by simp,by simp[b1N,b1V]⟩
 ·exact⟨z2,by decide +kernel,by simp,by simp[b1N,b1V]⟩
 ·exact⟨z3,by decide +kernel,by simp,by simp[b1N,b1V]⟩
 ·exact⟨z4,by decide +kernel,by simp,by simp[b1N,b1V]⟩
 ·exact⟨z5,by decide +kernel,by simp,by simp⟩
 ·exact⟨z6,by decide +kernel⟩
 ·exact⟨z7,rfl,_,rfl⟩
 ·exact⟨z8,rfl,_,rfl⟩
 ·exact⟨z9,rfl,_,rfl⟩
 ·exact⟨z10,rfl,_,rfl⟩
 ·exact⟨z11,rfl⟩
 ·exact⟨z12,rfl⟩
 ·exact⟨z13,rfl⟩
 ·exact⟨z14,rfl⟩
theorem CY:∀x fr,oth.lookup x≠some (.fn fr):=by
 intro x fr h;obtain⟨y,h1,rfl,h2⟩:=kA h;simp only[oth,aF,bS,or_false]at h1;rcases h1 with rfl|rfl|rfl|rfl|rfl|rfl|rfl|rfl|rfl|rfl|rfl|rfl|rfl|rfl|rfl|rfl|rfl|rfl<;>cases h2
theorem yE:∀x,(oth.lookup x=some .exc\/oth.lookup x=some .exk)->([aN "NoWeb",aN "NoPlaces"]:List Str).contains x=true:=by
 intro x h;rcases h with h|h<;>obtain⟨y,h1,rfl,h2⟩:=kA h<;>simp only[oth,aF,bS,or_false]at h1<;>rcases h1 with rfl|rfl|rfl|rfl|rfl|rfl|rfl|rfl|rfl|rfl|rfl|rfl|rfl|rfl|rfl|rfl|rfl|rfl<;>first|(cases h2;done)|decide +kernel
theorem xO{K:aB}{C0:Addr}(k0:aG K aE "NoWeb" = some (some (.ref C0))){C1:Addr}(k1:aG K aE "NoPlaces" = some (some (.ref C1)))  : ∀y∈cM,∃C D,aG K aE y.1=some (some (.ref C))/\aG K aE y.2=some (some (.ref D))/\PySem.W.exmOne K (.ref C) (.ref D)=some true:=by
 intro y h1;simp only[cM,aF,bS,or_false]at h1
 skip
theorem w9{K:aB}{C0:Addr}(k0:aG K aE "NoWeb" = some (some (.ref C0))){C1:Addr}(k1:aG K aE "NoPlaces" = some (some (.ref C1)))  : ∀y∈subs,oq K [aN "NoWeb",aN "NoPlaces"] y:=by
 intro y h1;cases h1
include d0 d1 d2 d3 d4 d5 d6 d7 d8 d9 d10 d11 d12 d13 d14 d15 d16 d17 d18 d19 d20 d21 d22 d23 d24 d25 d26 d27 d28 d29 d30 d31 d32
theorem all_mk(X:K.In h)(N:h.Ns aE mg){C0:Addr}(k0:aG K aE "NoWeb" = some (some (.ref C0)))(x0:PySem.W.excIn K C0 fM "ValueError.__new__" = true){C1:Addr}(k1:aG K aE "NoPlaces" = some (some (.ref C1)))(x1:PySem.W.excIn K C1 fM "ValueError.__new__" = true){tk0:Tok}(u0:aG K aE "MOST" = some (some (.int 8 tk0)))(z0:aG K aE "len" = some none)(z1:aG K aE "tuple" = some none)(z2:aG K aE "list" = some none)(z3:aG K aE "int" = some none)(z4:aG K aE "bool" = some none)(z5:aG K aE "str" = some none)(z6:aG K aE "set" = some none)(z7:aG K aE "sorted" = some none)(z8:aG K aE "all" = some none)(z9:aG K aE "min" = some none)(z10:aG K aE "max" = some none)(z11:aG K aE "range" = some none)(z12:aG K aE "enumerate" = some none)(z13:aG K aE "zip" = some none)(z14:aG K aE "isinstance" = some none)   : Ground p (gOf K (tab.map (·.x)) [aN "NoWeb",aN "NoPlaces"]) G (fC us oth) (eR oth) mg/\gJ K G fT:=
 have A:=wU d0 d1 d2 d3 d4 d5 d6 d7 d8 d9 d10 d11 d12 d13 d14 d15 d16 d17 d18 d19 d20 d21 d22 d23 d24 d25 d26 d27 d28 d29 d30 d31 d32
 ⟨u5 X N rfl nd (ui k0 x0 k1 x1 u0 z0 z1 z2 z3 z4 z5 z6 z7 z8 z9 z10 z11 z12 z13 z14) CY Ah B' l0 A _ (xO k0 k1) yE (w9 k0 k1 ),A fT (by simp[tab])⟩
end
theorem walk{l:PySem.W.OpenLaw}{q:aC}{loose:List Str}{XP:(Str->Option ae)->Heap->Prop}{YP:av->Heap->Prop}{d:DefRec}{K:Params->aB}(hn:l.most=some 63)(hdf:d.params.defaults=[])(hd:d.name = "law")(hY:∀(w:av) (h:Heap),YP w h->(K w.params).In h)
  (hG:∀(w:av) (mg:Str->Option ae) (h:Heap),(K w.params).In h->h.Ns aE mg->Ground p (gOf (K w.params) (tab.map (·.x)) [aN "NoWeb",aN "NoPlaces"]) G (fC us oth) (eR oth) mg/\gJ (K w.params) G fT):PySem.W.WalkO q loose XP YP l.row.toRowW d [] (λf vs=>PySem.call f vs):=
 Ce (e:=fT) (k:=depth) hn hdf hd ⟨rfl,by decide,by decide⟩ hY (by simp[tab]) nd rfl rfl (by kernel_rfl) hG (l0 fT (by simp[tab])) tZ
end K62
end
open PySem PySem.W PyProof.Rows
namespace PySem.W.Fast
def tw12521260891358387312:Nat:=0
theorem te12521260891358387312:tw12521260891358387312=0:=rfl
def tw582885717733758691:Nat:=0
theorem te582885717733758691:tw582885717733758691=0:=rfl
def tw17887441680984659129:Nat:=0
theorem te17887441680984659129:tw17887441680984659129=0:=rfl
def tw8050712066466688727:Nat:=0
theorem te8050712066466688727:tw8050712066466688727=0:=rfl
def tw5321353652231382023:Nat:=0
theorem te5321353652231382023:tw5321353652231382023=0:=rfl
def tw5418087388449040108:Nat:=0
theorem te5418087388449040108:tw5418087388449040108=0:=rfl
def tw1707434088739326443:Nat:=0
theorem te1707434088739326443:tw1707434088739326443=0:=rfl
def tw1203261039883654065:Nat:=0
theorem te1203261039883654065:tw1203261039883654065=0:=rfl
def tw6091143542693658615:Nat:=0
theorem te6091143542693658615:tw6091143542693658615=0:=rfl
def tw8934984835907744021:Nat:=0
theorem te8934984835907744021:tw8934984835907744021=0:=rfl
def tw8252095282717002092:Nat:=0
theorem te8252095282717002092:tw8252095282717002092=0:=rfl
def tw12766010787353019606:Nat:=0
theorem te12766010787353019606:tw12766010787353019606=0:=rfl
def tw9048943566105396127:Nat:=0
theorem te9048943566105396127:tw9048943566105396127=0:=rfl
def tw9043828634367511967:Nat:=0
theorem te9043828634367511967:tw9043828634367511967=0:=rfl
def tw13870445524940637230:Nat:=0
theorem te13870445524940637230:tw13870445524940637230=0:=rfl
def tw15077660942912069498:Nat:=0
theorem te15077660942912069498:tw15077660942912069498=0:=rfl
def tw9747358559894265817:Nat:=0
theorem te9747358559894265817:tw9747358559894265817=0:=rfl
def tw10655274052588779613:Nat:=0
theorem te10655274052588779613:tw10655274052588779613=0:=rfl
def tw4187122085849653934:Nat:=0
theorem te4187122085849653934:tw4187122085849653934=0:=rfl
def tw3089097154747502017:Nat:=0
theorem te3089097154747502017:tw3089097154747502017=0:=rfl
def tw11025726418170892504:Nat:=0
theorem te11025726418170892504:tw11025726418170892504=0:=rfl
def tw15488129709638473896:Nat:=0
theorem te15488129709638473896:tw15488129709638473896=0:=rfl
def tw9175451484201064492:Nat:=0
theorem te9175451484201064492:tw9175451484201064492=0:=rfl
def tw13019364469765089957:Nat:=0
theorem te13019364469765089957:tw13019364469765089957=0:=rfl
def tw5363105705958488806:Nat:=0
theorem te5363105705958488806:tw5363105705958488806=0:=rfl
def tw1133180280714242392:Nat:=0
theorem te1133180280714242392:tw1133180280714242392=0:=rfl
def tw2445303501432504004:Nat:=0
theorem te2445303501432504004:tw2445303501432504004=0:=rfl
def tw13793708917874752576:Nat:=0
theorem te13793708917874752576:tw13793708917874752576=0:=rfl
def tw11627247807659202734:Nat:=0
theorem te11627247807659202734:tw11627247807659202734=0:=rfl
def tw5242144231091772233:Nat:=0
theorem te5242144231091772233:tw5242144231091772233=0:=rfl
def tw13329489609812340461:Nat:=0
theorem te13329489609812340461:tw13329489609812340461=0:=rfl
def tw15296434629244534618:Nat:=0
theorem te15296434629244534618:tw15296434629244534618=0:=rfl
def tw16566119254797035630:Nat:=0
theorem te16566119254797035630:tw16566119254797035630=0:=rfl
def tw13750446416158710980:Nat:=0
theorem te13750446416158710980:tw13750446416158710980=0:=rfl
def tw6889719085880849921:Nat:=0
theorem te6889719085880849921:tw6889719085880849921=0:=rfl
def tw2953786758841540391:Nat:=0
theorem te2953786758841540391:tw2953786758841540391=0:=rfl
def tw9992938210012557651:Nat:=0
theorem te9992938210012557651:tw9992938210012557651=0:=rfl
def tw12028759645825087075:Nat:=0
theorem te12028759645825087075:tw12028759645825087075=0:=rfl
def tw14929755469981942067:Nat:=0
theorem te14929755469981942067:tw14929755469981942067=0:=rfl
def tw3923031244339868359:Nat:=0
theorem te3923031244339868359:tw3923031244339868359=0:=rfl
def tw17133900243813267179:Nat:=0
theorem te17133900243813267179:tw17133900243813267179=0:=rfl
def tw6969226483187304403:Nat:=0
theorem te6969226483187304403:tw6969226483187304403=0:=rfl
def tw2264849686148919338:Nat:=0
theorem te2264849686148919338:tw2264849686148919338=0:=rfl
def tw962560529614570176:Nat:=0
theorem te962560529614570176:tw962560529614570176=0:=rfl
def tw109188700682447797:Nat:=0
theorem te109188700682447797:tw109188700682447797=0:=rfl
def tw16113290590579768740:Nat:=0
theorem te16113290590579768740:tw16113290590579768740=0:=rfl
def tw9154062153307899225:Nat:=0
theorem te9154062153307899225:tw9154062153307899225=0:=rfl
def tw8886586331184141159:Nat:=0
theorem te8886586331184141159:tw8886586331184141159=0:=rfl
def tw17016421453757328855:Nat:=0
theorem te17016421453757328855:tw17016421453757328855=0:=rfl
def tw5367749864985074270:Nat:=0
theorem te5367749864985074270:tw5367749864985074270=0:=rfl
def tw11493288458833250661:Nat:=0
theorem te11493288458833250661:tw11493288458833250661=0:=rfl
def tw4787282867057465156:Nat:=0
theorem te4787282867057465156:tw4787282867057465156=0:=rfl
def tw771205515271693788:Nat:=0
theorem te771205515271693788:tw771205515271693788=0:=rfl
def tw11752974331677108399:Nat:=0
theorem te11752974331677108399:tw11752974331677108399=0:=rfl
def tw1226489583220146341:Nat:=0
theorem te1226489583220146341:tw1226489583220146341=0:=rfl
def tw17955192297032421463:Nat:=0
theorem te17955192297032421463:tw17955192297032421463=0:=rfl
def tw7437943331359564182:Nat:=0
theorem te7437943331359564182:tw7437943331359564182=0:=rfl
def tw2872500073751256179:Nat:=0
theorem te2872500073751256179:tw2872500073751256179=0:=rfl
def tw13781888622622837320:Nat:=0
theorem te13781888622622837320:tw13781888622622837320=0:=rfl
def tw8968273215665340808:Nat:=0
theorem te8968273215665340808:tw8968273215665340808=0:=rfl
def tw3391375866445954446:Nat:=0
theorem te3391375866445954446:tw3391375866445954446=0:=rfl
def tw6387669144897115680:Nat:=0
theorem te6387669144897115680:tw6387669144897115680=0:=rfl
def tw12511615457361706288:Nat:=0
theorem te12511615457361706288:tw12511615457361706288=0:=rfl
def tw17081254700689587065:Nat:=0
theorem te17081254700689587065:tw17081254700689587065=0:=rfl
def tw17160296490259964416:Nat:=0
theorem te17160296490259964416:tw17160296490259964416=0:=rfl
def tw1325698846859538309:Nat:=0
theorem te1325698846859538309:tw1325698846859538309=0:=rfl
def tw5188417004640999248:Nat:=0
theorem te5188417004640999248:tw5188417004640999248=0:=rfl
def tw16101672937740347099:Nat:=0
theorem te16101672937740347099:tw16101672937740347099=0:=rfl
def tw12039031050046797007:Nat:=0
theorem te12039031050046797007:tw12039031050046797007=0:=rfl
def tw1556617152072860707:Nat:=0
theorem te1556617152072860707:tw1556617152072860707=0:=rfl
def tw17836601926702513853:Nat:=0
theorem te17836601926702513853:tw17836601926702513853=0:=rfl
def tw15714790075470764664:Nat:=0
theorem te15714790075470764664:tw15714790075470764664=0:=rfl
def tw4099110693218507876:Nat:=0
theorem te4099110693218507876:tw4099110693218507876=0:=rfl
def tw13092265758532744012:Nat:=0
theorem te13092265758532744012:tw13092265758532744012=0:=rfl
def tw12164164608109487014:Nat:=0
theorem te12164164608109487014:tw12164164608109487014=0:=rfl
def tw11847040876525501379:Nat:=0
theorem te11847040876525501379:tw11847040876525501379=0:=rfl
def tw12253156491726736729:Nat:=0
theorem te12253156491726736729:tw12253156491726736729=0:=rfl
def tw4065717085146813093:Nat:=0
theorem te4065717085146813093:tw4065717085146813093=0:=rfl
def tw8848221701730595383:Nat:=0
theorem te8848221701730595383:tw8848221701730595383=0:=rfl
def tw9960499171717805039:Nat:=0
theorem te9960499171717805039:tw9960499171717805039=0:=rfl
def tw13281368864762529793:Nat:=0
theorem te13281368864762529793:tw13281368864762529793=0:=rfl
def tw10707994501389560795:Nat:=0
theorem te10707994501389560795:tw10707994501389560795=0:=rfl
def tw3054747873600835333:Nat:=0
theorem te3054747873600835333:tw3054747873600835333=0:=rfl
def tw16953800429927591924:Nat:=0
theorem te16953800429927591924:tw16953800429927591924=0:=rfl
def tw391427924570948084:Nat:=0
theorem te391427924570948084:tw391427924570948084=0:=rfl
def tw10616152719577947900:Nat:=0
theorem te10616152719577947900:tw10616152719577947900=0:=rfl
def tw17910811292560794311:Nat:=0
theorem te17910811292560794311:tw17910811292560794311=0:=rfl
def tw3848449628543228048:Nat:=0
theorem te3848449628543228048:tw3848449628543228048=0:=rfl
def tw11527404987315527833:Nat:=0
theorem te11527404987315527833:tw11527404987315527833=0:=rfl
def tw9650342403170345172:Nat:=0
theorem te9650342403170345172:tw9650342403170345172=0:=rfl
def tw10092904041992790319:Nat:=0
theorem te10092904041992790319:tw10092904041992790319=0:=rfl
def tw11055843507537626695:Nat:=0
theorem te11055843507537626695:tw11055843507537626695=0:=rfl
def tw13255745779177254492:Nat:=0
theorem te13255745779177254492:tw13255745779177254492=0:=rfl
def tw14477445140355629358:Nat:=0
theorem te14477445140355629358:tw14477445140355629358=0:=rfl
def tw10068311390119080863:Nat:=0
theorem te10068311390119080863:tw10068311390119080863=0:=rfl
def tw2466732242419263693:Nat:=0
theorem te2466732242419263693:tw2466732242419263693=0:=rfl
def tw15763774315845277699:Nat:=0
theorem te15763774315845277699:tw15763774315845277699=0:=rfl
def tw2613286362567849497:Nat:=0
theorem te2613286362567849497:tw2613286362567849497=0:=rfl
def tw2416059885475507938:Nat:=0
theorem te2416059885475507938:tw2416059885475507938=0:=rfl
def tw11984986632797097831:Nat:=0
theorem te11984986632797097831:tw11984986632797097831=0:=rfl
def tw17589919349786089847:Nat:=0
theorem te17589919349786089847:tw17589919349786089847=0:=rfl
def tw1181325036045884810:Nat:=0
theorem te1181325036045884810:tw1181325036045884810=0:=rfl
def tw12759007108953254831:Nat:=0
theorem te12759007108953254831:tw12759007108953254831=0:=rfl
def tw17904728570345749613:Nat:=0
theorem te17904728570345749613:tw17904728570345749613=0:=rfl
def tw9842329300718230635:Nat:=0
theorem te9842329300718230635:tw9842329300718230635=0:=rfl
def tw3379036591301334293:Nat:=0
theorem te3379036591301334293:tw3379036591301334293=0:=rfl
def tw6326379036606312739:Nat:=0
theorem te6326379036606312739:tw6326379036606312739=0:=rfl
def tw4137459176868132790:Nat:=0
theorem te4137459176868132790:tw4137459176868132790=0:=rfl
def tw13321056982616207206:Nat:=0
theorem te13321056982616207206:tw13321056982616207206=0:=rfl
def tw2380155337556580621:Nat:=0
theorem te2380155337556580621:tw2380155337556580621=0:=rfl
def tw14589332975066831153:Nat:=0
theorem te14589332975066831153:tw14589332975066831153=0:=rfl
def tw7822820101689410720:Nat:=0
theorem te7822820101689410720:tw7822820101689410720=0:=rfl
def tw9987518656956118290:Nat:=0
theorem te9987518656956118290:tw9987518656956118290=0:=rfl
def tw17288849842145040905:Nat:=0
theorem te17288849842145040905:tw17288849842145040905=0:=rfl
def tw11022577160531479415:Nat:=0
theorem te11022577160531479415:tw11022577160531479415=0:=rfl
def tw16296159785444626812:Nat:=0
theorem te16296159785444626812:tw16296159785444626812=0:=rfl
def tw14139912131644872914:Nat:=0
theorem te14139912131644872914:tw14139912131644872914=0:=rfl
def tw11036057316653410216:Nat:=0
theorem te11036057316653410216:tw11036057316653410216=0:=rfl
def tw582617265647795699:Nat:=0
theorem te582617265647795699:tw582617265647795699=0:=rfl
def tw3173588404122717802:Nat:=0
theorem te3173588404122717802:tw3173588404122717802=0:=rfl
def tw10415315802782902909:Nat:=0
theorem te10415315802782902909:tw10415315802782902909=0:=rfl
def tw2779923210916756451:Nat:=0
theorem te2779923210916756451:tw2779923210916756451=0:=rfl
def tw11841660462609275296:Nat:=0
theorem te11841660462609275296:tw11841660462609275296=0:=rfl
def tw13623891388563674751:Nat:=0
theorem te13623891388563674751:tw13623891388563674751=0:=rfl
def tw17748662482368934998:Nat:=0
theorem te17748662482368934998:tw17748662482368934998=0:=rfl
def tw11450864818292477838:Nat:=0
theorem te11450864818292477838:tw11450864818292477838=0:=rfl
def tw6838351253015814022:Nat:=0
theorem te6838351253015814022:tw6838351253015814022=0:=rfl
def tw12248913343402532669:Nat:=0
theorem te12248913343402532669:tw12248913343402532669=0:=rfl
def tw7098664031965229041:Nat:=0
theorem te7098664031965229041:tw7098664031965229041=0:=rfl
def tw9478609176809696594:Nat:=0
theorem te9478609176809696594:tw9478609176809696594=0:=rfl
def tw18398479981302554931:Nat:=0
theorem te18398479981302554931:tw18398479981302554931=0:=rfl
def tw15903991301624009636:Nat:=0
theorem te15903991301624009636:tw15903991301624009636=0:=rfl
def tw8281374818564719289:Nat:=0
theorem te8281374818564719289:tw8281374818564719289=0:=rfl
def tw1177010399160858995:Nat:=0
theorem te1177010399160858995:tw1177010399160858995=0:=rfl
def tw2542481854254996147:Nat:=0
theorem te2542481854254996147:tw2542481854254996147=0:=rfl
def tw14517873737387491178:Nat:=0
theorem te14517873737387491178:tw14517873737387491178=0:=rfl
def tw3027993749355396277:Nat:=0
theorem te3027993749355396277:tw3027993749355396277=0:=rfl
def tw1918286037273263001:Nat:=0
theorem te1918286037273263001:tw1918286037273263001=0:=rfl
def tw5193668999630685364:Nat:=0
theorem te5193668999630685364:tw5193668999630685364=0:=rfl
def tw9877195769856450266:Nat:=0
theorem te9877195769856450266:tw9877195769856450266=0:=rfl
def tw8586675197009946707:Nat:=0
theorem te8586675197009946707:tw8586675197009946707=0:=rfl
def tw5613610262635223194:Nat:=0
theorem te5613610262635223194:tw5613610262635223194=0:=rfl
def tw14947215675527981802:Nat:=0
theorem te14947215675527981802:tw14947215675527981802=0:=rfl
def tw6789967659066910226:Nat:=0
theorem te6789967659066910226:tw6789967659066910226=0:=rfl
def tw6243338377573836495:Nat:=0
theorem te6243338377573836495:tw6243338377573836495=0:=rfl
end PySem.W.Fast
set_option maxRecDepth 100000 in
set_option maxHeartbeats 0 in
theorem PySem.Challenge.cw_holdplaces_k62_whole_twins_bar_holds : PySem.Challenge.rw_holdplaces_k62_whole_twins_bar.Holds := by
 w_on;o_law;k_head;(case hw=>w_witness2)
 k_fill
 refine K62.walk (l:=PySem.Challenge.rw_holdplaces_k62_whole_twins_bar) rfl rfl rfl (λw h Y=>PySem.W.kIn_of Y) ?F
 case F=>
  intro w mg h KX N
  refine' K62.all_mk (WB.zd ?_ ?_ ?_ ?_) (WB.zd ?_ ?_ ?_ ?_) (WB.zd ?_ ?_ ?_ ?_) (WB.zd ?_ ?_ ?_ ?_) (WB.zd ?_ ?_ ?_ ?_) (WB.zd ?_ ?_ ?_ ?_) (WB.zd ?_ ?_ ?_ ?_) (WB.zd ?_ ?_ ?_ ?_) (WB.zd ?_ ?_ ?_ ?_) (WB.zd ?_ ?_ ?_ ?_) (WB.zd ?_ ?_ ?_ ?_) (WB.zd ?_ ?_ ?_ ?_) (WB.zd ?_ ?_ ?_ ?_) (WB.zd ?_ ?_ ?_ ?_) (WB.zd ?_ ?_ ?_ ?_) (WB.zd ?_ ?_ ?_ ?_) (WB.zd ?_ ?_ ?_ ?_) (WB.zd ?_ ?_ ?_ ?_) (WB.zd ?_ ?_ ?_ ?_) (WB.zd ?_ ?_ ?_ ?_) (WB.zd ?_ ?_ ?_ ?_) (WB.zd ?_ ?_ ?_ ?_) (WB.zd ?_ ?_ ?_ ?_) (WB.zd ?_ ?_ ?_ ?_) (WB.zd ?_ ?_ ?_ ?_) (WB.zd ?_ ?_ ?_ ?_) (WB.zd ?_ ?_ ?_ ?_) (WB.zd ?_ ?_ ?_ ?_) (WB.zd ?_ ?_ ?_ ?_) (WB.zd ?_ ?_ ?_ ?_) (WB.zd ?_ ?_ ?_ ?_) (WB.zd ?_ ?_ ?_ ?_) (WB.zd ?_ ?_ ?_ ?_) KX N ?_ ?_ ?_ ?_ ?_ ?_ ?_ ?_ ?_ ?_ ?_ ?_ ?_ ?_ ?_ ?_ ?_ ?_ ?_ ?_
  any_goals k_is
  any_goals k_exc
#print axioms PySem.Challenge.cw_holdplaces_k62_whole_twins_bar_holds
