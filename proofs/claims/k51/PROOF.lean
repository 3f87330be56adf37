import PyProof.Rows.All
import Wide.All
import OpenK.AllK
import Wide.FinOn
import Lean
import PyProof.EqAt
import PyProof.EqKinds
import PyProof.TupleCall
import PyProof.Rows.Range3
import PyProof.Rows.FStr
import PyProof.Rows.ListMulArg
import KE.KSortTup
import KE.LcSums
import PyProof.SeqI3
import KE.KMinBuiltin
import PyProof.Draws
import PyProof.ListRange
import PyProof.TupleOfSeq
import PySem.Challenge.RW_holdplaces_k51_papers_of_rows_rings_and
set_option Elab.async false
set_option bootstrap.genMatcherCode false
set_option maxHeartbeats 8000000
set_option maxRecDepth 100000
set_option linter.all false
noncomputable section
open List renaming drop_eq_getElem_cons→dR,take_append_drop→bA,mem_append_right→bU,mem_cons_of_mem→aS,mem_cons_self→aW,length_append→cC,size_toArray→aU,append_assoc→bg,lookup_cons→bu,not_mem_nil→bD,length_cons→bO,length_take→bZ,getElem_mem→cJ,length_map→aZ,append_nil→b_,mem_filter→cn,replicate→bP,mem_cons→aJ,map_cons→bF,mem_map→bh,range→a7
open Option renaming bind_eq_some_iff→aG,map_eq_some_iff→bH,bind_eq_bind→aH
open PySem.Builtin.Range renaming rangeSize→cm
open PySem.Builtin renaming bitNot→bN
open PySem.Around renaming under_plainId→cA
open Array renaming length_toList→aV,toList_append→a6
open PySem renaming mem_of_lookup→bX,wpAny_truthy_bool→bI,wpAny_newObj_type→cG,codeAny_builtin→cb,wpAny_holding→b5,Comprehension→b6,bootBuiltins→bM,codeAny_mono→b8,mainGlobals→aE,sizeLine_eq→bw,wpAny_bind→aq,wpAny_pure→aC,wpAny_mono→bS,compareOp→a8,cellsFrom→ba,NameKind→aO,SetTable→aP,starEach→aR,sizeLine→aX,binaryOp→bC,FuncData→bE,Program→aA,Shared→af,Around→az,Value→ae,wpAny→ak,model→ar,World→av,Scope→aY
open Bool renaming false_eq_true→a_,false_ne_true→cB,not_eq_true'→bJ,and_eq_true→aM,or_eq_true→b9
open Nat renaming lt_of_lt_of_le→bB,lt_succ_of_lt→cF,le_of_not_lt→cH,lt_irrefl→bL,ne_of_lt→a9,le_trans→bz,le_refl→aD,zero_le→bp
open PySem.W renaming mg_none_of→cD,kia_one→bK,kitOne→b3,keepIn→b4,Frag→aB,nsIn→aI,fnOf→b7
open Option.some renaming injEq→bY,inj→bV
open ForInStep renaming yield→cq
open PySem.Heap renaming size_push→bQ,lt_size→aK
open PySem.NameKind renaming free→bR
open PySem.Str renaming ofString→bt
open False renaming elim→bq
open PySem.Obj renaming mapSeq→bG
open And renaming intro→aw
open PyProof.Rows renaming pendingOf→aQ,wpS_bind→ao,wpS_pure→au,IntsAre→bf,SortSt→aF,mirror→aN,arrOf→ag,Keyed→ah
set_option Elab.async false
namespace L2
open PySem PySem.Spec PyProof.Rows
abbrev Key:=Sum Int Str
noncomputable def jK:Key->ae->Bool
 | .inl k,v=>ae.isInt k v
 | .inr x,v=>ae.isStrOf x v
noncomputable def oD(w:av):Key->Int
 | .inl k=>hashInt k
 | .inr x=>hashStr w x
theorem zx:∀{k:Key}{v:ae},jK k v=true->(∃i t,k=Sum.inl i/\v=ae.int i t)\/(∃x t,k=Sum.inr x/\v=ae.str x t)
 | .inl i,v,h=>by
  obtain⟨t,e⟩:=ae.isInt_shape (k:=i) (v:=v) h;exact .inl ⟨i,t,rfl,e⟩
 | .inr x,v,h=>by
  obtain⟨t,e⟩:=ae.isStrOf_shape (x:=x) (v:=v) h;exact .inr ⟨x,t,rfl,e⟩
theorem rA(a b:Int):decide ((Sum.inl a:Key)=Sum.inl b)=(a==b):=by
 by_cases e:a=b
 ·subst e;simp
 ·have h:¬ (Sum.inl a:Key)=Sum.inl b:=λq=>e (Sum.inl.inj q)
  rw[decide_eq_false h];exact(beq_eq_false_iff_ne.mpr e).symm
theorem s_(a b:Str):decide ((Sum.inr a:Key)=Sum.inr b)=decide (a=b):=by
 by_cases e:a=b
 ·subst e;simp
 ·have h:¬ (Sum.inr a:Key)=Sum.inr b:=λq=>e (Sum.inr.inj q)
  rw[decide_eq_false h,decide_eq_false e]
theorem vz(a:Int)(b:Str):decide ((Sum.inl a:Key)=Sum.inr b)=false:=decide_eq_false (λq=>nomatch q)
theorem rN(a:Str)(b:Int):decide ((Sum.inr a:Key)=Sum.inl b)=false:=decide_eq_false (λq=>nomatch q)
noncomputable def h8(prog:aA)(w:av):PySem.KeyKind prog w Key where
 is:=jK
 hash:=oD w
 inj:=λv a b ha hb=>by
  rcases zx ha with ⟨i,t,rfl,rfl⟩|⟨x,t,rfl,rfl⟩
  ·rcases zx hb with ⟨j,u,rfl,e⟩|⟨y,u,rfl,e⟩
   ·injection e with e1 _;rw[e1]
   ·exact nomatch e
  ·rcases zx hb with ⟨j,u,rfl,e⟩|⟨y,u,rfl,e⟩
   ·exact nomatch e
   ·injection e with e1 _;rw[e1]
 byValue:=λk v h=>by
  rcases zx h with ⟨i,t,rfl,rfl⟩|⟨x,t,rfl,rfl⟩<;>rfl
 pyHash:=λhv h=>by
  rcases zx hv with ⟨i,t,rfl,rfl⟩|⟨x,t,rfl,rfl⟩
  ·exact wpAny_pyHash_int h
  ·exact wpAny_pyHash_str h
 eqBool:=λhu hv h=>by
  rcases zx hu with ⟨i,t,rfl,rfl⟩|⟨x,t,rfl,rfl⟩
  ·rcases zx hv with ⟨j,u,rfl,rfl⟩|⟨y,u,rfl,rfl⟩
   ·rw[rA]at h;exact wpAny_eqBool_int h
   ·rw[vz]at h;exact SeqAt.EqAt.int_str i t y u _ _ _ _ h
  ·rcases zx hv with ⟨j,u,rfl,rfl⟩|⟨y,u,rfl,rfl⟩
   ·rw[rN]at h;exact SeqAt.EqAt.str_int x t j u _ _ _ _ h
   ·rw[s_]at h;exact wpAny_eqBool_str h
 «strs»:=λk x t v h=>by
  rcases zx h with ⟨i,u,rfl,e⟩|⟨y,u,rfl,e⟩
  ·exact nomatch e
  ·injection e with e1 _
   subst e1;cases v<;>rfl
inductive V where
 |non|bl (b:Bool)|int (i:Int)|str (x:Str)|byt (b:Array UInt8)|flt (b:UInt64)|ref (a:Addr)|ty (n:String)
 deriving DecidableEq
noncomputable def RelV:V->ae->Prop
 | .non,u=>u=ae.none
 | .bl b,u=>u=ae.bool b
 | .int i,u=>∃t,u=ae.int i t
 | .str x,u=>∃t,u=ae.str x t
 | .byt b,u=>∃t,u=ae.bytes b t
 | .flt b,u=>∃t,u=ae.float b t
 | .ref a,u=>u=ae.ref a
 | .ty n,u=>u=ae.type n
abbrev Vals:List V->List ae->Prop:=Paired RelV
theorem Vals.length{xs:List V}{us:List ae}(r:Vals xs us):xs.length=us.length:=Paired.length r
theorem Vals.get:∀{xs:List V}{us:List ae}{i:Nat}{x:V},Vals xs us->xs[i]? = some x->∃u,us[i]? = some u/\RelV x u
 |_,_,_,_,.nil,e=>by simp at e
 |_,_,0,_,.cons r _,e=>by simp at e;subst e;exact⟨_,rfl,r⟩
 |_,_,i+1,x,.cons _ t,e=>by
  obtain⟨u,h1,h2⟩:=Vals.get (i:=i) (x:=x) t (by simpa using e);exact⟨u,by simpa using h1,h2⟩
theorem Vals.set{x:V}{u:ae}(r:RelV x u):∀{xs:List V}{us:List ae} (i:Nat),Vals xs us->Vals (xs.set i x) (us.set i u)
 |_,_,_,.nil=>.nil
 |_,_,0,.cons _ t=>.cons r t
 |_,_,i+1,.cons q t=>.cons q (Vals.set r i t)
theorem Vals.append:∀{xs ys:List V}{us ws:List ae},Vals xs us->Vals ys ws->Vals (xs++ys) (us++ws)
 |_,_,_,_,.nil,s=>s
 |_,_,_,_,.cons r t,s=>.cons r (Vals.append t s)
theorem Vals.take:∀{xs:List V}{us:List ae} (n:Nat),Vals xs us->Vals (xs.take n) (us.take n)
 |_,_,0,_=>.nil
 |_,_,_+1,.nil=>.nil
 |_,_,n+1,.cons r t=>.cons r (Vals.take n t)
theorem Vals.drop:∀{xs:List V}{us:List ae} (n:Nat),Vals xs us->Vals (xs.drop n) (us.drop n)
 |_,_,0,r=>r
 |_,_,_+1,.nil=>.nil
 |_,_,n+1,.cons _ t=>Vals.drop n t
noncomputable def iJ:Option V->Option ae->Prop
 |some v,some u=>RelV v u
 |none,none=>True
 |_,_=>False
noncomputable def KV{κ:Type}:List (κ×V)->List (κ×ae)->Prop:=Paired λ(p:κ×V) (q:κ×ae)=>p.1=q.1/\RelV p.2 q.2
noncomputable def kV:Key->V
 | .inl i=>.int i
 | .inr x=>.str x
inductive HO where
 |lst (xs:List V)
 |tup (xs:List V)
 |dK (kvs:List (Key×V))|dT (kvs:List (List Key×V))
 |set (S:Int->Bool) (n:Nat)
 |ins (C dx:Addr) (fs:List (Str×V))
 |own (x:Addr)
 |xd (fs:List (Str×V))
 |met (f x:Addr)
 |rng (lo hi:Int)
 |frz (o:Obj) (u:HO)
 |tbl (ps:Array ae)
 |ext (φ:Heap->Prop)
abbrev Hp:=Addr->Option HO
noncomputable def upd(H:Hp)(a:Addr)(o:HO):Hp:=λb=>if b=a then some o else H b
theorem zk{H:Hp}{a:Addr}{o:HO}:upd H a o a=some o:=by unfold upd;rw[if_pos rfl]
theorem qQ{H:Hp}{a b:Addr}{o:HO}(h:b≠a):upd H a o b=H b:=by unfold upd;rw[if_neg h]
theorem fG{H:Hp}{a b:Addr}{o:HO}(h:H a=some o)(h':H b=none):a≠b:=by
 intro e;subst e;rw[h]at h';cases h'
section
variable(P:aA)(w:av)
noncomputable def zA(H:Hp)(h:Heap)(a:Addr):HO->Prop
 | .lst xs=>xs.length<=aX/\∃(its:List ae) (n:Nat),Vals xs its/\h.get? a=some {cls:=.type "list",data:=.seq its.toArray n}
 | .tup xs=>xs.length<=aX/\∃its:List ae,Vals xs its/\IsTup h a its.toArray
 | .dK kvs=>kvs.length<=aX/\(a==sysModules)=false/\∃vs,KV kvs vs/\h.DictOf (h8 P w) a vs
 | .dT kvs=>kvs.length<=aX/\(a==sysModules)=false/\∃xs:List (List Key×Addr×ae),
   Paired (λ(p:List Key×V) (q:List Key×Addr×ae)=>p.1=q.1/\H q.2.1=some (.tup (p.1.map kV))/\RelV p.2 q.2.2) kvs xs /\
   ∃o es ep,h.get? a=some o/\o.ExactDict/\o.data=.dict es ep/\es.toList=xs.map (entryOfKey (tupleKind (h8 P w)))/\(xs.map (·.1)).Nodup
 | .set S n=>h.SetOf (intKind P w) a S n
 | .ins C dx fs=>H dx=some (.own a)/\fs.length<=1000/\dx≠a/\h.get? a=some (PySem.W.instObj C dx) /\
   ∃mA,h.Ns1 dx mA/\(∀f,iJ (fs.lookup f) (mA f))/\PySem.Within mA (fs.map (·.1))
 | .own _=>∃o,h.get? a=some o
 | .xd fs=>∃mA,h.Ns1 a mA/\∀f,iJ (fs.lookup f) (mA f)
 | .rng lo hi=>∃t u v,h.get? a=some {cls:=.type "range",data:=.fields #[.int lo t,.int hi u,.int 1 v]}
 | .frz o u=>h.get? a=some o/\zA H h a u
 | .tbl ps=>h.get? a=some {cls:=.none,data:=.fields ps}
 | .met f x=>h.get? a=some (PySem.W.methodObj (.ref f) (.ref x))
 | .ext φ=>φ h/\(∃o,h.get? a=some o)/\∀h1 h2:Heap,φ h1->(∀o,h1.get? a=some o->h2.get? a=some o)->φ h2
noncomputable def HOk(H:Hp)(h:Heap):Prop:=∀a o,H a=some o->zA P w H h a o
end
section
variable{P:aA}{w:av}{H H':Hp}{h h':Heap}{a:Addr}{o:HO}
theorem zA.lt(x:zA P w H h a o):a<h.objs.size:=by
 cases o with
 |lst xs=>obtain⟨_,_,_,_,e⟩:=x;exact aK e
 |tup xs=>obtain⟨_,_,_,p⟩:=x;exact p.lt
 |dK kvs=>obtain⟨_,_,_,_,o,_,_,e,_⟩:=x;exact aK e
 |dT kvs=>obtain⟨_,_,_,_,o,_,_,e,_⟩:=x;exact aK e
 |set S n=>obtain⟨o,_,_,_,e,_⟩:=x;exact aK e
 |ins C dx fs=>obtain⟨_,_,_,e,_⟩:=x;exact aK e
 |own y=>obtain⟨_,e⟩:=x;exact aK e
 |xd fs=>obtain⟨_,⟨_,_,_,e,_⟩,_⟩:=x;exact aK e
 |rng lo hi=>obtain⟨_,_,_,e⟩:=x;exact aK e
 |frz ob u=>obtain⟨e,_⟩:=x;exact aK e
 |tbl ps=>exact aK (show h.get? a=some _ from x)
 |met f y=>exact aK (show h.get? a=some _ from x)
 |ext φ=>obtain⟨_,⟨_,e⟩,_⟩:=x;exact aK e
theorem Paired.mapP{α β:Type}{F G:α->β->Prop}:∀{l₁:List α}{l₂:List β},Paired F l₁ l₂->(∀a b,F a b->G a b)->Paired G l₁ l₂
 |_,_,.nil,_=>.nil
 |_,_,.cons r t,f=>.cons (f _ _ r) (Paired.mapP t f)
theorem zA.stay(x:zA P w H h a o)(k:∀b u,(b=a\/H b=some (.own a))->h.get? b=some u->h'.get? b=some u)
  (ho:∀b,H b=some (.own a)->H' b=some (.own a)) (ht:∀b xs,H b=some (.tup xs)->H' b=some (.tup xs)):zA P w H' h' a o:=by
 induction o with
 |lst xs=>obtain⟨z,its,n,r,e⟩:=x;exact⟨z,its,n,r,k _ _ (.inl rfl) e⟩
 |tup xs=>obtain⟨z,its,r,ob,e,c⟩:=x;exact⟨z,its,r,ob,k _ _ (.inl rfl) e,c⟩
 |dK kvs=>obtain⟨z,y,vs,r,ob,es,ep,e,c⟩:=x;exact⟨z,y,vs,r,ob,es,ep,k _ _ (.inl rfl) e,c⟩
 |dT kvs=>
  obtain⟨z,y,xs,r,ob,es,ep,e,c⟩:=x;exact⟨z,y,xs,Paired.mapP r λp q z=>⟨z.1,ht _ _ z.2.1,z.2.2⟩,ob,es,ep,k _ _ (.inl rfl) e,c⟩
 |set S n=>obtain⟨ob,es,ep,t,e,c⟩:=x;exact⟨ob,es,ep,t,k _ _ (.inl rfl) e,c⟩
 |ins C dx fs=>
  obtain⟨d,z,ne,e,mA,⟨od,es,ep,e2,c⟩,r⟩:=x;exact⟨ho _ d,z,ne,k _ _ (.inl rfl) e,mA,⟨od,es,ep,k _ _ (.inr d) e2,c⟩,r⟩
 |own y=>obtain⟨ob,e⟩:=x;exact⟨ob,k _ _ (.inl rfl) e⟩
 |xd fs=>obtain⟨mA,⟨od,es,ep,e,c⟩,r⟩:=x;exact⟨mA,⟨od,es,ep,k _ _ (.inl rfl) e,c⟩,r⟩
 |rng lo hi=>obtain⟨t,u,v,e⟩:=x;exact⟨t,u,v,k _ _ (.inl rfl) e⟩
 |frz ob u ih=>obtain⟨e,q⟩:=x;exact⟨k _ _ (.inl rfl) e,ih q⟩
 |tbl ps=>
  have e:h.get? a=some {cls:=.none,data:=.fields ps}:=x;show h'.get? a=some {cls:=.none,data:=.fields ps};exact k a _ (.inl rfl) e
 |met f y=>
  have e:h.get? a=some (PySem.W.methodObj (.ref f) (.ref y)):=x;show h'.get? a=some (PySem.W.methodObj (.ref f) (.ref y));exact k a _ (.inl rfl) e
 |ext φ=>obtain⟨p,⟨o,e⟩,st⟩:=x;exact⟨st _ _ p λo q=>k _ _ (.inl rfl) q,⟨o,k _ _ (.inl rfl) e⟩,st⟩
theorem HOk.lt(x:HOk P w H h)(e:H a=some o):a<h.objs.size:=(x a o e).lt
theorem HOk.fresh(x:HOk P w H h)(e:h.objs.size<=a):H a=none:=by
 cases q:H a with
 |none=>rfl
 |some u=>exact absurd (bB (x.lt q) e) (bL _)
theorem HOk.kept(x:HOk P w H h)(k:∀b u,h.get? b=some u->h'.get? b=some u):HOk P w H h':=λa o e=>
 (x a o e).stay (λb u _ q=>k b u q) (λ_ q=>q) λ_ _ q=>q
theorem HOk.laid(x:HOk P w H h)(k:∀b u,h.get? b=some u->h'.get? b=some u)(hp:h.objs.size<=a)(new:zA P w (upd H a o) h' a o):HOk P w (upd H a o) h':=λb u e=>by
 have hn:=x.fresh hp;by_cases hb:b=a
 ·subst hb;rw[zk]at e;cases e;exact new
 ·rw[qQ hb]at e;exact(x b u e).stay (λc v _ q=>k c v q) (λc q=>by rw[qQ (fG q hn)];exact q) λc xs q=>by rw[qQ (fG q hn)];exact q
end
noncomputable def Rd(H:Hp)(a:Addr)(u:HO):Prop:=H a=some u\/∃o,H a=some (.frz o u)
theorem Rd.of{H:Hp}{a:Addr}{u:HO}(h:H a=some u):Rd H a u:=.inl h
theorem Rd.ok{P:aA}{w:av}{H:Hp}{h:Heap}{a:Addr}{u:HO}(r:Rd H a u)(x:HOk P w H h):zA P w H h a u:=by
 rcases r with r|⟨o,r⟩
 ·exact x a u r
 ·obtain⟨_,q⟩:=x a _ r;exact q
noncomputable def Mut:Option HO->Prop
 |some (.lst _)=>True
 |some (.dK _)=>True
 |some (.dT _)=>True
 |some (.set _ _)=>True
 |some (.ins _ _ _)=>True
 |some (.ext _)=>True
 |_=>False
section
variable{P:aA}{w:av}{H:Hp}{h h':Heap}{x e:Addr}{o':HO}
theorem HOk.write(ok:HOk P w H h)(mu:Mut (H x))(he:e=x\/H e=some (.own x))(k:∀b u,b≠e->h.get? b=some u->h'.get? b=some u)(heo:∃u,h'.get? e=some u)
  (new:zA P w (upd H x o') h' x o'):HOk P w (upd H x o') h':=λb u q=>by
 have nown:∀c y,H c=some (.own y)->c≠x:=λc y r z=>by subst z;rw[r]at mu;exact mu
 have ntup:∀c xs,H c=some (.tup xs)->c≠x:=λc xs r z=>by subst z;rw[r]at mu;exact mu
 by_cases hb:b=x
 ·subst hb;rw[zk]at q;cases q;exact new
 ·rw[qQ hb]at q;by_cases hbe:b=e
  ·have q':H b=some (.own x):=by
    rcases he with z|z
    ·exact absurd (hbe.trans z) hb
    ·rw[hbe];exact z
   rw[q]at q';cases q';obtain⟨v,hv⟩:=heo;exact⟨v,by rw[hbe];exact hv⟩
  ·refine(ok b u q).stay (λc v hc r=>k c v ?_ r) (λc r=>by rw[qQ (nown c b r)];exact r) λc xs r=>by rw[qQ (ntup c xs r)];exact r
   rcases hc with rfl|hc
   ·exact hbe
   ·rintro rfl;rcases he with z|z
    ·exact nown c b hc z
    ·rw[hc]at z;cases z;exact hb rfl
end
structure Un(fs ex:List Addr)(H H':Hp)(h h':Heap):Prop where
 keep:∀b o,h.get? b=some o->H b=none->b∉fs->b∉ex->h'.get? b=some o
 slot:∀b o,h.get? b=some o->H b=none->b∈fs->b∉ex->∃sl,h'.get? b=some {o with slots:=sl}
 free:∀b o,h.get? b=some o->H b=none->b∉ex->H' b=none
 there:∀b o,h.get? b=some o->b∉ex->∃o',h'.get? b=some o'
 tups:∀b xs,H b=some (.tup xs)->H' b=some (.tup xs)
 frzs:∀b o u,H b=some (.frz o u)->H' b=some (.frz o u)
 tbls:∀b ps,H b=some (.tbl ps)->∃more,H' b=some (.tbl (ps++more))
section
variable{fs fs' ex ex':List Addr}{H H1 H2:Hp}{h h1 h2 h':Heap}{a x e:Addr}{o:HO}
theorem Un.any(u:Un fs ex H H1 h h1){b:Addr}{ob:Obj}(q:h.get? b=some ob)(n:H b=none)(hx:b∉ex):∃sl,h1.get? b=some {ob with slots:=sl}:=by
 by_cases hb:b∈fs
 ·exact u.slot b ob q n hb hx
 ·exact⟨ob.slots,u.keep b ob q n hb hx⟩
theorem Un.kept(k:∀b u,h.get? b=some u->h'.get? b=some u):Un fs ex H H h h':=
 ⟨λb ob q _ _ _=>k b ob q,λb ob q _ _ _=>⟨ob.slots,k b ob q⟩,λ_ _ _ n _=>n,λb ob q _=>⟨ob,k b ob q⟩,λ_ _ q=>q,λ_ _ _ q=>q,λ_ ps q=>⟨#[],by rw[q];simp⟩⟩
theorem Un.refl:Un fs ex H H h h:=Un.kept λ_ _ q=>q
theorem Un.laid(k:∀b u,h.get? b=some u->h'.get? b=some u)(hp:h.objs.size<=a)(hn:H a=none):Un fs ex H (upd H a o) h h' where
 keep:=λb u q _ _ _=>k b u q
 slot:=λb u q _ _ _=>⟨u.slots,k b u q⟩
 free:=λb u q n _=>by rw[qQ (a9 (bB (aK q) hp))];exact n
 there:=λb u q _=>⟨u,k b u q⟩
 tups:=λb xs q=>by rw[qQ (fG q hn)];exact q
 frzs:=λb u xs q=>by rw[qQ (fG q hn)];exact q
 tbls:=λb ps q=>⟨#[],by rw[qQ (fG q hn),q];simp⟩
theorem Un.write(mu:Mut (H x))(he:e=x\/H e=some (.own x))(k:∀b u,b≠e->h.get? b=some u->h'.get? b=some u)(heo:∃u,h'.get? e=some u):Un fs ex H (upd H x o) h h':=by
 have hx:∀b,H b=none->b≠x:=λb n z=>by subst z;rw[n]at mu;exact mu
 have hb:∀b,H b=none->b≠e:=λb n z=>by
  subst z;rcases he with r|r
  ·exact hx b n r
  ·rw[n]at r;cases r
 have hm:∀b u,H b=some u->¬ Mut (some u)->b≠x:=λb u q nm z=>by subst z;rw[q]at mu;exact nm mu
 refine⟨λb u q n _ _=>k b u (hb b n) q,λb u q n _ _=>⟨u.slots,k b u (hb b n) q⟩,λb u q n _=>by rw[qQ (hx b n)];exact n,λb u q _=>?_,
  λb xs q=>by rw[qQ (hm b _ q λz=>z)];exact q,λb u xs q=>by rw[qQ (hm b _ q λz=>z)];exact q,λb ps q=>⟨#[],by rw[qQ (hm b _ q λz=>z),q];simp⟩⟩
 by_cases hbe:b=e
 ·subst hbe;exact heo
 ·exact⟨u,k b u hbe q⟩
end
noncomputable def trk(h:Heap)(H:Hp):List Addr:=(a7 h.objs.size).filter λa=>(H a).isSome
noncomputable def dP(h:Heap)(H:Hp):Heap:=PySem.W.hideAll h (trk h H)
theorem o9(h:Heap)(H:Hp):(dP h H).objs.size=h.objs.size:=PySem.W.hideAll_size _ _
theorem wQ{h:Heap}{H:Hp}{b:Addr}{o:Obj}(e:h.get? b=some o)(n:H b=none):(dP h H).get? b=some o:=
 PySem.W.hideAll_get _ e λhm=>by
  have q:(H b).isSome=true:=(cn.mp hm).2;rw[n]at q;simp at q
theorem wy{h:Heap}{H:Hp}{b:Addr}{o:Obj}(e:(dP h H).get? b=some o):h.get? b=some o/\H b=none:=by
 have e':h.get? b=some o:=PySem.W.of_hideAll (trk h H) e;refine⟨e',?_⟩;cases q:H b with
 |none=>rfl
 |some x=>
  have hm:b∈trk h H:=cn.mpr ⟨List.mem_range.mpr (aK e'),by simp[q]⟩;have z:(dP h H).get? b=none:=PySem.W.hideAll_none (trk h H) hm;rw[z]at e;cases e
noncomputable def gD(g h:Heap)(L:Addr):List (Addr×Obj):=(a7 h.objs.size).filterMap λa=>if a=L\/(g.get? a).isSome=true then none else (h.get? a).map λo=>(a,o)
theorem mq{g h:Heap}{L a:Addr}{o:Obj}(h1:a≠L)(h2:g.get? a=none)(h3:h.get? a=some o):(a,o)∈gD g h L:=
 List.mem_filterMap.mpr ⟨a,List.mem_range.mpr (aK h3),by simp[h1,h2,h3]⟩
theorem vN{g h:Heap}{L:Addr}{p:Addr×Obj}(hp:p∈gD g h L):p.1≠L/\g.get? p.1=none/\h.get? p.1=some p.2:=by
 obtain⟨b,_,e⟩:=List.mem_filterMap.mp hp;split at e
 ·cases e
 ·rename_i hn
  cases q:h.get? b with
  |none=>rw[q]at e;simp at e
  |some u=>
   rw[q]at e;simp only[Option.map_some,bY]at e;subst e;refine⟨λz=>hn (.inl z),?_,q⟩;show g.get? b=none;cases r:g.get? b with
   |none=>rfl
   |some v=>exact(hn (.inr (by simp[r]))).elim
noncomputable def rest(g h:Heap)(L d:Addr):List (Addr×Obj):=(gD g h L).filter λp=>decide (p.1≠d)
theorem ye{g h:Heap}{L:Addr}:News g L h (gD g h L):=λp hp=>let ⟨a,b,c⟩:=vN hp;⟨c,a,b⟩
structure Mod(K:aB)(mg:Str->Option ae)(base:Heap):Prop where
 kin:K.In base
 glob:base.Ns aE mg
 blt:∃mb,base.Ns builtinsNs mb/\∀x:Str,x≠"__name__"->mb x=bM x
 nolimit:base.NoLimit
structure Cx where
 prog:aA
 w:av
 K:aB
 mg:Str->Option ae
 base:Heap
 A:az
 N:List Str
 s₀:af
 H₀:Hp
 env:Env
 outer:List Env
 stack:List Env
 ex:List Addr
 fn:Str->Bool
 calm:Bool
 pn:List (Addr×Obj)
 xe:ae->af->Prop
noncomputable def frs(l:List Env):List Addr:=l.filterMap (·.frame)
abbrev Cx.fs(X:Cx):List Addr:=frs X.outer
noncomputable def fc(sc:aY)(x:Str):Prop:=sc.names.lookup x=some .local\/sc.names.lookup x=some .cell\/sc.names.lookup x=some .free
noncomputable def Loc(sc:aY)(x:Str):Prop:=sc.names.lookup x=some .local\/sc.names.lookup x=some .cell
noncomputable def Look(env:Env)(h:Heap)(m:Str->Option ae)(x:Str)(u:ae):Prop:=
 (env.kindOf x=some .local/\m x=some u)\/((env.kindOf x=some .cell\/env.kindOf x=some .free)/\∃c,env.cells.lookup x=some c/\h.IsCell c (some u))
structure Cx.Ok(X:Cx):Prop where
 mod:Mod X.K X.mg X.base
 kind:X.env.scope.kind=.function
 glob:X.env.globals=aE
 blt:X.env.builtins=builtinsNs
 above:X.s₀.heap.objs.size<=X.env.locals
 inj:∀x y c,X.env.cells.lookup x=some c->X.env.cells.lookup y=some c->x=y
 has:∀x,(X.env.kindOf x=some .cell\/X.env.kindOf x=some .free)->∃c,X.env.cells.lookup x=some c
 cab:∀x c,X.fn x=true->X.env.cells.lookup x=some c->X.s₀.heap.objs.size<=c
 hd:X.calm=true->X.A.handled=none
 frames:X.A.frames=some X.stack
 stk:X.stack=X.outer\/(X.stack=X.env::X.outer/\X.env.frame=some X.env.locals)
 exf:∀b∈X.ex,b≠X.env.locals/\∀x c,X.env.cells.lookup x=some c->c≠b
 bs:∀b o,X.base.get? b=some o->X.s₀.heap.get? b=some o/\X.H₀ b=none
 bsz:X.base.objs.size<=X.s₀.heap.objs.size
 noex:∀b o,X.base.get? b=some o->b∉X.ex
 exfs:∀b∈X.ex,b∉X.fs
 funs:X.s₀.heap.FunFrames X.base X.outer
 frf:∀b∈X.fs,X.H₀ b=none
structure Inv(X:Cx)(pins:List (Addr×Obj))(σ:List (Option V))(H:Hp)(s:af):Prop where
 ok:X.Ok
 os:s.os=X.s₀.os
 bare:AllBare s.gens
 base:Un X.fs X.ex X.H₀ H X.s₀.heap s.heap
 loc:∃m,s.heap.Ns X.env.locals m/\∀(i:Nat) (x:Str) (v:V),X.N[i]? = some x->σ[i]? = some (some v)->fc X.env.scope x->∃u,RelV v u/\Look X.env s.heap m x u
 cell:∀x c,X.env.cells.lookup x=some c->∃v,s.heap.IsCell c v
 free:H X.env.locals=none
 freeC:∀x c,X.env.cells.lookup x=some c->H c=none
 pin:∀p∈X.pn++pins,s.heap.get? p.1=some p.2/\H p.1=none/\p.1≠X.env.locals/\p.1∉X.fs/\∀v,p.2.data≠.cell v
 hok:HOk X.prog X.w H s.heap
 len:σ.length=X.N.length
section
variable{X:Cx}{pins:List (Addr×Obj)}{σ:List (Option V)}{H H':Hp}{s:af}{h':Heap}
theorem Cx.Ok.nofr(ok:X.Ok){b:Addr}{o:Obj}(e:X.base.get? b=some o):b∉X.fs:=λhb=>by
 have:=(ok.funs.mem hb).1;rw[e]at this;cases this
theorem Inv.bs(I:Inv X pins σ H s):∀b o,X.base.get? b=some o->s.heap.get? b=some o/\H b=none:=λb o e=>
 ⟨I.base.keep b o (I.ok.bs b o e).1 (I.ok.bs b o e).2 (I.ok.nofr e) (I.ok.noex b o e),I.base.free b o (I.ok.bs b o e).1 (I.ok.bs b o e).2 (I.ok.noex b o e)⟩
theorem Inv.bk(I:Inv X pins σ H s):∀b o,X.base.get? b=some o->s.heap.get? b=some o:=λb o e=>(I.bs b o e).1
theorem Inv.mod(I:Inv X pins σ H s):Mod X.K X.mg X.base:=I.ok.mod
theorem Inv.kIn(I:Inv X pins σ H s):X.K.In s.heap:=I.ok.mod.kin.keeps I.bk
theorem Inv.nolimit(I:Inv X pins σ H s):s.heap.NoLimit:=I.ok.mod.nolimit.keeps I.bk
theorem Inv.fr(I:Inv X pins σ H s):∃m,Fr X.base X.env.locals s.heap m:=
 let ⟨m,hn,_⟩:=I.loc
 ⟨m,hn,I.bk,bz I.ok.bsz I.ok.above⟩
theorem Inv.lt(I:Inv X pins σ H s):X.env.locals<s.heap.objs.size:=let ⟨_,hn,_⟩:=I.loc;hn.lt
theorem Inv.sz(I:Inv X pins σ H s):X.s₀.heap.objs.size<=s.heap.objs.size:=bz I.ok.above (Nat.le_of_lt I.lt)
theorem Inv.nofs(I:Inv X pins σ H s){a:Addr}(h:s.heap.objs.size<=a):a∉X.fs:=λhb=>by
 obtain⟨_,o,ho,_⟩:=I.ok.funs.mem hb;exact absurd (bB (aK ho) (bz I.sz h)) (bL _)
theorem Inv.cne(I:Inv X pins σ H s):∀x c,X.env.cells.lookup x=some c->c≠X.env.locals:=λx c e z=>by
 obtain⟨v,o,ho,hd⟩:=I.cell x c e;obtain⟨m,⟨o',es,ep,ho',hd',_⟩,_⟩:=I.loc;rw[z,ho']at ho;cases ho;rw[hd']at hd;cases hd
theorem Inv.funs(I:Inv X pins σ H s):s.heap.FunFrames X.base X.outer:=by
 have all:∀(l:List Env),(∀b∈frs l,b∈X.fs)->X.s₀.heap.FunFrames X.base l->s.heap.FunFrames X.base l:=by
  intro l
  induction l with
  |nil=>intro _ _;trivial
  |cons env r ih=>
   intro hs hl;obtain⟨hk,⟨L,o,hf,hn,ho,hd⟩,hr⟩:=hl;have hL:L∈X.fs:=hs L (by unfold frs;rw[List.filterMap_cons,hf];exact aW);obtain⟨sl,e⟩:=I.base.slot L o ho (I.ok.frf L hL) hL λz=>I.ok.exfs L z hL
   exact⟨hk,⟨L,_,hf,hn,e,hd⟩,ih (λb hb=>hs b (by unfold frs;rw[List.filterMap_cons,hf];exact aS _ hb)) hr⟩
 exact all X.outer (λ_ hb=>hb) I.ok.funs
theorem Inv.stack(I:Inv X pins σ H s):s.heap.FunFrames X.base X.stack:=by
 rcases I.ok.stk with e|⟨e,hf⟩
 ·rw[e];exact I.funs
 ·rw[e];obtain⟨m,hn,_⟩:=I.loc;refine .cons (by rw[I.ok.kind];decide) hf hn ?_ I.funs;exact Heap.get?_none_of_le (bz I.ok.bsz I.ok.above)
theorem Inv.stkSub(I:Inv X pins σ H s):∀b∈frs X.stack,b∈X.env.locals::X.fs:=λb hb=>by
 rcases I.ok.stk with e|⟨e,hf⟩
 ·rw[e]at hb;exact aS _ hb
 ·rw[e]at hb;unfold frs at hb;rw[List.filterMap_cons,hf]at hb;exact hb
theorem Inv.stkFree(I:Inv X pins σ H s):∀b∈frs X.stack,H b=none:=λb hb=>by
 rcases aJ.mp (I.stkSub b hb)with e|hb
 ·rw[e];exact I.free
 ·obtain⟨_,o,ho,_⟩:=I.ok.funs.mem hb;exact I.base.free b o ho (I.ok.frf b hb) λz=>I.ok.exfs b z hb
theorem Inv.step{g':Array GenState}{t':Nat}{d':Drawn}{ch:List Addr}(I:Inv X pins σ H s)
  (hch:∀b∈ch,(b∈X.ex\/X.s₀.heap.objs.size<=b)/\b≠X.env.locals/\(∀x c,X.env.cells.lookup x=some c->c≠b)/\∀p∈X.pn++pins,p.1≠b)
  (keep:∀b o,b≠X.env.locals->b∉X.fs->b∉ch->s.heap.get? b=some o->H b=none->h'.get? b=some o)
  (slot:∀b o,b≠X.env.locals->b∈X.fs->b∉ch->s.heap.get? b=some o->H b=none->∃sl,h'.get? b=some {o with slots:=sl}) (free:∀b o,b∉ch->s.heap.get? b=some o->H b=none->H' b=none)
  (there:∀b o,b∉ch->s.heap.get? b=some o->∃o',h'.get? b=some o')
  (tups:∀b xs,H b=some (.tup xs)->H' b=some (.tup xs)) (frzs:∀b o u,H b=some (.frz o u)->H' b=some (.frz o u)) (tbls:∀b ps,H b=some (.tbl ps)->∃more,H' b=some (.tbl (ps++more)))
  (ns:∀m,s.heap.Ns X.env.locals m->h'.Ns X.env.locals m) (hok:HOk X.prog X.w H' h') (hg:AllBare g') :
  Inv X pins σ H' {s with heap:=h',gens:=g',drawn:=d',toks:=t'}:=by
 have neL:∀b o,X.s₀.heap.get? b=some o->b≠X.env.locals:=λb o e=>a9 (bB (aK e) I.ok.above)
 have neC:∀b o,X.s₀.heap.get? b=some o->b∉X.ex->b∉ch:=λb o e hx hb=>by
  rcases(hch b hb).1 with z|z
  ·exact hx z
  ·exact absurd (bB (aK e) z) (bL _)
 have cellK:∀x c,X.env.cells.lookup x=some c->∀v,s.heap.IsCell c v->h'.IsCell c v:=λx c e v ⟨o,ho,hd⟩=>by
  have nch:c∉ch:=λz=>(hch c z).2.2.1 x c e rfl
  by_cases hc:c∈X.fs
  ·obtain⟨sl,q⟩:=slot c o (I.cne x c e) hc nch ho (I.freeC x c e);exact⟨_,q,hd⟩
  ·exact⟨o,keep c o (I.cne x c e) hc nch ho (I.freeC x c e),hd⟩
 refine⟨I.ok,I.os,hg,⟨λb o e n hb hx=>?_,λb o e n hb hx=>?_,λb o e n hx=>?_,λb o e hx=>?_,λb xs e=>tups b xs (I.base.tups b xs e),λb o xs e=>frzs b o xs (I.base.frzs b o xs e),λb ps e=>?_⟩,?_,λx c e=>?_,?_,λx c e=>?_,λp hp=>?_,hok,I.len⟩
 ·exact keep b o (neL b o e) hb (neC b o e hx) (I.base.keep b o e n hb hx) (I.base.free b o e n hx)
 ·obtain⟨sl,e1⟩:=I.base.slot b o e n hb hx;obtain⟨sl',e2⟩:=slot b _ (neL b o e) hb (neC b o e hx) e1 (I.base.free b o e n hx);exact⟨sl',e2⟩
 ·obtain⟨o',e1⟩:=I.base.there b o e hx;exact free b o' (neC b o e hx) e1 (I.base.free b o e n hx)
 ·obtain⟨o',e1⟩:=I.base.there b o e hx;exact there b o' (neC b o e hx) e1
 ·obtain⟨m1,e1⟩:=I.base.tbls b ps e;obtain⟨m2,e2⟩:=tbls b _ e1;exact⟨m1++m2,by rw[e2,Array.append_assoc]⟩
 ·obtain⟨m,hn,hl⟩:=I.loc;refine⟨m,ns m hn,λi x v e1 e2 e3=>?_⟩;obtain⟨u,r,l⟩:=hl i x v e1 e2 e3;refine⟨u,r,?_⟩;rcases l with l|⟨k,c,e,z⟩
  ·exact .inl l
  ·exact .inr ⟨k,c,e,cellK x c e _ z⟩
 ·obtain⟨v,z⟩:=I.cell x c e;exact⟨v,cellK x c e v z⟩
 ·obtain⟨m,⟨o,_,_,ho,_⟩,_⟩:=I.loc;exact free _ o (λz=>(hch _ z).2.1 rfl) ho I.free
 ·obtain⟨v,o,ho,hd⟩:=I.cell x c e;exact free c o (λz=>(hch c z).2.2.1 x c e rfl) ho (I.freeC x c e)
 ·obtain⟨e,n,ne,nf,d⟩:=I.pin p hp;have nch:p.1∉ch:=λz=>(hch p.1 z).2.2.2 p hp rfl
  exact⟨keep p.1 p.2 ne nf nch e n,free p.1 p.2 nch e n,ne,nf,d⟩
theorem Inv.un{t':Nat}(I:Inv X pins σ H s)(u:Un X.fs [] H H' s.heap h')(hok:HOk X.prog X.w H' h'):Inv X pins σ H' {s with heap:=h',toks:=t'}:=by
 obtain⟨m,⟨o,es,ep,ho,r⟩,_⟩:=id I.loc;obtain⟨sl,hL⟩:=u.any ho I.free (by simp);exact I.step (g':=s.gens) (d':=s.drawn) (ch:=[]) (λ_ z=>nomatch z) (λb o _ hb _ e n=>u.keep b o e n hb (by simp)) (λb o _ hb _ e n=>u.slot b o e n hb (by simp)) (λb o _ e n=>u.free b o e n (by simp)) (λb o _ e=>u.there b o e (by simp)) u.tups u.frzs u.tbls (λm' hm=>by
  obtain⟨o',es',ep',ho',r'⟩:=hm;rw[ho]at ho';cases ho';exact⟨_,es',ep',hL,r'⟩) hok I.bare
theorem Inv.call{g':Array GenState}{t':Nat}{d':Drawn}{ch:List Addr}(I:Inv X pins σ H s)(u:Un (frs X.stack) ch H H' s.heap h')(hok:HOk X.prog X.w H' h')(hg:AllBare g')
  (hch:∀b∈ch,(b∈X.ex\/X.s₀.heap.objs.size<=b)/\b≠X.env.locals/\(∀x c,X.env.cells.lookup x=some c->c≠b)/\∀p∈X.pn++pins,p.1≠b) :
  Inv X pins σ H' {s with heap:=h',gens:=g',drawn:=d',toks:=t'}:=by
 obtain⟨m,⟨o,es,ep,ho,r⟩,_⟩:=id I.loc;obtain⟨sl,hL⟩:=u.any ho I.free λz=>(hch _ z).2.1 rfl
 exact I.step (ch:=ch) hch (λb o hL hb hc e n=>u.keep b o e n (λz=>(aJ.mp (I.stkSub b z)).elim hL hb) hc) (λb o _ _ hc e n=>u.any e n hc) (λb o hc e n=>u.free b o e n hc) (λb o hc e=>u.there b o e hc) u.tups u.frzs u.tbls (λm' hm=>by
  obtain⟨o',es',ep',ho',r'⟩:=hm;rw[ho]at ho';cases ho';exact⟨_,es',ep',hL,r'⟩) hok hg
theorem Inv.turned{t':Nat}{it:Addr}(I:Inv X pins σ H s)(k:∀b o,b≠it->s.heap.get? b=some o->h'.get? b=some o)(hn:H it=none)(hL:it≠X.env.locals)
  (h1:it∈X.ex\/X.s₀.heap.objs.size<=it) (h2:∀x c,X.env.cells.lookup x=some c->c≠it) (h3:∀p∈X.pn++pins,p.1≠it):Inv X pins σ H {s with heap:=h',toks:=t'}:=by
 have nit:∀b u,H b=some u->b≠it:=λb u e z=>by rw[z,hn]at e;cases e
 refine I.step (g':=s.gens) (d':=s.drawn) (ch:=[it]) (λb hb=>?_) (λb o _ _ hc e _=>k b o (λz=>hc (by simp[z])) e) (λb o _ _ hc e _=>⟨o.slots,k b o (λz=>hc (by simp[z])) e⟩) (λ_ _ _ _ n=>n)
  (λb o hc e=>⟨o,k b o (λz=>hc (by simp[z])) e⟩) (λ_ _ e=>e) (λ_ _ _ e=>e) (λb ps e=>⟨#[],by rw[e];simp⟩) (λm hm=>?_) (λb u e=>?_) I.bare
 ·have e:b=it:=by simpa using hb
  subst e;exact⟨h1,hL,h2,h3⟩
 ·obtain⟨o,es,ep,ho,r⟩:=hm;exact⟨o,es,ep,k _ o (Ne.symm hL) ho,r⟩
 ·refine(I.hok b u e).stay (λc v hc q=>k c v ?_ q) (λ_ q=>q) λ_ _ q=>q
  rcases hc with z|z
  ·rw[z];exact nit b u e
  ·exact nit c _ z
theorem Inv.tok(I:Inv X pins σ H s)(t:Nat):Inv X pins σ H {s with toks:=t}:=I.un (h':=s.heap) (t':=t) Un.refl I.hok
theorem Inv.kept{t':Nat}(I:Inv X pins σ H s)(k:∀b u,s.heap.get? b=some u->h'.get? b=some u):Inv X pins σ H {s with heap:=h',toks:=t'}:=I.un (Un.kept k) (I.hok.kept k)
theorem Inv.laid{a:Addr}{o:HO}{t':Nat}(I:Inv X pins σ H s)(k:∀b u,s.heap.get? b=some u->h'.get? b=some u)(hp:s.heap.objs.size<=a)(new:zA X.prog X.w (upd H a o) h' a o) :
  Inv X pins σ (upd H a o) {s with heap:=h',toks:=t'}:=I.un (Un.laid k hp (I.hok.fresh hp)) (I.hok.laid k hp new)
theorem Inv.write{x e:Addr}{o:HO}{t':Nat}(I:Inv X pins σ H s)(mu:Mut (H x))(he:e=x\/H e=some (.own x))(k:∀b u,b≠e->s.heap.get? b=some u->h'.get? b=some u)(heo:∃u,h'.get? e=some u)
  (new:zA X.prog X.w (upd H x o) h' x o):Inv X pins σ (upd H x o) {s with heap:=h',toks:=t'}:=I.un (Un.write mu he k heo) (I.hok.write mu he k heo new)
theorem Inv.pins_of{pins':List (Addr×Obj)}(I:Inv X pins σ H s)(h:∀p∈pins',s.heap.get? p.1=some p.2/\H p.1=none/\p.1≠X.env.locals/\p.1∉X.fs/\∀v,p.2.data≠.cell v):Inv X pins' σ H s:=
 ⟨I.ok,I.os,I.bare,I.base,I.loc,I.cell,I.free,I.freeC,λp hp=>(List.mem_append.mp hp).elim (λz=>I.pin p (List.mem_append_left _ z)) (h p),I.hok,I.len⟩
theorem mi{N:List Str}(hN:N.Nodup){i j:Nat}{x:Str}(a:N[i]? = some x)(b:N[j]? = some x):i=j:=by
 obtain⟨h1,e1⟩:=List.getElem?_eq_some_iff.mp a;obtain⟨h2,e2⟩:=List.getElem?_eq_some_iff.mp b;exact(List.getElem_inj hN).mp (e1.trans e2.symm)
theorem kO{M:Model}{A:az}{E:ae->af->Prop}{i:Nat}{x:Str}{v:V}{u:ae}{Q:Unit->af->Prop}(I:Inv X pins σ H s)(hN:X.N.Nodup)(hi:X.N[i]? = some x)(hx:Loc X.env.scope x)(r:RelV v u)
  (h:∀s',Inv X pins (σ.set i (some v)) H s'->(∃a,Heap.SameBut a s.heap s'.heap/\(a=X.env.locals\/X.env.cells.lookup x=some a))->Q () s') (hf:X.fn x=true\/X.env.scope.names.lookup x=some .local:=by first|exact .inl rfl|exact .inr rfl|assumption):ak M A (storeName X.env x u) Q E s:=by
 obtain⟨m,hn,hl⟩:=id I.loc;have hcls:(X.env.scope.kind==.class||(X.env.scope.kind==.module&&X.env.locals != X.env.globals))=false:=by rw[I.ok.kind];rfl
 have hiσ:i<σ.length:=by rw[I.len];exact(List.getElem?_eq_some_iff.mp hi).1
 have cne:=I.cne;have tracked:∀{a:Addr}{h':Heap},(∃o,s.heap.get? a=some o/\H a=none)->Heap.SameBut a s.heap h'->HOk X.prog X.w H h':=λ{a h'} ha hs b ob e=>by
  obtain⟨_,_,hfree⟩:=ha;refine(I.hok b ob e).stay (λc w' hc q=>(hs.2 c ?_).trans q) (λ_ q=>q) λ_ _ q=>q
  rintro rfl;rcases hc with rfl|hc
  ·rw[hfree]at e;cases e
  ·rw[hfree]at hc;cases hc
 rcases hx with hk|hk
 ·refine wpAny_storeName_local hk hn (λh' hn' hs=>?_) hcls;obtain⟨oL,_,_,hoL,_⟩:=id hn;refine h _ ⟨I.ok,I.os,I.bare,⟨λb o e n hb hx=>?_,λb o e n hb hx=>?_,I.base.free,λb o e hx=>?_,I.base.tups,I.base.frzs,I.base.tbls⟩,⟨_,hn',λj y v' e1 e2 e3=>?_⟩,λy c e=>?_,I.free,I.freeC,λp hp=>?_,tracked ⟨oL,hoL,I.free⟩ hs,by simpa using I.len⟩ ⟨_,hs,.inl rfl⟩
  ·exact(hs.2 b (a9 (bB (aK e) I.ok.above))).trans (I.base.keep b o e n hb hx)
  ·obtain⟨sl,e1⟩:=I.base.slot b o e n hb hx;exact⟨sl,(hs.2 b (a9 (bB (aK e) I.ok.above))).trans e1⟩
  ·obtain⟨o',e1⟩:=I.base.there b o e hx;exact⟨o',(hs.2 b (a9 (bB (aK e) I.ok.above))).trans e1⟩
  ·by_cases hj:j=i
   ·subst hj;rw[hi]at e1;cases e1;rw[List.getElem?_set_self hiσ]at e2;cases e2;exact⟨u,r,.inl ⟨hk,by simp⟩⟩
   ·rw[List.getElem?_set_ne (Ne.symm hj)]at e2;obtain⟨u',r',q⟩:=hl j y v' e1 e2 e3;refine⟨u',r',?_⟩;rcases q with ⟨k,e⟩|⟨k,c,e,z⟩
    ·refine .inl ⟨k,?_⟩;have:y≠x:=λe=>hj (mi hN e1 (e▸hi))
     simp[this,e]
    ·exact .inr ⟨k,c,e,z.sameBut hs (cne y c e)⟩
  ·obtain⟨w',z⟩:=I.cell y c e;exact⟨w',z.sameBut hs (cne y c e)⟩
  ·obtain⟨e,n,ne,nf,d⟩:=I.pin p hp;exact⟨(hs.2 p.1 ne).trans e,n,ne,nf,d⟩
 ·have hfn:X.fn x=true:=by
   rcases hf with z|z
   ·exact z
   ·rw[z]at hk;cases hk
  obtain⟨c,hc⟩:=I.ok.has x (.inl hk);obtain⟨w',z⟩:=I.cell x c hc;refine wpAny_storeName_cell I.ok.kind hk hc z (λh' hc' hs=>?_);obtain⟨oc,hoc,hocd⟩:=id z;refine h {s with heap:=h'} ⟨I.ok,I.os,I.bare,⟨λb o e n hb hx=>?_,λb o e n hb hx=>?_,I.base.free,λb o e hx=>?_,I.base.tups,I.base.frzs,I.base.tbls⟩,⟨m,hn.sameBut hs (Ne.symm (cne x c hc)),λj y v' e1 e2 e3=>?_⟩,λy c' e=>?_,I.free,I.freeC,λp hp=>?_,tracked ⟨oc,hoc,I.freeC x c hc⟩ hs,by simpa using I.len⟩ ⟨c,hs,.inr hc⟩
  ·exact(hs.2 b (a9 (bB (aK e) (I.ok.cab x c hfn hc)))).trans (I.base.keep b o e n hb hx)
  ·obtain⟨sl,e1⟩:=I.base.slot b o e n hb hx;exact⟨sl,(hs.2 b (a9 (bB (aK e) (I.ok.cab x c hfn hc)))).trans e1⟩
  ·obtain⟨o',e1⟩:=I.base.there b o e hx;exact⟨o',(hs.2 b (a9 (bB (aK e) (I.ok.cab x c hfn hc)))).trans e1⟩
  ·by_cases hj:j=i
   ·subst hj;rw[hi]at e1;cases e1;rw[List.getElem?_set_self hiσ]at e2;cases e2;exact⟨u,r,.inr ⟨.inl hk,c,hc,hc'⟩⟩
   ·rw[List.getElem?_set_ne (Ne.symm hj)]at e2;obtain⟨u',r',q⟩:=hl j y v' e1 e2 e3;refine⟨u',r',?_⟩;rcases q with q|⟨k,c',e,z'⟩
    ·exact .inl q
    ·refine .inr ⟨k,c',e,z'.sameBut hs ?_⟩;rintro rfl;exact hj (mi hN e1 (I.ok.inj _ _ _ e hc▸hi))
  ·by_cases hcc:c'=c
   ·subst hcc;exact⟨_,hc'⟩
   ·obtain⟨w2,z2⟩:=I.cell y c' e;exact⟨w2,z2.sameBut hs hcc⟩
  ·obtain⟨e,n,ne,nf,d⟩:=I.pin p hp;refine⟨(hs.2 p.1 ?_).trans e,n,ne,nf,d⟩;intro q;rw[q,hoc]at e;have q':oc=p.2:=bV e;exact d w' (by rw[<-q'];exact hocd)
theorem jL{M:Model}{A:az}{E:ae->af->Prop}{i:Nat}{x:Str}{v:V}{u:ae}{Q:Unit->af->Prop}(I:Inv X pins σ H s)(hN:X.N.Nodup)(hi:X.N[i]? = some x)(hx:Loc X.env.scope x)(r:RelV v u)
  (h:∀s',Inv X pins (σ.set i (some v)) H s'->Q () s') (hf:X.fn x=true\/X.env.scope.names.lookup x=some .local:=by first|exact .inl rfl|exact .inr rfl|assumption):ak M A (storeName X.env x u) Q E s:=
 kO I hN hi hx r (λs' I' _=>h s' I') hf
theorem Inv.call'{s':af}{ch:List Addr}(I:Inv X pins σ H s)(ho:s'.os=s.os)(u:Un (frs X.stack) ch H H' s.heap s'.heap)(hok:HOk X.prog X.w H' s'.heap)(hg:AllBare s'.gens)
  (hch:∀b∈ch,(b∈X.ex\/X.s₀.heap.objs.size<=b)/\b≠X.env.locals/\(∀x c,X.env.cells.lookup x=some c->c≠b)/\∀p∈X.pn++pins,p.1≠b):Inv X pins σ H' s':=by
 obtain⟨h',g',d',t',o'⟩:=s';have e:o'=s.os:=ho;subst e;exact I.call (g':=g') (t':=t') (d':=d') u hok hg hch
end
abbrev XK:=ae->Option Addr->Hp->Prop
abbrev St:=List (Option V)
abbrev VK:=V->Hp->Prop
abbrev TE:=St->Hp->VK->Prop
abbrev TT:=St->Hp->(Bool->Hp->Prop)->Prop
abbrev TA:=St->Hp->(List V->Hp->Prop)->Prop
structure Ends where
 nx:St->Hp->Prop
 rt:VK
 bk:St->Hp->Prop:=λ_ _=>False
 ct:St->Hp->Prop:=λ_ _=>False
abbrev TS:=Ends->St->Hp->Prop
noncomputable def EP(X:Cx)(pins:List (Addr×Obj))(σ:St)(Q:VK)(u:ae)(s':af):Prop:=∃v H',Inv X pins σ H' s'/\RelV v u/\Q v H'
noncomputable def TP(X:Cx)(pins:List (Addr×Obj))(σ:St)(Q:Bool->Hp->Prop)(b:Bool)(s':af):Prop:=∃H',Inv X pins σ H' s'/\Q b H'
noncomputable def AP(X:Cx)(pins:List (Addr×Obj))(σ:St)(Q:List V->Hp->Prop)(us:List ae)(s':af):Prop:=∃vs H',Inv X pins σ H' s'/\Vals vs us/\Q vs H'
noncomputable def SP(X:Cx)(pins:List (Addr×Obj))(D:Ends)(f:Flow)(s':af):Prop:=
 match f with
 | .next=>∃σ' H',Inv X pins σ' H' s'/\D.nx σ' H'
 | .brk=>∃σ' H',Inv X pins σ' H' s'/\D.bk σ' H'
 | .cont=>∃σ' H',Inv X pins σ' H' s'/\D.ct σ' H'
 | .ret u=>∃v σ' H',Inv X pins σ' H' s'/\RelV v u/\D.rt v H'
noncomputable def PE(X:Cx)(e:Expr)(t:TE):Prop:=
 ∀(pins:List (Addr×Obj)) (s:af) (σ:St) (H:Hp) (Q:VK),Inv X pins σ H s->t σ H Q->ak (ar X.prog X.w) X.A (eval e X.env) (EP X pins σ Q) X.xe s
noncomputable def PT(X:Cx)(e:Expr)(t:TT):Prop:=
 ∀(pins:List (Addr×Obj)) (s:af) (σ:St) (H:Hp) (Q:Bool->Hp->Prop),Inv X pins σ H s->t σ H Q->ak (ar X.prog X.w) X.A (isTrue e X.env (eval e X.env)) (TP X pins σ Q) X.xe s
noncomputable def PW(X:Cx)(e:Expr)(t:TT):Prop:=
 ∀(whole:Sem ae) (pins:List (Addr×Obj)) (s:af) (σ:St) (H:Hp) (Q:Bool->Hp->Prop),Inv X pins σ H s->t σ H Q->ak (ar X.prog X.w) X.A (isTrue e X.env whole) (TP X pins σ Q) X.xe s
theorem PW.pt{X:Cx}{e:Expr}{t:TT}(h:PW X e t):PT X e t:=h _
noncomputable def PA(X:Cx)(es:List Expr)(t:TA):Prop:=
 ∀(pos:Pos) (pins:List (Addr×Obj)) (s:af) (σ:St) (H:Hp) (Q:List V->Hp->Prop),Inv X pins σ H s->t σ H Q->ak (ar X.prog X.w) X.A (spliced (backTo pos (aR es X.env))) (AP X pins σ Q) X.xe s
noncomputable def PS(X:Cx)(st:Stmt)(t:TS):Prop:=
 ∀(pins:List (Addr×Obj)) (s:af) (σ:St) (H:Hp) (D:Ends),Inv X pins σ H s->t D σ H->ak (ar X.prog X.w) X.A (exec st X.env) (SP X pins D) X.xe s
noncomputable def PSs(X:Cx)(st:List Stmt)(t:TS):Prop:=
 ∀(pins:List (Addr×Obj)) (s:af) (σ:St) (H:Hp) (D:Ends),Inv X pins σ H s->t D σ H->ak (ar X.prog X.w) X.A (execs st X.env) (SP X pins D) X.xe s
theorem thn{α:Type}{t:Sem α}{Q Q':α->af->Prop}{M:Model}{A:az}{E:ae->af->Prop}{s:af}(h:ak M A t Q E s)(hQ:∀a s,Q a s->Q' a s):ak M A t Q' E s:=bS h hQ λ_ _ x=>x
section
variable{X:Cx}
theorem bin{a b:Expr}{ta tb:TE}(ha:PE X a ta)(hb:PE X b tb){pins:List (Addr×Obj)}{s:af}{σ:St}{H:Hp}{R:V->V->Hp->Prop}(I:Inv X pins σ H s)(h:ta σ H λx H1=>tb σ H1 λy H2=>R x y H2)
  {α:Type}{Q:α->af->Prop}{f:ae->ae->Sem α}
  (hf:∀v u s2 x y H2,Inv X pins σ H2 s2->RelV x v->RelV y u->R x y H2->ak (ar X.prog X.w) X.A (f v u) Q X.xe s2) :
  ak (ar X.prog X.w) X.A (eval a X.env) (λv s₁=>ak (ar X.prog X.w) X.A (eval b X.env) (λu s₂=>ak (ar X.prog X.w) X.A (f v u) Q X.xe s₂) X.xe s₁) X.xe s:=by
 refine thn (ha pins s σ H _ I h) λv s1 ⟨x,H1,I1,r1,q1⟩=>?_
 refine thn (hb pins s1 σ H1 _ I1 q1) λu s2 ⟨y,H2,I2,r2,q2⟩=>?_
 exact hf v u s2 x y H2 I2 r1 r2 q2
noncomputable def fT(i:Nat):TE:=λσ H Q=>∃v,σ[i]? = some (some v)/\Q v H
noncomputable def tC(v:V):TE:=λ_ H Q=>Q v H
theorem gH{i:Nat}{x:Str}{pos:Pos}(hN:X.N[i]? = some x)(hv:fc X.env.scope x)(hd:(x==("__debug__" : Str))=false:=by decide)(hcd:(x==("__classdict__" : Str))=false:=by decide):PE X (.Name x pos) (fT i):=by
 intro pins s σ H Q I h;obtain⟨v,e,h⟩:=h;obtain⟨m,hn,hl⟩:=I.loc;obtain⟨u,r,l⟩:=hl i x v hN e hv;have fin:EP X pins σ Q u s:=⟨v,H,I,r,h⟩
 rcases l with ⟨hk,hm⟩|⟨hk,c,hc,hcell⟩
 ·exact wpAny_Name (wpAny_loadName_local I.ok.kind hk hn hm fin) hd
 ·rcases hk with hk|hk
  ·exact wpAny_Name (wpAny_loadName_cell I.ok.kind hk hc hcell fin) hd
  ·exact wpAny_Name (wpAny_loadName_free I.ok.kind hk hc hcell fin hcd) hd
theorem rV{i j pos}:PE X (.Constant (.int i) j pos) (tC (.int i)):=λ_ _ _ H _ I h=>wpAny_Constant_int ⟨.int i,H,I.tok _,⟨_,rfl⟩,h⟩
theorem rh{b j pos}:PE X (.Constant (.bool b) j pos) (tC (.bl b)):=λ_ _ _ H _ I h=>Constant_bool ⟨.bl b,H,I,rfl,h⟩
theorem uS{j pos}:PE X (.Constant .none j pos) (tC .non):=λ_ _ _ H _ I h=>Constant_none ⟨.non,H,I,rfl,h⟩
theorem pq{x j pos}:PE X (.Constant (.str x) j pos) (tC (.str x)):=λ_ _ _ H _ I h=>Calls.Constant_str ⟨.str x,H,I.tok _,⟨_,rfl⟩,h⟩
noncomputable def Gl(X:Cx)(x:Str):Prop:=X.env.kindOf x=some .globalImplicit
theorem jd{E:ae->af->Prop}{pins:List (Addr×Obj)}{s:af}{σ:St}{H:Hp}{x:Str}{u:ae}{pos:Pos}{Q:ae->af->Prop}(I:Inv X pins σ H s)(hg:Gl X x)(hm:X.mg x=some u)(h:Q u s)
  (hd:(x==("__debug__" : Str))=false:=by decide):ak (ar X.prog X.w) X.A (eval (.Name x pos) X.env) Q E s:=
 Calls.Name_function_global I.ok.kind hg (Calls.loadGlobal_global (by rw[I.ok.glob];exact I.mod.glob.keeps I.bk) hm h) hd
theorem eU{E:ae->af->Prop}{pins:List (Addr×Obj)}{s:af}{σ:St}{H:Hp}{x:Str}{u:ae}{pos:Pos}{Q:ae->af->Prop}(I:Inv X pins σ H s)(hg:Gl X x)(hm:X.mg x=none)(hv:bM x=some u)(h:Q u s)
  (hn:x≠"__name__":=by decide) (hd:(x==("__debug__" : Str))=false:=by decide):ak (ar X.prog X.w) X.A (eval (.Name x pos) X.env) Q E s:=by
 obtain⟨mb,h1,h2⟩:=I.mod.blt;exact Calls.Name_function_global I.ok.kind hg (Calls.loadGlobal_builtin (by rw[I.ok.glob];exact I.mod.glob.keeps I.bk) hm (by rw[I.ok.blt];exact h1.keeps I.bk) ((h2 x hn).trans hv) h) hd
theorem gP{x:Str}{v:V}{u:ae}{pos:Pos}(hg:Gl X x)(hm:X.mg x=some u)(r:RelV v u)(hd:(x==("__debug__" : Str))=false:=by decide):PE X (.Name x pos) (tC v):=
 λ_ _ _ H _ I h=>jd I hg hm ⟨v,H,I,r,h⟩ hd
theorem yg{x:Str}{v:V}{u:ae}{pos:Pos}(hg:Gl X x)(hm:X.mg x=none)(hv:bM x=some u)(r:RelV v u)(hn:x≠"__name__":=by decide)(hd:(x==("__debug__" : Str))=false:=by decide):PE X (.Name x pos) (tC v):=
 λ_ _ _ H _ I h=>eU I hg hm hv ⟨v,H,I,r,h⟩ hn hd
variable{a b:Expr}{ta tb:TE}{pos:Pos}
variable{tA tB':TT}{rest:List Expr}
noncomputable def vF(t u:TT):TT:=λσ H Q=>t σ H λc H1=>if c=true then u σ H1 Q else Q false H1
noncomputable def tOr(t u:TT):TT:=λσ H Q=>t σ H λc H1=>if c=true then Q true H1 else u σ H1 Q
noncomputable def sf(t:TT):TT:=λσ H Q=>t σ H λc H1=>Q (!c) H1
theorem ur(ha:PT X a tA):PW X (.BoolOp .And [a] pos) tA:=by
 intro wh pins s σ H Q I h;refine isTrue_and (thn (ha pins s σ H Q I h) λc s1 e=>?_);cases c with
 |true=>exact isTrue_and_nil e
 |false=>exact e
theorem yA(ha:PT X a tA):PW X (.BoolOp .Or [a] pos) tA:=by
 intro wh pins s σ H Q I h;refine isTrue_or (thn (ha pins s σ H Q I h) λc s1 e=>?_);cases c with
 |false=>exact isTrue_or_nil e
 |true=>exact e
theorem ui(ha:PT X a tA)(hb:PW X (.BoolOp .And (b::rest) pos) tB'):PW X (.BoolOp .And (a::b::rest) pos) (vF tA tB'):=by
 intro wh pins s σ H Q I h;refine isTrue_and (thn (ha pins s σ H _ I h) λc s1 ⟨H1,I1,q1⟩=>?_);cases c with
 |true=>exact hb wh pins s1 σ H1 Q I1 q1
 |false=>exact⟨H1,I1,q1⟩
theorem o5(ha:PT X a tA)(hb:PW X (.BoolOp .Or (b::rest) pos) tB'):PW X (.BoolOp .Or (a::b::rest) pos) (tOr tA tB'):=by
 intro wh pins s σ H Q I h;refine isTrue_or (thn (ha pins s σ H _ I h) λc s1 ⟨H1,I1,q1⟩=>?_);cases c with
 |true=>exact⟨H1,I1,q1⟩
 |false=>exact hb wh pins s1 σ H1 Q I1 q1
theorem wm(ha:PT X a tA):PT X (.UnaryOp .Not a pos) (sf tA):=by
 intro pins s σ H Q I h;exact isTrue_not (ha pins s σ H (λc H1=>Q (!c) H1) I h)
noncomputable def w_(ta tb:TE):TE:=λσ H Q=>ta σ H λx H1=>∃c,x=.bl c/\if c=true then tb σ H1 Q else Q (.bl false) H1
noncomputable def uc(ta tb:TE):TE:=λσ H Q=>ta σ H λx H1=>∃c,x=.bl c/\if c=true then Q (.bl true) H1 else tb σ H1 Q
noncomputable def tK(ta:TE):TE:=λσ H Q=>ta σ H λx H1=>∃c,x=.bl c/\Q (.bl (!c)) H1
theorem yf{op}{t:TE}(h:PE X a t):PE X (.BoolOp op [a] pos) t:=λpins s σ H Q I hw=>BoolOp_one (h pins s σ H Q I hw)
theorem sQ(ha:PE X a ta)(hb:PE X (.BoolOp .And (b::rest) pos) tb):PE X (.BoolOp .And (a::b::rest) pos) (w_ ta tb):=by
 intro pins s σ H Q I h;refine BoolOp_and (thn (ha pins s σ H _ I h) λv s1 ⟨x,H1,I1,r1,q1⟩=>?_);obtain⟨c,rfl,q1⟩:=q1;cases r1;refine bI ?_;cases c with
 |true=>exact hb pins s1 σ H1 Q I1 q1
 |false=>exact⟨.bl false,H1,I1,rfl,q1⟩
theorem wF(ha:PE X a ta)(hb:PE X (.BoolOp .Or (b::rest) pos) tb):PE X (.BoolOp .Or (a::b::rest) pos) (uc ta tb):=by
 intro pins s σ H Q I h;refine BoolOp_or (thn (ha pins s σ H _ I h) λv s1 ⟨x,H1,I1,r1,q1⟩=>?_);obtain⟨c,rfl,q1⟩:=q1;cases r1;refine bI ?_;cases c with
 |false=>exact hb pins s1 σ H1 Q I1 q1
 |true=>exact⟨.bl true,H1,I1,rfl,q1⟩
theorem nL(ha:PE X a ta):PE X (.UnaryOp .Not a pos) (tK ta):=by
 intro pins s σ H Q I h;refine UnaryOp_ (thn (ha pins s σ H _ I h) λv s1 ⟨x,H1,I1,r1,q1⟩=>?_);obtain⟨c,rfl,q1⟩:=q1;cases r1;exact not_of (bI ⟨.bl (!c),H1,I1,rfl,q1⟩)
noncomputable def tIf(t:TT)(ta tb:TE):TE:=λσ H Q=>t σ H λc H1=>if c=true then ta σ H1 Q else tb σ H1 Q
theorem yw{c:Expr}(hc:PT X c tA)(ha:PE X a ta)(hb:PE X b tb):PE X (.IfExp c a b pos) (tIf tA ta tb):=by
 intro pins s σ H Q I h;refine wpAny_IfExp (thn (hc pins s σ H _ I h) λd s1 ⟨H1,I1,q1⟩=>?_);cases d with
 |true=>exact ha pins s1 σ H1 Q I1 q1
 |false=>exact hb pins s1 σ H1 Q I1 q1
end
noncomputable def SqL(K:aB)(H:Hp)(a:Addr)(xs:List V):Prop:=
 Rd H a (.lst xs) \/
  ∃(o:Obj) (its:Array ae) (n:Nat),K.lookup a=some o/\o.cls=.type "list"/\o.dict=none/\o.data=.seq its n/\its.size<=aX/\Vals xs its.toList
noncomputable def SqT(K:aB)(H:Hp)(a:Addr)(xs:List V):Prop:=
 Rd H a (.tup xs) \/
  ∃(o:Obj) (its:Array ae) (n:Nat),K.lookup a=some o/\o.cls=.type "tuple"/\o.data=.seq its n/\its.size<=aX/\Vals xs its.toList
noncomputable def vR:ae->Option V
 | .none=>some .non
 | .bool b=>some (.bl b)
 | .int i _=>some (.int i)
 | .str x _=>some (.str x)
 | .bytes b _=>some (.byt b)
 | .float b _=>some (.flt b)
 | .ref a=>some (.ref a)
 | .type n=>some (.ty n)
 |_=>none
theorem RelV.abs{x:V}{u:ae}(r:RelV x u):vR u=some x:=by
 cases x with
 |non=>cases r;rfl
 |bl _=>cases r;rfl
 |int _=>obtain⟨t,rfl⟩:=r;rfl
 |str _=>obtain⟨t,rfl⟩:=r;rfl
 |byt _=>obtain⟨t,rfl⟩:=r;rfl
 |flt _=>obtain⟨t,rfl⟩:=r;rfl
 |ref _=>cases r;rfl
 |ty _=>cases r;rfl
theorem RelV.inj{x y:V}{u:ae}(r:RelV x u)(q:RelV y u):x=y:=bV (r.abs.symm.trans q.abs)
theorem Vals.inj{xs ys:List V}{us:List ae}(h:Vals xs us)(h':Vals ys us):xs=ys:=by
 induction h generalizing ys with
 |nil=>cases h';rfl
 |cons r t ih=>cases h' with
  |cons r' t'=>rw[r.inj r',ih t']
section
variable{X:Cx}{pins:List (Addr×Obj)}{σ:St}{H:Hp}{s:af}{a:Addr}{xs ys:List V}
theorem SqL.of{K:aB}(h:H a=some (.lst xs)):SqL K H a xs:=.inl (.inl h)
theorem SqT.of{K:aB}(h:H a=some (.tup xs)):SqT K H a xs:=.inl (.inl h)
theorem Inv.list(I:Inv X pins σ H s)(h:SqL X.K H a xs):∃its:List ae,Vals xs its/\PlainL s.heap a its.toArray/\xs.length<=sizeLine:=by
 rcases h with h|⟨o,its,n,hk,hc,hd,hs,hz,r⟩
 ·obtain⟨z,its,n,r,e⟩:=h.ok I.hok;exact⟨its,r,⟨_,n,e,rfl,rfl,rfl⟩,z⟩
 ·refine⟨its.toList,r,⟨o,n,I.kIn a o hk,hc,hd,by simpa using hs⟩,?_⟩;have e:=r.length;simp only[aV]at e;lia
theorem Inv.tuple(I:Inv X pins σ H s)(h:SqT X.K H a xs):∃its:List ae,Vals xs its/\IsTup s.heap a its.toArray/\xs.length<=sizeLine:=by
 rcases h with h|⟨o,its,n,hk,hc,hs,hz,r⟩
 ·obtain⟨z,its,r,p⟩:=h.ok I.hok;exact⟨its,r,p,z⟩
 ·refine⟨its.toList,r,⟨o,I.kIn a o hk,hc,n,by simpa using hs⟩,?_⟩;have e:=r.length;simp only[aV]at e;lia
theorem Inv.list_inj(I:Inv X pins σ H s)(h:SqL X.K H a xs)(h':SqL X.K H a ys):xs=ys:=by
 obtain⟨its,r,⟨o,n,e,_,_,d⟩,_⟩:=I.list h;obtain⟨its',r',⟨o',n',e',_,_,d'⟩,_⟩:=I.list h';rw[e]at e';cases e';rw[d]at d';injection d' with d1 _
 have:its=its':=by simpa using congrArg Array.toList d1
 subst this;exact r.inj r'
theorem Inv.tuple_inj(I:Inv X pins σ H s)(h:SqT X.K H a xs)(h':SqT X.K H a ys):xs=ys:=by
 obtain⟨its,r,⟨o,e,_,n,d⟩,_⟩:=I.tuple h;obtain⟨its',r',⟨o',e',_,n',d'⟩,_⟩:=I.tuple h';rw[e]at e';cases e';rw[d]at d';injection d' with d1 _
 have:its=its':=by simpa using congrArg Array.toList d1
 subst this;exact r.inj r'
end
abbrev Cx.wish(X:Cx)(E:ae->af->Prop):Cx:={X with xe:=E}
abbrev Cx.nox(X:Cx):Cx:=X.wish λ_ _=>False
theorem Cx.Ok.wish{X:Cx}(ok:X.Ok)(E:ae->af->Prop):(X.wish E).Ok:=
 ⟨ok.mod,ok.kind,ok.glob,ok.blt,ok.above,ok.inj,ok.has,ok.cab,ok.hd,ok.frames,ok.stk,ok.exf,ok.bs,ok.bsz,ok.noex,ok.exfs,ok.funs,ok.frf⟩
theorem Cx.Ok.unwish{X:Cx}{E:ae->af->Prop}(ok:(X.wish E).Ok):X.Ok:=
 ⟨ok.mod,ok.kind,ok.glob,ok.blt,ok.above,ok.inj,ok.has,ok.cab,ok.hd,ok.frames,ok.stk,ok.exf,ok.bs,ok.bsz,ok.noex,ok.exfs,ok.funs,ok.frf⟩
section
variable{X:Cx}{pins:List (Addr×Obj)}{σ:St}{H:Hp}{s:af}{E:ae->af->Prop}
theorem Inv.wish(I:Inv X pins σ H s)(E:ae->af->Prop):Inv (X.wish E) pins σ H s:=⟨I.ok.wish E,I.os,I.bare,I.base,I.loc,I.cell,I.free,I.freeC,I.pin,I.hok,I.len⟩
theorem Inv.unwish(I:Inv (X.wish E) pins σ H s):Inv X pins σ H s:=⟨I.ok.unwish,I.os,I.bare,I.base,I.loc,I.cell,I.free,I.freeC,I.pin,I.hok,I.len⟩
theorem SP.unwish{D:Ends}{f:Flow}{s':af}(h:SP (X.wish E) pins D f s'):SP X pins D f s':=by
 cases f with
 |next=>obtain⟨σ',H',I,q⟩:=h;exact⟨σ',H',I.unwish,q⟩
 |brk=>obtain⟨σ',H',I,q⟩:=h;exact⟨σ',H',I.unwish,q⟩
 |cont=>obtain⟨σ',H',I,q⟩:=h;exact⟨σ',H',I.unwish,q⟩
 |ret u=>obtain⟨v,σ',H',I,r,q⟩:=h;exact⟨v,σ',H',I.unwish,r,q⟩
end
section
variable{X:Cx}{st:Stmt}{rest:List Stmt}{t u:TS}{e:Expr}{te:TE}{pos:Pos}
noncomputable def fO:TS:=λD σ H=>D.nx σ H
noncomputable def xj(t u:TS):TS:=λD σ H=>t {D with nx:=u D} σ H
theorem oY:PSs X [] fO:=λ_ _ σ H _ I h=>wpAny_execs_nil ⟨σ,H,I,h⟩
theorem vp(h1:PS X st t)(h2:PSs X rest u):PSs X (st::rest) (xj t u):=by
 intro pins s σ H D I h;refine wpAny_execs_cons (thn (h1 pins s σ H {D with nx:=u D} I h) λf s1 q=>?_);cases f with
 |next=>
  obtain⟨σ',H',I',q⟩:=q;exact h2 pins s1 σ' H' D I' q
 |ret v=>exact q
 |brk=>exact q
 |cont=>exact q
noncomputable def rO:TS:=λD σ H=>D.bk σ H
noncomputable def x8:TS:=λD σ H=>D.ct σ H
theorem vA:PS X (.Pass pos) fO:=λ_ _ σ H _ I h=>wpAny_Pass ⟨σ,H,I,h⟩
theorem xY:PS X (.Break pos) rO:=λ_ _ σ H _ I h=>wpAny_Break ⟨σ,H,I,h⟩
theorem uN:PS X (.Continue pos) x8:=λ_ _ σ H _ I h=>wpAny_Continue ⟨σ,H,I,h⟩
theorem Inv.quiet{pins:List (Addr×Obj)}{σ:St}{H:Hp}{s:af}(I:Inv X pins σ H s):interactive X.env=false:=by simp[interactive,I.ok.kind]
noncomputable def vE(te:TE):TS:=λD σ H=>te σ H λ_ H1=>D.nx σ H1
theorem jU(he:PE X e te)(hs:swapsWith e none pos.line X.env=pure false:=by rfl):PS X (.Expr e pos) (vE te):=by
 intro pins s σ H D I h;exact wpAny_Expr_any (thn (he pins s σ H _ I h) λv s1 ⟨x,H1,I1,r1,q1⟩=>⟨σ,H1,I1,q1⟩) I.quiet hs
noncomputable def xW(te:TE):TS:=λD σ H=>te σ H D.rt
theorem mH(he:PE X e te):PS X (.Return (some e) pos) (xW te):=by
 intro pins s σ H D I h;exact wpAny_Return_some (thn (he pins s σ H _ I h) λv s1 ⟨x,H1,I1,r1,q1⟩=>⟨x,σ,H1,I1,r1,q1⟩)
noncomputable def pd:TS:=λD _ H=>D.rt .non H
theorem uV:PS X (.Return none pos) pd:=λ_ _ σ H _ I h=>wpAny_Return_none ⟨.non,σ,H,I,rfl,h⟩
noncomputable def gO(c:TT)(t u:TS):TS:=λD σ H=>c σ H λb H1=>if b=true then t D σ H1 else u D σ H1
theorem t7{c:Expr}{a b:List Stmt}{tc:TT}(hc:PT X c tc)(ha:PSs X a t)(hb:PSs X b u):PS X (.If c a b pos) (gO tc t u):=by
 intro pins s σ H D I h;refine wpAny_If (thn (hc pins s σ H _ I h) λd s1 ⟨H1,I1,q1⟩=>?_);cases d with
 |true=>exact ha pins s1 σ H1 D I1 q1
 |false=>exact hb pins s1 σ H1 D I1 q1
end
abbrev TG:=V->St->Hp->(St->Hp->Prop)->Prop
abbrev TGs:=List V->St->Hp->(St->Hp->Prop)->Prop
noncomputable def PG(X:Cx)(target:Expr)(t:TG):Prop:=
 ∀(pins:List (Addr×Obj)) (s:af) (σ:St) (H:Hp) (v:V) (u:ae) (Q:St->Hp->Prop),Inv X pins σ H s->RelV v u->t v σ H Q ->
  ak (ar X.prog X.w) X.A (assign target X.env u) (λ_ s'=>∃σ' H',Inv X pins σ' H' s'/\Q σ' H') X.xe s
noncomputable def PGs(X:Cx)(ts:List Expr)(t:TGs):Prop:=
 ∀(pins:List (Addr×Obj)) (s:af) (σ:St) (H:Hp) (vs:List V) (us:List ae) (Q:St->Hp->Prop),Inv X pins σ H s->Vals vs us->t vs σ H Q ->
  ak (ar X.prog X.w) X.A (assignInOrder ((assignEach ts X.env).map (·.2)) us) (λ_ s'=>∃σ' H',Inv X pins σ' H' s'/\Q σ' H') X.xe s
abbrev jn:=V->V->V->Hp->(Hp->Prop)->Prop
noncomputable def lK(X:Cx)(t:jn):Prop:=
 ∀(pins:List (Addr×Obj)) (s:af) (σ:St) (H:Hp) (o i v:V) (ov iv u:ae) (Q:Hp->Prop),Inv X pins σ H s->RelV o ov->RelV i iv->RelV v u->t o i v H Q ->
  ak (ar X.prog X.w) X.A (setItem ov iv u) (λ_ s'=>∃H',Inv X pins σ H' s'/\Q H') X.xe s
section
variable{X:Cx}{pos:Pos}
noncomputable def dU(i:Nat):TG:=λv σ H Q=>Q (σ.set i (some v)) H
theorem rE{i:Nat}{x:Str}(hN:X.N.Nodup)(hi:X.N[i]? = some x)(hx:Loc X.env.scope x)(hf:X.fn x=true\/X.env.scope.names.lookup x=some .local:=by first|exact .inl rfl|exact .inr rfl|assumption):PG X (.Name x pos) (dU i):=by
 intro pins s σ H v u Q I r h;exact wpAny_assign_Name (jL I hN hi hx r (λs' I'=>⟨_,H,I',h⟩) hf)
noncomputable def lS:TGs:=λvs σ H Q=>vs=[]/\Q σ H
noncomputable def m8(t:TG)(u:TGs):TGs:=λvs σ H Q=>∃v r,vs=v::r/\t v σ H λσ' H'=>u r σ' H' Q
theorem tQ:PGs X [] lS:=by
 intro pins s σ H vs us Q I r h;obtain⟨e,h⟩:=h;subst e;cases r;exact assignInOrder_nil ⟨σ,H,I,h⟩
theorem vG{e:Expr}{es:List Expr}{t:TG}{u:TGs}(h1:PG X e t)(h2:PGs X es u)
  (hs:(assignEach (e::es) X.env).map (·.2)=assign e X.env::(assignEach es X.env).map (·.2):=by rfl):PGs X (e::es) (m8 t u):=by
 intro pins s σ H vs us Q I r h;obtain⟨v,vr,e1,h⟩:=h;subst e1;cases r with
 |cons r rr=>
  rw[hs];refine assignInOrder_cons (thn (h1 pins s σ H _ _ _ I r h) λ_ s1 ⟨σ1,H1,I1,q1⟩=>?_);exact h2 pins s1 σ1 H1 _ _ Q I1 rr q1
noncomputable def jC(K:aB)(n:Nat)(t:TGs):TG:=λv σ H Q=>∃a xs,v=.ref a/\SqT K H a xs/\xs.length=n/\t xs σ H Q
theorem vg{es:List Expr}{k:Nat}{t:TGs}{n:Nat}(hc:X.calm=true)(h:PGs X es t)
  (hn:(assignEach es X.env).length=n:=by rfl) (hst:(assignEach es X.env).findIdx? (·.1)=none:=by rfl):PG X (.Tuple es k pos) (jC X.K n t):=by
 intro pins s σ H v u Q I r hw;obtain⟨a,xs,e1,hq,hl,hw⟩:=hw;subst e1;cases r;obtain⟨its,rv,ht,hz⟩:=I.tuple hq;refine assign_Tuple_tuple (I.ok.hd hc) ht (by simp[hn,<-hl,rv.length]) hst λh' hx=>?_
 have I1:Inv X pins σ H {s with heap:=h'}:=I.kept (t':=s.toks) λb o e=>hx b o (a9 (aK e)) e
 exact h pins _ σ H xs _ Q I1 (by simpa using rv) hw
noncomputable def nt(to ti:TE)(t:jn):TG:=λv σ H Q=>to σ H λo H1=>ti σ H1 λi H2=>t o i v H2 λH3=>Q σ H3
theorem yv{o i:Expr}{to ti:TE}{t:jn}(ho:PE X o to)(hi:PE X i ti)(hs:lK X t)
  (ha:∀v,assign (.Subscript o i pos) X.env v=(do
   let ov <-holding [v] (eval o X.env)
   let iv <-holding [v,ov] (eval i X.env)
   standAt pos
   holding [v,ov,iv] (setItem ov iv v)
   release [v,ov,iv] []):=by intro _;rfl):PG X (.Subscript o i pos) (nt to ti t):=by
 intro pins s σ H v u Q I r h;rw[ha];refine aq (b5 (thn (ho pins s σ H _ I h) λov s1 ⟨x,H1,I1,r1,q1⟩=>?_));refine aq (b5 (thn (hi pins s1 σ H1 _ I1 q1) λiv s2 ⟨y,H2,I2,r2,q2⟩=>?_));refine aq (wpAny_standAt (aq (b5 (thn (hs pins s2 σ H2 x y v ov iv u _ I2 r1 r2 r q2) λ_ s3 ⟨H3,I3,q3⟩=>?_))));exact wpAny_release ⟨σ,H3,I3,q3⟩
noncomputable def gG(te:TE)(g:TG):TS:=λD σ H=>te σ H λx H1=>g x σ H1 D.nx
theorem lW{tg e:Expr}{te:TE}{g:TG}(he:PE X e te)(hg:PG X tg g)(hs:swapsWithSole [tg] e pos.line X.env=pure false:=by rfl)(hw:swappedStores [tg] e X.env=pure none:=by rfl)
  (h1:(assignEach [tg] X.env).map (·.2)=[assign tg X.env]:=by rfl):PS X (.Assign [tg] e pos) (gG te g):=by
 intro pins s σ H D I h;refine wpAny_Assign_stores (thn (he pins s σ H _ I h) λv s1 ⟨x,H1,I1,r1,q1⟩=>?_) hs hw;rw[h1];exact thn (hg pins s1 σ H1 x v _ I1 r1 q1) λ_ s2 q=>q
theorem kK{i:Nat}{x:Str}{e:Expr}{te:TE}{pos':Pos}(hN:X.N.Nodup)(hi:X.N[i]? = some x)(hx:Loc X.env.scope x)(he:PE X e te)(hs:swapsWith e (some (.Name x pos')) pos.line X.env=pure false:=by rfl)(hf:X.fn x=true\/X.env.scope.names.lookup x=some .local:=by first|exact .inl rfl|exact .inr rfl|assumption) :
  PS X (.Assign [.Name x pos'] e pos) (gG te (dU i)):=by
 intro pins s σ H D I h;refine wpAny_Assign_Name (thn (he pins s σ H _ I h) λv s1 ⟨y,H1,I1,r1,q1⟩=>?_) hs;exact jL I1 hN hi hx r1 (λs2 I2=>⟨_,H1,I2,q1⟩) hf
end
section
variable{X:Cx}{pos:Pos}
end
structure It where
 go:Nat->Hp->Prop
 yld:Nat->Hp->V->Hp->Prop
 stop:Nat->Hp->Prop
noncomputable def de(X:Cx)(pins:List (Addr×Obj))(H:Hp)(b:Addr):Prop:=
 H b=none/\b≠X.env.locals/\b∉X.fs/\(b∈X.ex\/X.s₀.heap.objs.size<=b)/\(∀x c,X.env.cells.lookup x=some c->c≠b)/\∀p∈X.pn++pins,p.1≠b
theorem Inv.fpOk{X:Cx}{pins:List (Addr×Obj)}{σ:St}{H H':Hp}{s:af}{b:Addr}(I:Inv X pins σ H s)(hb:s.heap.objs.size<=b)(hn:H' b=none):de X pins H' b:=by
 refine⟨hn,Nat.ne_of_gt (bB I.lt hb),I.nofs hb,.inr (bz I.sz hb),λx c e z=>?_,λp hp z=>?_⟩
 ·obtain⟨v,q⟩:=I.cell x c e;exact absurd (bB q.lt (by rw[z];exact hb)) (bL _)
 ·exact absurd (bB (aK (I.pin p hp).1) (by rw[z];exact hb)) (bL _)
structure Turn(P:aA)(w:av)(K:aB)(tg:Expr)(J:It)(fp:List Addr)(it:Addr)(tn:Nat->Heap->Prop):Prop where
 mem:it∈fp
 obj:∀i h,tn i h->∀b∈fp,∃o,h.get? b=some o/\∀v,o.data≠.cell v
 keep:∀i h h',tn i h->(∀b∈fp,∀o,h.get? b=some o->h'.get? b=some o)->tn i h'
 item:∀(X:Cx),X.prog=P->X.w=w->X.K=K->X.calm=true->∀(i:Nat) (pins:List (Addr×Obj)) (s:af) (σ:St) (H:Hp) (E:ae->af->Prop),Inv X pins σ H s->(∀b∈fp,de X pins H b)->tn i s.heap->J.go i H ->
  ak (ar P w) X.A (pyNext (.ref it)) (λr s1=>∃u,r=some u /\
   ak (ar P w) X.A (letOwnedTupleGo tg (.ref it) u) (λ_ s2=>∃x H',Inv X pins σ H' s2/\RelV x u/\J.yld i H x H'/\tn (i+1) s2.heap/\∀b∈fp,H' b=none) E s1) E s
 done:∀(X:Cx),X.prog=P->X.w=w->X.K=K->X.calm=true->∀(i:Nat) (pins:List (Addr×Obj)) (s:af) (σ:St) (H:Hp) (E:ae->af->Prop),Inv X pins σ H s->(∀b∈fp,de X pins H b)->tn i s.heap->J.stop i H ->
  ak (ar P w) X.A (pyNext (.ref it)) (λr s1=>r=none/\Inv X pins σ H s1) E s
 self:∀(A:az) (i:Nat) (s:af) (Q:ae->af->Prop) (E:ae->af->Prop),tn i s.heap->Q (.ref it) s->ak (ar P w) A (pyIter (.ref it)) Q E s
abbrev TI:=St->Hp->(It->Hp->Prop)->Prop
noncomputable def PIE(X:Cx)(pins:List (Addr×Obj))(σ:St)(tg:Expr)(R:It->Hp->Prop)(itv:ae)(s2:af):Prop:=
 ∃(it:Addr) (fp:List Addr) (tn:Nat->Heap->Prop) (J:It) (H':Hp),itv=.ref it/\Inv X pins σ H' s2/\Turn X.prog X.w X.K tg J fp it tn/\tn 0 s2.heap/\(∀b∈fp,de X pins H' b)/\R J H'
noncomputable def PI(X:Cx)(tg iter:Expr)(wi:TI):Prop:=
 ∀(pins:List (Addr×Obj)) (s:af) (σ:St) (H:Hp) (R:It->Hp->Prop),Inv X pins σ H s->wi σ H R ->
  ak (ar X.prog X.w) X.A (eval iter X.env) (λv s1=>ak (ar X.prog X.w) X.A (pyIter v) (PIE X pins σ tg R) X.xe s1) X.xe s
theorem gq{M:Model}{A:az}{E:ae->af->Prop}{s:af}{tg:Expr}{it:Addr}{u:ae}{o:Obj}{n:String}{vs:Array ae}{Q:Unit->af->Prop}(ho:s.heap.get? it=some o)(hc:o.cls=.type n)(hd:o.data=.fields vs)
  (hn:["enumerate","zip","dict_itemiterator","dict_reverseitemiterator","odict_iterator","itertools.zip_longest","itertools.pairwise"].contains n=false) (hQ:Q () s):ak M A (letOwnedTupleGo tg (.ref it) u) Q E s:=by
 unfold letOwnedTupleGo;cases tg<;>first
  |exact aC hQ
  | (cases u<;>first
    |exact aC hQ
    | (refine aq (wpAny_load ho ?_)
       rw[hc,hd];show ak M A (if (["enumerate","zip","dict_itemiterator","dict_reverseitemiterator","odict_iterator","itertools.zip_longest","itertools.pairwise"].contains n&&vs[0]? == some (rawInt _))=true then _ else _) Q E s;rw[if_neg (by intro h;rw[hn,Bool.false_and]at h;cases h)];exact aC hQ))
noncomputable def Itl(K:aB)(a:Addr):It:=
 ⟨λi H=>∃xs x,SqL K H a xs/\xs[i]? = some x,λi H x H'=>H'=H/\∀xs,SqL K H a xs->xs[i]? = some x,λi H=>∃xs,SqL K H a xs/\xs.length<=i⟩
noncomputable def Itt(K:aB)(a:Addr):It:=
 ⟨λi H=>∃xs x,SqT K H a xs/\xs[i]? = some x,λi H x H'=>H'=H/\∀xs,SqT K H a xs->xs[i]? = some x,λi H=>∃xs,SqT K H a xs/\xs.length<=i⟩
noncomputable def Itr(lo:Int)(n:Nat):It:=⟨λi _=>i<n,λi H x H'=>H'=H/\x=.int (lo+i),λi _=>n<=i⟩
theorem wt{P:aA}{w:av}{K:aB}{tg:Expr}(a it:Addr):Turn P w K tg (Itl K a) [it] it (λi h=>h.IsListIter it a i) where
 mem:=by simp
 obj:=λi h st b hb=>by
  have e:b=it:=by simpa using hb
  subst e;obtain⟨o,e,c,d⟩:=st;exact⟨o,e,λv z=>by rw[d]at z;cases z⟩
 keep:=λi h h' st k=>st.at λo e=>k it (by simp) o e
 item:=by
  intro X hP hw hK hc i pins s σ H E I hf st hg;subst hP hw hK;obtain⟨xs,x,hq,hx⟩:=hg;obtain⟨its,rv,p,hz⟩:=I.list hq;obtain⟨u,hu,ru⟩:=rv.get hx;obtain⟨f0,f1,f2,f3,f4,f5⟩:=hf it (by simp);refine wpAny_pyNext_list_item st p.isList (x:=u) (by simpa using hu) λh' st' sb=>?_
  have I1:Inv X pins σ H {s with heap:=h'}:=I.turned (t':=s.toks) (λb o hb e=>(sb.2 b hb).trans e) f0 f1 f3 f4 f5;obtain⟨o,e,c,d⟩:=id st';exact⟨u,rfl,gq (s:={s with heap:=h'}) e c d (by decide) ⟨x,H,I1,ru,⟨rfl,λys hy=>by rw[I.list_inj hy hq];exact hx⟩,st',λb hb=>(hf b hb).1⟩⟩
 done:=by
  intro X hP hw hK hc i pins s σ H E I hf st hg;subst hP hw hK;obtain⟨xs,hq,hx⟩:=hg;obtain⟨its,rv,p,hz⟩:=I.list hq;obtain⟨f0,f1,f2,f3,f4,f5⟩:=hf it (by simp);have hl:=rv.length;exact wpAny_pyNext_list_end (I.ok.hd hc) st p.isList (by simp;lia) λh' eb=>⟨rfl,I.turned (t':=s.toks) (λb o hb e=>eb b o hb e) f0 f1 f3 f4 f5⟩
 self:=λ_ _ _ _ _ st h=>wpAny_pyIter_listiter st h
theorem o_{P:aA}{w:av}{K:aB}{tg:Expr}(a it:Addr):Turn P w K tg (Itt K a) [it] it (λi h=>h.IsTupleIter it a i) where
 mem:=by simp
 obj:=λi h st b hb=>by
  have e:b=it:=by simpa using hb
  subst e;obtain⟨o,e,c,d⟩:=st;exact⟨o,e,λv z=>by rw[d]at z;cases z⟩
 keep:=λi h h' st k=>st.at λo e=>k it (by simp) o e
 item:=by
  intro X hP hw hK hc i pins s σ H E I hf st hg;subst hP hw hK;obtain⟨xs,x,hq,hx⟩:=hg;obtain⟨its,rv,p,hz⟩:=I.tuple hq;obtain⟨u,hu,ru⟩:=rv.get hx;obtain⟨f0,f1,f2,f3,f4,f5⟩:=hf it (by simp);refine wpAny_pyNext_tuple_item st (show s.heap.IsTuple a its.toArray from p) (x:=u) (by simpa using hu) λh' st' sb=>?_
  have I1:Inv X pins σ H {s with heap:=h'}:=I.turned (t':=s.toks) (λb o hb e=>(sb.2 b hb).trans e) f0 f1 f3 f4 f5;obtain⟨o,e,c,d⟩:=id st';exact⟨u,rfl,gq (s:={s with heap:=h'}) e c d (by decide) ⟨x,H,I1,ru,⟨rfl,λys hy=>by rw[I.tuple_inj hy hq];exact hx⟩,st',λb hb=>(hf b hb).1⟩⟩
 done:=by
  intro X hP hw hK hc i pins s σ H E I hf st hg;subst hP hw hK;obtain⟨xs,hq,hx⟩:=hg;obtain⟨its,rv,p,hz⟩:=I.tuple hq;obtain⟨f0,f1,f2,f3,f4,f5⟩:=hf it (by simp);have hl:=rv.length;exact wpAny_pyNext_tuple_end (I.ok.hd hc) st (show s.heap.IsTuple a its.toArray from p) (by simp;lia) λh' eb=>⟨rfl,I.turned (t':=s.toks) (λb o hb e=>eb b o hb e) f0 f1 f3 f4 f5⟩
 self:=λ_ _ _ _ _ st h=>wpAny_pyIter_tupleiter st h
theorem wZ{P:aA}{w:av}{K:aB}{tg:Expr}(it:Addr)(lo:Int)(n:Nat):Turn P w K tg (Itr lo n) [it] it (λi h=>IsRangeIter h it (lo+(i:Nat) * 1) ((n:Int)-(i:Nat)) 1) where
 mem:=by simp
 obj:=λi h st b hb=>by
  have e:b=it:=by simpa using hb
  subst e;exact⟨_,st,λv z=>by
   have z':Data.fields _=Data.cell v:=z;cases z'⟩
 keep:=λi h h' st k=>k it (by simp) _ st
 item:=by
  intro X hP hw hK hc i pins s σ H E I hf st hg;subst hP hw hK;obtain⟨f0,f1,f2,f3,f4,f5⟩:=hf it (by simp);have W:=Walks.range (prog:=X.prog) (w:=X.w) (I.ok.hd hc) it lo 1 n;refine W.item i s _ _ hg st λv h' tk hv st' kk=>?_
  obtain⟨t,rfl⟩:=hv;have I1:Inv X pins σ H {s with heap:=h',toks:=tk}:=I.turned (λb o hb e=>kk b o (by simpa using hb) e) f0 f1 f3 f4 f5;refine⟨_,rfl,gq (s:={s with heap:=h',toks:=tk}) (n:="range_iterator") st' rfl rfl (by decide) ⟨.int (lo+i),H,I1,⟨t,?_⟩,⟨rfl,rfl⟩,st',λb hb=>(hf b hb).1⟩⟩;rw[Int.mul_one]
 done:=by
  intro X hP hw hK hc i pins s σ H E I hf st hg;subst hP hw hK;obtain⟨f0,f1,f2,f3,f4,f5⟩:=hf it (by simp);exact wpAny_pyNext_range_end (I.ok.hd hc) st (by have:n<=i:=hg;lia) λh' eb=>⟨rfl,I.turned (t':=s.toks) (λb o hb e=>eb b o hb e) f0 f1 f3 f4 f5⟩
 self:=λ_ _ _ _ _ st h=>wpAny_pyIter_rangeiter st h
section
variable{X:Cx}{tg:Expr}
noncomputable def pL(K:aB)(tl:TE):TI:=λσ H R=>tl σ H λx H1=>∃a,x=.ref a/\(∃xs,SqL K H1 a xs)/\R (Itl K a) H1
noncomputable def uu(K:aB)(tl:TE):TI:=λσ H R=>tl σ H λx H1=>∃a,x=.ref a/\(∃xs,SqT K H1 a xs)/\R (Itt K a) H1
theorem pZ{l:Expr}{tl:TE}(hl:PE X l tl):PI X tg l (pL X.K tl):=by
 intro pins s σ H R I h;refine thn (hl pins s σ H _ I h) λv s1 ⟨x,H1,I1,r1,q1⟩=>?_
 obtain⟨a,e,⟨xs,hq⟩,q⟩:=q1;subst e;cases r1;obtain⟨its,rv,p,hz⟩:=I1.list hq;refine wpAny_pyIter_list p.isList ?_;refine⟨s1.heap.objs.size,[s1.heap.objs.size],_,_,H1,rfl,I1.kept (t':=s1.toks) λb o e=>Heap.get?_push_of_some _ e,wt a _,⟨_,Heap.get?_push_size _ rfl,rfl,rfl⟩,λb hb=>?_,q⟩;have e:b=s1.heap.objs.size:=by simpa using hb
 subst e;exact I1.fpOk (aD _) (I1.hok.fresh (aD _))
theorem wx{l:Expr}{tl:TE}(hl:PE X l tl):PI X tg l (uu X.K tl):=by
 intro pins s σ H R I h;refine thn (hl pins s σ H _ I h) λv s1 ⟨x,H1,I1,r1,q1⟩=>?_
 obtain⟨a,e,⟨xs,hq⟩,q⟩:=q1;subst e;cases r1;obtain⟨its,rv,p,hz⟩:=I1.tuple hq;refine wpAny_pyIter_tuple (show s1.heap.IsTuple a its.toArray from p) ?_;refine⟨s1.heap.objs.size,[s1.heap.objs.size],_,_,H1,rfl,I1.kept (t':=s1.toks) λb o e=>Heap.get?_push_of_some _ e,o_ a _,⟨_,Heap.get?_push_size _ rfl,rfl,rfl⟩,λb hb=>?_,q⟩;have e:b=s1.heap.objs.size:=by simpa using hb
 subst e;exact I1.fpOk (aD _) (I1.hok.fresh (aD _))
theorem ka{pins:List (Addr×Obj)}{σ:St}{H:Hp}{s:af}{R:It->Hp->Prop}{E:ae->af->Prop}{lo hi:Int}{t u v:Tok}{tk:Nat}(I:Inv X pins σ H s)(h1:-(2^62)<=lo)(h2:lo<2^62)(h3:-(2^62)<=hi)(h4:hi<2^62)
  (q:R (Itr lo (hi-lo).toNat) H):ak (ar X.prog X.w) X.A (pyIter (.ref s.heap.objs.size)) (PIE X pins σ tg R) E {s with heap:=s.heap.push {cls:=.type "range",data:=.fields #[.int lo t,.int hi u,.int 1 v]},toks:=tk}:=by
 refine wpAny_pyIter_range (IsRange.new ..) (small_one h1 h2 h3 h4) ?_;have I1:Inv X pins σ H {s with heap:=s.heap.push {cls:=.type "range",data:=.fields #[.int lo t,.int hi u,.int 1 v]},toks:=tk}:=I.kept λb o e=>Heap.get?_push_of_some _ e
 refine⟨(s.heap.push {cls:=.type "range",data:=.fields #[.int lo t,.int hi u,.int 1 v]}).objs.size,[(s.heap.push {cls:=.type "range",data:=.fields #[.int lo t,.int hi u,.int 1 v]}).objs.size],_,_,H,rfl,
  I1.kept (t':=tk) λb o e=>Heap.get?_push_of_some _ e,wZ _ lo (hi-lo).toNat,?_,λb hb=>?_,q⟩
 ·have e1:lo+((0:Nat):Int) * 1=lo:=by simp
  have e2:(((hi-lo).toNat:Nat):Int)-((0:Nat):Int)=cm lo hi 1:=by rw[rangeSize_one];split<;>lia
  show IsRangeIter _ _ (lo+((0:Nat):Int) * 1) ((((hi-lo).toNat:Nat):Int)-((0:Nat):Int)) 1;rw[e1,e2];exact Heap.get?_push_size _ rfl
 ·have e:b=(s.heap.push {cls:=.type "range",data:=.fields #[.int lo t,.int hi u,.int 1 v]}).objs.size:=by simpa using hb
  subst e;exact I1.fpOk (aD _) (I1.hok.fresh (aD _))
noncomputable def o4(ta:TA):TI:=λσ H R=>ta σ H λvs H1=>∃j:Int,vs=[.int j]/\-(2^62)<=j/\j<2^62/\R (Itr 0 j.toNat) H1
noncomputable def sY(ta:TA):TI:=λσ H R=>ta σ H λvs H1=>∃i j:Int,vs=[.int i,.int j]/\(-(2^62)<=i/\i<2^62/\-(2^62)<=j/\j<2^62)/\R (Itr i (j-i).toNat) H1
theorem pJ{a:Expr}{ta:TA}{p pos:Pos}(hg:Gl X "range")(hm:X.mg "range" = none)(ha:PA X [a] ta)(hs:aR [a] X.env=[(false,eval a X.env)]:=by rfl):PI X tg (.Call (.Name "range" p) [a] [] pos) (o4 ta):=by
 intro pins s σ H R I h;refine Call_ (eU I hg hm boot_range (PyProof.Rows.callWith_type1 (thn (ha pos pins s σ H _ I h) λus s1 ⟨vs,H1,I1,r1,q1⟩=>?_) hs rfl));obtain⟨j,e,q1,q2,q⟩:=q1;subst e;cases r1 with
 |cons r rr=>
  cases rr;obtain⟨t,rfl⟩:=r;exact call_range_1 (ka I1 (by lia) (by lia) q1 q2 (by simpa using q))
theorem oB{a b:Expr}{ta:TA}{p pos:Pos}(hg:Gl X "range")(hm:X.mg "range" = none)(ha:PA X [a,b] ta)(hs:aR [a,b] X.env=[(false,eval a X.env),(false,eval b X.env)]:=by rfl)(hs2:aR [b] X.env=[(false,eval b X.env)]:=by rfl) :
  PI X tg (.Call (.Name "range" p) [a,b] [] pos) (sY ta):=by
 intro pins s σ H R I h;refine Call_ (eU I hg hm boot_range (PyProof.Rows.callWith_type1 (thn (ha pos pins s σ H _ I h) λus s1 ⟨vs,H1,I1,r1,q1⟩=>?_) (by rw[hs,hs2]) (by rw[hs2];rfl)));obtain⟨i,j,e,⟨q1,q2,q3,q4⟩,q⟩:=q1;subst e;cases r1 with
 |cons r rr=>
  cases rr with
  |cons r' rr=>
   cases rr;obtain⟨t,rfl⟩:=r;obtain⟨t',rfl⟩:=r';exact call_range_2 (ka I1 q1 q2 q3 q4 q)
noncomputable def sk(wi:TI)(g:TG)(tb:TS):TS:=λD σ H=>wi σ H λJ H1=>∃W:Nat->Nat->St->Hp->Prop,(∃m,W 0 m σ H1)/\∀i m σ H,W i m σ H ->
 (J.stop i H/\D.nx σ H)\/(J.go i H/\∃N:St->Hp->Prop,(∀σ' H',N σ' H'->∃m',m'<m/\W (i+1) m' σ' H')/\∀x H',J.yld i H x H'->g x σ H' λσ2 H2=>tb {D with nx:=N,ct:=N,bk:=D.nx} σ2 H2)
noncomputable def fj(fp:List Addr)(h:Heap):List (Addr×Obj):=fp.filterMap λb=>(h.get? b).map λo=>(b,o)
theorem gI{fp:List Addr}{h:Heap}{b:Addr}{o:Obj}(hb:b∈fp)(e:h.get? b=some o):(b,o)∈fj fp h:=List.mem_filterMap.mpr ⟨b,hb,by rw[e];rfl⟩
theorem wu{fp:List Addr}{h:Heap}{p:Addr×Obj}(hp:p∈fj fp h):p.1∈fp/\h.get? p.1=some p.2:=by
 obtain⟨b,hb,e⟩:=List.mem_filterMap.mp hp;cases q:h.get? b with
 |none=>rw[q]at e;cases e
 |some o=>
  rw[q]at e;have e':(b,o)=p:=bV e;subst e';exact⟨hb,q⟩
theorem Inv.pinned{pins:List (Addr×Obj)}{σ:St}{H:Hp}{s:af}{fp:List Addr}(I:Inv X pins σ H s)(hf:∀b∈fp,de X pins H b)(ho:∀b∈fp,∃o,s.heap.get? b=some o/\∀v,o.data≠.cell v):Inv X (pins++fj fp s.heap) σ H s:=
 I.pins_of λp hp=>(List.mem_append.mp hp).elim (λz=>I.pin p (bU _ z)) λz=>by
  obtain⟨hb,e⟩:=wu z;obtain⟨f0,f1,f2,_⟩:=hf p.1 hb;obtain⟨o,e',d⟩:=ho p.1 hb;rw[e]at e';cases e';exact⟨e,f0,f1,f2,d⟩
theorem Inv.unpinned{pins pl:List (Addr×Obj)}{σ:St}{H:Hp}{s:af}(I:Inv X (pins++pl) σ H s):Inv X pins σ H s:=I.pins_of λp hp=>I.pin p (bU _ (List.mem_append_left _ hp))
theorem nX{iter:Expr}{body:List Stmt}{wi:TI}{g:TG}{tb:TS}{pos:Pos}(hp:PassesOwn (ar X.prog X.w) X.A X.env X.xe)(hc:X.calm=true)(hi:PI X tg iter wi)(hg:PG X tg g)(hb:PSs X body tb)
  (hs:∀x,foldedSetIterable iter X.env x=pure x:=by intro _;rfl):PS X (.For tg iter body [] pos) (sk wi g tb):=by
 intro pins s σ H D I h;refine wpAny_For (thn (hi pins s σ H _ I h) λv s1 h1=>thn h1 λitv s2 h2=>?_) hs;obtain⟨it,fp,tn,J,H2,e,I2,T,st2,f2,W,⟨m0,w0⟩,turn⟩:=h2;subst e
 -- what stays true of the iterator's objects through the loop
 have stat:∀{H':Hp},(∀b∈fp,H' b=none)->∀b∈fp,de X pins H' b:=λhn b hb=>⟨hn b hb,(f2 b hb).2⟩
 refine codeAny_forLoop_any (λn s'=>∃i σ' H',Inv X pins σ' H' s'/\tn i s'.heap/\(∀b∈fp,H' b=none)/\W i n σ' H') ?_ m0 ⟨0,σ,H2,I2,st2,λb hb=>(f2 b hb).1,w0⟩;rintro n s3 ⟨i,σ3,H3,I3,st3,fr3,w3⟩;rcases turn i n σ3 H3 w3 with ⟨stop,qn⟩|⟨go,N,hN,step⟩
 ·refine wpAny_passesOwn hp (thn (T.done X rfl rfl rfl hc i pins s3 σ3 H3 X.xe I3 (stat fr3) st3 stop) λr s4 ⟨hr,I4⟩=>?_);subst hr;exact wpAny_execs_nil ⟨σ3,H3,I4,qn⟩
 ·refine wpAny_passesOwn hp (thn (T.item X rfl rfl rfl hc i pins s3 σ3 H3 X.xe I3 (stat fr3) st3 go) λr s4 ⟨u,hr,h4⟩=>?_);subst hr;refine wpAny_passesOwn hp (thn h4 λ_ s5 ⟨x,H5,I5,r5,y5,st5,fr5⟩=>?_);have I5':=I5.pinned (stat fr5) (T.obj _ _ st5);refine wpAny_passesOwn hp (thn (hg _ s5 σ3 H5 x u _ I5' r5 (step x H5 y5)) λ_ s6 ⟨σ6,H6,I6,q6⟩=>?_);refine wpAny_passesOwn hp (thn (hb _ s6 σ6 H6 _ I6 q6) λf s7 q7=>?_);have again:∀{σ7:St}{H7:Hp},Inv X (pins++fj fp s5.heap) σ7 H7 s7->N σ7 H7->∃m,m<n/\∃i σ' H',Inv X pins σ' H' s7/\tn i s7.heap/\(∀b∈fp,H' b=none)/\W i m σ' H':=λ{σ7 H7} I7 n7=>by
   obtain⟨m',hm,w7⟩:=hN σ7 H7 n7;refine⟨m',hm,i+1,σ7,H7,I7.unpinned,T.keep _ _ _ st5 λb hb o e=>(I7.pin (b,o) (bU _ (bU _ (gI hb e)))).1,λb hb=>?_,w7⟩;obtain⟨o,e,d⟩:=T.obj _ _ st5 b hb;exact(I7.pin (b,o) (bU _ (bU _ (gI hb e)))).2.1
  cases f with
  |next=>obtain⟨σ7,H7,I7,n7⟩:=q7;exact again I7 n7
  |cont=>obtain⟨σ7,H7,I7,n7⟩:=q7;exact again I7 n7
  |brk=>obtain⟨σ7,H7,I7,q7⟩:=q7;exact⟨σ7,H7,I7.unpinned,q7⟩
  |ret v=>obtain⟨x7,σ7,H7,I7,r7,q7⟩:=q7;exact⟨x7,σ7,H7,I7.unpinned,r7,q7⟩
end
abbrev R2:=V->V->Hp->VK->Prop
noncomputable def OpR(X:Cx)(f:ae->ae->Sem ae)(r:R2):Prop:=
 ∀(pins:List (Addr×Obj)) (s:af) (σ:St) (H:Hp) (x y:V) (v u:ae) (Q:VK),Inv X pins σ H s->RelV x v->RelV y u->r x y H Q ->
  ak (ar X.prog X.w) X.A (f v u) (EP X pins σ Q) X.xe s
noncomputable def UnR(X:Cx)(f:ae->Sem ae)(r:V->Hp->VK->Prop):Prop:=
 ∀(pins:List (Addr×Obj)) (s:af) (σ:St) (H:Hp) (x:V) (v:ae) (Q:VK),Inv X pins σ H s->RelV x v->r x H Q ->
  ak (ar X.prog X.w) X.A (f v) (EP X pins σ Q) X.xe s
noncomputable def zd(X:Cx)(f:ae)(r:List V->Hp->VK->Prop):Prop:=
 ∀(pins:List (Addr×Obj)) (s:af) (σ:St) (H:Hp) (xs:List V) (us:List ae) (Q:VK),Inv X pins σ H s->Vals xs us->r xs H Q ->
  ak (ar X.prog X.w) X.A (call f us) (EP X pins σ Q) X.xe s
noncomputable def rQ(X:Cx)(r:V->Hp->(Bool->Hp->Prop)->Prop):Prop:=
 ∀(pins:List (Addr×Obj)) (s:af) (σ:St) (H:Hp) (x:V) (v:ae) (Q:Bool->Hp->Prop),Inv X pins σ H s->RelV x v->r x H Q ->
  ak (ar X.prog X.w) X.A (truthy v) (TP X pins σ Q) X.xe s
noncomputable def tOp(r:R2)(ta tb:TE):TE:=λσ H Q=>ta σ H λx H1=>tb σ H1 λy H2=>r x y H2 Q
noncomputable def tUn(r:V->Hp->VK->Prop)(ta:TE):TE:=λσ H Q=>ta σ H λx H1=>r x H1 Q
noncomputable def rI(C:Int->Int->Prop)(g:Int->Int->V):R2:=λx y H Q=>∃i j,x=.int i/\y=.int j/\C i j/\Q (g i j) H
noncomputable def rI0(g:Int->Int->V):R2:=λx y H Q=>∃i j,x=.int i/\y=.int j/\Q (g i j) H
noncomputable def rU(g:Int->V):V->Hp->VK->Prop:=λx H Q=>∃i,x=.int i/\Q (g i) H
section
variable{X:Cx}{a b c:Expr}{ta tb tc:TE}{pos:Pos}
theorem i3(ha:PE X a ta)(hb:PE X b tb){pins:List (Addr×Obj)}{s:af}{σ:St}{H:Hp}{R:V->V->Hp->Prop}(I:Inv X pins σ H s)
  (h:ta σ H λx H1=>tb σ H1 λy H2=>R x y H2) {Q:ae->af->Prop}{f:ae->ae->Sem ae}
  (hf:∀v u s2 x y H2,Inv X pins σ H2 s2->RelV x v->RelV y u->R x y H2->ak (ar X.prog X.w) X.A (f v u) Q X.xe s2) :
  ak (ar X.prog X.w) X.A (eval a X.env) (λv s₁=>ak (ar X.prog X.w) X.A (eval b X.env) (λu s₂=>ak (ar X.prog X.w) X.A (f v u) Q X.xe s₂) X.xe s₁) X.xe s:=by
 refine thn (ha pins s σ H _ I h) λv s1 ⟨x,H1,I1,r1,q1⟩=>?_
 refine thn (hb pins s1 σ H1 _ I1 q1) λu s2 ⟨y,H2,I2,r2,q2⟩=>?_
 exact hf v u s2 x y H2 I2 r1 r2 q2
theorem sL{op:Operator}{r:R2}(ho:OpR X (bC op) r)(ha:PE X a ta)(hb:PE X b tb):PE X (.BinOp a op b pos) (tOp r ta tb):=by
 intro pins s σ H Q I h;exact wpAny_BinOp (i3 ha hb I h λv u s2 x y H2 I2 rx ry q=>ho pins s2 σ H2 x y v u Q I2 rx ry q)
theorem sI{op:UnaryOp}{r:V->Hp->VK->Prop}(ho:UnR X (unaryOp op) r)(ha:PE X a ta):PE X (.UnaryOp op a pos) (tUn r ta):=by
 intro pins s σ H Q I h;exact UnaryOp_ (thn (ha pins s σ H _ I h) λv s1 ⟨x,H1,I1,r1,q1⟩=>ho pins s1 σ H1 x v Q I1 r1 q1)
theorem opI{f:ae->ae->Sem ae}{C:Int->Int->Prop}{g:Int->Int->Int}
  (rule:∀(i j:Int) (t u:Tok) (s:af) (Q:ae->af->Prop) (E:ae->af->Prop),C i j->Q (.int (g i j) s.toks) {s with toks:=s.toks+1}->ak (ar X.prog X.w) X.A (f (.int i t) (.int j u)) Q E s) :
  OpR X f (rI C λi j=>.int (g i j)):=by
 intro pins s σ H x y v u Q I rx ry h;obtain⟨i,j,rfl,rfl,hc,q⟩:=h;obtain⟨t,rfl⟩:=rx;obtain⟨t',rfl⟩:=ry;exact rule i j t t' s _ _ hc ⟨.int (g i j),H,I.tok _,⟨_,rfl⟩,q⟩
theorem fz{f:ae->ae->Sem ae}{g:Int->Int->Int}
  (rule:∀(i j:Int) (t u:Tok) (s:af) (Q:ae->af->Prop) (E:ae->af->Prop),Q (.int (g i j) s.toks) {s with toks:=s.toks+1}->ak (ar X.prog X.w) X.A (f (.int i t) (.int j u)) Q E s) :
  OpR X f (rI0 λi j=>.int (g i j)):=by
 intro pins s σ H x y v u Q I rx ry h;obtain⟨i,j,rfl,rfl,q⟩:=h;obtain⟨t,rfl⟩:=rx;obtain⟨t',rfl⟩:=ry;exact rule i j t t' s _ _ ⟨.int (g i j),H,I.tok _,⟨_,rfl⟩,q⟩
theorem g6{f:ae->ae->Sem ae}{g:Int->Int->Bool}
  (rule:∀(i j:Int) (t u:Tok) (s:af) (Q:ae->af->Prop) (E:ae->af->Prop),Q (.bool (g i j)) s->ak (ar X.prog X.w) X.A (f (.int i t) (.int j u)) Q E s) :
  OpR X f (rI0 λi j=>.bl (g i j)):=by
 intro pins s σ H x y v u Q I rx ry h;obtain⟨i,j,rfl,rfl,q⟩:=h;obtain⟨t,rfl⟩:=rx;obtain⟨t',rfl⟩:=ry;exact rule i j t t' s _ _ ⟨.bl (g i j),H,I,rfl,q⟩
noncomputable def mS(i j:Int):Prop:=0<=j/\j<=1000000/\i.natAbs<2^64
noncomputable def iA(i j:Int):Prop:=(-(2^64)<i/\i<2^64)\/(-(2^64)<j/\j<2^64)
theorem iA.ok{i j:Int}(h:iA i j):IntMulOk i j:=by
 rcases h with ⟨h1,h2⟩|⟨h1,h2⟩
 ·exact .of_left (intBits_le_64 h1 h2)
 ·exact .of_right (intBits_le_64 h1 h2)
theorem ve(k:Nat):(0:Int)<=2^k:=by
 rw[two_pow_cast];exact Int.natCast_nonneg _
theorem oM:OpR X (bC .Add) (rI0 λi j=>.int (i+j)):=fz λ_ _ _ _ _ _ _ q=>add_int q
theorem rz:OpR X (bC .Sub) (rI0 λi j=>.int (i-j)):=fz λ_ _ _ _ _ _ _ q=>sub_int q
theorem tP:OpR X (bC .Mult) (rI iA λi j=>.int (i * j)):=opI λ_ _ _ _ _ _ _ hc q=>mul_int q hc.ok
theorem wd:OpR X (bC .Mod) (rI (λ_ j=>0<j) λi j=>.int (i%j)):=opI λi j _ _ _ _ _ hc q=>by
 have h1:(0:Int)<j:=hc;exact mod_int' (by lia) (by rw[Int.fmod_eq_emod_of_nonneg i (by lia)];exact q)
theorem rM:OpR X (bC .Pow) (rI mS λi j=>.int (i^j.toNat)):=opI λ_ _ _ _ _ _ _ hc q=>pow_int_small hc.1 hc.2.1 hc.2.2 q
theorem pS:OpR X (bC .LShift) (rI mS λi j=>.int (i * 2^j.toNat)):=opI λ_ _ _ _ _ _ _ hc q=>lshift_int_small hc.1 hc.2.1 hc.2.2 q
theorem xh:OpR X (bC .RShift) (rI (λ_ j=>0<=j) λi j=>.int (i/2^j.toNat)):=opI λi j _ _ _ _ _ hc q=>
 rshift_int hc (by rw[Int.fdiv_eq_ediv_of_nonneg i (ve _)];exact q)
theorem tJ:OpR X (bC .BitAnd) (rI0 λi j=>.int (Builtin.bitAnd i j)):=fz λ_ _ _ _ _ _ _ q=>and_int q
theorem vS:OpR X (bC .BitOr) (rI0 λi j=>.int (Builtin.bitOr i j)):=fz λ_ _ _ _ _ _ _ q=>or_int q
theorem p5:OpR X (bC .BitXor) (rI0 λi j=>.int (Builtin.bitXor i j)):=fz λ_ _ _ _ _ _ _ q=>xor_int q
theorem unI{f:ae->Sem ae}{g:Int->Int}
  (rule:∀(i:Int) (t:Tok) (s:af) (Q:ae->af->Prop) (E:ae->af->Prop),Q (.int (g i) s.toks) {s with toks:=s.toks+1}->ak (ar X.prog X.w) X.A (f (.int i t)) Q E s) :
  UnR X f (rU λi=>.int (g i)):=by
 intro pins s σ H x v Q I rx h;obtain⟨i,rfl,q⟩:=h;obtain⟨t,rfl⟩:=rx;exact rule i t s _ _ ⟨.int (g i),H,I.tok _,⟨_,rfl⟩,q⟩
theorem nQ:UnR X (unaryOp .USub) (rU λi=>.int (-i)):=unI λ_ _ _ _ _ q=>neg_int q
end
section
variable{X:Cx}{a b c:Expr}{ta tb tc:TE}{pos:Pos}
theorem g_{pins:List (Addr×Obj)}{σ:St}{H:Hp}{s:af}{Q:VK}{k k':Bool}(I:Inv X pins σ H s)(q:Q (.bl k) H)(e:k=k'):EP X pins σ Q (.bool k') s:=by
 subst e;exact⟨.bl k,H,I,rfl,q⟩
theorem oZ:OpR X (a8 .Lt) (rI0 λi j=>.bl (decide (i<j))):=g6 λ_ _ _ _ _ _ _ q=>lt_int q
theorem u7:OpR X (a8 .LtE) (rI0 λi j=>.bl (decide (i<=j))):=g6 λ_ _ _ _ _ _ _ q=>le_int q
theorem xi:OpR X (a8 .Gt) (rI0 λi j=>.bl (decide (j<i))):=g6 λ_ _ _ _ _ _ _ q=>gt_int q
theorem pI:OpR X (a8 .GtE) (rI0 λi j=>.bl (decide (j<=i))):=g6 λ_ _ _ _ _ _ _ q=>ge_int q
theorem u_:OpR X (a8 .Is) (λx y H Q=>y=.non/\Q (.bl (decide (x=.non))) H):=by
 intro pins s σ H x y v u Q I rx ry h;obtain⟨rfl,q⟩:=h;cases ry;refine is_none_gen (g_ I q ?_);cases x<;>first
  | (cases rx;rfl)
  | (obtain⟨t,rfl⟩:=rx;rfl)
theorem su:OpR X (a8 .IsNot) (λx y H Q=>y=.non/\Q (.bl (!decide (x=.non))) H):=by
 intro pins s σ H x y v u Q I rx ry h;obtain⟨rfl,q⟩:=h;cases ry;refine isnot_none_gen (g_ I q ?_);cases x<;>first
  | (cases rx;rfl)
  | (obtain⟨t,rfl⟩:=rx;rfl)
theorem OpR.or{f:ae->ae->Sem ae}{r r':R2}(h:OpR X f r)(h':OpR X f r'):OpR X f (λx y H Q=>r x y H Q\/r' x y H Q):=by
 intro pins s σ H x y v u Q I rx ry q;rcases q with q|q
 ·exact h pins s σ H x y v u Q I rx ry q
 ·exact h' pins s σ H x y v u Q I rx ry q
theorem tW{op:CmpOp}{r:R2}(ho:OpR X (a8 op) r)(ha:PE X a ta)(hb:PE X b tb)(hm:behindInMarks op b=false):PE X (.Compare a [op] [b] pos) (tOp r ta tb):=by
 intro pins s σ H Q I h;exact wpAny_Compare1 (i3 ha hb I h λv u s2 x y H2 I2 rx ry q=>ho pins s2 σ H2 x y v u Q I2 rx ry q) hm
noncomputable def jx(t:TE):TT:=λσ H Q=>t σ H λx H'=>∃k,x=.bl k/\Q k H'
theorem rJ{op:CmpOp}{r:R2}(ho:OpR X (a8 op) r)(ha:PE X a ta)(hb:PE X b tb)(hm:behindInMarks op b=false):PT X (.Compare a [op] [b] pos) (jx (tOp r ta tb)):=by
 intro pins s σ H Q I h;refine wpAny_isTrue_Compare1 (thn (ha pins s σ H _ I h) λv s1 ⟨x,H1,I1,r1,q1⟩=>thn (hb pins s1 σ H1 _ I1 q1) λu s2 ⟨y,H2,I2,r2,q2⟩=>
  thn (ho pins s2 σ H2 x y v u _ I2 r1 r2 q2) λc s3 ⟨z,H3,I3,r3,k,e,q3⟩=>?_) hm
 subst e;cases r3;exact bI ⟨H3,I3,q3⟩
noncomputable def ml(r r':R2)(ta tb tc:TE):TE:=λσ H Q=>ta σ H λx H1=>tb σ H1 λy H2=>r x y H2 λz H3=>∃k,z=.bl k /\
 (if k=true then tc σ H3 λw' H4=>r' y w' H4 Q else Q (.bl false) H3)
theorem v9{op op':CmpOp}{r r':R2}(ho:OpR X (a8 op) r)(ho':OpR X (a8 op') r')(ha:PE X a ta)(hb:PE X b tb)(hc:PE X c tc)
  (hm:lastMarks [op,op'] [b,c]=false:=by with_unfolding_all rfl):PE X (.Compare a [op,op'] [b,c] pos) (ml r r' ta tb tc):=by
 intro pins s σ H Q I h;refine Compare_chain (thn (ha pins s σ H _ I h) λv s1 ⟨x,H1,I1,r1,q1⟩=>chain_link (thn (hb pins s1 σ H1 _ I1 q1) λu s2 ⟨y,H2,I2,r2,q2⟩=>
  thn (ho pins s2 σ H2 x y v u _ I2 r1 r2 q2) λd s3 ⟨z,H3,I3,r3,k,e,q3⟩=>?_)) hm
 subst e;cases r3;refine bI ?_;cases k with
 |false=>exact ite_ff ⟨.bl false,H3,I3,rfl,q3⟩
 |true=>exact ite_tt (chain_last (thn (hc pins s3 σ H3 _ I3 q3) λw' s4 ⟨z',H4,I4,r4,q4⟩=>ho' pins s4 σ H4 y z' u w' Q I4 r2 r4 q4))
theorem sX{op op':CmpOp}{r r':R2}(ho:OpR X (a8 op) r)(ho':OpR X (a8 op') r')(ha:PE X a ta)(hb:PE X b tb)(hc:PE X c tc)
  (hm:lastMarks [op,op'] [b,c]=false:=by with_unfolding_all rfl):PT X (.Compare a [op,op'] [b,c] pos) (jx (ml r r' ta tb tc)):=by
 intro pins s σ H Q I h;refine isTrue_chain (thn (ha pins s σ H _ I h) λv s1 ⟨x,H1,I1,r1,q1⟩=>test_link (thn (hb pins s1 σ H1 _ I1 q1) λu s2 ⟨y,H2,I2,r2,q2⟩=>
  thn (ho pins s2 σ H2 x y v u _ I2 r1 r2 q2) λd s3 ⟨z,H3,I3,r3,k,e,q3⟩=>?_)) hm
 subst e;cases r3;refine bI ?_;cases k with
 |false=>
  obtain⟨k',e',q'⟩:=q3;cases e';exact ite_ff ⟨H3,I3,q'⟩
 |true=>
  refine ite_tt (test_last (thn (hc pins s3 σ H3 _ I3 q3) λw' s4 ⟨z',H4,I4,r4,q4⟩=>thn (ho' pins s4 σ H4 y z' u w' _ I4 r2 r4 q4) λd' s5 ⟨z2,H5,I5,r5,k2,e2,q5⟩=>?_));subst e2;cases r5;exact bI ⟨H5,I5,q5⟩
noncomputable def iU(K:aB)(x:V)(H:Hp)(k:Bool):Prop:=
 match x with
 | .non=>k=false
 | .bl b=>k=b
 | .int i=>k=(i != 0)
 | .str y=>y.length<=aX/\k=((y.length:Int) != 0)
 | .byt y=>y.size<=aX/\k=((y.size:Int) != 0)
 | .ref p=>(∃xs,SqL K H p xs/\k = !xs.isEmpty)\/(∃xs,SqT K H p xs/\k = !xs.isEmpty)\/∃kvs,H p=some (.dK kvs)/\k = !kvs.isEmpty
 |_=>False
theorem pM{κ:Type}{kvs:List (κ×V)}{vs:List (κ×ae)}(r:KV kvs vs):(!vs.isEmpty) = !kvs.isEmpty:=by
 cases r<;>rfl
theorem lJ{xs:List V}{its:List ae}(r:Vals xs its):(!its.toArray.isEmpty) = !xs.isEmpty:=by
 cases r<;>simp
theorem fN:(aX:Nat)<2^63:=by rw[bw];decide
theorem n6:rQ X (λx H Q=>∃k,iU X.K x H k/\Q k H):=by
 intro pins s σ H x v Q I rx h;obtain⟨k,e,q⟩:=h;have hl:=fN;have hs:aX=16777216:=bw;cases x with
 |non=>
  cases rx;have e':k=false:=e;subst e';exact truthy_none ⟨H,I,q⟩
 |bl b=>
  cases rx;have e':k=b:=e;subst e';exact bI ⟨H,I,q⟩
 |int i=>
  obtain⟨t,rfl⟩:=rx;have e':k=(i != 0):=e;subst e';exact PySem.P.truthy_int ⟨H,I,q⟩
 |str y=>
  obtain⟨t,rfl⟩:=rx;obtain⟨hy,e'⟩:y.length<=aX/\k=((y.length:Int) != 0):=e;subst e';exact PySem.P.truthy_str (by lia) ⟨H,I.tok _,q⟩
 |byt y=>
  obtain⟨t,rfl⟩:=rx;obtain⟨hy,e'⟩:y.size<=aX/\k=((y.size:Int) != 0):=e;subst e';exact PySem.W.truthy_bytes (by lia) ⟨H,I.tok _,q⟩
 |ref p=>
  cases rx;have e':(∃xs,SqL X.K H p xs/\k = !xs.isEmpty)\/(∃xs,SqT X.K H p xs/\k = !xs.isEmpty)\/∃kvs,H p=some (.dK kvs)/\k = !kvs.isEmpty:=e;rcases e' with ⟨xs,hx,e'⟩|⟨xs,hx,e'⟩|⟨kvs,hx,e'⟩
  ·subst e';obtain⟨its,r,pl,hz⟩:=I.list hx;have hlen:=r.length;exact wpAny_truthy_list pl.isList (by simp only[aU];lia) ⟨H,I.tok _,by rw[lJ r];exact q⟩
  ·subst e';obtain⟨its,r,pl,hz⟩:=I.tuple hx;have hlen:=r.length;exact truthy_tuple pl (by simp only[aU];lia) ⟨H,I.tok _,by rw[lJ r];exact q⟩
  ·subst e';obtain⟨hz,hS,vs,r,m⟩:kvs.length<=aX/\(p==sysModules)=false/\∃vs,KV kvs vs/\s.heap.DictOf (h8 X.prog X.w) p vs:=I.hok p _ hx;have hlen:kvs.length=vs.length:=Paired.length r;exact wpAny_truthy_dict hS m (by lia) ⟨H,I.tok _,by rw[pM r];exact q⟩
 |_=>exact(show False from e).elim
theorem xt(ha:PE X a ta)(he:∀whole,isTrue a X.env whole=(do let v <-whole;standAt a.pos;holding [v] (truthy v))) :
  PT X a (λσ H Q=>ta σ H λx H'=>∃k,iU X.K x H' k/\Q k H'):=by
 intro pins s σ H Q I h;exact isTrue_plain (thn (ha pins s σ H _ I h) λv s1 ⟨x,H1,I1,r1,q1⟩=>n6 pins s1 σ H1 x v Q I1 r1 q1) (he _)
theorem vals1{x:V}{us:List ae}(r:Vals [x] us):∃u,us=[u]/\RelV x u:=by
 cases r with
 |cons r1 r2=>cases r2;exact⟨_,rfl,r1⟩
theorem vals2{x y:V}{us:List ae}(r:Vals [x,y] us):∃u w',us=[u,w']/\RelV x u/\RelV y w':=by
 cases r with
 |cons r1 r2=>
  cases r2 with
  |cons r3 r4=>cases r4;exact⟨_,_,rfl,r1,r3⟩
theorem oN(hc:X.calm=true):zd X (.builtin "max") (λxs H Q=>∃i j,xs=[.int i,.int j]/\Q (.int (if j>i then j else i)) H):=by
 intro pins s σ H xs us Q I r h;obtain⟨i,j,rfl,q⟩:=h;obtain⟨u,w',rfl,⟨t,rfl⟩,⟨t',rfl⟩⟩:=vals2 r;refine max_two_ints (I.ok.hd hc) λh' tk k=>⟨_,H,I.kept k,?_,q⟩
 by_cases hj:j>i
 ·rw[if_pos hj,if_pos hj];exact⟨_,rfl⟩
 ·rw[if_neg hj,if_neg hj];exact⟨_,rfl⟩
theorem wc(hc:X.calm=true):zd X (.builtin "min") (λxs H Q=>∃i j,xs=[.int i,.int j]/\Q (.int (if j<i then j else i)) H):=by
 intro pins s σ H xs us Q I r h;obtain⟨i,j,rfl,q⟩:=h;obtain⟨u,w',rfl,⟨t,rfl⟩,⟨t',rfl⟩⟩:=vals2 r;refine min_two_ints (I.ok.hd hc) λh' tk k=>⟨_,H,I.kept k,?_,q⟩
 by_cases hj:j<i
 ·rw[if_pos hj,if_pos hj];exact⟨_,rfl⟩
 ·rw[if_neg hj,if_neg hj];exact⟨_,rfl⟩
end
structure iq(h:Heap)(x dx C:Addr)(mA:Str->Option ae):Prop where
 obj:h.get? x=some (PySem.W.instObj C dx)
 ns:h.Ns1 dx mA
 ne:dx≠x
theorem xp{h:Heap}{dx:Addr}{mA:Str->Option ae}(n:h.Ns1 dx mA):∃od,h.get? dx=some od/\∀name,PySem.W.lookIn name od=some (mA name):=by
 obtain⟨o,es,ep,ho,hd,hk,_,hm⟩:=n;refine⟨o,ho,λname=>?_⟩;have e:=hm name;unfold nsFind findBy at e;rw[<-Array.find?_toList]at e;unfold PySem.W.lookIn;rw[hd];dsimp only;split
 ·rename_i y q
  rw[q]at e;exact congrArg some e
 ·rename_i q
  rw[q]at e;have a:es.toList.any (·.refKey)=false:=by
   rw[List.any_eq_false];intro y hy;obtain⟨z,t,hkey⟩:=hk y (Array.mem_toList_iff.mp hy);simp[DictEntry.refKey,hkey]
  have a':¬ es.toList.any (·.refKey)=true:=by rw[a];exact cB
  rw[if_neg a'];exact congrArg some e
theorem iq.look{h:Heap}{x dx C:Addr}{mA:Str->Option ae}(I:iq h x dx C mA):∃od,PySem.W.InstAt h x (PySem.W.instObj C dx) C (some od)/\∀name,PySem.W.lookIn name od=some (mA name):=
 let ⟨od,ho,hl⟩:=xp I.ns
 ⟨od,⟨I.obj,rfl,rfl,ho⟩,hl⟩
section
variable{prog:aA}{w:av}{A:az}{E:ae->af->Prop}{s:af}{K:aB}{x dx C f:Addr}{mA:Str->Option ae}{name:Str}{v:ae}
end
section
variable{P:aA}{w:av}{H H':Hp}{h h':Heap}{a C dx:Addr}{fs fs':List (Str×V)}
theorem rL(hok:HOk P w H h)(e:H a=some (.ins C dx fs)):∃mA,iq h a dx C mA/\(∀f,iJ (fs.lookup f) (mA f))/\PySem.Within mA (fs.map (·.1))/\fs.length<=1000/\H dx=some (.own a):=by
 obtain⟨d,z,ne,ob,mA,n,r,q⟩:=(show zA P w H h a (.ins C dx fs)from hok a _ e)
 exact⟨mA,⟨ob,n,ne⟩,r,q,z,d⟩
end
structure Cls(K:aB)(C:Addr):Prop where
 pg:PySem.W.plainGet K C Str.empty=true
 hd:PySem.W.hasDictIn K C=true
 po:PySem.W.plainOver K C=true
 sa:PySem.W.findIn K (.ref C) "__setattr__" = some (some (.builtin "object.__setattr__"))
theorem Cls.get{K:aB}{C:Addr}(c:Cls K C)(f:Str):PySem.W.plainGet K C f=true:=c.pg
section
variable{X:Cx}{pins:List (Addr×Obj)}{σ:St}{H:Hp}{s:af}{a C dx:Addr}{fs:List (Str×V)}{f:Str}{v:V}{A:az}{E:ae->af->Prop}
end
section
variable{X:Cx}{o e value:Expr}{f:Str}{pos pos' tpos:Pos}{ta tv:TE}
end
section
variable{X:Cx}{pins:List (Addr×Obj)}{σ:St}{H:Hp}{s:af}{A:az}{E:ae->af->Prop}{Q:ae->af->Prop}{c:ae}{b:Bool}
inductive cL(K:aB)(H:Hp):V->ae->Prop where
 |non:cL K H .non (.type "NoneType")
 |bl (x:Bool):cL K H (.bl x) (.type "bool")
 |int (i:Int):cL K H (.int i) (.type "int")
 |str (x:Str):cL K H (.str x) (.type "str")
 |flt (x:UInt64):cL K H (.flt x) (.type "float")
 |lst {a:Addr}{xs:List V} (e:H a=some (.lst xs)):cL K H (.ref a) (.type "list")
 |frz {a:Addr}{o:Obj}{xs:List V} (e:H a=some (.frz o (.lst xs))):cL K H (.ref a) (.type "list")
 |tup {a:Addr}{xs:List V} (e:H a=some (.tup xs)):cL K H (.ref a) (.type "tuple")
 |dK {a:Addr}{kvs:List (Key×V)} (e:H a=some (.dK kvs)):cL K H (.ref a) (.type "dict")
 |dT {a:Addr}{kvs:List (List Key×V)} (e:H a=some (.dT kvs)):cL K H (.ref a) (.type "dict")
 |ins {a C dx:Addr}{fs:List (Str×V)} (e:H a=some (.ins C dx fs)) (cl:Cls K C) (ha:PySem.W.findIn K (.ref C) "__class__" = some (some (.builtin "object.__class__")))
   (hn:PySem.W.specialIn K (.builtin "object.__class__") "__get__" = some (some (.builtin "getset_descriptor.__get__"))) (htk:PySem.W.takesIn K (.builtin "object.__class__")=some true)
   (hm:PySem.W.mroIn K C (.type "object")=some true):cL K H (.ref a) (.ref C)
theorem fV{x:V}{u t:ae}(I:Inv X pins σ H s)(rx:RelV x u)(ty:cL X.K H x t)(e:b3 X.K t c=some b)(h:∀tk,Q (.bool b) {s with toks:=tk}) :
  ak (ar X.prog X.w) A (call (.builtin "isinstance") [u,c]) Q E s:=by
 cases ty with
 |non=>cases (show u=ae.none from rx);exact bK PySem.W.kitx_none I.kIn True.intro e (λz=>nomatch z) h
 |bl y=>cases (show u=ae.bool y from rx);exact bK PySem.W.kitx_bool I.kIn True.intro e (λz=>nomatch z) h
 |int i=>obtain⟨t,q⟩:=(show ∃t,u=ae.int i t from rx);cases q;exact bK PySem.W.kitx_int I.kIn True.intro e (λz=>nomatch z) h
 |str y=>obtain⟨t,q⟩:=(show ∃t,u=ae.str y t from rx);cases q;exact bK PySem.W.kitx_str I.kIn True.intro e (λz=>nomatch z) h
 |flt y=>obtain⟨t,q⟩:=(show ∃t,u=ae.float y t from rx);cases q;exact bK PySem.W.kitx_float I.kIn True.intro e (λz=>nomatch z) h
 | @lst a xs ea=>
  cases (show u=ae.ref a from rx);obtain⟨_,_,n,_,h1⟩:=(show zA X.prog X.w H s.heap a (.lst xs)from I.hok a _ ea)
  exact bK PySem.W.kitx_list I.kIn ⟨_,h1,rfl⟩ e (λz=>nomatch z) h
 | @frz a ob xs ea=>
  cases (show u=ae.ref a from rx);obtain⟨_,_,_,n,_,h1⟩:=(show zA X.prog X.w H s.heap a (.frz ob (.lst xs))from I.hok a _ ea)
  exact bK PySem.W.kitx_list I.kIn ⟨_,h1,rfl⟩ e (λz=>nomatch z) h
 | @tup a xs ea=>
  cases (show u=ae.ref a from rx);obtain⟨_,_,_,p⟩:=(show zA X.prog X.w H s.heap a (.tup xs)from I.hok a _ ea)
  obtain⟨o,h1,h2,_⟩:=p;exact bK PySem.W.kitx_tuple I.kIn ⟨o,h1,h2⟩ e (λz=>nomatch z) h
 | @dK a kvs ea=>
  cases (show u=ae.ref a from rx);obtain⟨_,_,vs,_,p⟩:=(show zA X.prog X.w H s.heap a (.dK kvs)from I.hok a _ ea)
  obtain⟨o,es,ep,h1,h2,_⟩:=p;exact bK PySem.W.kitx_dict I.kIn ⟨o,h1,h2.1⟩ e (λz=>nomatch z) h
 | @dT a kvs ea=>
  cases (show u=ae.ref a from rx);obtain⟨_,_,xs,_,o,es,ep,h1,h2,_⟩:=(show zA X.prog X.w H s.heap a (.dT kvs)from I.hok a _ ea)
  exact bK PySem.W.kitx_dict I.kIn ⟨o,h1,h2.1⟩ e (λz=>nomatch z) h
 | @ins a C dx fs ea cl ha hn htk hm=>
  cases (show u=ae.ref a from rx);obtain⟨mA,O,_⟩:=rL I.hok ea;obtain⟨od,J,_⟩:=O.look;exact bK (PySem.W.kitx_own (cl.get _) cl.hd ha hn htk hm) I.kIn J e (λz=>nomatch z) h
end
structure bW(k:Nat)(A:az):Prop where
 hd:A.handled=none
 dp:A.depth+3 * k+5<recursionLimit
 un:A.units+16 * k+200<cLine
theorem bW.deeper{k:Nat}{A:az}(r:bW (k+1) A)(env:Env):bW k (A.deeper env):=
 ⟨r.hd,by have:=r.dp;show A.depth+1+3 * k+5<_;lia,by have:=r.un;show A.units+3+16 * k+200<_;lia⟩
theorem bW.depth{k:Nat}{A:az}(r:bW k A):A.depth<recursionLimit:=by have:=r.dp;lia
theorem bW.units{k:Nat}{A:az}(r:bW k A):A.units+64<cLine:=by have:=r.un;lia
noncomputable def eN:TA:=λ_ H Q=>Q [] H
noncomputable def eI(ta:TE)(tr:TA):TA:=λσ H Q=>ta σ H λx H1=>tr σ H1 λxs H2=>Q (x::xs) H2
section
variable{X:Cx}{e:Expr}{es:List Expr}{te:TE}{t:TA}{pos:Pos}
theorem zG:PA X [] eN:=λ_ _ _ _ H Q I h=>Calls.spliced_nil ⟨[],H,I,.nil,h⟩
theorem zi(ha:PE X e te)(hr:PA X es t)(hs:aR (e::es) X.env=(false,eval e X.env)::aR es X.env:=by rfl):PA X (e::es) (eI te t):=by
 intro pos pins s σ H Q I h;rw[hs];show ak _ _ (spliced ((false,eval e X.env)::backTo pos (aR es X.env))) _ _ s;refine Calls.spliced_cons (thn (ha pins s σ H _ I h) λu s1 ⟨x,H1,I1,r1,q1⟩=>?_);exact thn (hr pos pins s1 σ H1 _ I1 q1) λus s2 ⟨xs,H2,I2,r2,q2⟩=>⟨x::xs,H2,I2,.cons r1 r2,q2⟩
noncomputable def oG(t:TA):TE:=λσ H Q=>t σ H λxs H1=>xs.length<=aX/\∀p,H1 p=none->Q (.ref p) (upd H1 p (.tup xs))
noncomputable def uh(t:TA):TE:=λσ H Q=>t σ H λxs H1=>xs.length<=aX/\∀p,H1 p=none->Q (.ref p) (upd H1 p (.lst xs))
theorem sJ{x1}(h:PA X es t):PE X (.Tuple es x1 pos) (oG t):=by
 intro pins s σ H Q I hq;refine wpAny_Tuple_spliced (thn (h pos pins s σ H _ I hq) λus s1 ⟨xs,H1,I1,r,z,q⟩=>⟨by rw[<-r.length];exact z,?_⟩);have hf:H1 s1.heap.objs.size=none:=I1.hok.fresh (aD _);refine⟨.ref s1.heap.objs.size,upd H1 s1.heap.objs.size (.tup xs),I1.laid (t':=s1.toks) (λb u e=>Heap.get?_push_of_some _ e) (aD _) ?_,rfl,q _ hf⟩;exact⟨z,us,r,⟨_,Heap.get?_push_size _ rfl,rfl,_,rfl⟩⟩
theorem xg(h:PA X es t):PE X (.List es pos) (uh t):=by
 intro pins s σ H Q I hq;refine wpAny_List_spliced (thn (h pos pins s σ H _ I hq) λus s1 ⟨xs,H1,I1,r,z,q⟩=>⟨by rw[<-r.length];exact z,?_⟩);have hf:H1 s1.heap.objs.size=none:=I1.hok.fresh (aD _);refine⟨.ref s1.heap.objs.size,upd H1 s1.heap.objs.size (.lst xs),I1.laid (t':=s1.toks) (λb u e=>Heap.get?_push_of_some _ e) (aD _) ?_,rfl,q _ hf⟩;exact⟨z,us,0,r,Heap.get?_push_size _ rfl⟩
end
abbrev Sp:=List V->Hp->VK->XK->Prop
abbrev CXT:=List Env->Hp->af->XK->ae->af->Prop
structure ff(P:aA)(w:av)(K:aB)(mg:Str->Option ae)(base:Heap)(A:az)(outer:List Env)(s:af)(H:Hp):Prop where
 frames:A.frames=some outer
 mod:Mod K mg base
 bs:∀b o,base.get? b=some o->s.heap.get? b=some o/\H b=none
 bsz:base.objs.size<=s.heap.objs.size
 funs:s.heap.FunFrames base outer
 frf:∀b∈frs outer,H b=none
 hok:HOk P w H s.heap
 bare:AllBare s.gens
noncomputable def CE(outer:List Env)(P:aA)(w:av)(H:Hp)(s:af)(Q:VK)(u:ae)(s':af):Prop:=
 ∃v H',s'.os=s.os/\AllBare s'.gens/\Un (frs outer) [] H H' s.heap s'.heap/\HOk P w H' s'.heap/\RelV v u/\Q v H'
noncomputable def CR(CX:CXT)(outer:List Env)(P:aA)(w:av)(H:Hp)(s:af)(Q:VK)(E:XK)(r:Result)(s':af):Prop:=
 match r with
 | .ok (.ret u)=>CE outer P w H s Q u s'
 | .ok _=>False
 | .error e=>CX outer H s E e s'
structure dC(P:aA)(w:av)(K:aB)(mg:Str->Option ae)(base:Heap)(CX:CXT)(k:Nat)(f:Addr)(fd:bE)(ps:List Str)(sp:Sp):Prop where
 len:∀vs H Q E,sp vs H Q E->vs.length=ps.length
 run:∀(A:az) (outer:List Env) (s:af) (H:Hp) (args:Args) (us:List ae) (vs:List V) (Q:VK) (E:XK),bW k A->ff P w K mg base A outer s H->BindsTo s fd args (ps.zip us)->Vals vs us->sp vs H Q E ->
  codeAny (ar P w) A (.call (.ref f) args) (CR CX outer P w H s Q E) s
section
variable{X:Cx}{pins:List (Addr×Obj)}{σ:St}{H:Hp}{s s':af}
theorem Inv.env0(I:Inv X pins σ H s):ff X.prog X.w X.K X.mg X.base X.A X.stack s H:=
 ⟨I.ok.frames,I.ok.mod,I.bs,bz I.ok.bsz I.sz,I.stack,I.stkFree,I.hok,I.bare⟩
theorem Inv.after{Q:VK}{u:ae}(I:Inv X pins σ H s)(h:CE X.stack X.prog X.w H s Q u s'):EP X pins σ Q u s':=by
 obtain⟨v,H',os,bare,un,hok,r,q⟩:=h;obtain⟨hh,g,d,t,os'⟩:=s';obtain rfl:os'=s.os:=os;exact⟨v,H',I.call (h':=hh) (g':=g) (d':=d) (t':=t) (ch:=[]) un hok bare (λb z=>absurd z (by simp)),r,q⟩
end
noncomputable def jt(sp:Sp)(dvs:List V)(E:XK)(t:TA):TE:=λσ H Q=>t σ H λvs H1=>sp (vs++dvs) H1 Q E
noncomputable def Binds(K:aB)(fd:bE)(ps:List Str)(ds:List ae):Prop:=
 ∀(s:af) (us:List ae),K.In s.heap->(us++ds).length=ps.length->BindsTo s fd ⟨us,[]⟩ (ps.zip (us++ds))
theorem Binds.all{K:aB}{fd:bE}{ps:List Str}(h:∀us:List ae,us.length=ps.length->bindArgs fd ⟨us,[]⟩=pure (ps.zip us)):Binds K fd ps []:=λs us _ hl=>by
 rw[b_]at hl ⊢;exact .of_eq (h us hl)
noncomputable def Passes(CX:CXT)(X:Cx)(E:XK):Prop:=∀(pins:List (Addr×Obj)) (σ:St) (H:Hp) (s:af) (e:ae) (s':af),Inv X pins σ H s->CX X.stack H s E e s'->X.xe e s'
section
variable{X:Cx}{CX:CXT}{k:Nat}{f C:Addr}{fd:bE}{ps:List Str}{sp:Sp}{dvs:List V}{ds:List ae}{E:XK}{x m:Str}{p pos apos:Pos}{e o:Expr}{es:List Expr}{ta:TE}{t:TA}
theorem j7{pins:List (Addr×Obj)}{σ:St}{H:Hp}{s:af}{Q:VK}{us:List ae}{vs:List V}(F:dC X.prog X.w X.K X.mg X.base CX k f fd ps sp)(hr:bW k X.A)(hb:Binds X.K fd ps ds)(hd:Vals dvs ds)(hx:Passes CX X E)
  (I:Inv X pins σ H s) (r:Vals vs us) (h:sp (vs++dvs) H Q E):ak (ar X.prog X.w) X.A (call (.ref f) us) (EP X pins σ Q) X.xe s:=by
 have r2:Vals (vs++dvs) (us++ds):=r.append hd;have hl:(us++ds).length=ps.length:=by rw[<-r2.length];exact F.len _ _ _ _ h
 refine wpAny_call (b8 (F.run X.A X.stack s H ⟨us,[]⟩ (us++ds) (vs++dvs) Q E hr I.env0 (hb s us I.kIn hl) r2 h) λr s' hq=>?_);cases r with
 |error e=>exact hx pins σ H s e s' I hq
 |ok fl=>
  cases fl with
  |ret u=>exact I.after hq
  |next=>exact bq hq
  |brk=>exact bq hq
  |cont=>exact bq hq
theorem yn(F:dC X.prog X.w X.K X.mg X.base CX k f fd ps sp)(hr:bW k X.A)(hg:Gl X x)(hm:X.mg x=some (.ref f))(hk:b4 X.K (.ref f)=true)(hb:Binds X.K fd ps ds)(hd:Vals dvs ds)(hx:Passes CX X E)
  (ha:PA X (e::es) t) (hdb:(x==("__debug__" : Str))=false:=by decide) (he:aR (e::es) X.env=(false,eval e X.env)::aR es X.env:=by rfl) (hpl:(backTo pos (aR es X.env)).any (·.1)=false:=by rfl) :
  PE X (.Call (.Name x p) (e::es) [] pos) (jt sp dvs E t):=by
 intro pins s σ H Q I h;refine wpAny_Call_Name_kw (jd I hg hm ?_ hdb);refine PySem.W.callWith_K (h₀:=X.base) I.ok.mod.kin hk (thn (ha pos pins s σ H _ I h) λus s1 ⟨vs,H1,I1,r,q⟩=>⟨I1.kIn,?_⟩) he hpl;exact j7 F hr hb hd hx I1 r q
end
section
variable{X:Cx}{CX:CXT}{k:Nat}{f C:Addr}{fd:bE}{ps ks:List Str}{sp:Sp}{E:XK}{x m:Str}{p pos apos kpos:Pos}{e o:Expr}{es:List Expr}{kws:List Keyword}{te ta:TE}{t tk:TA}{nm:Option Str}
variable{g:List ae->List ae->List ae}{gV:List V->List V->List V}
end
structure fU(N P:List Str)(sc:aY):Prop where
 kind:sc.kind=.function
 co:sc.isCoroutine=false
 gen:sc.isGenerator=false
 nd:N.Nodup
 pre:N.take P.length=P
 par:∀x∈P,sc.names.lookup x=some .local\/sc.names.lookup x=some .cell
 nofree:∀y∈sc.names,y.2≠.free
theorem kL{kindOf:Str->Option aO}{x:Str}:∀{binds:List (Str×ae)}{m:Str->Option ae},(∀v,(x,v)∉binds)->bindL kindOf binds m x=m x
 | [],_,_=>rfl
 | (n,v)::r,m,h=>by
  unfold bindL;rw[kL λw hw=>h w (aS _ hw)];split
  ·have:x≠n:=by rintro rfl;exact h v aW
   simp[this]
  ·rfl
theorem nu{kindOf:Str->Option aO}{x:Str}:∀{binds:List (Str×ae)}{m:Str->Option ae},(∀v,(x,v)∉binds)->bindC kindOf binds m x=m x
 | [],_,_=>rfl
 | (n,v)::r,m,h=>by
  unfold bindC;rw[nu λw hw=>h w (aS _ hw)];split
  ·rfl
  ·have:x≠n:=by rintro rfl;exact h v aW
   simp[this]
theorem kR{kindOf:Str->Option aO}{x:Str}{v:ae}:∀{P:List Str}{vs:List ae}{i:Nat}{m:Str->Option ae},P.Nodup->P[i]? = some x->vs[i]? = some v->kindOf x=some .local ->
  bindL kindOf (P.zip vs) m x=some v
 | [],_,_,_,_,h,_,_=>by simp at h
 |_::_,[],_,_,_,_,h,_=>by simp at h
 |p::P,w::vs,0,m,nd,h1,h2,hk=>by
  simp at h1 h2;subst h1;subst h2;show bindL kindOf ((p,w)::P.zip vs) m p=_;unfold bindL;rw[kL λv hv=>(List.nodup_cons.mp nd).1 (List.of_mem_zip hv).1,if_pos hk];simp
 |p::P,w::vs,i+1,m,nd,h1,h2,hk=>by
  show bindL kindOf ((p,w)::P.zip vs) m x=_;unfold bindL;exact kR (i:=i) (List.nodup_cons.mp nd).2 (by simpa using h1) (by simpa using h2) hk
theorem lX{kindOf:Str->Option aO}{x:Str}{v:ae}:∀{P:List Str}{vs:List ae}{i:Nat}{m:Str->Option ae},P.Nodup->P[i]? = some x->vs[i]? = some v->kindOf x≠some .local ->
  bindC kindOf (P.zip vs) m x=some v
 | [],_,_,_,_,h,_,_=>by simp at h
 |_::_,[],_,_,_,_,h,_=>by simp at h
 |p::P,w::vs,0,m,nd,h1,h2,hk=>by
  simp at h1 h2;subst h1;subst h2;show bindC kindOf ((p,w)::P.zip vs) m p=_;unfold bindC;rw[nu λv hv=>(List.nodup_cons.mp nd).1 (List.of_mem_zip hv).1,if_neg hk];simp
 |p::P,w::vs,i+1,m,nd,h1,h2,hk=>by
  show bindC kindOf ((p,w)::P.zip vs) m x=_;unfold bindC;exact lX (i:=i) (List.nodup_cons.mp nd).2 (by simpa using h1) (by simpa using h2) hk
noncomputable def start(N:List Str)(vs:List V):St:=vs.map some++bP (N.length-vs.length) none
noncomputable def dH(CX:CXT)(P:aA)(w:av)(K:aB)(mg:Str->Option ae)(base:Heap)(N:List Str)(qual:Str)(scope:aY)(f:Addr)(cd:ae)(A:az)(outer:List Env)(s:af)(H:Hp)(E:XK):Cx where
 prog:=P
 w:=w
 K:=K
 mg:=mg
 base:=base
 A:=A.deeper (envOfC qual scope s.heap.objs.size f cd)
 N:=N
 s₀:=s
 H₀:=H
 env:=envOfC qual scope s.heap.objs.size f cd
 outer:=outer
 stack:=envOfC qual scope s.heap.objs.size f cd::outer
 ex:=[]
 calm:=true
 fn:=λ_=>true
 pn:=[]
 xe:=λe s'=>ak (ar P w) (A.deeper (envOfC qual scope s.heap.objs.size f cd)) (leaving (envOfC qual scope s.heap.objs.size f cd) e) (λ_ s''=>CX outer H s E e s'') (λe' s''=>CX outer H s E e' s'') s'
theorem gn{sc:aY}{n:Nat}{x:Str}(h:sc.names.lookup x=some .cell):∃c,(ba n sc.names []).lookup x=some c:=by
 have q:=PySem.W.cellsFrom_some sc.names n [] (.inl h);exact Option.isSome_iff_exists.mp q
theorem ug{CX:CXT}{P:aA}{w:av}{K:aB}{mg:Str->Option ae}{base:Heap}{N ps:List Str}{qual:Str}{scope:aY}{f:Addr}{cd:ae}{A:az}{outer:List Env}{s s1:af}{H:Hp}{E:XK}{us:List ae}{vs:List V}
  (S:fU N ps scope) (hd:A.handled=none) (e0:ff P w K mg base A outer s H) (hl:vs.length=ps.length) (r:Vals vs us)
  (x:InCallC s s.heap.objs.size (bindL (envOfC qual scope s.heap.objs.size f cd).kindOf (ps.zip us) λ_=>none) (ba (s.heap.objs.size+1) scope.names []) (bindC (envOfC qual scope s.heap.objs.size f cd).kindOf (ps.zip us) λ_=>none) s1) :
  Inv (dH CX P w K mg base N qual scope f cd A outer s H E) [] (start N vs) H s1:=by
 have hpl:ps.length<=N.length:=by have:=congrArg List.length S.pre;rw[bZ]at this;lia
 obtain⟨h1,tk,rfl,hk⟩:=x.done;have noA:∀b:Addr,b∉(dH CX P w K mg base N qual scope f cd A outer s H E).ex:=λb z=>absurd (show b∈([]:List Addr)from z) (by simp)
 refine⟨⟨e0.mod,S.kind,rfl,rfl,aD _,λy z c h1 h2=>?_,λy hy=>?_,λy c _ h=>?_,λ_=>hd,az.frames_deeper e0.frames,.inr ⟨rfl,rfl⟩,λb z=>absurd z (noA b),e0.bs,e0.bsz,λb _ _=>noA b,λb z=>absurd z (noA b),e0.funs,e0.frf⟩,
  rfl,e0.bare,Un.kept hk,⟨_,x.toInCall.ns,λi y v h1 h2 h3=>?_⟩,λy c h=>⟨_,x.cell y c h⟩,e0.hok.fresh (aD _),λy c h=>?_,λp hp=>absurd (show p∈([]:List (Addr×Obj))from hp) (by simp),e0.hok.kept hk,?_⟩
 ·exact name_of_addr x.apart (bX h1) (bX h2)
 ·have hy:scope.names.lookup y=some .cell\/scope.names.lookup y=some .free:=hy;rcases hy with hy|hy
  ·exact gn hy
  ·exact absurd rfl (S.nofree _ (bX hy))
 ·exact Nat.le_of_lt (x.above y c (bX h))
 ·have hi:i<vs.length:=by
   unfold start at h2;by_cases hi:i<vs.length
   ·exact hi
   ·rw[List.getElem?_append_right (by simpa using hi)]at h2;rw[List.getElem?_replicate]at h2;split at h2<;>cases h2
  have ha:vs[i]? = some v:=by
   unfold start at h2;rw[List.getElem?_append_left (by simpa using hi),List.getElem?_map]at h2;cases e:vs[i]? with
   |none=>rw[e]at h2;cases h2
   |some a=>rw[e]at h2;cases h2;rfl
  obtain⟨u,hu,rv⟩:=r.get ha;have hp:ps[i]? = some y:=by
   rw[<-S.pre,List.getElem?_take_of_lt (by lia)];exact h1
  have ndP:ps.Nodup:=by rw[<-S.pre];exact S.nd.sublist (List.take_sublist _ _)
  refine⟨u,rv,?_⟩;rcases S.par y (List.mem_of_getElem? hp)with k|k
  ·exact .inl ⟨k,kR ndP hp hu k⟩
  ·obtain⟨c,e⟩:=gn (n:=s.heap.objs.size+1) k;refine .inr ⟨.inl k,c,e,?_⟩;have q:=x.cell y c e;rw[lX ndP hp hu (by show scope.names.lookup y≠_;rw[k];decide)]at q;exact q
 ·exact e0.hok.fresh (Nat.le_of_lt (x.above y c (bX h)))
 ·unfold start;show _=N.length;rw[cC,aZ,List.length_replicate];lia
theorem yj{CX:CXT}{P:aA}{w:av}{K:aB}{mg:Str->Option ae}{base:Heap}{k:Nat}{f:Addr}{name qual:Str}{params:Arguments}{body:List Stmt}{scope:aY}{dV kV doc pm cdv ct oc:ae}{an od:Option Addr}
  {osl:Array (Option ae)}{N ps:List Str}{sp:Sp} (lk:K.lookup f=some ⟨oc,od,.func (b7 name qual params body scope dV kV doc pm an cdv ct),osl⟩) (hcd:PySem.W.codeIn K cdv qual=true) (S:fU N ps scope)
  (len:∀vs H Q E,sp vs H Q E->vs.length=ps.length)
  (hbody:∀(A:az) (outer:List Env) (s:af) (H:Hp) (vs:List V) (Q:VK) (E:XK),bW k (A.deeper (envOfC qual scope s.heap.objs.size f cdv))->sp vs H Q E ->
   ∃t,PSs (dH CX P w K mg base N qual scope f cdv A outer s H E) body t/\t {nx:=λ_ H'=>Q .non H',rt:=Q} (start N vs) H) :
  dC P w K mg base CX (k+1) f (b7 name qual params body scope dV kV doc pm an cdv ct) ps sp:=by
 refine⟨len,λA outer s H args us vs Q E hr e0 hb r hsp=>?_⟩;have hl:=len _ _ _ _ hsp;have KX:K.In s.heap:=e0.mod.kin.keeps λb o e=>(e0.bs b o e).1
 have lim:s.heap.NoLimit:=e0.mod.nolimit.keeps λb o e=>(e0.bs b o e).1
 have hkind:∀y∈ps.zip us,scope.names.lookup y.1=some .local\/(scope.names.lookup y.1=some .cell/\((ba (s.heap.objs.size+1) scope.names []).lookup y.1).isSome=true):=λ⟨n,v⟩ hy=>by
  rcases S.par n (List.of_mem_zip hy).1 with q|q
  ·exact .inl q
  ·exact .inr ⟨q,PySem.W.cellsFrom_some _ _ _ (.inl q)⟩
 refine codeAny_call_function hr.depth (KX _ _ lk) rfl S.co S.gen rfl (PySem.W.codeRec_of KX hcd) (hb _ _ _ _ ?_);refine wpAny_newFunctionEnv_cells S.kind hkind λenv he s1 x=>?_
 subst he;refine⟨lim.keeps x.toInCall.keep,codeAny_func ?_⟩;obtain⟨t,ht,hq⟩:=hbody A outer s H vs Q E (hr.deeper _) hsp;have I:Inv (dH CX P w K mg base N qual scope f cdv A outer s H E) [] (start N vs) H s1:=ug S hr.hd e0 hl r x;refine bS (ht [] s1 (start N vs) H _ I hq) (λfl s' hs=>?_) λe s' hs=>hs
 have fin:∀{σ':St}{H':Hp}{v:V}{u:ae},Inv (dH CX P w K mg base N qual scope f cdv A outer s H E) [] σ' H' s'->RelV v u->Q v H'->CE outer P w H s Q u s':=
  λ{σ' H' v u} J rv q=>⟨v,H',J.os,J.bare,J.base,J.hok,rv,q⟩
 cases fl with
 |ret u=>
  obtain⟨v,σ',H',J,rv,q⟩:=hs;exact fin J rv q
 |next=>
  obtain⟨σ',H',J,q⟩:=hs;exact fin (v:=V.non) (u:=ae.none) J rfl q
 |brk=>
  obtain⟨_,_,_,q⟩:=hs;exact bq q
 |cont=>
  obtain⟨_,_,_,q⟩:=hs;exact bq q
section
variable{X:Cx}{x:Str}{p pos:Pos}{e:Expr}{es:List Expr}{t:TA}{id T:String}{r:List V->Hp->VK->Prop}
noncomputable def tCB(r:List V->Hp->VK->Prop)(t:TA):TE:=λσ H Q=>t σ H λvs H1=>r vs H1 Q
theorem jk(hc:zd X (.builtin id) r)(hg:Gl X x)(hm:X.mg x=none)(hv:bM x=some (.builtin id))(ha:PA X (e::es) t)(hn:x≠"__name__":=by decide)(hdb:(x==("__debug__" : Str))=false:=by decide)
  (he:aR (e::es) X.env=(false,eval e X.env)::aR es X.env:=by rfl) (hpl:(backTo pos (aR es X.env)).any (·.1)=false:=by rfl):PE X (.Call (.Name x p) (e::es) [] pos) (tCB r t):=by
 intro pins s σ H Q I h;refine wpAny_Call_Name_kw (eU I hg hm hv ?_ hn hdb);exact PyProof.Rows.callWith_builtin1 (thn (ha pos pins s σ H _ I h) λus s1 ⟨vs,H1,I1,r1,q1⟩=>hc pins s1 σ H1 vs us Q I1 r1 q1) he hpl
theorem eE(hc:zd X (.type T) r)(hg:Gl X x)(hm:X.mg x=none)(hv:bM x=some (.type T))(ha:PA X (e::es) t)(hn:x≠"__name__":=by decide)(hdb:(x==("__debug__" : Str))=false:=by decide)
  (he:aR (e::es) X.env=(false,eval e X.env)::aR es X.env:=by rfl) (hpl:(backTo pos (aR es X.env)).any (·.1)=false:=by rfl):PE X (.Call (.Name x p) (e::es) [] pos) (tCB r t):=by
 intro pins s σ H Q I h;refine wpAny_Call_Name_kw (eU I hg hm hv ?_ hn hdb);exact PyProof.Rows.callWith_type1 (thn (ha pos pins s σ H _ I h) λus s1 ⟨vs,H1,I1,r1,q1⟩=>hc pins s1 σ H1 vs us Q I1 r1 q1) he hpl
end
end L2
namespace HT
open PySem PyProof.Rows
noncomputable def lexLt:List Int->List Int->Bool
 | [],[]=>false
 | [],_::_=>true
 |_::_,[]=>false
 |x::xs,y::ys=>if x=y then lexLt xs ys else decide (x<y)
theorem oW(x y:Int)(xs ys:List Int):lexLt (x::xs) (y::ys)=if x=y then lexLt xs ys else decide (x<y):=rfl
theorem oo:lexLt [] []=false:=rfl
theorem sO(y:Int)(ys:List Int):lexLt [] (y::ys)=true:=rfl
theorem rY(x:Int)(xs:List Int):lexLt (x::xs) []=false:=rfl
theorem tj(A:az)(s:af)(a:Int)(t:Tok)(c:Int)(u:Tok):∃e,SeqAt.EqAt A s (.int a t) (.int c u) e/\(e=true↔a=c):=
 ⟨(a==c),SeqAt.EqAt.int_int a t c u,by simp⟩
theorem nS(A:az)(s:af)(a:Int)(t:Tok)(c:Int)(u:Tok)(prog:aA)(w:av)(E:ae->af->Prop)(Q:ae->af->Prop)(h:Q (.bool (decide (a<c))) s) :
  ak (ar prog w) A (richCompare .Lt (.int a t) (.int c u)) Q E s:=
 (PyProof.Rows.lt_int h:ak (ar prog w) A (a8 .Lt (.int a t) (.int c u)) Q E s)
section
open PySem.SeqAt
open PySem.AutoSeq1 (wpAny_loadPart')
open PySem.MeetsSeq PySem.MeetsSeq2 PySem.MeetsSeq3
theorem oy(l b:Addr)(items items2:Array ae)(n n2:Nat)(dd dd2:Option Addr)(sl sl2:Array (Option ae))(ns ms:List Int)(hi:bf items.toList ns)(hj:bf items2.toList ms) :
  Meets (Builtin.«tuple.__lt__» ⟨[.ref l,.ref b],[]⟩)
   (λ_ R s=>s.heap.get? l=some {cls:=.type "tuple",dict:=dd,data:=.seq items n,slots:=sl}/\s.heap.get? b=some {cls:=.type "tuple",dict:=dd2,data:=.seq items2 n2,slots:=sl2} /\
    R (.ok (.ret (.bool (lexLt ns ms)))) s):=
 .of_wp λprog w A R s h=>by
  obtain⟨hp,g,d,tk,os⟩:=s;obtain⟨hl,hb,h⟩:=h;have f2:=AutoSeq1.sub_tuple_tuple;have z1:items.size=ns.length:=by rw[<-hi.length];simp
  have z2:items2.size=ms.length:=by rw[<-hj.length];simp
  wp_walk using wpAny_loadPart' hl,wpAny_loadPart' hb,wpAny_forIn_list _ (λrest b s'=>b.1=none/\s'=⟨hp,g,d,tk,os⟩/\∃(vs ws:List ae) (ns' ms':List Int),rest=vs.zip ws /\
   bf vs ns'/\bf ws ms'/\ns'.length+items2.size=ms'.length+items.size/\R (.ok (.ret (.bool (lexLt ns' ms')))) ⟨hp,g,d,tk,os⟩) _
  case turn=>
   rintro⟨y,x⟩ rest b s' ⟨hb',rfl,vs,ws,ns',ms',hz,hvi,hwi,hlen,hR⟩;cases hvi with
   |nil=>rw[List.zip_nil_left]at hz;cases hz
   |cons a t hvi'=>
    cases hwi with
    |nil=>rw[List.zip_nil_right]at hz;cases hz
    |cons c u hwi'=>
     rw[List.zip_cons_cons]at hz;injection hz with hyx hrest
     injection hyx with hy hx
     subst hy hx;rw[oW]at hR;simp only[bO]at hlen;obtain⟨e,he,hiff⟩:=tj A.in1 ⟨hp,g,d,tk,os⟩ a t c u;refine aq (he prog w _ _ ?_);cases e with
     |true=>
      rw[if_pos (hiff.mp rfl)]at hR
      wp_walk
      exact⟨rfl,rfl,_,_,_,_,hrest,hvi',hwi',by lia,hR⟩
     |false=>
      rw[if_neg (λq=>absurd (hiff.mpr q) cB)]at hR;have hri:=nS A.in1 ⟨hp,g,d,tk,os⟩ a t c u prog w
      wp_walk using hri
      exact⟨_,rfl,by simpa using hR⟩
  case fin=>
   rintro⟨b1,b2⟩ s' ⟨hb',rfl,vs,ws,ns',ms',hz,hvi,hwi,hlen,hR⟩;simp only at hb';subst hb';have hv:lexLt ns' ms'=decide (items.size<items2.size):=by
    cases hvi with
    |nil=>
     cases hwi with
     |nil=>
      simp only[List.length_nil]at hlen;rw[oo];exact(decide_eq_false (by lia)).symm
     |cons c u hw=>
      simp only[List.length_nil,bO]at hlen;rw[sO];exact(decide_eq_true (by lia)).symm
    |cons a t hv=>
     cases hwi with
     |nil=>
      simp only[List.length_nil,bO]at hlen;rw[rY];exact(decide_eq_false (by lia)).symm
     |cons c u hw=>
      rw[List.zip_cons_cons]at hz;cases hz
   rw[hv]at hR
   wp_walk
   exact⟨_,rfl,by simpa[Builtin.Tuple.tupleCompareSizes]using hR⟩
  case h=>
   exact⟨rfl,rfl,items.toList,items2.toList,ns,ms,rfl,hi,hj,by lia,h⟩
end
section
variable{prog:aA}{w:av}{A:az}{E:ae->af->Prop}{s:af}
theorem uG{l b:Addr}{items items2:Array ae}{ns ms:List Int}{Q:ae->af->Prop}(hl:IsTup s.heap l items)(hb:IsTup s.heap b items2)(hi:bf items.toList ns)(hj:bf items2.toList ms)
  (hu:A.units<cLine) (h:Q (.bool (lexLt ns ms)) s):ak (ar prog w) A (a8 .Lt (.ref l) (.ref b)) Q E s:=by
 obtain⟨⟨cls,dd,data,sl⟩,ho,hc,n,hd⟩:=id hl;obtain⟨⟨cls2,dd2,data2,sl2⟩,ho2,hc2,n2,hd2⟩:=id hb;simp only at hc hd hc2 hd2;subst hc hd hc2 hd2;exact richCompare_meets_room (op:=.Lt) ⟨_,ho,rfl⟩ ⟨_,ho2,rfl⟩ PySem.F.slot_tuple_lt PySem.F.entry_tuple_lt (PySem.F.args_tuple_lt_2 _ _) (oy l b items items2 n n2 dd dd2 sl sl2 ns ms hi hj)
  ⟨ho,ho2,show ae.bool (lexLt ns ms)≠ae.notImplemented/\Q (.bool (lexLt ns ms)) s from ⟨(λx=>nomatch x),h⟩⟩ hu
theorem oU{t b:Addr}{vs ws:List ae}{Q:ae->af->Prop}(ht:IsTup s.heap t vs.toArray)(hb:IsTup s.heap b ws.toArray)(hv:vs≠[])
  (h1:ws=[]->Q (.ref t) s) (h2:ws≠[]->Q (.ref s.heap.objs.size) {s with heap:=s.heap.push {cls:=.type "tuple",data:=.seq (vs++ws).toArray}})
  (hsz:vs.length+ws.length<=aX):ak (ar prog w) A (bC .Add (.ref t) (.ref b)) Q E s:=by
 obtain⟨⟨cls,dd,data,sl⟩,ho,hc,n,hd⟩:=id ht;obtain⟨⟨cls2,dd2,data2,sl2⟩,ho2,hc2,n2,hd2⟩:=id hb;simp only at hc hd hc2 hd2;subst hc hd hc2 hd2;have e:vs.toArray++ws.toArray=(vs++ws).toArray:=by simp
 by_cases hw:ws=[]
 ·exact concat_meets ⟨_,ho,rfl⟩ ⟨_,ho2,rfl⟩ noFill_tuple_add seq_tuple_add PySem.F.slot_tuple_add PySem.F.entry_tuple_add (PySem.F.args_tuple_add_2 _ _)
   (tuple_addW1 t b vs.toArray ws.toArray n n2 dd dd2 sl sl2 (by simpa using hv) (by simp[hw])) ⟨ho,ho2,h1 hw⟩
 ·refine concat_meets ⟨_,ho,rfl⟩ ⟨_,ho2,rfl⟩ noFill_tuple_add seq_tuple_add PySem.F.slot_tuple_add PySem.F.entry_tuple_add (PySem.F.args_tuple_add_2 _ _)
   (tuple_addW2 t b vs.toArray ws.toArray n n2 dd dd2 sl sl2 (by simpa using hv) (by simpa using hw) (by rw[aU,aU];exact hsz)) ⟨ho,ho2,?_⟩
  rw[e];exact h2 hw
noncomputable def sIx(n d:Nat):Option Int->Nat
 |none=>d
 |some v=>if v<0 then (v+(n:Int)).toNat else min v.toNat n
end
end HT
namespace L2
open PySem PySem.Spec PyProof.Rows
abbrev TO:=St->Hp->(Option Int->Hp->Prop)->Prop
noncomputable def PO(X:Cx)(e:Option Expr)(t:TO):Prop:=
 ∀(pins:List (Addr×Obj)) (s:af) (σ:St) (H:Hp) (Q:Option Int->Hp->Prop),Inv X pins σ H s->t σ H Q ->
  ak (ar X.prog X.w) X.A (evalPart e X.env) (λu s'=>∃o H',Inv X pins σ H' s'/\IsPart u o/\Q o H') X.xe s
noncomputable def sG:TO:=λ_ H Q=>Q none H
noncomputable def rX(t:TE):TO:=λσ H Q=>t σ H λx H1=>∃i,x=.int i/\Q (some i) H1
theorem intsAre_of{ns:List Int}:∀{us:List ae},Vals (ns.map V.int) us->bf us ns:=by
 induction ns with
 |nil=>intro us r;rw[List.map_nil]at r;cases r;exact .nil
 |cons n ns ih=>
  intro us r;rw[bF]at r;cases r with
  |cons r1 r2=>
   obtain⟨t,e⟩:=r1;subst e;exact .cons n t (ih r2)
section
variable{X:Cx}{e:Expr}{te:TE}{lo hi:Option Expr}{tl th:TO}{pos p2:Pos}
theorem xE:PO X none sG:=by
 intro pins s σ H Q I h;rw[evalPart_none];exact aC ⟨none,H,I,.none,h⟩
theorem ub(h:PE X e te):PO X (some e) (rX te):=by
 intro pins s σ H Q I hw;rw[evalPart_some];refine thn (h pins s σ H _ I hw) λu s1 ⟨x,H1,I1,r1,q1⟩=>?_
 obtain⟨i,rfl,q⟩:=q1;obtain⟨t,rfl⟩:=r1;exact⟨some i,H1,I1,.int i t,q⟩
noncomputable def SlR(X:Cx)(r:V->Option Int->Option Int->Hp->VK->Prop):Prop:=
 ∀(pins:List (Addr×Obj)) (s:af) (σ:St) (H:Hp) (x:V) (v vl vu:ae) (lo hi:Option Int) (sl:Addr) (Q:VK),Inv X pins σ H s->RelV x v->s.heap.IsSliceOf sl vl vu .none->IsPart vl lo->IsPart vu hi->r x lo hi H Q ->
  ∃T id,typeLookup (.type T) "__getitem__" = pure (some (.builtin id))/\s.TypeIs v T/\ak (ar X.prog X.w) X.A (getItem v (.ref sl)) (EP X pins σ Q) X.xe s
noncomputable def tSl(r:V->Option Int->Option Int->Hp->VK->Prop)(te:TE)(tl th:TO):TE:=λσ H Q=>te σ H λx H1=>tl σ H1 λl H2=>th σ H2 λu H3=>r x l u H3 Q
theorem uC{r:V->Option Int->Option Int->Hp->VK->Prop}(hr:SlR X r)(he:PE X e te)(hl:PO X lo tl)(hu:PO X hi th):PE X (.Subscript e (.Slice lo hi none p2) pos) (tSl r te tl th):=by
 intro pins s σ H Q I h;refine Subscript_ (thn (he pins s σ H _ I h) λv s1 ⟨x,H1,I1,r1,q1⟩=>?_);refine wpAny_Slice (thn (hl pins s1 σ H1 _ I1 q1) λvl s2 ⟨l,H2,I2,pl,q2⟩=>thn (hu pins s2 σ H2 _ I2 q2) λvu s3 ⟨u,H3,I3,pu,q3⟩=>?_);rw[evalPart_none];refine aC ?_;have I4:Inv X pins σ H3 {s3 with heap:=s3.heap.push {cls:=.type "slice",data:=.fields #[vl,vu,.none]}}:=I3.kept (t':=s3.toks) λb ob q=>Heap.get?_push_of_some _ q
 obtain⟨T,id,hT,ht,hg⟩:=hr pins {s3 with heap:=s3.heap.push {cls:=.type "slice",data:=.fields #[vl,vu,.none]}} σ H3 x v vl vu l u s3.heap.objs.size Q I4 r1 (Heap.IsSliceOf.new ..) pl pu q3;show ak (ar X.prog X.w) X.A (subscriptTail e (.Slice lo hi none p2) v (.ref s3.heap.objs.size)) (EP X pins σ Q) X.xe {s3 with heap:=s3.heap.push {cls:=.type "slice",data:=.fields #[vl,vu,.none]}};exact tail_any (ops:=[.ref s3.heap.objs.size,v]) ht hT hg (by with_unfolding_all rfl)
noncomputable def eZ(xs:List V)(lo hi:Option Int):List V:=(xs.drop (HT.sIx xs.length 0 lo)).take (HT.sIx xs.length xs.length hi-HT.sIx xs.length 0 lo)
theorem vY(xs:List V)(lo hi:Option Int):(eZ xs lo hi).length<=xs.length:=by
 unfold eZ;rw[bZ,List.length_drop];lia
noncomputable def vO(K:aB):R2:=λx y H Q=>∃a b ns ms,x=.ref a/\y=.ref b/\SqT K H a (ns.map V.int)/\SqT K H b (ms.map V.int)/\Q (.bl (HT.lexLt ns ms)) H
theorem sT(hu:X.A.units<cLine):OpR X (a8 .Lt) (vO X.K):=by
 intro pins s σ H x y v u Q I rx ry h;obtain⟨a,b,ns,ms,rfl,rfl,ha,hb,q⟩:=h;cases rx;cases ry;obtain⟨its,r1,p1,_⟩:=I.tuple ha;obtain⟨its2,r2,p2,_⟩:=I.tuple hb;have i1:bf its.toArray.toList ns:=intsAre_of r1;have i2:bf its2.toArray.toList ms:=intsAre_of r2;exact HT.uG p1 p2 i1 i2 hu ⟨.bl (HT.lexLt ns ms),H,I,rfl,q⟩
noncomputable def oj(K:aB):R2:=λx y H Q=>∃a b xs ys,x=.ref a/\y=.ref b/\SqT K H a xs/\SqT K H b ys/\xs≠[]/\xs.length+ys.length<=aX /\
 (ys=[]->Q (.ref a) H)/\(ys≠[]->∀p,H p=none->Q (.ref p) (upd H p (.tup (xs++ys))))
theorem Vals.nil_iff{xs:List V}{us:List ae}(r:Vals xs us):us=[]↔xs=[]:=by
 cases r with
 |nil=>simp
 |cons _ _=>simp
theorem tZ:OpR X (bC .Add) (oj X.K):=by
 intro pins s σ H x y v u Q I rx ry h;obtain⟨a,b,xs,ys,rfl,rfl,ha,hb,hx,hz,q1,q2⟩:=h;cases rx;cases ry;obtain⟨its,r1,p1,_⟩:=I.tuple ha;obtain⟨its2,r2,p2,_⟩:=I.tuple hb;refine HT.oU p1 p2 (λz=>hx (r1.nil_iff.mp z)) (λz=>⟨.ref a,H,I,rfl,q1 (r2.nil_iff.mp z)⟩) (λz=>?_) (by rw[<-r1.length,<-r2.length];exact hz);refine⟨.ref s.heap.objs.size,_,I.laid (t':=s.toks) (o:=.tup (xs++ys)) (λb ob q=>Heap.get?_push_of_some _ q) (aD _) ?_,rfl,q2 (λw=>z (r2.nil_iff.mpr w)) _ (I.hok.fresh (aD _))⟩;exact⟨by rw[cC];exact hz,_,r1.append r2,IsTup.new _ _⟩
end
noncomputable def ixN(n:Nat)(i:Int):Option Nat:=if 0<=i then (if i<n then some i.toNat else none)else if -(n:Int)<=i then some (i+n).toNat else none
noncomputable def atI{α:Type}(xs:List α)(i:Int):Option α:=(ixN xs.length i).bind λj=>xs[j]?
theorem kY{n:Nat}{i:Int}{j:Nat}(h:ixN n i=some j):seqIndex? i n=some j/\j<n/\-(n:Int)<=i/\i<n:=by
 unfold ixN at h;by_cases h0:0<=i
 ·rw[if_pos h0]at h;by_cases h1:i<n
  ·rw[if_pos h1]at h;have e:i.toNat=j:=bV h;exact⟨by rw[seqIndex_of h0 h1,e],by lia,by lia,h1⟩
  ·rw[if_neg h1]at h;cases h
 ·rw[if_neg h0]at h;by_cases h1:-(n:Int)<=i
  ·rw[if_pos h1]at h;have e:(i+n).toNat=j:=bV h;exact⟨by rw[seqIndex_neg (by lia) h1,e],by lia,h1,by lia⟩
  ·rw[if_neg h1]at h;cases h
theorem ki{α:Type}{xs:List α}{i:Int}{v:α}(h:atI xs i=some v):∃j,seqIndex? i xs.length=some j/\xs[j]? = some v/\j<xs.length/\-(xs.length:Int)<=i/\i<xs.length:=by
 unfold atI at h;cases e:ixN xs.length i with
 |none=>rw[e]at h;cases h
 |some j=>
  rw[e]at h;obtain⟨h1,h2,h3,h4⟩:=kY e;exact⟨j,h1,h,h2,h3,h4⟩
noncomputable def nh(b:Expr):Prop:=∀o i,subscripted b false o i=operate [o,i] (getItem o i)
noncomputable def IxR(X:Cx)(r:R2):Prop:=
 ∀(value slice:Expr) (pins:List (Addr×Obj)) (s:af) (σ:St) (H:Hp) (x y:V) (v u:ae) (Q:VK),Inv X pins σ H s->RelV x v->RelV y u->r x y H Q ->
  subscripted slice false v u=operate [v,u] (getItem v u)->ak (ar X.prog X.w) X.A (subscriptTail value slice v u) (EP X pins σ Q) X.xe s
noncomputable def MtR(X:Cx)(id:String)(r:V->List V->Hp->VK->Prop):Prop:=
 ∀(pins:List (Addr×Obj)) (s:af) (σ:St) (H:Hp) (x:V) (xs:List V) (v:ae) (us:List ae) (Q:VK),Inv X pins σ H s->RelV x v->Vals xs us->r x xs H Q ->
  ak (ar X.prog X.w) X.A (call (.builtin id) (v::us)) (EP X pins σ Q) X.xe s
section
variable{X:Cx}{a b:Expr}{ta tb:TE}{pos:Pos}
theorem IxR.or{r r':R2}(h:IxR X r)(h':IxR X r'):IxR X (λx y H Q=>r x y H Q\/r' x y H Q):=by
 intro value slice pins s σ H x y v u Q I rx ry q hs;rcases q with q|q
 ·exact h value slice pins s σ H x y v u Q I rx ry q hs
 ·exact h' value slice pins s σ H x y v u Q I rx ry q hs
theorem uW{r:R2}(hr:IxR X r)(ha:PE X a ta)(hb:PE X b tb)(hs:nh b):PE X (.Subscript a b pos) (tOp r ta tb):=by
 intro pins s σ H Q I h;exact Subscript_ (i3 ha hb I h λv u s2 x y H2 I2 rx ry q=>hr a b pins s2 σ H2 x y v u Q I2 rx ry q (hs _ _))
noncomputable def kU(K:aB):R2:=λx y H Q=>∃p xs i v,x=.ref p/\y=.int i/\SqL K H p xs/\atI xs i=some v/\Q v H
noncomputable def m9(K:aB):R2:=λx y H Q=>∃p xs i v,x=.ref p/\y=.int i/\SqT K H p xs/\atI xs i=some v/\Q v H
theorem pA:IxR X (kU X.K):=by
 intro value slice pins s σ H x y v u Q I rx ry h hs;obtain⟨p,xs,i,z,rfl,rfl,hq,he,q⟩:=h;cases rx;obtain⟨t,rfl⟩:=ry;obtain⟨its,r,pl,hz⟩:=I.list hq;obtain⟨j,h1,h2,h3,h4,h5⟩:=ki he;obtain⟨w,ew,rw'⟩:=r.get h2;have hl:=r.length;have hn:=fN;have fin:EP X pins σ Q w s:=⟨z,H,I,rw',q⟩
 by_cases h0:0<=i
 ·have hj:i.toNat=j:=by
   rw[seqIndex_of h0 h5]at h1;exact bV h1
  exact item_listR pl.isList h0 (by lia) (by rw[hj];simpa using ew) fin hs
 ·have hj:(i+(its.toArray.size:Int)).toNat=j:=by
   rw[seqIndex_neg (by lia) h4]at h1;rw[aU,<-hl];exact bV h1
  exact subscriptTail_builtinR (x:=w) pl.isList.typeIs slot_list_getitem.lookup
   (wpAny_getItem_list_neg (Q:=λr s'=>r=w/\EP X pins σ Q r s') pl.isList (by lia) (by rw[aU]<;>lia) (by lia) (by rw[hj];simpa using ew) ⟨rfl,fin⟩) hs
theorem pV:IxR X (m9 X.K):=by
 intro value slice pins s σ H x y v u Q I rx ry h hs;obtain⟨p,xs,i,z,rfl,rfl,hq,he,q⟩:=h;cases rx;obtain⟨t,rfl⟩:=ry;obtain⟨its,r,pl,hz⟩:=I.tuple hq;obtain⟨j,h1,h2,h3,h4,h5⟩:=ki he;obtain⟨w,ew,rw'⟩:=r.get h2;have hl:=r.length;have hn:=fN;have fin:EP X pins σ Q w s:=⟨z,H,I,rw',q⟩
 exact subscriptTail_builtinR (x:=w) pl.typeIs slot_tuple_getitem.lookup
  (getItem_tuple (j:=j) (Q:=λr s'=>r=w/\EP X pins σ Q r s') pl (by lia) (by lia) (by rw[aU,<-hl];exact h1) (by simpa using ew) ⟨rfl,fin⟩) hs
theorem xU(its:List ae)(n j:Nat)(u:ae):bG (·.setIfInBounds j u) {cls:=.type "list",data:=.seq its.toArray n}={cls:=.type "list",data:=.seq (its.set j u).toArray n}:=by
 simp[bG]
theorem Inv.lst{pins:List (Addr×Obj)}{σ:St}{H:Hp}{s:af}{p:Addr}{xs:List V}(I:Inv X pins σ H s)(h:H p=some (.lst xs)) :
  ∃(its:List ae) (n:Nat),Vals xs its/\s.heap.get? p=some {cls:=.type "list",data:=.seq its.toArray n}/\xs.length<=sizeLine:=by
 obtain⟨z,its,n,r,e⟩:=I.hok p _ h;exact⟨its,n,r,e,z⟩
theorem Inv.lstUpd{pins:List (Addr×Obj)}{σ:St}{H:Hp}{s:af}{p:Addr}{xs ys:List V}{its its':List ae}{n n':Nat}{f:Obj->Obj}(I:Inv X pins σ H s)(h:H p=some (.lst xs))
  (ho:s.heap.get? p=some {cls:=.type "list",data:=.seq its.toArray n}) (hf:f {cls:=.type "list",data:=.seq its.toArray n}={cls:=.type "list",data:=.seq its'.toArray n'}) (r:Vals ys its') (hz:ys.length<=aX) (t:Nat) :
  Inv X pins σ (upd H p (.lst ys)) {s with heap:=s.heap.update p f,toks:=t}:=by
 have e:(s.heap.update p f).get? p=some {cls:=.type "list",data:=.seq its'.toArray n'}:=by
  rw[Heap.get?_update_self f ho (by rw[hf]<;>rfl),hf]
 refine I.write (x:=p) (e:=p) (by rw[h];trivial) (.inl rfl) (λb u hb q=>(Heap.get?_update_other _ _ (Ne.symm hb)).trans q) ⟨_,e⟩ ?_;exact⟨hz,its',n',r,e⟩
noncomputable def lq:V->V->V->Hp->(Hp->Prop)->Prop:=λo i v H Q=>∃p xs k j,o=.ref p/\i=.int k/\H p=some (.lst xs)/\ixN xs.length k=some j/\Q (upd H p (.lst (xs.set j v)))
theorem set_list:lK X lq:=by
 intro pins s σ H o i v ov iv u Q I ro ri rv h;obtain⟨p,xs,k,j,rfl,rfl,hp,hj,q⟩:=h;cases ro;obtain⟨t,rfl⟩:=ri;obtain⟨its,n,r,ho,hz⟩:=I.lst hp;obtain⟨h1,h2,h3,h4⟩:=kY hj;have hl:=r.length;have hn:=fN;have I':Inv X pins σ (upd H p (.lst (xs.set j v))) {s with heap:=s.heap.update p (bG (·.setIfInBounds j u))}:=
  I.lstUpd hp ho (xU its n j u) (r.set rv j) (by rw[List.length_set];exact hz) s.toks
 by_cases h0:0<=k
 ·have hk:k.toNat=j:=by
   rw[seqIndex_of h0 h4]at h1;exact bV h1
  exact PySem.W.ki_setAt ho h0 (by lia) (by rw[aU,<-hl];exact h4) (by rw[hk];exact⟨_,I',q⟩)
 ·have hk:(k+(its.toArray.size:Int)).toNat=j:=by
   rw[seqIndex_neg (by lia) h3]at h1;rw[aU,<-hl];exact bV h1
  exact PySem.W.ki_setBack ho (by lia) (by rw[aU,<-hl];exact h3) (by lia) (by rw[hk];exact⟨_,I',q⟩)
theorem v_(lo hi:Option Int)(n:Nat):(sliceBounds lo hi none n).1=((HT.sIx n 0 lo:Nat):Int)/\(sliceBounds lo hi none n).2.1=((HT.sIx n n hi:Nat):Int)/\(sliceBounds lo hi none n).2.2=1:=by
 refine⟨?_,?_,rfl⟩
 ·cases lo with
  |none=>simp[sliceBounds,HT.sIx]
  |some i=>
   simp only[sliceBounds,HT.sIx,Option.getD_none,show (1:Int)>0 by decide,if_true];by_cases h:i<0
   ·simp only[h,if_true]<;>lia
   ·simp only[h,if_false]<;>lia
 ·cases hi with
  |none=>simp[sliceBounds,HT.sIx]
  |some i=>
   simp only[sliceBounds,HT.sIx,Option.getD_none,show (1:Int)>0 by decide,if_true];by_cases h:i<0
   ·simp only[h,if_true]<;>lia
   ·simp only[h,if_false]<;>lia
theorem xZ(its:List ae)(lo hi:Option Int):slicePick its.toArray lo hi none=((its.drop (HT.sIx its.length 0 lo)).take (HT.sIx its.length its.length hi-HT.sIx its.length 0 lo)).toArray:=by
 obtain⟨h1,h2,h3⟩:=v_ lo hi its.toArray.size;unfold slicePick;rw[h1,h2,h3];simp only[sliceRange_one,pick_run,aU]<;>rfl
noncomputable def xS(K:aB):V->Option Int->Option Int->Hp->VK->Prop:=λx lo hi H Q=>∃a xs,x=.ref a/\SqL K H a xs/\∀p,H p=none->Q (.ref p) (upd H p (.lst (eZ xs lo hi)))
theorem sv:SlR X (xS X.K):=by
 intro pins s σ H x v vl vu lo hi sl Q I rx hs pl pu h;obtain⟨a,xs,rfl,hx,q⟩:=h;cases rx;obtain⟨its,r,ht,hz⟩:=I.list hx;have hlen:=r.length;refine⟨"list",_,slot_list_getitem.lookup,ht.isList.typeIs,?_⟩;refine wpAny_getItem_list_slice ht.isList hs pl pu .none (by simp) ?_ (by rw[aU]<;>lia);rw[xZ,<-hlen];refine⟨.ref s.heap.objs.size,_,I.laid (t':=s.toks) (o:=.lst (eZ xs lo hi)) (λb ob q=>Heap.get?_push_of_some _ q) (aD _) ?_,rfl,q _ (I.hok.fresh (aD _))⟩;exact⟨bz (vY xs lo hi) hz,_,0,(r.drop (HT.sIx xs.length 0 lo)).take (HT.sIx xs.length xs.length hi-HT.sIx xs.length 0 lo),Heap.get?_push_size _ rfl⟩
theorem oJ:zd X (.builtin "len") (λxs H Q=>∃p ys,xs=[.ref p]/\(SqL X.K H p ys\/SqT X.K H p ys)/\Q (.int ys.length) H):=by
 intro pins s σ H xs us Q I r h;obtain⟨p,ys,rfl,hq,q⟩:=h;obtain⟨u,rfl,rx⟩:=vals1 r;cases rx;have hn:=fN;rcases hq with hq|hq
 ·obtain⟨its,r',pl,hz⟩:=I.list hq;have hlen:=r'.length;exact Calls.call_len_list pl.isList (by simp only[aU]<;>lia) ⟨.int ys.length,H,I.tok _,⟨s.toks+1,by rw[aU,hlen]⟩,q⟩
 ·obtain⟨its,r',pl,hz⟩:=I.tuple hq;have hlen:=r'.length;exact len_tuple pl (by simp only[aU]<;>lia) ⟨.int ys.length,H,I.tok _,⟨s.toks+1,by rw[aU,hlen]⟩,q⟩
theorem uH:zd X (.type "list") (λxs H Q=>∃p ys,xs=[.ref p]/\(SqL X.K H p ys\/SqT X.K H p ys)/\∀l,H l=none->Q (.ref l) (upd H l (.lst ys))):=by
 intro pins s σ H xs us Q I r h;obtain⟨p,ys,rfl,hq,q⟩:=h;obtain⟨u,rfl,rx⟩:=vals1 r;cases rx;have fin:∀(its:List ae),Vals ys its->ys.length<=aX->∀(h':Heap) (c':Nat),(∀b o',s.heap.get? b=some o'->h'.get? b=some o') ->
   h'.get? s.heap.objs.size=some {cls:=.type "list",dict:=none,data:=.seq its.toArray c',slots:=#[]}->EP X pins σ Q (.ref s.heap.objs.size) {s with heap:=h'}:=λits r' hz h' c' kp e=>
  ⟨.ref s.heap.objs.size,_,I.laid (t':=s.toks) kp (aD _) (show zA X.prog X.w _ h' _ (.lst ys)from ⟨hz,its,c',r',e⟩),rfl,q _ (I.hok.fresh (aD _))⟩
 rcases hq with hq|hq
 ·obtain⟨its,r',pl,hz⟩:=I.list hq;have hlen:=r'.length;obtain⟨o,ho,hc,n,hd⟩:=pl.isList;exact call_list_seq p (.inl rfl) ho hc hd (λh' c' kp e=>fin its r' hz h' c' kp e) (by simp only[aU]<;>lia)
 ·obtain⟨its,r',pl,hz⟩:=I.tuple hq;have hlen:=r'.length;obtain⟨o,ho,hc,n,hd⟩:=pl;exact call_list_seq p (.inr rfl) ho hc hd (λh' c' kp e=>fin its r' hz h' c' kp e) (by simp only[aU]<;>lia)
theorem xC:zd X (.type "tuple") (λxs H Q=>∃p ys,xs=[.ref p]/\((SqL X.K H p ys/\∀l,H l=none->Q (.ref l) (upd H l (.tup ys)))\/(SqT X.K H p ys/\Q (.ref p) H))):=by
 intro pins s σ H xs us Q I r h;obtain⟨p,ys,rfl,h⟩:=h;obtain⟨u,rfl,rx⟩:=vals1 r;cases rx;rcases h with ⟨hq,q⟩|⟨hq,q⟩
 ·obtain⟨its,r',pl,hz⟩:=I.list hq;have hlen:=r'.length;refine call_tuple_list pl.isList (λh' kp=>?_) (by simp only[aU]<;>lia);have I1:Inv X pins σ H {s with heap:=h'}:=I.kept (t':=s.toks) kp;have I2:Inv X pins σ (upd H h'.objs.size (.tup ys)) {s with heap:=h'.push {cls:=.type "tuple",data:=.seq its.toArray}}:=
   I1.laid (t':=s.toks) (λb o e=>Heap.get?_push_of_some _ e) (aD _) (show zA X.prog X.w _ _ _ (.tup ys)from ⟨hz,its,r',IsTup.new _ _⟩)
  exact⟨.ref h'.objs.size,_,I2,rfl,q _ (I1.hok.fresh (aD _))⟩
 ·obtain⟨its,r',pl,hz⟩:=I.tuple hq;exact call_tuple_same pl ⟨.ref p,H,I,rfl,q⟩
noncomputable def tyV(K:aB)(T:String)(x:V)(H:Hp):Prop:=match x with
 | .str _=>T = "str"
 | .int _=>T = "int"
 | .ref p=>(T = "list"/\∃xs,SqL K H p xs)\/(T = "tuple"/\∃o,K.lookup p=some o/\o.cls=.type "tuple"/\o.dict=none) \/
   (T = "dict"/\((∃kvs,H p=some (.dK kvs))\/∃kvs,H p=some (.dT kvs)))\/(T = "set"/\∃S n,H p=some (.set S n))
 |_=>False
theorem nB{pins:List (Addr×Obj)}{σ:St}{H:Hp}{s:af}{T:String}{x:V}{v:ae}(I:Inv X pins σ H s)(r:RelV x v)(ty:tyV X.K T x H) :
  s.TypeIs v T/\∀a,v=.ref a->∃ob,s.heap.get? a=some ob/\ob.dict=none:=by
 cases x with
 |str z=>
  obtain⟨t,rfl⟩:=r;cases (show T = "str" from ty);exact⟨typeIs_str s z t,λ_ e=>nomatch e⟩
 |int i=>
  obtain⟨t,rfl⟩:=r;cases (show T = "int" from ty);exact⟨typeIs_int s i t,λ_ e=>nomatch e⟩
 |ref p=>
  cases r;rcases ty with ⟨rfl,xs,hq⟩|⟨rfl,o,hk,hc,hd⟩|⟨rfl,hk⟩|⟨rfl,S,n,hk⟩
  ·obtain⟨its,_,pl,_⟩:=I.list hq;refine⟨pl.isList.typeIs,λa e=>?_⟩;cases e;obtain⟨o,n,e,c,hd,_⟩:=pl;exact⟨o,e,hd⟩
  ·refine⟨⟨o,I.kIn p o hk,hc⟩,λa e=>?_⟩;cases e;exact⟨o,I.kIn _ o hk,hd⟩
  ·have z:∃o,s.heap.get? p=some o/\o.ExactDict:=by
    rcases hk with ⟨kvs,hk⟩|⟨kvs,hk⟩
    ·obtain⟨_,_,_,_,o,_,_,e,ex,_⟩:=I.hok p _ hk;exact⟨o,e,ex⟩
    ·obtain⟨_,_,_,_,o,_,_,e,ex,_⟩:=I.hok p _ hk;exact⟨o,e,ex⟩
   obtain⟨o,e,ex⟩:=z;refine⟨⟨o,e,ex.1⟩,λa e2=>?_⟩;cases e2;exact⟨o,e,ex.2.1⟩
  ·obtain⟨o,_,_,_,e,ex,_⟩:=I.hok p _ hk;refine⟨⟨o,e,ex.1⟩,λa e2=>?_⟩;cases e2;exact⟨o,e,ex.2.1⟩
 |_=>exact bq ty
noncomputable def tBM(K:aB)(T:String)(r:V->List V->Hp->VK->Prop)(to:TE)(t:TA):TE:=λσ H Q=>to σ H λx H1=>tyV K T x H1/\t σ H1 λxs H2=>r x xs H2 Q
variable{o e:Expr}{es:List Expr}{to:TE}{t:TA}{name:Str}{apos cpos:Pos}{T id:String}{r:V->List V->Hp->VK->Prop}
theorem p9(pa:PlainAttrs T)(slot:Slot T name id)(hty:typeOf (.builtin id)=pure (.type "method_descriptor"))(hm:MtR X id r)(ho:PE X o to)(ha:PA X (e::es) t)
  (hbase:attributeBase o name X.env (eval o X.env)=eval o X.env:=by rfl)
  (hfew:((backTo cpos (aR (e::es) X.env)).all (λx=>!x.1)&&(backToKw cpos (keywordEach [] X.env)).all (λx=>x.1.isSome)
   && decide ((e::es).length+([]:List Keyword).length+(if ([]:List Keyword).isEmpty then 0 else 1)<30))=true:=by rfl)
  (hline:(apos.endLine==cpos.line)=true:=by rfl) (hs:aR (e::es) X.env=(false,eval e X.env)::aR es X.env:=by rfl) (hplain:(backTo cpos (aR es X.env)).any (·.1)=false:=by rfl) :
  PE X (.Call (.Attribute o name apos) (e::es) [] cpos) (tBM X.K T r to t):=by
 intro pins s σ H Q I h;refine wpAny_Call_method_late hbase hfew hline rfl (thn (ho pins s σ H _ I h) λv s1 ⟨x,H1,I1,r1,ty,q1⟩=>?_);obtain⟨h1,h2⟩:=nB I1 r1 ty;refine⟨T,id,pa,slot,hty,h1,h2,?_⟩;have hA:=ha cpos pins s1 σ H1 _ I1 q1;rw[hs]at hA ⊢;refine Calls.callWith_builtin (by show (false||(backTo cpos (aR es X.env)).any (·.1))=false;rw[hplain]<;>rfl) (Calls.evalArgs_plain ?_);exact thn hA λus s2 ⟨vs,H2,I2,r2,q2⟩=>hm pins s2 σ H2 x vs v us Q I2 r1 r2 q2
/- xs.append(e), list.index on a module's tuple .. are MtR facts of 06m -/
end
noncomputable def MtM(X:Cx)(id:String)(r:V->List V->Hp->VK->Prop):Prop:=
 ∀(pins:List (Addr×Obj)) (s:af) (σ:St) (H:Hp) (x:V) (xs:List V) (v:ae) (us:List ae) (Q:VK),Inv X pins σ H s->RelV x v->Vals xs us->r x xs H Q ->
  ak (ar X.prog X.w) X.A (call (.builtin id) (v::us)) (EP X pins σ Q) X.xe s
theorem Vals.one{x:V}{us:List ae}(h:Vals [x] us):∃u,us=[u]/\RelV x u:=by
 cases h with
 |cons r h=>cases h;exact⟨_,rfl,r⟩
theorem Vals.two{x y:V}{us:List ae}(h:Vals [x,y] us):∃u v,us=[u,v]/\RelV x u/\RelV y v:=by
 cases h with
 |cons r h=>cases h with
  |cons q h=>cases h;exact⟨_,_,rfl,r,q⟩
theorem Vals.zero:∀{us:List ae},Vals [] us->us=[]
 |_,.nil=>rfl
section
variable{X:Cx}{pins:List (Addr×Obj)}{σ:St}{H:Hp}{s:af}{l b:Addr}{xs ys zs:List V}
theorem Inv.lset{its its':List ae}{n:Nat}{f:Array ae->Array ae}{t':Nat}(I:Inv X pins σ H s)(hH:H l=some (.lst xs))
  (e:s.heap.get? l=some {cls:=.type "list",data:=.seq its.toArray n}) (hf:f its.toArray=its'.toArray) (hv:Vals ys its') (hz:ys.length<=aX) :
  Inv X pins σ (upd H l (.lst ys)) {s with heap:=s.heap.update l (bG f),toks:=t'}:=by
 have q:=PySem.IsL.update e f;rw[hf]at q;refine I.write (x:=l) (e:=l) (by rw[hH];exact trivial) (.inl rfl) (λb' u hb hu=>(Heap.get?_update_other s.heap (bG f) (Ne.symm hb)).trans hu) ⟨_,q⟩ ?_;exact⟨hz,its',_,hv,q⟩
theorem Inv.lnew{its:List ae}{t':Nat}(I:Inv X pins σ H s)(hv:Vals ys its)(hz:ys.length<=aX) :
  Inv X pins σ (upd H s.heap.objs.size (.lst ys)) {s with heap:=s.heap.push {cls:=.type "list",data:=.seq its.toArray},toks:=t'}:=
 I.laid (λ_ _ q=>Heap.get?_push_of_some _ q) (aD _) ⟨hz,its,0,hv,Heap.get?_push_size _ rfl⟩
theorem Inv.fresh(I:Inv X pins σ H s):H s.heap.objs.size=none:=I.hok.fresh (aD _)
theorem Inv.lstM(I:Inv X pins σ H s)(hH:H l=some (.lst xs)):xs.length<=aX/\∃(its:List ae) (n:Nat),Vals xs its/\xs.length=its.length/\s.heap.get? l=some {cls:=.type "list",data:=.seq its.toArray n}:=by
 obtain⟨z,its,n,r,e⟩:=I.hok l _ hH;exact⟨z,its,n,r,r.length,e⟩
end
section
variable{X:Cx}
noncomputable def tO:V->List V->Hp->VK->Prop:=λx vs H Q=>∃l xs y,x=.ref l/\vs=[y]/\H l=some (.lst xs)/\xs.length<aX/\Q .non (upd H l (.lst (xs++[y])))
theorem mD:MtM X "list.append" tO:=by
 intro pins s σ H x vs v us Q I rx rv h;obtain⟨l,xs,y,rfl,rfl,hH,hz,q⟩:=h;cases rx;obtain⟨u,rfl,ru⟩:=rv.one;obtain⟨z,its,n,r,hl,e⟩:=I.lstM hH;refine call_meets F.slot_list_append ⟨_,e,rfl⟩ F.entry_list_append (F.args_list_append_2 _ _) (PySem.list_append l its.toArray n u (by rw[aU];lia)) ⟨e,?_⟩;refine⟨.non,_,I.lset (its':=its++[u]) hH e (by simp) (r.append (.cons ru .nil)) ?_,rfl,q⟩;rw[cC,List.length_singleton];lia
end
section
variable{prog:aA}{w:av}{A:az}{E:ae->af->Prop}{s:af}
set_option maxRecDepth 100000 in
end
section
variable{X:Cx}
end
end L2
namespace Att
open PySem PySem.W PySem.Calls PyProof.Rows
theorem wW{P:Params}{h:Heap}:∀(ns:List Int) (vs:List ae),WellAll P h vs (ns.map WData.int)->bf vs ns:=by
 intro ns
 induction ns with
 |nil=>
  intro vs w;rw[List.map_nil]at w;cases w;exact .nil
 |cons n ns ih=>
  intro vs w;rw[bF]at w;cases w with
  |cons a b=>
   cases a;exact .cons _ _ (ih _ b)
theorem pX{l:OpenLaw}{n:Nat}(hn:l.most=some n){P:Params}{h:Heap}{args:List WData}{vals:List ae}
  (hpre:l.row.toRowW.claim.pre args=true) (hwl:WellAll P h vals args) :
  ∃a vs ns,vals=[ae.ref a]/\args=[WData.list (ns.map WData.int)]/\h.get? a=some {cls:=.type "list",data:=.seq vs.toArray}/\bf vs ns/\ns.length<=n:=by
 have hsh:WShape.hasAll [] args [.list .int]=true:=(pre_splitW hpre).1;have hc:l.pre.holds [] {args:=args}=true:=(pre_splitW hpre).2;obtain⟨d,r,rfl,h1,h2⟩:=hasAllW_cons hsh;obtain rfl:=hasAllW_nil h2;obtain⟨xs,rfl,h3⟩:=hasW_list h1;obtain⟨ns,rfl⟩:=items_int h3;have hlen:ns.length<=n:=by
  unfold OpenLaw.pre at hc;have h4:(WTm.not (.lt (.lit (.int (n:Int))) (.len (.arg 0)))).holds [] {args:=[.list (ns.map .int)]}=true:=by
   have h4:=(holds_andW hc).1;rw[hn]at h4;exact h4
  have h5:=condW_of h4 (w_not (w_lt w_lit (w_len_list (w_arg rfl))));rw[aZ]at h5;refine cH λq=>?_
  have q':(n:Int)<((ns.length:Nat):Int):=by lia
  first
   | (rw[decide_eq_true q']at h5;exact absurd h5 (by decide))
   | (simp at h5;lia)
 cases hwl with
 |cons w1 w2=>
  cases w2;cases w1 with
  |list ho hall=>exact⟨_,_,ns,rfl,rfl,ho,wW ns _ hall,hlen⟩
theorem wz(l:OpenLaw)(args:List WData):l.row.toRowW.claim.post args (.bool true) args=true:=
 postW_of (r:=l.row.toRowW) (X:=(true==true))
  (show WShape.has [] (.bool true) .bool=true by first|rfl|decide|simp[WShape.has,WShape.arms,WShape.armsAll])
  (show (WTm.eq .res (.lit (.bool true))).value [] {args:=args,res:=some (.bool true),after:=args}=some (.bool (true==true))from w_eq_bool (w_res rfl) w_lit) rfl
theorem uP{l:OpenLaw}{n:Nat}{q:aA}{loose:List Str}{XP:(Str->Option ae)->Heap->Prop}{YP:av->Heap->Prop}{d:DefRec}
  (hn:l.most=some n) (hdf:d.params.defaults=[])
  (call:∀(w:av) (s₀ s₁:af) (mg mb:Str->Option ae) (fa:Addr) (o:Obj) (pm cd doc:ae) (a:Addr) (vs:List ae) (ns:List Int),
   Ground q loose [] XP w s₀ mg mb s₁.heap->YP w s₁.heap ->
   s₁.heap.get? fa=some o->o.data=.func (docDef d.name d.params d.body d.scope pm cd doc)->s₁.heap.CodeRec cd d.name->mg d.name=some (.ref fa) ->
   s₁.heap.get? a=some {cls:=.type "list",data:=.seq vs.toArray}->bf vs ns->ns.length<=n->s₁.gens = #[] ->
   codeAny (ar l.prog w) callerA (.call (.ref fa) ⟨[.ref a],[]⟩) (λr s'=>r=.ok (.ret (.bool true))/\OldK s₁.heap s'.heap/\s'.os=s₁.os/\AllBare s'.gens) s₁) :
  WalkO q loose XP YP l.row.toRowW d [] (λf vs=>PySem.call f vs):=by
 intro w s₀ s₁ mg mb G Y fa o pm cd doc dV kV ho hd hcd hD hmg hg args vals as hpre hlay hrd hwl hlo;obtain rfl:dV=.none:=Dflts.none hD hdf;obtain rfl:kV=.none:=Dflts.noKw hD;obtain⟨a,vs,ns,rfl,rfl,hobj,hints,hlen⟩:=pX hn hpre hwl;refine enter_call (b8 (call w s₀ s₁ mg mb fa o pm cd doc a vs ns G Y ho (fd_plain hd) hcd hmg hobj hints hlen hg) λr s' hq=>?_);obtain⟨rfl,h2,h3,h4⟩:=hq;exact⟨.inl ⟨.bool true,.bool true,[],rfl,λ_=>rfl,.bool true,wz l _,λ_=>⟨List.Pairwise.nil,λ_ hm=>(nomatch hm)⟩⟩,h2,h3,h4⟩
section
variable{prog:aA}{w:av}{A:az}{E:ae->af->Prop}{s:af}{K:Frag}
end
end Att
namespace L2
open PySem PySem.Spec PyProof.Rows
theorem mv:∀{vs:List ae}{ns:List Int},bf vs ns->Vals (ns.map V.int) vs
 |_,_,.nil=>.nil
 |_,_,.cons n t h=>.cons ⟨t,rfl⟩ (mv h)
noncomputable def iy(H:Hp):Prop:=∀b,H b=none\/∃o xs,H b=some (.frz o (.lst xs))
theorem xr{P:aA}{w:av}{K:aB}{mg mb:Str->Option ae}{CX:CXT}{k:Nat}{fa a:Addr}{fd:bE}{x:Str}{sp:Sp}{s₁:af}{vs:List ae}{ns:List Int}
  (KX:K.In s₁.heap) (hns:s₁.heap.Ns aE mg) (hb:s₁.heap.Ns builtinsNs mb) (hbb:∀x:Str,x≠"__name__"->mb x=bM x) (hlim:s₁.heap.NoLimit) (hg:s₁.gens = #[])
  (ha:s₁.heap.get? a=some {cls:=.type "list",data:=.seq vs.toArray}) (hi:bf vs ns) (hl:ns.length<=aX) (hr:bW k callerA)
  (F:∀base:Heap,K.In base->base.Ns aE mg->dC P w K mg base CX k fa fd [x] sp) (hbind:∀(s:af) (u:ae),BindsTo s fd ⟨[u],[]⟩ [(x,u)])
  (hsp:∀H:Hp,iy H->SqL K H a (ns.map V.int)->sp [.ref a] H (λv _=>v=.bl true) λ_ _ _=>False)
  (hCX:∀H e s',CX [] H s₁ (λ_ _ _=>False) e s'->False) :
  codeAny (ar P w) callerA (.call (.ref fa) ⟨[.ref a],[]⟩) (λr s'=>r=.ok (.ret (.bool true))/\OldK s₁.heap s'.heap/\s'.os=s₁.os/\AllBare s'.gens) s₁:=by
 have rv:=mv hi;have lenV:=hi.length
 -- from an abstract heap in which nothing but the script may be tracked
 have core:∀H:Hp,iy H->SqL K H a (ns.map V.int)->HOk P w H s₁.heap->(∀b,H b≠none->b=a)->(H a≠none->K.lookup a=none) ->
   codeAny (ar P w) callerA (.call (.ref fa) ⟨[.ref a],[]⟩) (λr s'=>r=.ok (.ret (.bool true))/\OldK s₁.heap s'.heap/\s'.os=s₁.os/\AllBare s'.gens) s₁:=by
  intro H hO hS hok hA hK;have base_of:∀{b:Addr}{o:Obj},s₁.heap.get? b=some o->H b=none->(dP s₁.heap H).get? b=some o:=λe n=>wQ e n
  have noA:∀{b:Addr}{o:Obj}{es:Array DictEntry}{ep:Nat},s₁.heap.get? b=some o->o.data=.dict es ep->H b=none:=λ{b o es ep} e d=>by
   cases q:H b with
   |none=>rfl
   |some u=>
    have e':b=a:=hA b (by rw[q];simp);subst e';rw[ha]at e;cases e;have d':Data.seq vs.toArray _=Data.dict es ep:=d;cases d'
  have nsK:∀{b:Addr}{m:Str->Option ae},s₁.heap.Ns b m->(dP s₁.heap H).Ns b m:=λ{b m} ⟨o,es,ep,e,d,r⟩=>⟨o,es,ep,base_of e (noA e d),d,r⟩
  have hKb:K.In (dP s₁.heap H):=λb o e=>base_of (KX b o e) (by
   cases q:H b with
   |none=>rfl
   |some u=>
    have e':b=a:=hA b (by rw[q];simp);subst e';rw[hK (by rw[q];simp)]at e;cases e)
  have hM:Mod K mg (dP s₁.heap H):=⟨hKb,nsK hns,⟨mb,nsK hb,hbb⟩,let ⟨mc,h1,h2⟩:=hlim;⟨mc,nsK h1,h2⟩⟩
  have e0:ff P w K mg (dP s₁.heap H) callerA [] s₁ H:=⟨rfl,hM,λb o e=>wy e,Nat.le_of_eq (o9 _ _),trivial,λb hb=>absurd (show b∈([]:List Addr)from hb) (by simp),hok,.of_eq hg⟩
  refine b8 ((F _ hKb (nsK hns)).run callerA [] s₁ H ⟨[.ref a],[]⟩ [.ref a] [.ref a] _ _ hr e0 (hbind s₁ (.ref a)) (.cons rfl .nil) (hsp H hO hS)) λr s' h=>?_
  cases r with
  |error e=>exact(hCX H e s' h).elim
  |ok fl=>
   cases fl with
   |next=>exact bq h
   |brk=>exact bq h
   |cont=>exact bq h
   |ret u=>
    obtain⟨v,H',os,bare,un,hok',r',q⟩:=h;have q':v=.bl true:=q;subst q';obtain rfl:u=ae.bool true:=r';refine⟨rfl,OldK.of_keep λb o e=>?_,os,bare⟩;cases q:H b with
    |none=>exact un.keep b o e q (by intro z;exact absurd (show b∈([]:List Addr)from z) (by simp)) (by simp)
    |some u=>
     rcases hO b with z|⟨ob,xs,z⟩
     ·rw[q]at z;cases z
     ·have z2:=un.frzs b ob _ z;obtain⟨e1,_⟩:=hok b _ z;obtain⟨e2,_⟩:=hok' b _ z2;rw[e]at e1;cases e1;exact e2
 cases hk:K.lookup a with
 |some o=>
  -- the script is one of the module's own objects
  have e:=KX a o hk;rw[ha]at e;cases e;refine core (λ_=>none) (λ_=>.inl rfl) (.inr ⟨_,vs.toArray,_,hk,rfl,rfl,rfl,by rw[aU,lenV];exact hl,by simpa using rv⟩) (λb u z=>by have z':(none:Option HO)=some u:=z;cases z') (λb z=>absurd rfl z) λz=>absurd rfl z
 |none=>
  refine core (λb=>if b=a then some (.frz {cls:=.type "list",data:=.seq vs.toArray} (.lst (ns.map V.int)))else none) (λb=>?_) (.inl (.inr ⟨{cls:=.type "list",data:=.seq vs.toArray},if_pos rfl⟩)) (λb u z=>?_) (λb z=>?_) λ_=>hk
  ·by_cases hb:b=a
   ·exact .inr ⟨_,_,if_pos hb⟩
   ·exact .inl (if_neg hb)
  ·by_cases hb:b=a
   ·have z':=(if_pos hb).symm.trans z;cases z';subst hb;exact⟨ha,by rw[aZ];exact hl,vs,_,rv,ha⟩
   ·have z':=(if_neg hb).symm.trans z;cases z'
  ·by_cases hb:b=a
   ·exact hb
   ·exact absurd (if_neg hb) z
theorem oq{l:PySem.W.OpenLaw}{n k:Nat}{q:aA}{loose:List Str}{XP:(Str->Option ae)->Heap->Prop}{YP:av->Heap->Prop}{d:DefRec}{K:Params->aB}{CX:av->CXT}{sp:av->Sp}{x:Str}
  (hn:l.most=some n) (hn2:n<=aX) (hdf:d.params.defaults=[]) (hr:bW k callerA)
  (hY:∀(w:av) (h:Heap),YP w h->(K w.params).In h)
  (F:∀(w:av) (mg:Str->Option ae) (fa:Addr) (h:Heap),(K w.params).In h->h.Ns aE mg->mg d.name=some (.ref fa) ->
   ∃fd:bE,(∀(s:af) (u:ae),BindsTo s fd ⟨[u],[]⟩ [(x,u)]) /\
    ∀base:Heap,(K w.params).In base->base.Ns aE mg->dC l.prog w (K w.params) mg base (CX w) k fa fd [x] (sp w))
  (hsp:∀(w:av) (H:Hp) (a:Addr) (ns:List Int),ns.length<=n->iy H->SqL (K w.params) H a (ns.map V.int)->sp w [.ref a] H (λv _=>v=.bl true) λ_ _ _=>False)
  (hCX:∀(w:av) (H:Hp) (s:af) (e:ae) (s':af),CX w [] H s (λ_ _ _=>False) e s'->False) :
  PySem.W.WalkO q loose XP YP l.row.toRowW d [] (λf vs=>PySem.call f vs):=by
 refine Att.uP hn hdf λw s₀ s₁ mg mb fa o pm cd doc a vs ns G Y ho hd hcd hmg hobj hints hlen hg=>?_
 have KX:=hY w _ Y;obtain⟨fd,hb,hF⟩:=F w mg fa _ KX G.T.g hmg;exact xr KX G.T.g G.T.b G.T.builtins G.T.nolimit hg hobj hints (bz hlen hn2) hr hF hb (λH hO hS=>hsp w H a ns hlen hO hS) λH e s'=>hCX w H s₁ e s'
end L2
/- THE LAST THEOREM (shape; LID, My.* are yours):
   My.Adr: a structure of the addresses that your layer names (classes, functions); My.Txt K t: a structure (Prop) of the equations over K;
   My.txt_mk : {K} {implicit addresses ..} (e1 : nsIn K mainGlobals "law" = some (some (.ref f))) (e2 : K.lookup f = some ⟨oc, od, .func (fnOf "law" "law" params body scope dV kV doc pm an cdv ct), sl⟩) (e3 : codeIn K cdv "law" = true) .. : ∃ t, My.Txt K t
set_option maxRecDepth 100000 in
set_option maxHeartbeats 0 in
theorem PySem.Challenge.cw_LID_holds : PySem.Challenge.rw_LID.Holds := by
 w_on; o_law; k_head; (case hw => w_witness2)
 k_fill
 refine L2.walk_of (l := PySem.Challenge.rw_LID) (n := 63) (k := 40) (x := "script") (CX := fun w => ..) (sp := fun _ => My.sp_law) rfl (by decide) rfl ⟨rfl, by decide, by decide⟩ (fun w h Y => PySem.W.kIn_of Y) ?F ?S ?C
 case F =>
  intro w mg fa h KX G hmg;have T : ∃ t, My.Txt (L2.KOf KX) t := by
   dsimp only [L2.KOf]                          -- K must stand as «<heap const> w.params» for k_is
   refine' My.txt_mk ?e1 ?e2 ?e3 ..
   (case e1 => PySem.W.k_is)                    -- in the order: a name -> its address -> its object -> its parts
   (case e2 => PySem.W.k_is)
   ..
  obtain ⟨t, T⟩ := T;have e0 := hmg.symm.trans (PySem.W.mg_of KX G T.law);cases e0                                       -- fa is the law's own address
  exact ⟨_, fun s u => .of_eq rfl, fun base kb nb => My.law_fn T kb nb⟩     -- if «.of_eq rfl» comes too early: refine' ⟨_, ?b, fun base kb nb => My.law_fn T kb nb⟩; exact fun s u => .of_eq rfl
 case S => exact fun w H a ns hl hO hS => ..
 case C => exact ..
(the tactic k_is has no namespace: write k_is) -/
namespace L2
open PySem PySem.Spec PyProof.Rows
noncomputable def zf(s:Stmt):Arguments:=match s with
 | .FunctionDef _ a _ _ _ _ _ _ _ _=>a
 |_=>{posonlyargs:=[],args:=[],vararg:=none,kwonlyargs:=[],kw_defaults:=[],kwarg:=none,defaults:=[]}
noncomputable def zQ(s:Stmt):List Stmt:=match s with
 | .FunctionDef _ _ b _ _ _ _ _ _ _=>b
 |_=>[]
noncomputable def ze(s:Stmt):Scope:=match s with
 | .FunctionDef _ _ _ _ _ _ sc _ _ _=>sc
 |_=>{kind:=.function,names:=[],isGenerator:=false,isCoroutine:=false}
abbrev E0:XK:=λ_ _ _=>False
structure Fun(K:aB)(x qual:Str)(st:Stmt)(f:Addr)(fd:bE):Prop where
 ex:∃(oc:ae) (od:Option Addr) (kV doc pm:ae) (an:Option Addr) (cdv ct:ae) (osl:Array (Option ae)),
  fd=b7 x qual (zf st) (zQ st) (ze st) .none kV doc pm an cdv ct/\K.lookup f=some ⟨oc,od,.func fd,osl⟩/\PySem.W.codeIn K cdv qual=true
 kp:b4 K (.ref f)=true
section
variable{P:aA}{w:av}{K:aB}{mg:Str->Option ae}{base:Heap}
theorem Fun.binds{x qual:Str}{st:Stmt}{f:Addr}{fd:bE}{ps:List Str}(F:Fun K x qual st f fd)
  (h:∀(kV doc pm:ae) (an:Option Addr) (cdv ct:ae) (us:List ae),us.length=ps.length->bindArgs (b7 x qual (zf st) (zQ st) (ze st) .none kV doc pm an cdv ct) ⟨us,[]⟩=pure (ps.zip us)):Binds K fd ps []:=by
 obtain⟨oc,od,kV,doc,pm,an,cdv,ct,osl,rfl,lk,hcd⟩:=F.ex;exact .all (h kV doc pm an cdv ct)
theorem kn{x qual:Str}{st:Stmt}{f:Addr}{oc:ae}{od an:Option Addr}{osl:Array (Option ae)}{kV doc pm cdv ct:ae}(l:K.lookup f=some ⟨oc,od,.func (b7 x qual (zf st) (zQ st) (ze st) .none kV doc pm an cdv ct),osl⟩)
  (c:PySem.W.codeIn K cdv qual=true) (k:b4 K (.ref f)=true):Fun K x qual st f (b7 x qual (zf st) (zQ st) (ze st) .none kV doc pm an cdv ct):=⟨⟨oc,od,kV,doc,pm,an,cdv,ct,osl,rfl,l,c⟩,k⟩
end
section
variable{X:Cx}
end
noncomputable def qa(H H':Hp):Prop:=∀b o,H b=some o->H' b=some o
theorem qa.refl(H:Hp):qa H H:=λ_ _ h=>h
theorem qa.trans{H H1 H2:Hp}(a:qa H H1)(b:qa H1 H2):qa H H2:=λc o h=>b c o (a c o h)
theorem qa.free{H H':Hp}(e:qa H H'){l:Addr}(h:H' l=Option.none):H l=Option.none:=by
 cases q:H l with
 |none=>rfl
 |some o=>
  rw[e l o q]at h;cases h
theorem qa.seq{K:aB}{H H':Hp}{a:Addr}{xs:List V}(e:qa H H')(h:SqL K H a xs):SqL K H' a xs:=by
 rcases h with (h|⟨o,h⟩)|h
 ·exact .inl (.inl (e _ _ h))
 ·exact .inl (.inr ⟨o,e _ _ h⟩)
 ·exact .inr h
noncomputable def dG(elt:Expr)(gens:List b6)(scope:aY)(pos:Pos)(d:Nat)(acc:ae)(env:Env):Sem Unit:=
 match gens[d+1]? with
 |some g'=>do
  let x <-eval g'.iter env
  standAt g'.iter.pos
  let x <-foldedSetIterable g'.iter env x
  let _ <-runOwn (.compStart (.ListComp elt gens scope pos) (d+1) (<-holding [x] (pyIter x)) acc env) env
  pure ()
 |none=>do
  let _ <-call (.builtin "list.append") [acc,<-eval elt env]
  pure ()
theorem nD{elt:Expr}{gens:List b6}{scope:aY}{pos:Pos}{d:Nat}{g:b6}{it acc:ae}{env:Env}(hg:gens[d]? = some g)(ha:g.is_async=0)
  (hn:∀g',gens[d+1]? = some g'->g'.is_async=0) :
  compTurn (.ListComp elt gens scope pos) d it acc env=(do
   standAt g.iter.pos
   match <-pyNext it with
   |none=>pure (.done .next)
   |some v=>
    letOwnedTupleGo g.target it v
    assign g.target env v
    let ok <-(forIn g.ifs true λc r=>if r=true then do let ok <-isTrue c env (eval c env);pure (cq ok)else pure (cq r))
    if ok then
     dG elt gens scope pos d acc env
     again (.compLoop (.ListComp elt gens scope pos) d it acc env)
    else again (.compLoop (.ListComp elt gens scope pos) d it acc env)):=by
 unfold compTurn;cases e:gens[d+1]? with
 |none=>
  simp only[hg,ha,e,dG]
  rfl
 |some g'=>
  have ha':=hn g' e;simp only[hg,ha,e,ha',dG];simp only[bne_self_eq_false,a_,if_false,bind_assoc,pure_bind]
  rfl
theorem xX{prog:aA}{w:av}{A:az}{R:Result->af->Prop}{s:af}{elt:Expr}{gens:List b6}{scope:aY}{pos:Pos}{d:Nat}{g:b6}{it acc:ae}{env:Env}
  (hg:gens[d]? = some g) (ha:g.is_async=0)
  (h0:codeAny (ar prog w) A (.compLoop (.ListComp elt gens scope pos) d it acc env) R s)
  (h:ak (ar prog w) A (pyIter it) (λit' s'=>codeAny (ar prog w) A (.compLoop (.ListComp elt gens scope pos) d it' acc env) R s')
   (notedBy (ar prog w) A env λx s'=>R (.error x) s') s) :
  codeAny (ar prog w) A (.compStart (.ListComp elt gens scope pos) d it acc env) R s:=by
 refine codeAny_of_tree ?_;show ak _ _ ((compStart (.ListComp elt gens scope pos) d it acc env).onRaise (λx=>do noteFrame x env;standAt theWindowsPlace)) _ _ s;refine wpAny_notedAt ?_;unfold compStart;have e2:(clausesOf (.ListComp elt gens scope pos))[d]? = some g:=hg;simp only[e2];rw[if_neg (by show ¬ (g.is_async != 0)=true;simp[ha])];show ak _ _ (ask>>=_) _ _ s;refine aq (wpAny_askSetting (wpAny_ite ?_));split
 ·first
   |exact aq (aC (aC (aw rfl h0)))
   |exact aC (aw rfl h0)
 ·first
   |exact aq (wpAny_rule (aq (wpAny_standAt (aq (bS h (λit' s' h'=>aC (aw rfl h')) λ_ _ x=>x)))))
   | (refine aq (wpAny_rule ?_);show ak _ _ (standAt g.iter.pos>>=_) _ _ s;exact aq (wpAny_standAt (aq (bS h (λit' s' h'=>aC (aw rfl h')) λ_ _ x=>x))))
noncomputable def PTs(Y:Cx)(ifs:List Expr)(t:TT):Prop:=
 ∀(pins:List (Addr×Obj)) (s:af) (σ:St) (H:Hp) (Q:Bool->Hp->Prop),Inv Y pins σ H s->t σ H Q ->
  ak (ar Y.prog Y.w) Y.A (forIn ifs true λc r=>if r=true then do let ok <-isTrue c Y.env (eval c Y.env);pure (cq ok)else pure (cq r)) (TP Y pins σ Q) Y.xe s
noncomputable def nF:TT:=λ_ H Q=>Q true H
theorem rR{Y:Cx}:PTs Y [] nF:=λ_ _ _ H _ I h=>wpAny_tests_nil ⟨H,I,h⟩
theorem nU{Y:Cx}{c:Expr}{t:TT}(hc:PT Y c t):PTs Y [c] t:=λpins s σ H Q I h=>wpAny_tests_one (hc pins s σ H Q I h)
noncomputable def PB(Y:Cx)(m:Sem Unit)(t:TS):Prop:=
 ∀(pins:List (Addr×Obj)) (s:af) (σ:St) (H:Hp) (D:Ends),Inv Y pins σ H s->t D σ H ->
  ak (ar Y.prog Y.w) Y.A m (λ_ s'=>∃σ' H',Inv Y pins σ' H' s'/\D.nx σ' H') Y.xe s
section
variable{Y:Cx}{elt:Expr}{gens:List b6}{scope:aY}{pos:Pos}{d:Nat}
noncomputable def gW(acc:Addr)(te:TE):TS:=λD σ H=>te σ H λy H1=>∃xs,H1 acc=some (.lst xs)/\xs.length<aX/\D.nx σ (upd H1 acc (.lst (xs++[y])))
theorem kg{acc:Addr}{te:TE}(hn:gens[d+1]? = none)(he:PE Y elt te):PB Y (dG elt gens scope pos d (.ref acc) Y.env) (gW acc te):=by
 intro pins s σ H D I h;unfold dG;rw[hn];refine aq (thn (he pins s σ H _ I h) λu s1 ⟨y,H1,I1,r1,xs,hx,hz,q⟩=>?_);refine aq (thn (mD pins s1 σ H1 (.ref acc) [y] (.ref acc) [u] (λ_ H'=>D.nx σ H') I1 rfl (.cons r1 .nil) ⟨acc,xs,y,rfl,rfl,hx,hz,q⟩) λ_ s2 ⟨_,H2,I2,_,q2⟩=>?_);exact aC ⟨σ,H2,I2,q2⟩
theorem nE{g:b6}{it:Addr}{acc:ae}{fp:List Addr}{tn:Nat->Heap->Prop}{J:It}{tg:TG}{tt:TT}{tb:TS}(hc:Y.calm=true)(hx:∀e s,¬ Y.xe e s)(hg:gens[d]? = some g)(ha:g.is_async=0)
  (hn:∀g',gens[d+1]? = some g'->g'.is_async=0) (T:Turn Y.prog Y.w Y.K g.target J fp it tn) (pg:PG Y g.target tg) (pt:PTs Y g.ifs tt) (pb:PB Y (dG elt gens scope pos d acc Y.env) tb)
  {pins:List (Addr×Obj)}{s:af}{σ:St}{H:Hp}{D:Ends} (I:Inv Y pins σ H s) (st:tn 0 s.heap) (fr:∀b∈fp,de Y pins H b)
  (h:∃W:Nat->Nat->St->Hp->Prop,(∃m,W 0 m σ H)/\∀i m σ H,W i m σ H ->
   (J.stop i H/\D.nx σ H)\/(J.go i H/\∃N:St->Hp->Prop,(∀σ' H',N σ' H'->∃m',m'<m/\W (i+1) m' σ' H')/\∀x H',J.yld i H x H'->tg x σ H' λσ2 H2=>gO tt tb fO {D with nx:=N,ct:=N,bk:=D.nx} σ2 H2)) :
  codeAny (ar Y.prog Y.w) Y.A (.compLoop (.ListComp elt gens scope pos) d (.ref it) acc Y.env) (λr s'=>r=.ok .next/\∃σ' H',Inv Y pins σ' H' s'/\D.nx σ' H') s:=by
 obtain⟨W,⟨m0,w0⟩,turn⟩:=h;have stat:∀{H':Hp},(∀b∈fp,H' b=none)->∀b∈fp,de Y pins H' b:=λhn b hb=>⟨hn b hb,(fr b hb).2⟩
 refine codeAny_loop rfl (λn s'=>∃i σ' H',Inv Y pins σ' H' s'/\tn i s'.heap/\(∀b∈fp,H' b=none)/\W i n σ' H') ?_ m0 ⟨0,σ,H,I,st,λb hb=>(fr b hb).1,w0⟩;rintro n s3 ⟨i,σ3,H3,I3,st3,fr3,w3⟩;show ak _ Y.A ((compTurn (.ListComp elt gens scope pos) d (.ref it) acc Y.env).onRaise (λx=>do noteFrame x Y.env;theTreesLotGoes x)) _ _ s3;refine wpAny_noted ?_;rw[nD hg ha hn];have nox:∀{E:ae->af->Prop} (e:ae) (s:af),Y.xe e s->E e s:=λe s z=>absurd z (hx e s)
 refine aq (wpAny_standAt ?_);rcases turn i n σ3 H3 w3 with ⟨stop,qn⟩|⟨go,N,hN,step⟩
 ·refine aq (thn (T.done Y rfl rfl rfl hc i pins s3 σ3 H3 _ I3 (stat fr3) st3 stop) λr s4 ⟨hr,I4⟩=>?_);subst hr;exact aC ⟨rfl,σ3,H3,I4,qn⟩
 ·refine aq (thn (T.item Y rfl rfl rfl hc i pins s3 σ3 H3 _ I3 (stat fr3) st3 go) λr s4 ⟨u,hr,h4⟩=>?_);subst hr;refine aq (thn h4 λ_ s5 ⟨x,H5,I5,r5,y5,st5,fr5⟩=>?_);have I5':=I5.pinned (stat fr5) (T.obj _ _ st5);refine aq (bS (pg _ s5 σ3 H5 x u _ I5' r5 (step x H5 y5)) (λ_ s6 ⟨σ6,H6,I6,q6⟩=>?_) nox);have again:∀{s7:af}{σ7:St}{H7:Hp},Inv Y (pins++fj fp s5.heap) σ7 H7 s7->N σ7 H7->∃m,m<n/\∃i σ' H',Inv Y pins σ' H' s7/\tn i s7.heap/\(∀b∈fp,H' b=none)/\W i m σ' H':=λ{s7 σ7 H7} I7 n7=>by
   obtain⟨m',hm,w7⟩:=hN σ7 H7 n7;refine⟨m',hm,i+1,σ7,H7,I7.unpinned,T.keep _ _ _ st5 λb hb o e=>(I7.pin (b,o) (bU _ (bU _ (gI hb e)))).1,λb hb=>?_,w7⟩;obtain⟨o,e,d⟩:=T.obj _ _ st5 b hb;exact(I7.pin (b,o) (bU _ (bU _ (gI hb e)))).2.1
  refine aq (bS (pt _ s6 σ6 H6 _ I6 q6) (λb s7 ⟨H7,I7,q7⟩=>?_) nox);cases b with
  |true=>
   rw[if_pos rfl];rw[if_pos rfl]at q7;refine aq (bS (pb _ s7 σ6 H7 _ I7 q7) (λ_ s8 ⟨σ8,H8,I8,q8⟩=>?_) nox);exact aC ⟨rfl,again I8 q8⟩
  |false=>
   rw[if_neg cB];rw[if_neg cB]at q7;exact aC ⟨rfl,again I7 q7⟩
end
theorem jq{env:Env}:∀{names:List (Str×aO)}{cs:List (Str×Addr)},(∀x∈names,x.2=.free->∃c,env.cells.lookup x.1=some c) ->
  ∃cl,(forIn names cs (λ(x:Str×aO) (cs:List (Str×Addr))=>if (x.2==bR)=true then do let c <-cellOf env x.1;pure (cq ((x.1,c)::cs))else pure (cq cs)):Sem (List (Str×Addr)))=pure cl /\
   (∀x c,cl.lookup x=some c->env.cells.lookup x=some c\/cs.lookup x=some c)/\(∀x,(∃c,cs.lookup x=some c)->∃c,cl.lookup x=some c)/\∀x∈names,x.2=.free->∃c,cl.lookup x.1=some c
 | [],cs,_=>⟨cs,by rw[List.forIn_nil],λ_ _ h=>.inr h,λ_ h=>h,λ_ h=>nomatch h⟩
 | (n,k)::r,cs,h=>by
  rw[List.forIn_cons];by_cases hk:k=.free
  ·subst hk;obtain⟨c,hc⟩:=h (n,.free) aW rfl;have e:cellOf env n=pure c:=by
    have hc':env.cells.lookup n=some c:=hc;unfold cellOf;rw[hc']
   obtain⟨cl,e1,e2,e3,e4⟩:=jq (names:=r) (cs:=(n,c)::cs) λx hx=>h x (aS _ hx)
   refine⟨cl,?_,λx c' q=>?_,λx q=>e3 x ?_,λx hx hf=>?_⟩
   ·simp only[beq_self_eq_true,if_true,e,pure_bind];exact e1
   ·rcases e2 x c' q with z|z
    ·exact .inl z
    ·rw[bu]at z;by_cases hxn:(x==n)=true
     ·rw[hxn]at z;have:x=n:=by simpa using hxn
      subst this;cases z;exact .inl hc
     ·have hxn':(x==n)=false:=by simpa using hxn
      rw[hxn']at z;exact .inr z
   ·rw[bu];by_cases hxn:(x==n)=true
    ·rw[hxn];exact⟨c,rfl⟩
    ·have hxn':(x==n)=false:=by simpa using hxn
     rw[hxn'];exact q
   ·rcases aJ.mp hx with z|z
    ·subst z;exact e3 n ⟨c,by rw[bu,beq_self_eq_true]⟩
    ·exact e4 x z hf
  ·have hk':(k==bR)=false:=by simpa using hk
   obtain⟨cl,e1,e2,e3,e4⟩:=jq (names:=r) (cs:=cs) λx hx=>h x (aS _ hx)
   refine⟨cl,?_,e2,e3,λx hx hf=>?_⟩
   ·simp only[hk',a_,if_false,pure_bind];exact e1
   ·rcases aJ.mp hx with z|z
    ·subst z;exact absurd hf hk
    ·exact e4 x z hf
theorem ko{env:Env}{scope:aY}(h:∀x∈scope.names,x.2=.free->∃c,env.cells.lookup x.1=some c) :
  ∃cl,closureFor scope env=pure cl/\(∀x c,cl.lookup x=some c->env.cells.lookup x=some c)/\∀x∈scope.names,x.2=.free->∃c,cl.lookup x.1=some c:=by
 obtain⟨cl,e1,e2,_,e4⟩:=jq (env:=env) (names:=scope.names) (cs:=[]) h;refine⟨cl,?_,λx c q=>(e2 x c q).elim (λz=>z) (λz=>by simp at z),e4⟩;have e:closureFor scope env=(forIn scope.names [] (λ(x:Str×aO) (cs:List (Str×Addr))=>if (x.2==bR)=true then do let c <-cellOf env x.1;pure (cq ((x.1,c)::cs))else pure (cq cs))>>=λcs=>pure cs):=rfl;rw[e,e1,pure_bind]
theorem g7{env:Env}:∀{names:List (Str×aO)}{x:Str}{k:aO},
  (names.map λ(n,k)=>if (k==bR&&env.scope.kind==.function&&env.kindOf n==some .cell)then (n,aO.cell)else (n,k)).lookup x=some k ->
  names.lookup x=some k\/(k=.cell/\names.lookup x=some .free)
 | [],_,_,h=>by simp at h
 | (n,k')::r,x,k,h=>by
  have ih:=@g7 env r x k;have h':List.lookup x ((if (k'==bR&&env.scope.kind==.function&&env.kindOf n==some .cell)=true then (n,aO.cell)else (n,k'))::r.map (λ(n,k)=>if (k==bR&&env.scope.kind==.function&&env.kindOf n==some .cell)then (n,aO.cell)else (n,k)))=some k:=h;cases hx:x==n with
  |true=>
   by_cases hc:(k'==bR&&env.scope.kind==.function&&env.kindOf n==some .cell)=true
   ·rw[if_pos hc]at h';simp only[bu,hx]at h';cases h';have:k'=.free:=by
     have z:(k'==bR)=true:=by
      cases q:(k'==bR)with
      |true=>rfl
      |false=>rw[q]at hc;simp at hc
     simpa using z
    subst this;exact .inr ⟨rfl,by simp[bu,hx]⟩
   ·rw[if_neg hc]at h';simp only[bu,hx]at h';cases h';exact .inl (by simp[bu,hx])
  |false=>
   have h2:(r.map (λ(n,k)=>if (k==bR&&env.scope.kind==.function&&env.kindOf n==some .cell)then (n,aO.cell)else (n,k))).lookup x=some k:=by
    by_cases hc:(k'==bR&&env.scope.kind==.function&&env.kindOf n==some .cell)=true
    ·rw[if_pos hc]at h';simpa only[bu,hx]using h'
    ·rw[if_neg hc]at h';simpa only[bu,hx]using h'
   rcases ih h2 with z|z
   ·exact .inl (by simpa only[bu,hx]using z)
   ·exact .inr ⟨z.1,by simpa only[bu,hx]using z.2⟩
noncomputable def fC(names:List (Str×aO)):List Str:=(names.filter λy=>y.2==.cell).map (·.1)
theorem ij:∀(names:List (Str×aO)) (n:Nat) (a b:List (Str×Addr)),ba n names (a++b)=ba n names a++b
 | [],_,_,_=>rfl
 | (x,k)::r,n,a,b=>by
  unfold ba;split
  ·exact ij r (n+1) ((x,n)::a) b
  ·exact ij r n a b
theorem hW{x:Str}{c:Addr}:∀{names:List (Str×aO)}{n:Nat}{a:List (Str×Addr)},(x,c)∈ba n names a->(x,c)∈a\/(x,aO.cell)∈names
 | [],_,_,h=>.inl h
 | (y,k)::r,n,a,h=>by
  unfold ba at h;split at h
  ·rename_i hk
   rcases hW h with z|z
   ·rcases aJ.mp z with q|q
    ·have hk:k=.cell:=by simpa using hk
     cases q;exact .inr (by rw[hk];exact aW)
    ·exact .inl q
   ·exact .inr (aS _ z)
  ·rcases hW h with z|z
   ·exact .inl z
   ·exact .inr (aS _ z)
theorem xx{M:Model}{A:az}{E:ae->af->Prop}{s:af}{scope:aY}{globals:Addr}{cl:List (Str×Addr)}{qual:Str}{env:Env}{Q:Env->af->Prop}
  (hQ:∀h₁,h₁.Ns s.heap.objs.size (λ_=>none)->(∀b o,s.heap.get? b=some o->h₁.get? b=some o)->CellsOk h₁ (s.heap.objs.size+1) (ba (s.heap.objs.size+1) scope.names []) ->
   Q (newEnv scope s.heap.objs.size globals (ba (s.heap.objs.size+1) scope.names []++cl) qual none .none (some env) builtinsNs) {s with heap:=h₁}) :
  ak M A (newFunctionEnv scope globals cl [] qual none .none (some env)) Q E s:=by
 simp only[newFunctionEnv,Option.isSome_some,if_true];refine aq (wpAny_alloc ?_);refine aq (wpAny_layCells _ (λname kind cells=>by cases hkc:kind==aO.cell<;>simp[hkc]) _ _ _ _ ?_);have ok:=cellsFrom_ok scope.names (s.heap.push {cls:=.type "dict",data:=.dict #[]}) (s.heap.objs.size+1) [] ⟨λ_ _ hm=>(nomatch hm),List.Pairwise.nil⟩ (by rw[bQ];exact aD _);rw[bQ]at ok;rw[show ({s with heap:=s.heap.push {cls:=.type "dict",data:=.dict #[]}}:af).heap.objs.size=s.heap.objs.size+1 from bQ ..];rw[show cl=[]++cl from rfl,ij];rw[List.forIn_nil];exact aq (aC (aC (hQ _ ((Heap.Ns.new s.heap (.type "dict")).keeps (pushCells_keeps _ _)) (λb o e=>pushCells_keeps _ _ b o (Heap.get?_push_of_some _ e)) ok)))
noncomputable def zt(X:Cx)(NY:List Str)(scope:aY)(cl:List (Str×Addr))(C:Addr)(s₀:af)(H₀:Hp)(fp:List Addr):Cx where
 prog:=X.prog
 w:=X.w
 K:=X.K
 mg:=X.mg
 base:=X.base
 A:=X.A
 N:=NY
 s₀:=s₀
 H₀:=H₀
 env:=compEnvC scope (ba (C+1) scope.names []++cl) C X.env
 outer:=X.stack
 stack:=X.stack
 ex:=fp
 fn:=λx=>(fC scope.names).contains x
 calm:=X.calm
 pn:=[]
 xe:=λ_ _=>False
noncomputable def caps(cap:List (Option Nat))(σ:St):St:=cap.map λo=>o.bind λj=>(σ[j]?).join
noncomputable def k7(X:Cx)(NY:List Str)(cap:List (Option Nat))(scope:aY):Prop:=
 cap.length=NY.length/\∀(i j:Nat),cap[i]? = some (some j)->∃x,NY[i]? = some x/\X.N[j]? = some x/\scope.names.lookup x=some .free/\(X.env.kindOf x=some .cell\/X.env.kindOf x=some .free)
structure zI(X:Cx)(NY:List Str)(cap:List (Option Nat))(scope:aY):Prop where
 kind:scope.kind=.function
 cells:∀y∈scope.names,y.2=.cell->scope.names.lookup y.1=some .cell
 names:∀y∈scope.names,y.2=.local->scope.names.lookup y.1=some .local
 free:∀y∈scope.names,y.2=.free->X.env.kindOf y.1=some .cell\/X.env.kindOf y.1=some .free
 cap:k7 X NY cap scope
theorem uY{cap:List (Option Nat)}{σ:St}{i:Nat}{v:V}(h:(caps cap σ)[i]? = some (some v)):∃j,cap[i]? = some (some j)/\σ[j]? = some (some v):=by
 unfold caps at h;rw[List.getElem?_map]at h;cases e:cap[i]? with
 |none=>rw[e]at h;simp at h
 |some o=>
  rw[e]at h;cases o with
  |none=>simp at h
  |some j=>
   refine⟨j,rfl,?_⟩;have h':(σ[j]?).join=some v:=by simpa using h
   cases q:σ[j]? with
   |none=>rw[q]at h';cases h'
   |some z=>rw[q]at h';exact congrArg some h'
theorem sU{X:Cx}{pins:List (Addr×Obj)}{σ:St}{H:Hp}{s:af}{NY:List Str}{cap:List (Option Nat)}{scope:aY}{cl:List (Str×Addr)}{fp:List Addr}{h₁:Heap}{m:Str->Option ae}
  (I:Inv X pins σ H s) (S:zI X NY cap scope) (hsub:∀x c,cl.lookup x=some c->X.env.cells.lookup x=some c) (hall:∀x∈scope.names,x.2=.free->∃c,cl.lookup x.1=some c)
  (hf:∀b∈fp,de X pins H b) (hlt:∀b∈fp,b<s.heap.objs.size) (hn:h₁.Ns s.heap.objs.size m) (hk:∀b o,s.heap.get? b=some o->h₁.get? b=some o) (hcs:CellsOk h₁ (s.heap.objs.size+1) (ba (s.heap.objs.size+1) scope.names [])) {tk:Nat} :
  Inv (zt X NY scope cl s.heap.objs.size s H fp) [] (caps cap σ) H {s with heap:=h₁,toks:=tk}:=by
 have relx:∀x,(compEnvC scope (ba (s.heap.objs.size+1) scope.names []++cl) s.heap.objs.size X.env).kindOf x=some .cell\/(compEnvC scope (ba (s.heap.objs.size+1) scope.names []++cl) s.heap.objs.size X.env).kindOf x=some .free->scope.names.lookup x=some .free\/scope.names.lookup x=some .cell:=λx hx=>by
  rcases hx with q|q
  ·rcases g7 (env:=X.env) (names:=scope.names) (x:=x) (k:=.cell) q with z|z
   ·exact .inr z
   ·exact .inl z.2
  ·rcases g7 (env:=X.env) (names:=scope.names) (x:=x) (k:=.free) q with z|z
   ·exact .inl z
   ·exact .inl z.2
 have cnew:∀x c,cl.lookup x=some c->c<s.heap.objs.size:=λx c e=>by
  obtain⟨v,q⟩:=I.cell x c (hsub x c e);exact q.lt
 -- a cell is one of its own, or one from around
 have two:∀x c,(ba (s.heap.objs.size+1) scope.names []++cl).lookup x=some c->(x,c)∈ba (s.heap.objs.size+1) scope.names []\/cl.lookup x=some c:=λx c e=>by
  rw[List.lookup_append]at e;cases q:(ba (s.heap.objs.size+1) scope.names []).lookup x with
  |none=>rw[q]at e;exact .inr e
  |some c'=>rw[q]at e;cases e;exact .inl (bX q)
 have own1:∀x c,(x,c)∈ba (s.heap.objs.size+1) scope.names []->scope.names.lookup x=some .cell:=λx c e=>by
  rcases hW e with z|z
  ·cases z
  ·exact S.cells _ z rfl
 have ownA:∀x c,(x,c)∈ba (s.heap.objs.size+1) scope.names []->s.heap.objs.size<c:=λx c e=>(hcs.empty x c e).2
 have frl:∀x c,scope.names.lookup x=some .free->cl.lookup x=some c->(ba (s.heap.objs.size+1) scope.names []++cl).lookup x=some c:=λx c e1 e2=>by
  rw[List.lookup_append];cases q:(ba (s.heap.objs.size+1) scope.names []).lookup x with
  |none=>rw[e2];rfl
  |some c'=>have:=own1 x c' (bX q);rw[e1]at this;cases this
 refine⟨⟨I.ok.mod,S.kind,I.ok.glob,I.ok.blt,aD _,λx y c e1 e2=>?_,λx hx=>?_,λx c e e2=>?_,I.ok.hd,I.ok.frames,.inl rfl,λb hb=>?_,λb o e=>I.bs b o e,bz I.ok.bsz I.sz,λb o e hb=>?_,λb hb z=>?_,I.stack,I.stkFree⟩,
  rfl,I.bare,Un.kept hk,⟨m,hn,λi x v e1 e2 e3=>?_⟩,λx c e=>?_,I.hok.fresh (aD _),λx c e=>?_,λp hp=>absurd (show p∈([]:List (Addr×Obj))from hp) (by simp),I.hok.kept hk,?_⟩
 ·rcases two x c e1 with z1|z1<;>rcases two y c e2 with z2|z2
  ·exact name_of_addr hcs.apart z1 z2
  ·exact absurd (Nat.lt_trans (cnew y c z2) (ownA x c z1)) (bL _)
  ·exact absurd (Nat.lt_trans (cnew x c z1) (ownA y c z2)) (bL _)
  ·exact I.ok.inj x y c (hsub x c z1) (hsub y c z2)
 ·rcases relx x hx with z|z
  ·obtain⟨c,hc⟩:=hall (x,.free) (bX z) rfl;exact⟨c,frl x c z hc⟩
  ·obtain⟨c,hc⟩:=gn (n:=s.heap.objs.size+1) z;refine⟨c,?_⟩;show (ba (s.heap.objs.size+1) scope.names []++cl).lookup x=some c;rw[List.lookup_append,hc];rfl
 ·have e:(fC scope.names).contains x=true:=e;have hm:scope.names.lookup x=some .cell:=by
   simp only[fC,List.contains_iff_mem,bh,cn,beq_iff_eq]at e;obtain⟨y,⟨y1,y2⟩,rfl⟩:=e;exact S.cells y y1 y2
  rcases two x c e2 with z|z
  ·exact Nat.le_of_lt (ownA x c z)
  ·obtain⟨c',hc⟩:=gn (n:=s.heap.objs.size+1) hm;have e2:(ba (s.heap.objs.size+1) scope.names []++cl).lookup x=some c:=e2;rw[List.lookup_append,hc]at e2;cases e2;exact Nat.le_of_lt (ownA x _ (bX hc))
 ·obtain⟨f0,f1,f2,f3,f4,f5⟩:=hf b hb;refine⟨a9 (hlt b hb),λx c e=>?_⟩;rcases two x c e with z|z
  ·exact λw=>absurd (Nat.lt_trans (ownA x c z) (w▸hlt b hb)) (bL _)
  ·exact f4 x c (hsub x c z)
 ·obtain⟨f0,f1,f2,f3,f4,f5⟩:=hf b hb;rcases f3 with z|z
  ·exact I.ok.noex b o e z
  ·exact absurd (bB (aK e) (bz I.ok.bsz z)) (bL _)
 ·obtain⟨f0,f1,f2,f3,f4,f5⟩:=hf b hb;rcases aJ.mp (I.stkSub b z)with q|q
  ·exact f1 q
  ·exact f2 q
 ·obtain⟨j,c1,c2⟩:=uY e2;obtain⟨x',n1,n2,n3,n4⟩:=S.cap.2 i j c1;have ex:x'=x:=bV (n1.symm.trans e1);subst ex;obtain⟨m',_,hl⟩:=I.loc;obtain⟨u,r,l⟩:=hl j x' v n2 c2 (n4.elim (λz=>.inr (.inl z)) λz=>.inr (.inr z));refine⟨u,r,.inr ⟨?_,?_⟩⟩
  ·rcases e3 with z|z|z
   ·rcases g7 (env:=X.env) (names:=scope.names) (x:=x') (k:=.local) z with q|q
    ·rw[n3]at q;cases q
    ·cases q.1
   ·exact .inl z
   ·exact .inr z
  ·rcases l with ⟨kk,_⟩|⟨_,c,ec,ic⟩
   ·rcases n4 with z|z
    ·rw[kk]at z;cases z
    ·rw[kk]at z;cases z
   ·obtain⟨c',ec'⟩:=hall (x',.free) (bX n3) rfl;have:=hsub x' c' ec';rw[ec]at this;cases this;obtain⟨o,ho,hd⟩:=ic;exact⟨c,frl x' c n3 ec',o,hk _ _ ho,hd⟩
 ·rcases two x c e with z|z
  ·exact⟨_,(hcs.empty x c z).1⟩
  ·obtain⟨v,o,ho,hd⟩:=I.cell x c (hsub x c z);exact⟨v,o,hk _ _ ho,hd⟩
 ·rcases two x c e with z|z
  ·exact I.hok.fresh (Nat.le_of_lt (ownA x c z))
  ·exact I.freeC x c (hsub x c z)
 ·show (caps cap σ).length=NY.length;unfold caps;rw[aZ];exact S.cap.1
noncomputable def iE(cap:List (Option Nat))(wi:TI)(tg:TG)(tt:TT)(tb:Addr->TS):TE:=λσ H Q=>wi σ H λJ H1=>∀acc,H1 acc=none ->
 ∃W:Nat->Nat->St->Hp->Prop,(∃m,W 0 m (caps cap σ) (upd H1 acc (.lst [])))/\∀i m τ H,W i m τ H ->
  (J.stop i H/\(Ends.mk (λ_ H=>Q (.ref acc) H) (λ_ _=>False) (λ_ _=>False) (λ_ _=>False)).nx τ H)\/(J.go i H/\∃N:St->Hp->Prop,(∀σ' H',N σ' H'->∃m',m'<m/\W (i+1) m' σ' H')/\∀x H',J.yld i H x H' ->
   tg x τ H' λσ2 H2=>gO tt (tb acc) fO {(Ends.mk (λ_ H=>Q (.ref acc) H) (λ_ _=>False) (λ_ _=>False) (λ_ _=>False))with nx:=N,ct:=N,bk:=(Ends.mk (λ_ H=>Q (.ref acc) H) (λ_ _=>False) (λ_ _=>False) (λ_ _=>False)).nx} σ2 H2)
structure Loose(X:Cx)(pins:List (Addr×Obj))(C:Addr):Prop where
 loc:C≠X.env.locals
 cell:∀x c,X.env.cells.lookup x=some c->c≠C
 up:X.s₀.heap.objs.size<=C
 pin:∀p∈X.pn++pins,p.1≠C
theorem Loose.turn{X:Cx}{pins:List (Addr×Obj)}{C:Addr}{σ:St}{H:Hp}{s:af}{h':Heap}(L:Loose X pins C)(I:Inv X pins σ H s)(hn:H C=none)(hs:Heap.SameBut C s.heap h'):Inv X pins σ H {s with heap:=h'}:=
 I.turned (t':=s.toks) (it:=C) (λb o hb e=>(hs.2 b hb).trans e) hn L.loc (.inr L.up) L.cell L.pin
section
variable{X:Cx}{elt tgt it:Expr}{ifs:List Expr}{gs:List b6}{scope:aY}{pos:Pos}{NY:List Str}{cap:List (Option Nat)}{wi:TI}{tg:TG}{tt:TT}{tb:Addr->TS}
theorem ni{Q:VK}{pins:List (Addr×Obj)}{σ:St}{H:Hp}{s s2:af}{cl:List (Str×Addr)}{itv:ae}{E:ae->af->Prop}{use:Option (ae->Sem Unit)}{QQ:ae->af->Prop}
  (hc:X.calm=true) (S:zI X NY cap scope) (hng:∀g'∈gs,g'.is_async=0)
  (hsub:∀x c,cl.lookup x=some c->X.env.cells.lookup x=some c) (hall:∀x∈scope.names,x.2=.free->∃c,cl.lookup x.1=some c)
  (hb:∀cl C s₀ H₀ fp,PG (zt X NY scope cl C s₀ H₀ fp) tgt tg/\PTs (zt X NY scope cl C s₀ H₀ fp) ifs tt/\∀acc,PB (zt X NY scope cl C s₀ H₀ fp) (dG elt (⟨tgt,it,ifs,0⟩::gs) scope pos 0 (.ref acc) (zt X NY scope cl C s₀ H₀ fp).env) (tb acc))
  (h2:PIE X pins σ tgt (λJ H1=>∀acc,H1 acc=none ->
   ∃W:Nat->Nat->St->Hp->Prop,(∃m,W 0 m (caps cap σ) (upd H1 acc (.lst [])))/\∀i m τ H,W i m τ H ->
    (J.stop i H/\(Ends.mk (λ_ H=>Q (.ref acc) H) (λ_ _=>False) (λ_ _=>False) (λ_ _=>False)).nx τ H)\/(J.go i H/\∃N:St->Hp->Prop,(∀σ' H',N σ' H'->∃m',m'<m/\W (i+1) m' σ' H')/\∀x H',J.yld i H x H' ->
     tg x τ H' λσ2 H2=>gO tt (tb acc) fO {(Ends.mk (λ_ H=>Q (.ref acc) H) (λ_ _=>False) (λ_ _=>False) (λ_ _=>False))with nx:=N,ct:=N,bk:=(Ends.mk (λ_ H=>Q (.ref acc) H) (λ_ _=>False) (λ_ _=>False) (λ_ _=>False)).nx} σ2 H2)) itv s2)
  (fin:∀(acc C:Addr) (s':af) (m:Str->Option ae) (H':Hp),s'.heap.Ns C m->Loose X pins C->Inv X pins σ H' s'->H' C=none->Q (.ref acc) H'->compPost (ar X.prog X.w) X.A E use QQ (.ref acc) C (.ok .next) s') :
  ak (ar X.prog X.w) X.A (newList []) (λacc s₃=>ak (ar X.prog X.w) X.A (newFunctionEnv scope X.env.globals cl [] X.env.qual none .none (some X.env)) (λcenv s₄=>
   codeAny (ar X.prog X.w) X.A (.compStart (.ListComp elt (⟨tgt,it,ifs,0⟩::gs) scope pos) 0 itv acc {cenv with scope:=relabel scope X.env}) (compPost (ar X.prog X.w) X.A E use QQ acc cenv.locals) s₄) E s₃) E s2:=by
 obtain⟨ia,fp,tn,J,H2,e,I2,T,st2,f2,q⟩:=h2;subst e;have hlt2:∀b∈fp,b<s2.heap.objs.size:=λb hb=>by
  obtain⟨o,ho,_⟩:=T.obj _ _ st2 b hb;exact aK ho
 refine cG ?_;have hacc:H2 s2.heap.objs.size=none:=I2.hok.fresh (aD _);have I3:Inv X pins σ (upd H2 s2.heap.objs.size (.lst [])) {s2 with heap:=s2.heap.push {cls:=.type "list",dict:=none,data:=.seq ([]:List ae).toArray}}:=
  I2.laid (t':=s2.toks) (λb u e=>Heap.get?_push_of_some _ e) (aD _) ⟨bp _,[],0,.nil,Heap.get?_push_size _ rfl⟩
 have hsz3:(s2.heap.push {cls:=.type "list",dict:=none,data:=.seq ([]:List ae).toArray}).objs.size=s2.heap.objs.size+1:=bQ ..;generalize hs3:({s2 with heap:=s2.heap.push {cls:=.type "list",dict:=none,data:=.seq ([]:List ae).toArray}}:af)=s3 at I3 ⊢;have hsz:s3.heap.objs.size=s2.heap.objs.size+1:=by rw[<-hs3];exact hsz3
 have st3:tn 0 s3.heap:=T.keep _ _ _ st2 λb hb o e=>by rw[<-hs3];exact Heap.get?_push_of_some _ e
 have f3:∀b∈fp,de X pins (upd H2 s2.heap.objs.size (.lst [])) b:=λb hb=>⟨by rw[qQ (a9 (hlt2 b hb))];exact(f2 b hb).1,(f2 b hb).2⟩
 have hlt3:∀b∈fp,b<s3.heap.objs.size:=λb hb=>by rw[hsz];exact cF (hlt2 b hb)
 refine xx λh₁ hns₁ hk1 hcs=>?_
 have IY:=sU (tk:=s3.toks) I3 S hsub hall f3 hlt3 hns₁ hk1 hcs;have stY:tn 0 h₁:=T.keep _ _ _ st3 λb hb o e=>hk1 b o e
 obtain⟨pg,pt,pb⟩:=hb cl s3.heap.objs.size s3 (upd H2 s2.heap.objs.size (.lst [])) fp;have fY:∀b∈fp,de (zt X NY scope cl s3.heap.objs.size s3 (upd H2 s2.heap.objs.size (.lst [])) fp) [] (upd H2 s2.heap.objs.size (.lst [])) b:=λb hb=>by
  obtain⟨g0,g1,g2,g3,g4,g5⟩:=f3 b hb;refine⟨g0,a9 (hlt3 b hb),λz=>?_,.inl hb,(IY.ok.exf b hb).2,λp hp=>absurd (show p∈([]:List (Addr×Obj))from hp) (by simp)⟩;rcases aJ.mp (I3.stkSub b z)with w|w
  ·exact g1 w
  ·exact g2 w
 have L:=nE (elt:=elt) (gens:=⟨tgt,it,ifs,0⟩::gs) (scope:=scope) (pos:=pos) (d:=0) (Y:=zt X NY scope cl s3.heap.objs.size s3 (upd H2 s2.heap.objs.size (.lst [])) fp) (acc:=.ref s2.heap.objs.size) hc (λ_ _ z=>z) rfl rfl
  (λg' hg'=>hng g' (List.mem_of_getElem? (i:=0) (by simpa using hg'))) T pg pt (pb s2.heap.objs.size) IY stY fY (q s2.heap.objs.size hacc)
 refine b8 (xX (elt:=elt) (gens:=⟨tgt,it,ifs,0⟩::gs) (scope:=scope) (pos:=pos) (d:=0) (env:=compEnvC scope (ba (s3.heap.objs.size+1) scope.names []++cl) s3.heap.objs.size X.env) rfl rfl L (T.self _ 0 _ _ _ stY L)) λr s' ⟨e,τ',H',I',q'⟩=>?_
 subst e;obtain⟨m',hn',_⟩:=id I'.loc;have hLne:s3.heap.objs.size≠X.env.locals:=Nat.ne_of_gt I3.lt;have hCne:∀x c,X.env.cells.lookup x=some c->c≠s3.heap.objs.size:=λx c e z=>by
  obtain⟨v,qv⟩:=I3.cell x c e;exact absurd qv.lt (by rw[z];exact bL _)
 have J1:Inv X pins σ H' s':=by
  refine I3.call' (ch:=fp) I'.os I'.base I'.hok I'.bare λb hb=>?_
  obtain⟨g0,g1,g2,g3,g4,g5⟩:=f3 b hb;exact⟨g3,g1,g4,g5⟩
 refine fin s2.heap.objs.size s3.heap.objs.size s' m' H' hn' ⟨hLne,hCne,I3.sz,λp hp z=>?_⟩ J1 I'.free q';have:=aK (I3.pin p hp).1;rw[z]at this;exact bL _ this
theorem vJ(hc:X.calm=true)(S:zI X NY cap scope)(hi:PI X tgt it wi)
  (hb:∀cl C s₀ H₀ fp,PG (zt X NY scope cl C s₀ H₀ fp) tgt tg/\PTs (zt X NY scope cl C s₀ H₀ fp) ifs tt/\∀acc,PB (zt X NY scope cl C s₀ H₀ fp) (dG elt (⟨tgt,it,ifs,0⟩::gs) scope pos 0 (.ref acc) (zt X NY scope cl C s₀ H₀ fp).env) (tb acc))
  (hng:∀g'∈gs,g'.is_async=0:=by simp)
  (hs:∀x,foldedSetIterable it X.env x=pure x:=by intro _;rfl):PE X (.ListComp elt (⟨tgt,it,ifs,0⟩::gs) scope pos) (iE cap wi tg tt tb):=by
 intro pins s σ H Q I h;obtain⟨cl,hcl,hsub,hall⟩:=ko (env:=X.env) (scope:=scope) λx hx hf=>I.ok.has x.1 (S.free x hx hf)
 rw[eval_ListComp];refine wpAny_comprehension_free (use:=none) rfl hs hcl S.kind S.names (thn (hi pins s σ H _ I h) λv s1 h1=>thn h1 λitv s2 h2=>?_);exact ni (s:=s) (H:=H) (use:=none) hc S hng hsub hall hb h2 λacc C s' m H' hn L I' hC q=>⟨m,hn,λh' hs'=>⟨.ref acc,H',L.turn I' hC hs',rfl,q⟩⟩
theorem uR{i:Nat}{x:Str}{pos' spos:Pos}(hN:X.N.Nodup)(hix:X.N[i]? = some x)(hx:Loc X.env.scope x)(hc:X.calm=true)(S:zI X NY cap scope)(hi:PI X tgt it wi)
  (hb:∀cl C s₀ H₀ fp,PG (zt X NY scope cl C s₀ H₀ fp) tgt tg/\PTs (zt X NY scope cl C s₀ H₀ fp) ifs tt/\∀acc,PB (zt X NY scope cl C s₀ H₀ fp) (dG elt (⟨tgt,it,ifs,0⟩::gs) scope pos 0 (.ref acc) (zt X NY scope cl C s₀ H₀ fp).env) (tb acc))
  (hng:∀g'∈gs,g'.is_async=0:=by simp)
  (hsw:swapsWith (.ListComp elt (⟨tgt,it,ifs,0⟩::gs) scope pos) (some (.Name x pos')) spos.line X.env=pure true:=by rfl)
  (hf:X.fn x=true\/X.env.scope.names.lookup x=some .local:=by first|exact .inl rfl|exact .inr rfl|assumption)
  (hs:∀x,foldedSetIterable it X.env x=pure x:=by intro _;rfl) :
  PS X (.Assign [.Name x pos'] (.ListComp elt (⟨tgt,it,ifs,0⟩::gs) scope pos) spos) (gG (iE cap wi tg tt tb) (dU i)):=by
 intro pins s σ H D I h;obtain⟨cl,hcl,hsub,hall⟩:=ko (env:=X.env) (scope:=scope) λx hx hf=>I.ok.has x.1 (S.free x hx hf)
 rw[exec_Assign_Name_used _ _ _ _ hsw];refine aq (wpAny_standAt (aq ?_));show ak _ _ (do let _ <-comprehension (.ListComp elt (⟨tgt,it,ifs,0⟩::gs) scope pos) scope X.env _ (newList []) false (eval it X.env) (some (assign (.Name x pos') X.env))) _ _ s;refine aq (bS (wpAny_comprehension_free (use:=some (assign (.Name x pos') X.env)) (Q:=λ_ s'=>SP X pins D .next s') rfl hs hcl S.kind S.names (thn (hi pins s σ H _ I h) λv s1 h1=>thn h1 λitv s2 h2=>?_)) (λ_ s' q=>aC (aC q)) λ_ _ e=>e);refine ni (s:=s) (H:=H) (Q:=λx H1=>dU i x σ H1 D.nx) (use:=some (assign (.Name x pos') X.env)) hc S hng hsub hall hb h2 λacc C s' m H' hn L I1 hC q1=>?_
 show ak _ _ (assign (.Name x pos') X.env (.ref acc)) _ _ _;refine wpAny_assign_Name (kO (v:=.ref acc) I1 hN hix hx rfl (λs3 I3 ⟨a,hsa,ha⟩=>?_) hf);have hCa:C≠a:=by
  rcases ha with z|z
  ·rw[z];exact L.loc
  ·exact Ne.symm (L.cell x a z)
 exact⟨m,hn.sameBut hsa hCa,λh' hsb=>⟨_,H',L.turn I3 hC hsb,q1⟩⟩
end
theorem zA.there{P:aA}{w:av}{H:Hp}{h:Heap}{a:Addr}{o:HO}(x:zA P w H h a o):∃u,h.get? a=some u:=by
 cases o with
 |lst xs=>obtain⟨_,_,_,_,e⟩:=x;exact⟨_,e⟩
 |tup xs=>obtain⟨_,_,_,o,e,_⟩:=x;exact⟨_,e⟩
 |dK kvs=>obtain⟨_,_,_,_,o,_,_,e,_⟩:=x;exact⟨_,e⟩
 |dT kvs=>obtain⟨_,_,_,_,o,_,_,e,_⟩:=x;exact⟨_,e⟩
 |set S n=>obtain⟨o,_,_,_,e,_⟩:=x;exact⟨_,e⟩
 |ins C dx fs=>obtain⟨_,_,_,e,_⟩:=x;exact⟨_,e⟩
 |own y=>obtain⟨_,e⟩:=x;exact⟨_,e⟩
 |xd fs=>obtain⟨_,⟨_,_,_,e,_⟩,_⟩:=x;exact⟨_,e⟩
 |rng lo hi=>obtain⟨_,_,_,e⟩:=x;exact⟨_,e⟩
 |frz ob u=>obtain⟨e,_⟩:=x;exact⟨_,e⟩
 |tbl ps=>exact⟨_,(show h.get? a=some _ from x)⟩
 |met f y=>exact⟨_,(show h.get? a=some _ from x)⟩
 |ext φ=>obtain⟨_,e,_⟩:=x;exact e
theorem HOk.free_of{P:aA}{w:av}{H:Hp}{h:Heap}{a:Addr}(x:HOk P w H h)(e:h.get? a=none):H a=none:=by
 cases q:H a with
 |none=>rfl
 |some o=>obtain⟨u,z⟩:=(x a o q).there;rw[e]at z;cases z
structure Apart(X:Cx)(pins:List (Addr×Obj))(H:Hp)(b:Addr):Prop where
 new:X.s₀.heap.get? b=none
 free:H b=none
 pin:∀p∈X.pn++pins,p.1≠b
structure dw(X:Cx)(pins:List (Addr×Obj))(H:Hp)(h:Heap)(x:Addr)(cls:ae):Prop where
 me:Apart X pins H x
 tr:∃oe vs T oT ts a0,h.get? x=some oe/\oe.cls=cls/\vs[0]? = some a0/\oe.data=.fields vs/\vs[1]? = some (.ref T)/\T≠x/\h.get? T=some oT/\oT.data=.fields ts/\ts[3]? = some .none/\Apart X pins H T
structure Fly(h₀ h:Heap)(H:Hp)(x:Addr)(cls:ae):Prop where
 new:h₀.get? x=none
 free:H x=none
 tr:∃oe vs T oT ts a0,h.get? x=some oe/\oe.cls=cls/\vs[0]? = some a0/\oe.data=.fields vs/\vs[1]? = some (.ref T)/\T≠x/\h.get? T=some oT/\oT.data=.fields ts/\ts[3]? = some .none/\h₀.get? T=none/\H T=none
noncomputable def CX1(P:aA)(w:av):CXT:=λouter H s E e s'=>
 ∃x cls H',e=.ref x/\s'.os=s.os/\AllBare s'.gens/\Un (frs outer) [] H H' s.heap s'.heap/\HOk P w H' s'.heap/\Fly s.heap s'.heap H' x cls/\E cls none H'
section
variable{X:Cx}{pins:List (Addr×Obj)}{σ:St}{H:Hp}{s:af}{x T:Addr}{cls:ae}
theorem Inv.stepN{h':Heap}{t':Nat}{ch:List Addr}(I:Inv X pins σ H s)(hex:X.ex=[])(hch:∀b∈ch,Apart X pins H b/\b≠X.env.locals/\(∀x c,X.env.cells.lookup x=some c->c≠b)/\b∉X.fs)
  (keep:∀b o,b∉frs X.stack->b≠X.env.locals->b∉X.fs->b∉ch->s.heap.get? b=some o->h'.get? b=some o)
  (slot:∀b o,(b∈frs X.stack\/b=X.env.locals\/b∈X.fs)->s.heap.get? b=some o->∃sl,h'.get? b=some {o with slots:=sl}) (there:∀b o,b∉ch->s.heap.get? b=some o->∃o',h'.get? b=some o') :
  Inv X pins σ H {s with heap:=h',toks:=t'}:=by
 have sub:∀b,b∈frs X.stack->b=X.env.locals\/b∈X.fs:=λb hb=>aJ.mp (I.stkSub b hb)
 have keep':∀b o,b≠X.env.locals->b∉X.fs->b∉ch->s.heap.get? b=some o->h'.get? b=some o:=λb o h1 h2 h3 e=>keep b o (λz=>(sub b z).elim h1 h2) h1 h2 h3 e
 have neL:∀b o,X.s₀.heap.get? b=some o->b≠X.env.locals:=λb o e=>a9 (bB (aK e) I.ok.above)
 have neC:∀b o,X.s₀.heap.get? b=some o->b∉ch:=λb o e hb=>by
  have:=(hch b hb).1.new;rw[e]at this;cases this
 have cellK:∀x c,X.env.cells.lookup x=some c->∀v,s.heap.IsCell c v->h'.IsCell c v:=λx c e v ⟨o,ho,hd⟩=>by
  have nch:c∉ch:=λz=>(hch c z).2.2.1 x c e rfl
  by_cases hc:c∈X.fs
  ·obtain⟨sl,q⟩:=slot c o (.inr (.inr hc)) ho;exact⟨_,q,hd⟩
  ·exact⟨o,keep' c o (I.cne x c e) hc nch ho,hd⟩
 have nex:∀b,b∉X.ex:=λb=>by rw[hex];simp
 refine⟨I.ok,I.os,I.bare,⟨λb o e n hb hx=>?_,λb o e n hb hx=>?_,I.base.free,λb o e hx=>?_,I.base.tups,I.base.frzs,I.base.tbls⟩,?_,λx c e=>?_,I.free,I.freeC,λp hp=>?_,λb u e=>?_,I.len⟩
 ·exact keep' b o (neL b o e) hb (neC b o e) (I.base.keep b o e n hb hx)
 ·obtain⟨sl,e1⟩:=I.base.slot b o e n hb hx;obtain⟨sl',e2⟩:=slot b _ (.inr (.inr hb)) e1;exact⟨sl',e2⟩
 ·obtain⟨o',e1⟩:=I.base.there b o e hx;exact there b o' (neC b o e) e1
 ·obtain⟨m,hn,hl⟩:=I.loc;obtain⟨oL,es,ep,hoL,hdL,r⟩:=id hn;obtain⟨sl,eL⟩:=slot _ _ (.inr (.inl rfl)) hoL;refine⟨m,⟨_,es,ep,eL,hdL,r⟩,λi x v e1 e2 e3=>?_⟩;obtain⟨u,ru,l⟩:=hl i x v e1 e2 e3;refine⟨u,ru,?_⟩;rcases l with l|⟨k,c,e,z⟩
  ·exact .inl l
  ·exact .inr ⟨k,c,e,cellK x c e _ z⟩
 ·obtain⟨v,z⟩:=I.cell x c e;exact⟨v,cellK x c e v z⟩
 ·obtain⟨e,n,ne,nf,d⟩:=I.pin p hp;exact⟨keep' p.1 p.2 ne nf (λz=>(hch p.1 z).1.pin p hp rfl) e,n,ne,nf,d⟩
 ·have nfr:∀b,(∃u,H b=some u)->b≠X.env.locals/\b∉X.fs/\b∉ch:=λb ⟨u,e⟩=>by
   refine⟨λz=>?_,λz=>?_,λz=>?_⟩
   ·rw[z,I.free]at e;cases e
   ·obtain⟨_,o,ho,_⟩:=I.ok.funs.mem z;have:=I.base.free b o ho (I.ok.frf b z) (nex b);rw[e]at this;cases this
   ·have:=(hch b z).1.free;rw[e]at this;cases this
  refine(I.hok b u e).stay (λc v hc q=>?_) (λ_ q=>q) λ_ _ q=>q
  have hc':∃u,H c=some u:=by
   rcases hc with z|z
   ·exact⟨u,by rw[z];exact e⟩
   ·exact⟨_,z⟩
  obtain⟨n1,n2,n3⟩:=nfr c hc';exact keep' c v n1 n2 n3 q
theorem Inv.rec_ne(I:Inv X pins σ H s){b:Addr}{o:Obj}{vs:Array ae}(e:s.heap.get? b=some o)(d:o.data=.fields vs):b≠X.env.locals/\(∀x c,X.env.cells.lookup x=some c->c≠b)/\b∉X.fs/\b∉frs X.stack:=by
 have h1:b≠X.env.locals:=λz=>by
  obtain⟨m,⟨o',es,ep,ho,hd,_⟩,_⟩:=I.loc;rw[<-z,e]at ho;cases ho;rw[d]at hd;cases hd
 have h3:b∉X.fs:=λz=>by
  obtain⟨_,o',ho,hn⟩:=I.funs.mem z;rw[e]at ho;cases ho;exact hn vs d
 refine⟨h1,λx c ec z=>?_,h3,λz=>(aJ.mp (I.stkSub b z)).elim h1 h3⟩;obtain⟨v,o',ho,hd⟩:=I.cell x c ec;rw[z,e]at ho;cases ho;rw[d]at hd;cases hd
theorem dw.flying(I:Inv X pins σ H s)(F:dw X pins H s.heap x cls):∃T oT ts a0,Heap.FlyingW (PySem.W.hideAll s.heap (x::T::frs X.stack)) X.stack x cls a0 s.heap/\s.heap.get? T=some oT/\oT.data=.fields ts/\Apart X pins H T:=by
 obtain⟨oe,vs,T,oT,ts,a0,e1,e2,e3,e4,e5,e6,e7,e8,e9,e10⟩:=F.tr;refine⟨T,oT,ts,a0,⟨λb o q=>PySem.W.of_hideAll _ q,PySem.W.hideAll_none _ aW,?_,oe,vs,T,oT,ts,e1,⟨e2,e3⟩,e4,e5,PySem.W.hideAll_none _ (aS _ aW),e6,e7,e8,e9⟩,e7,e8,e10⟩;exact PySem.W.funFrames_hide I.stack λenv he a ha=>aS _ (aS _ (List.mem_filterMap.mpr ⟨env,he,ha⟩))
theorem dw.back(I:Inv X pins σ H s)(hex:X.ex=[])(me:Apart X pins H x){ox:Obj}{vs:Array ae}(hx:s.heap.get? x=some ox)(hxd:ox.data=.fields vs){oT:Obj}{ts:Array ae}(hT:s.heap.get? T=some oT)(hTd:oT.data=.fields ts)(aT:Apart X pins H T)
  {l:List Env}{a0:ae}{h':Heap} (W:Heap.FlyingW (PySem.W.hideAll s.heap (x::T::frs X.stack)) l x cls a0 h') (u:s.heap.UpToSlots h') :
  Inv X pins σ H {s with heap:=h'}/\dw X pins H h' x cls:=by
 obtain⟨w1,w2,w3,oe',vs',T',oT',ts',f1,⟨f2,f3⟩,f4,f5,f6,f7,f8,f9,f10⟩:=W;obtain⟨nx1,nx2,nx3,nx4⟩:=I.rec_ne hx hxd;obtain⟨nt1,nt2,nt3,nt4⟩:=I.rec_ne hT hTd;have frd:∀b o,(b∈frs X.stack\/b=X.env.locals\/b∈X.fs)->s.heap.get? b=some o->∀ws,o.data≠.fields ws:=λb o hb e ws d=>by
  obtain⟨n1,n2,n3,n4⟩:=I.rec_ne e d;rcases hb with z|z|z
  ·exact n4 z
  ·exact n1 z
  ·exact n3 z
 have nch:∀b,b∉[x,T]->b∉frs X.stack->b∉(x::T::frs X.stack):=λb h1 h2 h3=>by
  rcases aJ.mp h3 with z|h3
  ·exact h1 (by simp[z])
  ·rcases aJ.mp h3 with z|h3
   ·exact h1 (by simp[z])
   ·exact h2 h3
 refine⟨?_,me,oe',vs',T',oT',ts',a0,f1,f2,f3,f4,f5,f7,f8,f9,f10,?_⟩
 ·refine I.stepN (t':=s.toks) (ch:=[x,T]) hex (λb hb=>?_) (λb o h1 h2 h3 h4 e=>w1 b o (PySem.W.hideAll_get _ e (nch b h4 h1))) (λb o hb e=>u b o e (frd b o hb e)) λb o h4 e=>?_
  ·rcases aJ.mp hb with z|hb
   ·subst z;exact⟨me,nx1,nx2,nx3⟩
   ·have z:b=T:=by simpa using hb
    subst z;exact⟨aT,nt1,nt2,nt3⟩
  ·by_cases hb:b∈frs X.stack
   ·obtain⟨sl,q⟩:=u b o e (frd b o (.inl hb) e);exact⟨_,q⟩
   ·exact⟨o,w1 b o (PySem.W.hideAll_get _ e (nch b h4 hb))⟩
 ·by_cases hTT:T'=T
  ·rw[hTT];exact aT
  ·by_cases hTf:T'∈frs X.stack
   ·obtain⟨_,o,ho,hn⟩:=I.stack.mem hTf;obtain⟨sl,q⟩:=u T' o ho hn;rw[q]at f8;have z:({o with slots:=sl}:Obj)=oT':=bV f8;subst z;exact absurd f9 (hn ts')
   ·have hnone:s.heap.get? T'=none:=by
     cases q:s.heap.get? T' with
     |none=>rfl
     |some o=>
      have:(PySem.W.hideAll s.heap (x::T::frs X.stack)).get? T'=some o:=PySem.W.hideAll_get _ q (nch T' (by simp[f7,hTT]) hTf);rw[f6]at this;cases this
    refine⟨?_,I.hok.free_of hnone,λp hp z=>?_⟩
    ·cases q:X.s₀.heap.get? T' with
     |none=>rfl
     |some o=>
      obtain⟨o',e'⟩:=I.base.there T' o q (by rw[hex];simp);rw[hnone]at e';cases e'
    ·have:=(I.pin p hp).1;rw[z,hnone]at this;cases this
theorem n_{P:aA}{w:av}(hP:X.prog=P)(hw:X.w=w)(I:Inv X pins σ H s)(hex:X.ex=[]){E:XK}{e:ae}{s':af}(h:CX1 P w X.stack H s E e s') :
  ∃x cls H',e=.ref x/\Inv X pins σ H' s'/\dw X pins H' s'.heap x cls/\E cls none H':=by
 subst hP hw;obtain⟨x,cls,H',rfl,os,bare,un,hok,F,q⟩:=h;have ap:∀b,s.heap.get? b=none->H' b=none->Apart X pins H' b:=λb h1 h2=>by
  refine⟨?_,h2,λp hp z=>?_⟩
  ·cases q:X.s₀.heap.get? b with
   |none=>rfl
   |some o=>
    obtain⟨o',e'⟩:=I.base.there b o q (by rw[hex];simp);rw[h1]at e';cases e'
  ·have:=(I.pin p hp).1;rw[z,h1]at this;cases this
 obtain⟨oe,vs,T,oT,ts,a0,e1,e2,e3,e4,e5,e6,e7,e8,e9,e10,e11⟩:=F.tr;exact⟨x,cls,H',rfl,I.call' (ch:=[]) os un hok bare (λb z=>absurd z (by simp)),⟨ap x F.new F.free,oe,vs,T,oT,ts,a0,e1,e2,e3,e4,e5,e6,e7,e8,e9,ap T e10 e11⟩,q⟩
theorem dw.leaves(I:Inv X pins σ H s)(hex:X.ex=[]){env:Env}{outer:List Env}(hst:X.stack=X.env::X.outer)(hfr:X.env.frame=some X.env.locals)(F:dw X pins H s.heap x cls){E:XK}(q:E cls none H)
  {EE:ae->af->Prop}:ak (ar X.prog X.w) X.A (leaving X.env (.ref x)) (λ_ s''=>CX1 X.prog X.w X.outer X.H₀ X.s₀ E (.ref x) s'') EE s:=by
 obtain⟨oe,vs,_,_,_,_,e1,_,_,e4,_⟩:=id F.tr;obtain⟨T,oT,ts,a0,W,hT,hTd,aT⟩:=dw.flying I F;have hfrm:=I.ok.frames;rw[hst]at hfrm W;refine wpAny_leaves_onW hfrm hfr W λh' W' u=>?_
 rw[<-hst]at W';obtain⟨I',F'⟩:=dw.back I hex F.me e1 e4 hT hTd aT W' u;obtain⟨oe',vs',T',oT',ts',a0',f1,f2,f3,f4,f5,f6,f7,f8,f9,f10⟩:=F'.tr;have hb:=I'.base;rw[hex]at hb;exact⟨x,cls,H,rfl,I'.os,I'.bare,hb,I'.hok,⟨F'.me.new,F'.me.free,oe',vs',T',oT',ts',a0',f1,f2,f3,f4,f5,f6,f7,f8,f9,f10.new,f10.free⟩,q⟩
end
section
variable{P:aA}{w:av}{K:aB}{mg:Str->Option ae}{base:Heap}{N:List Str}{qual:Str}{scope:aY}{f:Addr}{cd:ae}{A:az}{outer:List Env}{s₀:af}{H₀:Hp}{E:XK}
theorem rq:Passes (CX1 P w) (dH (CX1 P w) P w K mg base N qual scope f cd A outer s₀ H₀ E) E:=by
 intro pins σ H s e s' I h;obtain⟨x,cls,H',rfl,I',F,q⟩:=n_ rfl rfl I rfl h;exact dw.leaves (env:=(dH (CX1 P w) P w K mg base N qual scope f cd A outer s₀ H₀ E).env) (outer:=outer) I' rfl rfl rfl F q
theorem nk{X:Cx}(hP:X.prog=P)(hw:X.w=w):Passes (CX1 P w) X E0:=by
 intro pins σ H s e s' I h;obtain⟨x,cls,H',rfl,_,_,_,_,_,q⟩:=h;exact q.elim
noncomputable def Throws(X:Cx)(E:XK):Prop:=∀(pins:List (Addr×Obj)) (σ:St) (H:Hp) (s:af) (h':Heap) (e:Addr) (cls:ae) (args:List ae),Inv X pins σ H s->Heap.MadeExcOf s.heap h' e cls args->E cls none H->X.xe (.ref e) {s with heap:=h'}
end
abbrev gZ:List Value:=[.type "ValueError",.type "Exception",.type "BaseException",.type "object"]
noncomputable def kc(K:aB)(C:Addr):Prop:=PySem.W.excIn K C gZ "ValueError.__new__" = true
section
variable{X:Cx}{C:Addr}{x:Str}{E:XK}{t:TA}{e:Expr}{es:List Expr}{np cpos pos:Pos}
end
structure fF(k:Nat)(A:az):Prop where
 dp:A.depth+3 * k+5<recursionLimit
 un:A.units+16 * k+200<cLine
theorem bW.u{k:Nat}{A:az}(r:bW k A):fF k A:=⟨r.dp,r.un⟩
structure hX(P:aA)(w:av)(K:aB)(mg:Str->Option ae)(base:Heap)(CX:CXT)(k:Nat)(f:Addr)(fd:bE)(ps:List Str)(sp:Sp):Prop where
 len:∀vs H Q E,sp vs H Q E->vs.length=ps.length
 run:∀(A:az) (outer:List Env) (s:af) (H:Hp) (args:Args) (us:List ae) (vs:List V) (Q:VK) (E:XK),fF k A->ff P w K mg base A outer s H->BindsTo s fd args (ps.zip us)->Vals vs us->sp vs H Q E ->
  codeAny (ar P w) A (.call (.ref f) args) (CR CX outer P w H s Q E) s
section
variable{CX:CXT}{P:aA}{w:av}{K:aB}{mg:Str->Option ae}{base:Heap}{k:Nat}{f:Addr}{fd:bE}{ps:List Str}{sp:Sp}
end
section
variable{X:Cx}{CX:CXT}{k:Nat}{f:Addr}{fd:bE}{ps:List Str}{sp:Sp}{dvs:List V}{ds:List ae}{E:XK}{x:Str}{p pos:Pos}{e:Expr}{es:List Expr}{t:TA}
theorem wq{pins:List (Addr×Obj)}{σ:St}{H:Hp}{s:af}{Q:VK}{us:List ae}{vs:List V}(F:hX X.prog X.w X.K X.mg X.base CX k f fd ps sp)(hr:fF k X.A)(hb:Binds X.K fd ps ds)(hd:Vals dvs ds)(hx:Passes CX X E)
  (I:Inv X pins σ H s) (r:Vals vs us) (h:sp (vs++dvs) H Q E):ak (ar X.prog X.w) X.A (call (.ref f) us) (EP X pins σ Q) X.xe s:=by
 have r2:Vals (vs++dvs) (us++ds):=r.append hd;have hl:(us++ds).length=ps.length:=by rw[<-r2.length];exact F.len _ _ _ _ h
 refine wpAny_call (b8 (F.run X.A X.stack s H ⟨us,[]⟩ (us++ds) (vs++dvs) Q E hr I.env0 (hb s us I.kIn hl) r2 h) λr s' hq=>?_);cases r with
 |error e=>exact hx pins σ H s e s' I hq
 |ok fl=>
  cases fl with
  |ret u=>exact I.after hq
  |next=>exact bq hq
  |brk=>exact bq hq
  |cont=>exact bq hq
theorem sH(F:hX X.prog X.w X.K X.mg X.base CX k f fd ps sp)(hr:fF k X.A)(hg:Gl X x)(hm:X.mg x=some (.ref f))(hk:b4 X.K (.ref f)=true)(hb:Binds X.K fd ps ds)(hd:Vals dvs ds)(hx:Passes CX X E)
  (ha:PA X (e::es) t) (hdb:(x==("__debug__" : Str))=false:=by decide) (he:aR (e::es) X.env=(false,eval e X.env)::aR es X.env:=by rfl) (hpl:(backTo pos (aR es X.env)).any (·.1)=false:=by rfl) :
  PE X (.Call (.Name x p) (e::es) [] pos) (jt sp dvs E t):=by
 intro pins s σ H Q I h;refine wpAny_Call_Name_kw (jd I hg hm ?_ hdb);refine PySem.W.callWith_K (h₀:=X.base) I.ok.mod.kin hk (thn (ha pos pins s σ H _ I h) λus s1 ⟨vs,H1,I1,r,q⟩=>⟨I1.kIn,?_⟩) he hpl;exact wq F hr hb hd hx I1 r q
end
noncomputable def oh(x:Addr)(cls:ae):HO:=.ext λh=>∃o vs,h.get? x=some o/\o.cls=cls/\o.data=.fields vs
section
variable{X:Cx}{pins:List (Addr×Obj)}{σ:St}{H:Hp}{s:af}
end
end L2
namespace L2
open PySem PySem.Spec PyProof.Rows PySem.W PySem.Calls Builtin Builtin.ObjectAttr Builtin.Getset_descriptor
structure iH(K:Frag)(C:Addr):Prop where
 ga:findIn K (.ref C) "__getattribute__" = some (some (.builtin "BaseException.__getattribute__"))
 gt:findIn K (.ref C) "__getattr__" = some none
 gc:findIn K (.ref C) "__class__" = some (some (.builtin "object.__class__"))
 mb:mroIn K C (.type "BaseException")=some true
 mo:mroIn K C (.type "object")=some true
 cl:∃c dd cd sl,K.lookup C=some ⟨c,dd,.cls cd,sl⟩
section
variable{prog:aA}{w:av}{A:az}{E:ae->af->Prop}{h:Heap}{g:Array GenState}{d:Drawn}{t:Nat}{os:OsState}{x C:Addr}{K:Frag}
end
end L2
namespace L2
open PySem PySem.Spec PyProof.Rows
structure yF(prog:aA)(w:av)(xs:Array ae)(i l:Addr)(P:Nat->Heap->Prop):Prop where
 fr:∀k h h',P k h->(∀o,h.get? i=some o->h'.get? i=some o)->(∀o,h.get? l=some o->h'.get? l=some o)->P k h'
 nx:∀{A:az} (k:Nat) (x:ae) (s:af) (Q:ae->af->Prop) (E:ae->af->Prop),P k s.heap->xs[k]? = some x->(∀h',P (k+1) h'->Heap.SameBut i s.heap h'->Q x {s with heap:=h'})->ak (ar prog w) A (Builtin.SmallTypes.nextOf (.ref i)) Q E s
 en:∀{A:az} (k:Nat) (s:af) (Q:ae->af->Prop) (E:ae->af->Prop),A.handled=none->P k s.heap->xs[k]? = none ->
  (∀h' e,Heap.ExtBut i s.heap h'->(∃o,h'.get? e=some o/\o.cls=.type "StopIteration")->E (.ref e) {s with heap:=h'})->ak (ar prog w) A (Builtin.SmallTypes.nextOf (.ref i)) Q E s
 at_:∀k h,P k h->∃o,h.get? i=some o/\∃vs,o.data=.fields vs
section
variable{prog:aA}{w:av}{A:az}{E:ae->af->Prop}{s:af}
end
section
variable{prog:aA}{w:av}{A:az}{E:ae->af->Prop}{s:af}{z TI TO i1 i2 l1 l2:Addr}{k:Nat}{xs ys:Array ae}{P1 P2:Nat->Heap->Prop}
structure yE(z TI TO i1 i2 l1 l2:Addr):Prop where
 d:ZipApart z TI TO i1 i2 l1 l2
end
section
variable{X:Cx}{pins:List (Addr×Obj)}{σ:St}{H:Hp}{s:af}{h':Heap}{tk:Nat}
end
section
variable{prog:aA}{w:av}{A:az}{E:ae->af->Prop}{s:af}
end
theorem tq{K:aB}{T:String}:b3 K (.type T) (.type T)=some true:=by unfold b3;rw[if_pos (by simp)]
theorem tD{K:aB}{a T:String}{b:Bool}(hne:(ae.type a==ae.type T)=false)(hm:PySem.W.kitMeta T=true)(hf:(fastBuiltinMro a).map (·.contains (.type T))=some b):b3 K (.type a) (.type T)=some b:=by
 unfold b3 PySem.W.kitCls PySem.W.subIn;rw[if_neg (by rw[hne];exact cB)];dsimp only;rw[if_pos hm];exact hf
noncomputable def eJ(a T:String):Bool:=a==T||(a == "bool" && T == "int")
theorem wV{K:aB}{a T:String}(ha:a∈["NoneType","bool","int","str","list","tuple","dict"])(hT:T∈["int","bool","str","list","tuple"]):b3 K (.type a) (.type T)=some (eJ a T):=by
 simp only[aJ,bD,or_false]at ha hT;rcases ha with rfl|rfl|rfl|rfl|rfl|rfl|rfl<;>rcases hT with rfl|rfl|rfl|rfl|rfl<;>first|exact tq|exact tD (by decide +kernel) (by decide +kernel) (by decide +kernel)
noncomputable def ltP(p q:Int×Int):Bool:=if p.1=q.1 then decide (p.2<q.2)else decide (p.1<q.1)
section
variable{prog:aA}{w:av}{A:az}{E:ae->af->Prop}{s:af}
end
theorem sC{h:Heap}{a:Addr}{m m':Str->Option ae}(x:h.Ns a m)(y:h.Ns a m'):m=m':=by
 obtain⟨o,es,ep,e1,e2,_,e4⟩:=x;obtain⟨o',es',ep',f1,f2,_,f4⟩:=y;rw[e1]at f1;cases f1;rw[e2]at f2;cases f2;funext n;rw[<-e4,<-f4]
theorem Inv.newList{X:Cx}{pins:List (Addr×Obj)}{σ:St}{H:Hp}{s s':af}{D:Addr}{out:List V}{its:List ae}{c:Nat}(I:Inv X pins σ H s)(hos:s'.os=s.os)(hg:s'.gens=s.gens)
  (k:∀b o,b≠X.env.locals->s.heap.get? b=some o->s'.heap.get? b=some o) (ns:∀m,s.heap.Ns X.env.locals m->s'.heap.Ns X.env.locals m) (hD:s.heap.get? D=none) (hDL:D≠X.env.locals)
  (hl:s'.heap.get? D=some {cls:=.type "list",data:=.seq its.toArray c}) (r:Vals out its) (hz:out.length<=aX):Inv X pins σ (upd H D (.lst out)) s':=by
 obtain⟨h',g',d',t',o'⟩:=s';have eo:o'=s.os:=hos;have eg:g'=s.gens:=hg;subst eo eg;have hpn:H D=none:=I.hok.free_of hD;have np:∀b u,H b=some u->b≠D:=λb u e z=>by rw[z,hpn]at e;cases e
 obtain⟨m0,n0,_⟩:=id I.loc;obtain⟨oL,es,ep,hoL,_⟩:=id n0;obtain⟨oL',es',ep',hoL',_⟩:=ns _ n0;refine I.step (g':=s.gens) (d':=d') (ch:=[]) (λb hb=>absurd hb (by simp)) (λb o hL _ _ e _=>k b o hL e) (λb o hL _ _ e _=>⟨o.slots,k b o hL e⟩) (λb o _ e n=>?_) (λb o _ e=>?_)
  (λb xs e=>by rw[qQ (np b _ e)];exact e) (λb o u e=>by rw[qQ (np b _ e)];exact e) (λb ps e=>⟨#[],by rw[qQ (np b _ e),e];simp⟩) ns (λb u e=>?_) I.bare
 ·rw[qQ (λz=>by rw[z,hD]at e;cases e)];exact n
 ·by_cases hL:b=X.env.locals
  ·exact⟨oL',by rw[hL];exact hoL'⟩
  ·exact⟨o,k b o hL e⟩
 ·by_cases hb:b=D
  ·subst hb;rw[zk]at e;cases e;exact⟨hz,its,c,r,hl⟩
  ·rw[qQ hb]at e;have nl:∀c,(∃u,H c=some u)->c≠X.env.locals:=λc ⟨u,e⟩ z=>by rw[z,I.free]at e;cases e
   refine(I.hok b u e).stay (λc v hc q=>k c v (nl c ?_) q) (λc q=>by rw[qQ (np c _ q)];exact q) λc xs q=>by rw[qQ (np c _ q)];exact q
   rcases hc with z|z
   ·exact⟨u,by rw[z];exact e⟩
   ·exact⟨_,z⟩
section
variable{prog:aA}{w:av}{A:az}{E:ae->af->Prop}{s:af}
theorem uw{a:Addr}{vs:List ae}{P:Fin->af->Prop}(hoL:s.heap.get? a=some (seqObj "list" vs.toArray 0))(h2:vs.length<2)(h:P (.done (.ret .none)) {s with heap:=sortedHeap s.heap a vs vs.toArray}) :
  ak (ar prog w) A (Builtin.«list.sort» ⟨[.ref a],[]⟩) P E s:=by
 rw[list_sort_plain];refine aq (listItems_at  hoL rfl ?_);refine aq (listUpdate_at  hoL rfl ?_ (by rw[aU,bw];lia) (bp _));obtain⟨e1,ho1⟩:∃e1,(s.heap.update a (bG λ_=>#[])).get? a=some (seqObj "list" #[] e1):=⟨_,get?_update_seq hoL (λ_=>#[])⟩
 refine aq (seqEpoch_at ho1 rfl ?_);refine aq (wpAny_newTuple ?_ (by show vs.length<=_;rw[bw];lia));refine aq (wpAny_newList ?_ (bp _));refine b5 ?_;have hlt:a<s.heap.objs.size:=aK hoL;have ho6:(((s.heap.update a (bG λ_=>#[])).push (seqObj "tuple" vs.toArray 0)).push (seqObj "list" #[] 0)).get? a=some (seqObj "list" #[] e1):=by
  rw[Heap.get?_push_ne _ _ _ (by rw[size_push',Heap.size_update];exact a9 (cF hlt)),Heap.get?_push_ne _ _ _ (by rw[Heap.size_update];exact a9 hlt)];exact ho1
 show ak (ar prog w) _ _ _ _ {s with heap:=((s.heap.update a (bG λ_=>#[])).push (seqObj "tuple" vs.toArray 0)).push (seqObj "list" #[] 0)};dsimp only;have h2':vs.toArray.size<2:=by rw[aU];exact h2
 rw[if_pos h2',if_pos h2'];refine aq (aC ?_);rw[StateT.run_pure];refine aq (aC ?_);dsimp only;refine aq (seqEpoch_at ho6 rfl ?_);have hout:(ag (aF.mk' general' (vs.toArray.zip vs.toArray) #[] 7 none)).map (·.2)=vs.toArray:=by
  show (vs.toArray.zip vs.toArray).map (·.2)=vs.toArray;apply Array.toList_inj.mp;simp[List.map_snd_zip]
 refine aq (listUpdate_at ho6 rfl ?_ (bp _) (by rw[hout,aU,bw];lia));simp only[bne_self_eq_false,a_,if_false];refine aC ?_;rw[hout];exact h
end
section
variable{X:Cx}{pins:List (Addr×Obj)}{σ:St}{H:Hp}{s:af}
noncomputable def wC(X:Cx)(CX:CXT)(tf:TE)(t:TA):TE:=λσ H Q=>tf σ H λv H1=>∃(f:Addr) (k:Nat) (fd:bE) (ps:List Str) (sp:Sp) (E:XK),v=.ref f/\dC X.prog X.w X.K X.mg X.base CX k f fd ps sp/\bW k X.A/\b4 X.K (.ref f)=true /\
 Binds X.K fd ps []/\Passes CX X E/\t σ H1 λvs H2=>sp vs H2 Q E
theorem oS{CX:CXT}{fe e:Expr}{es:List Expr}{pos:Pos}{tf:TE}{t:TA}(hf:PE X fe tf)(ha:PA X (e::es) t)(he:aR (e::es) X.env=(false,eval e X.env)::aR es X.env:=by rfl)(hpl:(backTo pos (aR es X.env)).any (·.1)=false:=by rfl)
  (hc:eval (.Call fe (e::es) [] pos) X.env=(do callWith pos (<-eval fe X.env) [] (backTo pos (aR (e::es) X.env)) (backToKw pos (keywordEach [] X.env))):=by rfl):PE X (.Call fe (e::es) [] pos) (wC X CX tf t):=by
 intro pins s σ H Q I h;refine Call_ (thn (hf pins s σ H _ I h) λu s1 ⟨v,H1,I1,r1,f,k,fd,ps,sp,E,ev,F,hr,hk,hb,hx,q⟩=>?_) hc;subst ev;cases r1;refine PySem.W.callWith_K (h₀:=X.base) I.ok.mod.kin hk (thn (ha pos pins s1 σ H1 _ I1 q) λus s2 ⟨vs,H2,I2,r,q2⟩=>⟨I2.kIn,?_⟩) he hpl;exact j7 (ds:=[]) (dvs:=[]) F hr hb .nil hx I2 r (by rw[b_];exact q2)
theorem tY{A:az}{bs:List Bool}{us:List ae}(r:Vals (bs.map V.bl) us):us=bs.map ae.bool:=by
 induction bs generalizing us with
 |nil=>cases r;rfl
 |cons b bs ih=>cases r with
  |cons h t=>rw[ih t,show _=ae.bool b from h];rfl
end
section
variable{X:Cx}
noncomputable def lP(r r' r'':R2)(ta tb tc td:TE):TE:=λσ H Q=>ta σ H λx H1=>tb σ H1 λy H2=>r x y H2 λz H3=>∃k,z=.bl k /\
 (if k=true then tc σ H3 λw' H4=>r' y w' H4 λz H5=>∃k,z=.bl k/\(if k=true then td σ H5 λw'' H6=>r'' w' w'' H6 Q else Q (.bl false) H5)else Q (.bl false) H3)
theorem rf{a b c d:Expr}{ta tb tc td:TE}{pos:Pos}{op op' op'':CmpOp}{r r' r'':R2}(ho:OpR X (a8 op) r)(ho':OpR X (a8 op') r')(ho'':OpR X (a8 op'') r'')(ha:PE X a ta)(hb:PE X b tb)(hc:PE X c tc)(hd:PE X d td)
  (hm:lastMarks [op,op',op''] [b,c,d]=false:=by with_unfolding_all rfl):PE X (.Compare a [op,op',op''] [b,c,d] pos) (lP r r' r'' ta tb tc td):=by
 intro pins s σ H Q I h;refine Compare_chain (thn (ha pins s σ H _ I h) λv s1 ⟨x,H1,I1,r1,q1⟩=>chain_link (thn (hb pins s1 σ H1 _ I1 q1) λu s2 ⟨y,H2,I2,r2,q2⟩=>
  thn (ho pins s2 σ H2 x y v u _ I2 r1 r2 q2) λd s3 ⟨z,H3,I3,r3,k,e,q3⟩=>?_)) hm
 subst e;cases r3;refine bI ?_;cases k with
 |false=>exact ite_ff ⟨.bl false,H3,I3,rfl,q3⟩
 |true=>
  refine ite_tt (chain_link (thn (hc pins s3 σ H3 _ I3 q3) λw' s4 ⟨z',H4,I4,r4,q4⟩=>thn (ho' pins s4 σ H4 y z' u w' _ I4 r2 r4 q4) λd' s5 ⟨z2,H5,I5,r5,k2,e2,q5⟩=>?_));subst e2;cases r5;refine bI ?_;cases k2 with
  |false=>exact ite_ff ⟨.bl false,H5,I5,rfl,q5⟩
  |true=>exact ite_tt (chain_last (thn (hd pins s5 σ H5 _ I5 q5) λw'' s6 ⟨z3,H6,I6,r6,q6⟩=>ho'' pins s6 σ H6 z' z3 w' w'' Q I6 r4 r6 q6))
noncomputable def vZ(K:aB):R2:=λx y H Q=>∃a b xs ys,x=.ref a/\y=.ref b/\SqT K H a xs/\SqT K H b ys/\xs.length+ys.length<=aX /\
 (xs=[]->Q (.ref b) H)/\(xs≠[]->ys=[]->Q (.ref a) H)/\(xs≠[]->ys≠[]->∀p,H p=none->Q (.ref p) (upd H p (.tup (xs++ys))))
theorem oH:OpR X (bC .Add) (vZ X.K):=by
 intro pins s σ H x y v u Q I rx ry h;obtain⟨a,b,xs,ys,rfl,rfl,ha,hb,hz,q0,q1,q2⟩:=h;by_cases hx:xs=[]
 ·subst hx;cases rx;cases ry;obtain⟨its,r1,p1,_⟩:=I.tuple ha;obtain⟨its2,r2,p2,_⟩:=I.tuple hb;cases r1;obtain⟨⟨cls,dd,data,sl⟩,ho,hc,n,hd⟩:=id p1;obtain⟨⟨cls2,dd2,data2,sl2⟩,ho2,hc2,n2,hd2⟩:=id p2;simp only at hc hd hc2 hd2;subst hc hd hc2 hd2;exact concat_meets ⟨_,ho,rfl⟩ ⟨_,ho2,rfl⟩ noFill_tuple_add seq_tuple_add PySem.F.slot_tuple_add PySem.F.entry_tuple_add (PySem.F.args_tuple_add_2 _ _)
   (tuple_addW0 a b _ its2.toArray n n2 dd dd2 sl sl2 (by simp)) ⟨ho,ho2,⟨.ref b,H,I,rfl,q0 rfl⟩⟩
 ·exact tZ pins s σ H (.ref a) (.ref b) v u Q I rx ry ⟨a,b,xs,ys,rfl,rfl,ha,hb,hx,hz,q1 hx,q2 hx⟩
theorem kZ{vs:List ae}{ns:List Int}(h:bf vs ns):Vals (ns.map V.int) vs:=by
 induction h with
 |nil=>exact .nil
 |cons n t _ ih=>exact .cons ⟨t,rfl⟩ ih
noncomputable def ph(K:aB):List V->Hp->VK->Prop:=λvs H Q=>∃(l:Addr) (ns:List Int),vs=[.ref l]/\SqL K H l (ns.map V.int)/\ns.length<64/\∀(D:Addr) (ms:List Int),H D=none->ms.Perm ns->ms.Pairwise (·<=·)->Q (.ref D) (upd H D (.lst (ms.map V.int)))
theorem vM:zd X (.builtin "sorted") (ph X.K):=by
 intro pins s σ H xs us Q I r h;obtain⟨l,ns,rfl,hl,h64,q⟩:=h;obtain⟨u,rfl,ru⟩:=r.one;cases ru;obtain⟨its,rv,pl,hz⟩:=I.list hl;obtain⟨m,F⟩:=I.fr;refine PySem.W.kso_sorted F (ye (g:=X.base) (h:=s.heap) (L:=X.env.locals)) pl.isList (intsAre_of rv) h64 λD vs' ns' c h' F' N' hlt hi he hp ho _=>?_
 have keep:∀b o,b≠X.env.locals->s.heap.get? b=some o->h'.get? b=some o:=λb o hb e=>by
  cases qb:X.base.get? b with
  |some ob=>have:=I.bk b ob qb;rw[e]at this;cases this;exact F'.keep b _ qb
  |none=>exact(N' (b,o) (aS _ (mq hb qb e))).1
 have hDn:=N' (D,_) aW;have hD0:s.heap.get? D=none:=by
  cases qd:s.heap.get? D with
  |none=>rfl
  |some o=>exact absurd (hlt (D,o) (mq hDn.2.1 hDn.2.2 qd)) (bL _)
 refine⟨.ref D,_,I.newList (s':={s with heap:=h'}) (c:=c) rfl rfl keep (λm' hm'=>?_) hD0 hDn.2.1 hDn.1 (kZ hi) (by rw[aZ,he,bw];lia),rfl,q D ns' (I.hok.free_of hD0) hp ho⟩;rw[sC hm' F.ns];exact F'.ns
end
end L2
namespace L2
open PySem PySem.Spec PyProof.Rows PySem.SeqAt
mutual
inductive du(K:aB)(H:Hp):V->PyData->Prop
 |non:du K H .non .none
 |bl (b:Bool):du K H (.bl b) (.bool b)
 |int (i:Int):du K H (.int i) (.int i)
 |str (x:Str):du K H (.str x) (.str x)
 |lst {a:Addr}{xs:List V}{ds:List PyData}:SqL K H a xs->eO K H xs ds->du K H (.ref a) (.list ds)
 |tup {a:Addr}{xs:List V}{ds:List PyData}:SqT K H a xs->eO K H xs ds->du K H (.ref a) (.tuple ds)
inductive eO(K:aB)(H:Hp):List V->List PyData->Prop
 |nil:eO K H [] []
 |cons {x:V}{xs:List V}{d:PyData}{ds:List PyData}:du K H x d->eO K H xs ds->eO K H (x::xs) (d::ds)
end
section
variable{X:Cx}{pins:List (Addr×Obj)}{σ:St}{H:Hp}{s:af}
theorem Inv.reads(I:Inv X pins σ H s){x:V}{d:PyData}(h:du X.K H x d):∀{u:ae},RelV x u->∃as,Reads s.heap u d as:=
 h.rec (motive_1:=λx d _=>∀{u:ae},RelV x u->∃as,Reads s.heap u d as) (motive_2:=λxs ds _=>∀{us:List ae},Vals xs us->∃as,ReadsAll s.heap us ds as) (λr=>by cases r;exact⟨_,.none⟩) (λb _ r=>by cases r;exact⟨_,.bool b⟩) (λi _ r=>by obtain⟨t,rfl⟩:=r;exact⟨_,.int i t⟩) (λx _ r=>by obtain⟨t,rfl⟩:=r;exact⟨_,.str x t⟩)
  (λh _ g _ r=>by
   cases r;obtain⟨its,rv,pl,_⟩:=I.list h;obtain⟨as,ra⟩:=g rv;obtain⟨o,ho,hc,n,hd⟩:=pl.isList;exact⟨_,Reads.list ho hc hd (by simpa using ra)⟩)
  (λh _ g _ r=>by
   cases r;obtain⟨its,rv,pl,_⟩:=I.tuple h;obtain⟨as,ra⟩:=g rv;obtain⟨o,ho,hc,n,hd⟩:=pl;exact⟨_,Reads.tuple ho hc hd (by simpa using ra)⟩)
  (λr=>by cases r;exact⟨_,.nil⟩) (λ_ _ a b _ r=>by
   cases r with
   |cons r1 r2=>
    obtain⟨as,ra⟩:=a r1;obtain⟨bs,rb⟩:=b r2;exact⟨_,.cons ra rb⟩)
end
section
variable{X:Cx}
end
end L2
namespace L2
open PySem PySem.Spec PyProof.Rows
section
variable{lt:Nat->Nat->Bool}
noncomputable def Asc(lt:Nat->Nat->Bool)(p:Array Nat)(m:Nat):Prop:=∀i j,i<j->j<m->lt (p.getD j 0) (p.getD i 0)=false
end
section
variable{lt:Nat->Nat->Bool}
structure Part(lt:Nat->Nat->Bool)(p:Array Nat)(r:Nat×Array Nat):Prop where
 perm:r.2.Perm p
 size:r.2.size=p.size
 lo:1<=r.1
 hi:r.1<=p.size
 asc:Asc lt r.2 r.1
end
end L2
namespace HT
open PySem PySem.Spec PyProof.Rows L2
section
variable{prog:aA}{w:av}{A:az}{E:ae->af->Prop}{s:af}
end
end HT
namespace L2
open PySem PySem.Spec PyProof.Rows
section
variable{X:Cx}
end
noncomputable def ItS(lo:Int)(st:Int)(n:Nat):It:=⟨λi _=>i<n,λi H x H'=>H'=H/\x=.int (lo+i * st),λi _=>n<=i⟩
theorem t_{P:aA}{w:av}{K:aB}{tg:Expr}(it:Addr)(lo st:Int)(n:Nat):Turn P w K tg (ItS lo st n) [it] it (λi h=>IsRangeIter h it (lo+(i:Nat) * st) ((n:Int)-(i:Nat)) st) where
 mem:=by simp
 obj:=λi h st b hb=>by
  have e:b=it:=by simpa using hb
  subst e;exact⟨_,st,λv z=>by
   have z':Data.fields _=Data.cell v:=z;cases z'⟩
 keep:=λi h h' st k=>k it (by simp) _ st
 item:=by
  intro X hP hw hK hc i pins s σ H E I hf st' hg;subst hP hw hK;obtain⟨f0,f1,f2,f3,f4,f5⟩:=hf it (by simp);have W:=Walks.range (prog:=X.prog) (w:=X.w) (I.ok.hd hc) it lo st n;refine W.item i s _ _ hg st' λv h' tk hv st' kk=>?_
  obtain⟨t,rfl⟩:=hv;have I1:Inv X pins σ H {s with heap:=h',toks:=tk}:=I.turned (λb o hb e=>kk b o (by simpa using hb) e) f0 f1 f3 f4 f5;exact⟨_,rfl,gq (s:={s with heap:=h',toks:=tk}) (n:="range_iterator") st' rfl rfl (by decide) ⟨.int (lo+i * st),H,I1,⟨t,rfl⟩,⟨rfl,rfl⟩,st',λb hb=>(hf b hb).1⟩⟩
 done:=by
  intro X hP hw hK hc i pins s σ H E I hf st' hg;subst hP hw hK;obtain⟨f0,f1,f2,f3,f4,f5⟩:=hf it (by simp);exact wpAny_pyNext_range_end (I.ok.hd hc) st' (by have:n<=i:=hg;lia) λh' eb=>⟨rfl,I.turned (t':=s.toks) (λb o hb e=>eb b o hb e) f0 f1 f3 f4 f5⟩
 self:=λ_ _ _ _ _ st h=>wpAny_pyIter_rangeiter st h
noncomputable def zr(lo hi st:Int):Nat:=if lo<hi then ((hi-lo-1)/st+1).toNat else 0
theorem iP{lo hi st:Int}(h:0<st):cm lo hi st=(zr lo hi st:Nat):=by
 unfold cm zr;rw[if_pos h];split
 ·have:0<=(hi-lo-1)/st:=Int.ediv_nonneg (by lia) (by lia);lia
 ·rfl
theorem lz{lo hi st:Int}(h:0<st)(h1:-1000000<=lo)(h2:hi<=1000000):zr lo hi st<=2000001:=by
 unfold zr;split
 ·have:(hi-lo-1)/st<=hi-lo-1:=Int.ediv_le_self _ (by lia);lia
 ·lia
theorem lj{a b c:Int}(hc:0<c)(hc':c<=1000000)(ha:-1000000<=a)(ha':a<=1000000)(hb:-1000000<=b)(hb':b<=1000000):Builtin.Range.small a b c=true:=by
 have h1:=iP (lo:=a) (hi:=b) hc;have h2:=lz (lo:=a) (hi:=b) hc ha hb';unfold Builtin.Range.small;rw[h1];have hcc:(zr a b c:Int) * c<=4000000 * 1000000:=by
  have e1:(zr a b c:Int)<=4000000:=by lia
  exact Int.mul_le_mul e1 hc' (by lia) (by lia)
 have hc0:0<=(zr a b c:Int) * c:=Int.mul_nonneg (by lia) (by lia);simp only[Builtin.Range.rangeFitsLong,aM,b9,decide_eq_true_eq,beq_iff_eq,hc,if_true];generalize hm:(zr a b c:Int) * c=m at *;lia
section
variable{X:Cx}{tg:Expr}
theorem ua{pins:List (Addr×Obj)}{σ:St}{H:Hp}{s:af}{R:It->Hp->Prop}{E:ae->af->Prop}{lo hi st:Int}{t u v:Tok}{tk:Nat}(I:Inv X pins σ H s)(hst:0<st)(hsm:Builtin.Range.small lo hi st=true)
  (q:R (ItS lo st (zr lo hi st)) H):ak (ar X.prog X.w) X.A (pyIter (.ref s.heap.objs.size)) (PIE X pins σ tg R) E {s with heap:=s.heap.push {cls:=.type "range",data:=.fields #[.int lo t,.int hi u,.int st v]},toks:=tk}:=by
 refine wpAny_pyIter_range (IsRange.new ..) hsm ?_;have I1:Inv X pins σ H {s with heap:=s.heap.push {cls:=.type "range",data:=.fields #[.int lo t,.int hi u,.int st v]},toks:=tk}:=I.kept λb o e=>Heap.get?_push_of_some _ e
 refine⟨(s.heap.push {cls:=.type "range",data:=.fields #[.int lo t,.int hi u,.int st v]}).objs.size,[(s.heap.push {cls:=.type "range",data:=.fields #[.int lo t,.int hi u,.int st v]}).objs.size],_,_,H,rfl,
  I1.kept (t':=tk) λb o e=>Heap.get?_push_of_some _ e,t_ _ lo st (zr lo hi st),?_,λb hb=>?_,q⟩
 ·have e1:lo+((0:Nat):Int) * st=lo:=by simp
  have e2:((zr lo hi st:Nat):Int)-((0:Nat):Int)=cm lo hi st:=by rw[iP hst];lia
  show IsRangeIter _ _ (lo+((0:Nat):Int) * st) (((zr lo hi st:Nat):Int)-((0:Nat):Int)) st;rw[e1,e2];exact Heap.get?_push_size _ rfl
 ·have e:b=(s.heap.push {cls:=.type "range",data:=.fields #[.int lo t,.int hi u,.int st v]}).objs.size:=by simpa using hb
  subst e;exact I1.fpOk (aD _) (I1.hok.fresh (aD _))
noncomputable def nY(ta:TA):TI:=λσ H R=>ta σ H λvs H1=>∃i j k:Int,vs=[.int i,.int j,.int k]/\(-1000000<=i/\i<=1000000/\-1000000<=j/\j<=1000000/\0<k/\k<=1000000)/\R (ItS i k (zr i j k)) H1
theorem uZ{a b c:Expr}{ta:TA}{p pos:Pos}(hg:Gl X "range")(hm:X.mg "range" = none)(ha:PA X [a,b,c] ta)(hs:aR [a,b,c] X.env=(false,eval a X.env)::aR [b,c] X.env)(hs2:aR [b,c] X.env=[(false,eval b X.env),(false,eval c X.env)]) :
  PI X tg (.Call (.Name "range" p) [a,b,c] [] pos) (nY ta):=by
 intro pins s σ H R I h;refine Call_ (eU I hg hm boot_range (PyProof.Rows.callWith_type1 (thn (ha pos pins s σ H _ I h) λus s1 ⟨vs,H1,I1,r1,q1⟩=>?_) hs (by rw[hs2];rfl)));obtain⟨i,j,k,e,⟨q1,q2,q3,q4,q5,q6⟩,q⟩:=q1;subst e;cases r1 with
 |cons r rr=>
  cases rr with
  |cons r' rr=>
   cases rr with
   |cons r'' rr=>
    cases rr;obtain⟨t,rfl⟩:=r;obtain⟨t',rfl⟩:=r';obtain⟨t'',rfl⟩:=r'';exact call_range_3 (by lia) (ua I1 q5 (lj q5 q6 q1 q2 q3 q4) q) (.inl (PyProof.noPylong_small (by lia)))
end
noncomputable def fA(kX:Str->Option aO)(NX NY:List Str)(cap:List (Option Nat))(scope:aY):Bool:=
 (scope.kind==.function)&&(scope.names.all λy=>(y.2 != .cell||scope.names.lookup y.1==some .cell)&&(y.2 != .local||scope.names.lookup y.1==some .local)&&(y.2 != .free||kX y.1==some .cell||kX y.1==some .free)) &&
 (cap.length==NY.length)&&(a7 cap.length).all λi=>match cap[i]? with
  |some (some j)=>(match NY[i]?,NX[j]? with
   |some x,some y=>x==y&&scope.names.lookup x==some .free&&(kX x==some .cell||kX x==some .free)
   |_,_=>false)
  |_=>true
theorem zI.of{X:Cx}{NY:List Str}{cap:List (Option Nat)}{scope:aY}(h:fA X.env.kindOf X.N NY cap scope=true):zI X NY cap scope:=by
 unfold fA at h;simp only[aM,List.all_eq_true,beq_iff_eq]at h;obtain⟨⟨⟨h1,h2⟩,h3⟩,h4⟩:=h;refine⟨h1,λy hy e=>?_,λy hy e=>?_,λy hy e=>?_,h3,λi j hc=>?_⟩
 ·have:=(h2 y hy).1.1;rw[e]at this
  simpa using this
 ·have:=(h2 y hy).1.2;rw[e]at this
  simpa using this
 ·have:=(h2 y hy).2;rw[e]at this
  simpa using this
 ·have hi:i<cap.length:=(List.getElem?_eq_some_iff.mp hc).1;have:=h4 i (List.mem_range.mpr hi);rw[hc]at this;dsimp only at this;split at this
  ·rename_i x y e1 e2
   simp only[aM,beq_iff_eq,b9]at this;obtain⟨⟨e3,e4⟩,e5⟩:=this;subst e3;exact⟨x,e1,e2,e4,e5⟩
  ·cases this
end L2
namespace WB
open PySem PySem.Spec PyProof.Rows L2
section
variable{P:aA}{w:av}{K:aB}{mg:Str->Option ae}{base:Heap}{f g:Addr}{fd gd:bE}
theorem _root_.L2.Fun.ok1{x qual:Str}{st:Stmt}{f:Addr}{fd:bE}{N ps:List Str}{k:Nat}{sp:Sp}(F:Fun K x qual st f fd)(S:fU N ps (ze st))(len:∀vs H Q E,sp vs H Q E->vs.length=ps.length)
  (hbody:∀(cdv:ae) (A:az) (outer:List Env) (s:af) (H:Hp) (vs:List V) (Q:VK) (E:XK),bW k (A.deeper (envOfC qual (ze st) s.heap.objs.size f cdv))->sp vs H Q E ->
   ∃t,PSs (dH (CX1 P w) P w K mg base N qual (ze st) f cdv A outer s H E) (zQ st) t/\t {nx:=λ_ H'=>Q .non H',rt:=Q} (start N vs) H):dC P w K mg base (CX1 P w) (k+1) f fd ps sp:=by
 obtain⟨oc,od,kV,doc,pm,an,cdv,ct,osl,rfl,lk,hcd⟩:=F.ex;exact yj lk hcd S len λA outer s H vs Q E hr hsp=>hbody cdv A outer s H vs Q E hr hsp
end
noncomputable def yB(H:Hp)(ps:List Addr)(ks:List (Int×Int)):Prop:=ps.length=ks.length/\∀(i:Nat) p k,ps[i]? = some p->ks[i]? = some k->H p=some (.tup [.int k.1,.int k.2])
structure Built(H0:Hp)(acc:Addr)(ks:List (Int×Int))(H:Hp):Prop where
 ex:∃ps:List Addr,H acc=some (.lst (ps.map V.ref))/\yB H ps ks
 same:∀b o,b≠acc->H0 b=some o->H b=some o
end WB
set_option genSizeOf false
set_option genSizeOfSpec false
namespace EV
open PySem L2
inductive D where
 |non|bl (b:Bool)|int (i:Int)|str (x:Str)|tup (xs:List D)|lst (xs:List D)|fn (x:Str)|exn (c:Str)|dic
inductive R(α:Type) where
 |ok (a:α)|ex (c:Str)|no
noncomputable def R.bind{α β:Type}:R α->(α->R β)->R β
 | .ok a,f=>f a
 | .ex c,_=>.ex c
 | .no,_=>.no
@[simp] theorem R.bind_ok{α β:Type}(a:α)(f:α->R β):(R.ok a).bind f=f a:=rfl
@[simp] theorem R.bind_ex{α β:Type}(c:Str)(f:α->R β):(R.ex c:R α).bind f=.ex c:=rfl
@[simp] theorem R.bind_no{α β:Type}(f:α->R β):(R.no:R α).bind f=.no:=rfl
inductive O2 where
 |add|sub|mul|fdiv|mod|pow|shl|shr|band|bor|bxor
 deriving DecidableEq
inductive C2 where
 |eq|ne|lt|le|gt|ge|isin|notin|is|isnot
 deriving DecidableEq
inductive B1 where
 |len|tuple|list|sorted|all|any|sum|min|max|abs|int|bool
 deriving DecidableEq
inductive Cl where
 |ty (n:String)|ex (x:Str)
 deriving DecidableEq
inductive Tg where
 |nm (i:Nat)|tp (is:List Nat)
mutual
inductive E where
 |var (i:Nat)|own (i:Nat)|con (d:D)|glb (x:Str)|fnv (x:Str)
 |op (o:O2) (a b:E)|neg (a:E)|inv (a:E)|not (a:E)|and (a b:E)|or (a b:E)
 |cmp (c:C2) (a b:E)|cmp2 (c c':C2) (a b d:E)|cmp3 (c c' c'':C2) (a b d e:E)
 |ite (t:T) (a b:E)
 |tup (es:Es)|lst (es:Es)
 |ix (a b:E)|sl (a:E) (lo hi:OE)
 |call (f:Str) (es:Es)|callE (f:E) (es:Es)
 |bi (b:B1) (es:Es)
 |rtup (a:It)|rlst (a:It)
 |isi (a:E) (c:Cl)
 |comp (it:It) (cap:List (Option Nat)) (tg:Tg) (t:T) (elt:E)
 |mth (ix:Bool) (a:E)
 |cnt (a b:E)
 |mxk (mx:Bool) (a:E)
 |dic
 |callo (f:Str) (es:Es)
 |comp2 (it:It) (cap:List (Option Nat)) (tg:Tg) (it2:It) (tg2:Tg) (t:T) (elt:E)
 |fst2 (t0:Str) (a:E) (t1:Str) (b:E) (t2:Str)
 |sset (ln:Bool) (a:E)
 |rev (a:E)
inductive OE where
 |none|some (e:E)
inductive Es where
 |nil|cons (e:E) (es:Es)
inductive It where
 |seq (e:E)|rng (a:E)|rng2 (a b:E)|enum (e:E)|zip (a b:E)|rng3 (a b k:E)
inductive T where
 |yes|val (e:E)|cmp (c:C2) (a b:E)|cmp2 (c c':C2) (a b d:E)|and (a b:T)|or (a b:T)|not (a:T)
end
noncomputable def SZ:Nat:=1000000
noncomputable def small(j:Int):Bool:=decide (-(2^64)<j)&&decide (j<2^64)
noncomputable def opI:O2->Int->Int->R D
 | .add,i,j=>.ok (.int (i+j))
 | .sub,i,j=>.ok (.int (i-j))
 | .mul,i,j=>if small i||small j then .ok (.int (i * j))else .no
 | .fdiv,i,j=>if 0<j/\j<1000000000000000000000000000000 then .ok (.int (i/j))else .no
 | .mod,i,j=>if 0<j then .ok (.int (i%j))else .no
 | .pow,i,j=>if 0<=j/\j<=1000000/\i.natAbs<2^64 then .ok (.int (i^j.toNat))else .no
 | .shl,i,j=>if 0<=j/\j<=1000000/\i.natAbs<2^64 then .ok (.int (i * 2^j.toNat))else .no
 | .shr,i,j=>if 0<=j then .ok (.int (i/2^j.toNat))else .no
 | .band,i,j=>.ok (.int (Builtin.bitAnd i j))
 | .bor,i,j=>.ok (.int (Builtin.bitOr i j))
 | .bxor,i,j=>.ok (.int (Builtin.bitXor i j))
noncomputable def lQ:D->Bool
 | .lst _=>true
 |_=>false
noncomputable def op2(o:O2):D->D->R D
 | .int i,.int j=>opI o i j
 | .tup xs,.tup ys=>if o=.add/\xs.length+ys.length<=SZ then .ok (.tup (xs++ys))else .no
 | .lst xs,.lst ys=>if o=.add/\xs.length+ys.length<=SZ then .ok (.lst (xs++ys))else .no
 |_,_=>.no
mutual
noncomputable def D.plain:D->Bool
 | .non=>true
 | .bl _=>true
 | .int _=>true
 | .str x=>PyData.strOk x
 | .tup xs=>plainAll xs
 | .lst xs=>plainAll xs
 | .fn _=>false
 | .exn _=>false
 | .dic=>false
noncomputable def plainAll:List D->Bool
 | []=>true
 |x::xs=>x.plain&&plainAll xs
end
mutual
noncomputable def D.deep:D->Nat
 | .tup xs=>dY xs+1
 | .lst xs=>dY xs+1
 |_=>0
noncomputable def dY:List D->Nat
 | []=>0
 |x::xs=>max x.deep (dY xs)
end
mutual
noncomputable def D.eqv:D->D->Bool
 | .non,.non=>true
 | .bl a,.bl b=>a==b
 | .bl a,.int j=>(if a then 1 else 0)==j
 | .int i,.bl b=>i==(if b then 1 else 0)
 | .int i,.int j=>i==j
 | .str x,.str y=>x==y
 | .tup xs,.tup ys=>eqvAll xs ys
 | .lst xs,.lst ys=>eqvAll xs ys
 |_,_=>false
noncomputable def eqvAll:List D->List D->Bool
 | [],[]=>true
 |x::xs,y::ys=>x.eqv y&&eqvAll xs ys
 |_,_=>false
end
noncomputable def D.asks(d:D):Bool:=d.plain&&decide (d.deep<=20)
mutual
noncomputable def D.noL:D->Bool
 | .non=>true
 | .bl _=>true
 | .int _=>true
 | .str _=>true
 | .tup xs=>kH xs
 |_=>false
noncomputable def kH:List D->Bool
 | []=>true
 |x::xs=>x.noL&&kH xs
end
noncomputable def ints?:List D->Option (List Int)
 | []=>some []
 | .int i::r=>(ints? r).map (i :: ·)
 |_=>none
noncomputable def bools?:List D->Option (List Bool)
 | []=>some []
 | .bl i::r=>(bools? r).map (i :: ·)
 |_=>none
noncomputable def seq?:D->Option (List D)
 | .tup xs=>some xs
 | .lst xs=>some xs
 |_=>none
noncomputable def dO:List Int->List Int->Bool
 | [],[]=>false
 | [],_::_=>true
 |_::_,[]=>false
 |a::r,b::t=>if a=b then dO r t else decide (a<b)
noncomputable def fk(c:C2)(i j:Int):Option Bool:=
 match c with
 | .lt=>some (decide (i<j))
 | .le=>some (decide (i<=j))
 | .gt=>some (decide (j<i))
 | .ge=>some (decide (j<=i))
 | .eq=>some (decide (i=j))
 | .ne=>some (!decide (i=j))
 |_=>none
noncomputable def inD(x:D)(xs:List D):Bool:=xs.any λy=>y.eqv x
noncomputable def fo:D->Bool
 | .non=>true
 |_=>false
noncomputable def isB(n:Bool):D->D->R Bool
 | .bl a,.bl b=>.ok (n != (a==b))
 |_,_=>.no
noncomputable def qh:C2->D->D->R Bool
 | .is,a,b=>if fo b then .ok (fo a)else isB false a b
 | .isnot,a,b=>if fo b then .ok (!fo a)else isB true a b
 | .isin,a,b=>match seq? b with
  |some xs=>if a.asks&&xs.all D.asks then .ok (inD a xs)else .no
  |none=>.no
 | .notin,a,b=>match seq? b with
  |some xs=>if a.asks&&xs.all D.asks then .ok (!inD a xs)else .no
  |none=>.no
 | .eq,a,b=>if a.asks&&b.asks then .ok (a.eqv b)else .no
 | .ne,a,b=>if a.asks&&b.asks then .ok (!a.eqv b)else .no
 | .lt,.tup xs,.tup ys=>match ints? xs,ints? ys with
  |some ns,some ms=>.ok (dO ns ms)
  |_,_=>.no
 |c,.int i,.int j=>match fk c i j with
  |some b=>.ok b
  |none=>.no
 |_,_,_=>.no
noncomputable def truth:D->R Bool
 | .non=>.ok false
 | .bl b=>.ok b
 | .int i=>.ok (i != 0)
 | .tup xs=>.ok (!xs.isEmpty)
 | .lst xs=>.ok (!xs.isEmpty)
 |_=>.no
noncomputable def ixD:D->D->R D
 | .tup xs,.int i=>match atI xs i with|some d=>.ok d|none=>.no
 | .lst xs,.int i=>match atI xs i with|some d=>.ok d|none=>.no
 |_,_=>.no
noncomputable def cutD(xs:List D)(lo hi:Option Int):List D:=(xs.drop (HT.sIx xs.length 0 lo)).take (HT.sIx xs.length xs.length hi-HT.sIx xs.length 0 lo)
noncomputable def slD:D->Option Int->Option Int->R D
 | .lst xs,lo,hi=>.ok (.lst (cutD xs lo hi))
 |_,_,_=>.no
noncomputable def insI(i:Int):List Int->List Int
 | []=>[i]
 |j::r=>if i<=j then i::j::r else j::insI i r
noncomputable def sortI:List Int->List Int
 | []=>[]
 |i::r=>insI i (sortI r)
noncomputable def pairD(p:Int×Int):D:=.tup [.int p.1,.int p.2]
noncomputable def eD(d:D)(k:List D->R D):R D:=match d with | .lst xs=>k xs|_=>.no
noncomputable def iiR(d e:D)(k:Int->Int->R D):R D:=match d,e with | .int i,.int j=>k i j|_,_=>.no
noncomputable def cg{α β:Type}(o:Option α)(k:α->R β):R β:=match o with|some a=>k a|none=>.no
noncomputable def b11(b:B1)(d:D):R D:=match b with
 | .len=>cg (seq? d) λxs=>.ok (.int xs.length)
 | .tuple=>cg (seq? d) λxs=>.ok (.tup xs)
 | .list=>cg (seq? d) λxs=>.ok (.lst xs)
 | .all=>eD d λxs=>cg (bools? xs) λbs=>.ok (.bl (bs.all id))
 | .any=>eD d λxs=>cg (bools? xs) λbs=>.ok (.bl (bs.any id))
 | .sorted=>.no
 | .abs=>.no
 | .int=>.no
 | .bool=>.no
 | .min=>.no
 | .max=>.no
 | .sum=>.no
noncomputable def b12(b:B1)(d e:D):R D:=match b with
 | .min=>iiR d e λi j=>.ok (.int (if j<i then j else i))
 | .max=>iiR d e λi j=>.ok (.int (if j>i then j else i))
 |_=>.no
noncomputable def uq{α:Type} [DecidableEq α]:List α->List α
 | []=>[]
 |a::l=>if a∈l then uq l else a::uq l
noncomputable def dZ(ln:Bool)(d:D):R D:=cg (seq? d) λxs=>if xs.length<1200 then (match ints? xs with
 |some ns=>if ln then .ok (.int ((uq ns).length:Nat))else .ok (.lst ((sortI (uq ns)).map D.int))
 |none=>.no)else .no
noncomputable def b1(b:B1):List D->R D
 | [d]=>b11 b d
 | [d,e]=>b12 b d e
 |_=>.no
noncomputable def tyD:D->Option String
 | .non=>some "NoneType"
 | .bl _=>some "bool"
 | .int _=>some "int"
 | .str _=>some "str"
 | .tup _=>some "tuple"
 | .lst _=>some "list"
 | .dic=>some "dict"
 |_=>none
noncomputable def zy(lo:Int)(n:Nat):List D:=(a7 n).map λ(i:Nat)=>.int (lo+(i:Int))
noncomputable def dI(lo st:Int)(n:Nat):List D:=(a7 n).map λ(i:Nat)=>.int (lo+(i:Int) * st)
noncomputable def qf(j:Int):Bool:=decide (-1000000<=j)&&decide (j<=1000000)
abbrev Env:=List (Option D)
structure W where
 call:Str->List D->R D
 glb:Str->Option D
 sub:Str->Cl->Option Bool
 cat:Str->Str->Bool
noncomputable def cx(w:W)(x:D)(c:Cl):R D:=match tyD x,c with
 |some t,.ty n=>if n = "ValueError" then .no else .ok (.bl (eJ t n))
 |_,_=>.no
noncomputable def zR(τ:Env)(i:Nat):R D:=match τ[i]? with
 |some (some d)=>.ok d
 |_=>.no
noncomputable def setAll:List Nat->List D->Env->R Env
 | [],[],τ=>.ok τ
 |i::is,d::ds,τ=>setAll is ds (τ.set i (some d))
 |_,_,_=>.no
noncomputable def store:Tg->D->Env->R Env
 | .nm i,d,τ=>.ok (τ.set i (some d))
 | .tp is,.tup ds,τ=>if ds.length=is.length then setAll is ds τ else .no
 |_,_,_=>.no
noncomputable def dE(cap:List (Option Nat))(τ:Env):Env:=cap.map λo=>o.bind λj=>(τ[j]?).join
noncomputable def noEx{α:Type}:R α->R α
 | .ok a=>.ok a
 |_=>.no
noncomputable def zJ(body:D->Env->R (Env×List D)):List D->Env->List D->R (List D)
 | [],_,acc=>.ok acc
 |x::r,τ,acc=>(body x τ).bind λp=>zJ body r p.1 (acc++p.2)
mutual
noncomputable def evE(w:W):E->Env->R D
 | .var i,τ=>zR τ i
 | .own i,τ=>zR τ i
 | .con d,_=>.ok d
 | .glb x,_=>match w.glb x with|some d=>.ok d|none=>.no
 | .fnv x,_=>.ok (.fn x)
 | .op o a b,τ=>(evE w a τ).bind λx=>(evE w b τ).bind λy=>op2 o x y
 | .neg a,τ=>(evE w a τ).bind λx=>match x with | .int i=>.ok (.int (-i))|_=>.no
 | .inv a,_=>.no
 | .not a,τ=>(evE w a τ).bind λx=>match x with | .bl b=>.ok (.bl (!b))|_=>.no
 | .and a b,τ=>(evE w a τ).bind λx=>match x with | .bl true=>evE w b τ | .bl false=>.ok (.bl false)|_=>.no
 | .or a b,τ=>(evE w a τ).bind λx=>match x with | .bl true=>.ok (.bl true) | .bl false=>evE w b τ|_=>.no
 | .cmp c a b,τ=>(evE w a τ).bind λx=>(evE w b τ).bind λy=>(qh c x y).bind λr=>.ok (.bl r)
 | .cmp2 c c' a b d,τ=>(evE w a τ).bind λx=>(evE w b τ).bind λy=>(qh c x y).bind λr=>if r then (evE w d τ).bind λz=>(qh c' y z).bind λr'=>.ok (.bl r')else .ok (.bl false)
 | .cmp3 c c' c'' a b d e,τ=>(evE w a τ).bind λx=>(evE w b τ).bind λy=>(qh c x y).bind λr=>if r then (evE w d τ).bind λz=>(qh c' y z).bind λr'=>if r' then (evE w e τ).bind λu=>(qh c'' z u).bind λr''=>.ok (.bl r'')else .ok (.bl false)else .ok (.bl false)
 | .ite t a b,τ=>(evT w t τ).bind λr=>if r then evE w a τ else evE w b τ
 | .tup es,τ=>(zu w es τ).bind λds=>.ok (.tup ds)
 | .lst es,τ=>(zu w es τ).bind λds=>.ok (.lst ds)
 | .ix a b,τ=>(evE w a τ).bind λx=>(evE w b τ).bind λy=>ixD x y
 | .sl a lo hi,τ=>(evE w a τ).bind λx=>(evO w lo τ).bind λl=>(evO w hi τ).bind λh=>slD x l h
 | .call f es,τ=>(zu w es τ).bind λds=>w.call f ds
 | .callE f es,τ=>(evE w f τ).bind λx=>match x with | .fn g=>(zu w es τ).bind λds=>w.call g ds|_=>.no
 | .bi b es,τ=>(zu w es τ).bind λds=>b1 b ds
 | .rtup a,τ=>(evI w a τ).bind λds=>.ok (.tup ds)
 | .rlst a,τ=>(evI w a τ).bind λds=>.ok (.lst ds)
 | .isi a c,τ=>(evE w a τ).bind λx=>cx w x c
 | .comp it cap tg t elt,τ=>(evI w it τ).bind λds=>if SZ<ds.length then .no else (zJ (λx σ=>noEx ((store tg x σ).bind λσ'=>(evT w t σ').bind λr=>if r then (evE w elt σ').bind λd=>.ok (σ',[d])else .ok (σ',[]))) ds (dE cap τ) []).bind λout=>.ok (.lst out)
 | .mth ix a,_=>.no
 | .cnt a b,_=>.no
 | .mxk mx a,_=>.no
 | .dic,_=>.ok .dic
 | .callo f es,_=>.no
 | .comp2 it cap tg it2 tg2 t elt,_=>.no
 | .fst2 t0 a t1 b t2,_=>.no
 | .sset ln a,τ=>(evE w a τ).bind (dZ ln)
 | .rev a,_=>.no
noncomputable def evO(w:W):OE->Env->R (Option Int)
 | .none,_=>.ok none
 | .some e,τ=>(evE w e τ).bind λx=>match x with | .int i=>.ok (some i)|_=>.no
noncomputable def zu(w:W):Es->Env->R (List D)
 | .nil,_=>.ok []
 | .cons e es,τ=>(evE w e τ).bind λd=>(zu w es τ).bind λds=>.ok (d::ds)
noncomputable def evI(w:W):It->Env->R (List D)
 | .seq e,τ=>(evE w e τ).bind λx=>match seq? x with|some xs=>.ok xs|none=>.no
 | .rng a,τ=>(evE w a τ).bind λx=>match x with | .int j=>if qf j then .ok (zy 0 j.toNat)else .no|_=>.no
 | .rng2 a b,τ=>(evE w a τ).bind λx=>(evE w b τ).bind λy=>match x,y with | .int i,.int j=>if qf i&&qf j then .ok (zy i (j-i).toNat)else .no|_,_=>.no
 | .enum e,_=>.no
 | .zip a b,_=>.no
 | .rng3 a b k,τ=>(evE w a τ).bind λx=>(evE w b τ).bind λy=>(evE w k τ).bind λz=>match x with
  | .int i=>(match y with
   | .int j=>(match z with
    | .int l=>if qf i&&qf j&&(decide (0<l)&&qf l)then .ok (dI i l (L2.zr i j l))else .no
    |_=>.no)
   |_=>.no)
  |_=>.no
noncomputable def evT(w:W):T->Env->R Bool
 | .yes,_=>.ok true
 | .val e,τ=>(evE w e τ).bind λx=>truth x
 | .cmp c a b,τ=>(evE w a τ).bind λx=>(evE w b τ).bind λy=>qh c x y
 | .cmp2 c c' a b d,τ=>(evE w a τ).bind λx=>(evE w b τ).bind λy=>(qh c x y).bind λr=>if r then (evE w d τ).bind λz=>qh c' y z else .ok false
 | .and a b,τ=>(evT w a τ).bind λr=>if r then evT w b τ else .ok false
 | .or a b,τ=>(evT w a τ).bind λr=>if r then .ok true else evT w b τ
 | .not a,τ=>(evT w a τ).bind λr=>.ok (!r)
end
theorem qU:∀{w i τ},@Eq (R D) (evE w (.var i) τ) (zR τ i):=rfl
theorem qX:∀{w i τ},@Eq (R D) (evE w (.own i) τ) (zR τ i):=rfl
theorem qV:∀{w d τ},@Eq (R D) (evE w (.con d) τ) (.ok d):=rfl
theorem za:∀{w x τ},@Eq (R D) (evE w (.glb x) τ) (match w.glb x with|some d=>.ok d|none=>.no):=rfl
theorem qW:∀{w x τ},@Eq (R D) (evE w (.fnv x) τ) (.ok (.fn x)):=rfl
theorem zb:∀{w o a b τ},@Eq (R D) (evE w (.op o a b) τ) ((evE w a τ).bind λx=>(evE w b τ).bind λy=>op2 o x y):=rfl
theorem qZ:∀{w a τ},@Eq (R D) (evE w (.neg a) τ) ((evE w a τ).bind λx=>match x with | .int i=>.ok (.int (-i))|_=>.no):=rfl
theorem zc:∀{w a τ},@Eq (R D) (evE w (.inv a) τ) (.no):=rfl
theorem qY:∀{w a τ},@Eq (R D) (evE w (.not a) τ) ((evE w a τ).bind λx=>match x with | .bl b=>.ok (.bl (!b))|_=>.no):=rfl
theorem qt:∀{w a b τ},@Eq (R D) (evE w (.and a b) τ) ((evE w a τ).bind λx=>match x with | .bl true=>evE w b τ | .bl false=>.ok (.bl false)|_=>.no):=rfl
theorem qz:∀{w a b τ},@Eq (R D) (evE w (.or a b) τ) ((evE w a τ).bind λx=>match x with | .bl true=>.ok (.bl true) | .bl false=>evE w b τ|_=>.no):=rfl
theorem qs:∀{w c a b τ},@Eq (R D) (evE w (.cmp c a b) τ) ((evE w a τ).bind λx=>(evE w b τ).bind λy=>(qh c x y).bind λr=>.ok (.bl r)):=rfl
theorem qw:∀{w c c' a b d τ},@Eq (R D) (evE w (.cmp2 c c' a b d) τ) ((evE w a τ).bind λx=>(evE w b τ).bind λy=>(qh c x y).bind λr=>if r then (evE w d τ).bind λz=>(qh c' y z).bind λr'=>.ok (.bl r')else .ok (.bl false)):=rfl
theorem qu:∀{w c c' c'' a b d e τ},@Eq (R D) (evE w (.cmp3 c c' c'' a b d e) τ) ((evE w a τ).bind λx=>(evE w b τ).bind λy=>(qh c x y).bind λr=>if r then (evE w d τ).bind λz=>(qh c' y z).bind λr'=>if r' then (evE w e τ).bind λu=>(qh c'' z u).bind λr''=>.ok (.bl r'')else .ok (.bl false)else .ok (.bl false)):=rfl
theorem qi:∀{w t a b τ},@Eq (R D) (evE w (.ite t a b) τ) ((evT w t τ).bind λr=>if r then evE w a τ else evE w b τ):=rfl
theorem qD:∀{w es τ},@Eq (R D) (evE w (.tup es) τ) ((zu w es τ).bind λds=>.ok (.tup ds)):=rfl
theorem qB:∀{w es τ},@Eq (R D) (evE w (.lst es) τ) ((zu w es τ).bind λds=>.ok (.lst ds)):=rfl
theorem qA:∀{w a b τ},@Eq (R D) (evE w (.ix a b) τ) ((evE w a τ).bind λx=>(evE w b τ).bind λy=>ixD x y):=rfl
theorem qx:∀{w a lo hi τ},@Eq (R D) (evE w (.sl a lo hi) τ) ((evE w a τ).bind λx=>(evO w lo τ).bind λl=>(evO w hi τ).bind λh=>slD x l h):=rfl
theorem qy:∀{w f es τ},@Eq (R D) (evE w (.call f es) τ) ((zu w es τ).bind λds=>w.call f ds):=rfl
theorem qC:∀{w f es τ},@Eq (R D) (evE w (.callE f es) τ) ((evE w f τ).bind λx=>match x with | .fn g=>(zu w es τ).bind λds=>w.call g ds|_=>.no):=rfl
theorem qo:∀{w b es τ},@Eq (R D) (evE w (.bi b es) τ) ((zu w es τ).bind λds=>b1 b ds):=rfl
theorem qq:∀{w a τ},@Eq (R D) (evE w (.rtup a) τ) ((evI w a τ).bind λds=>.ok (.tup ds)):=rfl
theorem qP:∀{w a τ},@Eq (R D) (evE w (.rlst a) τ) ((evI w a τ).bind λds=>.ok (.lst ds)):=rfl
theorem qE:∀{w a c τ},@Eq (R D) (evE w (.isi a c) τ) ((evE w a τ).bind λx=>cx w x c):=rfl
theorem qr:∀{w it cap tg t elt τ},@Eq (R D) (evE w (.comp it cap tg t elt) τ) ((evI w it τ).bind λds=>if SZ<ds.length then .no else (zJ (λx σ=>noEx ((store tg x σ).bind λσ'=>(evT w t σ').bind λr=>if r then (evE w elt σ').bind λd=>.ok (σ',[d])else .ok (σ',[]))) ds (dE cap τ) []).bind λout=>.ok (.lst out)):=rfl
theorem qJ:∀{w ix a τ},@Eq (R D) (evE w (.mth ix a) τ) (.no):=rfl
theorem qM:∀{w a b τ},@Eq (R D) (evE w (.cnt a b) τ) (.no):=rfl
theorem qN:∀{w mx a τ},@Eq (R D) (evE w (.mxk mx a) τ) (.no):=rfl
theorem qO:∀{w τ},@Eq (R D) (evE w (.dic) τ) (.ok .dic):=rfl
theorem qI:∀{w f es τ},@Eq (R D) (evE w (.callo f es) τ) (.no):=rfl
theorem qL:∀{w it cap tg it2 tg2 t elt τ},@Eq (R D) (evE w (.comp2 it cap tg it2 tg2 t elt) τ) (.no):=rfl
theorem qK:∀{w t0 a t1 b t2 τ},@Eq (R D) (evE w (.fst2 t0 a t1 b t2) τ) (.no):=rfl
theorem qp:∀{w ln a τ},@Eq (R D) (evE w (.sset ln a) τ) ((evE w a τ).bind (dZ ln)):=rfl
theorem qH:∀{w a τ},@Eq (R D) (evE w (.rev a) τ) (.no):=rfl
theorem et:∀{w τ},@Eq (R Bool) (evT w (.yes) τ) (.ok true):=rfl
theorem dX:∀{w e τ},@Eq (R Bool) (evT w (.val e) τ) ((evE w e τ).bind λx=>truth x):=rfl
theorem ej:∀{w c a b τ},@Eq (R Bool) (evT w (.cmp c a b) τ) ((evE w a τ).bind λx=>(evE w b τ).bind λy=>qh c x y):=rfl
theorem dM:∀{w c c' a b d τ},@Eq (R Bool) (evT w (.cmp2 c c' a b d) τ) ((evE w a τ).bind λx=>(evE w b τ).bind λy=>(qh c x y).bind λr=>if r then (evE w d τ).bind λz=>qh c' y z else .ok false):=rfl
theorem d_:∀{w a b τ},@Eq (R Bool) (evT w (.and a b) τ) ((evT w a τ).bind λr=>if r then evT w b τ else .ok false):=rfl
theorem ef:∀{w a b τ},@Eq (R Bool) (evT w (.or a b) τ) ((evT w a τ).bind λr=>if r then .ok true else evT w b τ):=rfl
theorem er:∀{w a τ},@Eq (R Bool) (evT w (.not a) τ) ((evT w a τ).bind λr=>.ok (!r)):=rfl
mutual
inductive S where
 |set (tg:Tg) (e:E)
 |app (i:Nat) (e:E)
 |seti (i:Nat) (k e:E)
 |exp (e:E)
 |ret (e:E)|retN
 |ite (t:T) (a b:Ss)
 |for (tg:Tg) (it:It) (b:Ss)
 |while (t:T) (b:Ss)
 |raise (c:Str) (es:Es)
 |try (b:Ss) (c:Str) (i:Option Nat) (h:Ss)
 |ins (i:Nat) (k e:E)
 |pass|brk|cnt|unk
 |par (i j:Nat) (a b:E)
 |par3 (i j k:Nat) (a b c:E)
inductive Ss where
 |nil|cons (s:S) (r:Ss)
end
inductive O where
 |nx (τ:Env)|rt (d:D)|bk (τ:Env)|ct (τ:Env)|ex (c:Str)|no
noncomputable def R.out{α:Type}:R α->(α->O)->O
 | .ok a,f=>f a
 | .ex c,_=>.ex c
 | .no,_=>.no
@[simp] theorem R.out_ok{α:Type}(a:α)(f:α->O):(R.ok a).out f=f a:=rfl
@[simp] theorem R.out_ex{α:Type}(c:Str)(f:α->O):(R.ex c:R α).out f=.ex c:=rfl
@[simp] theorem R.out_no{α:Type}(f:α->O):(R.no:R α).out f=.no:=rfl
noncomputable def cR(tg:Tg)(body:Env->O):List D->Env->O
 | [],τ=>.nx τ
 |x::r,τ=>(store tg x τ).out λτ'=>match body τ' with
  | .nx σ=>cR tg body r σ
  | .ct σ=>cR tg body r σ
  | .bk σ=>.nx σ
  |o=>o
noncomputable def O.noEx:O->O
 | .ex _=>.no
 |o=>o
mutual
noncomputable def evS(w:W):S->Env->O
 | .set tg e,τ=>(evE w e τ).out λd=>(store tg d τ).out .nx
 | .app i e,τ=>(zR τ i).out λx=>(evE w e τ).out λd=>match x with
  | .lst xs=>if xs.length<SZ then .nx (τ.set i (some (.lst (xs++[d]))))else .no
  |_=>.no
 | .seti i k e,τ=>(evE w e τ).out λd=>(zR τ i).out λx=>(evE w k τ).out λn=>match x,n with
  | .lst xs,.int j=>match ixN xs.length j with
   |some m=>.nx (τ.set i (some (.lst (xs.set m d))))
   |none=>.no
  |_,_=>.no
 | .exp e,τ=>(evE w e τ).out λ_=>.nx τ
 | .ret e,τ=>(evE w e τ).out .rt
 | .retN,_=>.rt .non
 | .ite t a b,τ=>(evT w t τ).out λr=>if r then ql w a τ else ql w b τ
 | .for tg it b,τ=>((evI w it τ).out λds=>cR tg (λσ=>ql w b σ) ds τ).noEx
 | .while t b,_=>.no
 | .raise c es,_=>.no
 | .try b c i h,_=>.no
 | .ins i k e,_=>.no
 | .unk,_=>.no
 | .pass,τ=>.nx τ
 | .brk,τ=>.bk τ
 | .cnt,τ=>.ct τ
 | .par i j a b,_=>.no
 | .par3 i j k a b c,_=>.no
noncomputable def ql(w:W):Ss->Env->O
 | .nil,τ=>.nx τ
 | .cons s r,τ=>match evS w s τ with
  | .nx σ=>ql w r σ
  |o=>o
end
theorem cw:∀{w tg e τ},@Eq (O) (evS w (.set tg e) τ) ((evE w e τ).out λd=>(store tg d τ).out .nx):=rfl
theorem cN:∀{w i e τ},@Eq (O) (evS w (.app i e) τ) ((zR τ i).out λx=>(evE w e τ).out λd=>match x with
  | .lst xs=>if xs.length<SZ then .nx (τ.set i (some (.lst (xs++[d]))))else .no
  |_=>.no):=rfl
theorem cZ:∀{w i k e τ},@Eq (O) (evS w (.seti i k e) τ) ((evE w e τ).out λd=>(zR τ i).out λx=>(evE w k τ).out λn=>match x,n with
  | .lst xs,.int j=>match ixN xs.length j with
   |some m=>.nx (τ.set i (some (.lst (xs.set m d))))
   |none=>.no
  |_,_=>.no):=rfl
theorem cU:∀{w e τ},@Eq (O) (evS w (.exp e) τ) ((evE w e τ).out λ_=>.nx τ):=rfl
theorem zE:∀{w e τ},@Eq (O) (evS w (.ret e) τ) ((evE w e τ).out .rt):=rfl
theorem cQ:∀{w τ},@Eq (O) (evS w (.retN) τ) (.rt .non):=rfl
theorem zM:∀{w t a b τ},@Eq (O) (evS w (.ite t a b) τ) ((evT w t τ).out λr=>if r then ql w a τ else ql w b τ):=rfl
theorem cK:∀{w tg it b τ},@Eq (O) (evS w (.for tg it b) τ) (((evI w it τ).out λds=>cR tg (λσ=>ql w b σ) ds τ).noEx):=rfl
theorem dj:∀{w t b τ},@Eq (O) (evS w (.while t b) τ) (.no):=rfl
theorem zU:∀{w c es τ},@Eq (O) (evS w (.raise c es) τ) (.no):=rfl
theorem dk:∀{w b c i h τ},@Eq (O) (evS w (.try b c i h) τ) (.no):=rfl
theorem dg:∀{w i k e τ},@Eq (O) (evS w (.ins i k e) τ) (.no):=rfl
theorem cV:∀{w τ},@Eq (O) (evS w (.unk) τ) (.no):=rfl
theorem dt:∀{w τ},@Eq (O) (evS w (.pass) τ) (.nx τ):=rfl
theorem dq:∀{w τ},@Eq (O) (evS w (.brk) τ) (.bk τ):=rfl
theorem cW:∀{w τ},@Eq (O) (evS w (.cnt) τ) (.ct τ):=rfl
theorem cY:∀{w i j a b τ},@Eq (O) (evS w (.par i j a b) τ) (.no):=rfl
theorem dh:∀{w i j k a b c τ},@Eq (O) (evS w (.par3 i j k a b c) τ) (.no):=rfl
structure Fn where
 ps:Nat
 N:Nat
 fr:Bool
 body:Ss
noncomputable def zN(w:W)(f:Fn)(ds:List D):R D:=if ds.length=f.ps then (match ql w f.body (ds.map some++bP (f.N-f.ps) none)with
  | .nx _=>if f.fr then .no else .ok .non
  | .rt d=>.ok d
  | .ex c=>.ex c
  |_=>.no)else .no
structure Pr where
 fns:Str->Option Fn
 glb:Str->Option D
 sub:Str->Cl->Option Bool
 cat:Str->Str->Bool
noncomputable def qc(p:Pr):Nat->Str->List D->R D
 | 0,_,_=>.no
 |k+1,x,ds=>match p.fns x with
  |some f=>zN ⟨qc p k,p.glb,p.sub,p.cat⟩ f ds
  |none=>.no
inductive GK where
  |fn (fresh:Bool)|val|bi (b:B1)|rng|enum|zip|isi|ty (n:String) (b:Option B1)|exc|exk|set
  deriving DecidableEq
structure Cc where
  nm:List (Str×aO)
  N:List Str
  own:List Str
  G:List (Str×GK)
  calm:Bool
  fnc:Bool
  thr:Bool
  GH:List (Str×GK)
  oc:List Str
  frz:Bool
noncomputable def loc(c:Cc)(x:Str):Option Nat:=
  if x == "__debug__" ||x == "__classdict__" then none else
  match c.nm.lookup x with
  |some .local|some .cell|some .free=>let i:=c.N.findIdx (· == x);if c.N[i]? = some x then some i else none
  |_=>none
noncomputable def cP(c:Cc)(x:Str):Option Nat:=
  match c.nm.lookup x with
  |some .local=>loc c x
  |some .cell=>if c.fnc||c.oc.contains x then loc c x else none
  |_=>none
noncomputable def glob(c:Cc)(x:Str):Option GK:=
  if x == "__debug__" ||x == "__name__" then none else
  match c.nm.lookup x with
  |some .globalImplicit=>c.G.lookup x
  |_=>none
noncomputable def esc:E->Bool
  | .own _=>false
  |_=>true
noncomputable def cz:Es->Bool
  | .nil=>true
  | .cons e es=>esc e&&cz es
noncomputable def isL:E->Bool
  | .lst _=>true
  | .rlst _=>true
  | .comp .. => true
  |_=>false
noncomputable def vH:O2->Bool
  | .add=>true
  | .mul=>true
  |_=>false
noncomputable def fresh(c:Cc):E->Bool
  | .op o a b=>vH o&&isL a||o==.add&&isL b
  | .lst _=>true
  | .rlst _=>true
  | .comp .. => true
  | .comp2 .. => true
  | .bi .list _=>true
  | .bi .sorted _=>true
  | .call f _=>c.G.lookup f==some (.fn true)
  |_=>false
noncomputable def o2:Operator->Option O2
  | .Add=>some .add
  | .Sub=>some .sub
  | .Mult=>some .mul
  | .FloorDiv=>some .fdiv
  | .Mod=>some .mod
  | .Pow=>some .pow
  | .LShift=>some .shl
  | .RShift=>some .shr
  | .BitAnd=>some .band
  | .BitOr=>some .bor
  | .BitXor=>some .bxor
  |_=>none
noncomputable def c2:CmpOp->C2
  | .Eq=>.eq
  | .NotEq=>.ne
  | .Lt=>.lt
  | .LtE=>.le
  | .Gt=>.gt
  | .GtE=>.ge
  | .Is=>.is
  | .IsNot=>.isnot
  | .In=>.isin
  | .NotIn=>.notin
noncomputable def dN:Expr->Bool
  | .ListComp .. => true
  | .SetComp .. => true
  | .DictComp .. => true
  |_=>false
noncomputable def zj:Expr->Bool
  | .Set .. => false
  |_=>true
noncomputable def gY(names nm:List (Str×aO)):List (Str×aO):=names.map λ(n,k)=>if k==bR&&(nm.lookup n==some .cell)then (n,aO.cell)else (n,k)
noncomputable def zK(names:List (Str×aO)):List Str:=(names.filter λp=>p.2==.local||p.2==.free||p.2==.cell).map (·.1)
noncomputable def eW(c:Cc)(names:List (Str×aO)):List (Option Nat):=(zK names).map λx=>if names.lookup x==some .free then loc c x else none
noncomputable def eV:List Expr->Option (List Str)
  | []=>some []
  | .Name x _::r=>(eV r).map (x :: ·)
  |_=>none
noncomputable def cTg(c:Cc):Expr->Option Tg
  | .Name x _=>if c.own.contains x then none else (cP c x).map .nm
  | .Tuple es _ _=>if c.calm then do
      let xs <-eV es
      if xs.any c.own.contains then none else
      let is <-xs.mapM (cP c)
      if is.Nodup then some (.tp is)else none
    else none
  |_=>none
noncomputable def isStar:Expr->Bool
  | .Starred .. => true
  |_=>false
noncomputable def isSlice:Expr->Bool
  | .Slice .. => true
  |_=>false
noncomputable def isTup:Expr->Bool
  | .Tuple .. => true
  |_=>false
noncomputable def eK(it:It)(tg:Expr):Bool:=match it with
  | .enum _=>isTup tg
  | .zip .. => isTup tg
  |_=>true
noncomputable def gz(c:Cc):Expr->Option Cl
  | .Name x _=>match glob c x with
    |some (.ty n _)=>some (.ty n)
    |some .exc=>some (.ex x)
    |some .exk=>some (.ex x)
    |_=>none
  |_=>none
noncomputable def vr(c:Cc)(x:Str)(i:Nat):E:=if c.own.contains x then .own i else .var i
noncomputable def cMt(c:Cc)(o:Expr)(m:Str)(ap:Pos)(as:List Expr)(cp:Pos):Option E:=none
noncomputable def baseOk:Expr->Bool
  | .Call (.Name _ _) (_::_) _ _=>true
  | .Name .. => true
  |_=>false
noncomputable def owned:It->Bool
  | .seq (.own _)=>true
  | .enum (.own _)=>true
  | .zip (.own _) _=>true
  | .zip _ (.own _)=>true
  |_=>false
noncomputable def je:Expr->Option Str
  | .Constant k _ _=>match k with
    | .str t=>some t
    |_=>none
  |_=>none
noncomputable def lU:Expr->Option Expr
  | .FormattedValue a k f _=>match f with
    |none=>if k = -1 then some a else none
    |_=>none
  |_=>none
noncomputable def yG:List Expr->Option (Str×Expr×Str×Expr×Str)
  | [x0,x1,x2,x3,x4]=>do
    let t0 <-je x0
    let a <-lU x1
    let t1 <-je x2
    let b <-lU x3
    let t2 <-je x4
    if (Str.empty++t0).length<=1000 then some (t0,a,t1,b,t2)else none
  |_=>none
noncomputable def jr(c:Cc)(b:B1):List Expr->Option Expr
  | [.Call (.Name g _) [a] [] _]=>if (b==.sorted||b==.len)&&loc c g==none&&glob c g==some .set && !isStar a&&c.calm then some a else none
  |_=>none
noncomputable def iO:Expr->Bool
  | .ListComp _ gs _ _=>gs.length==2
  |_=>false
mutual
noncomputable def cE:Nat->Cc->Expr->Option E
  | 0,_,_=>none
  |n+1,c,e=>match e with
    | .Name x _=>match loc c x with
      |some i=>if c.own.contains x then some (.own i)else some (.var i)
      |none=>match glob c x with
        |some .val=>some (.glb x)
        |some (.fn _)=>some (.fnv x)
        |_=>none
    | .Constant k _ _=>match k with
      | .int i=>some (.con (.int i))
      | .bool i=>some (.con (.bl i))
      | .none=>some (.con .non)
      | .str x=>some (.con (.str x))
      |_=>none
    | .BinOp a op b _=>do
      let o <-o2 op
      let a <-cE n c a
      let b <-cE n c b
      some (.op o a b)
    | .UnaryOp op a _=>do
      let a <-cE n c a
      match op with
      | .USub=>some (.neg a)
      | .Invert=>some (.inv a)
      | .Not=>some (.not a)
      |_=>none
    | .BoolOp op vs _=>cBo n c op vs
    | .Compare a ops bs _=>match ops,bs with
      | [o],[b]=>do
        let a <-cE n c a
        let b' <-cE n c b
        if zj b then some (.cmp (c2 o) a b')else none
      | [o,o'],[b,d]=>do
        let a <-cE n c a
        let b' <-cE n c b
        let d' <-cE n c d
        if zj b&&zj d then some (.cmp2 (c2 o) (c2 o') a b' d')else none
      | [o,o',o''],[b,d,f]=>do
        let a <-cE n c a
        let b' <-cE n c b
        let d' <-cE n c d
        let f' <-cE n c f
        if zj b&&zj d&&zj f then some (.cmp3 (c2 o) (c2 o') (c2 o'') a b' d' f')else none
      |_,_=>none
    | .IfExp t a b _=>do
      let t <-cT n c t
      let a <-cE n c a
      let b <-cE n c b
      if esc a&&esc b then some (.ite t a b)else none
    | .Tuple es _ _=>do
      let es <-cEs n c es
      if cz es then some (.tup es)else none
    | .List es _=>do
      let es <-cEs n c es
      if cz es then some (.lst es)else none
    | .Subscript a b _=>match b with
      | .Slice lo hi st _=>match st with
        |some _=>none
        |none=>do
          let a <-cE n c a
          let lo <-cO n c lo
          let hi <-cO n c hi
          some (.sl a lo hi)
      |b=>do
        if isSlice b then none else
        let a <-cE n c a
        let b <-cE n c b
        some (.ix a b)
    | .ListComp elt gs sc _=>match gs with
     | [⟨tgt,it,ifs,asy⟩]=>do
      if !(asy==0) || !c.calm || !zj it then none else
      let c':Cc:={c with nm:=gY sc.names c.nm,N:=zK sc.names,fnc:=false,oc:=fC sc.names}
      let cap:=eW c sc.names
      if !fA (λx=>c.nm.lookup x) c.N (zK sc.names) cap sc || !decide (zK sc.names).Nodup then none else
      let it <-cI n c it
      let tg <-cTg c' tgt
      let t <-ee n c' ifs
      let elt <-cE n c' elt
      if esc elt&&eK it tgt then some (.comp it cap tg t elt)else none
     |_=>none
    | .Call fe as ks cp=>match ks with
     | []=>match fe with
      | .Name f _=>match loc c f with
        |some i=>do
          let es <-cEs n c as
          if cz es && !as.isEmpty&&c.calm then some (.callE (if c.own.contains f then .own i else .var i) es)else none
        |none=>match glob c f with
          |some (.fn _)=>do
            let es <-cEs n c as
            if cz es && !as.isEmpty then some (.call f es)else if !as.isEmpty then some (.callo f es)else none
          |some (.bi b)=>match jr c b as with
            |some a=>(cE n c a).map (.sset (b==.len))
            |none=>do
              let es <-cEs n c as
              if !as.isEmpty&&(c.calm||b==.len||b==.abs)then some (.bi b es)else none
          |some (.ty t (some b))=>match as with
            | [.Call (.Name g p) as' [] q]=>if loc c g==none&&glob c g==some .rng then (if c.calm&&(t == "tuple" ||t == "list")then (match as' with
                | [a]=>if isStar a then none else do
                  let a <-cE n c a
                  some (if t = "tuple" then .rtup (.rng a)else .rlst (.rng a))
                | [a,d]=>if isStar a||isStar d then none else do
                  let a <-cE n c a
                  let d <-cE n c d
                  some (if t = "tuple" then .rtup (.rng2 a d)else .rlst (.rng2 a d))
                | [a,d,k]=>if isStar a||isStar d||isStar k then none else do
                  let a <-cE n c a
                  let d <-cE n c d
                  let k <-cE n c k
                  if t == "tuple" then some (.rtup (.rng3 a d k))else none
                |_=>none)
                else none)
              else do
                let es <-cEs n c as
                some (.bi b es)
            |_=>do
              let es <-cEs n c as
              if !as.isEmpty then some (.bi b es)else none
          |some .isi=>match as with
            | [a,k]=>do
              if isStar a then none else
              let a <-cE n c a
              let k <-gz c k
              some (.isi a k)
            |_=>none
          |_=>none
      | .Subscript a b p=>do
        let f <-cE n c (.Subscript a b p)
        let es <-cEs n c as
        if cz es && !as.isEmpty&&c.calm then some (.callE f es)else none
      | .Attribute o m ap=>match cMt c o m ap as cp with
        |some e=>some e
        |none=>none
      |_=>none
     |_=>none
    |_=>none
noncomputable def ee:Nat->Cc->List Expr->Option T
  | 0,_,_=>none
  |n+1,c,ifs=>match ifs with
    | []=>some .yes
    | [t]=>cT n c t
    |_=>none
noncomputable def cBo:Nat->Cc->BoolOp->List Expr->Option E
  | 0,_,_,_=>none
  |n+1,c,op,vs=>match vs with
    | []=>none
    | [a]=>do
      let a <-cE n c a
      if esc a then some a else none
    |a::b::r=>do
      let a <-cE n c a
      let r <-cBo n c op (b::r)
      match op with
      | .And=>some (.and a r)
      | .Or=>some (.or a r)
noncomputable def cO:Nat->Cc->Option Expr->Option OE
  | 0,_,_=>none
  |n+1,c,o=>match o with
    |none=>some .none
    |some e=>(cE n c e).map .some
noncomputable def cEs:Nat->Cc->List Expr->Option Es
  | 0,_,_=>none
  |n+1,c,es=>match es with
    | []=>some .nil
    |e::r=>do
      if isStar e then none else
      let e <-cE n c e
      let r <-cEs n c r
      some (.cons e r)
noncomputable def cI:Nat->Cc->Expr->Option It
  | 0,_,_=>none
  |n+1,c,e=>match e with
    | .Call (.Name f p) as [] q=>match loc c f with
      |some _=>(cE n c (.Call (.Name f p) as [] q)).map .seq
      |none=>match glob c f with
        |some .rng=>(match as with
          | [a]=>if isStar a then none else (cE n c a).map .rng
          | [a,b]=>if isStar a||isStar b then none else do
            let a <-cE n c a
            let b <-cE n c b
            some (.rng2 a b)
          | [a,b,d]=>if isStar a||isStar b||isStar d then none else do
            let a <-cE n c a
            let b <-cE n c b
            let d <-cE n c d
            some (.rng3 a b d)
          |_=>none)
        |some .enum=>(match as with
          | [a]=>if isStar a then none else (cE n c a).map .enum
          |_=>none)
        |some .zip=>(match as with
          | [a,b]=>if isStar a||isStar b then none else do
            let a <-cE n c a
            let b <-cE n c b
            some (.zip a b)
          |_=>none)
        |_=>(cE n c (.Call (.Name f p) as [] q)).map .seq
    |e=>(cE n c e).map .seq
noncomputable def cT:Nat->Cc->Expr->Option T
  | 0,_,_=>none
  |n+1,c,e=>match e with
    | .UnaryOp .Not a _=>(cT n c a).map .not
    | .BoolOp op vs _=>cTs n c op vs
    | .IfExp .. => none
    | .Compare a ops bs _=>match ops,bs with
      | [o],[b]=>do
        let a <-cE n c a
        let b' <-cE n c b
        if zj b then some (.cmp (c2 o) a b')else none
      | [o,o'],[b,d]=>do
        let a <-cE n c a
        let b' <-cE n c b
        let d' <-cE n c d
        if zj b&&zj d then some (.cmp2 (c2 o) (c2 o') a b' d')else none
      | [o,o',o''],[b,d,f]=>do
        let a <-cE n c a
        let b' <-cE n c b
        let d' <-cE n c d
        let f' <-cE n c f
        if zj b&&zj d&&zj f then some (.val (.cmp3 (c2 o) (c2 o') (c2 o'') a b' d' f'))else none
      |_,_=>none
    |e=>(cE n c e).map .val
noncomputable def cTs:Nat->Cc->BoolOp->List Expr->Option T
  | 0,_,_,_=>none
  |n+1,c,op,vs=>match vs with
    | []=>none
    | [a]=>cT n c a
    |a::b::r=>do
      let a <-cT n c a
      let r <-cTs n c op (b::r)
      match op with
      | .And=>some (.and a r)
      | .Or=>some (.or a r)
end

noncomputable def h9:Expr->Option (Str×Str×Pos×Expr×Pos)
  | .Call f as ks cp=>match f with
    | .Attribute o m ap=>match o with
      | .Name x _=>match as with
        | [a]=>if ks.isEmpty then some (x,m,ap,a,cp)else none
        |_=>none
      |_=>none
    |_=>none
  |_=>none
noncomputable def lD(_:Expr):Option (Str×Pos×Expr×Expr×Pos):=none
noncomputable def i6:Expr->Bool
  | .Tuple es _ _=>es.all (foldedForSure 8)
  |_=>false
mutual
noncomputable def cS:Nat->Cc->Bool->Stmt->Option S
  | 0,_,_,_=>none
  |n+1,c,fr,s=>match s with
    | .Assign ts e _=>match ts with
      | [t]=>match t with
        | .Name x _=>do
          if iO e then none else
          let i <-cP c x
          let e' <-cE n c e
          if c.own.contains x then (if fresh c e' && !c.frz then some (.set (.nm i) e')else none)else if esc e' then some (.set (.nm i) e')else none
        | .Tuple ts k p=>do
              let tg <-cTg c (.Tuple ts k p)
              let e' <-cE n c e
              if (isTup e && !i6 e)||dN e || !esc e' then none else some (.set tg e')
        | .Subscript a k _=>match a with
          | .Name x _=>do
            let i <-cP c x
            let e' <-cE n c e
            let k' <-cE n c k
            if c.own.contains x&&esc e' && !isSlice k && !dN e && !c.frz then some (.seti i k' e')else none
          |_=>none
        |_=>none
      |_=>none
    | .Expr e _=>match lD e with
      |some (x,ap,k,a,cp)=>do
        let i <-cP c x
        let k' <-cE n c k
        let a' <-cE n c a
        if c.own.contains x&&esc a' && !isStar k && !isStar a&&ap.endLine==cp.line && !c.frz then some (.ins i k' a')else none
      |none=>match h9 e with
      |some (x,m,ap,a,cp)=>do
        let i <-cP c x
        let a' <-cE n c a
        if m == "append" && c.own.contains x&&esc a' && !isStar a&&ap.endLine==cp.line && !c.frz then some (.app i a')else none
      |none=>do
        if dN e then none else
        let e' <-cE n c e
        some (.exp e')
    | .Return o _=>match o with
      |some e=>do
        let e' <-cE n c e
        if fr then (match e with
          | .Name y _=>if c.own.contains y then (loc c y).map (λi=>.ret (.own i))else none
          |_=>if fresh c e' then some (.ret e')else none)
        else some (.ret e')
      |none=>if fr then none else some .retN
    | .If t a b _=>do
      let t <-cT n c t
      let a <-cSs n c fr a
      let b <-cSs n c fr b
      some (.ite t a b)
    | .For tg it b els _=>do
      if !els.isEmpty || !c.calm || !zj it then none else
      let tg' <-cTg c tg
      let it <-cI n c it
      if !eK it tg then none else
      let b <-cSs n {c with frz:=c.frz||owned it} fr b
      some (.for tg' it b)
    | .Pass _=>some .pass
    | .Break _=>some .brk
    | .Continue _=>some .cnt
    |_=>none
noncomputable def cSs:Nat->Cc->Bool->List Stmt->Option Ss
  | 0,_,_,_=>none
  |n+1,c,fr,ss=>match ss with
    | []=>some .nil
    |s::r=>do
      let r <-cSs n c fr r
      some (.cons ((cS n c fr s).getD .unk) r)
end
noncomputable def noOwn(c:Cc):Cc:={c with own:=[],frz:=false}
noncomputable def g9(n:Nat)(c:Cc)(fr:Bool)(b:List Stmt):Option Ss:=cSs n c fr b
noncomputable def argNames(a:Arguments):List Str:=a.args.map (·.arg)
noncomputable def fq(a:Arguments)(sc:aY):List Str:=argNames a++((sc.names.filter λp=>p.2==.local||p.2==.cell).map (·.1)).filter λx=>!(argNames a).contains x
noncomputable def gC(N ps:List Str)(sc:aY):Bool:=
  sc.kind==.function && !sc.isCoroutine && !sc.isGenerator&&decide N.Nodup&&decide (N.take ps.length=ps)&&ps.all (λx=>sc.names.lookup x==some .local||sc.names.lookup x==some .cell)&&sc.names.all λy=>y.2 != .free
noncomputable def jc:Nat:=60
noncomputable def cFn(G GH:List (Str×GK))(own:List Str)(fr:Bool)(st:Stmt):Option Fn:=do
  let a:=zf st
  let sc:=ze st
  let N:=fq a sc
  if !gC N (argNames a) sc||(argNames a).any own.contains then none else
  let b <-g9 jc ⟨sc.names,N,own,G,true,true,false,GH,[],false⟩ fr (zQ st)
  some ⟨(argNames a).length,N.length,fr,b⟩
noncomputable def jN(GU:List (Str×GK))(own:List Str)(fr:Bool)(st:Stmt):Option Fn:=none
end EV

namespace EV
open PySem PySem.Spec PyProof.Rows L2
structure Gc where
 K:aB
 fnA:Str->Option Addr
 clA:Str->Option Addr
mutual
inductive Rep(g:Gc)(H:Hp):D->V->Prop
 |non:Rep g H .non .non
 |bl (b:Bool):Rep g H (.bl b) (.bl b)
 |int (i:Int):Rep g H (.int i) (.int i)
 |str (x:Str):Rep g H (.str x) (.str x)
 |tup {a:Addr}{xs:List V}{ds:List D}:SqT g.K H a xs->qF g H ds xs->Rep g H (.tup ds) (.ref a)
 |lst {a:Addr}{xs:List V}{ds:List D}:SqL g.K H a xs->qF g H ds xs->Rep g H (.lst ds) (.ref a)
 |fn {x:Str}{a:Addr}:g.fnA x=some a->Rep g H (.fn x) (.ref a)
 |exn {c:Str}{a C:Addr}:g.clA c=some C->H a=some (oh a (.ref C))->Rep g H (.exn c) (.ref a)
 |dic {a:Addr}:H a=some (.dK [])->Rep g H .dic (.ref a)
inductive qF(g:Gc)(H:Hp):List D->List V->Prop
 |nil:qF g H [] []
 |cons {d:D}{ds:List D}{x:V}{xs:List V}:Rep g H d x->qF g H ds xs->qF g H (d::ds) (x::xs)
end
theorem ei{K:aB}{H H':Hp}{a:Addr}{xs:List V}(e:qa H H')(h:SqT K H a xs):SqT K H' a xs:=by
 rcases h with (h|⟨o,h⟩)|h
 ·exact .inl (.inl (e _ _ h))
 ·exact .inl (.inr ⟨o,e _ _ h⟩)
 ·exact .inr h
section
variable{g:Gc}{H H':Hp}
theorem mJ{a b:Bool}(h:(a&&b)=true):a=true/\b=true:=by rw[aM]at h;exact h
theorem Rep.mono(e:qa H H'){d:D}{v:V}(h:Rep g H d v):Rep g H' d v:=
 h.rec (motive_1:=λd v _=>Rep g H' d v) (motive_2:=λd v _=>qF g H' d v) .non .bl .int .str (λq _ r=>.tup (ei e q) r) (λq _ r=>.lst (e.seq q) r) .fn (λq r=>.exn q (e _ _ r)) (λq=>.dic (e _ _ q)) .nil (λ_ _ a b=>.cons a b)
theorem qF.mono(e:qa H H'){d:List D}{v:List V}(h:qF g H d v):qF g H' d v:=
 h.rec (motive_1:=λd v _=>Rep g H' d v) (motive_2:=λd v _=>qF g H' d v) .non .bl .int .str (λq _ r=>.tup (ei e q) r) (λq _ r=>.lst (e.seq q) r) .fn (λq r=>.exn q (e _ _ r)) (λq=>.dic (e _ _ q)) .nil (λ_ _ a b=>.cons a b)
theorem qF.length{ds:List D}:∀{vs:List V},qF g H ds vs->ds.length=vs.length:=by
 induction ds with
 |nil=>intro vs h;cases h;rfl
 |cons d ds ih=>intro vs h;cases h with|cons _ r=>exact congrArg (· + 1) (ih r)
theorem qF.get{ds:List D}:∀{vs:List V}{i:Nat}{d:D},qF g H ds vs->ds[i]? = some d->∃v,vs[i]? = some v/\Rep g H d v:=by
 induction ds with
 |nil=>intro vs i d h e;cases e
 |cons d ds ih=>
  intro vs i d' h e;cases h with
  |cons h t=>cases i with
   |zero=>cases e;exact⟨_,rfl,h⟩
   |succ i=>exact ih (i:=i) t e
theorem qF.append{ds:List D}:∀{es:List D}{vs us:List V},qF g H ds vs->qF g H es us->qF g H (ds++es) (vs++us):=by
 induction ds with
 |nil=>intro es vs us h s;cases h;exact s
 |cons d ds ih=>intro es vs us h s;cases h with|cons r t=>exact .cons r (ih t s)
theorem qF.take{ds:List D}:∀{vs:List V} (n:Nat),qF g H ds vs->qF g H (ds.take n) (vs.take n):=by
 induction ds with
 |nil=>intro vs n h;cases h;cases n<;>exact .nil
 |cons d ds ih=>intro vs n h;cases h with|cons r t=>cases n with
  |zero=>exact .nil
  |succ n=>exact .cons r (ih n t)
theorem qF.drop{ds:List D}:∀{vs:List V} (n:Nat),qF g H ds vs->qF g H (ds.drop n) (vs.drop n):=by
 induction ds with
 |nil=>intro vs n h;cases h;cases n<;>exact .nil
 |cons d ds ih=>intro vs n h;cases n with
  |zero=>exact h
  |succ n=>cases h with|cons r t=>exact ih n t
theorem qF.set{d:D}{v:V}(r:Rep g H d v){ds:List D}:∀{vs:List V} (i:Nat),qF g H ds vs->qF g H (ds.set i d) (vs.set i v):=by
 induction ds with
 |nil=>intro vs i h;cases h;exact .nil
 |cons d' ds ih=>intro vs i h;cases h with|cons q t=>cases i with
  |zero=>exact .cons r t
  |succ i=>exact .cons q (ih i t)
theorem qF.ints{ds:List D}:∀{vs:List V}{ns:List Int},qF g H ds vs->ints? ds=some ns->vs=ns.map V.int/\ds=ns.map D.int:=by
 induction ds with
 |nil=>intro vs ns h e;cases h;cases e;exact⟨rfl,rfl⟩
 |cons d ds ih=>
  intro vs ns h e;cases h with
  |cons h t=>cases d with
   |int i=>
    obtain⟨ms,e1,rfl⟩:=bH.mp (show (ints? ds).map (i :: ·)=some ns from e);obtain⟨h1,h2⟩:=ih t e1;cases h;exact⟨by rw[h1];rfl,by rw[h2];rfl⟩
   |_=>cases (show none=some ns from e)
theorem qF.bools{ds:List D}:∀{vs:List V}{ns:List Bool},qF g H ds vs->bools? ds=some ns->vs=ns.map V.bl:=by
 induction ds with
 |nil=>intro vs ns h e;cases h;cases e;rfl
 |cons d ds ih=>
  intro vs ns h e;cases h with
  |cons h t=>cases d with
   |bl i=>
    obtain⟨ms,e1,rfl⟩:=bH.mp (show (bools? ds).map (i :: ·)=some ns from e);have h1:=ih t e1;cases h;rw[h1];rfl
   |_=>cases (show none=some ns from e)
theorem qF.ofInts:∀(ns:List Int),qF g H (ns.map D.int) (ns.map V.int)
 | []=>.nil
 |i::r=>.cons (.int i) (qF.ofInts r)
end
structure Sh where
 o:Addr->Bool
 h:Addr->Bool
 z:L2.St
 y:Hp
noncomputable def hid(H:Hp)(S:Sh):Hp:=λb=>if S.h b=true then none else H b
noncomputable def zH(S:Sh)(a:Addr):Sh:=⟨S.o,λb=>S.h b||b==a,S.z,S.y⟩
theorem bT{H:Hp}{S:Sh}{b:Addr}{o:HO}:hid H S b=some o↔S.h b=false/\H b=some o:=by
 unfold hid;cases h:S.h b<;>simp
theorem cX{H:Hp}{S:Sh}:qa (hid H S) H:=λ_ _ h=>(bT.mp h).2
theorem qR{H H':Hp}{S:Sh}(e:qa H H'):qa (hid H S) (hid H' S):=λb o h=>bT.mpr ⟨(bT.mp h).1,e _ _ (bT.mp h).2⟩
noncomputable def Sub(S:Sh)(H:Hp):Prop:=∀a,(S.h a=true\/S.o a=true)->H a≠none
theorem Sub.same{S:Sh}{H H':Hp}(h:Sub S H)(e:qa H H'):Sub S H':=λa s n=>by
 cases q:H a with
 |none=>exact h a s q
 |some o=>rw[e _ _ q]at n;cases n
theorem Sub.free{S:Sh}{H:Hp}(h:Sub S H){p:Addr}(n:H p=none):S.h p=false:=by
 cases q:S.h p with
 |false=>rfl
 |true=>exact absurd n (h p (.inl q))
theorem Sub.freeO{S:Sh}{H:Hp}(h:Sub S H){p:Addr}(n:H p=none):S.o p=false:=by
 cases q:S.o p with
 |false=>rfl
 |true=>exact absurd n (h p (.inr q))
theorem zg{H:Hp}{p:Addr}{o:HO}(n:H p=none):qa H (upd H p o):=λb u h=>by
 rw[qQ (λz=>by rw[z,n]at h;cases h)];exact h
theorem l_{H:Hp}{S:Sh}{p:Addr}{o:HO}(hs:Sub S H)(n:H p=none):hid (upd H p o) S p=some o:=bT.mpr ⟨hs.free n,zk⟩
theorem gA{H:Hp}{S:Sh}{p:Addr}{o:HO}(n:H p=none):qa (hid H S) (hid (upd H p o) (zH S p)):=λb u h=>by
 obtain⟨h1,h2⟩:=bT.mp h;have hb:b≠p:=λz=>by rw[z,n]at h2;cases h2
 refine bT.mpr ⟨?_,by rw[qQ hb];exact h2⟩;show (S.h b||b==p)=false;rw[h1]
 simpa using hb
theorem nj{H:Hp}{S:Sh}{p:Addr}:qa (hid H (zH S p)) (hid H S):=λb u h=>by
 obtain⟨h1,h2⟩:=bT.mp h;refine bT.mpr ⟨?_,h2⟩;have h1:(S.h b||b==p)=false:=h1;simp at h1;exact h1.1
noncomputable def zp(g:Gc)(H:Hp)(S:Sh)(d:D)(v:V):Prop:=
 Rep g (hid H S) d v\/∃a vs ds,S.o a=true/\v=.ref a/\d=.lst ds/\H a=some (.lst vs)/\qF g (hid H S) ds vs
noncomputable def Fr(g:Gc)(H0:Hp)(S:Sh)(H:Hp)(d:D)(v:V):Prop:=
 ∃a vs ds,v=.ref a/\d=.lst ds/\H0 a=none/\H a=some (.lst vs)/\qF g (hid H (zH S a)) ds vs
section
variable{g:Gc}{H H' H0:Hp}{S:Sh}{d:D}{v:V}
theorem zp.mono(e:qa H H')(h:zp g H S d v):zp g H' S d v:=by
 rcases h with h|⟨a,vs,ds,h1,h2,h3,h4,h5⟩
 ·exact .inl (h.mono (qR e))
 ·exact .inr ⟨a,vs,ds,h1,h2,h3,e _ _ h4,h5.mono (qR e)⟩
theorem zp.rep(h:zp g H S d v):Rep g H d v:=by
 rcases h with h|⟨a,vs,ds,h1,rfl,rfl,h4,h5⟩
 ·exact h.mono cX
 ·exact .lst (SqL.of h4) (h5.mono cX)
theorem zp.lst{ds:List D}(h:zp g H S (.lst ds) v):∃a vs,v=.ref a/\SqL g.K H a vs/\qF g (hid H S) ds vs:=by
 rcases h with h|⟨a,vs,ds',h1,rfl,h3,h4,h5⟩
 ·cases h with
  |lst h r=>exact⟨_,_,rfl,cX.seq h,r⟩
 ·cases h3;exact⟨a,vs,rfl,SqL.of h4,h5⟩
theorem zp.strong(h:zp g H S d v)(n:∀ds,d≠.lst ds):Rep g (hid H S) d v:=by
 rcases h with h|⟨a,vs,ds',h1,rfl,h3,h4,h5⟩
 ·exact h
 ·exact absurd h3 (n _)
theorem zp.tup{ds:List D}(h:zp g H S (.tup ds) v):∃a vs,v=.ref a/\SqT g.K H a vs/\qF g (hid H S) ds vs:=by
 cases h.strong (by intro _ z;cases z)with
 |tup h2 r=>exact⟨_,_,rfl,ei cX h2,r⟩
theorem zp.seq{ds:List D}(h:zp g H S d v)(e:seq? d=some ds):∃a vs,v=.ref a/\(SqL g.K H a vs\/SqT g.K H a vs)/\qF g (hid H S) ds vs:=by
 cases d with
 |tup xs=>cases e;obtain⟨a,vs,h1,h2,h3⟩:=h.tup;exact⟨a,vs,h1,.inr h2,h3⟩
 |lst xs=>cases e;obtain⟨a,vs,h1,h2,h3⟩:=h.lst;exact⟨a,vs,h1,.inl h2,h3⟩
 |_=>cases e
theorem zp.int{i:Int}(h:zp g H S (.int i) v):v=.int i:=by cases h.strong (by intro _ z;cases z);rfl
theorem zp.bl{b:Bool}(h:zp g H S (.bl b) v):v=.bl b:=by cases h.strong (by intro _ z;cases z);rfl
theorem fH{ds:List D}{vs:List V}{p:Addr}(hs:Sub S H)(n:H p=none)(r:qF g (hid H S) ds vs):Rep g (hid (upd H p (.tup vs)) S) (.tup ds) (.ref p):=
 .tup (SqT.of (l_ hs n)) (r.mono (qR (zg n)))
theorem eM{ds:List D}{vs:List V}{p:Addr}(hs:Sub S H)(n:H p=none)(r:qF g (hid H S) ds vs):Rep g (hid (upd H p (.lst vs)) S) (.lst ds) (.ref p):=
 .lst (SqL.of (l_ hs n)) (r.mono (qR (zg n)))
theorem gU{ds:List D}{vs:List V}{p:Addr}(e:qa H0 H)(n:H p=none)(r:qF g (hid H S) ds vs):Fr g H0 S (upd H p (.lst vs)) (.lst ds) (.ref p):=
 ⟨p,vs,ds,rfl,rfl,e.free n,zk,r.mono (gA n)⟩
end
end EV
namespace HT
open PySem PySem.Spec PyProof.Rows L2
section
variable{prog:aA}{w:av}{A:az}{E:ae->af->Prop}{s:af}
end
end HT
namespace L2
open PySem PySem.Spec PyProof.Rows
variable{X:Cx}
section
variable{X:Cx}
end
end L2
namespace EV
open PySem PySem.Spec PySem.P PyProof.Rows L2
mutual
noncomputable def D.py:D->PyData
 | .non=>.none
 | .bl b=>.bool b
 | .int i=>.int i
 | .str x=>.str x
 | .tup xs=>.tuple (pys xs)
 | .lst xs=>.list (pys xs)
 | .fn _=>.none
 | .exn _=>.none
 | .dic=>.none
noncomputable def pys:List D->List PyData
 | []=>[]
 |x::xs=>x.py::pys xs
end
mutual
theorem kj:∀{d:D},d.plain=true->d.py.canLay0=true
 | .non,_ | .bl _,_ | .int _,_=>by simp[D.py,PyData.canLay0]
 | .str x,h=>by simpa[D.py,PyData.canLay0,D.plain]using h
 | .tup xs,h=>by simp only[D.py,PyData.canLay0];exact jm (by simpa[D.plain]using h)
 | .lst xs,h=>by simp only[D.py,PyData.canLay0];exact jm (by simpa[D.plain]using h)
 | .fn _,h | .exn _,h | .dic,h=>by simp[D.plain]at h
theorem jm:∀{ds:List D},plainAll ds=true->PyData.canLayAll0 (pys ds)=true
 | [],_=>by simp[pys,PyData.canLayAll0]
 |x::xs,h=>by
  simp only[plainAll,aM]at h;simp only[pys,PyData.canLayAll0,aM];exact⟨kj h.1,jm h.2⟩
end
mutual
theorem jz:∀(d:D),d.py.depth=d.deep
 | .non | .bl _ | .int _ | .str _ | .fn _ | .exn _ | .dic=>by simp[D.py,PyData.depth,D.deep]
 | .tup xs=>by simp only[D.py,PyData.depth,D.deep];rw[hJ xs]
 | .lst xs=>by simp only[D.py,PyData.depth,D.deep];rw[hJ xs]
theorem hJ:∀(ds:List D),PyData.depthAll (pys ds)=dY ds
 | []=>by simp[pys,PyData.depthAll,dY]
 |x::xs=>by simp only[pys,PyData.depthAll,dY];rw[jz x,hJ xs]
end
mutual
theorem jf:∀(a b:D),a.plain=true->b.plain=true->PyData.eqv a.py b.py=a.eqv b
 | .tup xs,.tup ys,h,h'=>by simp only[D.py,PyData.eqv,D.eqv];exact iR xs ys (by simpa[D.plain]using h) (by simpa[D.plain]using h')
 | .lst xs,.lst ys,h,h'=>by simp only[D.py,PyData.eqv,D.eqv];exact iR xs ys (by simpa[D.plain]using h) (by simpa[D.plain]using h')
 | .fn _,_,h,_=>by simp[D.plain]at h
 | .exn _,_,h,_=>by simp[D.plain]at h
 | .dic,_,h,_=>by simp[D.plain]at h
 | .non,b,_,h' | .bl _,b,_,h' | .int _,b,_,h' | .str _,b,_,h'=>by cases b<;>simp[D.py,PyData.eqv,D.eqv,D.plain]at h' ⊢
 | .tup _,.non,_,_ | .tup _,.bl _,_,_ | .tup _,.int _,_,_ | .tup _,.str _,_,_ | .tup _,.lst _,_,_=>by simp[D.py,PyData.eqv,D.eqv]
 | .lst _,.non,_,_ | .lst _,.bl _,_,_ | .lst _,.int _,_,_ | .lst _,.str _,_,_ | .lst _,.tup _,_,_=>by simp[D.py,PyData.eqv,D.eqv]
 | .tup _,.fn _,_,h' | .tup _,.exn _,_,h' | .lst _,.fn _,_,h' | .lst _,.exn _,_,h' | .tup _,.dic,_,h' | .lst _,.dic,_,h'=>by simp[D.plain]at h'
theorem iR:∀(xs ys:List D),plainAll xs=true->plainAll ys=true->PyData.eqvAll (pys xs) (pys ys)=eqvAll xs ys
 | [],[],_,_=>by simp[pys,PyData.eqvAll,eqvAll]
 |x::xs,y::ys,h,h'=>by
  simp only[plainAll,aM]at h h';simp only[pys,PyData.eqvAll,eqvAll];rw[jf x y h.1 h'.1,iR xs ys h.2 h'.2]
 | [],_::_,_,_=>by simp[pys,PyData.eqvAll,eqvAll]
 |_::_,[],_,_=>by simp[pys,PyData.eqvAll,eqvAll]
end
theorem Rep.data{g:Gc}{H:Hp}{d:D}{v:V}(h:Rep g H d v):d.plain=true->du g.K H v d.py:=
 h.rec (motive_1:=λd v _=>d.plain=true->du g.K H v d.py) (motive_2:=λds vs _=>plainAll ds=true->eO g.K H vs (pys ds)) (λ_=>.non) (λb _=>.bl b) (λb _=>.int b) (λb _=>.str b) (λq _ r p=>.tup q (r p)) (λq _ r p=>.lst q (r p)) (λ_ p=>nomatch p) (λ_ _ p=>nomatch p) (λ_ p=>nomatch p) (λ_=>.nil) (λ_ _ a b p=>.cons (a (mJ p).1) (b (mJ p).2))
theorem fh{d:D}:d.asks=true↔d.plain=true/\d.deep<=20:=by simp[D.asks]
section
variable{X:Cx}{g:Gc}
theorem OpR.imp{f:ae->ae->Sem ae}{r r':R2}(h:OpR X f r)(i:∀x y H Q,r' x y H Q->r x y H Q):OpR X f r':=
 λpins s σ H x y v u Q I rx ry q=>h pins s σ H x y v u Q I rx ry (i _ _ _ _ q)
noncomputable def rH(K:aB):R2:=λx y H Q=>∃l b xs zs,x=.ref l/\y=.ref b/\SqL K H l xs/\SqL K H b zs/\xs.length+zs.length<=aX/\∀p,H p=none->Q (.ref p) (upd H p (.lst (xs++zs)))
theorem uL:OpR X (bC .Add) (rH X.K):=by
 intro pins s σ H x y v u Q I rx ry h;obtain⟨l,b,xs,zs,rfl,rfl,hH,hB,hz,q⟩:=h;cases rx;cases ry;obtain⟨its,r,pl,z⟩:=I.list hH;obtain⟨its2,r2,pl2,z2⟩:=I.list hB;have l1:=r.length;have l2:=r2.length;obtain⟨⟨cls,dd,data,sl⟩,ho,hc,n,hd⟩:=pl.isList;obtain⟨⟨cls2,dd2,data2,sl2⟩,ho2,hc2,n2,hd2⟩:=pl2.isList;simp only at hc hd hc2 hd2;subst hc hd hc2 hd2;refine concat_meets ⟨_,ho,rfl⟩ ⟨_,ho2,rfl⟩ noFill_list_add seq_list_add PySem.F.slot_list_add PySem.F.entry_list_add (PySem.F.args_list_add_2 _ _) (list_addW l b its.toArray its2.toArray n n2 dd dd2 sl sl2 (by rw[aU,aU];lia)) ⟨ho,ho2,?_⟩;have ea:its.toArray++its2.toArray=(its++its2).toArray:=by simp
 rw[ea];exact⟨.ref _,_,I.lnew (t':=s.toks) (r.append r2) (by rw[cC];lia),rfl,q _ I.fresh⟩
noncomputable def rOp(g:Gc)(o:O2):R2:=λx y H Q=>∃S da db,Sub S H/\zp g H S da x/\zp g H S db y /\
 match op2 o da db with
 | .ok d=>∀v H',qa H H'->Rep g (hid H' S) d v->(lQ da=true->Fr g H S H' d v)->Q v H'
 |_=>False
theorem dQ{o:O2}(ho:o≠.add)(hm:o≠.mul){da db d:D}(h:op2 o da db=.ok d):∃i j,da=.int i/\db=.int j/\opI o i j=.ok d:=by
 unfold op2 at h;split at h
 ·exact⟨_,_,rfl,rfl,h⟩
 ·rw[if_neg (λz=>ho z.1)]at h;cases h
 ·rw[if_neg (λz=>ho z.1)]at h;cases h
 ·cases h
theorem mR{j:Int}(h:small j=true):-(2^64)<j/\j<2^64:=by simpa[small]using h
theorem k9{n:Nat}(h:n<=SZ):n<=sizeLine:=bz h (by rw[bw];decide)
theorem log2_small{j:Int}(h1:0<j)(h2:j<1000000000000000000000000000000):j.natAbs.log2<9000:=by
 have h3:j.natAbs<2^100:=by
  have:(2:Nat)^100=1267650600228229401496703205376:=by decide +kernel
  rw[this];lia
 have:=(Nat.log2_lt (n:=j.natAbs) (k:=100) (by lia)).mpr h3;lia
theorem wA:OpR X (bC .FloorDiv) (rI (λ_ j=>0<j/\j<1000000000000000000000000000000) λi j=>.int (i/j)):=L2.opI λi j _ _ _ _ _ hc q=>by
 have h1:(0:Int)<j:=hc.1;exact floordiv_int (by lia) (by rw[Int.fdiv_eq_ediv_of_nonneg i (by lia)];exact q) (.inl (PyProof.noPylong_of_log2 (log2_small hc.1 hc.2)))
theorem r9(hK:X.K=g.K){op:Operator}{o:O2}(h:o2 op=some o):OpR X (bC op) (rOp g o):=by
 have two:∀{f:ae->ae->Sem ae}{C:Int->Int->Prop}{q:Int->Int->Int} (o:O2),OpR X f (rI C λi j=>.int (q i j))->(∀da db d,op2 o da db=.ok d->∃i j,da=.int i/\db=.int j/\C i j/\d=.int (q i j))->OpR X f (rOp g o):=λo k e=>by
  refine OpR.imp k λx y H Q ⟨S,da,db,hs,ra,rb,m⟩=>?_
  cases e1:op2 o da db with
  |ok d=>
   rw[e1]at m;obtain⟨i,j,rfl,rfl,c,rfl⟩:=e da db d e1;exact⟨i,j,ra.int,rb.int,c,m _ _ (qa.refl _) (.int _) (λz=>nomatch z)⟩
  |ex c=>rw[e1]at m;exact m.elim
  |no=>rw[e1]at m;exact m.elim
 have two0:∀{f:ae->ae->Sem ae}{q:Int->Int->Int} (o:O2),OpR X f (rI0 λi j=>.int (q i j))->(∀da db d,op2 o da db=.ok d->∃i j,da=.int i/\db=.int j/\d=.int (q i j))->OpR X f (rOp g o):=λ{f q} o k e=>
  two (C:=λ_ _=>True) (q:=q) o (OpR.imp k λx y H Q ⟨i,j,h1,h2,_,h3⟩=>⟨i,j,h1,h2,h3⟩) λda db d h=>by
   obtain⟨i,j,h1,h2,h3⟩:=e da db d h;exact⟨i,j,h1,h2,trivial,h3⟩
 cases op<;>simp only[o2,bY]at h<;>first|subst h|cases h
 ·-- Add
  refine OpR.imp (oM.or (oH.or uL)) λx y H Q ⟨S,da,db,hs,ra,rb,m⟩=>?_
  cases da with
  |int i=>
   cases db with
   |int j=>exact .inl ⟨i,j,ra.int,rb.int,m _ _ (qa.refl _) (.int _) (λz=>nomatch z)⟩
   |_=>exact m.elim
  |tup xs=>
   cases db with
   |tup ys=>
    simp only[op2,true_and]at m;split at m
    ·rename_i e
     split at e<;>cases e
     rename_i hz
     obtain⟨a,vs,rfl,h1,r1⟩:=ra.tup;obtain⟨b,us,rfl,h2,r2⟩:=rb.tup;refine .inr (.inl ⟨a,b,vs,us,rfl,rfl,by rw[hK];exact h1,by rw[hK];exact h2,by rw[<-r1.length,<-r2.length];exact k9 hz,λe=>?_,λ_ e=>?_,λ_ _ p hp=>?_⟩)
     ·subst e;cases r1;exact m _ _ (qa.refl _) (rb.strong (by intro _ z;cases z)) (λz=>nomatch z)
     ·subst e;cases r2;rw[b_]at m;exact m _ _ (qa.refl _) (ra.strong (by intro _ z;cases z)) (λz=>nomatch z)
     ·exact m _ _ (zg hp) (fH hs hp (r1.append r2)) (λz=>nomatch z)
    ·exact m.elim
   |_=>exact m.elim
  |lst xs=>
   cases db with
   |lst ys=>
    simp only[op2,true_and]at m;split at m
    ·rename_i e
     split at e<;>cases e
     rename_i hz
     obtain⟨a,vs,rfl,h1,r1⟩:=ra.lst;obtain⟨b,us,rfl,h2,r2⟩:=rb.lst;refine .inr (.inr ⟨a,b,vs,us,rfl,rfl,by rw[hK];exact h1,by rw[hK];exact h2,by rw[<-r1.length,<-r2.length];exact k9 hz,λp hp=>?_⟩);exact m _ _ (zg hp) (eM hs hp (r1.append r2)) (λ_=>gU (qa.refl _) hp (r1.append r2))
    ·exact m.elim
   |_=>exact m.elim
  |_=>exact m.elim
 ·exact two0 .sub rz λda db d h=>by obtain⟨i,j,rfl,rfl,h'⟩:=dQ (by decide) (by decide) h;clear h;rename _=>h;cases h;exact⟨_,_,rfl,rfl,rfl⟩
 ·refine OpR.imp tP λx y H Q ⟨S,da,db,hs,ra,rb,m⟩=>?_
  cases e1:op2 .mul da db with
  |ok d=>
   rw[e1]at m;unfold op2 at e1;split at e1
   ·simp only[opI]at e1;split at e1
    ·rename_i i j hc
     cases e1;refine⟨i,j,ra.int,rb.int,?_,m _ _ (qa.refl _) (.int _) (λz=>nomatch z)⟩;rcases(by simpa using hc)with z|z
     ·exact .inl (mR z)
     ·exact .inr (mR z)
    ·cases e1
   ·rw[if_neg (λz=>nomatch z.1)]at e1;cases e1
   ·rw[if_neg (λz=>nomatch z.1)]at e1;cases e1
   ·cases e1
  |ex c=>rw[e1]at m;exact m.elim
  |no=>rw[e1]at m;exact m.elim
 ·exact two .mod wd λda db d h=>by obtain⟨i,j,rfl,rfl,h'⟩:=dQ (by decide) (by decide) h;clear h;rename _=>h;simp only[opI]at h;split at h<;>cases h;rename_i hc;exact⟨_,_,rfl,rfl,hc,rfl⟩
 ·exact two .pow rM λda db d h=>by obtain⟨i,j,rfl,rfl,h'⟩:=dQ (by decide) (by decide) h;clear h;rename _=>h;simp only[opI]at h;split at h<;>cases h;rename_i hc;exact⟨_,_,rfl,rfl,hc,rfl⟩
 ·exact two .shl pS λda db d h=>by obtain⟨i,j,rfl,rfl,h'⟩:=dQ (by decide) (by decide) h;clear h;rename _=>h;simp only[opI]at h;split at h<;>cases h;rename_i hc;exact⟨_,_,rfl,rfl,hc,rfl⟩
 ·exact two .shr xh λda db d h=>by obtain⟨i,j,rfl,rfl,h'⟩:=dQ (by decide) (by decide) h;clear h;rename _=>h;simp only[opI]at h;split at h<;>cases h;rename_i hc;exact⟨_,_,rfl,rfl,hc,rfl⟩
 ·exact two0 .bor vS λda db d h=>by obtain⟨i,j,rfl,rfl,h'⟩:=dQ (by decide) (by decide) h;clear h;rename _=>h;cases h;exact⟨_,_,rfl,rfl,rfl⟩
 ·exact two0 .bxor p5 λda db d h=>by obtain⟨i,j,rfl,rfl,h'⟩:=dQ (by decide) (by decide) h;clear h;rename _=>h;cases h;exact⟨_,_,rfl,rfl,rfl⟩
 ·exact two0 .band tJ λda db d h=>by obtain⟨i,j,rfl,rfl,h'⟩:=dQ (by decide) (by decide) h;clear h;rename _=>h;cases h;exact⟨_,_,rfl,rfl,rfl⟩
 ·exact two .fdiv wA λda db d h=>by obtain⟨i,j,rfl,rfl,h'⟩:=dQ (by decide) (by decide) h;clear h;rename _=>h;simp only[opI]at h;split at h<;>cases h;rename_i hc;exact⟨_,_,rfl,rfl,hc,rfl⟩
theorem gK(hK:X.K=g.K){pins:List (Addr×Obj)}{σ:L2.St}{H:Hp}{s:af}(I:Inv X pins σ H s){d:D}{v:V}{u:ae}(r:Rep g H d v)(a:d.asks=true)(ru:RelV v u):∃as,Reads s.heap u d.py as/\d.py.canLay0=true/\d.py.depth<=20:=by
 obtain⟨h1,h2⟩:=fh.mp a;have h:=r.data h1;rw[<-hK]at h;obtain⟨as,q⟩:=I.reads h ru;exact⟨as,q,kj h1,by rw[jz];exact h2⟩
theorem mY:∀(a b:List Int),dO a b=HT.lexLt a b
 | [],[]=>by simp[dO,HT.lexLt]
 | [],_::_=>by simp[dO,HT.lexLt]
 |_::_,[]=>by simp[dO,HT.lexLt]
 |a::r,b::t=>by
  simp only[dO,HT.lexLt];rw[mY r t]
  try (by_cases h:a=b<;>simp[h])
noncomputable def rCm(g:Gc)(c:C2):R2:=λx y H Q=>∃S da db,zp g H S da x/\zp g H S db y /\
 match qh c da db with
 | .ok b=>Q (.bl b) H
 |_=>False
open Classical in
noncomputable def dz(h:Heap)(q:PyData)(u:ae):Bool:=if e:∃d as,Reads h u d as then PyData.eqv e.choose q else false
theorem j9{h:Heap}{q d:PyData}{u:ae}{as:List Addr}(r:Reads h u d as):dz h q u=PyData.eqv d q:=by
 have e:∃d as,Reads h u d as:=⟨d,as,r⟩
 unfold dz;rw[dif_pos e];obtain⟨bs,r'⟩:=e.choose_spec;rw[(PySem.Reads.unique r' d as r).1]
theorem any_eq(hK:X.K=g.K){pins:List (Addr×Obj)}{σ:L2.St}{H:Hp}{s:af}(I:Inv X pins σ H s){da:D}(ha:da.asks=true){ds:List D}:∀{vs:List V}{us:List ae},qF g H ds vs->Vals vs us->ds.all D.asks=true ->
  us.any (dz s.heap da.py)=inD da ds/\∀u∈us,∃d as,Reads s.heap u d as/\d.canLay0=true/\d.depth<=20:=by
 induction ds with
 |nil=>intro vs us h r _;cases h;cases r;exact⟨rfl,λu h=>nomatch h⟩
 |cons d ds ih=>
  intro vs us h q e;cases h with
  |cons h r=>cases q with
   |cons q t=>
    rw[List.all_cons,aM]at e;obtain⟨as,h1,h2,h3⟩:=gK hK I h e.1 q;obtain⟨i1,i2⟩:=ih r t e.2;refine⟨?_,λu hu=>?_⟩
    ·rw[List.any_cons,i1,j9 h1,jf _ _ (fh.mp e.1).1 (fh.mp ha).1]
     rfl
    ·rcases aJ.mp hu with rfl|hu
     ·exact⟨_,as,h1,h2,h3⟩
     ·exact i2 u hu
theorem wK{A:az}{s:af}{u v:ae}{d:PyData}{as:List Addr}{q:PyData}{bs:List Addr}(hu:A.units+60<cLine)(r:Reads s.heap u d as)(r':Reads s.heap v q bs)(h1:d.canLay0=true)(h2:q.canLay0=true)(h3:d.depth<=20):SeqAt.EqAt A.in1 s u v (dz s.heap q u):=by
 rw[j9 r];refine SeqAt.eqAt_reads d q A.in1 s u v as bs r r' h1 h2 ?_;have:min d.depth q.depth<=d.depth:=Nat.min_le_left _ _;show A.units+1+_<_;lia
theorem k8(hK:X.K=g.K)(hu:X.A.units+64<cLine)(neg:Bool):OpR X (a8 (if neg then .NotIn else .In)) (λx y H Q=>∃S da db ds,zp g H S da x/\zp g H S db y/\seq? db=some ds/\da.asks=true/\ds.all D.asks=true/\Q (.bl (if neg then !inD da ds else inD da ds)) H):=by
 intro pins s σ H x y v u Q I rx ry h;obtain⟨S,da,db,ds,ra,rb,es,aa,ad,q⟩:=h;obtain⟨as,h1,h2,h3⟩:=gK hK I ra.rep aa rx;obtain⟨a,vs,rfl,hsq,rr⟩:=rb.seq es;cases ry;have go:∀{its:List ae},Vals vs its->(∀w∈its.toArray,SeqAt.EqAt X.A.in1 s w v (dz s.heap da.py w))/\its.toArray.any (dz s.heap da.py)=inD da ds:=λ{its} rv=>by
  obtain⟨i1,i2⟩:=any_eq hK I aa (rr.mono cX) rv ad;refine⟨λw hw=>?_,by simpa using i1⟩;obtain⟨d,bs,r1,r2,r3⟩:=i2 w (by simpa using hw);exact wK (Nat.lt_of_le_of_lt (Nat.add_le_add_left (by decide) _) hu) r1 h1 r2 h2 r3
 rcases hsq with hsq|hsq
 ·obtain⟨its,rv,pl,_⟩:=I.list (by rw[hK];exact hsq);obtain⟨g1,g2⟩:=go rv;cases neg with
  |false=>exact SeqAt.in_listAt (dz s.heap da.py) pl.isList g1 ⟨.bl _,H,I,rfl,by rw[g2];exact q⟩
  |true=>exact SeqAt.notIn_listAt (dz s.heap da.py) pl.isList g1 ⟨.bl _,H,I,rfl,by rw[g2];exact q⟩
 ·obtain⟨its,rv,pl,_⟩:=I.tuple (by rw[hK];exact hsq);obtain⟨g1,g2⟩:=go rv;cases neg with
  |false=>exact SeqAt.in_tupleAt (dz s.heap da.py) pl g1 ⟨.bl _,H,I,rfl,by rw[g2];exact q⟩
  |true=>exact SeqAt.notIn_tupleAt (dz s.heap da.py) pl g1 ⟨.bl _,H,I,rfl,by rw[g2];exact q⟩
theorem my(hK:X.K=g.K)(hu:X.A.units+64<cLine)(neg:Bool):OpR X (a8 (if neg then .NotEq else .Eq)) (λx y H Q=>∃S da db,zp g H S da x/\zp g H S db y/\da.asks=true/\db.asks=true/\Q (.bl (if neg then !da.eqv db else da.eqv db)) H):=by
 intro pins s σ H x y v u Q I rx ry h;obtain⟨S,da,db,ra,rb,aa,ab,q⟩:=h;obtain⟨as,h1,h2,h3⟩:=gK hK I ra.rep aa rx;obtain⟨bs,k1,k2,k3⟩:=gK hK I rb.rep ab ry;have e:=jf da db (fh.mp aa).1 (fh.mp ab).1;have room:X.A.units+min da.py.depth db.py.depth<cLine:=by
  have:min da.py.depth db.py.depth<=da.py.depth:=Nat.min_le_left _ _;lia
 cases neg with
 |false=>exact SeqAt.compareEq_reads h1 k1 h2 k2 room ⟨.bl _,H,I,by rw[e];rfl,q⟩
 |true=>exact SeqAt.compareNe_reads h1 k1 h2 k2 room ⟨.bl _,H,I,by rw[e];rfl,q⟩
theorem zp.non_iff{S:Sh}{H:Hp}{d:D}{v:V}(r:zp g H S d v):decide (v=.non)=fo d:=by
 cases r.rep<;>rfl
theorem dF{op:CmpOp}{c:C2}{r:R2}(h:OpR X (a8 op) r)(k:∀S da db b x y H Q,zp g H S da x->zp g H S db y->qh c da db=.ok b->Q (.bl b) H->r x y H Q):OpR X (a8 op) (rCm g c):=by
 refine OpR.imp h λx y H Q ⟨S,da,db,ra,rb,m⟩=>?_
 cases e:qh c da db with
 |ok b=>rw[e]at m;exact k S da db b x y H Q ra rb e m
 |ex c'=>rw[e]at m;exact m.elim
 |no=>rw[e]at m;exact m.elim
theorem px:OpR X (a8 .Is) (λx y H Q=>∃a b,x=.bl a/\y=.bl b/\Q (.bl (a==b)) H):=by
 intro pins s σ H x y v u Q I rx ry h;obtain⟨a,b,rfl,rfl,q⟩:=h;cases rx;cases ry;exact is_bool (g_ I q rfl)
theorem u6:OpR X (a8 .IsNot) (λx y H Q=>∃a b,x=.bl a/\y=.bl b/\Q (.bl (!(a==b))) H):=by
 intro pins s σ H x y v u Q I rx ry h;obtain⟨a,b,rfl,rfl,q⟩:=h;cases rx;cases ry;exact isnot_bool (g_ I q rfl)
theorem kx{n:Bool}{a b:EV.D}{c:Bool}(h:isB n a b=.ok c):∃x y,a=.bl x/\b=.bl y/\c=(n != (x==y)):=by
 unfold isB at h;split at h
 ·cases h;exact⟨_,_,rfl,rfl,rfl⟩
 ·cases h
theorem zV(hK:X.K=g.K)(hu:X.A.units+64<cLine)(op:CmpOp):OpR X (a8 op) (rCm g (c2 op)):=by
 cases op
 ·exact dF (my hK hu false) λS da db b x y H Q ra rb e q=>by
   simp only[c2,qh]at e;split at e<;>cases e
   rename_i a
   simp only[aM]at a;exact⟨S,da,db,ra,rb,a.1,a.2,q⟩
 ·exact dF (my hK hu true) λS da db b x y H Q ra rb e q=>by
   simp only[c2,qh]at e;split at e<;>cases e
   rename_i a
   simp only[aM]at a;exact⟨S,da,db,ra,rb,a.1,a.2,q⟩
 ·exact dF (oZ.or (sT (by lia))) λS da db b x y H Q ra rb e q=>by
   simp only[c2]at e;cases da with
   |int i=>
    cases db with
    |int j=>cases e;exact .inl ⟨i,j,ra.int,rb.int,q⟩
    |_=>cases e
   |tup xs=>
    cases db with
    |tup ys=>
     simp only[qh]at e;split at e
     ·rename_i ns ms e1 e2
      cases e;obtain⟨a,vs,rfl,h1,r1⟩:=ra.tup;obtain⟨b,us,rfl,h2,r2⟩:=rb.tup;obtain⟨rfl,_⟩:=r1.ints e1;obtain⟨rfl,_⟩:=r2.ints e2;exact .inr ⟨a,b,ns,ms,rfl,rfl,by rw[hK];exact h1,by rw[hK];exact h2,mY ns ms▸q⟩
     ·cases e
    |_=>cases e
   |_=>cases db<;>cases e
 ·exact dF u7 λS da db b x y H Q ra rb e q=>by
   cases da with
   |int i=>
    cases db with
    |int j=>cases e;exact⟨_,_,ra.int,rb.int,q⟩
    |_=>cases e
   |_=>cases e
 ·exact dF xi λS da db b x y H Q ra rb e q=>by
   cases da with
   |int i=>
    cases db with
    |int j=>cases e;exact⟨_,_,ra.int,rb.int,q⟩
    |_=>cases e
   |_=>cases e
 ·exact dF pI λS da db b x y H Q ra rb e q=>by
   cases da with
   |int i=>
    cases db with
    |int j=>cases e;exact⟨_,_,ra.int,rb.int,q⟩
    |_=>cases e
   |_=>cases e
 ·exact dF (u_.or px) λS da db b x y H Q ra rb e q=>by
   simp only[c2,qh]at e;split at e
   ·rename_i hd
    cases e;have hd:db=.non:=by cases db<;>first|rfl|cases hd
    subst hd;cases rb.rep;exact .inl ⟨rfl,by rw[ra.non_iff];exact q⟩
   ·obtain⟨a,c,rfl,rfl,rfl⟩:=kx e;cases ra.rep;cases rb.rep;exact .inr ⟨a,c,rfl,rfl,by cases a<;>cases c<;>exact q⟩
 ·exact dF (su.or u6) λS da db b x y H Q ra rb e q=>by
   simp only[c2,qh]at e;split at e
   ·rename_i hd
    cases e;have hd:db=.non:=by cases db<;>first|rfl|cases hd
    subst hd;cases rb.rep;exact .inl ⟨rfl,by rw[ra.non_iff];exact q⟩
   ·obtain⟨a,c,rfl,rfl,rfl⟩:=kx e;cases ra.rep;cases rb.rep;exact .inr ⟨a,c,rfl,rfl,by cases a<;>cases c<;>exact q⟩
 ·exact dF (k8 hK hu false) λS da db b x y H Q ra rb e q=>by
   simp only[c2,qh]at e;split at e
   ·rename_i xs es
    split at e<;>cases e
    rename_i a
    simp only[aM]at a;exact⟨S,da,db,xs,ra,rb,es,a.1,a.2,q⟩
   ·cases e
 ·exact dF (k8 hK hu true) λS da db b x y H Q ra rb e q=>by
   simp only[c2,qh]at e;split at e
   ·rename_i xs es
    split at e<;>cases e
    rename_i a
    simp only[aM]at a;exact⟨S,da,db,xs,ra,rb,es,a.1,a.2,q⟩
   ·cases e
end
abbrev eP(g:Gc)(H:Hp)(S:Sh):List D->List V->Prop:=Paired (zp g H S)
section
variable{X:Cx}{g:Gc}
theorem km{H:Hp}{ds:List D}{vs:List V}{i:Int}{d:D}(r:qF g H ds vs)(e:atI ds i=some d):∃v,atI vs i=some v/\Rep g H d v:=by
 unfold atI at e ⊢;rw[<-r.length];cases q:ixN ds.length i with
 |none=>rw[q]at e;cases e
 |some j=>rw[q]at e;exact r.get e
noncomputable def vo(g:Gc):R2:=λx y H Q=>∃S da db,zp g H S da x/\zp g H S db y /\
 match ixD da db with
 | .ok d=>∀v,Rep g (hid H S) d v->Q v H
 |_=>False
theorem vt(hK:X.K=g.K):IxR X (vo g):=by
 have k:IxR X (λx y H Q=>kU X.K x y H Q\/m9 X.K x y H Q):=pA.or pV;intro value slice pins s σ H x y v u Q I rx ry h hs;refine k value slice pins s σ H x y v u Q I rx ry ?_ hs;obtain⟨S,da,db,ra,rb,m⟩:=h;cases da with
 |tup xs=>
  cases db with
  |int i=>
   simp only[ixD]at m;cases e:atI xs i with
   |none=>rw[e]at m;exact m.elim
   |some d=>
    rw[e]at m;obtain⟨a,vs,rfl,h1,r1⟩:=ra.tup;obtain⟨w,h2,h3⟩:=km r1 e;exact .inr ⟨a,vs,i,w,rfl,rb.int,by rw[hK];exact h1,h2,m w h3⟩
  |_=>exact m.elim
 |lst xs=>
  cases db with
  |int i=>
   simp only[ixD]at m;cases e:atI xs i with
   |none=>rw[e]at m;exact m.elim
   |some d=>
    rw[e]at m;obtain⟨a,vs,rfl,h1,r1⟩:=ra.lst;obtain⟨w,h2,h3⟩:=km r1 e;exact .inl ⟨a,vs,i,w,rfl,rb.int,by rw[hK];exact h1,h2,m w h3⟩
  |_=>exact m.elim
 |_=>exact m.elim
noncomputable def n9(g:Gc):V->Option Int->Option Int->Hp->VK->Prop:=λx lo hi H Q=>∃S da,Sub S H/\zp g H S da x /\
 match slD da lo hi with
 | .ok d=>∀v H',qa H H'->Rep g (hid H' S) d v->Q v H'
 |_=>False
theorem xy{H:Hp}{ds:List D}{vs:List V}(r:qF g H ds vs)(lo hi:Option Int):qF g H (cutD ds lo hi) (eZ vs lo hi):=by
 unfold cutD eZ;rw[r.length];exact(r.drop _).take _
theorem q_(hK:X.K=g.K):SlR X (n9 g):=by
 intro pins s σ H x v vl vu lo hi sl Q I rx hs pl pu h;obtain⟨S,da,hS,ra,m⟩:=h;cases da with
 |lst xs=>
  obtain⟨a,vs,rfl,h1,r1⟩:=ra.lst;exact sv pins s σ H _ v vl vu lo hi sl Q I rx hs pl pu ⟨a,vs,rfl,by rw[hK];exact h1,λp hp=>m _ _ (zg hp) (eM hS hp (xy r1 lo hi))⟩
 |_=>exact m.elim
noncomputable def b1V:B1->ae
 | .len=>.builtin "len"
 | .tuple=>.type "tuple"
 | .list=>.type "list"
 | .sorted=>.builtin "sorted"
 | .all=>.builtin "all"
 | .any=>.builtin "any"
 | .sum=>.builtin "sum"
 | .min=>.builtin "min"
 | .max=>.builtin "max"
 | .abs=>.builtin "abs"
 | .int=>.type "int"
 | .bool=>.type "bool"
noncomputable def rB1(g:Gc)(b:B1):List V->Hp->VK->Prop:=λvs H Q=>∃S ds,Sub S H/\eP g H S ds vs /\
 match b1 b ds with
 | .ok d=>∀v H',qa H H'->Rep g (hid H' S) d v->(b=.list\/b=.sorted->Fr g H S H' d v)->Q v H'
 |_=>False
theorem zd.imp{f:ae}{r r':List V->Hp->VK->Prop}(h:zd X f r)(i:∀xs H Q,r' xs H Q->r xs H Q):zd X f r':=
 λpins s σ H xs us Q I rv q=>h pins s σ H xs us Q I rv (i _ _ _ q)
theorem eB{f:ae}{b:B1}{r:List V->Hp->VK->Prop}(h:zd X f r)
  (k:∀S ds d vs H Q,Sub S H->eP g H S ds vs->b1 b ds=.ok d->(∀v H',qa H H'->Rep g (hid H' S) d v->(b=.list\/b=.sorted->Fr g H S H' d v)->Q v H')->r vs H Q):zd X f (rB1 g b):=by
 refine zd.imp h λvs H Q ⟨S,ds,hs,rs,m⟩=>?_
 cases e:b1 b ds with
 |ok d=>rw[e]at m;exact k S ds d vs H Q hs rs e m
 |ex c=>rw[e]at m;exact m.elim
 |no=>rw[e]at m;exact m.elim
theorem gX{f:ae}{b:B1}(h1:∀d,b11 b d=.no)(h2:∀d e,b12 b d e=.no):zd X f (rB1 g b):=λpins s σ H xs us Q I rv ⟨S,ds,hs,rs,m⟩=>by
 have e:b1 b ds=.no:=by
  unfold b1;split
  ·exact h1 _
  ·exact h2 _ _
  ·rfl
 rw[e]at m;exact m.elim
theorem iu{b:B1}(hb:∀x y,b12 b x y=.no){ds:List D}{d:D}(h:b1 b ds=.ok d):∃x,ds=[x]/\b11 b x=.ok d:=by
 match ds,h with
 | [x],h=>exact⟨x,rfl,h⟩
 | [x,y],h=>have h:b12 b x y=.ok d:=h;rw[hb]at h;cases h
 | [],h=>cases h
 |_::_::_::_,h=>cases h
theorem lN{x r:D}{k:List D->R D}(h:eD x k=.ok r):∃xs,x=.lst xs/\k xs=.ok r:=by
 cases x with
 |lst xs=>exact⟨xs,rfl,h⟩
 |_=>cases h
theorem kQ{x y r:D}{k:Int->Int->R D}(h:iiR x y k=.ok r):∃i j,x=.int i/\y=.int j/\k i j=.ok r:=by
 cases x with
 |int i=>
  cases y with
  |int j=>exact⟨i,j,rfl,rfl,h⟩
  |_=>cases h
 |_=>cases h
theorem jB{α β:Type}{o:Option α}{k:α->R β}{r:β}(h:cg o k=.ok r):∃a,o=some a/\k a=.ok r:=by
 cases o with
 |some a=>exact⟨a,rfl,h⟩
 |none=>cases h
theorem iV{b:B1}{ds:List D}{d:D}{q:List D->R D}(h:b1 b ds=.ok d)(e:∀x,b1 b [x]=cg (seq? x) q)(n:ds.length≠1->b1 b ds=.no):∃x xs,ds=[x]/\seq? x=some xs/\q xs=.ok d:=by
 match ds with
 | []=>rw[n (by simp)]at h;cases h
 | [x]=>
  rw[e]at h;cases z:seq? x with
  |none=>rw[z]at h;cases h
  |some xs=>rw[z]at h;exact⟨x,xs,rfl,z,h⟩
 |x::y::r=>rw[n (by simp)]at h;cases h
theorem vB(hK:X.K=g.K):zd X (.builtin "len") (rB1 g .len):=eB oJ λS ds d vs H Q hs rs h q=>by
 obtain⟨x,xs,rfl,e,h⟩:=iV (q:=λxs=>.ok (.int xs.length)) h (λ_=>rfl) (λn=>by match ds,n with | [],_=>rfl | [_,_],_=>rfl|_::_::_::_,_=>rfl);cases h;cases rs with
 |cons r rs=>
  cases rs;obtain⟨a,us,rfl,h1,r1⟩:=r.seq e;exact⟨a,us,rfl,by rw[hK];exact h1,by rw[<-r1.length];exact q _ _ (qa.refl _) (.int _) (by simp)⟩
theorem xw(hK:X.K=g.K):zd X (.type "tuple") (rB1 g .tuple):=eB xC λS ds d vs H Q hs rs h q=>by
 obtain⟨x,xs,rfl,e,h⟩:=iV (q:=λxs=>.ok (.tup xs)) h (λ_=>rfl) (λn=>by match ds,n with | [],_=>rfl | [_,_],_=>rfl|_::_::_::_,_=>rfl);cases h;cases rs with
 |cons r rs=>
  cases rs;cases x with
  |lst ys=>
   cases e;obtain⟨a,us,rfl,h1,r1⟩:=r.lst;exact⟨a,us,rfl,.inl ⟨by rw[hK];exact h1,λp hp=>q _ _ (zg hp) (fH hs hp r1) (by simp)⟩⟩
  |tup ys=>
   cases e;have z:=r.strong (by intro _ z;cases z);obtain⟨a,us,rfl,h1,r1⟩:=r.tup;exact⟨a,us,rfl,.inr ⟨by rw[hK];exact h1,q _ _ (qa.refl _) z (by simp)⟩⟩
  |_=>cases e
theorem yi(hK:X.K=g.K):zd X (.type "list") (rB1 g .list):=eB uH λS ds d vs H Q hs rs h q=>by
 obtain⟨x,xs,rfl,e,h⟩:=iV (q:=λxs=>.ok (.lst xs)) h (λ_=>rfl) (λn=>by match ds,n with | [],_=>rfl | [_,_],_=>rfl|_::_::_::_,_=>rfl);cases h;cases rs with
 |cons r rs=>
  cases rs;obtain⟨a,us,rfl,h1,r1⟩:=r.seq e;exact⟨a,us,rfl,by rw[hK];exact h1,λp hp=>q _ _ (zg hp) (eM hs hp r1) λ_=>gU (qa.refl _) hp r1⟩
theorem rg(hc:X.calm=true)(al:Bool):zd X (.builtin (if al then "all" else "any")) (λxs H Q=>∃(l:Addr) (bs:List Bool),xs=[.ref l]/\SqL X.K H l (bs.map V.bl)/\Q (.bl (if al then bs.all id else bs.any id)) H):=by
 intro pins s σ H xs us Q I r h;obtain⟨l,bs,rfl,hl,q⟩:=h;obtain⟨u,rfl,ru⟩:=r.one;cases ru;obtain⟨its,rv,pl,hz⟩:=I.list hl;have e:=tY (A:=X.A) rv;subst e;have hlt:l<s.heap.objs.size:=by obtain⟨_,e,_⟩:=pl.isList;exact aK e
 have tr:TruthOf X.prog X.w X.A.in1 (λi v=>(bs.map ae.bool).toArray[i]? = some v) (λi=>(bs[i]?).getD al):=λi v s' Q' E' hP hQ=>by
  have hv:(bs.map ae.bool)[i]? = some v:=by simpa using hP
  rw[List.getElem?_map]at hv;cases e:bs[i]? with
  |none=>rw[e]at hv;cases hv
  |some b=>
   rw[e]at hv;cases hv;simp only[e,Option.getD_some]at hQ;exact bI hQ
 have wk:=Walks.list (prog:=X.prog) (w:=X.w) (A:=X.A.in1) (I.ok.hd hc) s.heap.objs.size l (a9 hlt) (bs.map ae.bool).toArray;cases al with
 |true=>
  refine call_all_walk (wpAny_pyIter_list pl.isList ?_);refine⟨s.heap.objs.size,[s.heap.objs.size,l],[s.heap.objs.size],_,_,_,_,rfl,wk,⟨⟨_,Heap.get?_push_size _ rfl,rfl,rfl⟩,pl.isList.push _⟩,tr,λh' tk hk=>?_⟩;have e:((a7 (bs.map ae.bool).toArray.size).all λi=>(bs[i]?).getD true)=bs.all id:=by
   rw[aU,aZ];exact LSm.range_all bs
  rw[e];exact⟨.bl _,H,I.kept (LSm.kept_iter hk),rfl,q⟩
 |false=>
  refine call_any_walk (wpAny_pyIter_list pl.isList ?_);refine⟨s.heap.objs.size,[s.heap.objs.size,l],[s.heap.objs.size],_,_,_,_,rfl,wk,⟨⟨_,Heap.get?_push_size _ rfl,rfl,rfl⟩,pl.isList.push _⟩,tr,λh' tk hk=>?_⟩;have e:((a7 (bs.map ae.bool).toArray.size).any λi=>(bs[i]?).getD false)=bs.any id:=by
   rw[aU,aZ,Bool.eq_iff_iff];simp only[List.any_eq_true,List.mem_range,id];constructor
   ·rintro⟨i,hi,e⟩;rw[List.getElem?_eq_getElem hi]at e;exact⟨_,cJ hi,e⟩
   ·rintro⟨b,hb,e⟩;obtain⟨i,hi,rfl⟩:=List.getElem_of_mem hb;exact⟨i,hi,by rw[List.getElem?_eq_getElem hi];exact e⟩
  rw[e];exact⟨.bl _,H,I.kept (LSm.kept_iter hk),rfl,q⟩
theorem nz(hK:X.K=g.K)(hc:X.calm=true)(al:Bool):zd X (.builtin (if al then "all" else "any")) (rB1 g (if al then .all else .any)):=eB (rg hc al) λS ds d vs H Q hs rs h q=>by
 obtain⟨xs,bs,rfl,e,rfl⟩:∃xs bs,ds=[.lst xs]/\bools? xs=some bs/\d=.bl (if al then bs.all id else bs.any id):=by
  cases al
  ·obtain⟨x,rfl,h'⟩:=iu (λ_ _=>rfl) h;obtain⟨xs,rfl,h'⟩:=lN h';obtain⟨bs,e,h'⟩:=jB h';cases h';exact⟨xs,bs,rfl,e,rfl⟩
  ·obtain⟨x,rfl,h'⟩:=iu (λ_ _=>rfl) h;obtain⟨xs,rfl,h'⟩:=lN h';obtain⟨bs,e,h'⟩:=jB h';cases h';exact⟨xs,bs,rfl,e,rfl⟩
 cases rs with
 |cons r rs=>
  cases rs;obtain⟨a,us,rfl,h1,r1⟩:=r.lst;have e2:=r1.bools e;subst e2;exact⟨a,bs,rfl,by rw[hK];exact h1,q _ _ (qa.refl _) (.bl _) (by cases al<;>simp)⟩
end
end EV
namespace TS
open PySem PyProof.Rows
noncomputable def lG:Bool->ah->Array ah->Nat->Nat->Nat->StateT aF Sem (Option Nat):=sortPriv% PySem.Builtin.gallop
noncomputable def mP:Array ah->Array ah->StateT aF Sem (Array ah):=sortPriv% PySem.Builtin.mergeLo
noncomputable def jT:Array ah->Array ah->StateT aF Sem (Array ah):=sortPriv% PySem.Builtin.mergeHi
theorem pr5{A1 A2 A3 A4 A5:Type}{F:A1×A2×A3×A4×A5->Prop}(h:∀x1 x2 x3 x4 x5,F (x1,x2,x3,x4,x5)):∀c,F c:=λ⟨x1,x2,x3,x4,x5⟩=>h x1 x2 x3 x4 x5
theorem pr6{A1 A2 A3 A4 A5 A6:Type}{F:A1×A2×A3×A4×A5×A6->Prop}(h:∀x1 x2 x3 x4 x5 x6,F (x1,x2,x3,x4,x5,x6)):∀c,F c:=λ⟨x1,x2,x3,x4,x5,x6⟩=>h x1 x2 x3 x4 x5 x6
theorem pr7{A1 A2 A3 A4 A5 A6 A7:Type}{F:A1×A2×A3×A4×A5×A6×A7->Prop}(h:∀x1 x2 x3 x4 x5 x6 x7,F (x1,x2,x3,x4,x5,x6,x7)):∀c,F c:=λ⟨x1,x2,x3,x4,x5,x6,x7⟩=>h x1 x2 x3 x4 x5 x6 x7
theorem exE{α:Type}{P:α->Prop}{C:Prop}(h:∀a,P a->C)(x:∃a,P a):C:=h _ x.choose_spec
theorem wpI{M:Model}{A:az}{E:ae->af->Prop}{s:af}{α σ:Type}{c:Prop}{i:Decidable c}{x y:StateT σ Sem α}{Q:α->σ->Prop}{st:σ}(h:c->wpS M A E s x Q st)(k:¬ c->wpS M A E s y Q st):wpS M A E s (if c then x else y) Q st:=by
 split
 ·exact h ‹_›
 ·exact k ‹_›
theorem stE{M:Model}{A:az}{E:ae->af->Prop}{s:af}{α σ:Type}{m:StateT σ Sem α}{Q:α->σ->Prop}{st st':σ}(h:st'=st)(k:wpS M A E s m Q st):wpS M A E s m Q st':=h▸k
structure Cmp(prog:aA)(w:av)(A:az)(s:af)(κ:SortKind)(D:ah->Prop)(LT:ah->ah->Bool):Prop where
 lt:∀x y,D x->D y->∀Q:Bool->af->Prop,Q (LT x y) s->ak (ar prog w) A (keyLt' κ x.1 y.1) Q (λ_ _=>False) s
 asym:∀x y,LT x y=true->LT y x=false
 neg:∀x y z,LT y x=false->LT z y=false->LT z x=false
section
variable{prog:aA}{w:av}{A:az}{E:ae->af->Prop}{s:af}{κ:SortKind}{D:ah->Prop}{LT:ah->ah->Bool}
theorem qT{arr:Array ah}{i:Nat}{x:ah}{Q:ah->aF->Prop}{st:aF}(hx:arr[i]? = some x)(h:Q x st):wpS (ar prog w) A E s (elem' arr i) Q st:=by
 rw[elem'_eq,hx];exact au h
theorem fS(C:Cmp prog w A s κ D LT){x y:ah}(hx:D x)(hy:D y){Q:Option Bool->aF->Prop}{st:aF}(hk:kindOf st=κ)(h:Q (some (LT x y)) st):wpS (ar prog w) A E s (lt' x y) Q st:=by
 rw[lt'_eq];refine ao (wpS_get ?_);rw[hk];refine ao (wpS_lift (wpAny_attempt (bS (C.lt x y hx hy (λb s'=>s'=s/\b=LT x y) ⟨rfl,rfl⟩) (λb s' hb=>?_) λ_ _ z=>z.elim)));obtain⟨rfl,rfl⟩:=hb;exact⟨rfl,au h⟩
noncomputable def bey(LT:ah->ah->Bool)(left:Bool)(key:ah)(x:ah):Bool:=if left then LT x key else !LT key x
theorem zY(C:Cmp prog w A s κ D LT){left:Bool}{key:ah}{arr:Array ah}{base n hint:Nat}{Q:Option Nat->aF->Prop}{st:aF}(hk:kindOf st=κ)(hkey:D key)(it:Nat->ah)(ha:∀i,i<n->arr[base+i]? = some (it i)/\D (it i))(hh:hint<n)
  (mono:∀i j,i<=j->j<n->bey LT left key (it j)=true->bey LT left key (it i)=true)
  (h:∀k,k<=n->(∀i,i<k->bey LT left key (it i)=true)->(∀i,k<=i->i<n->bey LT left key (it i)=false)->Q (some k) st):wpS (ar prog w) A E s (lG left key arr base n hint) Q st:=by
 have ask:∀(i:Nat) (R:Option Bool->aF->Prop),i<n->R (some (bey LT left key (it i))) st->wpS (ar prog w) A E s (do
   let x <-elem' arr (base+i)
   if left=true then lt' x key else do
    let r <-lt' key x
    pure (r.map (!·))) R st:=λi R hi hR=>by
  obtain⟨h1,h2⟩:=ha i hi;refine ao (qT h1 ?_);cases left with
  |true=>rw[if_pos rfl];exact fS C h2 hkey hk hR
  |false=>rw[if_neg (by decide)];exact ao (fS C hkey h2 hk (au hR))
 have mono':∀i j,i<=j->j<n->bey LT left key (it i)=false->bey LT left key (it j)=false:=λi j hij hj hf=>by
  cases q:bey LT left key (it j)with
  |false=>rfl
  |true=>rw[mono i j hij hj q]at hf;cases hf
 -- the last loop
 have fin:∀(lo hi:Nat) (f:Nat->Option (Option Nat)×Nat×Nat->StateT aF Sem (ForInStep (Option (Option Nat)×Nat×Nat))) (g:Option (Option Nat)×Nat×Nat->StateT aF Sem (Option Nat)),lo<=hi->hi<=n ->
   (∀i,i<lo->bey LT left key (it i)=true)->(∀i,hi<=i->i<n->bey LT left key (it i)=false) ->
   (∀i lo hi R,lo >= hi->R (.done (none,lo,hi)) st->wpS (ar prog w) A E s (f i (none,lo,hi)) R st) ->
   (∀i lo hi R,¬ lo >= hi->hi<=n->R (if bey LT left key (it (lo+(hi-lo)/2))=true then .yield (none,lo+(hi-lo)/2+1,hi)else .yield (none,lo,lo+(hi-lo)/2)) st->wpS (ar prog w) A E s (f i (none,lo,hi)) R st) ->
   (∀lo hi,Q (some hi) st->wpS (ar prog w) A E s (g (none,lo,hi)) Q st) ->
   wpS (ar prog w) A E s (forIn [:n] (none,lo,hi) f>>=g) Q st:=by
  intro lo hi f g h1 h2 hlo hhi hf1 hf2 hg;refine ao (wpS_forRange (λi c st'=>st'=st/\c.1=none/\c.2.1<=c.2.2/\c.2.2<=n/\c.2.2-c.2.1<=n-i/\(∀i,i<c.2.1->bey LT left key (it i)=true)/\(∀i,c.2.2<=i->i<n->bey LT left key (it i)=false)) ?_ ?_ ⟨rfl,rfl,h1,h2,by show hi-lo<=n-0;lia,hlo,hhi⟩)
  ·rintro i ⟨c0,lo,hi⟩ st' _ hi' ⟨rfl,rfl,g1,g2,g3,g4,g5⟩;dsimp only at g1 g2 g3 g4 g5 ⊢;by_cases hge:lo >= hi
   ·have:lo=hi:=by lia
    subst this;exact hf1 _ _ _ _ hge (hg _ _ (h lo g2 g4 g5))
   ·refine hf2 _ _ _ _ hge g2 ?_;cases q:bey LT left key (it (lo+(hi-lo)/2))with
    |true=>
     rw[if_pos rfl];refine⟨rfl,rfl,?_,g2,?_,λj hj=>?_,g5⟩
     ·show lo+(hi-lo)/2+1<=hi;lia
     ·show hi-(lo+(hi-lo)/2+1)<=n-(i+1);lia
     ·exact mono j _ (by have:j<lo+(hi-lo)/2+1:=hj;lia) (by lia) q
    |false=>
     rw[if_neg (by decide)];refine⟨rfl,rfl,?_,?_,?_,g4,λj hj hjn=>?_⟩
     ·show lo<=lo+(hi-lo)/2;lia
     ·show lo+(hi-lo)/2<=n;lia
     ·show lo+(hi-lo)/2-lo<=n-(i+1);lia
     ·exact mono' _ j hj hjn q
  ·rintro⟨c0,lo,hi⟩ st' ⟨rfl,rfl,g1,g2,g3,g4,g5⟩;dsimp only at g1 g2 g3 g4 g5;have:lo=hi:=by lia
   subst this;exact hg _ _ (h lo g2 g4 g5)
 unfold lG;refine ao (ask hint _ hh ?_);cases q:bey LT left key (it hint)with
 |true=>
  dsimp only;rw[if_pos rfl];refine ao (wpS_forRange (λi c st'=>st'=st/\c.1=none/\c.2.1<c.2.2/\i+1<=c.2.2/\hint+c.2.1<n/\bey LT left key (it (hint+c.2.1))=true) ?_ ?_ ⟨rfl,rfl,by show 0<1;lia,by show 0+1<=1;lia,by show hint+0<n;lia,by show bey LT left key (it (hint+0))=true;exact q⟩)
  ·rintro i ⟨c0,la,ofs⟩ st' _ hi' ⟨rfl,rfl,g1,g2,g3,g4⟩;dsimp only at g1 g2 g3 g4 ⊢;by_cases hge:ofs >= n-hint
   ·rw[if_pos hge];refine au ?_;refine fin (hint+la+1) (hint+min ofs (n-hint)) _ _ (by lia) (by lia) (λj hj=>mono j _ (by lia) g3 g4) (λj hj hjn=>by lia) ?_ ?_ ?_
    ·intro i lo hi R hge hR;dsimp only;rw[if_pos hge];exact au hR
    ·intro i lo hi R hge hn hR;dsimp only;rw[if_neg hge];refine ao (ask _ _ (by lia) ?_);cases q9:bey LT left key (it (lo+(hi-lo)/2))with
     |true=>rw[q9]at hR;exact au hR
     |false=>rw[q9]at hR;exact au hR
    ·intro lo hi hQ;exact au hQ
   ·rw[if_neg hge];refine ao (ask _ _ (by lia) ?_);cases q2:bey LT left key (it (hint+ofs))with
    |false=>
     refine au ?_;refine fin (hint+la+1) (hint+min ofs (n-hint)) _ _ (by lia) (by lia) (λj hj=>mono j _ (by lia) g3 g4) (λj hj hjn=>mono' (hint+ofs) j (by lia) hjn q2) ?_ ?_ ?_
     ·intro i lo hi R hge hR;dsimp only;rw[if_pos hge];exact au hR
     ·intro i lo hi R hge hn hR;dsimp only;rw[if_neg hge];refine ao (ask _ _ (by lia) ?_);cases q9:bey LT left key (it (lo+(hi-lo)/2))with
      |true=>rw[q9]at hR;exact au hR
      |false=>rw[q9]at hR;exact au hR
     ·intro lo hi hQ;exact au hQ
    |true=>
     refine au ⟨rfl,rfl,?_,?_,?_,q2⟩
     ·show ofs<2 * ofs+1;lia
     ·show i+1+1<=2 * ofs+1;lia
     ·show hint+ofs<n;lia
  ·rintro⟨c0,la,ofs⟩ st' ⟨rfl,rfl,g1,g2,g3,g4⟩;dsimp only at g1 g2 g3 g4;refine fin (hint+la+1) (hint+min ofs (n-hint)) _ _ (by lia) (by lia) (λj hj=>mono j _ (by lia) g3 g4) (λj hj hjn=>by lia) ?_ ?_ ?_
   ·intro i lo hi R hge hR;dsimp only;rw[if_pos hge];exact au hR
   ·intro i lo hi R hge hn hR;dsimp only;rw[if_neg hge];refine ao (ask _ _ (by lia) ?_);cases q9:bey LT left key (it (lo+(hi-lo)/2))with
    |true=>rw[q9]at hR;exact au hR
    |false=>rw[q9]at hR;exact au hR
   ·intro lo hi hQ;exact au hQ
 |false=>
  dsimp only;rw[if_neg (by decide)];refine ao (wpS_forRange (λi c st'=>st'=st/\c.1=none/\c.2.1<c.2.2/\i+1<=c.2.2/\c.2.1<=hint/\bey LT left key (it (hint-c.2.1))=false) ?_ ?_ ⟨rfl,rfl,by show 0<1;lia,by show 0+1<=1;lia,by show 0<=hint;lia,by show bey LT left key (it (hint-0))=false;exact q⟩)
  ·rintro i ⟨c0,la,ofs⟩ st' _ hi' ⟨rfl,rfl,g1,g2,g3,g4⟩;dsimp only at g1 g2 g3 g4 ⊢;by_cases hge:ofs >= hint+1
   ·rw[if_pos hge];refine au ?_;refine fin (hint+1-min ofs (hint+1)) (hint-la) _ _ (by lia) (by lia) (λj hj=>by lia) (λj hj hjn=>mono' (hint-la) j (by lia) hjn g4) ?_ ?_ ?_
    ·intro i lo hi R hge hR;dsimp only;rw[if_pos hge];exact au hR
    ·intro i lo hi R hge hn hR;dsimp only;rw[if_neg hge];refine ao (ask _ _ (by lia) ?_);cases q9:bey LT left key (it (lo+(hi-lo)/2))with
     |true=>rw[q9]at hR;exact au hR
     |false=>rw[q9]at hR;exact au hR
    ·intro lo hi hQ;exact au hQ
   ·rw[if_neg hge];refine ao (ask _ _ (by lia) ?_);cases q2:bey LT left key (it (hint-ofs))with
    |true=>
     refine au ?_;refine fin (hint+1-min ofs (hint+1)) (hint-la) _ _ (by lia) (by lia) (λj hj=>mono j (hint-ofs) (by lia) (by lia) q2) (λj hj hjn=>mono' (hint-la) j (by lia) hjn g4) ?_ ?_ ?_
     ·intro i lo hi R hge hR;dsimp only;rw[if_pos hge];exact au hR
     ·intro i lo hi R hge hn hR;dsimp only;rw[if_neg hge];refine ao (ask _ _ (by lia) ?_);cases q9:bey LT left key (it (lo+(hi-lo)/2))with
      |true=>rw[q9]at hR;exact au hR
      |false=>rw[q9]at hR;exact au hR
     ·intro lo hi hQ;exact au hQ
    |false=>
     refine au ⟨rfl,rfl,?_,?_,?_,q2⟩
     ·show ofs<2 * ofs+1;lia
     ·show i+1+1<=2 * ofs+1;lia
     ·show ofs<=hint;lia
  ·rintro⟨c0,la,ofs⟩ st' ⟨rfl,rfl,g1,g2,g3,g4⟩;dsimp only at g1 g2 g3 g4;refine fin (hint+1-min ofs (hint+1)) (hint-la) _ _ (by lia) (by lia) (λj hj=>by lia) (λj hj hjn=>mono' (hint-la) j (by lia) hjn g4) ?_ ?_ ?_
   ·intro i lo hi R hge hR;dsimp only;rw[if_pos hge];exact au hR
   ·intro i lo hi R hge hn hR;dsimp only;rw[if_neg hge];refine ao (ask _ _ (by lia) ?_);cases q9:bey LT left key (it (lo+(hi-lo)/2))with
    |true=>rw[q9]at hR;exact au hR
    |false=>rw[q9]at hR;exact au hR
   ·intro lo hi hQ;exact au hQ
end
structure Wo(LT:ah->ah->Bool):Prop where
 asym:∀x y,LT x y=true->LT y x=false
 neg:∀x y z,LT y x=false->LT z y=false->LT z x=false
section
variable{LT:ah->ah->Bool}
theorem Wo.irr(W:Wo LT)(x:ah):LT x x=false:=by
 cases h:LT x x with
 |false=>rfl
 |true=>have:=W.asym x x h;rw[h]at this;cases this
theorem Wo.le_lt(W:Wo LT){x y z:ah}(h1:LT y x=false)(h2:LT y z=true):LT x z=true:=by
 cases h:LT x z with
 |true=>rfl
 |false=>have:=W.neg z x y h h1;rw[h2]at this;cases this
theorem Wo.lt_le(W:Wo LT){x y z:ah}(h1:LT x y=true)(h2:LT z y=false):LT x z=true:=by
 cases h:LT x z with
 |true=>rfl
 |false=>have:=W.neg y z x h2 h;rw[h1]at this;cases this
noncomputable def Srt(LT:ah->ah->Bool)(l:List ah):Prop:=l.Pairwise λx y=>LT y x=false
abbrev df:Keyed:=(ae.none,ae.none)
noncomputable def at'(a:Array ah)(i:Nat):Keyed:=a.getD i df
theorem qg{a:Array ah}{i:Nat}(h:i<a.size):a[i]? = some (at' a i):=by
 unfold at' Array.getD;rw[dif_pos h];exact Array.getElem?_eq_getElem h
theorem gE{a:Array ah}{i:Nat}(h:i<a.size):at' a i∈a.toList:=by
 have:=qg h;rw[<-Array.getElem?_toList]at this;exact List.mem_of_getElem? this
theorem zC(W:Wo LT){a:Array ah}(h:Srt LT a.toList){i j:Nat}(hij:i<=j)(hj:j<a.size):LT (at' a j) (at' a i)=false:=by
 by_cases e:i=j
 ·subst e;exact W.irr _
 ·have hi:i<a.toList.length:=by rw[aV];lia
  have hj':j<a.toList.length:=by rw[aV];lia
  have:=List.pairwise_iff_getElem.mp h i j hi hj' (by lia);have e1:=qg (a:=a) (i:=i) (by lia);have e2:=qg (a:=a) (i:=j) hj;rw[<-Array.getElem?_toList,List.getElem?_eq_getElem hi]at e1;rw[<-Array.getElem?_toList,List.getElem?_eq_getElem hj']at e2;injection e1 with e1
  injection e2 with e2
  rw[<-e1,<-e2];exact this
theorem qG{a:Array ah}{i j:Nat}{x:ah}(h:x∈(a.extract i j).toList):∃k,i<=k/\k<j/\k<a.size/\x=at' a k:=by
 obtain⟨m,hm⟩:=List.mem_iff_getElem?.mp h;rw[Array.getElem?_toList,Array.getElem?_extract]at hm;split at hm
 ·rename_i hlt
  have hk:i+m<a.size:=(Array.getElem?_eq_some_iff.mp hm).1;rw[qg hk]at hm;injection hm with hm
  exact⟨i+m,by lia,by lia,hk,hm.symm⟩
 ·cases hm
theorem zv(a:Array ah)(i j:Nat):(a.extract i j).toList=(a.toList.drop i).take (j-i):=by
 simp[Array.toList_extract]
theorem zF{a:Array ah}(h:Srt LT a.toList)(i j:Nat):Srt LT (a.extract i j).toList:=by
 rw[zv];exact(h.sublist (List.drop_sublist _ _)).sublist (List.take_sublist _ _)
structure MI(LT:ah->ah->Bool)(a b out:Array ah)(ia ib:Nat):Prop where
 pm:out.toList.Perm (a.toList.take ia++b.toList.take ib)
 sr:Srt LT out.toList
 la:∀x∈out.toList,∀j,ia<=j->j<a.size->LT (at' a j) x=false
 lb:∀x∈out.toList,∀j,ib<=j->j<b.size->LT (at' b j) x=false
variable{a b out:Array ah}{ia ib:Nat}
theorem lZ{l:List ah}{i k:Nat}:l.take (i+k)=l.take i++(l.drop i).take k:=List.take_add
theorem MI.takeA(W:Wo LT)(h:MI LT a b out ia ib)(Sa:Srt LT a.toList)(k:Nat)(hb:∀i,ia<=i->i<ia+k->i<a.size->∀j,ib<=j->j<b.size->LT (at' b j) (at' a i)=false):MI LT a b (out++a.extract ia (ia+k)) (ia+k) ib:=by
 refine⟨?_,?_,λx hx j h1 h2=>?_,λx hx j h1 h2=>?_⟩
 ·rw[a6,zv,lZ,show ia+k-ia=k by lia];refine(h.pm.append_right _).trans ?_;rw[bg,bg];exact(List.perm_append_comm).append_left _
 ·rw[a6];refine List.pairwise_append.mpr ⟨h.sr,zF Sa _ _,λx hx y hy=>?_⟩;obtain⟨i,g1,g2,g3,rfl⟩:=qG hy;exact h.la x hx i g1 g3
 ·rw[a6]at hx;rcases List.mem_append.mp hx with hx|hx
  ·exact h.la x hx j (by lia) h2
  ·obtain⟨i,g1,g2,g3,rfl⟩:=qG hx;exact zC W Sa (by lia) h2
 ·rw[a6]at hx;rcases List.mem_append.mp hx with hx|hx
  ·exact h.lb x hx j h1 h2
  ·obtain⟨i,g1,g2,g3,rfl⟩:=qG hx;exact hb i g1 g2 g3 j h1 h2
theorem MI.takeB(W:Wo LT)(h:MI LT a b out ia ib)(Sb:Srt LT b.toList)(k:Nat)(hb:∀i,ib<=i->i<ib+k->i<b.size->∀j,ia<=j->j<a.size->LT (at' a j) (at' b i)=false):MI LT a b (out++b.extract ib (ib+k)) ia (ib+k):=by
 refine⟨?_,?_,λx hx j h1 h2=>?_,λx hx j h1 h2=>?_⟩
 ·rw[a6,zv,lZ,show ib+k-ib=k by lia,<-bg];exact h.pm.append_right _
 ·rw[a6];refine List.pairwise_append.mpr ⟨h.sr,zF Sb _ _,λx hx y hy=>?_⟩;obtain⟨i,g1,g2,g3,rfl⟩:=qG hy;exact h.lb x hx i g1 g3
 ·rw[a6]at hx;rcases List.mem_append.mp hx with hx|hx
  ·exact h.la x hx j h1 h2
  ·obtain⟨i,g1,g2,g3,rfl⟩:=qG hx;exact hb i g1 g2 g3 j h1 h2
 ·rw[a6]at hx;rcases List.mem_append.mp hx with hx|hx
  ·exact h.lb x hx j (by lia) h2
  ·obtain⟨i,g1,g2,g3,rfl⟩:=qG hx;exact zC W Sb (by lia) h2
theorem ja{a out:Array ah}{i:Nat}(h:i<a.size):out.push (at' a i)=out++a.extract i (i+1):=by
 apply Array.toList_inj.mp;rw[Array.toList_push,a6,zv,show i+1-i=1 by lia]
 congr 1
 have hl:i<a.toList.length:=by rw[aV];exact h
 rw[dR hl];have e1:=qg (a:=a) (i:=i) h;rw[<-Array.getElem?_toList,List.getElem?_eq_getElem hl]at e1;injection e1 with e1
 rw[e1];rfl
theorem MI.pushA(W:Wo LT)(h:MI LT a b out ia ib)(Sa:Srt LT a.toList)(Sb:Srt LT b.toList)(hi:ia<a.size)(hb:ib<b.size->LT (at' b ib) (at' a ia)=false):MI LT a b (out.push (at' a ia)) (ia+1) ib:=by
 rw[ja hi];refine h.takeA W Sa 1 λi h1 h2 _ j g1 g2=>?_
 have:i=ia:=by lia
 subst this;exact W.neg _ _ _ (hb (by lia)) (zC W Sb g1 g2)
theorem MI.pushB(W:Wo LT)(h:MI LT a b out ia ib)(Sa:Srt LT a.toList)(Sb:Srt LT b.toList)(hi:ib<b.size)(hb:ia<a.size->LT (at' b ib) (at' a ia)=true):MI LT a b (out.push (at' b ib)) ia (ib+1):=by
 rw[ja hi];refine h.takeB W Sb 1 λi h1 h2 _ j g1 g2=>?_
 have:i=ib:=by lia
 subst this;exact W.neg _ _ _ (W.asym _ _ (hb (by lia))) (zC W Sa g1 g2)
noncomputable def Mg(LT:ah->ah->Bool)(a b r:Array ah):Prop:=r.toList.Perm (a.toList++b.toList)/\Srt LT r.toList
theorem MI.done(W:Wo LT)(h:MI LT a b out ia ib)(Sa:Srt LT a.toList)(Sb:Srt LT b.toList)(he:ib=b.size\/ia=a.size):Mg LT a b (out++a.extract ia++b.extract ib):=by
 have ea:(a.extract ia).toList=a.toList.drop ia:=by
  rw[zv];exact List.take_of_length_le (by simp)
 have eb:(b.extract ib).toList=b.toList.drop ib:=by
  rw[zv];exact List.take_of_length_le (by simp)
 refine⟨?_,?_⟩
 ·rw[a6,a6,ea,eb];refine((h.pm.append_right _).append_right _).trans ?_;have e1:=bA ia a.toList;have e2:=bA ib b.toList;rcases he with he|he
  ·have z1:b.toList.drop ib=[]:=List.drop_eq_nil_of_le (by rw[aV];lia);have z2:b.toList.take ib=b.toList:=List.take_of_length_le (by rw[aV];lia);rw[z1,z2,b_,bg];refine(List.perm_append_comm.append_left _).trans ?_;rw[<-bg,e1]
  ·have z1:a.toList.drop ia=[]:=List.drop_eq_nil_of_le (by rw[aV];lia);have z2:a.toList.take ia=a.toList:=List.take_of_length_le (by rw[aV];lia);rw[z1,z2,b_,bg,e2]
 ·rw[a6,a6];refine List.pairwise_append.mpr ⟨List.pairwise_append.mpr ⟨h.sr,zF Sa _ _,λx hx y hy=>?_⟩,zF Sb _ _,λx hx y hy=>?_⟩
  ·obtain⟨i,g1,g2,g3,rfl⟩:=qG hy;exact h.la x hx i g1 g3
  ·obtain⟨i,g1,g2,g3,rfl⟩:=qG hy;rcases List.mem_append.mp hx with hx|hx
   ·exact h.lb x hx i g1 g3
   ·obtain⟨j,k1,k2,k3,rfl⟩:=qG hx;lia
theorem MI.last(W:Wo LT)(h:MI LT a b out ia ib)(Sa:Srt LT a.toList)(Sb:Srt LT b.toList)(hl:ia+1=a.size)(hb:∀j,j<b.size->LT (at' b j) (at' a ia)=true):Mg LT a b (out++b.extract ib++a.extract ia):=by
 have ea:(a.extract ia).toList=a.toList.drop ia:=by
  rw[zv];exact List.take_of_length_le (by simp)
 have eb:(b.extract ib).toList=b.toList.drop ib:=by
  rw[zv];exact List.take_of_length_le (by simp)
 refine⟨?_,?_⟩
 ·rw[a6,a6,ea,eb];refine((h.pm.append_right _).append_right _).trans ?_;have e1:=bA ia a.toList;have e2:=bA ib b.toList;rw[bg (a.toList.take ia),e2];refine(List.perm_append_comm.append_right _).trans ?_;rw[bg,e1];exact List.perm_append_comm
 ·rw[a6,a6];refine List.pairwise_append.mpr ⟨List.pairwise_append.mpr ⟨h.sr,zF Sb _ _,λx hx y hy=>?_⟩,zF Sa _ _,λx hx y hy=>?_⟩
  ·obtain⟨i,g1,g2,g3,rfl⟩:=qG hy;exact h.lb x hx i g1 g3
  ·obtain⟨i,g1,g2,g3,rfl⟩:=qG hy;rcases List.mem_append.mp hx with hx|hx
   ·exact h.la x hx i g1 g3
   ·obtain⟨j,k1,k2,k3,rfl⟩:=qG hx;have:i=ia:=by lia
    subst this;exact W.asym _ _ (hb j k3)
end
abbrev setG(st:aF)(g:Nat):SortSt:=aF.mk' (kindOf st) (ag st) (aQ st) g (failedOf st)
section
variable{prog:aA}{w:av}{A:az}{E:ae->af->Prop}{s:af}{κ:SortKind}{D:ah->Prop}{LT:ah->ah->Bool}
theorem Cmp.wo(C:Cmp prog w A s κ D LT):Wo LT:=⟨C.asym,C.neg⟩
theorem iL(W:Wo LT){a:Array ah}(S:Srt LT a.toList){left:Bool}{key:ah}{base n:Nat}(hn:base+n<=a.size):∀i j,i<=j->j<n->bey LT left key (at' a (base+j))=true->bey LT left key (at' a (base+i))=true:=by
 intro i j hij hj h;have o:=zC W S (show base+i<=base+j by lia) (by lia);cases left with
 |true=>
  have h:LT (at' a (base+j)) key=true:=h;show LT (at' a (base+i)) key=true;exact W.le_lt o h
 |false=>
  have h:(!LT key (at' a (base+j)))=true:=h;show (!LT key (at' a (base+i)))=true;have h':LT key (at' a (base+j))=false:=by simpa using h
  rw[W.neg _ _ _ o h'];rfl
theorem share1{α γ:Type}{M:Model}{c:α->Prop} [∀u,Decidable (c u)]{X F:α->StateT aF Sem γ}{Q:γ->aF->Prop}{st:aF}(hG:(∀u,wpS M A E s (F u) Q st)->∀u,wpS M A E s (if c u then X u else F u) Q st)(H:∀u,wpS M A E s (F u) Q st):∀u,wpS M A E s (if c u then X u else F u) Q st:=hG H
theorem gN{α β γ:Type}{M:Model}{c:Prop} [Decidable c]{X F:α->β->StateT aF Sem γ}{x:α}{y:β}{Q:γ->aF->Prop}{st:aF}(C:α->β->Prop)(hG:(∀u v,C u v->wpS M A E s (F u v) Q st)->∀u,x=u->∀v,y=v->wpS M A E s (if c then X u v else F u v) Q st)(H:∀u v,C u v->wpS M A E s (F u v) Q st):∀u,x=u->∀v,y=v->wpS M A E s (if c then X u v else F u v) Q st:=hG H
theorem mi0{a b:Array ah}:MI LT a b #[] 0 0:=⟨by simp,by simp[Srt],by simp,by simp⟩
theorem xm(C:Cmp prog w A s κ D LT){a b:Array ah}{st:aF}{Q:Array ah->aF->Prop}(hk:kindOf st=κ)(Da:∀i,i<a.size->D (at' a i))(Db:∀i,i<b.size->D (at' b i))(Sa:Srt LT a.toList)(Sb:Srt LT b.toList)
  (ha:0<a.size) (hb:0<b.size) (h0:LT (at' b 0) (at' a 0)=true) (hl:∀j,j<b.size->LT (at' b j) (at' a (a.size-1))=true) (h:∀r g,Mg LT a b r->Q r (setG st g)):wpS (ar prog w) A E s (mP a b) Q st:=by
 have W:=C.wo;have lastA:∀{ia:Nat},ia+1=a.size->∀j,j<b.size->LT (at' b j) (at' a ia)=true:=λ{ia} e j hj=>by
  have:ia=a.size-1:=by lia
  rw[this];exact hl j hj
 unfold mP;refine ao (wpS_lift (wpAny_rule ⟨rfl,?_⟩));refine ao (qT (qg hb) ?_);have M1:MI LT a b #[at' b 0] 0 1:=(mi0 (LT:=LT)).pushB W Sa Sb hb λ_=>h0
 dsimp only;refine wpI (λe1=>?_) λe1=>?_
 ·exact au (h _ (gallopOf st) (M1.done W Sa Sb (.inl (by simpa using e1))))
 refine wpI (λe2=>?_) λe2=>?_
 ·exact au (h _ (gallopOf st) (M1.last W Sa Sb (by simpa using e2) (lastA (by simpa using e2))))
 have e1':1≠b.size:=by simpa using e1
 have e2':1≠a.size:=by simpa using e2
 refine ao (wpS_get ?_);refine ao (wpS_mono (Q:=λc st'=>∃r g,c.1=some r/\Mg LT a b r/\st'=setG st g) ?_ ?_)
 ·refine wpS_forRange (λi c st'=>∃g,st'=setG st g/\c.1=none/\MI LT a b c.2.1 c.2.2.1 c.2.2.2.1/\c.2.2.1+1<a.size/\c.2.2.2.1<b.size/\i<=c.2.2.1+c.2.2.2.1) ?_ ?_ ⟨gallopOf st,rfl,rfl,M1,by show 0+1<a.size;lia,by show 1<b.size;lia,bp _⟩
  ·refine λi=>pr5 λc0 out ia ib mg st' _ hi x=>exE (λg y=>stE y.1 ?_) x
   clear x;have M:=y.2.2.1;have h1:=y.2.2.2.1;have h2:=y.2.2.2.2.1;have h3:=y.2.2.2.2.2;clear y;dsimp only at M h1 h2 h3 ⊢;refine ao (wpS_mono (Q:=λc st'=>st'=setG st g/\((∃r,c.1=some r/\Mg LT a b r)\/(c.1=none/\MI LT a b c.2.1 c.2.2.1 c.2.2.2.1/\c.2.2.1+1<a.size/\c.2.2.2.1<b.size/\ia+ib+1<=c.2.2.1+c.2.2.2.1))) ?_ ?_)
   ·refine wpS_forRange (λj c st'=>st'=setG st g/\c.1=none/\MI LT a b c.2.1 c.2.2.1 c.2.2.2.1/\c.2.2.1+1<a.size/\c.2.2.2.1<b.size/\ia+ib+j<=c.2.2.1+c.2.2.2.1) ?_ ?_ ⟨rfl,rfl,M,h1,h2,aD _⟩
    ·refine λj=>pr6 λc0 out ia2 ib2 ac bc st' _ hj y=>stE y.1 ?_
     have M:=y.2.2.1;have h1:=y.2.2.2.1;have h2:=y.2.2.2.2.1;have h3:=y.2.2.2.2.2;clear y;dsimp only at M h1 h2 h3 ⊢;refine ao (qT (qg h2) ?_);refine ao (qT (qg (show ia2<a.size by lia)) ?_);refine ao (fS C (Db _ h2) (Da _ (by lia)) hk ?_);dsimp only;refine wpI (λq=>?_) λq=>?_
     ·refine ao (qT (qg h2) ?_);have M2:=M.pushB W Sa Sb h2 λ_=>q
      refine wpI (λe3=>?_) λe3=>?_
      ·exact au ⟨rfl,.inl ⟨_,rfl,M2.done W Sa Sb (.inl (by simpa using e3))⟩⟩
      have e3':ib2+1≠b.size:=by simpa using e3
      refine wpI (λe4=>?_) λe4=>?_
      ·exact au ⟨rfl,.inr ⟨rfl,M2,h1,by show ib2+1<b.size;lia,by show ia+ib+1<=ia2+(ib2+1);lia⟩⟩
      ·exact au ⟨rfl,rfl,M2,h1,by show ib2+1<b.size;lia,by show ia+ib+(j+1)<=ia2+(ib2+1);lia⟩
     ·have q:=eq_false_of_ne_true q;refine ao (qT (qg (show ia2<a.size by lia)) ?_);have M2:=M.pushA W Sa Sb (by lia) λ_=>q
      refine wpI (λe3=>?_) λe3=>?_
      ·exact au ⟨rfl,.inl ⟨_,rfl,M2.last W Sa Sb (by simpa using e3) (lastA (by simpa using e3))⟩⟩
      have e3':ia2+1+1≠a.size:=by simpa using e3
      refine wpI (λe4=>?_) λe4=>?_
      ·exact au ⟨rfl,.inr ⟨rfl,M2,by show ia2+1+1<a.size;lia,h2,by show ia+ib+1<=ia2+1+ib2;lia⟩⟩
      ·exact au ⟨rfl,rfl,M2,by show ia2+1+1<a.size;lia,h2,by show ia+ib+(j+1)<=ia2+1+ib2;lia⟩
    ·rintro⟨c0,out,ia2,ib2,ac,bc⟩ st' ⟨rfl,rfl,M,h1,h2,h3⟩;dsimp only at M h1 h2 h3;exact absurd h3 (by lia)
   ·refine pr6 λc0 out ia2 ib2 ac bc st' y=>stE y.1 ?_
    have hc:=y.2;clear y;dsimp only at hc ⊢;rcases hc with ⟨r,rfl,hm⟩|⟨rfl,M,h1,h2,h3⟩
    ·exact au ⟨r,g,rfl,hm,rfl⟩
    dsimp only;refine ao (wpS_lift (wpAny_rule ⟨rfl,?_⟩));refine ao (wpS_mono (Q:=λc st'=>∃g,st'=setG st g/\((∃r,c.1=some r/\Mg LT a b r)\/(c.1=none/\MI LT a b c.2.1 c.2.2.1 c.2.2.2.1/\c.2.2.1+1<a.size/\c.2.2.2.1<b.size/\ia+ib+1<=c.2.2.1+c.2.2.2.1))) ?_ ?_)
    ·refine wpS_forRange (λj c st'=>∃g,st'=setG st g/\c.1=none/\MI LT a b c.2.1 c.2.2.1 c.2.2.2.1/\c.2.2.1+1<a.size/\c.2.2.2.1<b.size/\ia+ib+1+j<=c.2.2.1+c.2.2.2.1) ?_ ?_ ⟨g,rfl,rfl,M,h1,h2,h3⟩
     ·clear M h1 h2 h3;refine λj=>pr7 λc0 out ia2 ib2 mg2 ac bc st' _ hj x=>exE (λg y=>stE y.1 ?_) x
      clear x;have M:=y.2.2.1;have h1:=y.2.2.2.1;have h2:=y.2.2.2.2.1;have h3:=y.2.2.2.2.2;clear y;dsimp only at M h1 h2 h3 ⊢;revert mg2;refine share1 (λH mg2=>?_) ?_
      ·show wpS _ _ _ _ _ _ _;by_cases e0:¬ mg2>1
       ·rw[if_neg e0];exact H mg2
       ·rw[if_pos (Decidable.not_not.mp e0)];exact H (mg2-1)
      intro mg3;refine ao (wpS_modify ?_);refine ao (qT (qg h2) ?_);refine ao (zY C hk (Db _ h2) (λi=>at' a (ia2+i)) (λi hi=>⟨qg (by lia),Da _ (by lia)⟩) (by lia) (iL W Sa (by lia)) λk l1 l2 l3=>?_);dsimp only;have t2:∀i,ia2<=i->i<ia2+k->LT (at' b ib2) (at' a i)=false:=λi g1 g2=>by
       have:=l2 (i-ia2) (by lia);rw[show ia2+(i-ia2)=i by lia]at this;have this:(!LT (at' b ib2) (at' a i))=true:=this
       simpa using this
      have t3:ia2+k<a.size->LT (at' b ib2) (at' a (ia2+k))=true:=λz=>by
       have:=l3 k (aD _) (by lia);have this:(!LT (at' b ib2) (at' a (ia2+k)))=false:=this
       simpa using this
      generalize hu:out=u;generalize hv:ia2=v;revert u v;refine gN (λout' ia'=>MI LT a b out' ia' ib2/\ia'+1<a.size/\ia2<=ia'/\LT (at' b ib2) (at' a ia')=true) (λH u hu v hv=>?_) ?_
      ·subst hu;subst hv;by_cases e4:¬ k>0
       ·rw[if_neg e4];refine H out ia2 ⟨M,h1,aD _,?_⟩;have:=t3 (by lia);rw[show k=0 by lia]at this;exact this
       ·rw[if_pos (Decidable.not_not.mp e4)];have M2:=M.takeA W Sa k λi g1 g2 _ j' g3 g4=>W.neg _ _ _ (t2 i g1 g2) (zC W Sb g3 g4)
        refine wpI (λe3=>?_) λe3=>?_
        ·exact au ⟨_,rfl,.inl ⟨_,rfl,M2.last W Sa Sb (by simpa using e3) (lastA (by simpa using e3))⟩⟩
        have e3':ia2+k+1≠a.size:=by simpa using e3
        refine wpI (λe9=>?_) λe9=>?_
        ·exact au ⟨_,rfl,.inl ⟨_,rfl,M2.done W Sa Sb (.inr (by simpa using e9))⟩⟩
        have e9':ia2+k≠a.size:=by simpa using e9
        exact H _ _ ⟨M2,by lia,by lia,t3 (by lia)⟩
      rintro out3 ia3 ⟨M2,hia,hge,q2⟩
      try dsimp only
      refine ao (qT (qg h2) ?_);have M3:=M2.pushB W Sa Sb h2 λ_=>q2
      refine wpI (λe5=>?_) λe5=>?_
      ·exact au ⟨_,rfl,.inl ⟨_,rfl,M3.done W Sa Sb (.inl (by simpa using e5))⟩⟩
      have e5':ib2+1≠b.size:=by simpa using e5
      refine ao (qT (qg (show ia3<a.size by lia)) ?_);generalize out3.push (at' b ib2)=out5 at M3 ⊢;have hY:∃n,ib2+1=n:=⟨_,rfl⟩
      obtain⟨ib3,hY⟩:=hY;rw[hY]at M3 e5' ⊢;refine ao (zY C hk (Da _ (by lia)) (λi=>at' b (ib3+i)) (λi hi=>⟨qg (by lia),Db _ (by lia)⟩) (by lia) (iL W Sb (by lia)) λk' l1 l2 l3=>?_);dsimp only;have t2:∀i,ib3<=i->i<ib3+k'->LT (at' b i) (at' a ia3)=true:=λi g1 g2=>by
       have:=l2 (i-ib3) (by lia);rw[show ib3+(i-ib3)=i by lia]at this;exact this
      have t3:ib3+k'<b.size->LT (at' b (ib3+k')) (at' a ia3)=false:=λz=>l3 k' (aD _) (by lia)
      generalize hu:out5=u;generalize hv:ib3=v;revert u v;refine gN (λout' ib'=>MI LT a b out' ia3 ib'/\ib'<b.size/\ib3<=ib'/\LT (at' b ib') (at' a ia3)=false) (λH u hu v hv=>?_) ?_
      ·subst hu;subst hv;by_cases e6:¬ k'>0
       ·rw[if_neg e6];refine H out5 ib3 ⟨M3,by lia,aD _,?_⟩;have:=t3 (by lia);rw[show k'=0 by lia]at this;exact this
       ·rw[if_pos (Decidable.not_not.mp e6)];have M4:=M3.takeB W Sb k' λi g1 g2 _ j' g3 g4=>W.neg _ _ _ (W.asym _ _ (t2 i g1 g2)) (zC W Sa g3 g4)
        refine wpI (λe8=>?_) λe8=>?_
        ·exact au ⟨_,rfl,.inl ⟨_,rfl,M4.done W Sa Sb (.inl (by simpa using e8))⟩⟩
        have e8':ib3+k'≠b.size:=by simpa using e8
        exact H _ _ ⟨M4,by lia,by lia,t3 (by lia)⟩
      rintro out4 ib4 ⟨M4,hib,hgb,q5⟩
      try dsimp only
      refine ao (qT (qg (show ia3<a.size by lia)) ?_);have M5:=M4.pushA W Sa Sb (show ia3<a.size by lia) λ_=>q5
      refine wpI (λe7=>?_) λe7=>?_
      ·exact au ⟨_,rfl,.inl ⟨_,rfl,M5.last W Sa Sb (by simpa using e7) (lastA (by simpa using e7))⟩⟩
      have e7':ia3+1+1≠a.size:=by simpa using e7
      split
      ·exact au ⟨_,rfl,.inr ⟨rfl,M5,by show ia3+1+1<a.size;lia,by show ib4<b.size;lia,by show ia+ib+1<=ia3+1+ib4;lia⟩⟩
      ·exact au ⟨_,rfl,rfl,M5,by show ia3+1+1<a.size;lia,by show ib4<b.size;lia,by show ia+ib+1+(j+1)<=ia3+1+ib4;lia⟩
     ·clear M h1 h2 h3;rintro⟨c0,out,ia2,ib2,mg2,ac,bc⟩ st' ⟨g,rfl,rfl,M,h1,h2,h3⟩;dsimp only at M h1 h2 h3;exact absurd h3 (by lia)
    ·refine pr7 λc0 out ia2 ib2 mg2 ac bc st' x=>exE (λg y=>stE y.1 ?_) x
     clear x;have hc:=y.2;clear y;dsimp only at hc ⊢;rcases hc with ⟨r,rfl,hm⟩|⟨rfl,M,h1,h2,h3⟩
     ·exact au ⟨r,g,rfl,hm,rfl⟩
     dsimp only;refine ao (wpS_modify ?_);exact au ⟨mg2+1,rfl,rfl,M,h1,h2,by show i+1<=ia2+ib2;lia⟩
  ·rintro⟨c0,out,ia,ib,mg⟩ st' ⟨g,rfl,rfl,M,h1,h2,h3⟩;dsimp only at M h1 h2 h3;exact absurd h3 (by lia)
 ·rintro⟨c0,out,ia,ib,mg⟩ st' ⟨r,g,hr,hm,rfl⟩;dsimp only at hr ⊢;subst hr;exact au (h r g hm)
end
section
variable{LT:ah->ah->Bool}
structure MH(LT:ah->ah->Bool)(a b out:Array ah)(na nb:Nat):Prop where
 pm:out.toList.Perm (a.toList.drop na++b.toList.drop nb)
 sr:Srt LT out.toList.reverse
 la:∀x∈out.toList,∀j,j<na->LT x (at' a j)=false
 lb:∀x∈out.toList,∀j,j<nb->LT x (at' b j)=false
variable{a b out:Array ah}{na nb:Nat}
theorem mz{l:List ah}{m n:Nat}(h:m<=n):l.drop m=(l.drop m).take (n-m)++l.drop n:=by
 have:=(bA (n-m) (l.drop m)).symm;rw[List.drop_drop,show m+(n-m)=n by lia]at this;exact this
theorem MH.takeA(W:Wo LT)(h:MH LT a b out na nb)(Sa:Srt LT a.toList)(hna:na<=a.size)(m:Nat)(hm:m<=na)(hb:∀i,m<=i->i<na->∀j,j<nb->LT (at' a i) (at' b j)=false):MH LT a b (out++(a.extract m na).reverse) m nb:=by
 have mem:∀{x},x∈(out++(a.extract m na).reverse).toList->x∈out.toList\/x∈(a.extract m na).toList:=λ{x} hx=>by
  rw[a6,Array.toList_reverse]at hx;rcases List.mem_append.mp hx with hx|hx
  ·exact .inl hx
  ·exact .inr (List.mem_reverse.mp hx)
 refine⟨?_,?_,λx hx j h1=>?_,λx hx j h1=>?_⟩
 ·rw[a6,Array.toList_reverse,zv];have e:=mz (l:=a.toList) hm;generalize (a.toList.drop m).take (na-m)=T at e ⊢;rw[e];refine(h.pm.append (List.reverse_perm _)).trans ?_;refine List.perm_append_comm.trans ?_;rw[bg]
 ·rw[a6,Array.toList_reverse,List.reverse_append,List.reverse_reverse];refine List.pairwise_append.mpr ⟨zF Sa _ _,h.sr,λx hx y hy=>?_⟩;obtain⟨i,g1,g2,g3,rfl⟩:=qG hx;exact h.la y (List.mem_reverse.mp hy) i g2
 ·rcases mem hx with hx|hx
  ·exact h.la x hx j (by lia)
  ·obtain⟨i,g1,g2,g3,rfl⟩:=qG hx;exact zC W Sa (by lia) g3
 ·rcases mem hx with hx|hx
  ·exact h.lb x hx j h1
  ·obtain⟨i,g1,g2,g3,rfl⟩:=qG hx;exact hb i g1 g2 j h1
theorem MH.takeB(W:Wo LT)(h:MH LT a b out na nb)(Sb:Srt LT b.toList)(hnb:nb<=b.size)(m:Nat)(hm:m<=nb)(hb:∀i,m<=i->i<nb->∀j,j<na->LT (at' b i) (at' a j)=false):MH LT a b (out++(b.extract m nb).reverse) na m:=by
 have mem:∀{x},x∈(out++(b.extract m nb).reverse).toList->x∈out.toList\/x∈(b.extract m nb).toList:=λ{x} hx=>by
  rw[a6,Array.toList_reverse]at hx;rcases List.mem_append.mp hx with hx|hx
  ·exact .inl hx
  ·exact .inr (List.mem_reverse.mp hx)
 refine⟨?_,?_,λx hx j h1=>?_,λx hx j h1=>?_⟩
 ·rw[a6,Array.toList_reverse,zv];have e:=mz (l:=b.toList) hm;generalize (b.toList.drop m).take (nb-m)=T at e ⊢;rw[e];refine(h.pm.append (List.reverse_perm _)).trans ?_;rw[bg];exact List.perm_append_comm.append_left _
 ·rw[a6,Array.toList_reverse,List.reverse_append,List.reverse_reverse];refine List.pairwise_append.mpr ⟨zF Sb _ _,h.sr,λx hx y hy=>?_⟩;obtain⟨i,g1,g2,g3,rfl⟩:=qG hx;exact h.lb y (List.mem_reverse.mp hy) i g2
 ·rcases mem hx with hx|hx
  ·exact h.la x hx j h1
  ·obtain⟨i,g1,g2,g3,rfl⟩:=qG hx;exact hb i g1 g2 j h1
 ·rcases mem hx with hx|hx
  ·exact h.lb x hx j (by lia)
  ·obtain⟨i,g1,g2,g3,rfl⟩:=qG hx;exact zC W Sb (by lia) g3
theorem mW{a out:Array ah}{i:Nat}(h:i<a.size):out.push (at' a i)=out++(a.extract i (i+1)).reverse:=by
 have:=ja (out:=(#[]:Array ah)) h;have e:a.extract i (i+1) = #[at' a i]:=by
  have h2:(#[]:Array ah)++a.extract i (i+1)=a.extract i (i+1):=by simp
  rw[h2]at this;rw[<-this];rfl
 rw[e];simp
theorem MH.pushA(W:Wo LT)(h:MH LT a b out (na+1) nb)(Sa:Srt LT a.toList)(Sb:Srt LT b.toList)(hi:na<a.size)(hnb:nb<=b.size)(hb:0<nb->LT (at' b (nb-1)) (at' a na)=true):MH LT a b (out.push (at' a na)) na nb:=by
 rw[mW hi];refine h.takeA W Sa (by lia) na (by lia) λi h1 h2 j g1=>?_
 have:i=na:=by lia
 subst this;exact W.neg _ _ _ (zC W Sb (show j<=nb-1 by lia) (by lia)) (W.asym _ _ (hb (by lia)))
theorem MH.pushB(W:Wo LT)(h:MH LT a b out na (nb+1))(Sa:Srt LT a.toList)(Sb:Srt LT b.toList)(hi:nb<b.size)(hna:na<=a.size)(hb:0<na->LT (at' b nb) (at' a (na-1))=false):MH LT a b (out.push (at' b nb)) na nb:=by
 rw[mW hi];refine h.takeB W Sb (by lia) nb (by lia) λi h1 h2 j g1=>?_
 have:i=nb:=by lia
 subst this;exact W.neg _ _ _ (zC W Sa (show j<=na-1 by lia) (by lia)) (hb (by lia))
theorem gw(a:Array ah)(n:Nat):(a.extract 0 n).toList=a.toList.take n:=by
 rw[zv,List.drop_zero];rfl
theorem MH.done(W:Wo LT)(h:MH LT a b out na nb)(Sa:Srt LT a.toList)(Sb:Srt LT b.toList)(he:na=0\/nb=0):Mg LT a b (a.extract 0 na++b.extract 0 nb++out.reverse):=by
 refine⟨?_,?_⟩
 ·rw[a6,a6,Array.toList_reverse,gw,gw];refine((List.reverse_perm _).trans h.pm).append_left _ |>.trans ?_;have e1:=bA na a.toList;have e2:=bA nb b.toList;rcases he with he|he
  ·subst he;rw[List.take_zero,List.drop_zero,List.nil_append];refine List.perm_append_comm.trans ?_;rw[bg];refine(List.perm_append_comm.append_left _).trans ?_;rw[e2]
  ·subst he;rw[List.take_zero,List.drop_zero,b_,<-bg,e1]
 ·rw[a6,a6,Array.toList_reverse];refine List.pairwise_append.mpr ⟨List.pairwise_append.mpr ⟨zF Sa _ _,zF Sb _ _,λx hx y hy=>?_⟩,h.sr,λx hx y hy=>?_⟩
  ·obtain⟨i,g1,g2,g3,rfl⟩:=qG hx;obtain⟨j,k1,k2,k3,rfl⟩:=qG hy;lia
  ·have hy:=List.mem_reverse.mp hy;rcases List.mem_append.mp hx with hx|hx
   ·obtain⟨i,g1,g2,g3,rfl⟩:=qG hx;exact h.la y hy i g2
   ·obtain⟨i,g1,g2,g3,rfl⟩:=qG hx;exact h.lb y hy i g2
theorem MH.first(W:Wo LT)(h:MH LT a b out na nb)(Sa:Srt LT a.toList)(Sb:Srt LT b.toList)(hl:nb=1)(hb:∀j,j<a.size->LT (at' b 0) (at' a j)=true):Mg LT a b (b.extract 0 nb++a.extract 0 na++out.reverse):=by
 subst hl;refine⟨?_,?_⟩
 ·rw[a6,a6,Array.toList_reverse,gw,gw];refine((List.reverse_perm _).trans h.pm).append_left _ |>.trans ?_;have e1:=bA na a.toList;have e2:=bA 1 b.toList;rw[bg,<-bg (a.toList.take na),e1];refine List.perm_append_comm.trans ?_;rw[bg];refine(List.perm_append_comm.append_left _).trans ?_;rw[e2]
 ·rw[a6,a6,Array.toList_reverse];refine List.pairwise_append.mpr ⟨List.pairwise_append.mpr ⟨zF Sb _ _,zF Sa _ _,λx hx y hy=>?_⟩,h.sr,λx hx y hy=>?_⟩
  ·obtain⟨i,g1,g2,g3,rfl⟩:=qG hx;obtain⟨j,k1,k2,k3,rfl⟩:=qG hy;have:i=0:=by lia
   subst this;exact W.asym _ _ (hb j k3)
  ·have hy:=List.mem_reverse.mp hy;rcases List.mem_append.mp hx with hx|hx
   ·obtain⟨i,g1,g2,g3,rfl⟩:=qG hx;exact h.lb y hy i g2
   ·obtain⟨i,g1,g2,g3,rfl⟩:=qG hx;exact h.la y hy i g2
theorem mh0{a b:Array ah}:MH LT a b #[] a.size b.size:=⟨by
 rw[List.drop_eq_nil_of_le (by simp),List.drop_eq_nil_of_le (by simp)];simp,by simp[Srt],by simp,by simp⟩
end
section
variable{prog:aA}{w:av}{A:az}{E:ae->af->Prop}{s:af}{κ:SortKind}{D:ah->Prop}{LT:ah->ah->Bool}
theorem nr(W:Wo LT){a:Array ah}(S:Srt LT a.toList){left:Bool}{key:ah}{n:Nat}(hn:n<=a.size):∀i j,i<=j->j<n->bey LT left key (at' a j)=true->bey LT left key (at' a i)=true:=by
 intro i j h1 h2 h3;have:=iL W S (left:=left) (key:=key) (base:=0) (n:=n) (by lia) i j h1 h2;rw[Nat.zero_add,Nat.zero_add]at this;exact this h3
theorem oP(C:Cmp prog w A s κ D LT){a b:Array ah}{st:aF}{Q:Array ah->aF->Prop}(hk:kindOf st=κ)(Da:∀i,i<a.size->D (at' a i))(Db:∀i,i<b.size->D (at' b i))(Sa:Srt LT a.toList)(Sb:Srt LT b.toList)
  (ha:0<a.size) (hb:0<b.size) (h0:LT (at' b 0) (at' a 0)=true) (hl:∀j,j<b.size->LT (at' b j) (at' a (a.size-1))=true) (h:∀r g,Mg LT a b r->Q r (setG st g)):wpS (ar prog w) A E s (jT a b) Q st:=by
 have W:=C.wo;have fst:∀j,j<a.size->LT (at' b 0) (at' a j)=true:=λj hj=>W.lt_le h0 (zC W Sa (bp j) hj)
 unfold jT;refine ao (wpS_lift (wpAny_rule ⟨rfl,?_⟩));refine ao (qT (qg (show a.size-1<a.size by lia)) ?_);have M1:MH LT a b #[at' a (a.size-1)] (a.size-1) b.size:=by
  have M0:MH LT a b #[] (a.size-1+1) b.size:=by rw[show a.size-1+1=a.size by lia];exact mh0
  exact M0.pushA W Sa Sb (by lia) (aD _) λ_=>hl _ (by lia)
 dsimp only;refine wpI (λe1=>?_) λe1=>?_
 ·exact au (h _ (gallopOf st) (M1.done W Sa Sb (.inl (by simpa using e1))))
 refine wpI (λe2=>?_) λe2=>?_
 ·exact au (h _ (gallopOf st) (M1.first W Sa Sb (by simpa using e2) fst))
 have e1':a.size-1≠0:=by simpa using e1
 have e2':b.size≠1:=by simpa using e2
 refine ao (wpS_get ?_);refine ao (wpS_mono (Q:=λc st'=>∃r g,c.1=some r/\Mg LT a b r/\st'=setG st g) ?_ ?_)
 ·refine wpS_forRange (λi c st'=>∃g,st'=setG st g/\c.1=none/\MH LT a b c.2.2.2.1 c.2.1 c.2.2.1/\(1<=c.2.1/\c.2.1<a.size)/\(2<=c.2.2.1/\c.2.2.1<=b.size)/\c.2.1+c.2.2.1+i<=a.size+b.size) ?_ ?_ ⟨gallopOf st,rfl,rfl,M1,by show 1<=a.size-1/\a.size-1<a.size;lia,by show 2<=b.size/\b.size<=b.size;lia,by show a.size-1+b.size+0<=_;lia⟩
  ·refine λi=>pr5 λc0 na nb out mg st' _ hi x=>exE (λg y=>stE y.1 ?_) x
   clear x;have M:=y.2.2.1;have h1:=y.2.2.2.1;have h2:=y.2.2.2.2.1;have h3:=y.2.2.2.2.2;clear y;dsimp only at M h1 h2 h3 ⊢;refine ao (wpS_mono (Q:=λc st'=>st'=setG st g/\((∃r,c.1=some r/\Mg LT a b r)\/(c.1=none/\MH LT a b c.2.2.2.1 c.2.1 c.2.2.1/\(1<=c.2.1/\c.2.1<a.size)/\(2<=c.2.2.1/\c.2.2.1<=b.size)/\c.2.1+c.2.2.1+1<=na+nb))) ?_ ?_)
   ·refine wpS_forRange (λj c st'=>st'=setG st g/\c.1=none/\MH LT a b c.2.2.2.1 c.2.1 c.2.2.1/\(1<=c.2.1/\c.2.1<a.size)/\(2<=c.2.2.1/\c.2.2.1<=b.size)/\c.2.1+c.2.2.1+j<=na+nb) ?_ ?_ ⟨rfl,rfl,M,h1,h2,aD _⟩
    ·clear M;refine λj=>pr6 λc0 na2 nb2 out ac bc st' _ hj y=>stE y.1 ?_
     have M:=y.2.2.1;have g1:=y.2.2.2.1;have g2:=y.2.2.2.2.1;have g3:=y.2.2.2.2.2;clear y;dsimp only at M g1 g2 g3 ⊢;refine ao (qT (qg (show nb2-1<b.size by lia)) ?_);refine ao (qT (qg (show na2-1<a.size by lia)) ?_);refine ao (fS C (Db _ (by lia)) (Da _ (by lia)) hk ?_);obtain⟨na3,rfl⟩:∃n,na2=n+1:=⟨na2-1,by lia⟩
     obtain⟨nb3,rfl⟩:∃n,nb2=n+1:=⟨nb2-1,by lia⟩
     simp only[Nat.add_sub_cancel];refine wpI (λq=>?_) λq=>?_
     ·refine ao (qT (qg (show na3<a.size by lia)) ?_);have M2:=M.pushA W Sa Sb (by lia) (by lia) λ_=>q
      refine wpI (λe3=>?_) λe3=>?_
      ·exact au ⟨rfl,.inl ⟨_,rfl,M2.done W Sa Sb (.inl (by simpa using e3))⟩⟩
      have e3':na3≠0:=by simpa using e3
      refine wpI (λe4=>?_) λe4=>?_
      ·exact au ⟨rfl,.inr ⟨rfl,M2,by show 1<=na3/\na3<a.size;lia,g2,by show na3+(nb3+1)+1<=na+nb;lia⟩⟩
      ·exact au ⟨rfl,rfl,M2,by show 1<=na3/\na3<a.size;lia,g2,by show na3+(nb3+1)+(j+1)<=na+nb;lia⟩
     ·have q:=eq_false_of_ne_true q;refine ao (qT (qg (show nb3<b.size by lia)) ?_);have M2:=M.pushB W Sa Sb (by lia) (by lia) λ_=>q
      refine wpI (λe3=>?_) λe3=>?_
      ·exact au ⟨rfl,.inl ⟨_,rfl,M2.first W Sa Sb (by simpa using e3) fst⟩⟩
      have e3':nb3≠1:=by simpa using e3
      refine wpI (λe4=>?_) λe4=>?_
      ·exact au ⟨rfl,.inr ⟨rfl,M2,g1,by show 2<=nb3/\nb3<=b.size;lia,by show na3+1+nb3+1<=na+nb;lia⟩⟩
      ·exact au ⟨rfl,rfl,M2,g1,by show 2<=nb3/\nb3<=b.size;lia,by show na3+1+nb3+(j+1)<=na+nb;lia⟩
    ·clear M;rintro⟨c0,na2,nb2,out,ac,bc⟩ st' ⟨rfl,rfl,M,g1,g2,g3⟩;dsimp only at M g1 g2 g3;exact absurd g3 (by lia)
   ·refine pr6 λc0 na2 nb2 out ac bc st' y=>stE y.1 ?_
    have hc:=y.2;clear y;dsimp only at hc ⊢;rcases hc with ⟨r,rfl,hm⟩|⟨rfl,M,g1,g2,g3⟩
    ·exact au ⟨r,g,rfl,hm,rfl⟩
    dsimp only;refine ao (wpS_lift (wpAny_rule ⟨rfl,?_⟩));refine ao (wpS_mono (Q:=λc st'=>∃g,st'=setG st g/\((∃r,c.1=some r/\Mg LT a b r)\/(c.1=none/\MH LT a b c.2.2.2.1 c.2.1 c.2.2.1/\(1<=c.2.1/\c.2.1<a.size)/\(2<=c.2.2.1/\c.2.2.1<=b.size)/\c.2.1+c.2.2.1+1<=na+nb))) ?_ ?_)
    ·refine wpS_forRange (λj c st'=>∃g,st'=setG st g/\c.1=none/\MH LT a b c.2.2.2.1 c.2.1 c.2.2.1/\(1<=c.2.1/\c.2.1<a.size)/\(2<=c.2.2.1/\c.2.2.1<=b.size)/\c.2.1+c.2.2.1+1+j<=na+nb) ?_ ?_ ⟨g,rfl,rfl,M,g1,g2,g3⟩
     ·clear M g1 g2 g3;refine λj=>pr7 λc0 na2 nb2 out mg2 ac bc st' _ hj x=>exE (λg y=>stE y.1 ?_) x
      clear x;have M:=y.2.2.1;have g1:=y.2.2.2.1;have g2:=y.2.2.2.2.1;have g3:=y.2.2.2.2.2;clear y;dsimp only at M g1 g2 g3 ⊢;obtain⟨nb3,rfl⟩:∃n,nb2=n+1:=⟨nb2-1,by lia⟩
      revert mg2;refine share1 (λH mg2=>?_) ?_
      ·by_cases e0:¬ mg2>1
       ·rw[if_neg e0];exact H mg2
       ·rw[if_pos (Decidable.not_not.mp e0)];exact H (mg2-1)
      intro mg3;refine ao (wpS_modify ?_);refine ao (qT (qg (show nb3+1-1<b.size by lia)) ?_);refine ao (zY C hk (Db _ (by lia)) (λi=>at' a i) (λi hi=>⟨by rw[Nat.zero_add];exact qg (by lia),Da _ (by lia)⟩) (by lia) (nr W Sa (by lia)) λk l1 l2 l3=>?_);simp only[Nat.add_sub_cancel]at l2 l3;dsimp only;have t2:∀i,i<k->LT (at' b nb3) (at' a i)=false:=λi g1=>by
       have this:(!LT (at' b nb3) (at' a i))=true:=l2 i g1
       simpa using this
      have t3:∀i,k<=i->i<na2->LT (at' b nb3) (at' a i)=true:=λi z1 z2=>by
       have this:(!LT (at' b nb3) (at' a i))=false:=l3 i z1 z2
       simpa using this
      generalize hac:na2-k=ac2;generalize hu:out=u;generalize hv:na2=v;revert u v;refine gN (λout' na'=>MH LT a b out' na' (nb3+1)/\1<=na'/\na'<=na2/\LT (at' b nb3) (at' a (na'-1))=false) (λH u hu v hv=>?_) ?_
      ·subst hu;subst hv;by_cases e4:¬ ac2>0
       ·rw[if_neg e4];exact H out na2 ⟨M,by lia,aD _,t2 _ (by lia)⟩
       ·rw[if_pos (Decidable.not_not.mp e4)];have M2:=M.takeA W Sa (by lia) k (by lia) λi g1 g2 j' g3=>W.neg _ _ _ (zC W Sb (show j'<=nb3 by lia) (by lia)) (W.asym _ _ (t3 i g1 g2))
        refine wpI (λe3=>?_) λe3=>?_
        ·exact au ⟨_,rfl,.inl ⟨_,rfl,M2.done W Sa Sb (.inl (by simpa using e3))⟩⟩
        have e3':k≠0:=by simpa using e3
        exact H _ _ ⟨M2,by lia,by lia,t2 _ (by lia)⟩
      rintro out3 na3 ⟨M2,hn1,hn2,q2⟩;obtain⟨na9,rfl⟩:∃n,na3=n+1:=⟨na3-1,by lia⟩
      try dsimp only
      simp only[Nat.add_sub_cancel];refine ao (qT (qg (show nb3<b.size by lia)) ?_);have M3:=M2.pushB W Sa Sb (by lia) (by lia) λ_=>q2
      refine wpI (λe5=>?_) λe5=>?_
      ·exact au ⟨_,rfl,.inl ⟨_,rfl,M3.first W Sa Sb (by simpa using e5) fst⟩⟩
      have e5':nb3≠1:=by simpa using e5
      refine ao (qT (qg (show na9<a.size by lia)) ?_);generalize out3.push (at' b nb3)=out5 at M3 ⊢;refine ao (zY C hk (Da _ (by lia)) (λi=>at' b i) (λi hi=>⟨by rw[Nat.zero_add];exact qg (by lia),Db _ (by lia)⟩) (by lia) (nr W Sb (by lia)) λk' l1' l2' l3'=>?_);dsimp only;generalize hbc:nb3-k'=bc2;generalize hu:out5=u;generalize hv:nb3=v;revert u v;refine gN (λout' nb'=>MH LT a b out' (na9+1) nb'/\2<=nb'/\nb'<=nb3/\LT (at' b (nb'-1)) (at' a na9)=true) (λH u hu v hv=>?_) ?_
      ·subst hu;subst hv;by_cases e6:¬ bc2>0
       ·rw[if_neg e6];exact H out5 nb3 ⟨M3,by lia,aD _,l2' (nb3-1) (by lia)⟩
       ·rw[if_pos (Decidable.not_not.mp e6)];have M4:=M3.takeB W Sb (by lia) k' (by lia) λi g1 g2 j' g3=>by
         have z:LT (at' b i) (at' a na9)=false:=l3' i g1 g2;exact W.neg _ _ _ (zC W Sa (show j'<=na9 by lia) (by lia)) z
        refine wpI (λe8=>?_) λe8=>?_
        ·exact au ⟨_,rfl,.inl ⟨_,rfl,M4.first W Sa Sb (by simpa using e8) fst⟩⟩
        have e8':k'≠1:=by simpa using e8
        refine wpI (λe9=>?_) λe9=>?_
        ·exact au ⟨_,rfl,.inl ⟨_,rfl,M4.done W Sa Sb (.inr (by simpa using e9))⟩⟩
        have e9':k'≠0:=by simpa using e9
        exact H _ _ ⟨M4,by lia,by lia,l2' (k'-1) (by lia)⟩
      rintro out4 nb4 ⟨M4,hb2,hb3,q5⟩
      try dsimp only
      refine ao (qT (qg (show na9<a.size by lia)) ?_);have M5:=M4.pushA W Sa Sb (by lia) (by lia) λ_=>q5
      refine wpI (λe7=>?_) λe7=>?_
      ·exact au ⟨_,rfl,.inl ⟨_,rfl,M5.done W Sa Sb (.inl (by simpa using e7))⟩⟩
      have e7':na9≠0:=by simpa using e7
      split
      ·exact au ⟨_,rfl,.inr ⟨rfl,M5,by show 1<=na9/\na9<a.size;lia,by show 2<=nb4/\nb4<=b.size;lia,by show na9+nb4+1<=na+nb;lia⟩⟩
      ·exact au ⟨_,rfl,rfl,M5,by show 1<=na9/\na9<a.size;lia,by show 2<=nb4/\nb4<=b.size;lia,by show na9+nb4+1+(j+1)<=na+nb;lia⟩
     ·clear M g1 g2 g3;rintro⟨c0,na2,nb2,out,mg2,ac,bc⟩ st' ⟨g,rfl,rfl,M,g1,g2,g3⟩;dsimp only at M g1 g2 g3;exact absurd g3 (by lia)
    ·refine pr7 λc0 na2 nb2 out mg2 ac bc st' x=>exE (λg y=>stE y.1 ?_) x
     clear x;have hc:=y.2;clear y;dsimp only at hc ⊢;rcases hc with ⟨r,rfl,hm⟩|⟨rfl,M,g1,g2,g3⟩
     ·exact au ⟨r,g,rfl,hm,rfl⟩
     dsimp only;refine ao (wpS_modify ?_);exact au ⟨mg2+1,rfl,rfl,M,g1,g2,by show na2+nb2+(i+1)<=a.size+b.size;lia⟩
  ·rintro⟨c0,na,nb,out,mg⟩ st' ⟨g,rfl,rfl,M,h1,h2,h3⟩;dsimp only at M h1 h2 h3;exact absurd h3 (by lia)
 ·rintro⟨c0,na,nb,out,mg⟩ st' ⟨r,g,hr,hm,rfl⟩;dsimp only at hr ⊢;subst hr;exact au (h r g hm)
end
structure Rk(D:ah->Prop)(LT:ah->ah->Bool)(R:ah->Int):Prop where
 rk:∀x y,D x->D y->LT x y=decide (R x<R y)
structure SB(κ:SortKind)(p:Array (Nat×Nat×Nat))(a₁:Array ah)(lo:Nat)(st:aF):Prop where
 kd:kindOf st=κ
 fl:failedOf st=none
 pn:aQ st=p
 pm:(ag st).Perm a₁
 lw:∀i,i<lo->at' (ag st) i=at' a₁ i
noncomputable def Kr(R:ah->Int)(xs:Array ah)(i:Nat):Int:=R (at' xs i)
noncomputable def Seg(R:ah->Int)(xs:Array ah)(lo n:Nat):Prop:=∀i j,i<=j->j<n->Kr R xs (lo+i)<=Kr R xs (lo+j)
noncomputable def Dsc(R:ah->Int)(xs:Array ah)(lo n:Nat):Prop:=∀i j,i<=j->j<n->Kr R xs (lo+j)<=Kr R xs (lo+i)
theorem fb{xs ys:Array ah}{i j:Nat}(h:xs[i]? = ys[j]?):at' xs i=at' ys j:=by
 unfold at';rw[Array.getD_eq_getD_getElem?,Array.getD_eq_getD_getElem?,h]
theorem kG{xs:Array ah}{src d:Nat}(hs:src<xs.size)(hd:d<=src)(k:Nat) :
  at' (bubble xs src d) k=if k=src-d then at' xs src else if src-d<k/\k<=src then at' xs (k-1)else at' xs k:=by
 have e:=getElem?_bubble hs d hd k;by_cases h1:k=src-d
 ·rw[if_pos h1]at e ⊢;exact fb e
 ·rw[if_neg h1]at e ⊢;by_cases h2:src-d<k/\k<=src
  ·rw[if_pos h2]at e ⊢;exact fb e
  ·rw[if_neg h2]at e ⊢;exact fb e
theorem kI{xs:Array ah}{i j:Nat}(hj:j<=xs.size)(k:Nat) :
  at' (aN xs i j ((j-i)/2)) k=if i<=k/\k<j then at' xs (i+j-1-k)else at' xs k:=by
 have e:=getElem?_mirror_all (i:=i) hj k;by_cases h1:i<=k/\k<j
 ·rw[if_pos h1]at e ⊢;exact fb e
 ·rw[if_neg h1]at e ⊢;exact fb e
section
variable{prog:aA}{w:av}{A:az}{E:ae->af->Prop}{s:af}{κ:SortKind}{D:ah->Prop}{LT:ah->ah->Bool}{R:ah->Int}{p:Array (Nat×Nat×Nat)}{a₁:Array ah}{lo:Nat}
theorem lh{xs:Array ah}{src d:Nat}(hs:src<xs.size)(hd:d<=src)(k:Nat) :
  Kr R (bubble xs src d) k=if k=src-d then Kr R xs src else if src-d<k/\k<=src then Kr R xs (k-1)else Kr R xs k:=by
 unfold Kr;rw[kG hs hd];repeat' split
 all_goals rfl
theorem jb{xs:Array ah}{i j:Nat}(hj:j<=xs.size)(k:Nat) :
  Kr R (aN xs i j ((j-i)/2)) k=if i<=k/\k<j then Kr R xs (i+j-1-k)else Kr R xs k:=by
 unfold Kr;rw[kI hj];split
 all_goals rfl
theorem zZ{xs:Array ah}{i j:Nat}(hj:j<=xs.size)(heq:∀k,i<=k->k<j->Kr R xs k=Kr R xs (j-1))(k:Nat) :
  Kr R (aN xs i j ((j-i)/2)) k=Kr R xs k:=by
 rw[jb hj];split
 ·rw[heq _ (by lia) (by lia),heq k (by lia) (by lia)]
 ·rfl
theorem SB.size{st:aF}(h:SB κ p a₁ lo st):(ag st).size=a₁.size:=h.pm.size_eq
theorem SB.dom{st:aF}(h:SB κ p a₁ lo st)(Da:∀x∈a₁.toList,D x){i:Nat}(hi:i<a₁.size):D (at' (ag st) i):=
 Da _ ((Array.perm_iff_toList_perm.mp h.pm).mem_iff.mp (gE (by rw[h.size];exact hi)))
theorem SB.setArr{st:aF}(h:SB κ p a₁ lo st){xs:Array ah}(hp:xs.Perm (ag st))(hl:∀i,i<lo->at' xs i=at' (ag st) i):SB κ p a₁ lo (setArr st xs):=
 ⟨h.kd,h.fl,h.pn,hp.trans h.pm,λi hi=>(hl i hi).trans (h.lw i hi)⟩
theorem SB.mir{st:aF}(h:SB κ p a₁ lo st){i j:Nat}(hi:lo<=i)(hj:j<=a₁.size):SB κ p a₁ lo (PyProof.Rows.setArr st (aN (ag st) i j ((j-i)/2))):=
 h.setArr (mirror_perm _ _ _ _) λk hk=>by
  rw[kI (by rw[h.size];exact hj),if_neg (by lia)]
theorem zP{st:aF}{i j:Nat}{Q:Option Bool->aF->Prop}(C:Cmp prog w A s κ D LT)(K:Rk D LT R)(Da:∀x∈a₁.toList,D x)(hB:SB κ p a₁ lo st)(hi:i<a₁.size)(hj:j<a₁.size)
  (h:Q (some (decide (Kr R (ag st) i<Kr R (ag st) j))) st):wpS (ar prog w) A E s (ltAt' i j) Q st:=by
 rw[ltAt'_eq];refine ao (wpS_get ?_);refine ao (qT (qg (by rw[hB.size];exact hi)) ?_);refine ao (qT (qg (by rw[hB.size];exact hj)) ?_);refine fS C (hB.dom Da hi) (hB.dom Da hj) hB.kd ?_;rw[K.rk _ _ (hB.dom Da hi) (hB.dom Da hj)];exact h
structure Hf(R:ah->Int)(xs:Array ah)(lo k x l r:Nat):Prop where
 lr:l<=r
 rk:r<=k
 fu:r-l+x<=k
 low:∀i,lo<=i->i<lo+l->Kr R xs i<=Kr R xs (lo+k)
 upp:∀i,lo+r<=i->i<lo+k->Kr R xs (lo+k)<Kr R xs i
theorem Seg.at{xs:Array ah}{n:Nat}(S:Seg R xs lo n){i j:Nat}(a:lo<=i)(b:i<=j)(c:j<lo+n):Kr R xs i<=Kr R xs j:=by
 have z:=S (i-lo) (j-lo) (by lia) (by lia)
 rwa[Nat.add_sub_cancel' a,Nat.add_sub_cancel' (bz a b)]at z
theorem Hf.go{xs:Array ah}{k x l r:Nat}(h:Hf R xs lo k x l r)(S:Seg R xs lo k)(hl:l<r) :
  (Kr R xs (lo+k)<Kr R xs (lo+(l+r)/2)->Hf R xs lo k (x+1) l ((l+r)/2))/\(¬ Kr R xs (lo+k)<Kr R xs (lo+(l+r)/2)->Hf R xs lo k (x+1) ((l+r)/2+1) r):=by
 have:=h.rk;have:=h.fu;refine⟨λz=>⟨by lia,by lia,by lia,h.low,λi a b=>Int.lt_of_lt_of_le z (S.at (by lia) a (by lia))⟩,λz=>⟨by lia,h.rk,by lia,λi a b=>?_,h.upp⟩⟩;have:=S.at (i:=i) (j:=lo+(l+r)/2) a (by lia) (by lia);lia
theorem Hf.put{xs:Array ah}{k x l:Nat}(h:Hf R xs lo k x l l)(hk:lo+k<xs.size)(S:Seg R xs lo k) :
  Seg R (bubble xs (lo+k) (lo+k-(lo+l))) lo (k+1)/\∀i,i<lo->at' (bubble xs (lo+k) (lo+k-(lo+l))) i=at' xs i:=by
 have:=h.rk;have e:lo+k-(lo+k-(lo+l))=lo+l:=by lia
 refine⟨λi j hij hj=>?_,λi hi=>by rw[kG hk (by lia),if_neg (by lia),if_neg (by lia)]⟩;rw[lh hk (by lia),lh hk (by lia),e];by_cases ai:lo+i=lo+l<;>by_cases aj:lo+j=lo+l<;>by_cases bi:lo+l<lo+i/\lo+i<=lo+k<;>by_cases bj:lo+l<lo+j/\lo+j<=lo+k<;>simp only[ai,aj,bi,bj,if_true,if_false,and_self]<;>first
  | (exfalso;lia)
  |lia
  |exact h.low _ (by lia) (by lia)
  |exact Int.le_of_lt (h.upp _ (by lia) (by lia))
  |exact S.at (by lia) (by lia) (by lia)
theorem pF(C:Cmp prog w A s κ D LT)(K:Rk D LT R)(Da:∀x∈a₁.toList,D x){st:aF}{n ok:Nat}{Q:Bool->aF->Prop}(hn:lo+n<=a₁.size)(hok:ok<=n)(hB:SB κ p a₁ lo st)(hs:Seg R (ag st) lo ok)
  (h:∀st',SB κ p a₁ lo st'->Seg R (ag st') lo n->Q true st'):wpS (ar prog w) A E s (binarySort' lo n ok) Q st:=by
 rw[binarySort'_eq];have seg1:Seg R (ag st) lo (min (max ok 1) n):=λi j a b=>by
  by_cases z:ok=0
  ·rw[show i=j by lia];exact Int.le_refl _
  ·exact hs i j a (by lia)
 refine ao (wpS_mono (wpS_forRange (λk c t=>c=(none,())/\SB κ p a₁ lo t/\Seg R (ag t) lo (min k n)) (Q:=λc t=>c=(none,())/\SB κ p a₁ lo t/\Seg R (ag t) lo n) ?_ ?_ ⟨rfl,hB,seg1⟩) λc t ⟨e,b,z⟩=>by rw[e];exact au (h t b z))
 ·rintro k c t k1 k2 ⟨rfl,B,S⟩;rw[Nat.min_eq_left (Nat.le_of_lt k2)]at S;have kz:lo+k<a₁.size:=by lia
  have kz':lo+k<(ag t).size:=by rw[B.size];exact kz
  refine ao (wpS_mono (wpS_forRange (λx c u=>u=t/\∃l r,c=(none,l,r)/\Hf R (ag t) lo k x l r) (Q:=λc u=>u=t/\∃x l,c=(none,l,l)/\Hf R (ag t) lo k x l l) ?_ ?_ ⟨rfl,0,k,rfl,bp _,aD _,by lia,λi a b=>by lia,λi a b=>by lia⟩) ?_)
  ·rintro x c u _ x2 ⟨rfl,l,r,rfl,f⟩;dsimp only;have:=f.lr;by_cases z:l >= r
   ·rw[if_pos z];obtain rfl:l=r:=by lia
    exact au ⟨rfl,x,l,rfl,f⟩
   rw[if_neg z];have:=f.rk;refine ao (zP C K Da B kz (by lia) ?_);obtain⟨g1,g2⟩:=f.go S (by lia);cases q:decide (Kr R (ag u) (lo+k)<Kr R (ag u) (lo+(l+r)/2))with
   |true=>exact au ⟨rfl,_,_,rfl,g1 (of_decide_eq_true q)⟩
   |false=>exact au ⟨rfl,_,_,rfl,g2 (of_decide_eq_false q)⟩
  ·rintro c u ⟨rfl,l,r,rfl,f⟩;have:=f.lr;have:=f.fu;obtain rfl:l=r:=by lia
   exact⟨rfl,_,l,rfl,f⟩
  ·rintro c u ⟨rfl,x,l,rfl,f⟩;obtain⟨g1,g2⟩:=f.put kz' S;dsimp only;rw[moveDown'_eq];refine ao (wpS_modify (au ⟨rfl,B.setArr (bubble_perm _ _ _) g2,?_⟩));rw[Nat.min_eq_left k2];exact g1
 ·rintro c t ⟨e,b,z⟩;rw[show min (max (max ok 1) n) n=n by lia]at z;exact⟨e,b,z⟩
end
section
variable{prog:aA}{w:av}{A:az}{E:ae->af->Prop}{s:af}{κ:SortKind}{D:ah->Prop}{LT:ah->ah->Bool}{R:ah->Int}{p:Array (Nat×Nat×Nat)}{a₁:Array ah}{lo:Nat}{xs:Array ah}
theorem Seg.one:Seg R xs lo 1:=λi j a b=>by rw[show i=j by lia];exact Int.le_refl _
theorem Seg.more{n:Nat}(S:Seg R xs lo n)(z:1<=n->Kr R xs (lo+n-1)<=Kr R xs (lo+n)):Seg R xs lo (n+1):=λi j a b=>by
 by_cases c:j=n
 ·subst c;by_cases d:i=j
  ·rw[d];exact Int.le_refl _
  ·have y:=S i (j-1) (by lia) (by lia);rw[show lo+(j-1)=lo+j-1 by lia]at y;exact Int.le_trans y (z (by lia))
 ·exact S i j a (by lia)
theorem Dsc.one:Dsc R xs lo 1:=λi j a b=>by rw[show i=j by lia];exact Int.le_refl _
theorem Dsc.more{n:Nat}(S:Dsc R xs lo n)(z:1<=n->Kr R xs (lo+n)<=Kr R xs (lo+n-1)):Dsc R xs lo (n+1):=λi j a b=>by
 by_cases c:j=n
 ·subst c;by_cases d:i=j
  ·rw[d];exact Int.le_refl _
  ·have y:=S i (j-1) (by lia) (by lia);rw[show lo+(j-1)=lo+j-1 by lia]at y;exact Int.le_trans (z (by lia)) y
 ·exact S i j a (by lia)
theorem Dsc.alike{ys:Array ah}{n:Nat}(S:Dsc R xs lo n)(e:∀k,Kr R ys k=Kr R xs k):Dsc R ys lo n:=λi j a b=>by rw[e,e];exact S i j a b
theorem fJ{st:aF}{a nrem:Nat}{β:Type}{mk:Nat->β}{Q:β->aF->Prop}(hn:lo+nrem<=a₁.size)(ha:1<=a)(han:a<=nrem)(S0:Seg R (ag st) lo a)
  {body:Nat->β->StateT aF Sem (ForInStep β)}
  (hb:∀x n (Q':ForInStep β->aF->Prop),lo+n<a₁.size->1<=n->(Kr R (ag st) (lo+n)<Kr R (ag st) (lo+n-1)->Q' (.done (mk n)) st)->(¬ Kr R (ag st) (lo+n)<Kr R (ag st) (lo+n-1)->Q' (.yield (mk (n+1))) st)->wpS (ar prog w) A E s (body x (mk n)) Q' st)
  (h:∀n,a<=n->n<=nrem->Seg R (ag st) lo n->(n≠nrem->Kr R (ag st) (lo+n)<Kr R (ag st) (lo+n-1))->Q (mk n) st) :
  wpS (ar prog w) A E s (forIn [a:nrem] (mk a) body) Q st:=
 wpS_forRange (λx c t=>t=st/\c=mk x/\Seg R (ag st) lo x) (λx c t x1 x2 ⟨e1,e2,S⟩=>by
   subst e1 e2;exact hb x x _ (by lia) (by lia) (λz=>h x x1 (by lia) S λ_=>z) λz=>⟨rfl,rfl,S.more λ_=>by lia⟩)
  (λc t ⟨e1,e2,S⟩=>by
   subst e1 e2;rw[Nat.max_eq_right han]at S ⊢;exact h nrem han (aD _) S λz=>absurd rfl z) ⟨rfl,rfl,S0⟩
theorem Dsc.turn{n:Nat}(S:Dsc R xs lo n)(hz:lo+n<=xs.size):Seg R (aN xs lo (lo+n) ((lo+n-lo)/2)) lo n:=λi j a b=>by
 have y:=S (n-1-j) (n-1-i) (by lia) (by lia);rw[show lo+(n-1-j)=lo+(lo+n)-1-(lo+j)by lia,show lo+(n-1-i)=lo+(lo+n)-1-(lo+i)by lia]at y
 rwa[jb hz,jb hz,if_pos ⟨by lia,by lia⟩,if_pos ⟨by lia,by lia⟩]
noncomputable def Flat(R:ah->Int)(xs:Array ah)(lo m neq:Nat):Prop:=∀i,lo+m-(neq+1)<=i->i<lo+m->Kr R xs i=Kr R xs (lo+m-1)
theorem Flat.zero{m:Nat}:Flat R xs lo m 0:=λi a b=>by rw[show i=lo+m-1 by lia]
theorem Flat.more{m neq:Nat}(f:Flat R xs lo m neq)(z:Kr R xs (lo+m)=Kr R xs (lo+m-1)):Flat R xs lo (m+1) (neq+1):=λi a b=>by
 rw[show lo+(m+1)-1=lo+m by lia];by_cases c:i=lo+m
 ·rw[c]
 ·rw[z];exact f i (by lia) (by lia)
theorem jI{st:aF}{n nrem:Nat}{β:Type}{mk:Nat->Nat->β}{Q:β->aF->Prop}(hn:lo+nrem<=a₁.size)(h1:1<=n)(hnn:n<=nrem)(B0:SB κ p a₁ lo st)(S0:Dsc R (ag st) lo n)
  {body:Nat->β->StateT aF Sem (ForInStep β)}
  (hb:∀x n neq t (Q':ForInStep β->aF->Prop),SB κ p a₁ lo t->lo+n<a₁.size->1<=n ->
   (Kr R (ag t) (lo+n)<Kr R (ag t) (lo+n-1)->neq>0->Q' (.yield (mk (n+1) 0)) (setArr t (aN (ag t) (lo+n-(neq+1)) (lo+n) ((lo+n-(lo+n-(neq+1)))/2)))) ->
   (Kr R (ag t) (lo+n)<Kr R (ag t) (lo+n-1)->¬ neq>0->Q' (.yield (mk (n+1) 0)) t) ->
   (Kr R (ag t) (lo+n-1)<Kr R (ag t) (lo+n)->Q' (.done (mk n neq)) t) ->
   (Kr R (ag t) (lo+n)=Kr R (ag t) (lo+n-1)->Q' (.yield (mk (n+1) (neq+1))) t) ->
   wpS (ar prog w) A E s (body x (mk n neq)) Q' t)
  (h:∀m neq t,SB κ p a₁ lo t->n<=m->m<=nrem->Dsc R (ag t) lo m->neq+1<=m->Flat R (ag t) lo m neq->Q (mk m neq) t) :
  wpS (ar prog w) A E s (forIn [n:nrem] (mk n 0) body) Q st:=
 wpS_forRange (λx c t=>∃neq,c=mk x neq/\SB κ p a₁ lo t/\Dsc R (ag t) lo x/\neq+1<=x/\Flat R (ag t) lo x neq) (λx c t x1 x2 ⟨neq,e,B,S,q,f⟩=>by
   subst e;have hz:lo+x<=(ag t).size:=by rw[B.size];lia
   refine hb x x neq t _ B (by lia) (by lia) (λz _=>?_) (λz _=>?_) (λ_=>h x neq t B x1 (by lia) S q f) λz=>⟨neq+1,rfl,B,S.more λ_=>Int.le_of_eq z,by lia,f.more z⟩
   ·exact⟨0,rfl,B.mir (by lia) (by lia),(S.more λ_=>Int.le_of_lt z).alike (zZ hz f),by lia,Flat.zero⟩
   ·exact⟨0,rfl,B,S.more λ_=>Int.le_of_lt z,by lia,Flat.zero⟩)
  (λc t ⟨neq,e,B,S,q,f⟩=>by
   subst e;rw[Nat.max_eq_right hnn]at S q f ⊢;exact h nrem neq t B hnn (aD _) S q f) ⟨0,rfl,B0,S0,by lia,Flat.zero⟩
theorem xb(C:Cmp prog w A s κ D LT)(K:Rk D LT R)(Da:∀x∈a₁.toList,D x){st:aF}{nrem:Nat}{Q:Option Nat->aF->Prop}(hn:lo+nrem<=a₁.size)(h1:1<=nrem)(hB:SB κ p a₁ lo st)
  (h:∀m st',SB κ p a₁ lo st'->1<=m->m<=nrem->Seg R (ag st') lo m->Q (some m) st') :
  wpS (ar prog w) A E s (countRun' lo nrem) Q st:=by
 rw[countRun'_eq];refine ao (fJ (R:=R) (mk:=λn=>(none,n)) hn (aD 1) h1 Seg.one ?_ ?_)
 ·intro x n Q' hl n1 q1 q2;dsimp only;refine ao (zP C K Da (hB) hl (by lia) ?_);cases z:decide (Kr R (ag st) (lo+n)<Kr R (ag st) (lo+n-1))with
  |true=>exact au (q1 (of_decide_eq_true z))
  |false=>exact au (q2 (of_decide_eq_false z))
 intro n n1 n2 S z;dsimp only;by_cases e:(n==nrem)=true
 ·rw[if_pos e];exact au (h n st hB n1 n2 S)
 rw[if_neg e];have e':n≠nrem:=by simpa using e
 have lt:=z e';have hz:lo+n<=(ag st).size:=by rw[hB.size];lia
 by_cases g:n>1
 ·rw[if_pos g];refine ao (zP C K Da hB (by lia) (by lia) ?_);cases y:decide (Kr R (ag st) lo<Kr R (ag st) (lo+n-1))with
  |true=>exact au (h n st hB n1 n2 S)
  |false=>
   have y':=of_decide_eq_false y;have f:∀k,lo<=k->k<lo+n->Kr R (ag st) k=Kr R (ag st) (lo+n-1):=λk a b=>by
    have b1:=S.at (i:=lo) (j:=k) (aD _) a b;have b2:=S.at (i:=k) (j:=lo+n-1) a (by lia) (by lia);lia
   dsimp only;rw[if_neg cB];refine ao (wpS_reverse ?_);have dB:SB κ p a₁ lo (setArr st (aN (ag st) lo (lo+n) ((lo+n-lo)/2))):=hB.mir (aD _) (by lia);have dS:Dsc R (ag (setArr st (aN (ag st) lo (lo+n) ((lo+n-lo)/2)))) lo (n+1):=Dsc.alike (xs:=ag st) (Dsc.more (λi j a b=>by rw[f (lo+i) (by lia) (by lia),f (lo+j) (by lia) (by lia)];exact Int.le_refl _) λ_=>Int.le_of_lt lt) (zZ hz f);refine ao (wpS_lift (wpAny_rule ⟨rfl,?_⟩));refine ao (jI (mk:=λn q=>(none,n,q)) hn (by lia) (by lia) (dB) dS ?_ ?_)
   ·intro x n neq t Q' tB hl n1 q1 q2 q3 q4;dsimp only;refine ao (zP C K Da tB hl (by lia) ?_);cases z:decide (Kr R (ag t) (lo+n)<Kr R (ag t) (lo+n-1))with
    |true=>
     by_cases y:neq>0
     ·dsimp only;rw[if_pos rfl,if_pos y];exact ao (wpS_reverse (au (q1 (of_decide_eq_true z) y)))
     ·dsimp only;rw[if_pos rfl,if_neg y];exact au (q2 (of_decide_eq_true z) y)
    |false=>
     have z':=of_decide_eq_false z;refine ao (zP C K Da tB (by lia) hl ?_);cases y:decide (Kr R (ag t) (lo+n-1)<Kr R (ag t) (lo+n))with
     |true=>exact au (q3 (of_decide_eq_true y))
     |false=>
      have y':=of_decide_eq_false y;exact au (q4 (by lia))
   ·intro m neq t tB m1 m2 tS nm f;have hz:lo+m<=(ag t).size:=by rw[tB.size];lia
    dsimp only;by_cases y:neq>0
    ·rw[if_pos y];refine ao (wpS_reverse ?_);have MB:SB κ p a₁ lo (setArr t (aN (ag t) (lo+m-(neq+1)) (lo+m) ((lo+m-(lo+m-(neq+1)))/2))):=tB.mir (by lia) (by lia);have MS:Dsc R (ag (setArr t (aN (ag t) (lo+m-(neq+1)) (lo+m) ((lo+m-(lo+m-(neq+1)))/2)))) lo m:=tS.alike (zZ hz f);refine ao (wpS_reverse ?_);have TB:SB κ p a₁ lo (setArr (setArr t (aN (ag t) (lo+m-(neq+1)) (lo+m) ((lo+m-(lo+m-(neq+1)))/2))) (aN (ag (setArr t (aN (ag t) (lo+m-(neq+1)) (lo+m) ((lo+m-(lo+m-(neq+1)))/2)))) lo (lo+m) ((lo+m-lo)/2))):=(MB).mir (aD _) (by lia);refine ao (fJ (R:=R) (mk:=λn=>(none,n)) hn (by lia) m2 (Dsc.turn (MS) (by show lo+m<=(ag (setArr t (aN (ag t) (lo+m-(neq+1)) (lo+m) ((lo+m-(lo+m-(neq+1)))/2)))).size;rw[(MB).size];lia)) ?_ ?_)
     ·intro x n Q' hl n1 q1 q2;dsimp only;refine ao (zP C K Da (TB) hl (by lia) ?_);cases z:decide (Kr R (ag (setArr (setArr t (aN (ag t) (lo+m-(neq+1)) (lo+m) ((lo+m-(lo+m-(neq+1)))/2))) (aN (ag (setArr t (aN (ag t) (lo+m-(neq+1)) (lo+m) ((lo+m-(lo+m-(neq+1)))/2)))) lo (lo+m) ((lo+m-lo)/2)))) (lo+n)<Kr R (ag (setArr (setArr t (aN (ag t) (lo+m-(neq+1)) (lo+m) ((lo+m-(lo+m-(neq+1)))/2))) (aN (ag (setArr t (aN (ag t) (lo+m-(neq+1)) (lo+m) ((lo+m-(lo+m-(neq+1)))/2)))) lo (lo+m) ((lo+m-lo)/2)))) (lo+n-1))with
      |true=>exact au (q1 (of_decide_eq_true z))
      |false=>exact au (q2 (of_decide_eq_false z))
     ·intro j j1 j2 j3 _;exact au (h j _ TB (by lia) j2 j3)
    ·rw[if_neg y];refine ao (wpS_reverse ?_);have TB:SB κ p a₁ lo (setArr t (aN (ag t) lo (lo+m) ((lo+m-lo)/2))):=(tB).mir (aD _) (by lia);refine ao (fJ (R:=R) (mk:=λn=>(none,n)) hn (by lia) m2 (Dsc.turn (tS) (by show lo+m<=(ag t).size;rw[(tB).size];lia)) ?_ ?_)
     ·intro x n Q' hl n1 q1 q2;dsimp only;refine ao (zP C K Da (TB) hl (by lia) ?_);cases z:decide (Kr R (ag (setArr t (aN (ag t) lo (lo+m) ((lo+m-lo)/2)))) (lo+n)<Kr R (ag (setArr t (aN (ag t) lo (lo+m) ((lo+m-lo)/2)))) (lo+n-1))with
      |true=>exact au (q1 (of_decide_eq_true z))
      |false=>exact au (q2 (of_decide_eq_false z))
     ·intro j j1 j2 j3 _;exact au (h j _ TB (by lia) j2 j3)
 ·rw[if_neg g];obtain rfl:n=1:=by lia
  have dS:Dsc R (ag st) lo (1+1):=Dsc.one.more λ_=>Int.le_of_lt lt
  refine ao (wpS_lift (wpAny_rule ⟨rfl,?_⟩));refine ao (jI (mk:=λn q=>(none,n,q)) hn (by lia) (by lia) (hB) dS ?_ ?_)
  ·intro x n neq t Q' tB hl n1 q1 q2 q3 q4;dsimp only;refine ao (zP C K Da tB hl (by lia) ?_);cases z:decide (Kr R (ag t) (lo+n)<Kr R (ag t) (lo+n-1))with
   |true=>
    by_cases y:neq>0
    ·dsimp only;rw[if_pos rfl,if_pos y];exact ao (wpS_reverse (au (q1 (of_decide_eq_true z) y)))
    ·dsimp only;rw[if_pos rfl,if_neg y];exact au (q2 (of_decide_eq_true z) y)
   |false=>
    have z':=of_decide_eq_false z;refine ao (zP C K Da tB (by lia) hl ?_);cases y:decide (Kr R (ag t) (lo+n-1)<Kr R (ag t) (lo+n))with
    |true=>exact au (q3 (of_decide_eq_true y))
    |false=>
     have y':=of_decide_eq_false y;exact au (q4 (by lia))
  ·intro m neq t tB m1 m2 tS nm f;have hz:lo+m<=(ag t).size:=by rw[tB.size];lia
   dsimp only;by_cases y:neq>0
   ·rw[if_pos y];refine ao (wpS_reverse ?_);have MB:SB κ p a₁ lo (setArr t (aN (ag t) (lo+m-(neq+1)) (lo+m) ((lo+m-(lo+m-(neq+1)))/2))):=tB.mir (by lia) (by lia);have MS:Dsc R (ag (setArr t (aN (ag t) (lo+m-(neq+1)) (lo+m) ((lo+m-(lo+m-(neq+1)))/2)))) lo m:=tS.alike (zZ hz f);refine ao (wpS_reverse ?_);have TB:SB κ p a₁ lo (setArr (setArr t (aN (ag t) (lo+m-(neq+1)) (lo+m) ((lo+m-(lo+m-(neq+1)))/2))) (aN (ag (setArr t (aN (ag t) (lo+m-(neq+1)) (lo+m) ((lo+m-(lo+m-(neq+1)))/2)))) lo (lo+m) ((lo+m-lo)/2))):=(MB).mir (aD _) (by lia);refine ao (fJ (R:=R) (mk:=λn=>(none,n)) hn (by lia) m2 (Dsc.turn (MS) (by show lo+m<=(ag (setArr t (aN (ag t) (lo+m-(neq+1)) (lo+m) ((lo+m-(lo+m-(neq+1)))/2)))).size;rw[(MB).size];lia)) ?_ ?_)
    ·intro x n Q' hl n1 q1 q2;dsimp only;refine ao (zP C K Da (TB) hl (by lia) ?_);cases z:decide (Kr R (ag (setArr (setArr t (aN (ag t) (lo+m-(neq+1)) (lo+m) ((lo+m-(lo+m-(neq+1)))/2))) (aN (ag (setArr t (aN (ag t) (lo+m-(neq+1)) (lo+m) ((lo+m-(lo+m-(neq+1)))/2)))) lo (lo+m) ((lo+m-lo)/2)))) (lo+n)<Kr R (ag (setArr (setArr t (aN (ag t) (lo+m-(neq+1)) (lo+m) ((lo+m-(lo+m-(neq+1)))/2))) (aN (ag (setArr t (aN (ag t) (lo+m-(neq+1)) (lo+m) ((lo+m-(lo+m-(neq+1)))/2)))) lo (lo+m) ((lo+m-lo)/2)))) (lo+n-1))with
     |true=>exact au (q1 (of_decide_eq_true z))
     |false=>exact au (q2 (of_decide_eq_false z))
    ·intro j j1 j2 j3 _;exact au (h j _ TB (by lia) j2 j3)
   ·rw[if_neg y];refine ao (wpS_reverse ?_);have TB:SB κ p a₁ lo (setArr t (aN (ag t) lo (lo+m) ((lo+m-lo)/2))):=(tB).mir (aD _) (by lia);refine ao (fJ (R:=R) (mk:=λn=>(none,n)) hn (by lia) m2 (Dsc.turn (tS) (by show lo+m<=(ag t).size;rw[(tB).size];lia)) ?_ ?_)
    ·intro x n Q' hl n1 q1 q2;dsimp only;refine ao (zP C K Da (TB) hl (by lia) ?_);cases z:decide (Kr R (ag (setArr t (aN (ag t) lo (lo+m) ((lo+m-lo)/2)))) (lo+n)<Kr R (ag (setArr t (aN (ag t) lo (lo+m) ((lo+m-lo)/2)))) (lo+n-1))with
     |true=>exact au (q1 (of_decide_eq_true z))
     |false=>exact au (q2 (of_decide_eq_false z))
    ·intro j j1 j2 j3 _;exact au (h j _ TB (by lia) j2 j3)
end
theorem gk(a:Array ah)(i:Nat):at' a i=(a.toList[i]?).getD df:=by
 unfold at';rw[Array.getD_eq_getD_getElem?,Array.getElem?_toList]
theorem nc{a:Array ah}{i j m:Nat}(hj:j<=a.size)(hm:i+m<j):at' (a.extract i j) m=at' a (i+m):=by
 refine fb ?_;rw[Array.getElem?_extract,if_pos (by lia)]
noncomputable def putAll(s:Nat)(l:List ah)(n:Nat)(a:Array ah):Array Keyed:=(l.zipIdx n).foldl (λa (p:ah×Nat)=>a.setIfInBounds (s+p.2) p.1) a
theorem ju(s:Nat):∀(l:List ah) (n:Nat) (a:Array ah),s+n+l.length<=a.size->(putAll s l n a).toList=a.toList.take (s+n)++l++a.toList.drop (s+n+l.length)
 | [],n,a,_=>by
  show a.toList=_;simp
 |x::l,n,a,h=>by
  show (putAll s l (n+1) (a.setIfInBounds (s+n) x)).toList=_;rw[bO]at h;rw[ju s l (n+1) _ (by rw[Array.size_setIfInBounds];lia)];have hl:s+n<a.toList.length:=by rw[aV];lia
  rw[Array.toList_setIfInBounds,show s+(n+1)=s+n+1 by lia,List.take_set,List.drop_set,if_pos (by lia),bO,
   show s+n+1+l.length=s+n+(l.length+1)by lia]
  congr 1
  rw[show (x::l)=[x]++l from rfl,<-bg]
  congr 1
  rw[List.take_succ_eq_append_getElem hl,List.set_append_right _ _ (by rw[bZ];lia),bZ,Nat.min_eq_left (by lia),Nat.sub_self]
  rfl
theorem iD{s:Nat}{r a:Array ah}(h:s+r.size<=a.size)(t:Nat):at' (putAll s r.toList 0 a) t=if s<=t/\t<s+r.size then at' r (t-s)else at' a t:=by
 rw[gk,ju s _ _ _ (by rw[aV];lia),Nat.add_zero,aV];have h1:(a.toList.take s).length=s:=by rw[bZ,aV];lia
 by_cases e1:t<s
 ·rw[if_neg (by lia),bg,List.getElem?_append_left (by lia),List.getElem?_take,if_pos e1,gk]
 ·rw[bg,List.getElem?_append_right (by lia),h1];by_cases e2:t<s+r.size
  ·rw[if_pos (by lia),List.getElem?_append_left (by rw[aV];lia),gk]
  ·rw[if_neg (by lia),List.getElem?_append_right (by rw[aV];lia),List.getElem?_drop,aV,gk]
   congr 2;lia
theorem j4{s e:Nat}{r x y a:Array ah}{m:Nat}(h1:s<=m)(h2:m<=e)(h3:e<=a.size)(hx:x=a.extract s m)(hy:y=a.extract m e)(hr:r.toList.Perm (x.toList++y.toList)):r.size=e-s/\(putAll s r.toList 0 a).Perm a:=by
 have hl:r.size=e-s:=by
  have:=hr.length_eq;rw[cC,aV,aV,aV,hx,hy,Array.size_extract,Array.size_extract]at this;lia
 refine⟨hl,Array.perm_iff_toList_perm.mpr ?_⟩;rw[ju s _ _ _ (by rw[aV];lia),Nat.add_zero,aV,hl];have hxy:x.toList++y.toList=(a.toList.drop s).take (e-s):=by
  rw[hx,hy,zv,zv,show e-s=(m-s)+(e-m)by lia,List.take_add,List.drop_drop,show s+(m-s)=m by lia]
 have e0:a.toList=a.toList.take s++(a.toList.drop s).take (e-s)++a.toList.drop (s+(e-s)):=by
  rw[bg,<-List.drop_drop,bA,bA]
 conv=>rhs;rw[e0]
 rw[hxy]at hr;exact(hr.append_left _).append_right _
section
variable{prog:aA}{w:av}{A:az}{E:ae->af->Prop}{s:af}{κ:SortKind}{D:ah->Prop}{LT:ah->ah->Bool}{R:ah->Int}
theorem ue{a r x y:Array ah}{sa s' sb e' en:Nat}(h1:sa<=s')(h2:s'<sb)(h3:sb<=e')(h4:e'<=en)(h5:en<=a.size)
  (SX:∀i j,sa<=i->i<=j->j<sb->Kr R a i<=Kr R a j) (SY:∀i j,sb<=i->i<=j->j<en->Kr R a i<=Kr R a j)
  (F1:∀i,sa<=i->i<s'->Kr R a i<=Kr R a sb) (hbn:sb<en) (F2:∀i,e'<=i->i<en->Kr R a (sb-1)<=Kr R a i)
  (hx:x=a.extract s' sb) (hy:y=a.extract sb e') (hr:r.toList.Perm (x.toList++y.toList)) (hs:∀i j,i<=j->j<r.size->Kr R r i<=Kr R r j) :
  ∀i j,sa<=i->i<=j->j<en->Kr R (putAll s' r.toList 0 a) i<=Kr R (putAll s' r.toList 0 a) j:=by
 have hp:=j4 (by lia) h3 (by lia) hx hy hr;have mid:∀v,v<r.size->∃z,s'<=z/\z<e'/\at' r v=at' a z:=λv hv=>by
  have:=hr.mem_iff.mp (gE hv);rw[List.mem_append,hx,hy]at this;rcases this with q|q
  ·obtain⟨z,z1,z2,z3,z4⟩:=qG q;exact⟨z,z1,by lia,z4⟩
  ·obtain⟨z,z1,z2,z3,z4⟩:=qG q;exact⟨z,by lia,z2,z4⟩
 intro i j hi hij hj;unfold Kr;rw[iD (by lia),iD (by lia)];by_cases ci:s'<=i/\i<s'+r.size
 ·rw[if_pos ci];by_cases cj:s'<=j/\j<s'+r.size
  ·rw[if_pos cj];exact hs _ _ (by lia) (by lia)
  ·rw[if_neg cj];obtain⟨z,z1,z2,z3⟩:=mid (i-s') (by lia);rw[z3];by_cases hz:z<sb
   ·exact Int.le_trans (SX z (sb-1) (by lia) (by lia) (by lia)) (F2 j (by lia) hj)
   ·exact SY z j (by lia) (by lia) hj
 ·rw[if_neg ci];by_cases cj:s'<=j/\j<s'+r.size
  ·rw[if_pos cj];obtain⟨z,z1,z2,z3⟩:=mid (j-s') (by lia);rw[z3];by_cases hz:z<sb
   ·exact SX i z hi (by lia) hz
   ·exact Int.le_trans (F1 i hi (by lia)) (SY sb z (by lia) (by lia) (by lia))
  ·rw[if_neg cj];by_cases c1:i<s'
   ·by_cases c2:j<s'
    ·exact SX i j hi hij (by lia)
    ·exact Int.le_trans (F1 i hi c1) (SY sb j (by lia) (by lia) hj)
   ·exact SY i j (by lia) hij hj
end
theorem yh{σ:Type}{M:Model}{A:az}{E:ae->af->Prop}{s:af}{x:σ}{Q:PUnit->σ->Prop}{st:σ}(h:Q ⟨⟩ x):wpS M A E s (set x:StateT σ Sem PUnit) Q st:=by
 unfold wpS;exact aC ⟨rfl,h⟩
section
variable{prog:aA}{w:av}{A:az}{E:ae->af->Prop}{s:af}{κ:SortKind}{D:ah->Prop}{LT:ah->ah->Bool}{R:ah->Int}
noncomputable def eQ(p:Array (Nat×Nat×Nat))(i sa na nb pw:Nat):Array (Nat×Nat×Nat):=(p.setIfInBounds i (sa,na+nb,pw)).eraseIdxIfInBounds (i+1)
theorem v7(C:Cmp prog w A s κ D LT)(K:Rk D LT R){st:aF}{i sa na pw sb nb pw2:Nat}{Q:Bool->aF->Prop}(hk:kindOf st=κ)(hf:failedOf st=none)(Da:∀x∈(ag st).toList,D x)
  (h1:(aQ st)[i]? = some (sa,na,pw)) (h2:(aQ st)[i+1]? = some (sb,nb,pw2)) (hsb:sb=sa+na) (hna:1<=na) (hnb:1<=nb) (hen:sb+nb<=(ag st).size)
  (SX:Seg R (ag st) sa na) (SY:Seg R (ag st) sb nb)
  (h:∀st',kindOf st'=κ->failedOf st'=none->aQ st'=eQ (aQ st) i sa na nb pw->(ag st').Perm (ag st)->(∀j,(j<sa\/sb+nb<=j)->at' (ag st') j=at' (ag st) j)->Seg R (ag st') sa (na+nb)->Q true st') :
  wpS (ar prog w) A E s (mergeAt' i) Q st:=by
 have dm:∀j,j<(ag st).size->D (at' (ag st) j):=λj hj=>Da _ (gE hj)
 have rk:∀x y,x<(ag st).size->y<(ag st).size->LT (at' (ag st) x) (at' (ag st) y)=decide (Kr R (ag st) x<Kr R (ag st) y):=λx y hx hy=>K.rk _ _ (dm x hx) (dm y hy)
 have SX':∀i j,sa<=i->i<=j->j<sb->Kr R (ag st) i<=Kr R (ag st) j:=λi j a b c=>by
  have:=SX (i-sa) (j-sa) (by lia) (by lia)
  rwa[show sa+(i-sa)=i by lia,show sa+(j-sa)=j by lia]at this
 have SY':∀i j,sb<=i->i<=j->j<sb+nb->Kr R (ag st) i<=Kr R (ag st) j:=λi j a b c=>by
  have:=SY (i-sb) (j-sb) (by lia) (by lia)
  rwa[show sb+(i-sb)=i by lia,show sb+(j-sb)=j by lia]at this
 have W:=C.wo;unfold mergeAt';refine ao (wpS_get ?_);rw[h1,h2];dsimp only;refine ao (yh ?_);refine ao (qT (qg (show sb<(ag st).size by lia)) ?_);refine ao (zY C (by exact hk) (dm sb (by lia)) (λj=>at' (ag st) (sa+j)) (λj hj=>⟨qg (show sa+j<(ag st).size by lia),dm _ (by lia)⟩) (by lia) ?_ ?_)
 ·intro i j hij hj hb;unfold bey at hb ⊢;simp only[a_,if_false]at hb ⊢;rw[rk _ _ (by lia) (by lia)]at hb ⊢;have:=SX' (sa+i) (sa+j) (by lia) (by lia) (by lia);simp only[bJ,decide_eq_false_iff_not]at hb ⊢;lia
 intro k hk1 hk2 hk3;dsimp only;have F1:∀j,sa<=j->j<sa+k->Kr R (ag st) j<=Kr R (ag st) sb:=λj a b=>by
  have:=hk2 (j-sa) (by lia);unfold bey at this;simp only[a_,if_false]at this;rw[show sa+(j-sa)=j by lia,rk _ _ (by lia) (by lia)]at this;simp only[bJ,decide_eq_false_iff_not]at this;lia
 have F1':∀j,sa+k<=j->j<sb->Kr R (ag st) sb<Kr R (ag st) j:=λj a b=>by
  have:=hk3 (j-sa) (by lia) (by lia);unfold bey at this;simp only[a_,if_false]at this;rw[show sa+(j-sa)=j by lia,rk _ _ (by lia) (by lia)]at this;simp only[Bool.not_eq_false',decide_eq_true_eq]at this;lia
 by_cases e1:(na-k==0)=true
 ·rw[if_pos e1];have e1':na-k=0:=by simpa using e1
  refine au (h _ hk hf rfl (Array.Perm.refl _) (λ_ _=>rfl) ?_);intro x y hxy hy;show Kr R (ag st) (sa+x)<=Kr R (ag st) (sa+y);by_cases c:y<na
  ·exact SX x y hxy c
  ·by_cases c2:x<na
   ·exact Int.le_trans (F1 _ (by lia) (by lia)) (SY' sb _ (by lia) (by lia) (by lia))
   ·exact SY' _ _ (by lia) (by lia) (by lia)
 rw[if_neg e1];have e1':na-k≠0:=by simpa using e1
 rw[show sa+k+(na-k)-1=sb-1 by lia];refine ao (qT (qg (show sb-1<(ag st).size by lia)) ?_);refine ao (zY C (by exact hk) (dm (sb-1) (by lia)) (λj=>at' (ag st) (sb+j)) (λj hj=>⟨qg (show sb+j<(ag st).size by lia),dm _ (by lia)⟩) (by lia) ?_ ?_)
 ·intro i j hij hj hb;unfold bey at hb ⊢;simp only[if_true]at hb ⊢;rw[rk _ _ (by lia) (by lia)]at hb ⊢;have:=SY' (sb+i) (sb+j) (by lia) (by lia) (by lia);simp only[decide_eq_true_eq]at hb ⊢;lia
 intro m hm1 hm2 hm3;dsimp only;have F2:∀j,sb<=j->j<sb+m->Kr R (ag st) j<Kr R (ag st) (sb-1):=λj a b=>by
  have:=hm2 (j-sb) (by lia);unfold bey at this;simp only[if_true]at this;rw[show sb+(j-sb)=j by lia,rk _ _ (by lia) (by lia)]at this
  simpa using this
 have F2':∀j,sb+m<=j->j<sb+nb->Kr R (ag st) (sb-1)<=Kr R (ag st) j:=λj a b=>by
  have:=hm3 (j-sb) (by lia) (by lia);unfold bey at this;simp only[if_true]at this;rw[show sb+(j-sb)=j by lia,rk _ _ (by lia) (by lia)]at this;simp only[decide_eq_false_iff_not]at this;lia
 by_cases e2:(m==0)=true
 ·exfalso;have e2':m=0:=by simpa using e2
  have a1:=F1' (sb-1) (by lia) (by lia);have a2:=F2' sb (by lia) (by lia);lia
 rw[if_neg e2];have e2':m≠0:=by simpa using e2
 have sx:((ag st).extract (sa+k) sb).size=na-k:=by rw[Array.size_extract];lia
 have sy:((ag st).extract sb (sb+m)).size=m:=by rw[Array.size_extract];lia
 have ax:∀j,j<na-k->at' ((ag st).extract (sa+k) sb) j=at' (ag st) (sa+k+j):=λj hj=>nc (by lia) (by lia)
 have ay:∀j,j<m->at' ((ag st).extract sb (sb+m)) j=at' (ag st) (sb+j):=λj hj=>nc (by lia) (by lia)
 have srt:∀(z:Array ah) (o:Nat),(∀j,j<z.size->o+j<(ag st).size/\at' z j=at' (ag st) (o+j))->(∀i j,i<=j->j<z.size->Kr R (ag st) (o+i)<=Kr R (ag st) (o+j))->Srt LT z.toList:=λz o hz hs=>by
  unfold Srt;rw[List.pairwise_iff_getElem];intro i j hi hj hij;rw[aV]at hi hj;have b1:=qg hi;have b2:=qg hj;rw[Array.getElem?_eq_getElem hi]at b1;rw[Array.getElem?_eq_getElem hj]at b2;injection b1 with b1
  injection b2 with b2
  rw[Array.getElem_toList,Array.getElem_toList,b1,b2,(hz i hi).2,(hz j hj).2,rk _ _ (hz j hj).1 (hz i hi).1];have:=hs i j (by lia) hj;simp only[decide_eq_false_iff_not];lia
 have Sx:Srt LT ((ag st).extract (sa+k) sb).toList:=srt _ (sa+k) (λj hj=>⟨by lia,ax j (by lia)⟩) (λi j hij hj=>SX' _ _ (by lia) (by lia) (by lia));have Sy:Srt LT ((ag st).extract sb (sb+m)).toList:=srt _ sb (λj hj=>⟨by lia,ay j (by lia)⟩) (λi j hij hj=>SY' _ _ (by lia) (by lia) (by lia));have h0:LT (at' ((ag st).extract sb (sb+m)) 0) (at' ((ag st).extract (sa+k) sb) 0)=true:=by
  rw[ax 0 (by lia),ay 0 (by lia),rk _ _ (by lia) (by lia)];exact decide_eq_true (F1' _ (by lia) (by lia))
 have hl:∀j,j<((ag st).extract sb (sb+m)).size->LT (at' ((ag st).extract sb (sb+m)) j) (at' ((ag st).extract (sa+k) sb) (((ag st).extract (sa+k) sb).size-1))=true:=λj hj=>by
  rw[ax _ (by lia),ay j (by lia),sx,rk _ _ (by lia) (by lia),show sa+k+(na-k-1)=sb-1 by lia];exact decide_eq_true (F2 _ (by lia) (by lia))
 have Dx:∀j,j<((ag st).extract (sa+k) sb).size->D (at' ((ag st).extract (sa+k) sb) j):=λj hj=>by
  rw[ax j (by lia)];exact dm _ (by lia)
 have Dy:∀j,j<((ag st).extract sb (sb+m)).size->D (at' ((ag st).extract sb (sb+m)) j):=λj hj=>by
  rw[ay j (by lia)];exact dm _ (by lia)
 have fin:∀r g,Mg LT ((ag st).extract (sa+k) sb) ((ag st).extract sb (sb+m)) r->wpS (ar prog w) A E s (do
   modify λs=>setArr s (putAll (sa+k) r.toList 0 (ag s))
   return (failedOf (<-get)).isNone) Q (setG (setPending st (eQ (aQ st) i sa na nb pw)) g):=λr g M=>by
  refine ao (wpS_modify ?_);refine ao (wpS_get ?_);refine au ?_;have hp:=j4 (by lia) (by lia) (by lia) rfl rfl M.1;have e3:(failedOf (setArr (setG (setPending st (eQ (aQ st) i sa na nb pw)) g) (putAll (sa+k) r.toList 0 (ag st)))).isNone=true:=by
   show (failedOf st).isNone=true;rw[hf];rfl
  show Q (failedOf (setArr (setG (setPending st (eQ (aQ st) i sa na nb pw)) g) (putAll (sa+k) r.toList 0 (ag st)))).isNone _;rw[e3];refine h _ hk hf rfl hp.2 (λj hj=>?_) ?_
  ·show at' (putAll (sa+k) r.toList 0 (ag st)) j=_;rw[iD (by lia),if_neg (by lia)]
  ·have dr:∀j,j<r.size->D (at' r j):=λj hj=>by
    have:=M.1.mem_iff.mp (gE hj);rw[List.mem_append]at this;rcases this with q|q
    ·obtain⟨z,z1,z2,z3,z4⟩:=qG q;rw[z4];exact dm z z3
    ·obtain⟨z,z1,z2,z3,z4⟩:=qG q;rw[z4];exact dm z z3
   have:=ue (R:=R) (a:=ag st) (sa:=sa) (s':=sa+k) (sb:=sb) (e':=sb+m) (en:=sb+nb) (by lia) (by lia) (by lia) (by lia) hen SX' SY' F1 (by lia) F2' rfl rfl M.1 (λx y hxy hy=>by
    have:=zC W M.2 hxy hy;rw[K.rk _ _ (dr _ hy) (dr _ (by lia))]at this;simp only[decide_eq_false_iff_not]at this;unfold Kr;lia)
   intro x y hxy hy;exact this _ _ (by lia) (by lia) (by lia)
 by_cases e4:na-k<=m
 ·rw[if_pos e4];exact ao (xm C (by exact hk) Dx Dy Sx Sy (show 0<((ag st).extract (sa+k) sb).size by lia) (show 0<((ag st).extract sb (sb+m)).size by lia) h0 hl fin)
 ·rw[if_neg e4];exact ao (oP C (by exact hk) Dx Dy Sx Sy (show 0<((ag st).extract (sa+k) sb).size by lia) (show 0<((ag st).extract sb (sb+m)).size by lia) h0 hl fin)
end
noncomputable def pr(x:Nat×Nat×Nat):Nat×Nat:=(x.1,x.2.1)
noncomputable def Runs(R:ah->Int)(a:Array ah):Nat->List (Nat×Nat)->Nat->Prop
 |b,[],e=>b=e
 |b,x::l,e=>x.1=b/\1<=x.2/\Seg R a b x.2/\Runs R a (b+x.2) l e
section
variable{R:ah->Int}{a a':Array ah}
theorem Runs.le:∀{l:List (Nat×Nat)}{b e:Nat},Runs R a b l e->b+l.length<=e
 | [],b,e,h=>by simp only[List.length_nil];exact Nat.le_of_eq h
 |x::l,b,e,h=>by
  have:=h.2.2.2.le;have:=h.2.1;simp only[bO];lia
theorem Seg.congr{b n:Nat}(h:Seg R a b n)(hc:∀j,b<=j->j<b+n->at' a' j=at' a j):Seg R a' b n:=λi j hij hj=>by
 unfold Kr;rw[hc _ (by lia) (by lia),hc _ (by lia) (by lia)];exact h i j hij hj
theorem Runs.congr:∀{l:List (Nat×Nat)}{b e:Nat},Runs R a b l e->(∀j,b<=j->j<e->at' a' j=at' a j)->Runs R a' b l e
 | [],b,e,h,_=>h
 |x::l,b,e,h,hc=>by
  have:=h.2.2.2.le;exact⟨h.1,h.2.1,h.2.2.1.congr λj h1 h2=>hc j h1 (by lia),h.2.2.2.congr λj h1 h2=>hc j (by lia) h2⟩
theorem Runs.append:∀{l l':List (Nat×Nat)}{b e:Nat},Runs R a b (l++l') e↔∃m,Runs R a b l m/\Runs R a m l' e
 | [],l',b,e=>⟨λh=>⟨b,rfl,h⟩,λ⟨m,h1,h2⟩=>by cases h1;exact h2⟩
 |x::l,l',b,e=>by
  constructor
  ·rintro⟨h1,h2,h3,h4⟩;obtain⟨m,h5,h6⟩:=Runs.append.mp h4;exact⟨m,⟨h1,h2,h3,h5⟩,h6⟩
  ·rintro⟨m,⟨h1,h2,h3,h4⟩,h5⟩;exact⟨h1,h2,h3,Runs.append.mpr ⟨m,h4,h5⟩⟩
theorem yC{α:Type}{l:List α}{i:Nat}{x y:α}(h1:l[i]? = some x)(h2:l[i+1]? = some y):∃u v,l=u++x::y::v/\u.length=i:=by
 obtain⟨hl,e2⟩:=List.getElem?_eq_some_iff.mp h2;obtain⟨hl1,e1⟩:=List.getElem?_eq_some_iff.mp h1;refine⟨l.take i,l.drop (i+2),?_,by rw[bZ];lia⟩
 conv=>lhs;rw[<-bA i l]
 rw[dR hl1,dR hl,e1,e2]
theorem wL{p:Array (Nat×Nat×Nat)}{u v:List (Nat×Nat×Nat)}{x y:Nat×Nat×Nat}{sa na nb pw:Nat}(h:p.toList=u++x::y::v):(eQ p u.length sa na nb pw).toList=u++(sa,na+nb,pw)::v:=by
 unfold eQ;have hs:p.size=u.length+v.length+2:=by rw[<-aV,h];simp;lia
 rw[Array.eraseIdxIfInBounds_eq,dif_pos (by rw[Array.size_setIfInBounds];lia),Array.toList_eraseIdx,Array.toList_setIfInBounds,h];rw[List.set_append_right _ _ (aD _),Nat.sub_self];rw[List.eraseIdx_append_of_length_le (by lia)];rw[show u.length+1-u.length=1 by lia]
 rfl
end
structure SR(κ:SortKind)(R:ah->Int)(a₁:Array ah)(lo:Nat)(st:aF):Prop where
 kd:kindOf st=κ
 fl:failedOf st=none
 pm:(ag st).Perm a₁
 rn:Runs R (ag st) 0 ((aQ st).toList.map pr) lo
 le:lo<=a₁.size
section
variable{prog:aA}{w:av}{A:az}{E:ae->af->Prop}{s:af}{κ:SortKind}{D:ah->Prop}{LT:ah->ah->Bool}{R:ah->Int}{a₁:Array ah}{lo:Nat}
theorem SR.sz{st:aF}(h:SR κ R a₁ lo st):(ag st).size=a₁.size:=h.pm.size_eq
theorem SR.dom{st:aF}(h:SR κ R a₁ lo st)(Da:∀x∈a₁.toList,D x):∀x∈(ag st).toList,D x:=λx hx=>Da x ((Array.perm_iff_toList_perm.mp h.pm).mem_iff.mp hx)
theorem SR.merge(C:Cmp prog w A s κ D LT)(K:Rk D LT R)(Da:∀x∈a₁.toList,D x){st:aF}{i:Nat}{Q:Bool->aF->Prop}(H:SR κ R a₁ lo st)(hi:i+1<(aQ st).size)
  (h:∀st',SR κ R a₁ lo st'->(∀j,lo<=j->at' (ag st') j=at' (ag st) j)->(aQ st').size+1=(aQ st).size->Q true st') :
  wpS (ar prog w) A E s (mergeAt' i) Q st:=by
 obtain⟨⟨sa,na,pw⟩,hx⟩:∃x,(aQ st)[i]? = some x:=⟨_,Array.getElem?_eq_getElem (by lia)⟩
 obtain⟨⟨sb,nb,pw2⟩,hy⟩:∃x,(aQ st)[i+1]? = some x:=⟨_,Array.getElem?_eq_getElem hi⟩
 obtain⟨u,v,hl,hu⟩:=yC (l:=(aQ st).toList) (by rw[Array.getElem?_toList];exact hx) (by rw[Array.getElem?_toList];exact hy);have rn:=H.rn;rw[hl,List.map_append]at rn;obtain⟨m,r1,r2⟩:=Runs.append.mp rn;obtain⟨q1,q2,q3,q4,q5,q6,q7⟩:=r2;have q1:sa=m:=q1;have q2:1<=na:=q2;have q3:Seg R (ag st) m na:=q3;have q4:sb=m+na:=q4;have q5:1<=nb:=q5;have q6:Seg R (ag st) (m+na) nb:=q6;have q7:Runs R (ag st) (m+na+nb) (v.map pr) lo:=q7;have hle:=q7.le;have hle2:=r1.le;have hlo:=H.le;have hz:=H.sz;subst q1;refine v7 C K H.kd H.fl (H.dom Da) hx hy q4 q2 q5 (by lia) q3 (by rw[q4];exact q6) λst' k1 k2 k3 k4 k5 k6=>?_
 have hp:(aQ st').toList=u++(sa,na+nb,pw)::v:=by rw[k3,<-hu];exact wL hl
 refine h st' ⟨k1,k2,k4.trans H.pm,?_,H.le⟩ (λj hj=>k5 j (.inr (by lia))) ?_
 ·rw[hp,List.map_append];refine Runs.append.mpr ⟨sa,r1.congr λj _ hj=>k5 j (.inl hj),rfl,show 1<=na+nb by lia,k6,?_⟩;show Runs R (ag st') (sa+(na+nb)) (v.map pr) lo;rw[<-Nat.add_assoc];exact q7.congr λj hj _=>k5 j (.inr (by lia))
 ·rw[<-aV,hp,<-aV,hl];simp;lia
end
section
variable{prog:aA}{w:av}{A:az}{E:ae->af->Prop}{s:af}{κ:SortKind}{D:ah->Prop}{LT:ah->ah->Bool}{R:ah->Int}{a₁:Array ah}{lo:Nat}
theorem mK{p:Array (Nat×Nat×Nat)}{i pw:Nat}:(p.modify i λx=>(x.1,x.2.1,pw)).toList.map pr=p.toList.map pr:=by
 apply List.ext_getElem?;intro k;rw[List.getElem?_map,List.getElem?_map,Array.getElem?_toList,Array.getElem?_toList,Array.getElem?_modify];split
 ·rename_i e
  subst e;cases p[i]? <;> rfl
 ·rfl
theorem SR.pend{st:aF}{p:Array (Nat×Nat×Nat)}(H:SR κ R a₁ lo st)(hp:p.toList.map pr=(aQ st).toList.map pr):SR κ R a₁ lo (setPending st p):=
 ⟨H.kd,H.fl,H.pm,by show Runs R (ag st) 0 (p.toList.map pr) lo;rw[hp];exact H.rn,H.le⟩
theorem SR.push{st:aF}{n:Nat}(H:SR κ R a₁ lo st)(h1:1<=n)(h2:lo+n<=a₁.size)(hs:Seg R (ag st) lo n):SR κ R a₁ (lo+n) (setPending st ((aQ st).push (lo,n,0))):=
 ⟨H.kd,H.fl,H.pm,by
  show Runs R (ag st) 0 (((aQ st).push (lo,n,0)).toList.map pr) (lo+n);rw[Array.toList_push,List.map_append];exact Runs.append.mpr ⟨lo,H.rn,rfl,h1,hs,rfl⟩,h2⟩
theorem SR.base{st:aF}(H:SR κ R a₁ lo st):SB κ (aQ st) (ag st) lo st:=⟨H.kd,H.fl,rfl,Array.Perm.refl _,λ_ _=>rfl⟩
theorem SR.back{st st':aF}(H:SR κ R a₁ lo st)(B:SB κ (aQ st) (ag st) lo st'):SR κ R a₁ lo st':=
 ⟨B.kd,B.fl,B.pm.trans H.pm,by rw[B.pn];exact H.rn.congr λj _ hj=>B.lw j hj,H.le⟩
theorem uU(C:Cmp prog w A s κ D LT)(K:Rk D LT R)(Da:∀x∈a₁.toList,D x){st:aF}{Q:Unit->aF->Prop}(hk:kindOf st=κ)(hf:failedOf st=none)(hp:aQ st = #[])(ha:ag st=a₁)(h2:2<=a₁.size)
  (h:∀st',(ag st').Perm a₁->failedOf st'=none->Seg R (ag st') 0 a₁.size->Q () st'):wpS (ar prog w) A E s sortRuns' Q st:=by
 have H0:SR κ R a₁ 0 st:=⟨hk,hf,by rw[ha],by rw[hp];rfl,by lia⟩
 rw[sortRuns'_eq];refine ao (wpS_get ?_);dsimp only;rw[ha];generalize minRun' a₁.size a₁.size 0=mr;refine ao (wpS_mono (wpS_forRange
  (I:=λx c st'=>∃lo,c=(none,lo)/\SR κ R a₁ lo st'/\x<=lo)
  (Q:=λc st'=>c=(none,a₁.size)/\SR κ R a₁ a₁.size st') ?step ?fin ⟨0,rfl,H0,aD _⟩) ?post)
 case fin=>
  rintro c st' ⟨lo,rfl,H,hx⟩;have:=H.le;have:lo=a₁.size:=by lia
  subst this;exact⟨rfl,H⟩
 case step=>
  rintro x c st' _ hx ⟨lo,rfl,H,hxl⟩;dsimp only;have hle:=H.le;by_cases e:lo >= a₁.size
  ·rw[if_pos e];have:lo=a₁.size:=by lia
   subst this;exact au ⟨rfl,H⟩
  rw[if_neg e];have hz:=H.sz;refine ao (xb C K (H.dom Da) (by lia) (by lia) H.base λm st2 B2 m1 m2 S2=>?_);dsimp only;by_cases e3:m<mr
  ·rw[if_pos e3];refine ao (wpS_lift (wpAny_rule ⟨rfl,?_⟩));by_cases e4:m<=min (a₁.size-lo) mr
   ·refine ao (pF C K (H.dom Da) (by lia) e4 B2 S2 λst3 B3 S3=>?_);simp only[Bool.not_true,a_,if_false];have Hn:=H.back B3;refine ao (wpS_get ?_);cases hb:(aQ st3).back? with
    |none=>
     dsimp only;exact ao (wpS_modify (au ⟨_,rfl,Hn.push (by lia) (by lia) S3,by lia⟩))
    |some q=>
     obtain⟨s1,k1,w1⟩:=q;dsimp only;generalize power' _ _ _ _=pw;refine ao (wpS_mono (wpS_forRange (I:=λ_ c st'=>c=(none,())/\SR κ R a₁ lo st'/\∀j,lo<=j->at' (ag st') j=at' (ag st3) j)
      (Q:=λc st'=>c=(none,())/\SR κ R a₁ lo st'/\∀j,lo<=j->at' (ag st') j=at' (ag st3) j) ?_ (λ_ _ h=>h) ⟨rfl,Hn,λ_ _=>rfl⟩) ?_)
     ·rintro y c st8 _ _ ⟨rfl,H8,c8⟩;refine ao (wpS_get ?_);by_cases e1:(aQ st8).size>1
      ·rw[if_pos e1];obtain⟨⟨u1,u2,older⟩,hy⟩:∃x,(aQ st8)[(aQ st8).size-2]? = some x:=⟨_,Array.getElem?_eq_getElem (by lia)⟩
       rw[hy];dsimp only;by_cases e2:older<=pw
       ·rw[if_pos e2];exact au ⟨rfl,H8,c8⟩
       ·rw[if_neg e2];refine ao (H8.merge C K Da (by lia) λst9 H9 c9 _=>?_);exact au ⟨rfl,H9,λj hj=>(c9 j hj).trans (c8 j hj)⟩
      ·rw[if_neg e1];exact au ⟨rfl,H8,c8⟩
     ·rintro c st8 ⟨rfl,H8,c8⟩;dsimp only;refine ao (wpS_modify ?_);exact ao (wpS_modify (au ⟨_,rfl,(H8.pend mK).push (by lia) (by lia) (S3.congr λj hj _=>c8 j hj),by lia⟩))
   ·exfalso;lia
  ·rw[if_neg e3];have Hn:=H.back B2;refine ao (wpS_get ?_);cases hb:(aQ st2).back? with
   |none=>
    dsimp only;exact ao (wpS_modify (au ⟨_,rfl,Hn.push (m1) (by lia) S2,by lia⟩))
   |some q=>
    obtain⟨s1,k1,w1⟩:=q;dsimp only;generalize power' _ _ _ _=pw;refine ao (wpS_mono (wpS_forRange (I:=λ_ c st'=>c=(none,())/\SR κ R a₁ lo st'/\∀j,lo<=j->at' (ag st') j=at' (ag st2) j)
     (Q:=λc st'=>c=(none,())/\SR κ R a₁ lo st'/\∀j,lo<=j->at' (ag st') j=at' (ag st2) j) ?_ (λ_ _ h=>h) ⟨rfl,Hn,λ_ _=>rfl⟩) ?_)
    ·rintro y c st8 _ _ ⟨rfl,H8,c8⟩;refine ao (wpS_get ?_);by_cases e1:(aQ st8).size>1
     ·rw[if_pos e1];obtain⟨⟨u1,u2,older⟩,hy⟩:∃x,(aQ st8)[(aQ st8).size-2]? = some x:=⟨_,Array.getElem?_eq_getElem (by lia)⟩
      rw[hy];dsimp only;by_cases e2:older<=pw
      ·rw[if_pos e2];exact au ⟨rfl,H8,c8⟩
      ·rw[if_neg e2];refine ao (H8.merge C K Da (by lia) λst9 H9 c9 _=>?_);exact au ⟨rfl,H9,λj hj=>(c9 j hj).trans (c8 j hj)⟩
     ·rw[if_neg e1];exact au ⟨rfl,H8,c8⟩
    ·rintro c st8 ⟨rfl,H8,c8⟩;dsimp only;refine ao (wpS_modify ?_);exact ao (wpS_modify (au ⟨_,rfl,(H8.pend mK).push (m1) (by lia) (S2.congr λj hj _=>c8 j hj),by lia⟩))
 case post=>
  rintro c st' ⟨rfl,H⟩;dsimp only;have hl:=H.rn.le;rw[aZ,aV]at hl;refine ao (wpS_mono (wpS_forRange (I:=λx c st''=>c=(none,())/\SR κ R a₁ a₁.size st''/\((aQ st'').size<=1\/(aQ st'').size+x<=a₁.size))
   (Q:=λc st''=>c=(none,())/\SR κ R a₁ a₁.size st''/\(aQ st'').size<=1) ?_ ?_ ⟨rfl,H,.inr (by lia)⟩) ?_)
  ·rintro x c st3 _ hx ⟨rfl,H3,c3⟩;refine ao (wpS_get ?_);by_cases e1:(aQ st3).size<=1
   ·rw[if_pos e1];exact au ⟨rfl,H3,e1⟩
   rw[if_neg e1];refine ao (H3.merge C K Da ?_ λst4 H4 c4 z4=>?_)
   ·(repeat' split)<;>lia
   ·exact au ⟨rfl,H4,by lia⟩
  ·rintro c st3 ⟨rfl,H3,c3⟩;exact⟨rfl,H3,by lia⟩
  ·rintro c st3 ⟨rfl,H3,c3⟩;refine au (h st3 H3.pm H3.fl ?_);have rn:=H3.rn;generalize hq:(aQ st3).toList.map pr=q at rn;have hql:q.length<=1:=by rw[<-hq,aZ,aV];exact c3
   match q,rn,hql with
   | [],rn,_=>exact absurd rn (by show ¬ (0=a₁.size);lia)
   | [x],rn,_=>
    obtain⟨_,_,r3,r4⟩:=rn;have r4:0+x.2=a₁.size:=r4;rw[<-r4,Nat.zero_add];exact r3
end
section
variable{prog:aA}{w:av}{A:az}{E:ae->af->Prop}{s:af}
end
end TS
namespace TS
open PySem PySem.W PyProof.Rows
section
variable{M:Model}{A:az}{E:ae->af->Prop}{s:af}
end
section
variable{M:Model}{A:az}{E:ae->af->Prop}{s:af}
end
theorem rB{LT:ah->ah->Bool}{R:ah->Int}{a:Array ah}(S:Seg R a 0 a.size)(K:∀x∈a.toList,∀y∈a.toList,LT x y=decide (R x<R y)):a.toList.Pairwise λx y=>LT y x=false:=by
 rw[List.pairwise_iff_getElem];intro i j hi hj hij;rw[K _ (cJ hj) _ (cJ hi)];rw[aV]at hi hj;have:=S i j (by lia) hj;unfold Kr at this;have e1:=qg hi;have e2:=qg hj;rw[Array.getElem?_eq_getElem hi]at e1;rw[Array.getElem?_eq_getElem hj]at e2;injection e1 with e1
 injection e2 with e2
 rw[Nat.zero_add,Nat.zero_add,<-e1,<-e2]at this;rw[Array.getElem_toList,Array.getElem_toList];exact decide_eq_false (by lia)
section
variable{prog:aA}{w:av}{A:az}{E:ae->af->Prop}{s:af}
end
end TS
namespace L2
open PySem PySem.Spec PyProof.Rows TS
end L2
namespace L2
open PySem PySem.Spec PyProof.Rows
section
variable{X:Cx}
end
section
variable{X:Cx}
end
end L2
namespace EV
open PySem PySem.Spec PySem.P PyProof.Rows L2
theorem insI_perm(i:Int):∀l,(insI i l).Perm (i::l)
 | []=>.refl _
 |j::r=>by
  unfold insI;split
  ·exact .refl _
  ·exact((insI_perm i r).cons j).trans (.swap ..)
theorem sortI_perm:∀l,(sortI l).Perm l
 | []=>.refl _
 |i::r=>(insI_perm i _).trans ((sortI_perm r).cons i)
theorem kC(i:Int):∀{l:List Int},l.Pairwise (·<=·)->(insI i l).Pairwise (·<=·)
 | [],_=>by simp[insI]
 |j::r,h=>by
  unfold insI;obtain⟨h1,h2⟩:=List.pairwise_cons.mp h;split
  ·rename_i hij
   refine List.pairwise_cons.mpr ⟨λx hx=>?_,h⟩;rcases aJ.mp hx with rfl|hx
   ·exact hij
   ·exact Int.le_trans hij (h1 x hx)
  ·rename_i hij
   refine List.pairwise_cons.mpr ⟨λx hx=>?_,kC i h2⟩;rcases aJ.mp ((insI_perm i r).mem_iff.mp hx)with rfl|hx
   ·lia
   ·exact h1 x hx
theorem lu:∀l:List Int,(sortI l).Pairwise (·<=·)
 | []=>.nil
 |i::r=>kC i (lu r)
theorem jM{l m:List Int}(h1:m.Perm l)(h2:m.Pairwise (·<=·)):m=sortI l:=PySem.W.ksm_same (h1.trans (sortI_perm l).symm) h2 (lu l)
section
variable{X:Cx}{g:Gc}
theorem xD(hK:X.K=g.K)(hu:X.A.units+64<cLine):zd X (.builtin "sorted") (rB1 g .sorted):=eB vM λS ds d vs H Q hs rs h q=>by
 obtain⟨x,rfl,h'⟩:=iu (λ_ _=>rfl) h;cases h'
theorem l7(hK:X.K=g.K)(hc:X.calm=true)(mx:Bool):zd X (.builtin (if mx then "max" else "min")) (rB1 g (if mx then .max else .min)):=by
 have two:∀{S:Sh}{H:Hp}{x y:D}{vs:List V}{i j:Int},x=.int i->y=.int j->eP g H S [x,y] vs->vs=[.int i,.int j]:=by
  intro S H x y vs i j hx hy rs;subst hx hy;cases rs with
  |cons r1 rs=>
   cases rs with
   |cons r2 rs=>cases rs;rw[r1.int,r2.int]
 have inv:∀{b:B1}{ds:List D}{d:D},b1 b ds=.ok d->(∃x,ds=[x]/\b11 b x=.ok d)\/∃x y,ds=[x,y]/\b12 b x y=.ok d:=by
  intro b ds d h
  match ds,h with
  | [x],h=>exact .inl ⟨x,rfl,h⟩
  | [x,y],h=>exact .inr ⟨x,y,rfl,h⟩
  | [],h=>cases h
  |_::_::_::_,h=>cases h
 cases mx
 ·exact eB (wc hc) λS ds d vs H Q hs rs h q=>by
   rcases inv h with ⟨x,rfl,h'⟩|⟨x,y,rfl,h'⟩
   ·cases h'
   ·obtain⟨i,j,hx,hy,h'⟩:=kQ h';cases h';exact⟨i,j,two hx hy rs,q _ _ (qa.refl _) (.int _) (by simp)⟩
 ·exact eB (oN hc) λS ds d vs H Q hs rs h q=>by
   rcases inv h with ⟨x,rfl,h'⟩|⟨x,y,rfl,h'⟩
   ·cases h'
   ·obtain⟨i,j,hx,hy,h'⟩:=kQ h';cases h';exact⟨i,j,two hx hy rs,q _ _ (qa.refl _) (.int _) (by simp)⟩
theorem xH:zd X (.builtin "abs") (rB1 g .abs):=gX (λ_=>rfl) λ_ _=>rfl
theorem vD:zd X (.type "int") (rB1 g .int):=gX (λ_=>rfl) λ_ _=>rfl
theorem sN:zd X (.type "bool") (rB1 g .bool):=gX (λ_=>rfl) λ_ _=>rfl
theorem rj(hK:X.K=g.K)(hc:X.calm=true):zd X (.builtin "sum") (rB1 g .sum):=gX (λ_=>rfl) λ_ _=>rfl
theorem kP(hK:X.K=g.K)(hu:X.A.units+64<cLine):∀b,(X.calm=true\/b=.len\/b=.abs\/b=.tuple\/b=.list\/b=.int\/b=.bool)->zd X (b1V b) (rB1 g b)
 | .len,_=>vB hK
 | .tuple,_=>xw hK
 | .list,_=>yi hK
 | .sorted,_=>xD hK hu
 | .all,h=>nz hK (by simpa using h) true
 | .any,h=>nz hK (by simpa using h) false
 | .sum,h=>rj hK (by simpa using h)
 | .min,h=>l7 hK (by simpa using h) false
 | .max,h=>l7 hK (by simpa using h) true
 | .abs,_=>xH
 | .int,_=>vD
 | .bool,_=>sN
theorem lA{H:Hp}{ds:List D}{vs:List V}(r:qF g H ds vs):ds.isEmpty=vs.isEmpty:=by cases r<;>rfl
theorem uJ(hK:X.K=g.K){S:Sh}{H:Hp}{d:D}{v:V}{b:Bool}(r:zp g H S d v)(e:truth d=.ok b):iU X.K v H b:=by
 cases d with
 |non=>cases r.rep;cases e;exact rfl
 |bl c=>cases r.rep;cases e;exact rfl
 |int i=>cases r.rep;cases e;exact rfl
 |tup xs=>
  cases e;obtain⟨a,vs,rfl,h1,r1⟩:=r.tup;exact .inr (.inl ⟨vs,by rw[hK];exact h1,by rw[lA r1]⟩)
 |lst xs=>
  cases e;obtain⟨a,vs,rfl,h1,r1⟩:=r.lst;exact .inl ⟨vs,by rw[hK];exact h1,by rw[lA r1]⟩
 |_=>cases e
theorem sd(hK:X.K=g.K):zd X (.builtin "isinstance") (λxs H Q=>∃S d v n t,xs=[v,.ty n]/\zp g H S d v/\tyD d=some t/\n∈["int","bool","str","list","tuple"]/\Q (.bl (eJ t n)) H):=by
 intro pins s σ H xs us Q I r h;obtain⟨S,d,v,n,t,rfl,rd,ht,hn,q⟩:=h;obtain⟨u,cu,rfl,rx,rc⟩:=r.two;cases rc;have fin:∀tk,EP X pins σ Q (.bool (eJ t n)) {s with toks:=tk}:=λtk=>⟨.bl _,H,I.tok tk,rfl,q⟩
 have kb:t∈["NoneType","bool","int","str","list","tuple","dict"]->b3 X.K (.type t) (.type n)=some (eJ t n):=λh=>wV h hn
 cases d with
 |non=>cases ht;cases rd.rep;exact fV I rx .non (kb (by simp)) fin
 |bl c=>cases ht;cases rd.rep;exact fV I rx (.bl c) (kb (by simp)) fin
 |int i=>cases ht;cases rd.rep;exact fV I rx (.int i) (kb (by simp)) fin
 |str i=>cases ht;cases rd.rep;exact fV I rx (.str i) (kb (by simp)) fin
 |tup xs=>
  cases ht;obtain⟨a,vs,rfl,h1,_⟩:=rd.tup;cases rx;obtain⟨its,_,⟨o,e1,e2,_⟩,_⟩:=I.tuple (by rw[hK];exact h1);exact bK PySem.W.kitx_tuple I.kIn ⟨o,e1,e2⟩ (kb (by simp)) (λz=>nomatch z) fin
 |lst xs=>
  cases ht;obtain⟨a,vs,rfl,h1,_⟩:=rd.lst;cases rx;obtain⟨its,_,pl,_⟩:=I.list (by rw[hK];exact h1);obtain⟨o,e1,e2,_⟩:=pl.isList;exact bK PySem.W.kitx_list I.kIn ⟨o,e1,e2⟩ (kb (by simp)) (λz=>nomatch z) fin
 |dic=>
  cases ht;cases rd.rep with
  |dic h1=>exact fV I rx (.dK h1) (kb (by simp)) fin
 |_=>cases ht
end
theorem nZ{o:O2}{a b:Int}{c:Str}:opI o a b≠.ex c:=by
 cases o<;>simp only[opI]<;>(try split)<;>intro h<;>cases h
theorem um{o:O2}{a b:D}{c:Str}:op2 o a b≠.ex c:=by
 unfold op2;split
 ·exact nZ
 all_goals ((try split)<;>intro h<;>cases h)
theorem sm{n:Bool}{a b:D}{c:Str}:isB n a b≠.ex c:=by
 unfold isB;split<;>intro h<;>cases h
theorem vL{o:C2}{a b:D}{c:Str}:qh o a b≠.ex c:=by
 unfold qh;split<;>(try split)<;>(try split)<;>intro h<;>first|cases h|exact sm h
theorem n8{a:D}{c:Str}:truth a≠.ex c:=by
 unfold truth;split<;>intro h<;>cases h
theorem o3{a b:D}{c:Str}:ixD a b≠.ex c:=by
 unfold ixD;split<;>(try split)<;>intro h<;>cases h
theorem tH{a:D}{l h:Option Int}{c:Str}:slD a l h≠.ex c:=by
 unfold slD;split<;>(try split)<;>intro h<;>cases h
theorem lY{x:D}{k:List D->R D}{c:Str}(h:∀xs,k xs≠.ex c):eD x k≠.ex c:=by
 cases x with
 |lst xs=>exact h xs
 |_=>intro z;cases z
theorem mj{x y:D}{k:Int->Int->R D}{c:Str}(h:∀i j,k i j≠.ex c):iiR x y k≠.ex c:=by
 cases x with
 |int i=>
  cases y with
  |int j=>exact h i j
  |_=>intro z;cases z
 |_=>intro z;cases z
theorem fL{α β:Type}{o:Option α}{k:α->R β}{c:Str}(h:∀a,k a≠.ex c):cg o k≠.ex c:=by
 cases o with
 |some a=>exact h a
 |none=>intro z;cases z
theorem eG{α:Type}{a:α}{c:Str}:R.ok a≠.ex c:=by intro z;cases z
theorem dA{α:Type}{c:Str}:(R.no:R α)≠.ex c:=by intro z;cases z
theorem uO{b:B1}{d:D}{c:Str}:b11 b d≠.ex c:=by
 cases b with
 |len=>exact fL λ_=>eG
 |tuple=>exact fL λ_=>eG
 |list=>exact fL λ_=>eG
 |all=>exact lY λ_=>fL λ_=>eG
 |any=>exact lY λ_=>fL λ_=>eG
 |sorted=>exact dA
 |abs=>exact dA
 |int=>exact dA
 |bool=>exact dA
 |sum=>exact dA
 |min=>exact dA
 |max=>exact dA
theorem pj{b:B1}{ds:List D}{c:Str}:b1 b ds≠.ex c:=by
 match ds with
 | []=>exact dA
 | [_]=>exact uO
 | [x,y]=>
  cases b with
  |min=>exact mj λ_ _=>eG
  |max=>exact mj λ_ _=>eG
  |_=>exact dA
 |_::_::_::_=>exact dA
structure br(g:Gc)(c:Cc)(e:E)(S:Sh)(H:Hp)(d:D)(v:V)(H':Hp):Prop where
 same:qa H H'
 rb:zp g H' S d v
 st:esc e=true->Rep g (hid H' S) d v
 fr:fresh c e=true->Fr g H S H' d v
structure SE(g:Gc)(c:Cc)(τ:Env)(σ:L2.St)(H:Hp)(S:Sh):Prop where
 len:τ.length=σ.length
 val:∀(i:Nat) (d:D),τ[i]? = some (some d)->∃v,σ[i]? = some (some v)/\zp g H S d v/\∀x,c.N[i]? = some x->c.own.contains x=false->Rep g (hid H S) d v
 sub:Sub S H
theorem SE.up{g:Gc}{c:Cc}{τ:Env}{σ:L2.St}{H H':Hp}{S:Sh}(s:SE g c τ σ H S)(e:qa H H'):SE g c τ σ H' S:=
 ⟨s.len,λi d h=>let ⟨v,h1,h2,h3⟩:=s.val i d h;⟨v,h1,h2.mono e,λx a b=>(h3 x a b).mono (qR e)⟩,s.sub.same e⟩
noncomputable def tR{α:Type}(g:Gc)(E:XK)(H:Hp)(r:R α)(k:α->Prop):Prop:=match r with
 | .ok a=>k a
 | .ex c=>∀H' C,qa H H'->g.clA c=some C->E (.ref C) none H'
 | .no=>False
theorem tR.up{α:Type}{g:Gc}{E:XK}{H H':Hp}{r:R α}{k:α->Prop}(h:tR g E H r k)(e:qa H H'):tR g E H' r k:=by
 cases r with
 |ok a=>exact h
 |ex c=>exact λH2 C e2 hc=>h H2 C (e.trans e2) hc
 |no=>exact h
theorem tR.imp{α:Type}{g:Gc}{E:XK}{H:Hp}{r:R α}{k k':α->Prop}(h:tR g E H r k)(i:∀a,k a->k' a):tR g E H r k':=by
 cases r with
 |ok a=>exact i a h
 |ex c=>exact h
 |no=>exact h
section
variable(w:W)(g:Gc)(c:Cc)(E:XK)
noncomputable def tE(e:EV.E):TE:=λσ H Q=>∃τ S,SE g c τ σ H S/\tR g E H (evE w e τ) λd=>∀v H',br g c e S H d v H'->Q v H'
noncomputable def tT(t:T):TT:=λσ H Q=>∃τ S,SE g c τ σ H S/\tR g E H (evT w t τ) λb=>∀H',qa H H'->Q b H'
noncomputable def tA(es:Es):TA:=λσ H Q=>∃τ S,SE g c τ σ H S/\tR g E H (zu w es τ) λds=>∀vs H',qa H H'->eP g H' S ds vs->(cz es=true->qF g (hid H' S) ds vs)->Q vs H'
noncomputable def tOe(o:OE):TO:=λσ H Q=>∃τ S,SE g c τ σ H S/\tR g E H (evO w o τ) λi=>∀H',qa H H'->Q i H'
noncomputable def Goes(g:Gc)(J:L2.It)(ds:List D)(H:Hp)(S:Sh):Prop:=
 (∀i,ds.length<=i->J.stop i H)/\∀i d,ds[i]? = some d->J.go i H/\∀x H',J.yld i H x H'->qa H H'/\Rep g (hid H' S) d x
noncomputable def tIt(it:It):TI:=λσ H R=>∃τ S,SE g c τ σ H S/\tR g E H (evI w it τ) λds=>∀J H',qa H H' ->
 (∀H2 S2,qa H' H2->qa (hid H' S) (hid H2 S2)->Sub S2 H2->Goes g J ds H2 S2)->(owned it=false->∀H2 S2,qa (hid H' S) (hid H2 S2)->Sub S2 H2->Goes g J ds H2 S2)->R J H'
end
theorem PE.imp{X:Cx}{e:Expr}{t t':TE}(h:PE X e t)(i:∀σ H Q,t' σ H Q->t σ H Q):PE X e t':=λpins s σ H Q I q=>h pins s σ H Q I (i _ _ _ q)
theorem PT.imp{X:Cx}{e:Expr}{t t':TT}(h:PT X e t)(i:∀σ H Q,t' σ H Q->t σ H Q):PT X e t':=λpins s σ H Q I q=>h pins s σ H Q I (i _ _ _ q)
theorem PW.imp{X:Cx}{e:Expr}{t t':TT}(h:PW X e t)(i:∀σ H Q,t' σ H Q->t σ H Q):PW X e t':=λwh pins s σ H Q I q=>h wh pins s σ H Q I (i _ _ _ q)
theorem PA.imp{X:Cx}{e:List Expr}{t t':TA}(h:PA X e t)(i:∀σ H Q,t' σ H Q->t σ H Q):PA X e t':=λpos pins s σ H Q I q=>h pos pins s σ H Q I (i _ _ _ q)
theorem PO.imp{X:Cx}{e:Option Expr}{t t':TO}(h:PO X e t)(i:∀σ H Q,t' σ H Q->t σ H Q):PO X e t':=λpins s σ H Q I q=>h pins s σ H Q I (i _ _ _ q)
theorem PI.imp{X:Cx}{tg e:Expr}{t t':TI}(h:PI X tg e t)(i:∀σ H Q,t' σ H Q->t σ H Q):PI X tg e t':=λpins s σ H Q I q=>h pins s σ H Q I (i _ _ _ q)
theorem PS.imp{X:Cx}{e:Stmt}{t t':TS}(h:PS X e t)(i:∀D σ H,t' D σ H->t D σ H):PS X e t':=λpins s σ H Q I q=>h pins s σ H Q I (i _ _ _ q)
theorem PSs.imp{X:Cx}{e:List Stmt}{t t':TS}(h:PSs X e t)(i:∀D σ H,t' D σ H->t D σ H):PSs X e t':=λpins s σ H Q I q=>h pins s σ H Q I (i _ _ _ q)
section
variable{w:W}{g:Gc}{c:Cc}{E:XK}{τ:Env}{σ:L2.St}{H H0:Hp}{S:Sh}
theorem qS{α:Type}{e:EV.E}{f:D->R α}{P:α->Prop}{Q:VK}(se:SE g c τ σ H S)(h:tR g E H ((evE w e τ).bind f) P)(k:∀d v H',evE w e τ=.ok d->br g c e S H d v H'->tR g E H' (f d) P->Q v H'):tE w g c E e σ H Q:=by
 refine⟨τ,S,se,?_⟩;cases q:evE w e τ with
 |ok d=>rw[q]at h;exact λv H' p=>k d v H' q p (tR.up h p.same)
 |ex x=>rw[q]at h;exact h
 |no=>rw[q]at h;exact h
theorem gy{α:Type}{t:T}{f:Bool->R α}{P:α->Prop}{Q:Bool->Hp->Prop}(se:SE g c τ σ H S)(h:tR g E H ((evT w t τ).bind f) P)(k:∀b H',evT w t τ=.ok b->qa H H'->tR g E H' (f b) P->Q b H'):tT w g c E t σ H Q:=by
 refine⟨τ,S,se,?_⟩;cases q:evT w t τ with
 |ok d=>rw[q]at h;exact λH' p=>k d H' q p (tR.up h p)
 |ex x=>rw[q]at h;exact h
 |no=>rw[q]at h;exact h
theorem eF{α:Type}{es:Es}{f:List D->R α}{P:α->Prop}{Q:List V->Hp->Prop}(se:SE g c τ σ H S)(h:tR g E H ((zu w es τ).bind f) P)
  (k:∀ds vs H',zu w es τ=.ok ds->qa H H'->eP g H' S ds vs->(cz es=true->qF g (hid H' S) ds vs)->tR g E H' (f ds) P->Q vs H'):tA w g c E es σ H Q:=by
 refine⟨τ,S,se,?_⟩;cases q:zu w es τ with
 |ok d=>rw[q]at h;exact λvs H' p r r'=>k d vs H' q p r r' (tR.up h p)
 |ex x=>rw[q]at h;exact h
 |no=>rw[q]at h;exact h
theorem kF{α:Type}{o:OE}{f:Option Int->R α}{P:α->Prop}{Q:Option Int->Hp->Prop}(se:SE g c τ σ H S)(h:tR g E H ((evO w o τ).bind f) P)(k:∀b H',evO w o τ=.ok b->qa H H'->tR g E H' (f b) P->Q b H'):tOe w g c E o σ H Q:=by
 refine⟨τ,S,se,?_⟩;cases q:evO w o τ with
 |ok d=>rw[q]at h;exact λH' p=>k d H' q p (tR.up h p)
 |ex x=>rw[q]at h;exact h
 |no=>rw[q]at h;exact h
theorem br.of{e:EV.E}{d:D}{v:V}{H':Hp}(s:qa H H')(r:Rep g (hid H' S) d v)(f:fresh c e=false):br g c e S H d v H':=⟨s,.inl r,λ_=>r,λz=>by rw[f]at z;cases z⟩
theorem br.new{e:EV.E}{d:D}{v:V}{H':Hp}(s:qa H H')(r:Rep g (hid H' S) d v)(f:Fr g H S H' d v):br g c e S H d v H':=⟨s,.inl r,λ_=>r,λ_=>f⟩
theorem Fr.low{d:D}{v:V}{H1 H':Hp}(f:Fr g H1 S H' d v)(e:qa H H1):Fr g H S H' d v:=by
 obtain⟨a,vs,ds,h1,h2,h3,h4,h5⟩:=f;exact⟨a,vs,ds,h1,h2,e.free h3,h4,h5⟩
end
noncomputable def b1N:B1->Str
 | .len=>"len"
 | .tuple=>"tuple"
 | .list=>"list"
 | .sorted=>"sorted"
 | .all=>"all"
 | .any=>"any"
 | .sum=>"sum"
 | .min=>"min"
 | .max=>"max"
 | .abs=>"abs"
 | .int=>"int"
 | .bool=>"bool"
theorem mO:∀b,bM (b1N b)=some (b1V b)
 | .len | .tuple | .list | .sorted | .all | .any | .sum | .min | .max | .abs | .int | .bool=>by decide +kernel
noncomputable def spF(w:W)(g:Gc)(x:Str)(fr:Bool):Sp:=λvs H Q E=>∃S ds,Sub S H/\qF g (hid H S) ds vs /\
 tR g E H (w.call x ds) λd=>∀v H',qa H H'->Rep g (hid H' S) d v->(fr=true->Fr g H S H' d v)->Q v H'
structure gS(w:W)(g:Gc)(P:aA)(wl:av)(mg:Str->Option ae)(base:Heap)(A:az)(calm:Bool)(x:Str)(f:Addr)(fr:Bool):Prop where
 at_:mg x=some (.ref f)
 kp:b4 g.K (.ref f)=true
 fn:∃k fd ps,Binds g.K fd ps []/\((calm=true/\dC P wl g.K mg base (CX1 P wl) k f fd ps (spF w g x fr)/\bW k A)\/(calm=false/\hX P wl g.K mg base (CX1 P wl) k f fd ps (spF w g x fr)/\fF k A))
noncomputable def GM(w:W)(g:Gc)(P:aA)(wl:av)(mg:Str->Option ae)(base:Heap)(A:az)(calm:Bool)(x:Str):GK->Prop
 | .fn fr=>∃f,g.fnA x=some f/\gS w g P wl mg base A calm x f fr
 | .val=>∃u v d,mg x=some u/\RelV v u/\w.glb x=some d/\∀H,Rep g H d v
 | .bi b=>mg x=none/\x=b1N b/\∃id,b1V b=.builtin id
 | .rng=>mg x=none/\x = "range"
 | .enum=>mg x=none/\x = "enumerate"
 | .zip=>mg x=none/\x = "zip"
 | .isi=>mg x=none/\x = "isinstance"
 | .ty n b=>mg x=none/\bM x=some (.type n)/\(n∈["int","bool","str","list","tuple"]\/n = "ValueError")/\∀b',b=some b'->x=b1N b'/\b1V b'=.type n
 | .exc=>∃C,mg x=some (.ref C)/\g.clA x=some C
 | .exk=>∃C,mg x=some (.ref C)/\g.clA x=some C
 | .set=>mg x=none/\bM x=some (.type "set")
structure XO(w:W)(g:Gc)(c:Cc)(E:XK)(X:Cx):Prop where
 K:X.K=g.K
 nm:X.env.scope.names=c.nm
 N:X.N=c.N
 nd:c.N.Nodup
 calm:c.calm=true->X.calm=true
 units:X.A.units+64<cLine
 fn:∀x,(c.fnc=true\/c.oc.contains x=true)->X.fn x=true
 kind:X.env.scope.kind=.function
 pass:Passes (CX1 X.prog X.w) X E
 gok:∀x k,c.G.lookup x=some k->GM w g X.prog X.w X.mg X.base X.A X.calm x k
 fns:X.calm=true->∀x f,g.fnA x=some f->∃fr,gS w g X.prog X.w X.mg X.base X.A X.calm x f fr
 -- what isinstance says of a caught error
 sub:∀k cl b,w.sub k cl=some b->∃C cv,g.clA k=some C/\iH g.K C/\b3 g.K (.ref C) cv=some b/\match cl with
  | .ty n=>n = "ValueError"/\cv=.type n
  | .ex x=>∃D,g.clA x=some D/\cv=.ref D
section
variable{w:W}{g:Gc}{c:Cc}{E:XK}{X:Cx}
theorem eh{x:Str}{i:Nat}(h:loc c x=some i):c.N[i]? = some x/\(c.nm.lookup x=some .local\/c.nm.lookup x=some .cell\/c.nm.lookup x=some .free)/\(x==("__debug__" : Str))=false/\(x==("__classdict__" : Str))=false:=by
 unfold loc at h;split at h
 ·cases h
 ·rename_i hd
  have hd':(x==("__debug__" : Str))=false/\(x==("__classdict__" : Str))=false:=by simpa using hd
  have fin:∀{j},(if c.N[j]? = some x then some j else none)=some i->c.N[i]? = some x:=λ{j} z=>by
   split at z
   ·cases z;assumption
   ·cases z
  split at h
  ·rename_i q;exact⟨fin h,.inl q,hd'⟩
  ·rename_i q;exact⟨fin h,.inr (.inl q),hd'⟩
  ·rename_i q;exact⟨fin h,.inr (.inr q),hd'⟩
  ·cases h
theorem qm{x:Str}{k:GK}(h:glob c x=some k):c.nm.lookup x=some .globalImplicit/\c.G.lookup x=some k/\(x==("__debug__" : Str))=false/\x≠"__name__":=by
 unfold glob at h;split at h
 ·cases h
 ·rename_i hd
  have hd':(x==("__debug__" : Str))=false/\(x==("__name__" : Str))=false:=by simpa using hd
  split at h
  ·rename_i q;exact⟨q,h,hd'.1,by simpa using hd'.2⟩
  ·cases h
theorem XO.gl(O:XO w g c E X){x:Str}{k:GK}(h:glob c x=some k):Gl X x:=by
 show X.env.scope.names.lookup x=_;rw[O.nm];exact(qm h).1
theorem XO.gm(O:XO w g c E X){x:Str}{k:GK}(h:glob c x=some k):GM w g X.prog X.w X.mg X.base X.A X.calm x k:=O.gok x k (qm h).2.1
theorem qe{e:Expr}{es:List Expr}{env:PySem.Env}(h:isStar e=false):aR (e::es) env=(false,eval e env)::aR es env:=by
 cases e<;>first|rfl|(simp[isStar]at h)
theorem eY{es:List Expr}{env:PySem.Env}{pos:Pos}:(∀e∈es,isStar e=false)->(backTo pos (aR es env)).any (·.1)=false:=by
 induction es with
 |nil=>intro _;rfl
 |cons e es ih=>
  intro h;rw[qe (h e aW)];show (false||(backTo pos (aR es env)).any (·.1))=false;rw[ih λe he=>h e (aS _ he)]
  rfl
theorem zS:∀{n:Nat}{es:List Expr}{ir:Es},cEs n c es=some ir->∀e∈es,isStar e=false
 | 0,_,_,h=>by simp[cEs]at h
 |n+1,[],_,_=>by simp
 |n+1,e::es,ir,h=>by
  simp only[cEs]at h;cases hs:isStar e with
  |true=>simp[hs]at h
  |false=>
   simp only[hs,a_,if_false,aH,aG]at h;obtain⟨_,_,r,hr,_⟩:=h;intro x hx;rcases aJ.mp hx with rfl|hx
   ·exact hs
   ·exact zS hr x hx
theorem sA{x:Str}{f:Addr}{fr:Bool}{e:Expr}{es:List Expr}{p pos:Pos}{t:TA}(O:XO w g c E X)(C:gS w g X.prog X.w X.mg X.base X.A X.calm x f fr)(hg:Gl X x)(hd:(x==("__debug__" : Str))=false)(ha:PA X (e::es) t)
  (hs:∀z∈e::es,isStar z=false):PE X (.Call (.Name x p) (e::es) [] pos) (jt (spF w g x fr) [] E t):=by
 obtain⟨k,fd,ps,hb,h⟩:=C.fn;have he:=qe (es:=es) (env:=X.env) (hs e aW);have hp:=eY (env:=X.env) (pos:=pos) λz hz=>hs z (aS _ hz)
 rw[<-O.K]at hb h;rcases h with ⟨_,F,r⟩|⟨_,F,r⟩
 ·exact yn F r hg C.at_ (by rw[O.K];exact C.kp) hb .nil O.pass ha hd he hp
 ·exact sH F r hg C.at_ (by rw[O.K];exact C.kp) hb .nil O.pass ha hd he hp
end
end EV
namespace L2
open PySem PySem.Spec PyProof.Rows
section
variable{X:Cx}
end
end L2
namespace EV
open PySem PySem.Spec PySem.P PyProof.Rows L2
section
variable{w:W}{g:Gc}{c:Cc}{E:XK}{X:Cx}{a b d f:Expr}{ia ib id' if':EV.E}{pos p2:Pos}{ta tb:T}
theorem fZ{e:Expr}{v:V}{dd:D}(h:PE X e (tC v))(r:∀H,Rep g H dd v):PE X e (tE w g c E (.con dd)):=PE.imp h λσ H Q ⟨τ,S,se,k⟩=>k v H (br.of (qa.refl _) (r _) rfl)
theorem ng{x:Str}{i:Nat}(O:XO w g c E X)(h:loc c x=some i):PE X (.Name x pos) (tE w g c E (if c.own.contains x then .own i else .var i)):=by
 obtain⟨h1,h2,h3,h4⟩:=eh h;refine PE.imp (gH (i:=i) (by rw[O.N];exact h1) (by unfold fc;rw[O.nm];exact h2) h3 h4) λσ H Q ⟨τ,S,se,k⟩=>?_
 have key:∀e,evE w e τ=zR τ i->fresh c e=false->(esc e=true->c.own.contains x=false)->tR g E H (evE w e τ) (λd=>∀v H',br g c e S H d v H'->Q v H')->fT i σ H Q:=λe e1 e2 e3 k=>by
  rw[e1]at k;unfold zR at k;cases q:τ[i]? with
  |none=>rw[q]at k;exact k.elim
  |some o=>
   cases o with
   |none=>rw[q]at k;exact k.elim
   |some d=>
    rw[q]at k;obtain⟨v,z1,z2,z3⟩:=se.val i d q;exact⟨v,z1,k v H ⟨qa.refl _,z2,λz=>z3 x h1 (e3 z),λz=>by rw[e2]at z;cases z⟩⟩
 cases ho:c.own.contains x with
 |true=>rw[ho]at k;exact key (.own i) (by simp[qU,qX,qV,za,qW,zb,qZ,zc,qY,qt,qz,qs,qw,qu,qi,qD,qB,qA,qx,qy,qC,qo,qq,qP,qE,qr,qJ,qM,qN,qO,qI,qL,qK,qp,qH]) rfl (by intro z;cases z) k
 |false=>rw[ho]at k;exact key (.var i) (by simp[qU,qX,qV,za,qW,zb,qZ,zc,qY,qt,qz,qs,qw,qu,qi,qD,qB,qA,qx,qy,qC,qo,qq,qP,qE,qr,qJ,qM,qN,qO,qI,qL,qK,qp,qH]) rfl (λ_=>ho) k
theorem ym{x:Str}(O:XO w g c E X)(h:glob c x=some .val):PE X (.Name x pos) (tE w g c E (.glb x)):=by
 obtain⟨u,v,d,h1,h2,h3,h4⟩:=O.gm h;refine PE.imp (gP (O.gl h) h1 h2 (qm h).2.2.1) λσ H Q ⟨τ,S,se,k⟩=>?_
 simp only[qU,qX,qV,za,qW,zb,qZ,zc,qY,qt,qz,qs,qw,qu,qi,qD,qB,qA,qx,qy,qC,qo,qq,qP,qE,qr,qJ,qM,qN,qO,qI,qL,qK,qp,qH,h3]at k;exact k v H (br.of (qa.refl _) (h4 _) rfl)
theorem pD{x:Str}{fr:Bool}(O:XO w g c E X)(h:glob c x=some (.fn fr)):PE X (.Name x pos) (tE w g c E (.fnv x)):=by
 obtain⟨f,h1,h2⟩:=O.gm h;refine PE.imp (gP (v:=.ref f) (O.gl h) h2.at_ rfl (qm h).2.2.1) λσ H Q ⟨τ,S,se,k⟩=>?_
 simp only[qU,qX,qV,za,qW,zb,qZ,zc,qY,qt,qz,qs,qw,qu,qi,qD,qB,qA,qx,qy,qC,qo,qq,qP,qE,qr,qJ,qM,qN,qO,qI,qL,qK,qp,qH]at k;exact k _ H (br.of (qa.refl _) (.fn h1) rfl)
theorem j6{τ:EV.Env}{e:EV.E}{d:D}(h:isL e=true)(he:evE w e τ=.ok d):lQ d=true:=by
 cases e<;>first|(cases h;done)|skip
 ·simp only[qU,qX,qV,za,qW,zb,qZ,zc,qY,qt,qz,qs,qw,qu,qi,qD,qB,qA,qx,qy,qC,qo,qq,qP,qE,qr,qJ,qM,qN,qO,qI,qL,qK,qp,qH]at he;cases q:zu w ‹_› τ with
  |ok ds=>rw[q]at he;cases he;rfl
  |ex z=>rw[q]at he;cases he
  |no=>rw[q]at he;cases he
 ·simp only[qU,qX,qV,za,qW,zb,qZ,zc,qY,qt,qz,qs,qw,qu,qi,qD,qB,qA,qx,qy,qC,qo,qq,qP,qE,qr,qJ,qM,qN,qO,qI,qL,qK,qp,qH]at he;cases q:evI w ‹_› τ with
  |ok ds=>rw[q]at he;cases he;rfl
  |ex z=>rw[q]at he;cases he
  |no=>rw[q]at he;cases he
 ·simp only[qU,qX,qV,za,qW,zb,qZ,zc,qY,qt,qz,qs,qw,qu,qi,qD,qB,qA,qx,qy,qC,qo,qq,qP,qE,qr,qJ,qM,qN,qO,qI,qL,qK,qp,qH]at he;cases q:evI w ‹_› τ with
  |ok ds=>
   rw[q]at he;simp only[R.bind_ok]at he;split at he
   ·cases he
   ·generalize zJ _ _ _ _=r at he;cases r with
    |ok o=>cases he;rfl
    |ex z=>cases he
    |no=>cases he
  |ex z=>rw[q]at he;cases he
  |no=>rw[q]at he;cases he
theorem xo(O:XO w g c E X){op:Operator}{o:O2}(ho:o2 op=some o)(ha:PE X a (tE w g c E ia))(hb:PE X b (tE w g c E ib)):PE X (.BinOp a op b pos) (tE w g c E (.op o ia ib)):=
 PE.imp (sL (r9 O.K ho) ha hb) λσ H Q ⟨τ,S,se,k⟩=>by
  simp only[qU,qX,qV,za,qW,zb,qZ,zc,qY,qt,qz,qs,qw,qu,qi,qD,qB,qA,qx,qy,qC,qo,qq,qP,qE,qr,qJ,qM,qN,qO,qI,qL,qK,qp,qH]at k;refine qS se k λda va H1 e1 p1 k1=>qS (se.up p1.same) k1 λdb vb H2 e2 p2 k2=>⟨S,da,db,(se.up (p1.same.trans p2.same)).sub,p1.rb.mono p2.same,p2.rb,?_⟩
  cases q:op2 o da db with
  |ok r=>
   rw[q]at k2;exact λv H' s r f=>k2 v H' ⟨(p1.same.trans p2.same).trans s,.inl r,λ_=>r,λz=>by
    simp only[fresh,b9,aM,beq_iff_eq]at z;refine(f ?_).low (p1.same.trans p2.same);rcases z with z|⟨rfl,z⟩
    ·exact j6 z.2 e1
    ·have:=j6 z e2;cases db<;>first|(cases this;done)|skip
     cases da<;>first|rfl|(cases q;done)⟩
  |ex z=>exact um q
  |no=>rw[q]at k2;exact k2
theorem yo(ha:PE X a (tE w g c E ia)):PE X (.UnaryOp .USub a pos) (tE w g c E (.neg ia)):=
 PE.imp (sI nQ ha) λσ H Q ⟨τ,S,se,k⟩=>by
  simp only[qU,qX,qV,za,qW,zb,qZ,zc,qY,qt,qz,qs,qw,qu,qi,qD,qB,qA,qx,qy,qC,qo,qq,qP,qE,qr,qJ,qM,qN,qO,qI,qL,qK,qp,qH]at k;refine qS se k λda va H1 e1 p1 k1=>?_
  cases da with
  |int i=>exact⟨i,p1.rb.int,k1 _ _ (br.of p1.same (.int _) rfl)⟩
  |_=>exact k1.elim
theorem pQ(O:XO w g c E X){o:Expr}{m:Str}{ap cp:Pos}{as:List Expr}{e:EV.E}(h:cMt c o m ap as cp=some e):PE X (.Call (.Attribute o m ap) as [] cp) (tE w g c E e):=by cases h
theorem xT(ha:PE X a (tE w g c E ia)):PE X (.UnaryOp .Invert a pos) (tE w g c E (.inv ia)):=λpins s σ H Q I ⟨τ,S,se,kk⟩=>by
 simp only[qU,qX,qV,za,qW,zb,qZ,zc,qY,qt,qz,qs,qw,qu,qi,qD,qB,qA,qx,qy,qC,qo,qq,qP,qE,qr,qJ,qM,qN,qO,qI,qL,qK,qp,qH]at kk;exact bq kk
theorem rZ(ha:PE X a (tE w g c E ia)):PE X (.UnaryOp .Not a pos) (tE w g c E (.not ia)):=
 PE.imp (nL ha) λσ H Q ⟨τ,S,se,k⟩=>by
  simp only[qU,qX,qV,za,qW,zb,qZ,zc,qY,qt,qz,qs,qw,qu,qi,qD,qB,qA,qx,qy,qC,qo,qq,qP,qE,qr,qJ,qM,qN,qO,qI,qL,qK,qp,qH]at k;refine qS se k λda va H1 e1 p1 k1=>?_
  cases da with
  |bl i=>exact⟨i,p1.rb.bl,k1 _ _ (br.of p1.same (.bl _) rfl)⟩
  |_=>exact k1.elim
theorem br.pass{e e':EV.E}{S:Sh}{H H1 H':Hp}{dd:D}{v:V}(s:qa H H1)(p:br g c e S H1 dd v H')(h:esc e=true)(f:fresh c e'=false):br g c e' S H dd v H':=br.of (s.trans p.same) (p.st h) f
theorem xf{rest:List Expr}{ir:EV.E}(ha:PE X a (tE w g c E ia))(hb:PE X (.BoolOp .And (b::rest) pos) (tE w g c E ir))(he:esc ir=true):PE X (.BoolOp .And (a::b::rest) pos) (tE w g c E (.and ia ir)):=
 PE.imp (sQ ha hb) λσ H Q ⟨τ,S,se,k⟩=>by
  simp only[qU,qX,qV,za,qW,zb,qZ,zc,qY,qt,qz,qs,qw,qu,qi,qD,qB,qA,qx,qy,qC,qo,qq,qP,qE,qr,qJ,qM,qN,qO,qI,qL,qK,qp,qH]at k;refine qS se k λda va H1 e1 p1 k1=>?_
  cases da with
  |bl i=>
   refine⟨i,p1.rb.bl,?_⟩;cases i with
   |true=>
    refine⟨τ,S,se.up p1.same,tR.imp k1 λd hk v H' p=>hk v H' (p.pass p1.same he rfl)⟩
   |false=>exact k1 _ _ (br.of p1.same (.bl _) rfl)
  |_=>exact k1.elim
theorem wH{rest:List Expr}{ir:EV.E}(ha:PE X a (tE w g c E ia))(hb:PE X (.BoolOp .Or (b::rest) pos) (tE w g c E ir))(he:esc ir=true):PE X (.BoolOp .Or (a::b::rest) pos) (tE w g c E (.or ia ir)):=
 PE.imp (wF ha hb) λσ H Q ⟨τ,S,se,k⟩=>by
  simp only[qU,qX,qV,za,qW,zb,qZ,zc,qY,qt,qz,qs,qw,qu,qi,qD,qB,qA,qx,qy,qC,qo,qq,qP,qE,qr,qJ,qM,qN,qO,qI,qL,qK,qp,qH]at k;refine qS se k λda va H1 e1 p1 k1=>?_
  cases da with
  |bl i=>
   refine⟨i,p1.rb.bl,?_⟩;cases i with
   |false=>
    refine⟨τ,S,se.up p1.same,tR.imp k1 λd hk v H' p=>hk v H' (p.pass p1.same he rfl)⟩
   |true=>exact k1 _ _ (br.of p1.same (.bl _) rfl)
  |_=>exact k1.elim
theorem zX{op:CmpOp}{b:Expr}(h:zj b=true):behindInMarks op b=false:=by cases b<;>first|rfl|(simp[zj]at h)
theorem zW{o:C2}{S:Sh}{H:Hp}{da db:D}{va vb:V}{r:R Bool}{P:Bool->Prop}{Q:VK}(ra:zp g H S da va)(rb:zp g H S db vb)(q:tR g E H (qh o da db) P)(k:∀z,qh o da db=.ok z->P z->Q (.bl z) H):rCm g o va vb H Q:=by
 refine⟨S,da,db,ra,rb,?_⟩;cases e:qh o da db with
 |ok z=>rw[e]at q;exact k z e q
 |ex z=>exact vL e
 |no=>rw[e]at q;exact q
theorem tR.bnd{α β:Type}{H:Hp}{r:R α}{f:α->R β}{P:β->Prop}(h:tR g E H (r.bind f) P):tR g E H r λa=>tR g E H (f a) P:=by
 cases r with
 |ok a=>exact h
 |ex z=>exact h
 |no=>exact h
theorem sW(O:XO w g c E X){op:CmpOp}(ha:PE X a (tE w g c E ia))(hb:PE X b (tE w g c E ib))(hs:zj b=true):PE X (.Compare a [op] [b] pos) (tE w g c E (.cmp (c2 op) ia ib)):=
 PE.imp (tW (zV O.K O.units op) ha hb (zX hs)) λσ H Q ⟨τ,S,se,k⟩=>by
  simp only[qU,qX,qV,za,qW,zb,qZ,zc,qY,qt,qz,qs,qw,qu,qi,qD,qB,qA,qx,qy,qC,qo,qq,qP,qE,qr,qJ,qM,qN,qO,qI,qL,qK,qp,qH]at k;refine qS se k λda va H1 e1 p1 k1=>qS (se.up p1.same) k1 λdb vb H2 e2 p2 k2=>?_
  exact zW (r:=.no) (p1.rb.mono p2.same) p2.rb (tR.bnd k2) λz _ q=>q _ _ (br.of (p1.same.trans p2.same) (.bl _) rfl)
theorem yt(O:XO w g c E X){op:CmpOp}(ha:PE X a (tE w g c E ia))(hb:PE X b (tE w g c E ib))(hs:zj b=true):PT X (.Compare a [op] [b] pos) (tT w g c E (.cmp (c2 op) ia ib)):=
 PT.imp (rJ (zV O.K O.units op) ha hb (zX hs)) λσ H Q ⟨τ,S,se,k⟩=>by
  simp only[et,dX,ej,dM,d_,ef,er]at k;refine qS se k λda va H1 e1 p1 k1=>qS (se.up p1.same) k1 λdb vb H2 e2 p2 k2=>?_
  exact zW (r:=.no) (p1.rb.mono p2.same) p2.rb k2 λz _ q=>⟨z,rfl,q _ (p1.same.trans p2.same)⟩
theorem xN(O:XO w g c E X){op op':CmpOp}(ha:PE X a (tE w g c E ia))(hb:PE X b (tE w g c E ib))(hd:PE X d (tE w g c E id'))(hs':zj d=true):PE X (.Compare a [op,op'] [b,d] pos) (tE w g c E (.cmp2 (c2 op) (c2 op') ia ib id')):=
 PE.imp (v9 (zV O.K O.units op) (zV O.K O.units op') ha hb hd (zX hs')) λσ H Q ⟨τ,S,se,k⟩=>by
  simp only[qU,qX,qV,za,qW,zb,qZ,zc,qY,qt,qz,qs,qw,qu,qi,qD,qB,qA,qx,qy,qC,qo,qq,qP,qE,qr,qJ,qM,qN,qO,qI,qL,qK,qp,qH]at k;refine qS se k λda va H1 e1 p1 k1=>qS (se.up p1.same) k1 λdb vb H2 e2 p2 k2=>?_
  have s2:=p1.same.trans p2.same;refine zW (r:=.no) (p1.rb.mono p2.same) p2.rb (tR.bnd k2) λz _ q=>⟨z,rfl,?_⟩
  cases z with
  |true=>
   exact qS (se.up s2) q λdd vd H3 e3 p3 k3=>zW (r:=.no) (p2.rb.mono p3.same) p3.rb (tR.bnd k3) λz _ q=>q _ _ (br.of (s2.trans p3.same) (.bl _) rfl)
  |false=>exact q _ _ (br.of s2 (.bl _) rfl)
theorem we(O:XO w g c E X){op op':CmpOp}(ha:PE X a (tE w g c E ia))(hb:PE X b (tE w g c E ib))(hd:PE X d (tE w g c E id'))(hs':zj d=true):PT X (.Compare a [op,op'] [b,d] pos) (tT w g c E (.cmp2 (c2 op) (c2 op') ia ib id')):=
 PT.imp (sX (zV O.K O.units op) (zV O.K O.units op') ha hb hd (zX hs')) λσ H Q ⟨τ,S,se,k⟩=>by
  simp only[et,dX,ej,dM,d_,ef,er]at k;refine qS se k λda va H1 e1 p1 k1=>qS (se.up p1.same) k1 λdb vb H2 e2 p2 k2=>?_
  have s2:=p1.same.trans p2.same;refine zW (r:=.no) (p1.rb.mono p2.same) p2.rb (tR.bnd k2) λz _ q=>⟨z,rfl,?_⟩
  cases z with
  |true=>
   exact qS (se.up s2) q λdd vd H3 e3 p3 k3=>zW (r:=.no) (p2.rb.mono p3.same) p3.rb k3 λz _ q=>⟨z,rfl,q _ (s2.trans p3.same)⟩
  |false=>exact⟨false,rfl,q _ s2⟩
theorem vP(O:XO w g c E X){op op' op'':CmpOp}(ha:PE X a (tE w g c E ia))(hb:PE X b (tE w g c E ib))(hd:PE X d (tE w g c E id'))(hf:PE X f (tE w g c E if'))(hs':zj f=true):PE X (.Compare a [op,op',op''] [b,d,f] pos) (tE w g c E (.cmp3 (c2 op) (c2 op') (c2 op'') ia ib id' if')):=
 PE.imp (rf (zV O.K O.units op) (zV O.K O.units op') (zV O.K O.units op'') ha hb hd hf (zX hs')) λσ H Q ⟨τ,S,se,k⟩=>by
  simp only[qU,qX,qV,za,qW,zb,qZ,zc,qY,qt,qz,qs,qw,qu,qi,qD,qB,qA,qx,qy,qC,qo,qq,qP,qE,qr,qJ,qM,qN,qO,qI,qL,qK,qp,qH]at k;refine qS se k λda va H1 e1 p1 k1=>qS (se.up p1.same) k1 λdb vb H2 e2 p2 k2=>?_
  have s2:=p1.same.trans p2.same;refine zW (r:=.no) (p1.rb.mono p2.same) p2.rb (tR.bnd k2) λz _ q=>⟨z,rfl,?_⟩
  cases z with
  |true=>
   refine qS (se.up s2) q λdd vd H3 e3 p3 k3=>zW (r:=.no) (p2.rb.mono p3.same) p3.rb (tR.bnd k3) λz _ q=>⟨z,rfl,?_⟩
   have s3:=s2.trans p3.same;cases z with
   |true=>exact qS (se.up s3) q λdf vf H4 e4 p4 k4=>zW (r:=.no) (p3.rb.mono p4.same) p4.rb (tR.bnd k4) λz _ q=>q _ _ (br.of (s3.trans p4.same) (.bl _) rfl)
   |false=>exact q _ _ (br.of s3 (.bl _) rfl)
  |false=>exact q _ _ (br.of s2 (.bl _) rfl)
theorem sP{a b c d:Expr}{ta tb tc td:TE}{pos:Pos}{op op' op'':CmpOp}{r r' r'':R2}(ho:OpR X (a8 op) r)(ho':OpR X (a8 op') r')(ho'':OpR X (a8 op'') r'')(ha:PE X a ta)(hb:PE X b tb)(hc:PE X c tc)(hd:PE X d td)
  (hm:lastMarks [op,op',op''] [b,c,d]=false):PT X (.Compare a [op,op',op''] [b,c,d] pos) (jx (lP r r' r'' ta tb tc td)):=by
 intro pins s σ H Q I h;refine isTrue_chain (thn (ha pins s σ H _ I h) λv s1 ⟨x,H1,I1,r1,q1⟩=>test_link (thn (hb pins s1 σ H1 _ I1 q1) λu s2 ⟨y,H2,I2,r2,q2⟩=>
  thn (ho pins s2 σ H2 x y v u _ I2 r1 r2 q2) λd s3 ⟨z,H3,I3,r3,k,e,q3⟩=>?_)) hm
 subst e;cases r3;refine bI ?_;cases k with
 |false=>
  obtain⟨k',e',q'⟩:=q3;cases e';exact ite_ff ⟨H3,I3,q'⟩
 |true=>
  refine ite_tt (test_link (thn (hc pins s3 σ H3 _ I3 q3) λw' s4 ⟨z',H4,I4,r4,q4⟩=>thn (ho' pins s4 σ H4 y z' u w' _ I4 r2 r4 q4) λd' s5 ⟨z2,H5,I5,r5,k2,e2,q5⟩=>?_));subst e2;cases r5;refine bI ?_;cases k2 with
  |false=>
   obtain⟨k',e',q'⟩:=q5;cases e';exact ite_ff ⟨H5,I5,q'⟩
  |true=>
   refine ite_tt (test_last (thn (hd pins s5 σ H5 _ I5 q5) λw'' s6 ⟨z3,H6,I6,r6,q6⟩=>thn (ho'' pins s6 σ H6 z' z3 w' w'' _ I6 r4 r6 q6) λd'' s7 ⟨z4,H7,I7,r7,k4,e4,q7⟩=>?_));subst e4;cases r7;exact bI ⟨H7,I7,q7⟩
theorem R.bind_assoc{α β γ:Type}(r:R α)(f:α->R β)(h:β->R γ):(r.bind f).bind h=r.bind λa=>(f a).bind h:=by cases r<;>rfl
theorem vk(O:XO w g c E X){op op' op'':CmpOp}(ha:PE X a (tE w g c E ia))(hb:PE X b (tE w g c E ib))(hd:PE X d (tE w g c E id'))(hf:PE X f (tE w g c E if'))(hs':zj f=true):PT X (.Compare a [op,op',op''] [b,d,f] pos) (tT w g c E (.val (.cmp3 (c2 op) (c2 op') (c2 op'') ia ib id' if'))):=
 PT.imp (sP (zV O.K O.units op) (zV O.K O.units op') (zV O.K O.units op'') ha hb hd hf (zX hs')) λσ H Q ⟨τ,S,se,k⟩=>by
  simp only[et,dX,ej,dM,d_,ef,er,qU,qX,qV,za,qW,zb,qZ,zc,qY,qt,qz,qs,qw,qu,qi,qD,qB,qA,qx,qy,qC,qo,qq,qP,qE,qr,qJ,qM,qN,qO,qI,qL,qK,qp,qH,R.bind_assoc]at k;refine qS se k λda va H1 e1 p1 k1=>qS (se.up p1.same) k1 λdb vb H2 e2 p2 k2=>?_
  have s2:=p1.same.trans p2.same;refine zW (r:=.no) (p1.rb.mono p2.same) p2.rb (tR.bnd k2) λz _ q=>⟨z,rfl,?_⟩
  cases z with
  |true=>
   simp only[if_true,R.bind_assoc]at q;refine qS (se.up s2) q λdd vd H3 e3 p3 k3=>zW (r:=.no) (p2.rb.mono p3.same) p3.rb (tR.bnd k3) λz _ q=>⟨z,rfl,?_⟩
   have s3:=s2.trans p3.same;cases z with
   |true=>
    simp only[if_true,R.bind_assoc]at q;exact qS (se.up s3) q λdf vf H4 e4 p4 k4=>zW (r:=.no) (p3.rb.mono p4.same) p4.rb (tR.bnd k4) λz _ q=>⟨z,rfl,q _ (s3.trans p4.same)⟩
   |false=>exact⟨false,rfl,q _ s3⟩
  |false=>exact⟨false,rfl,q _ s2⟩
theorem w8(ht:PT X d (tT w g c E ta))(ha:PE X a (tE w g c E ia))(hb:PE X b (tE w g c E ib))(h1:esc ia=true)(h2:esc ib=true):PE X (.IfExp d a b pos) (tE w g c E (.ite ta ia ib)):=
 PE.imp (yw ht ha hb) λσ H Q ⟨τ,S,se,k⟩=>by
  simp only[qU,qX,qV,za,qW,zb,qZ,zc,qY,qt,qz,qs,qw,qu,qi,qD,qB,qA,qx,qy,qC,qo,qq,qP,qE,qr,qJ,qM,qN,qO,qI,qL,qK,qp,qH]at k;refine gy se k λz H1 e1 s1 k1=>?_
  cases z with
  |true=>exact⟨τ,S,se.up s1,tR.imp k1 λdd hk v H' p=>hk v H' (p.pass s1 h1 rfl)⟩
  |false=>exact⟨τ,S,se.up s1,tR.imp k1 λdd hk v H' p=>hk v H' (p.pass s1 h2 rfl)⟩
theorem xl:PA X [] (tA w g c E .nil):=PA.imp zG λσ H Q ⟨τ,S,se,k⟩=>k [] H (qa.refl _) .nil λ_=>.nil
theorem yz{es:List Expr}{ies:Es}(ha:PE X a (tE w g c E ia))(hr:PA X es (tA w g c E ies))(hs:isStar a=false):PA X (a::es) (tA w g c E (.cons ia ies)):=
 PA.imp (zi ha hr (qe hs)) λσ H Q ⟨τ,S,se,k⟩=>by
  simp only[zu]at k;refine qS se k λda va H1 e1 p1 k1=>eF (se.up p1.same) k1 λds vs H2 e2 s2 r2 r2' k2=>k2 _ _ (p1.same.trans s2) (.cons (p1.rb.mono s2) r2) λz=>?_
  simp only[cz,aM]at z;exact .cons ((p1.st z.1).mono (qR s2)) (r2' z.2)
theorem iZ:∀{es:Es}{τ:Env}{ds:List D}{l:List Expr}{n:Nat},cEs n c l=some es->zu w es τ=.ok ds->ds.length=l.length
 |_,_,_,l,0,h,_=>by simp[cEs]at h
 |es,τ,ds,[],n+1,h,e=>by
  simp only[cEs,bY]at h;subst h;simp only[zu,R.ok.injEq]at e;subst e;rfl
 |es,τ,ds,x::l,n+1,h,e=>by
  simp only[cEs]at h;cases hs:isStar x with
  |true=>simp[hs]at h
  |false=>
   simp only[hs,a_,if_false,aH,aG]at h;obtain⟨i1,_,r,hr,h⟩:=h;cases h;simp only[zu]at e;cases q:evE w i1 τ with
   |ok z=>
    rw[q]at e;simp only[R.bind_ok]at e;cases q2:zu w r τ with
    |ok zs=>
     rw[q2]at e;cases e;simp[iZ hr q2]
    |ex z=>rw[q2]at e;cases e
    |no=>rw[q2]at e;cases e
   |ex z=>rw[q]at e;cases e
   |no=>rw[q]at e;cases e
theorem m_{n:Nat}(h:n<=100000):n<=sizeLine:=bz h (by rw[bw];decide)
theorem pN{es:List Expr}{ies:Es}{k:Nat}(ha:PA X es (tA w g c E ies))(he:cz ies=true)(hl:∀τ ds,zu w ies τ=.ok ds->ds.length<=100000):PE X (.Tuple es k pos) (tE w g c E (.tup ies)):=
 PE.imp (sJ ha) λσ H Q ⟨τ,S,se,k⟩=>by
  simp only[qU,qX,qV,za,qW,zb,qZ,zc,qY,qt,qz,qs,qw,qu,qi,qD,qB,qA,qx,qy,qC,qo,qq,qP,qE,qr,qJ,qM,qN,qO,qI,qL,qK,qp,qH]at k;refine eF se k λds vs H1 e1 s1 r1 r1' k1=>?_
  have r:=r1' he;exact⟨by rw[<-r.length];exact m_ (hl _ _ e1),λp hp=>k1 _ _ (br.of (s1.trans (zg hp)) (fH (se.sub.same s1) hp r) rfl)⟩
theorem vx{es:List Expr}{ies:Es}(ha:PA X es (tA w g c E ies))(he:cz ies=true)(hl:∀τ ds,zu w ies τ=.ok ds->ds.length<=100000):PE X (.List es pos) (tE w g c E (.lst ies)):=
 PE.imp (xg ha) λσ H Q ⟨τ,S,se,k⟩=>by
  simp only[qU,qX,qV,za,qW,zb,qZ,zc,qY,qt,qz,qs,qw,qu,qi,qD,qB,qA,qx,qy,qC,qo,qq,qP,qE,qr,qJ,qM,qN,qO,qI,qL,qK,qp,qH]at k;refine eF se k λds vs H1 e1 s1 r1 r1' k1=>?_
  have r:=r1' he;exact⟨by rw[<-r.length];exact m_ (hl _ _ e1),λp hp=>k1 _ _ (br.new (s1.trans (zg hp)) (eM (se.sub.same s1) hp r) (gU s1 hp r))⟩
theorem pE{b:Expr}(h:isSlice b=false):nh b:=λo i=>by cases b<;>first|rfl|(simp[isSlice]at h)
theorem yu(O:XO w g c E X)(ha:PE X a (tE w g c E ia))(hb:PE X b (tE w g c E ib))(hs:isSlice b=false):PE X (.Subscript a b pos) (tE w g c E (.ix ia ib)):=
 PE.imp (uW (vt O.K) ha hb (pE hs)) λσ H Q ⟨τ,S,se,k⟩=>by
  simp only[qU,qX,qV,za,qW,zb,qZ,zc,qY,qt,qz,qs,qw,qu,qi,qD,qB,qA,qx,qy,qC,qo,qq,qP,qE,qr,qJ,qM,qN,qO,qI,qL,qK,qp,qH]at k;refine qS se k λda va H1 e1 p1 k1=>qS (se.up p1.same) k1 λdb vb H2 e2 p2 k2=>⟨S,da,db,p1.rb.mono p2.same,p2.rb,?_⟩
  cases q:ixD da db with
  |ok r=>rw[q]at k2;exact λv r=>k2 v H2 (br.of (p1.same.trans p2.same) r rfl)
  |ex z=>exact o3 q
  |no=>rw[q]at k2;exact k2
theorem yD(O:XO w g c E X){lo hi:Option Expr}{il ih:OE}(ha:PE X a (tE w g c E ia))(hl:PO X lo (tOe w g c E il))(hh:PO X hi (tOe w g c E ih)):PE X (.Subscript a (.Slice lo hi none p2) pos) (tE w g c E (.sl ia il ih)):=
 PE.imp (uC (q_ O.K) ha hl hh) λσ H Q ⟨τ,S,se,k⟩=>by
  simp only[qU,qX,qV,za,qW,zb,qZ,zc,qY,qt,qz,qs,qw,qu,qi,qD,qB,qA,qx,qy,qC,qo,qq,qP,qE,qr,qJ,qM,qN,qO,qI,qL,qK,qp,qH]at k;refine qS se k λda va H1 e1 p1 k1=>kF (se.up p1.same) k1 λl H2 e2 s2 k2=>kF (se.up (p1.same.trans s2)) k2 λh H3 e3 s3 k3=>?_
  have s:=(p1.same.trans s2).trans s3;refine⟨S,da,se.sub.same s,p1.rb.mono (s2.trans s3),?_⟩;cases q:slD da l h with
  |ok r=>rw[q]at k3;exact λv H' s' r=>k3 v H' (br.of (s.trans s') r rfl)
  |ex z=>exact tH q
  |no=>rw[q]at k3;exact k3
theorem nM:PO X none (tOe w g c E .none):=PO.imp xE λσ H Q ⟨τ,S,se,k⟩=>k H (qa.refl _)
theorem wg(ha:PE X a (tE w g c E ia)):PO X (some a) (tOe w g c E (.some ia)):=PO.imp (ub ha) λσ H Q ⟨τ,S,se,k⟩=>by
 simp only[evO]at k;refine qS se k λda va H1 e1 p1 k1=>?_
 cases da with
 |int i=>exact⟨i,p1.rb.int,k1 _ p1.same⟩
 |_=>exact k1.elim
theorem xQ(O:XO w g c E X){x:Str}{fr:Bool}{e:Expr}{es:List Expr}{ies:Es}(h:glob c x=some (.fn fr))(ha:PA X (e::es) (tA w g c E ies))(he:cz ies=true)(hs:∀z∈e::es,isStar z=false):PE X (.Call (.Name x p2) (e::es) [] pos) (tE w g c E (.call x ies)):=by
 obtain⟨f,h1,h2⟩:=O.gm h;refine PE.imp (sA O h2 (O.gl h) (qm h).2.2.1 ha hs) λσ H Q ⟨τ,S,se,k⟩=>?_
 simp only[qU,qX,qV,za,qW,zb,qZ,zc,qY,qt,qz,qs,qw,qu,qi,qD,qB,qA,qx,qy,qC,qo,qq,qP,qE,qr,qJ,qM,qN,qO,qI,qL,qK,qp,qH]at k;refine eF se k λds vs H1 e1 s1 r1 r1' k1=>⟨S,ds,se.sub.same s1,by rw[b_];exact r1' he,tR.imp k1 λdd hk v H' s' r f=>hk v H' ⟨s1.trans s',.inl r,λ_=>r,λz=>?_⟩⟩
 simp only[fresh,(qm h).2.1,beq_iff_eq,bY,GK.fn.injEq]at z;exact(f z).low s1
theorem rG(O:XO w g c E X){x:Str}{fr:Bool}{e:Expr}{es:List Expr}{ies:Es}(h:glob c x=some (.fn fr))(ha:PA X (e::es) (tA w g c E ies))(hs:∀z∈e::es,isStar z=false):PE X (.Call (.Name x p2) (e::es) [] pos) (tE w g c E (.callo x ies)):=λpins s σ H Q I ⟨τ,S,se,kk⟩=>by
 simp only[qU,qX,qV,za,qW,zb,qZ,zc,qY,qt,qz,qs,qw,qu,qi,qD,qB,qA,qx,qy,qC,qo,qq,qP,qE,qr,qJ,qM,qN,qO,qI,qL,qK,qp,qH]at kk;exact bq kk
theorem kB(O:XO w g c E X)(hc:X.calm=true){fe e:Expr}{fi:EV.E}{es:List Expr}{ies:Es}(hf:PE X fe (tE w g c E fi))(ha:PA X (e::es) (tA w g c E ies))(he:cz ies=true)(hs:∀z∈e::es,isStar z=false)
  (hq:eval (.Call fe (e::es) [] pos) X.env=(do callWith pos (<-eval fe X.env) [] (backTo pos (aR (e::es) X.env)) (backToKw pos (keywordEach [] X.env)))) :
  PE X (.Call fe (e::es) [] pos) (tE w g c E (.callE fi ies)):=
 PE.imp (oS (CX:=CX1 X.prog X.w) hf ha (qe (hs e aW)) (eY λz hz=>hs z (aS _ hz)) hq) λσ H Q ⟨τ,S,se,k⟩=>by
  simp only[qU,qX,qV,za,qW,zb,qZ,zc,qY,qt,qz,qs,qw,qu,qi,qD,qB,qA,qx,qy,qC,qo,qq,qP,qE,qr,qJ,qM,qN,qO,qI,qL,qK,qp,qH]at k;refine qS se k λda va H1 e1 p1 k1=>?_
  cases da with
  |fn x=>
   cases p1.rb.rep with
   | @fn _ f hf=>
    obtain⟨fr,C⟩:=O.fns hc x f hf;obtain⟨k',fd,ps,hb,hF⟩:=C.fn;obtain⟨F,r⟩:dC X.prog X.w g.K X.mg X.base (CX1 X.prog X.w) k' f fd ps (spF w g x fr)/\bW k' X.A:=by
     rcases hF with ⟨_,z⟩|⟨z,_⟩
     ·exact z
     ·rw[hc]at z;cases z
    rw[<-O.K]at F hb;refine⟨f,k',fd,ps,_,E,rfl,F,r,by rw[O.K];exact C.kp,hb,O.pass,?_⟩;refine eF (se.up p1.same) k1 λds vs H2 e2 s2 r2 r2' k2=>⟨S,ds,se.sub.same (p1.same.trans s2),r2' he,tR.imp k2 λdd hk v H' s' r f=>hk v H' (br.of ((p1.same.trans s2).trans s') r rfl)⟩
  |_=>exact k1.elim
theorem mE{b:B1}{S:Sh}{H0 H:Hp}{ds:List D}{vs:List V}{Q:VK}{ies:Es}(s:qa H0 H)(hS:Sub S H)(r:eP g H S ds vs)(k:tR g E H (b1 b ds) λd=>∀v H',br g c (.bi b ies) S H0 d v H'->Q v H'):rB1 g b vs H Q:=by
 refine⟨S,ds,hS,r,?_⟩;cases q:b1 b ds with
 |ok d=>
  rw[q]at k;exact λv H' s' r' f=>k v H' ⟨s.trans s',.inl r',λ_=>r',λz=>by
   have:b=.list\/b=.sorted:=by cases b<;>simp[fresh]at z ⊢
   exact(f this).low s⟩
 |ex z=>exact pj q
 |no=>rw[q]at k;exact k
theorem uI(O:XO w g c E X){x:Str}{b:B1}{e:Expr}{es:List Expr}{ies:Es}(h:glob c x=some (.bi b))(hc:X.calm=true\/b=.len\/b=.abs)(ha:PA X (e::es) (tA w g c E ies))(hs:∀z∈e::es,isStar z=false):PE X (.Call (.Name x p2) (e::es) [] pos) (tE w g c E (.bi b ies)):=by
 obtain⟨h1,h2,id,h3⟩:=O.gm h;have hb:=mO b;rw[<-h2,h3]at hb;have hcall:=kP (X:=X) (g:=g) O.K O.units b (by rcases hc with z|z|z;exact .inl z;exact .inr (.inl z);exact .inr (.inr (.inl z)));rw[h3]at hcall;refine PE.imp (jk hcall (O.gl h) h1 hb ha (qm h).2.2.2 (qm h).2.2.1 (qe (hs e aW)) (eY λz hz=>hs z (aS _ hz))) λσ H Q ⟨τ,S,se,k⟩=>?_
 simp only[qU,qX,qV,za,qW,zb,qZ,zc,qY,qt,qz,qs,qw,qu,qi,qD,qB,qA,qx,qy,qC,qo,qq,qP,qE,qr,qJ,qM,qN,qO,qI,qL,qK,qp,qH]at k;exact eF se k λds vs H1 e1 s1 r1 r1' k1=>mE (ies:=ies) s1 (se.sub.same s1) r1 k1
theorem oC(O:XO w g c E X){x:Str}{n:String}{b:B1}{e:Expr}{es:List Expr}{ies:Es}(h:glob c x=some (.ty n (some b)))(ha:PA X (e::es) (tA w g c E ies))(hs:∀z∈e::es,isStar z=false):PE X (.Call (.Name x p2) (e::es) [] pos) (tE w g c E (.bi b ies)):=by
 obtain⟨h1,h2,_,h3⟩:=O.gm h;obtain⟨_,h4⟩:=h3 b rfl;have hcall:=kP (X:=X) (g:=g) O.K O.units b (by cases b<;>simp[b1V]at h4 ⊢);rw[h4]at hcall;refine PE.imp (eE hcall (O.gl h) h1 h2 ha (qm h).2.2.2 (qm h).2.2.1 (qe (hs e aW)) (eY λz hz=>hs z (aS _ hz))) λσ H Q ⟨τ,S,se,k⟩=>?_
 simp only[qU,qX,qV,za,qW,zb,qZ,zc,qY,qt,qz,qs,qw,qu,qi,qD,qB,qA,qx,qy,qC,qo,qq,qP,qE,qr,qJ,qM,qN,qO,qI,qL,qK,qp,qH]at k;exact eF se k λds vs H1 e1 s1 r1 r1' k1=>mE (ies:=ies) s1 (se.sub.same s1) r1 k1
end
end EV
namespace L2
open PySem PySem.Spec PyProof.Rows
open AutoSeq1 (wpAny_loadPart')
end L2
namespace EV
open PySem PySem.Spec PySem.P PyProof.Rows L2
section
variable{w:W}{g:Gc}{c:Cc}{E:XK}{X:Cx}{a b d f:Expr}{ia ib id' if':EV.E}{pos p2:Pos}{ta tb:T}
noncomputable def clV(g:Gc)(vc:V):Cl->Prop
 | .ty n=>vc=.ty n/\(n∈["int","bool","str","list","tuple"]\/n = "ValueError")
 | .ex x=>∃D,g.clA x=some D/\vc=.ref D
theorem wB{x:D}{cl:Cl}:(∃t n,tyD x=some t/\cl=.ty n/\n≠"ValueError"/\cx w x cl=.ok (.bl (eJ t n)))\/cx w x cl=.no:=by
 unfold cx;cases e:tyD x with
 |some t=>
  cases cl with
  |ty n=>
   by_cases hn:n = "ValueError"
   ·exact .inr (by simp[hn])
   ·exact .inl ⟨t,n,rfl,rfl,hn,by simp[hn]⟩
  |ex y=>exact .inr rfl
 |none=>exact .inr (by cases cl<;>rfl)
theorem uT(O:XO w g c E X){x:Str}{k:Expr}{cl:Cl}(h:glob c x=some .isi)(ha:PE X a (tE w g c E ia))(hk:gz c k=some cl)(hs:isStar a=false):PE X (.Call (.Name x p2) [a,k] [] pos) (tE w g c E (.isi ia cl)):=by
 obtain⟨h1,rfl⟩:=O.gm h;obtain⟨y,q,rfl⟩:∃y q,k=.Name y q:=by
  cases k<;>first|exact⟨_,_,rfl⟩|(simp[gz]at hk)
 obtain⟨vc,hv,hc⟩:∃vc,PE X (.Name y q) (tC vc)/\clV g vc cl:=by
  simp only[gz]at hk;split at hk
  ·rename_i n b e
   cases hk;obtain⟨z1,z2,z3,_⟩:=O.gm e;exact⟨.ty n,yg (O.gl e) z1 z2 rfl (qm e).2.2.2 (qm e).2.2.1,rfl,z3⟩
  ·rename_i e
   cases hk;obtain⟨C,z1,z2⟩:=O.gm e;exact⟨.ref C,gP (O.gl e) z1 rfl (qm e).2.2.1,C,z2,rfl⟩
  ·rename_i e
   cases hk;obtain⟨C,z1,z2⟩:=O.gm e;exact⟨.ref C,gP (O.gl e) z1 rfl (qm e).2.2.1,C,z2,rfl⟩
  ·cases hk
 refine PE.imp (jk (sd O.K) (O.gl h) h1 (by decide +kernel) (zi ha (zi hv zG) (qe hs)) (by decide) (by decide) (qe hs) rfl) λσ H Q ⟨τ,S,se,k⟩=>?_
 simp only[qU,qX,qV,za,qW,zb,qZ,zc,qY,qt,qz,qs,qw,qu,qi,qD,qB,qA,qx,qy,qC,qo,qq,qP,qE,qr,qJ,qM,qN,qO,qI,qL,qK,qp,qH]at k;refine qS se k λda va H1 e1 p1 k1=>?_
 rcases wB (w:=w) (x:=da) (cl:=cl)with ⟨t,n,z1,rfl,z2,z3⟩|z3
 ·rw[z3]at k1;obtain⟨rfl,hc|hc⟩:=hc
  ·exact⟨S,da,va,n,t,rfl,p1.rb,z1,hc,k1 _ _ (br.of p1.same (.bl _) rfl)⟩
  ·exact absurd hc z2
 ·rw[z3]at k1;exact k1.elim
theorem wO(O:XO w g c E X)(ha:PE X a (tE w g c E ia))(he:∀whole,isTrue a X.env whole=(do let v <-whole;standAt a.pos;holding [v] (truthy v))):PT X a (tT w g c E (.val ia)):=
 PT.imp (xt ha he) λσ H Q ⟨τ,S,se,k⟩=>by
  simp only[et,dX,ej,dM,d_,ef,er]at k;refine qS se k λda va H1 e1 p1 k1=>?_
  cases q:truth da with
  |ok z=>rw[q]at k1;exact⟨z,uJ O.K p1.rb q,k1 _ p1.same⟩
  |ex z=>exact absurd q n8
  |no=>rw[q]at k1;exact k1.elim
theorem sZ(ha:PT X a (tT w g c E ta)):PT X (.UnaryOp .Not a pos) (tT w g c E (.not ta)):=
 PT.imp (wm ha) λσ H Q ⟨τ,S,se,k⟩=>by
  simp only[et,dX,ej,dM,d_,ef,er]at k;exact gy se k λz H1 e1 s1 k1=>k1 _ s1
theorem oF{rest:List Expr}(ha:PT X a (tT w g c E ta))(hb:PW X (.BoolOp .And (b::rest) pos) (tT w g c E tb)):PW X (.BoolOp .And (a::b::rest) pos) (tT w g c E (.and ta tb)):=
 PW.imp (ui ha hb) λσ H Q ⟨τ,S,se,k⟩=>by
  simp only[et,dX,ej,dM,d_,ef,er]at k;refine gy se k λz H1 e1 s1 k1=>?_
  cases z with
  |true=>exact⟨τ,S,se.up s1,tR.imp k1 λb hk H' s=>hk H' (s1.trans s)⟩
  |false=>exact k1 _ s1
theorem yp{rest:List Expr}(ha:PT X a (tT w g c E ta))(hb:PW X (.BoolOp .Or (b::rest) pos) (tT w g c E tb)):PW X (.BoolOp .Or (a::b::rest) pos) (tT w g c E (.or ta tb)):=
 PW.imp (o5 ha hb) λσ H Q ⟨τ,S,se,k⟩=>by
  simp only[et,dX,ej,dM,d_,ef,er]at k;refine gy se k λz H1 e1 s1 k1=>?_
  cases z with
  |false=>exact⟨τ,S,se.up s1,tR.imp k1 λb hk H' s=>hk H' (s1.trans s)⟩
  |true=>exact k1 _ s1
theorem PI.or{tg e:Expr}{t t':TI}(h:PI X tg e t)(h':PI X tg e t'):PI X tg e (λσ H R=>t σ H R\/t' σ H R):=λpins s σ H R I q=>by
 rcases q with q|q
 ·exact h pins s σ H R I q
 ·exact h' pins s σ H R I q
theorem lM{K:aB}{a:Addr}{vs:List V}{ds:List D}{H:Hp}{S:Sh}(hl:SqL K H a vs)(r:qF g (hid H S) ds vs):Goes g (Itl K a) ds H S:=by
 refine⟨λi hi=>⟨vs,hl,by rw[<-r.length];exact hi⟩,λi d hd=>?_⟩;obtain⟨v,h1,h2⟩:=r.get hd;refine⟨⟨vs,v,hl,h1⟩,λx H' ⟨e,hx⟩=>?_⟩;subst e;have:=hx vs hl;rw[h1]at this;cases this;exact⟨qa.refl _,h2⟩
theorem nv{K:aB}{a:Addr}{vs:List V}{ds:List D}{H:Hp}{S:Sh}(hl:SqT K H a vs)(r:qF g (hid H S) ds vs):Goes g (Itt K a) ds H S:=by
 refine⟨λi hi=>⟨vs,hl,by rw[<-r.length];exact hi⟩,λi d hd=>?_⟩;obtain⟨v,h1,h2⟩:=r.get hd;refine⟨⟨vs,v,hl,h1⟩,λx H' ⟨e,hx⟩=>?_⟩;subst e;have:=hx vs hl;rw[h1]at this;cases this;exact⟨qa.refl _,h2⟩
theorem gM{lo:Int}{n:Nat}{H:Hp}{S:Sh}:Goes g (Itr lo n) (zy lo n) H S:=by
 refine⟨λi hi=>by show n<=i;simpa[zy]using hi,λi d hd=>?_⟩;unfold zy at hd;rw[List.getElem?_map]at hd;cases q:(a7 n)[i]? with
 |none=>rw[q]at hd;cases hd
 |some j=>
  rw[q]at hd;cases hd;have hi:=(List.getElem?_eq_some_iff.mp q)
  obtain⟨h1,h2⟩:=hi;simp at h1 h2;subst h2;exact⟨h1,λx H' ⟨e1,e2⟩=>by subst e1 e2;exact⟨qa.refl _,.int _⟩⟩
theorem jE{lo st:Int}{n:Nat}{H:Hp}{S:Sh}:Goes g (ItS lo st n) (dI lo st n) H S:=by
 refine⟨λi hi=>by show n<=i;simpa[dI]using hi,λi d hd=>?_⟩;unfold dI at hd;rw[List.getElem?_map]at hd;cases q:(a7 n)[i]? with
 |none=>rw[q]at hd;cases hd
 |some j=>
  rw[q]at hd;cases hd;have hi:=(List.getElem?_eq_some_iff.mp q)
  obtain⟨h1,h2⟩:=hi;simp at h1 h2;subst h2;exact⟨h1,λx H' ⟨e1,e2⟩=>by subst e1 e2;exact⟨qa.refl _,.int _⟩⟩
theorem uF(O:XO w g c E X){tg:Expr}(ha:PE X a (tE w g c E ia)):PI X tg a (tIt w g c E (.seq ia)):=
 PI.imp (PI.or (pZ ha) (wx ha)) λσ H R ⟨τ,S,se,k⟩=>by
  have k0:=k;simp only[evI]at k;cases q:evE w ia τ with
  |ex z=>exact .inl ⟨τ,S,se,by rw[q]at k ⊢;exact k⟩
  |no=>rw[q]at k;exact k.elim
  |ok dd=>
   cases dd with
   |lst ds=>
    refine .inl (qS se k λda va H1 e1 p1 k1=>?_);rw[q]at e1;cases e1;obtain⟨ad,vs,rfl,h1,r1⟩:=p1.rb.lst;rw[<-O.K]at h1;refine⟨ad,rfl,⟨vs,h1⟩,k1 _ H1 p1.same (λH2 S2 s1 s2 _=>lM (s1.seq h1) (r1.mono s2)) λho H2 S2 s2 _=>?_⟩;have he:esc ia=true:=by
     cases ia<;>first|rfl|(simp[owned]at ho)
    cases p1.st he with
    |lst h2 r2=>exact lM (by rw[O.K];exact(s2.trans cX).seq h2) (r2.mono s2)
   |tup ds=>
    refine .inr (qS se k λda va H1 e1 p1 k1=>?_);rw[q]at e1;cases e1;cases p1.rb.strong (by intro _ z;cases z)with
    |tup h2 r2=>
     refine⟨_,rfl,⟨_,by rw[O.K];exact ei cX h2⟩,k1 _ H1 p1.same (λH2 S2 s1 s2 _=>nv (by rw[O.K];exact ei (s2.trans cX) h2) (r2.mono s2)) λho H2 S2 s2 _=>nv (by rw[O.K];exact ei (s2.trans cX) h2) (r2.mono s2)⟩
   |_=>rw[q]at k;exact k.elim
theorem zo{j:Int}(h:qf j=true):-1000000<=j/\j<=1000000:=by simpa[qf]using h
theorem oO(O:XO w g c E X){x:Str}{tg:Expr}(h:glob c x=some .rng)(ha:PE X a (tE w g c E ia))(hs:isStar a=false):PI X tg (.Call (.Name x p2) [a] [] pos) (tIt w g c E (.rng ia)):=by
 obtain⟨h1,rfl⟩:=O.gm h;refine PI.imp (pJ (O.gl h) h1 (zi ha zG (qe hs)) (qe hs)) λσ H R ⟨τ,S,se,k⟩=>?_
 simp only[evI]at k;refine qS se k λda va H1 e1 p1 k1=>?_
 cases da with
 |int j=>
  simp only at k1;cases q:qf j with
  |true=>
   rw[q,if_pos rfl]at k1;obtain⟨z1,z2⟩:=zo q;exact⟨j,by rw[p1.rb.int],by lia,by lia,k1 _ H1 p1.same (λ_ _ _ _ _=>gM) λ_ _ _ _ _=>gM⟩
  |false=>rw[q]at k1;exact k1.elim
 |_=>exact k1.elim
theorem p0(O:XO w g c E X){x:Str}{tg:Expr}(h:glob c x=some .rng)(ha:PE X a (tE w g c E ia))(hb:PE X b (tE w g c E ib))(hs:isStar a=false)(hs':isStar b=false):PI X tg (.Call (.Name x p2) [a,b] [] pos) (tIt w g c E (.rng2 ia ib)):=by
 obtain⟨h1,rfl⟩:=O.gm h;refine PI.imp (oB (O.gl h) h1 (zi ha (zi hb zG (qe hs')) (qe hs)) (by rw[qe hs,qe hs'];rfl) (qe hs')) λσ H R ⟨τ,S,se,k⟩=>?_
 simp only[evI]at k;refine qS se k λda va H1 e1 p1 k1=>qS (se.up p1.same) k1 λdb vb H2 e2 p2 k2=>?_
 cases da with
 |int i=>
  cases db with
  |int j=>
   simp only at k2;cases q:qf i&&qf j with
   |true=>
    rw[q,if_pos rfl]at k2;simp only[aM]at q;obtain⟨z1,z2⟩:=zo q.1;obtain⟨z3,z4⟩:=zo q.2;exact⟨i,j,by rw[p1.rb.int,p2.rb.int],⟨by lia,by lia,by lia,by lia⟩,k2 _ H2 (p1.same.trans p2.same) (λ_ _ _ _ _=>gM) λ_ _ _ _ _=>gM⟩
   |false=>rw[q]at k2;exact k2.elim
  |_=>exact k2.elim
 |_=>exact k2.elim
theorem wN(O:XO w g c E X){x:Str}{tg d:Expr}{id:EV.E}(h:glob c x=some .rng)(ha:PE X a (tE w g c E ia))(hb:PE X b (tE w g c E ib))(hd:PE X d (tE w g c E id))(hs:isStar a=false)(hs':isStar b=false)(hs'':isStar d=false):PI X tg (.Call (.Name x p2) [a,b,d] [] pos) (tIt w g c E (.rng3 ia ib id)):=by
 obtain⟨h1,rfl⟩:=O.gm h;refine PI.imp (uZ (O.gl h) h1 (zi ha (zi hb (zi hd zG (qe hs'')) (qe hs')) (qe hs)) (qe hs) (by rw[qe hs',qe hs''];rfl)) λσ H R ⟨τ,S,se,k⟩=>?_
 simp only[evI]at k;refine qS se k λda va H1 e1 p1 k1=>qS (se.up p1.same) k1 λdb vb H2 e2 p2 k2=>qS ((se.up p1.same).up p2.same) k2 λdd vd H3 e3 p3 k3=>?_
 cases da with
 |int i=>
  cases db with
  |int j=>
   cases dd with
   |int l=>
    simp only at k3;cases q:qf i&&qf j&&(decide (0<l)&&qf l)with
    |true=>
     rw[q,if_pos rfl]at k3;simp only[aM,decide_eq_true_eq]at q;obtain⟨z1,z2⟩:=zo q.1.1;obtain⟨z3,z4⟩:=zo q.1.2;obtain⟨z5,z6⟩:=zo q.2.2;exact⟨i,j,l,by rw[p1.rb.int,p2.rb.int,p3.rb.int],⟨z1,z2,z3,z4,q.2.1,z6⟩,k3 _ H3 ((p1.same.trans p2.same).trans p3.same) (λ_ _ _ _ _=>jE) λ_ _ _ _ _=>jE⟩
    |false=>rw[q]at k3;exact k3.elim
   |_=>exact k3.elim
  |_=>exact k3.elim
 |_=>exact k3.elim
theorem wa(O:XO w g c E X){x:Str}{es:List Expr}{ek:Nat}{epos:Pos}(h:glob c x=some .enum)(ha:PE X a (tE w g c E ia))(hs:isStar a=false):PI X (.Tuple es ek epos) (.Call (.Name x p2) [a] [] pos) (tIt w g c E (.enum ia)):=λpins s σ H R I ⟨τ,S,se,kk⟩=>by
 simp only[evI]at kk;exact bq kk
theorem nA(O:XO w g c E X){x:Str}{es:List Expr}{ek:Nat}{epos:Pos}(h:glob c x=some .zip)(ha:PE X a (tE w g c E ia))(hb:PE X b (tE w g c E ib))(hs:isStar a=false)(hs':isStar b=false):PI X (.Tuple es ek epos) (.Call (.Name x p2) [a,b] [] pos) (tIt w g c E (.zip ia ib)):=λpins s σ H R I ⟨τ,S,se,kk⟩=>by
 simp only[evI]at kk;exact bq kk
end
noncomputable def fQ:List Nat->TGs
 | []=>lS
 |i::is=>m8 (dU i) (fQ is)
noncomputable def gT(K:aB):Tg->TG
 | .nm i=>dU i
 | .tp is=>jC K is.length (fQ is)
section
variable{w:W}{g:Gc}{c:Cc}{E:XK}{X:Cx}
theorem eC{x:Str}{i:Nat}(h:cP c x=some i):loc c x=some i/\(c.nm.lookup x=some .local\/(c.nm.lookup x=some .cell/\(c.fnc=true\/c.oc.contains x=true))):=by
 unfold cP at h;split at h
 ·rename_i q;exact⟨h,.inl q⟩
 ·rename_i q
  split at h
  ·rename_i z;exact⟨h,.inr ⟨q,by simpa using z⟩⟩
  ·cases h
 ·cases h
theorem lF(O:XO w g c E X){x:Str}{i:Nat}{pos:Pos}(h:cP c x=some i):PG X (.Name x pos) (dU i):=by
 obtain⟨h1,h2⟩:=eC h;obtain⟨h3,_⟩:=eh h1;refine rE (by rw[O.N];exact O.nd) (by rw[O.N];exact h3) (by unfold L2.Loc;rw[O.nm];rcases h2 with z|z;exact .inl z;exact .inr z.1) ?_;rcases h2 with z|z
 ·exact .inr (by rw[O.nm];exact z)
 ·exact .inl (O.fn x z.2)
theorem mm:∀{es:List Expr}{xs:List Str},eV es=some xs->∃ps:List Pos,es=(xs.zip ps).map (λp=>Expr.Name p.1 p.2)/\ps.length=xs.length
 | [],xs,h=>by simp[eV]at h;subst h;exact⟨[],rfl,rfl⟩
 |e::es,xs,h=>by
  cases e with
  |Name y p=>
   simp only[eV,bH]at h;obtain⟨ys,h1,rfl⟩:=h;obtain⟨ps,h2,h3⟩:=mm h1;exact⟨p::ps,by rw[h2];rfl,by simp[h3]⟩
  |_=>simp[eV]at h
theorem mB(O:XO w g c E X):∀{xs:List Str}{ps:List Pos}{is:List Nat},ps.length=xs.length->xs.mapM (cP c)=some is ->
  PGs X ((xs.zip ps).map λp=>Expr.Name p.1 p.2) (fQ is)/\(assignEach ((xs.zip ps).map λp=>Expr.Name p.1 p.2) X.env).length=is.length/\(assignEach ((xs.zip ps).map λp=>Expr.Name p.1 p.2) X.env).findIdx? (·.1)=none
 | [],ps,is,_,h=>by
  simp at h;subst h;exact⟨tQ,rfl,rfl⟩
 |x::xs,[],_,h,_=>by simp at h
 |x::xs,p::ps,is,hl,h=>by
  simp only[List.mapM_cons,aH,aG]at h;obtain⟨i,h1,js,h2,h3⟩:=h;cases h3;obtain⟨r1,r2,r3⟩:=mB O (xs:=xs) (ps:=ps) (by simpa using hl) h2;refine⟨vG (lF O h1) r1 rfl,?_,?_⟩
  ·show (assignEach ((xs.zip ps).map λp=>Expr.Name p.1 p.2) X.env).length+1=js.length+1;rw[r2]
  ·show List.findIdx? (·.1) ((false,_)::assignEach ((xs.zip ps).map λp=>Expr.Name p.1 p.2) X.env)=none;rw[List.findIdx?_cons];simp only[a_,if_false];rw[r3];rfl
theorem gr(O:XO w g c E X){e:Expr}{tg:Tg}(h:cTg c e=some tg):PG X e (gT X.K tg):=by
 cases e with
 |Name x p=>
  simp only[cTg]at h;split at h
  ·cases h
  ·simp only[bH]at h;obtain⟨i,h1,rfl⟩:=h;exact lF O h1
 |Tuple es k p=>
  simp only[cTg]at h;split at h
  ·rename_i hc
   simp only[aH,aG]at h;obtain⟨xs,h1,h⟩:=h;split at h
   ·cases h
   ·simp only[aG]at h;obtain⟨is,h2,h⟩:=h;split at h
    ·cases h;obtain⟨ps,rfl,hl⟩:=mm h1;obtain⟨r1,r2,r3⟩:=mB O hl h2;exact vg (O.calm hc) r1 r2 r3
    ·cases h
  ·cases h
 |_=>simp[cTg]at h
noncomputable def fB(c:Cc):Tg->Prop
 | .nm i=>∀x,c.N[i]? = some x->c.own.contains x=false
 | .tp is=>∀i∈is,∀x,c.N[i]? = some x->c.own.contains x=false
theorem mX{α β:Type}{f:α->Option β}:∀{xs:List α}{ys:List β},xs.mapM f=some ys->∀y∈ys,∃x∈xs,f x=some y
 | [],ys,h,y,hy=>by simp at h;subst h;simp at hy
 |x::xs,ys,h,y,hy=>by
  simp only[List.mapM_cons,aH,aG]at h;obtain⟨z,h1,zs,h2,h3⟩:=h;cases h3;rcases aJ.mp hy with rfl|hy
  ·exact⟨x,aW,h1⟩
  ·obtain⟨x',h4,h5⟩:=mX h2 y hy;exact⟨x',aS _ h4,h5⟩
theorem jP{e:Expr}{tg:Tg}(h:cTg c e=some tg):fB c tg:=by
 have one:∀{x:Str}{i:Nat},c.own.contains x=false->cP c x=some i->∀y,c.N[i]? = some y->c.own.contains y=false:=λ{x i} ho hl y hy=>by
  obtain⟨h3,_⟩:=eh (eC hl).1;rw[h3]at hy;cases hy;exact ho
 cases e with
 |Name x p=>
  simp only[cTg]at h;split at h
  ·cases h
  ·rename_i ho
   simp only[bH]at h;obtain⟨i,h1,rfl⟩:=h;exact one (by simpa using ho) h1
 |Tuple es k p=>
  simp only[cTg]at h;split at h
  ·simp only[aH,aG]at h;obtain⟨xs,h1,h⟩:=h;split at h
   ·cases h
   ·rename_i ho
    simp only[aG]at h;obtain⟨is,h2,h⟩:=h;split at h
    ·cases h;intro i hi;obtain⟨x,hx,hl⟩:=mX h2 i hi;refine one ?_ hl;cases q:c.own.contains x with
     |false=>rfl
     |true=>exact absurd (List.any_eq_true.mpr ⟨x,hx,q⟩) ho
    ·cases h
  ·cases h
 |_=>simp[cTg]at h
section
variable{τ τ':Env}{σ:L2.St}{H:Hp}{S:Sh}
theorem SE.set{i:Nat}{d:D}{v:V}(se:SE g c τ σ H S)(r:Rep g (hid H S) d v):SE g c (τ.set i (some d)) (σ.set i (some v)) H S:=by
 refine⟨by simp[se.len],λj e h=>?_,se.sub⟩;by_cases hij:i=j
 ·subst hij;by_cases hi:i<τ.length
  ·simp[hi]at h;subst h;have hi':i<σ.length:=by rw[<-se.len];exact hi
   exact⟨v,by simp[hi'],.inl r,λ_ _ _=>r⟩
  ·rw[List.set_eq_of_length_le (by lia)]at h;rw[List.getElem?_eq_none (by lia)]at h;cases h
 ·rw[List.getElem?_set_ne hij]at h ⊢;exact se.val j e h
theorem SE.setAll{is:List Nat}:∀{ds:List D}{vs:List V}{τ:Env}{σ:L2.St}{Q:L2.St->Hp->Prop},SE g c τ σ H S->qF g (hid H S) ds vs->setAll is ds τ=.ok τ'->(∀σ',SE g c τ' σ' H S->Q σ' H)->fQ is vs σ H Q:=by
 induction is with
 |nil=>
  intro ds vs τ σ Q se r h k;cases r with
  |nil=>cases (show R.ok τ=R.ok τ' from h);exact⟨rfl,k σ se⟩
  |cons _ _=>cases (show R.no=R.ok τ' from h)
 |cons i is ih=>
  intro ds vs τ σ Q se r h k;cases r with
  |nil=>cases (show R.no=R.ok τ' from h)
  |cons r rs=>exact⟨_,_,rfl,ih (se.set r) rs h k⟩
theorem yr(O:X.K=g.K){tg:Tg}{d:D}{v:V}{Q:L2.St->Hp->Prop}(se:SE g c τ σ H S)(r:Rep g (hid H S) d v)(h:store tg d τ=.ok τ')(k:∀σ',SE g c τ' σ' H S->Q σ' H):gT X.K tg v σ H Q:=by
 cases tg with
 |nm i=>
  simp only[store,R.ok.injEq]at h;subst h;exact k _ (se.set r)
 |tp is=>
  cases d with
  |tup ds=>
   simp only[store]at h;split at h
   ·rename_i hl
    cases r with
    |tup h1 r1=>exact⟨_,_,rfl,by rw[O];exact ei cX h1,by rw[<-r1.length];exact hl,se.setAll r1 h k⟩
   ·cases h
  |_=>simp[store]at h
end
end
abbrev cy(c:Cc)(sc:aY):Cc:={c with nm:=gY sc.names c.nm,N:=zK sc.names,fnc:=false,oc:=fC sc.names}
section
variable{w:W}{g:Gc}{c:Cc}{E:XK}{X:Cx}
theorem XO.comp(O:XO w g c E X){sc:aY}(hk:sc.kind=.function)(hnd:(zK sc.names).Nodup)(cl:List (Str×Addr))(C:Addr)(s₀:af)(H₀:Hp)(fp:List Addr):XO w g (cy c sc) E0 (zt X (zK sc.names) sc cl C s₀ H₀ fp) where
 K:=O.K
 nm:=by
  show (relabel sc X.env).names=gY sc.names c.nm;unfold relabel gY;simp only
  congr 1
  funext p;have h1:(X.env.scope.kind==ScopeKind.function)=true:=by rw[O.kind];rfl
  have h2:X.env.kindOf p.1=c.nm.lookup p.1:=by show X.env.scope.names.lookup p.1=_;rw[O.nm]
  obtain⟨n,k⟩:=p;simp only at h2;simp only[h1,h2,Bool.and_true]
 N:=rfl
 nd:=hnd
 calm:=O.calm
 units:=O.units
 fn:=λx z=>z.elim (λz=>by cases z) λz=>z
 kind:=hk
 pass:=nk rfl rfl
 gok:=O.gok
 fns:=O.fns
 sub:=O.sub
theorem vX{α:Type}{τ:Env}{σ:L2.St}{H:Hp}{S:Sh}{it:It}{f:List D->R α}{P:α->Prop}{R':L2.It->Hp->Prop}(se:SE g c τ σ H S)(h:tR g E H ((evI w it τ).bind f) P)
  (k:∀ds J H',evI w it τ=.ok ds->qa H H'->(∀H2 S2,qa H' H2->qa (hid H' S) (hid H2 S2)->Sub S2 H2->Goes g J ds H2 S2)->(owned it=false->∀H2 S2,qa (hid H' S) (hid H2 S2)->Sub S2 H2->Goes g J ds H2 S2)->tR g E H' (f ds) P->R' J H'):tIt w g c E it σ H R':=by
 refine⟨τ,S,se,?_⟩;cases q:evI w it τ with
 |ok d=>rw[q]at h;exact λJ H' s k1 k2=>k d J H' q s k1 k2 (tR.up h s)
 |ex x=>rw[q]at h;exact h
 |no=>rw[q]at h;exact h
theorem sE{α:Type}{r:R α}{x:Str}:noEx r≠.ex x:=by cases r<;>intro h<;>cases h
theorem vW{α:Type}{r:R α}{a:α}(h:noEx r=.ok a):r=.ok a:=by cases r<;>first|exact h|cases h
theorem jS{body:D->Env->R (Env×List D)}(hb:∀d τ x,body d τ≠.ex x):∀{ds:List D}{τ:Env}{acc:List D}{x:Str},zJ body ds τ acc≠.ex x
 | [],_,_,_,h=>by cases h
 |d::r,τ,acc,x,h=>by
  simp only[zJ]at h;cases q:body d τ with
  |ok p=>rw[q]at h;exact jS hb h
  |ex y=>exact hb _ _ _ q
  |no=>rw[q]at h;cases h
theorem SE.caps{sc:aY}{cap:List (Option Nat)}{τ:Env}{σ:L2.St}{H:Hp}{S:Sh}(O:XO w g c E X)(hc:k7 X (zK sc.names) cap sc)(se:SE g c τ σ H S):SE g (cy c sc) (dE cap τ) (L2.caps cap σ) H S:=by
 refine⟨by simp[dE,L2.caps],λi d h=>?_,se.sub⟩;unfold dE at h;rw[List.getElem?_map]at h;cases q:cap[i]? with
 |none=>rw[q]at h;cases h
 |some o=>
  cases o with
  |none=>rw[q]at h;cases h
  |some j=>
   rw[q]at h;simp only[Option.map_some,Option.bind_some,bY]at h;cases q2:τ[j]? with
   |none=>rw[q2]at h;cases h
   |some z=>
    rw[q2]at h;cases z with
    |none=>cases h
    |some d'=>
     have:d'=d:=by simpa using h
     subst this;obtain⟨v,h1,h2,h3⟩:=se.val j d' q2;refine⟨v,?_,h2,λx hx ho=>?_⟩
     ·unfold L2.caps;rw[List.getElem?_map,q];simp[h1]
     ·obtain⟨y,e1,e2,_⟩:=hc.2 i j q;have hx':(zK sc.names)[i]? = some x:=hx;rw[e1]at hx';cases hx';exact h3 _ (by rw[<-O.N];exact e2) ho
theorem fg{H:Hp}{S:Sh}{p:Addr}{o:HO}(h:S.h p=true):hid (upd H p o) S=hid H S:=by
 funext b;unfold hid;by_cases hb:b=p
 ·subst hb;rw[if_pos h,if_pos h]
 ·rw[qQ hb]
theorem SE.grow{c:Cc}{τ:Env}{σ:L2.St}{H:Hp}{S:Sh}{p:Addr}{o:HO}(se:SE g c τ σ H S)(h:S.h p=true)(ho:S.o p=false):SE g c τ σ (upd H p o) S:=by
 refine⟨se.len,λi d e=>?_,λa ha n=>?_⟩
 ·obtain⟨v,h1,h2,h3⟩:=se.val i d e;refine⟨v,h1,?_,λx hx hy=>by rw[fg h];exact h3 x hx hy⟩;rcases h2 with h2|⟨a,vs,ds,z1,z2,z3,z4,z5⟩
  ·exact .inl (by rw[fg h];exact h2)
  ·refine .inr ⟨a,vs,ds,z1,z2,z3,?_,by rw[fg h];exact z5⟩;rw[qQ (λz=>by rw[z,ho]at z1;cases z1)];exact z4
 ·by_cases hb:a=p
  ·subst hb;rw[zk]at n;cases n
  ·rw[qQ hb]at n;exact se.sub a ha n
theorem SE.hide{c:Cc}{τ:Env}{σ:L2.St}{H:Hp}{S:Sh}{p:Addr}{vs:List V}(se:SE g c τ σ H S)(hp:H p=none):SE g c τ σ (upd H p (.lst vs)) (zH S p):=by
 refine⟨se.len,λi d e=>?_,λa ha n=>?_⟩
 ·obtain⟨v,h1,h2,h3⟩:=se.val i d e;refine⟨v,h1,?_,λx hx hy=>(h3 x hx hy).mono (gA hp)⟩;rcases h2 with h2|⟨a,vs,ds,z1,z2,z3,z4,z5⟩
  ·exact .inl (h2.mono (gA hp))
  ·exact .inr ⟨a,vs,ds,z1,z2,z3,zg hp _ _ z4,z5.mono (gA hp)⟩
 ·by_cases hb:a=p
  ·subst hb;rw[zk]at n;cases n
  ·rw[qQ hb]at n;refine se.sub a ?_ n;rcases ha with ha|ha
   ·refine .inl ?_;have ha:(S.h a||a==p)=true:=ha
    simpa[hb]using ha
   ·exact .inr ha
theorem mM(O:XO w g c E X){sc:aY}{cap:List (Option Nat)}{iit:It}{itg:Tg}{tt:T}{ielt:EV.E}(hS:zI X (zK sc.names) cap sc)(he:esc ielt=true){σ:L2.St}{H:Hp}{Q:VK}(hq:tE w g c E (.comp iit cap itg tt ielt) σ H Q) :
  iE cap (tIt w g c E iit) (gT X.K itg) (tT w g (cy c sc) E0 tt) (λacc=>gW acc (tE w g (cy c sc) E0 ielt)) σ H Q:=by
 obtain⟨τ,S,se,k⟩:=hq;simp only[qU,qX,qV,za,qW,zb,qZ,zc,qY,qt,qz,qs,qw,qu,qi,qD,qB,qA,qx,qy,qC,qo,qq,qP,qE,qr,qJ,qM,qN,qO,qI,qL,qK,qp,qH]at k;refine vX se k λds J H1 e1 s1 kW _ k1 acc hacc=>?_
 by_cases hz:SZ<ds.length
 ·rw[if_pos hz]at k1;exact k1.elim
 rw[if_neg hz]at k1;generalize hbody:(λx σ=>noEx ((store itg x σ).bind λσ'=>(evT w tt σ').bind λr=>if r=true then (evE w ielt σ').bind λd=>R.ok (σ',[d])else R.ok (σ',[])))=body at k1;have bex:∀d τ x,body d τ≠.ex x:=λd τ x=>by rw[<-hbody];exact sE
 cases hl:zJ body ds (dE cap τ) []with
 |ex z=>exact absurd hl (jS bex)
 |no=>rw[hl]at k1;exact k1.elim
 |ok out=>
  rw[hl]at k1;simp only[R.bind_ok]at k1;have k1:∀v H',br g c (.comp iit cap itg tt ielt) S H (.lst out) v H'->Q v H':=k1;have sub1:=se.sub.same s1;have hoacc:S.o acc=false:=sub1.freeO hacc;have hhacc:(zH S acc).h acc=true:=by show (S.h acc||acc==acc)=true;simp
  -- what holds between two turns
  refine⟨λi m σ' H'=>m=ds.length-i/\i<=ds.length/\∃τ' o,zJ body (ds.drop i) τ' o=.ok out/\SE g (cy c sc) τ' σ' H' (zH S acc)/\o.length<=i/\qa H1 H'/\∃vs,H' acc=some (.lst vs)/\qF g (hid H' (zH S acc)) o vs,
   ⟨ds.length,rfl,bp _,dE cap τ,[],hl,(se.up s1).caps O hS.cap |>.hide hacc,aD _,zg hacc,[],zk,.nil⟩,?_⟩
  rintro i m σ' H' ⟨rfl,hi',τ',o,hlo,se',hol,s1',vs,hv,hr⟩;have keep:qa (hid H1 S) (hid H' (zH S acc)):=λb u hb=>by
   obtain⟨z1,z2⟩:=bT.mp hb;refine bT.mpr ⟨?_,s1' _ _ z2⟩;show (S.h b||b==acc)=false;rw[z1]
   simpa using λz:b=acc=>by rw[z,hacc]at z2;cases z2
  obtain⟨g1,g2⟩:=kW H' (zH S acc) s1' keep se'.sub;by_cases hlt:i<ds.length
  ·have hd:ds[i]? = some ds[i]:=List.getElem?_eq_getElem hlt;obtain⟨go1,go2⟩:=g2 i ds[i] hd;refine .inr ⟨go1,λσ'' H''=>∃τ' o,zJ body (ds.drop (i+1)) τ' o=.ok out/\SE g (cy c sc) τ' σ'' H'' (zH S acc)/\o.length<=i+1/\qa H1 H''/\∃vs,H'' acc=some (.lst vs)/\qF g (hid H'' (zH S acc)) o vs,
    λσ'' H'' z=>⟨ds.length-(i+1),by lia,rfl,hlt,z⟩,λx H2 hy=>?_⟩
   obtain⟨s2,rx⟩:=go2 x H2 hy;rw[dR hlt]at hlo;simp only[zJ]at hlo;cases q:body ds[i] τ' with
   |ex z=>exact absurd q (bex _ _ _)
   |no=>rw[q]at hlo;cases hlo
   |ok p=>
    rw[q]at hlo;simp only[R.bind_ok]at hlo;rw[<-hbody]at q;have q:=vW q;cases q1:store itg ds[i] τ' with
    |ex z=>rw[q1]at q;cases q
    |no=>rw[q1]at q;cases q
    |ok τ1=>
     rw[q1]at q;simp only[R.bind_ok]at q;refine yr O.K (se'.up s2) rx q1 λσ1 se1=>?_
     cases q2:evT w tt τ1 with
     |ex z=>rw[q2]at q;cases q
     |no=>rw[q2]at q;cases q
     |ok r=>
      rw[q2]at q;simp only[R.bind_ok]at q;refine⟨τ1,zH S acc,se1,?_⟩;rw[q2];intro H3 s3;have hv3:=s3 _ _ (s2 _ _ hv);have s13:=s1'.trans (s2.trans s3);cases r with
      |false=>
       simp only[a_,if_false,R.ok.injEq]at q;subst q;rw[if_neg cB];exact⟨τ1,o++[],hlo,se1.up s3,by simp;lia,s13,vs,hv3,by rw[b_];exact hr.mono (qR (s2.trans s3))⟩
      |true=>
       simp only[if_true]at q;rw[if_pos rfl];cases q3:evE w ielt τ1 with
       |ex z=>rw[q3]at q;cases q
       |no=>rw[q3]at q;cases q
       |ok dd=>
        rw[q3]at q;simp only[R.bind_ok,R.ok.injEq]at q;subst q;refine⟨τ1,zH S acc,se1.up s3,?_⟩;rw[q3];intro v H4 p4;have hv4:=p4.same _ _ hv3;have hr4:=hr.mono (qR ((s2.trans s3).trans p4.same));have hz':vs.length<sizeLine:=by
         rw[<-hr.length,bw];have:ds.length<=SZ:=cH hz;unfold SZ at this;lia
        refine⟨vs,hv4,hz',τ1,o++[dd],hlo,(se1.up (s3.trans p4.same)).grow hhacc hoacc,by simp;lia,λb u hb=>?_,vs++[v],zk,?_⟩
        ·rw[qQ (λz=>by rw[z,hacc]at hb;cases hb)];exact p4.same _ _ (s13 _ _ hb)
        ·rw[fg hhacc];exact hr4.append (.cons (p4.st he) .nil)
  ·have e:i=ds.length:=by lia
   subst e;refine .inl ⟨g1 ds.length (aD _),?_⟩;rw[List.drop_length]at hlo;simp only[zJ,R.ok.injEq]at hlo;subst hlo;have rep:Rep g (hid H' S) (.lst o) (.ref acc):=.lst (SqL.of (bT.mpr ⟨sub1.free hacc,hv⟩)) (hr.mono nj);exact k1 _ _ (br.new (s1.trans s1') rep ⟨acc,vs,o,rfl,rfl,s1.free hacc,hv,hr⟩)
theorem vj(O:XO w g c E X)(hcalm:X.calm=true){sc:aY}{cap:List (Option Nat)}{tgt it elt:Expr}{ifs:List Expr}{pos:Pos}{iit:It}{itg:Tg}{tt:T}{ielt:EV.E}(hS:zI X (zK sc.names) cap sc)(hnd:(zK sc.names).Nodup)
  (hi:PI X tgt it (tIt w g c E iit)) (hb:∀cl C s₀ H₀ fp,PG (zt X (zK sc.names) sc cl C s₀ H₀ fp) tgt (gT X.K itg)/\PTs (zt X (zK sc.names) sc cl C s₀ H₀ fp) ifs (tT w g (cy c sc) E0 tt)/\PE (zt X (zK sc.names) sc cl C s₀ H₀ fp) elt (tE w g (cy c sc) E0 ielt))
  (he:esc ielt=true) (hs:zj it=true):PE X (.ListComp elt [⟨tgt,it,ifs,0⟩] sc pos) (tE w g c E (.comp iit cap itg tt ielt)):=by
 exact PE.imp (vJ (tb:=λacc=>gW acc (tE w g (cy c sc) E0 ielt)) hcalm hS hi (λcl C s₀ H₀ fp=>⟨(hb cl C s₀ H₀ fp).1,(hb cl C s₀ H₀ fp).2.1,λacc=>kg rfl (hb cl C s₀ H₀ fp).2.2⟩) (by simp) (λx=>by cases it<;>first|rfl|(simp[zj]at hs))) λσ H Q q=>mM O hS he q
end
section
variable{prog:aA}{w:av}{A:az}{E:ae->af->Prop}{s:af}
theorem pW{Q:List ae->af->Prop}{r:Addr}{a b c:Int}{t u v:Tok}{n:Nat}(hh:A.handled=none)(hr:IsRange s.heap r a b c t u v)(hsmall:Builtin.Range.small a b c=true)(hn:cm a b c=n)(hlen:n<=2^24)
  (hQ:∀h' tk acc,(∀b o',s.heap.get? b=some o'->h'.get? b=some o')->ItemsOf (λi v=>∃t,v=.int (a+i * c) t) acc n->Q acc.toList {s with heap:=h',toks:=tk}):ak (ar prog w) A (collect (.ref r)) Q E s:=by
 unfold collect;refine aq (wpAny_runValue (cb PySem.F.entry_proto_collect ?_));rw[cA PySem.F.plain_proto_collect _];show ak _ A.in1 (newList []>>=λl=>again (.builtin "list.__iadd__" ⟨[l,.ref r],[]⟩)) _ _ s;refine aq (cG ?_);refine aC ⟨plainId_quiet PySem.F.plain_list_iadd _,cb PySem.F.entry_list_iadd ?_⟩;rw[cA PySem.F.plain_list_iadd _];show ak _ A.in1 (Builtin.List.listExtendWith (.ref s.heap.objs.size) (.ref r) (.ref s.heap.objs.size)) _ _ _;have hS:(s.heap.push {cls:=.type "list",data:=.seq ([]:List ae).toArray}).get? s.heap.objs.size=some {cls:=.type "list",data:=.seq #[] 0}:=Heap.get?_push_size _ rfl;have fin':∀(h':Heap) (tk:Nat) (acc:Array ae) (c':Nat),(∀b o,b≠s.heap.objs.size->(s.heap.push {cls:=.type "list",data:=.seq ([]:List ae).toArray}).get? b=some o->h'.get? b=some o)->h'.get? s.heap.objs.size=some {cls:=.type "list",dict:=none,data:=.seq acc c',slots:=#[]} ->
   ItemsOf (λi v=>∃t,v=.int (a+i * c) t) acc n->ak (ar prog w) A (match ae.ref s.heap.objs.size with
   |ae.ref a=>do
    match (<-load a).data with
     |Data.seq xs _=>pure xs.toList
     |_=>unsupported "internal:collect"
   |_=>unsupported "internal:collect") Q E {s with heap:=h',toks:=tk}:=λh' tk acc c' hk hS' hacc=>by
  show ak _ A (load s.heap.objs.size>>=_) _ _ _;refine aq (wpAny_load hS' ?_);exact aC (hQ h' tk acc (λb o' hb=>hk b o' (a9 (aK hb)) (Heap.get?_push_of_some _ hb)) hacc)
 refine bS (wpAny_extend_range (A:=A) (R:=λr s'=>r=.ok (.ret (.ref s.heap.objs.size))/\∃h' tk acc c',s'={s with heap:=h',toks:=tk}/\(∀b o,b≠s.heap.objs.size->(s.heap.push {cls:=.type "list",data:=.seq ([]:List ae).toArray}).get? b=some o->h'.get? b=some o)/\h'.get? s.heap.objs.size=some {cls:=.type "list",dict:=none,data:=.seq acc c',slots:=#[]}/\ItemsOf (λi v=>∃t,v=.int (a+i * c) t) acc n)
  (s:={s with heap:=s.heap.push {cls:=.type "list",data:=.seq ([]:List ae).toArray}}) hh (Heap.get?_push_of_some _ hr) hsmall hn hlen _ _ 0 hS λh' tk acc c' hk hS' hacc=>⟨rfl,h',tk,acc,c',rfl,hk,hS',hacc⟩) (λfin s' h=>?_) (λe s' h=>?_)
 ·cases fin with
  |done f=>
   obtain⟨e,h',tk,acc,c',rfl,hk,hS',hacc⟩:=h;cases e;exact fin' h' tk acc c' hk hS' hacc
  |again c'=>exact⟨h.1,b8 h.2 λr s'' hr=>by obtain⟨rfl,h',tk,acc,c',rfl,hk,hS',hacc⟩:=hr;exact fin' h' tk acc c' hk hS' hacc⟩
 ·exact absurd h.1 (by simp)
theorem pC(r:Addr)(a b c:Int)(t u v:Tok)(n:Nat)(hsmall:Builtin.Range.small a b c=true)(hn:cm a b c=n)(hlen:n<=2^24) :
  PySem.Meets (Builtin.«tuple.__new__» ⟨[.type "tuple",.ref r],[]⟩)
   (λA R s=>A.handled=none/\IsRange s.heap r a b c t u v/\∀(h':Heap) (tk:Nat) (acc:Array ae),(∀b o',s.heap.get? b=some o'->h'.get? b=some o')->ItemsOf (λi v=>∃t,v=.int (a+i * c) t) acc n->R (.ok (.ret (.ref h'.objs.size))) {s with heap:=h'.push {cls:=.type "tuple",data:=.seq acc},toks:=tk}):=
 .of_wp λprog w A R s h=>by
  obtain⟨hh,ht,h⟩:=h;have hsub:=sub_tuple_self;have hinit:=init_tuple_lookup;have hmh:=madeHere_tuple;have hT:s.TypeIs (.ref r) "range":=⟨_,ht,rfl⟩
  have hh1:A.in1.handled=none:=hh
  wp_walk using wpAny_typeOf hT,pW (hsmall:=hsmall) (hn:=hn) (hlen:=hlen) hh1 ht
  intro h' tk acc hk hacc;show ak _ _ (Builtin.Tuple.tupleExact acc.toList.toArray>>=λv=>ret v) _ _ _;unfold Builtin.Tuple.tupleExact;refine aq (cG ?_ (show acc.toList.toArray.size<=aX by simp only[Array.toArray_toList];rw[hacc.1,bw];lia));refine aC ⟨_,rfl,?_⟩;have e:acc.toList.toArray=acc:=by simp
  rw[e];exact h h' tk acc hk hacc
theorem lE{r:Addr}{a b c:Int}{t u v:Tok}{n:Nat}{Q:ae->af->Prop}(hh:A.handled=none)(hr:IsRange s.heap r a b c t u v)(hsmall:Builtin.Range.small a b c=true)(hn:cm a b c=n)(hlen:n<=2^24)
  (h:∀(h':Heap) (tk:Nat) (acc:Array ae),(∀b o',s.heap.get? b=some o'->h'.get? b=some o')->ItemsOf (λi v=>∃t,v=.int (a+i * c) t) acc n->Q (.ref h'.objs.size) {s with heap:=h'.push {cls:=.type "tuple",data:=.seq acc},toks:=tk}) :
  ak (ar prog w) A (call (.type "tuple") [.ref r]) Q E s:=
 callType_new PySem.F.called_tuple (by decide) (PySem.F.typeCall_tuple_1 _) (PySem.F.newCall_tuple_1 _) (λobj=>PySem.F.args_object_init_2 obj _) PySem.F.entry_tuple_new
  (pC r a b c t u v n hsmall hn hlen) ⟨hh,hr,λh' tk acc hk hacc=>⟨⟨_,Heap.get?_push_size _ rfl,rfl⟩,h h' tk acc hk hacc⟩⟩
end
theorem i8:∀{xs:List V}{us:List ae},xs.length=us.length->(∀(i:Nat) x u,xs[i]? = some x->us[i]? = some u->L2.RelV x u)->Vals xs us
 | [],[],_,_=>.nil
 |x::xs,u::us,h,k=>.cons (k 0 x u rfl rfl) (i8 (by simpa using h) λi y v h1 h2=>k (i+1) y v (by simpa using h1) (by simpa using h2))
 | [],_::_,h,_=>by simp at h
 |_::_,[],h,_=>by simp at h
noncomputable def c_(lo:Int)(n:Nat):List V:=(a7 n).map λ(i:Nat)=>.int (lo+(i:Int))
theorem mT{lo:Int}{n:Nat}{acc:Array ae}(h:ItemsOf (λi v=>∃t,v=.int (lo+i * 1) t) acc n):Vals (c_ lo n) acc.toList:=by
 refine i8 (by simp[c_,h.1]) λi x u hx hu=>?_
 unfold c_ at hx;rw[List.getElem?_map]at hx;cases q:(a7 n)[i]? with
 |none=>rw[q]at hx;cases hx
 |some j=>
  rw[q]at hx;cases hx;obtain⟨h1,h2⟩:=List.getElem?_eq_some_iff.mp q;simp at h2;subst h2;obtain⟨t,ht⟩:=h.2 i u (by simpa using hu);rw[ht];exact⟨t,by rw[Int.mul_one]⟩
theorem ip{g:Gc}{H:Hp}{lo:Int}{n:Nat}:qF g H (zy lo n) (c_ lo n):=by
 unfold zy c_;generalize a7 n=l
 induction l with
 |nil=>exact .nil
 |cons i l ih=>exact .cons (.int _) ih
section
variable{X:Cx}
theorem nK:zd X (.type "range") (λvs H Q=>∃lo hi,(vs=[.int hi]/\lo=0\/vs=[.int lo,.int hi])/\∀p,H p=none->Q (.ref p) (upd H p (.rng lo hi))):=by
 intro pins s σ H xs us Q I r h;obtain⟨lo,hi,h|h,q⟩:=h
 ·obtain⟨rfl,rfl⟩:=h;obtain⟨u,rfl,t,rfl⟩:=r.one;exact call_range_1 ⟨.ref _,_,I.laid (o:=.rng 0 hi) (λb o e=>Heap.get?_push_of_some _ e) (aD _) ⟨_,_,_,Heap.get?_push_size _ rfl⟩,rfl,q _ I.fresh⟩
 ·subst h;obtain⟨u,v,rfl,⟨t,rfl⟩,⟨t',rfl⟩⟩:=r.two;exact call_range_2 ⟨.ref _,_,I.laid (o:=.rng lo hi) (λb o e=>Heap.get?_push_of_some _ e) (aD _) ⟨_,_,_,Heap.get?_push_size _ rfl⟩,rfl,q _ I.fresh⟩
theorem kA{lo hi:Int}:cm lo hi 1=((hi-lo).toNat:Nat):=by
 rw[rangeSize_one];split<;>lia
theorem xA(hc:X.calm=true):zd X (.type "list") (λvs H Q=>∃p lo hi,vs=[.ref p]/\H p=some (.rng lo hi)/\qf lo=true/\qf hi=true/\∀q,H q=none->Q (.ref q) (upd H q (.lst (c_ lo (hi-lo).toNat)))):=by
 intro pins s σ H xs us Q I r h;obtain⟨p,lo,hi,rfl,hp,z1,z2,q⟩:=h;obtain⟨u,rfl,ru⟩:=r.one;cases ru;obtain⟨t,u,v,e⟩:=I.hok p _ hp;obtain⟨a1,a2⟩:=zo z1;obtain⟨b1,b2⟩:=zo z2;refine call_list_range (I.ok.hd hc) e (small_one (by lia) (by lia) (by lia) (by lia)) kA (by lia) λh' tk acc c' hk hS hacc=>?_
 refine⟨.ref _,_,I.laid (h':=h') (t':=tk) (o:=.lst (c_ lo (hi-lo).toNat)) hk (aD _) ⟨by simp[c_,bw];lia,acc.toList,c',mT hacc,by simpa using hS⟩,rfl,q _ I.fresh⟩
theorem sS(hc:X.calm=true):zd X (.type "tuple") (λvs H Q=>∃p lo hi,vs=[.ref p]/\H p=some (.rng lo hi)/\qf lo=true/\qf hi=true/\∀q,H q=none->Q (.ref q) (upd H q (.tup (c_ lo (hi-lo).toNat)))):=by
 intro pins s σ H xs us Q I r h;obtain⟨p,lo,hi,rfl,hp,z1,z2,q⟩:=h;obtain⟨u,rfl,ru⟩:=r.one;cases ru;obtain⟨t,u,v,e⟩:=I.hok p _ hp;obtain⟨a1,a2⟩:=zo z1;obtain⟨b1,b2⟩:=zo z2;refine lE (I.ok.hd hc) e (small_one (by lia) (by lia) (by lia) (by lia)) kA (by lia) λh' tk acc hk hacc=>?_
 have I1:Inv X pins σ H {s with heap:=h',toks:=tk}:=I.kept hk;refine⟨.ref _,_,I1.laid (t':=tk) (o:=.tup (c_ lo (hi-lo).toNat)) (λb o e=>Heap.get?_push_of_some _ e) (aD _) ⟨by simp[c_,bw];lia,acc.toList,mT hacc,⟨_,Heap.get?_push_size _ rfl,rfl,0,by simp⟩⟩,rfl,q _ I1.fresh⟩
end
section
variable{w:W}{g:Gc}{c:Cc}{E:XK}{X:Cx}{a b:Expr}{ia ib:EV.E}{pos p2 p3 pos3:Pos}
theorem oR(O:XO w g c E X){x:Str}{e:Expr}{es:List Expr}{t:TA}(h:glob c x=some .rng)(ha:PA X (e::es) t)(hs:∀z∈e::es,isStar z=false) :
  PE X (.Call (.Name x p3) (e::es) [] pos3) (tCB (λvs H Q=>∃lo hi,(vs=[.int hi]/\lo=0\/vs=[.int lo,.int hi])/\∀p,H p=none->Q (.ref p) (upd H p (.rng lo hi))) t):=by
 obtain⟨h1,rfl⟩:=O.gm h;exact eE nK (O.gl h) h1 (by decide +kernel) ha (qm h).2.2.2 (qm h).2.2.1 (qe (hs e aW)) (eY λz hz=>hs z (aS _ hz))
theorem jG(O:XO w g c E X)(hc:X.calm=true){x y:Str}{n:String}{bb:Option B1}{e:Expr}{es:List Expr}{it:It}{t:TA}(hT:glob c x=some (.ty n bb))(h:glob c y=some .rng)(ha:PA X (e::es) t)(hs:∀z∈e::es,isStar z=false)
  (hn:n = "tuple"\/n = "list")
  (k:∀σ H (Q:List V->Hp->Prop) τ S (P:List D->Prop),SE g c τ σ H S->tR g E H (evI w it τ) P->(∀lo hi vs H',qa H H'->(vs=[.int hi]/\lo=0\/vs=[.int lo,.int hi])->qf lo=true->qf hi=true->P (zy lo (hi-lo).toNat)->Q vs H')->t σ H Q) :
  PE X (.Call (.Name x p2) [.Call (.Name y p3) (e::es) [] pos3] [] pos) (tE w g c E (if n = "tuple" then .rtup it else .rlst it)):=by
 obtain⟨h1,h2,_,_⟩:=O.gm hT;have hr:=oR (p3:=p3) (pos3:=pos3) O h ha hs;rcases hn with rfl|rfl
 ·refine PE.imp (eE (sS hc) (O.gl hT) h1 h2 (zi hr zG) (qm hT).2.2.2 (qm hT).2.2.1) λσ H Q ⟨τ,S,se,q⟩=>?_
  rw[if_pos rfl]at q;simp only[qU,qX,qV,za,qW,zb,qZ,zc,qY,qt,qz,qs,qw,qu,qi,qD,qB,qA,qx,qy,qC,qo,qq,qP,qE,qr,qJ,qM,qN,qO,qI,qL,qK,qp,qH]at q;refine k σ H _ τ S _ se (tR.bnd q) λlo hi vs H' s hv z1 z2 hP=>⟨lo,hi,hv,λp hp=>⟨p,lo,hi,rfl,zk,z1,z2,λr hr=>?_⟩⟩
  have s1:=zg (o:=.rng lo hi) hp;exact hP _ _ (br.of ((s.trans s1).trans (zg hr)) (fH (se.sub.same (s.trans s1)) hr ip) rfl)
 ·refine PE.imp (eE (xA hc) (O.gl hT) h1 h2 (zi hr zG) (qm hT).2.2.2 (qm hT).2.2.1) λσ H Q ⟨τ,S,se,q⟩=>?_
  rw[if_neg (by decide)]at q;simp only[qU,qX,qV,za,qW,zb,qZ,zc,qY,qt,qz,qs,qw,qu,qi,qD,qB,qA,qx,qy,qC,qo,qq,qP,qE,qr,qJ,qM,qN,qO,qI,qL,qK,qp,qH]at q;refine k σ H _ τ S _ se (tR.bnd q) λlo hi vs H' s hv z1 z2 hP=>⟨lo,hi,hv,λp hp=>⟨p,lo,hi,rfl,zk,z1,z2,λr hr=>?_⟩⟩
  have s1:=zg (o:=.rng lo hi) hp;exact hP _ _ (br.new ((s.trans s1).trans (zg hr)) (eM (se.sub.same (s.trans s1)) hr ip) (gU (s.trans s1) hr ip))
noncomputable def rgS(p:Addr)(lo hi st:Int):Heap->Prop:=λh=>∃t u v,h.get? p=some {cls:=.type "range",data:=.fields #[.int lo t,.int hi u,.int st v]}
theorem rK{X:Cx}:zd X (.type "range") (λvs H Q=>∃lo hi st,vs=[.int lo,.int hi,.int st]/\(0<st/\st<=1000000)/\∀p,H p=none->Q (.ref p) (upd H p (.ext (rgS p lo hi st)))):=by
 intro pins s σ H xs us Q I r h;obtain⟨lo,hi,st,rfl,hst,q⟩:=h;obtain⟨u1,u2,u3,rfl,⟨t1,rfl⟩,⟨t2,rfl⟩,⟨t3,rfl⟩⟩:∃u1 u2 u3,us=[u1,u2,u3]/\RelV (.int lo) u1/\RelV (.int hi) u2/\RelV (.int st) u3:=by
  cases r with
  |cons p q=>
   cases q with
   |cons p' q'=>
    cases q' with
    |cons p'' q''=>
     cases q'';exact⟨_,_,_,rfl,p,p',p''⟩
 refine call_range_3 (by lia) ⟨.ref _,_,I.laid (o:=.ext (rgS _ lo hi st)) (λb o e=>Heap.get?_push_of_some _ e) (aD _) ⟨⟨_,_,_,Heap.get?_push_size _ rfl⟩,⟨_,Heap.get?_push_size _ rfl⟩,λh1 h2 ⟨a1,a2,a3,e⟩ k=>⟨a1,a2,a3,k _ e⟩⟩,rfl,q _ I.fresh⟩ (.inl (PyProof.noPylong_small (by lia)))
noncomputable def dW(lo st:Int)(n:Nat):List V:=(a7 n).map λ(i:Nat)=>.int (lo+(i:Int) * st)
theorem vw{lo st:Int}{n:Nat}{acc:Array ae}(h:ItemsOf (λi v=>∃t,v=.int (lo+i * st) t) acc n):Vals (dW lo st n) acc.toList:=by
 refine i8 (by simp[dW,h.1]) λi x u hx hu=>?_
 unfold dW at hx;rw[List.getElem?_map]at hx;cases q:(a7 n)[i]? with
 |none=>rw[q]at hx;cases hx
 |some j=>
  rw[q]at hx;cases hx;obtain⟨h1,h2⟩:=List.getElem?_eq_some_iff.mp q;simp at h2;subst h2;obtain⟨t,ht⟩:=h.2 i u (by simpa using hu);rw[ht];exact⟨t,rfl⟩
theorem t6{g:Gc}{H:Hp}{lo st:Int}{n:Nat}:qF g H (dI lo st n) (dW lo st n):=by
 unfold dI dW;generalize a7 n=l
 induction l with
 |nil=>exact .nil
 |cons i l ih=>exact .cons (.int _) ih
theorem tm{X:Cx}(hc:X.calm=true):zd X (.type "tuple") (λvs H Q=>∃p lo hi st,vs=[.ref p]/\H p=some (.ext (rgS p lo hi st))/\qf lo=true/\qf hi=true/\0<st/\st<=1000000/\∀q,H q=none->Q (.ref q) (upd H q (.tup (dW lo st (zr lo hi st))))):=by
 intro pins s σ H xs us Q I r h;obtain⟨p,lo,hi,st,rfl,hp,z1,z2,z3,z4,q⟩:=h;obtain⟨u,rfl,ru⟩:=r.one;cases ru;obtain⟨⟨t,u,v,e⟩,_⟩:=I.hok p _ hp;obtain⟨a1,a2⟩:=zo z1;obtain⟨b1,b2⟩:=zo z2;have hle:=lz (lo:=lo) (hi:=hi) z3 a1 b2;refine lE (I.ok.hd hc) e (lj z3 z4 a1 a2 b1 b2) (iP z3) (by lia) λh' tk acc hk hacc=>?_
 have I1:Inv X pins σ H {s with heap:=h',toks:=tk}:=I.kept hk;refine⟨.ref _,_,I1.laid (t':=tk) (o:=.tup (dW lo st (zr lo hi st))) (λb o e=>Heap.get?_push_of_some _ e) (aD _) ⟨by simp[dW,bw];lia,acc.toList,vw hacc,⟨_,Heap.get?_push_size _ rfl,rfl,0,by simp⟩⟩,rfl,q _ I1.fresh⟩
theorem oI(O:XO w g c E X)(hc:X.calm=true){x y:Str}{bb:Option B1}{d:Expr}{id:EV.E}(hT:glob c x=some (.ty "tuple" bb))(h:glob c y=some .rng)(ha:PE X a (tE w g c E ia))(hb:PE X b (tE w g c E ib))(hd:PE X d (tE w g c E id))(hs:isStar a=false)(hs':isStar b=false)(hs'':isStar d=false) :
  PE X (.Call (.Name x p2) [.Call (.Name y p3) [a,b,d] [] pos3] [] pos) (tE w g c E (.rtup (.rng3 ia ib id))):=by
 obtain⟨h1,h2,_,_⟩:=O.gm hT;obtain⟨r1,rfl⟩:=O.gm h;have hr:=eE (p:=p3) (pos:=pos3) rK (O.gl h) r1 (by decide +kernel) (zi ha (zi hb (zi hd zG (qe hs'')) (qe hs')) (qe hs)) (qm h).2.2.2 (qm h).2.2.1 (qe hs) (eY λz hz=>by simp at hz;rcases hz with rfl|rfl;exact hs';exact hs'');refine PE.imp (eE (tm hc) (O.gl hT) h1 h2 (zi hr zG) (qm hT).2.2.2 (qm hT).2.2.1) λσ H Q ⟨τ,S,se,q⟩=>?_
 simp only[qU,qX,qV,za,qW,zb,qZ,zc,qY,qt,qz,qs,qw,qu,qi,qD,qB,qA,qx,qy,qC,qo,qq,qP,qE,qr,qJ,qM,qN,qO,qI,qL,qK,qp,qH]at q;have q:=tR.bnd q;simp only[evI]at q;refine qS se q λda va H1 e1 p1 k1=>qS (se.up p1.same) k1 λdb vb H2 e2 p2 k2=>qS ((se.up p1.same).up p2.same) k2 λdd vd H3 e3 p3 k3=>?_
 cases da with
 |int i=>
  cases db with
  |int j=>
   cases dd with
   |int l=>
    simp only at k3;cases q:qf i&&qf j&&(decide (0<l)&&qf l)with
    |true=>
     rw[q,if_pos rfl]at k3;simp only[aM,decide_eq_true_eq]at q;have s:=(p1.same.trans p2.same).trans p3.same;refine⟨i,j,l,by rw[p1.rb.int,p2.rb.int,p3.rb.int],⟨q.2.1,(zo q.2.2).2⟩,λp hp=>⟨p,i,j,l,rfl,zk,q.1.1,q.1.2,q.2.1,(zo q.2.2).2,λr hr=>?_⟩⟩;have s1:=zg (o:=.ext (rgS p i j l)) hp;exact k3 _ _ (br.of ((s.trans s1).trans (zg hr)) (fH (se.sub.same (s.trans s1)) hr t6) rfl)
    |false=>rw[q]at k3;exact k3.elim
   |_=>exact k3.elim
  |_=>exact k3.elim
 |_=>exact k3.elim
theorem wU(ha:PE X a (tE w g c E ia))(hs:isStar a=false):PA X [a] (eI (tE w g c E ia) eN):=zi ha zG (qe hs)
theorem rP:∀σ H (Q:List V->Hp->Prop) τ S (P:List D->Prop),SE g c τ σ H S->tR g E H (evI w (.rng ia) τ) P->(∀lo hi vs H',qa H H'->(vs=[.int hi]/\lo=0\/vs=[.int lo,.int hi])->qf lo=true->qf hi=true->P (zy lo (hi-lo).toNat)->Q vs H')->eI (tE w g c E ia) eN σ H Q:=by
 intro σ H Q τ S P se q k;simp only[evI]at q;refine qS se q λda va H1 e1 p1 k1=>?_
 cases da with
 |int j=>
  simp only at k1;cases z:qf j with
  |true=>rw[z,if_pos rfl]at k1;exact k 0 j _ H1 p1.same (.inl ⟨by rw[p1.rb.int],rfl⟩) (by decide) z (by rw[Int.sub_zero];exact k1)
  |false=>rw[z]at k1;exact k1.elim
 |_=>exact k1.elim
theorem vi:∀σ H (Q:List V->Hp->Prop) τ S (P:List D->Prop),SE g c τ σ H S->tR g E H (evI w (.rng2 ia ib) τ) P->(∀lo hi vs H',qa H H'->(vs=[.int hi]/\lo=0\/vs=[.int lo,.int hi])->qf lo=true->qf hi=true->P (zy lo (hi-lo).toNat)->Q vs H')->eI (tE w g c E ia) (eI (tE w g c E ib) eN) σ H Q:=by
 intro σ H Q τ S P se q k;simp only[evI]at q;refine qS se q λda va H1 e1 p1 k1=>qS (se.up p1.same) k1 λdb vb H2 e2 p2 k2=>?_
 cases da with
 |int i=>
  cases db with
  |int j=>
   simp only at k2;cases z:qf i&&qf j with
   |true=>
    rw[z,if_pos rfl]at k2;simp only[aM]at z;exact k i j _ H2 (p1.same.trans p2.same) (.inr (by rw[p1.rb.int,p2.rb.int])) z.1 z.2 k2
   |false=>rw[z]at k2;exact k2.elim
  |_=>exact k2.elim
 |_=>exact k2.elim
end
structure Snd(w:W)(g:Gc)(n:Nat):Prop where
 e:∀{c:Cc}{E:XK}{X:Cx} (O:XO w g c E X) {x:Expr}{ir:EV.E},cE n c x=some ir->PE X x (tE w g c E ir)
 bo:∀{c:Cc}{E:XK}{X:Cx} (O:XO w g c E X) {op:PySem.BoolOp}{vs:List Expr}{pos:Pos}{ir:EV.E},cBo n c op vs=some ir->PE X (.BoolOp op vs pos) (tE w g c E ir)/\esc ir=true
 o:∀{c:Cc}{E:XK}{X:Cx} (O:XO w g c E X) {x:Option Expr}{ir:OE},cO n c x=some ir->PO X x (tOe w g c E ir)
 es:∀{c:Cc}{E:XK}{X:Cx} (O:XO w g c E X) {x:List Expr}{ir:Es},cEs n c x=some ir->PA X x (tA w g c E ir)
 i:∀{c:Cc}{E:XK}{X:Cx} (O:XO w g c E X) {tg x:Expr}{ir:It},cI n c x=some ir->eK ir tg=true->PI X tg x (tIt w g c E ir)
 t:∀{c:Cc}{E:XK}{X:Cx} (O:XO w g c E X) {x:Expr}{ir:T},cT n c x=some ir->PT X x (tT w g c E ir)
 ts:∀{c:Cc}{E:XK}{X:Cx} (O:XO w g c E X) {op:PySem.BoolOp}{vs:List Expr}{pos:Pos}{ir:T},cTs n c op vs=some ir->PW X (.BoolOp op vs pos) (tT w g c E ir)
 ifs:∀{c:Cc}{E:XK}{X:Cx} (O:XO w g c E X) {x:List Expr}{ir:T},ee n c x=some ir->PTs X x (tT w g c E ir)
section
variable{w:W}{g:Gc}{n:Nat}
theorem Snd.ifs_succ(ih:Snd w g n){c:Cc}{E:XK}{X:Cx}(O:XO w g c E X){x:List Expr}{ir:T}(h:ee (n+1) c x=some ir):PTs X x (tT w g c E ir):=by
 match x with
 | []=>
  simp only[ee,bY]at h;subst h;intro pins s σ H Q I ⟨τ,S,se,q⟩;exact rR pins s σ H Q I (q H (qa.refl _))
 | [t]=>simp only[ee]at h;exact nU (ih.t O h)
 |_::_::_=>simp[ee]at h
theorem Snd.bo_succ(ih:Snd w g n){c:Cc}{E:XK}{X:Cx}(O:XO w g c E X){op:PySem.BoolOp}{vs:List Expr}{pos:Pos}{ir:EV.E}(h:cBo (n+1) c op vs=some ir):PE X (.BoolOp op vs pos) (tE w g c E ir)/\esc ir=true:=by
 match vs with
 | []=>simp[cBo]at h
 | [a]=>
  simp only[cBo,aH,aG]at h;obtain⟨ia,h1,h⟩:=h;split at h
  ·rename_i he
   cases h;exact⟨yf (ih.e O h1),he⟩
  ·cases h
 |a::b::r=>
  simp only[cBo,aH,aG]at h;obtain⟨ia,h1,ir',h2,h⟩:=h;obtain⟨r1,r2⟩:=ih.bo O (pos:=pos) h2;cases op with
  |And=>cases h;exact⟨xf (ih.e O h1) r1 r2,rfl⟩
  |Or=>cases h;exact⟨wH (ih.e O h1) r1 r2,rfl⟩
theorem Snd.o_succ(ih:Snd w g n){c:Cc}{E:XK}{X:Cx}(O:XO w g c E X){x:Option Expr}{ir:OE}(h:cO (n+1) c x=some ir):PO X x (tOe w g c E ir):=by
 cases x with
 |none=>simp only[cO,bY]at h;subst h;exact nM
 |some e=>
  simp only[cO,bH]at h;obtain⟨ie,h1,rfl⟩:=h;exact wg (ih.e O h1)
theorem Snd.es_succ(ih:Snd w g n){c:Cc}{E:XK}{X:Cx}(O:XO w g c E X){x:List Expr}{ir:Es}(h:cEs (n+1) c x=some ir):PA X x (tA w g c E ir):=by
 match x with
 | []=>simp only[cEs,bY]at h;subst h;exact xl
 |e::r=>
  have hs:=zS h e aW;simp only[cEs,hs,a_,if_false,aH,aG]at h;obtain⟨ie,h1,ir',h2,h⟩:=h;cases h;exact yz (ih.e O h1) (ih.es O h2) hs
theorem Snd.ts_succ(ih:Snd w g n){c:Cc}{E:XK}{X:Cx}(O:XO w g c E X){op:PySem.BoolOp}{vs:List Expr}{pos:Pos}{ir:T}(h:cTs (n+1) c op vs=some ir):PW X (.BoolOp op vs pos) (tT w g c E ir):=by
 match vs with
 | []=>simp[cTs]at h
 | [a]=>
  simp only[cTs]at h;cases op with
  |And=>exact ur (ih.t O h)
  |Or=>exact yA (ih.t O h)
 |a::b::r=>
  simp only[cTs,aH,aG]at h;obtain⟨ia,h1,ir',h2,h⟩:=h;cases op with
  |And=>cases h;exact oF (ih.t O h1) (ih.ts O h2)
  |Or=>cases h;exact yp (ih.t O h1) (ih.ts O h2)
theorem Snd.t_succ(ih:Snd w g n){c:Cc}{E:XK}{X:Cx}(O:XO w g c E X){x:Expr}{ir:T}(h:cT (n+1) c x=some ir):PT X x (tT w g c E ir):=by
 unfold cT at h;split at h
 ·simp only[bH]at h;obtain⟨ia,h1,rfl⟩:=h;exact sZ (ih.t O h1)
 ·exact(ih.ts O h).pt
 ·cases h
 ·split at h
  ·simp only[aH,aG]at h;obtain⟨ia,h1,ib,h2,h⟩:=h;split at h
   ·rename_i hs;cases h;exact yt O (ih.e O h1) (ih.e O h2) hs
   ·cases h
  ·simp only[aH,aG]at h;obtain⟨ia,h1,ib,h2,id',h3,h⟩:=h;split at h
   ·rename_i hs
    simp only[aM]at hs;cases h;exact we O (ih.e O h1) (ih.e O h2) (ih.e O h3) hs.2
   ·cases h
  ·simp only[aH,aG]at h;obtain⟨ia,h1,ib,h2,id',h3,if',h4,h⟩:=h;split at h
   ·rename_i hs
    simp only[aM]at hs;cases h;exact vk O (ih.e O h1) (ih.e O h2) (ih.e O h3) (ih.e O h4) hs.2
   ·cases h
  ·cases h
 ·rename_i n1 n2 n3 n4
  simp only[bH]at h;obtain⟨ia,h1,rfl⟩:=h;refine wO O (ih.e O h1) λwhole=>?_
  cases x with
  |UnaryOp op a p=>cases op<;>first|rfl|exact(n1 _ _ rfl).elim
  |BoolOp op vs p=>exact(n2 _ _ _ rfl).elim
  |IfExp a b d p=>exact(n3 _ _ _ _ rfl).elim
  |Compare a ops bs p=>exact(n4 _ _ _ _ rfl).elim
  |_=>rfl
theorem Snd.i_succ(ih:Snd w g n){c:Cc}{E:XK}{X:Cx}(O:XO w g c E X){tg x:Expr}{ir:It}(h:cI (n+1) c x=some ir)(ht:eK ir tg=true):PI X tg x (tIt w g c E ir):=by
 have sq:∀{x:Expr}{ir:It},(cE n c x).map It.seq=some ir->PI X tg x (tIt w g c E ir):=λ{x ir} h=>by
  simp only[bH]at h;obtain⟨ia,h1,rfl⟩:=h;exact uF O (ih.e O h1)
 have tup:isTup tg=true->∃es k p,tg=.Tuple es k p:=λh=>by cases tg<;>first|exact⟨_,_,_,rfl⟩|(simp[isTup]at h)
 unfold cI at h;split at h
 ·rename_i f p as q
  split at h
  ·exact sq h
  ·split at h
   ·rename_i hg
    split at h
    ·rename_i a
     split at h
     ·cases h
     ·rename_i hs
      simp only[bH]at h;obtain⟨ia,h1,rfl⟩:=h;exact oO O hg (ih.e O h1) (by simpa using hs)
    ·rename_i a b
     split at h
     ·cases h
     ·rename_i hs
      have hs:isStar a=false/\isStar b=false:=by simpa using hs
      simp only[aH,aG]at h;obtain⟨ia,h1,ib,h2,h⟩:=h;cases h;exact p0 O hg (ih.e O h1) (ih.e O h2) hs.1 hs.2
    ·rename_i a b d
     split at h
     ·cases h
     ·rename_i hs
      have hs:(isStar a=false/\isStar b=false)/\isStar d=false:=by simpa[and_assoc]using hs
      simp only[aH,aG]at h;obtain⟨ia,h1,ib,h2,id,h3,h⟩:=h;cases h;exact wN O hg (ih.e O h1) (ih.e O h2) (ih.e O h3) hs.1.1 hs.1.2 hs.2
    ·cases h
   ·rename_i hg
    split at h
    ·rename_i a
     split at h
     ·cases h
     ·rename_i hs
      simp only[bH]at h;obtain⟨ia,h1,rfl⟩:=h;obtain⟨es,k,p',rfl⟩:=tup ht;exact wa O hg (ih.e O h1) (by simpa using hs)
    ·cases h
   ·rename_i hg
    split at h
    ·rename_i a b
     split at h
     ·cases h
     ·rename_i hs
      have hs:isStar a=false/\isStar b=false:=by simpa using hs
      simp only[aH,aG]at h;obtain⟨ia,h1,ib,h2,h⟩:=h;cases h;obtain⟨es,k,p',rfl⟩:=tup ht;exact nA O hg (ih.e O h1) (ih.e O h2) hs.1 hs.2
    ·cases h
   ·exact sq h
 ·exact sq h
end
end EV
namespace ST
open PySem PySem.SetTable
noncomputable def adv(mask:Nat)(p:Probe):Probe:=
 if p.more>0 then {p with j:=p.j+1,more:=p.more-1}else
 {p with j:=(leap mask p.i p.perturb).1,more:=runEnd mask (leap mask p.i p.perturb).1-(leap mask p.i p.perturb).1,i:=(leap mask p.i p.perturb).1,perturb:=(leap mask p.i p.perturb).2}
theorem kT(t:aP)(p:Probe):t.advance p=adv t.mask p:=rfl
noncomputable def RS(mask:Nat)(x:Nat×Nat):Probe:=⟨x.1,runEnd mask x.1-x.1,x.1,x.2,none⟩
noncomputable def pr(mask:Nat)(h:Int):Nat->Probe
 | 0=>RS mask (bits h%(mask+1),bits h)
 |n+1=>adv mask (pr mask h n)
theorem wG(t:aP)(h:Int):t.probeStart h=pr t.mask h 0:=rfl
noncomputable def it(mask:Nat):Nat->Probe->Probe
 | 0,p=>p
 |d+1,p=>it mask d (adv mask p)
theorem f_(mask:Nat)(h:Int):∀d n,pr mask h (n+d)=it mask d (pr mask h n)
 | 0,n=>rfl
 |d+1,n=>by rw[it,show n+(d+1)=n+1+d by lia,f_ mask h d (n+1)];rfl
theorem i'(mask:Nat):∀d e p,it mask (d+e) p=it mask e (it mask d p)
 | 0,e,p=>by rw[Nat.zero_add];rfl
 |d+1,e,p=>by rw[show d+1+e=d+e+1 by lia,it,it,i' mask d e]
noncomputable def lp(mask:Nat):Nat->Nat×Nat->Nat×Nat
 | 0,x=>x
 |k+1,x=>lp mask k (leap mask x.1 x.2)
theorem e_(mask:Nat):∀d e x,lp mask (d+e) x=lp mask e (lp mask d x)
 | 0,e,x=>by rw[Nat.zero_add];rfl
 |d+1,e,x=>by rw[show d+1+e=d+e+1 by lia,lp,lp,e_ mask d e]
structure Ok(mask:Nat)(p:Probe):Prop where
 more:p.more<=9
 le:p.j+p.more<=mask
 pt:p.perturb<2^64
 dm:p.dummy=none
theorem fv{mask i:Nat}(h:i<=mask):runEnd mask i-i<=9/\i+(runEnd mask i-i)<=mask/\i<=runEnd mask i:=by
 unfold runEnd;split<;>lia
theorem xu{mask:Nat}{x:Nat×Nat}(h:x.1<=mask)(hp:x.2<2^64):Ok mask (RS mask x):=⟨(fv h).1,(fv h).2.1,hp,rfl⟩
theorem eX(mask i p:Nat):(leap mask i p).1<=mask:=Nat.le_of_lt_succ (Nat.mod_lt _ (Nat.succ_pos _))
theorem og{mask:Nat}{p:Probe}(h:Ok mask p):Ok mask (adv mask p):=by
 have a:=h.more;have b:=h.le;have c:=h.pt;have d:=h.dm;unfold adv;split
 ·exact⟨by show p.more-1<=9;lia,by show p.j+1+(p.more-1)<=mask;lia,c,d⟩
 ·have:=fv (eX mask p.i p.perturb);exact⟨this.1,this.2.1,by show p.perturb/32<_;lia,d⟩
theorem fM(mask:Nat)(h:Int):∀n,Ok mask (pr mask h n)
 | 0=>xu (Nat.le_of_lt_succ (Nat.mod_lt _ (Nat.succ_pos _))) (by
   show bits h<2^64;unfold bits;have:=Int.emod_lt_of_pos h (show (0:Int)<2^64 by decide);have:=Int.emod_nonneg h (show (2^64:Int)≠0 by decide);lia)
 |n+1=>og (fM mask h n)
theorem i_(mask:Nat)(h:Int)(n:Nat):(pr mask h n).j<=mask:=by have:=(fM mask h n).le;lia
theorem gR(mask:Nat):∀(r:Nat) (p:Probe),p.more=r->p.dummy=none->it mask (r+1) p=RS mask (leap mask p.i p.perturb)/\∀c,c<=r->(it mask c p).j=p.j+c
 | 0,p,h,hd=>by
  refine⟨?_,λc hc=>by rw[Nat.le_zero.mp hc];rfl⟩;rw[it,it,adv,if_neg (by lia)];obtain⟨j,m,i,q,d⟩:=p;cases hd
  rfl
 |r+1,p,h,hd=>by
  have e:adv mask p={p with j:=p.j+1,more:=p.more-1}:=by rw[adv,if_pos (by lia)]
  have g:=gR mask r (adv mask p) (by rw[e];show p.more-1=r;lia) (by rw[e];exact hd);refine⟨?_,λc hc=>?_⟩
  ·rw[it,g.1,e]
  ·cases c with
   |zero=>rfl
   |succ c=>rw[it,g.2 c (by lia),e];show p.j+1+c=_;lia
theorem kN(mask:Nat):∀(k:Nat) (x:Nat×Nat),x.1<=mask->∃d,d<=10 * k/\it mask d (RS mask x)=RS mask (lp mask k x)
 | 0,x,_=>⟨0,by lia,rfl⟩
 |k+1,x,hx=>by
  obtain⟨d,h1,h2⟩:=kN mask k (leap mask x.1 x.2) (eX ..);have r:=(gR mask _ (RS mask x) rfl rfl).1;have:=(fv hx).1;refine⟨(RS mask x).more+1+d,by show runEnd mask x.1-x.1+1+d<=_;lia,?_⟩;rw[i',r];exact h2
theorem lB(mask:Nat):∀(k:Nat) (x:Nat×Nat),(lp mask k x).2=x.2/32^k
 | 0,x=>by simp[lp]
 |k+1,x=>by rw[lp,lB mask k];show x.2/32/32^k=_;rw[Nat.div_div_eq_div_mul,Nat.pow_succ,Nat.mul_comm]
theorem lT(mask:Nat):∀(k:Nat) (x:Nat×Nat),x.1<=mask->(lp mask k x).1<=mask
 | 0,_,h=>h
 |k+1,_,_=>lT mask k _ (eX ..)
noncomputable def om(mask:Nat):Nat->Nat->Nat
 | 0,_=>0
 |n+1,i=>2^i |||om mask n ((i * 5+1)%(mask+1))
theorem mf(mask:Nat){j:Nat}:∀(n i:Nat),(om mask n i).testBit j=true->∃k,k<n/\lp mask k (i,0)=(j,0)
 | 0,i,h=>by simp[om]at h
 |n+1,i,h=>by
  rw[om,Nat.testBit_or,Nat.testBit_two_pow,b9,decide_eq_true_eq]at h;rcases h with rfl|h
  ·exact⟨0,by lia,rfl⟩
  ·obtain⟨k,h1,h2⟩:=mf mask n _ h;refine⟨k+1,by lia,?_⟩;rw[lp,<-h2];show lp mask k ((i * 5+1+0/32)%(mask+1),0/32)=_;rw[Nat.zero_div,Nat.add_zero]
noncomputable def Mk(mask:Nat):Prop:=mask=7\/mask=31\/mask=127\/mask=511\/mask=2047
theorem wM{mask:Nat}(h:Mk mask):om mask (mask+1) 0=2^(mask+1)-1/\lp mask (mask+1) (0,0)=(0,0):=by
 rcases h with rfl|rfl|rfl|rfl|rfl
 ·exact⟨by decide +kernel,by decide +kernel⟩
 ·exact⟨by decide +kernel,by decide +kernel⟩
 ·exact⟨by decide +kernel,by decide +kernel⟩
 ·exact⟨by decide +kernel,by decide +kernel⟩
 ·exact⟨by decide +kernel,by decide +kernel⟩
theorem jJ{mask:Nat}(hM:Mk mask){x:Nat×Nat}(hp:x.2<2^64)(hx:x.1<=mask){j:Nat}(hj:j<=mask):∃k,k<=mask+13/\(lp mask k x).1=j:=by
 obtain⟨o1,o2⟩:=wM hM;have at0:∀i,i<=mask->∃k,k<mask+1/\lp mask k (0,0)=(i,0):=λi hi=>mf mask _ _ (by
  rw[o1,Nat.testBit_two_pow_sub_one,decide_eq_true_eq];lia)
 have c:lp mask 13 x=((lp mask 13 x).1,0):=by
  refine Prod.ext rfl ?_;rw[lB];exact Nat.div_eq_of_lt (bB hp (by decide))
 obtain⟨a,a1,a2⟩:=at0 (lp mask 13 x).1 (lT mask 13 x hx);obtain⟨b,b1,b2⟩:=at0 j hj;rw[<-c]at a2;by_cases q:a<=b
 ·refine⟨13+(b-a),by lia,?_⟩;rw[e_,<-a2,<-e_,show a+(b-a)=b by lia,b2]
 ·refine⟨13+(mask+1-a+b),by lia,?_⟩;rw[e_,<-a2,<-e_,show a+(mask+1-a+b)=mask+1+b by lia,e_,o2,b2]
theorem cover{mask:Nat}(hM:Mk mask)(h:Int)(n:Nat){j:Nat}(hj:j<=mask):∃m,n<=m/\m<n+10 * turns mask/\(pr mask h m).j=j:=by
 have o:=fM mask h n;obtain⟨k,h1,h2⟩:=jJ hM (x:=leap mask (pr mask h n).i (pr mask h n).perturb) (by have:=o.pt;show _/32<_;lia) (eX ..) hj;obtain⟨d,h3,h4⟩:=kN mask k (leap mask (pr mask h n).i (pr mask h n).perturb) (eX ..);have r:=(gR mask _ (pr mask h n) rfl o.dm).1;have:=o.more;refine⟨n+((pr mask h n).more+1+d),by lia,by unfold turns;lia,?_⟩;rw[f_,i',r,h4];exact h2
noncomputable def Ri(xs:Array Nat):Prop:=∀i k x y:Nat,i<k->xs[i]? = some x->xs[k]? = some y->x<y
theorem Ri.of{xs:Array Nat}(h:xs.toList.Pairwise (· < ·)):Ri xs:=by
 intro i k x y hik hx hy;rw[List.pairwise_iff_getElem]at h;obtain⟨a,rfl⟩:=Array.getElem?_eq_some_iff.mp hx;obtain⟨b,rfl⟩:=Array.getElem?_eq_some_iff.mp hy;exact h i k a b hik
theorem hU{xs:Array Nat}(hr:Ri xs)(j:Nat):∀(fuel lo hi:Nat),hi-lo<=fuel->lo<=hi->hi<=xs.size->(∀i x,i<lo->xs[i]? = some x->x<j)->(∀i x,hi<=i->xs[i]? = some x->j<=x) ->
  below.go xs j fuel lo hi<=xs.size/\(∀i x,xs[i]? = some x->(i<below.go xs j fuel lo hi↔x<j))
 | 0,lo,hi,h1,h2,h3,h4,h5=>by
  rw[below.go];refine⟨by lia,λi x e=>⟨λh=>h4 i x h e,λh=>?_⟩⟩;refine Nat.lt_of_not_le λg=>?_
  have:=h5 i x (by lia) e;lia
 |fuel+1,lo,hi,h1,h2,h3,h4,h5=>by
  rw[below.go];split
  ·rename_i hl
   have hm:(lo+hi)/2<xs.size:=by lia
   have e:xs[(lo+hi)/2]? = some xs[(lo+hi)/2]:=Array.getElem?_eq_getElem hm;have g:xs.getD ((lo+hi)/2) j=xs[(lo+hi)/2]:=by rw[Array.getD_eq_getD_getElem?,e];rfl
   dsimp only;rw[g];split
   ·rename_i hq
    refine hU hr j fuel _ hi (by lia) (by lia) h3 (λi x hi' e'=>?_) h5;rcases Nat.lt_trichotomy i ((lo+hi)/2)with q|q|q
    ·exact Nat.lt_trans (hr i _ x _ q e' e) hq
    ·subst q;rw[e]at e';cases e';exact hq
    ·lia
   ·rename_i hq
    refine hU hr j fuel lo _ (by lia) (by lia) (by lia) h4 λi x hi' e'=>?_
    rcases Nat.lt_trichotomy i ((lo+hi)/2)with q|q|q
    ·lia
    ·subst q;rw[e]at e';cases e';lia
    ·have:=hr _ i _ x q e e';lia
  ·refine⟨by lia,λi x e=>⟨λh=>h4 i x h e,λh=>?_⟩⟩;refine Nat.lt_of_not_le λg=>?_
   have:=h5 i x (by lia) e;lia
theorem gF{xs:Array Nat}(hr:Ri xs)(j:Nat):below xs j<=xs.size/\(∀i x,xs[i]? = some x->(i<below xs j↔x<j)):=
 hU hr j xs.size 0 xs.size (by lia) (by lia) (aD _) (λ_ _ h=>absurd h (Nat.not_lt_zero _)) λi x h e=>by
  have:=(Array.getElem?_eq_some_iff.mp e).1;lia
theorem below_at{xs:Array Nat}(hr:Ri xs){i j:Nat}(h:xs[i]? = some j):below xs j=i:=by
 obtain⟨a,b⟩:=gF hr j;have c:=(b i j h)
 rcases Nat.lt_trichotomy (below xs j) i with q|q|q
 ·have hs:i<xs.size:=(Array.getElem?_eq_some_iff.mp h).1;have e:xs[below xs j]? = some xs[below xs j]:=Array.getElem?_eq_getElem (by lia);have:=(b _ _ e).mpr (hr _ _ _ _ q e h);lia
 ·exact q
 ·have:=c.mp q;lia
theorem xJ{t:aP}(hr:Ri t.place){i j:Nat}(h:t.place[i]? = some j):t.slot j=.live i:=by
 unfold slot;dsimp only;rw[below_at hr h,h];simp
theorem kM(j:Nat):has #[] j=false:=by simp[has]
theorem rW{t:aP}(hd:t.dummies = #[]){j:Nat}(h:∀i:Nat,t.place[i]?≠some j):t.slot j=.empty:=by
 unfold slot;dsimp only;rw[if_neg (by simpa using h _),hd,kM];simp
noncomputable def Reach(mask:Nat)(P:Nat->Prop)(h:Int)(j:Nat):Prop:=∃n,(pr mask h n).j=j/\∀m,m<n->P (pr mask h m).j
theorem Reach.mono{mask:Nat}{P Q:Nat->Prop}{h:Int}{j:Nat}(r:Reach mask P h j)(s:∀j,P j->Q j):Reach mask Q h j:=
 let ⟨n,a,b⟩:=r;⟨n,a,λm hm=>s _ (b m hm)⟩
structure Good(t:aP)(hs:List Int):Prop where
 ma:Mk t.mask
 dum:t.dummies = #[]
 len:t.place.size=hs.length
 ri:t.place.toList.Pairwise (· < ·)
 le:∀j∈t.place.toList,j<=t.mask
 re:∀jh∈t.place.toList.zip hs,Reach t.mask (·∈t.place.toList) jh.2 jh.1
theorem long:∀(n:Nat) (l:List Nat),(∀j,j<n->j∈l)->n<=l.length
 | 0,_,_=>bp _
 |n+1,l,h=>by
  have a:=long n (l.erase n) λj hj=>(List.mem_erase_of_ne (by lia)).mpr (h j (by lia))
  have b:=List.length_erase_of_mem (h n (by lia));have c:=List.length_pos_of_mem (h n (by lia));lia
section
variable{t:aP}{hs:List Int}(G:Good t hs)
include G
theorem Good.free(hf:hs.length<=t.mask)(h:Int)(n:Nat):∃m,n<=m/\m<n+10 * turns t.mask/\(pr t.mask h m).j∉t.place.toList:=by
 have:∃j,j<=t.mask/\j∉t.place.toList:=Classical.byContradiction λg=>by
  have:=long (t.mask+1) t.place.toList λj hj=>Classical.byContradiction λq=>g ⟨j,by lia,q⟩
  rw[aV,G.len]at this;lia
 obtain⟨j,h1,h2⟩:=this;obtain⟨m,a,b,c⟩:=cover G.ma h n h1;exact⟨m,a,b,by rw[c];exact h2⟩
theorem Good.go(hashAt:Nat->Int)(h:Int):∀(fuel n:Nat),(∃m,n<=m/\m<n+fuel/\(pr t.mask h m).j∉t.place.toList) ->
  ∃m,n<=m/\(∀k,n<=k->k<m->∃i,t.place[i]? = some (pr t.mask h k).j/\hashAt i≠h) /\
   (((pr t.mask h m).j∉t.place.toList/\probe.go t hashAt h fuel (pr t.mask h n)=some (.empty (pr t.mask h m).j none)) \/
    ∃i,t.place[i]? = some (pr t.mask h m).j/\hashAt i=h/\probe.go t hashAt h fuel (pr t.mask h n)=some (.candidate (pr t.mask h m).j i (pr t.mask h (m+1))))
 | 0,n,⟨m,a,b,_⟩=>by lia
 |fuel+1,n,⟨m,a,b,c⟩=>by
  have hr:=Ri.of G.ri;by_cases hin:(pr t.mask h n).j∈t.place.toList
  ·obtain⟨i,hi⟩:=List.mem_iff_getElem?.mp hin;rw[Array.getElem?_toList]at hi;rw[probe.go,xJ hr hi];dsimp only;by_cases hq:hashAt i=h
   ·refine⟨n,aD _,λk h1 h2=>by lia,.inr ⟨i,hi,hq,?_⟩⟩;rw[if_pos (beq_iff_eq.mpr hq),kT];rfl
   ·rw[if_neg (by simpa using hq),kT];have hne:m≠n:=λe=>c (e▸hin)
    obtain⟨m',a',b',c'⟩:=Good.go hashAt h fuel (n+1) ⟨m,by lia,by lia,c⟩;refine⟨m',by lia,λk h1 h2=>?_,c'⟩;rcases Nat.eq_or_lt_of_le h1 with rfl|h1
    ·exact⟨i,hi,hq⟩
    ·exact b' k h1 h2
  ·refine⟨n,aD _,λk h1 h2=>by lia,.inl ⟨hin,?_⟩⟩;rw[probe.go,rW G.dum λi e=>hin (by rw[<-Array.getElem?_toList]at e;exact List.mem_of_getElem? e)];dsimp only;rw[(fM t.mask h n).dm]
theorem Good.fits(hf:hs.length<=t.mask):t.fits hs.length=true:=by
 unfold aP.fits aP.fill;rw[G.dum,G.len]
 simpa using hf
theorem Good.put{h:Int}{j:Nat}(hj:j∉t.place.toList)(hR:Reach t.mask (·∈t.place.toList) h j) :
  t.put j=({t with place:=insertAt t.place (below t.place j) j},below t.place j)/\below t.place j<=hs.length /\
   Good {t with place:=insertAt t.place (below t.place j) j} (hs.take (below t.place j)++h::hs.drop (below t.place j)):=by
 have hr:=Ri.of G.ri;obtain⟨b1,b2⟩:=gF hr j;have hb:below t.place j<=hs.length:=by rw[<-G.len];exact b1
 refine⟨by unfold aP.put;dsimp only;rw[G.dum,kM];simp,hb,?_⟩;have ins:(insertAt t.place (below t.place j) j).toList=t.place.toList.take (below t.place j)++j::t.place.toList.drop (below t.place j):=aP.toList_insertAt ..;have mem:∀{x},x∈(insertAt t.place (below t.place j) j).toList↔x=j\/x∈t.place.toList:=by
  intro x;rw[ins,List.mem_append,aJ];constructor
  ·rintro(h|h|h)
   ·exact .inr (List.mem_of_mem_take h)
   ·exact .inl h
   ·exact .inr (List.mem_of_mem_drop h)
  ·rintro(h|h)
   ·exact .inr (.inl h)
   ·rw[<-bA (below t.place j) t.place.toList,List.mem_append]at h;rcases h with h|h
    ·exact .inl h
    ·exact .inr (.inr h)
 have jle:j<=t.mask:=by obtain⟨n,e,_⟩:=hR;rw[<-e];exact i_ ..
 refine⟨G.ma,G.dum,?_,?_,?_,?_⟩
 ·show (insertAt t.place (below t.place j) j).size=_;rw[<-aV,ins];simp only[cC,bO,bZ,List.length_drop,aV,G.len]
 ·show (insertAt t.place (below t.place j) j).toList.Pairwise (· < ·);rw[ins];have pw:=G.ri;rw[<-bA (below t.place j) t.place.toList,List.pairwise_append]at pw;have lo:∀x∈t.place.toList.take (below t.place j),x<j:=by
   intro x hx;obtain⟨i,hi⟩:=List.mem_iff_getElem?.mp hx;have il:i<below t.place j:=Nat.lt_of_not_le λq=>by rw[List.getElem?_take,if_neg (by lia)]at hi;cases hi
   rw[List.getElem?_take_of_lt il,Array.getElem?_toList]at hi;exact(b2 i x hi).mp il
  have hi:∀x∈t.place.toList.drop (below t.place j),j<x:=by
   intro x hx;obtain⟨i,hi⟩:=List.mem_iff_getElem?.mp hx;rw[List.getElem?_drop,Array.getElem?_toList]at hi;have:=(b2 _ x hi)
   have ne:x≠j:=λe=>hj (by rw[<-e,<-Array.getElem?_toList]at *;exact List.mem_of_getElem? hi)
   lia
  refine List.pairwise_append.mpr ⟨pw.1,List.pairwise_cons.mpr ⟨hi,pw.2.1⟩,λa ha b hb=>?_⟩;rcases aJ.mp hb with rfl|hb
  ·exact lo a ha
  ·exact Nat.lt_trans (lo a ha) (hi b hb)
 ·intro x hx;rcases mem.mp hx with rfl|hx
  ·exact jle
  ·exact G.le x hx
 ·rintro⟨x,g⟩ hx;have up:∀y,y∈t.place.toList->y∈(insertAt t.place (below t.place j) j).toList:=λy hy=>mem.mpr (.inr hy)
  change (x,g)∈(insertAt t.place (below t.place j) j).toList.zip _ at hx;rw[ins,List.zip_append (by simp only[bZ,aV,G.len]),List.zip_cons_cons,List.mem_append,aJ]at hx;have old:(x,g)∈t.place.toList.zip hs->Reach t.mask (·∈(insertAt t.place (below t.place j) j).toList) g x:=λq=>(G.re _ q).mono up
  have hz:t.place.toList.zip hs=(t.place.toList.take (below t.place j)).zip (hs.take (below t.place j))++(t.place.toList.drop (below t.place j)).zip (hs.drop (below t.place j)):=by
   rw[<-List.zip_append (by simp only[bZ,aV,G.len]),bA,bA]
  rcases hx with hx|hx|hx
  ·exact old (by rw[hz];exact List.mem_append_left _ hx)
  ·cases hx;exact hR.mono up
  ·exact old (by rw[hz];exact bU _ hx)
end
theorem lg{α β:Type}{f:α->Option β}:∀{l:List α},(∀x∈l,(f x).isSome=true)->∀i:Nat,(l.filterMap f)[i]? = (l[i]?).bind f
 | [],_,i=>by simp
 |a::l,h,i=>by
  obtain⟨b,hb⟩:=Option.isSome_iff_exists.mp (h a aW);rw[List.filterMap_cons_some hb];cases i with
  |zero=>simp[hb]
  |succ i=>rw[List.getElem?_cons_succ,List.getElem?_cons_succ];exact lg (λx hx=>h x (aS _ hx)) i
noncomputable def Fa(ow:Array (Option Nat))(j:Nat):Prop:=(ow.getD j (some 0)).isNone=true
theorem iw{ow:Array (Option Nat)}{j:Nat}:Fa ow j↔ow[j]? = some none:=by
 unfold Fa;rw[Array.getD_eq_getD_getElem?];cases h:ow[j]? with
 |none=>simp
 |some x=>cases x<;>simp
theorem lO{mask:Nat}{h:Int}{ow:Array (Option Nat)}:∀(k fuel n:Nat) (x:Nat×Nat),k<fuel->x.1<=mask->pr mask h n=RS mask x->Fa ow (lp mask k x).1 ->
  ∃m,n<=m/\layClean.free mask ow fuel x.1 x.2=some (pr mask h m).j/\Fa ow (pr mask h m).j/\∀l,n<=l->l<m->¬ Fa ow (pr mask h l).j
 |_,0,_,_,hk,_,_,_=>by lia
 |k,fuel+1,n,x,hk,hx,hn,hf=>by
  have run:=gR mask (runEnd mask x.1-x.1) (RS mask x) rfl rfl;have rl:=fv hx;have at_:∀c,c<=runEnd mask x.1-x.1->(pr mask h (n+c)).j=x.1+c:=λc hc=>by rw[f_,hn];exact run.2 c hc
  have nxt:pr mask h (n+(runEnd mask x.1-x.1+1))=RS mask (leap mask x.1 x.2):=by rw[f_,hn];exact run.1
  rw[layClean.free];cases q:(a7 (runEnd mask x.1+1-x.1)).find? λk=>(ow.getD (x.1+k) (some 0)).isNone with
  |some c=>
   obtain⟨h1,h2,h3⟩:=List.find?_range_eq_some.mp q;have hc:c<=runEnd mask x.1-x.1:=by have:=List.mem_range.mp h2;lia
   refine⟨n+c,by lia,by rw[at_ c hc],by rw[at_ c hc];exact h1,λl a b=>?_⟩;have:=h3 (l-n) (by lia);rw[show l=n+(l-n)by lia,at_ (l-n) (by lia)];exact λg=>by rw[show (ow.getD (x.1+(l-n)) (some 0)).isNone=true from g]at this;cases this
  |none=>
   have h3:=List.find?_range_eq_none.mp q;have no:∀c,c<=runEnd mask x.1-x.1->¬ Fa ow (x.1+c):=λc hc=>by
    have:=h3 c (by lia);exact λg=>by rw[show (ow.getD (x.1+c) (some 0)).isNone=true from g]at this;cases this
   dsimp only;cases k with
   |zero=>exact absurd hf (no 0 (by lia))
   |succ k=>
    obtain⟨m,a,b,c,d⟩:=lO k fuel _ (leap mask x.1 x.2) (by lia) (eX ..) nxt hf;refine⟨m,by lia,b,c,λl l1 l2=>?_⟩;by_cases e:l<n+(runEnd mask x.1-x.1+1)
    ·rw[show l=n+(l-n)by lia,at_ (l-n) (by lia)];exact no _ (by lia)
    ·exact d l (by lia) l2
structure Lay(mask:Nat)(hs:List Int)(ow:Array (Option Nat))(k:Nat):Prop where
 sz:ow.size=mask+1
 lo:∀(j i:Nat),ow[j]? = some (some i)->i<k
 one:∀(j j' i:Nat),ow[j]? = some (some i)->ow[j']? = some (some i)->j=j'
 all:∀i h,i<k->hs[i]? = some h->∃j:Nat,ow[j]? = some (some i)/\Reach mask (λj=>∃i,ow[j]? = some (some i)) h j
theorem vK{mask:Nat}(hM:Mk mask){hs:List Int}{ow:Array (Option Nat)}{k:Nat}(L:Lay mask hs ow k)(hk:k<=mask):∃j,j<=mask/\Fa ow j:=by
 refine Classical.byContradiction λg=>?_
 have:∀j,j<mask+1->∃i,ow[j]? = some (some i):=λj hj=>by
  cases q:ow[j]? with
  |none=>have:=Array.getElem?_eq_none_iff.mp q;have:=L.sz;lia
  |some x=>
   cases x with
   |none=>exact absurd ⟨j,by lia,iw.mpr q⟩ g
   |some i=>exact⟨i,rfl⟩
 -- more places than things
 have len:=long k ((a7 k)) λj hj=>List.mem_range.mpr hj
 have inj:∀n,n<=mask+1->∃l:List Nat,l.Nodup/\l.length=n/\∀i∈l,∃j,j<n/\ow[j]? = some (some i):=by
  intro n
  induction n with
  |zero=>exact λ_=>⟨[],List.nodup_nil,rfl,by simp⟩
  |succ n ih=>
   intro hn;obtain⟨l,a,b,c⟩:=ih (by lia);obtain⟨i,hi⟩:=this n (by lia);refine⟨i::l,List.nodup_cons.mpr ⟨λhm=>?_,a⟩,by simp[b],λx hx=>?_⟩
   ·obtain⟨j,h1,h2⟩:=c i hm;have:=L.one _ _ _ hi h2;lia
   ·rcases aJ.mp hx with rfl|hx
    ·exact⟨n,by lia,hi⟩
    ·obtain⟨j,h1,h2⟩:=c x hx;exact⟨j,by lia,h2⟩
 obtain⟨l,a,b,c⟩:=inj (mask+1) (aD _);have sub:∀i∈l,i<k:=λi hi=>by obtain⟨j,_,h2⟩:=c i hi;exact L.lo _ _ h2
 have:l.length<=(a7 k).length:=by
  have:∀(l r:List Nat),l.Nodup->(∀i∈l,i∈r)->l.length<=r.length:=by
   intro l
   induction l with
   |nil=>intro r _ _;exact bp _
   |cons a l ih=>
    intro r hn hs;rw[List.nodup_cons]at hn;have:=ih (r.erase a) hn.2 λi hi=>(List.mem_erase_of_ne (a:=i) (b:=a) (λe=>hn.1 (by rw[<-e];exact hi))).mpr (hs i (aS _ hi))
    have b:=List.length_erase_of_mem (hs a aW);have c:=List.length_pos_of_mem (hs a aW);simp only[bO];lia
  exact this _ _ a λi hi=>List.mem_range.mpr (sub i hi)
 rw[List.length_range]at this;lia
theorem pY{mask:Nat}(hM:Mk mask){hs:List Int}{ow:Array (Option Nat)}{k:Nat}(L:Lay mask hs ow k)(hk:k<=mask){h:Int}(hh:hs[k]? = some h) :
  ∃j,layClean.free mask ow (turns mask) (bits h%(mask+1)) (bits h)=some j/\Lay mask hs (ow.setIfInBounds j (some k)) (k+1):=by
 obtain⟨j0,h1,h2⟩:=vK hM L hk;have o:=fM mask h 0;have hx:bits h%(mask+1)<=mask:=Nat.le_of_lt_succ (Nat.mod_lt _ (Nat.succ_pos _));obtain⟨c,h3,h4⟩:=jJ hM (x:=(bits h%(mask+1),bits h)) o.pt hx h1;obtain⟨m,_,a,b,d⟩:=lO (h:=h) (ow:=ow) c (turns mask) 0 (bits h%(mask+1),bits h) (by unfold turns;lia) hx rfl (by rw[h4];exact h2);have jl:(pr mask h m).j<=mask:=i_ ..;have hf:=iw.mp b;have old:∀{x i:Nat},ow[x]? = some (some i)->(ow.setIfInBounds (pr mask h m).j (some k))[x]? = some (some i):=λ{x i} e=>by
  rw[Array.getElem?_setIfInBounds,if_neg];· exact e
  ·intro q;rw[q,e]at hf;cases hf
 have new:(ow.setIfInBounds (pr mask h m).j (some k))[(pr mask h m).j]? = some (some k):=by
  rw[Array.getElem?_setIfInBounds,if_pos rfl,if_pos (by rw[L.sz];lia)]
 have inv:∀{x i:Nat},(ow.setIfInBounds (pr mask h m).j (some k))[x]? = some (some i)->(x=(pr mask h m).j/\i=k)\/ow[x]? = some (some i):=λ{x i} e=>by
  rw[Array.getElem?_setIfInBounds]at e;split at e
  ·rename_i q
   rw[if_pos (by rw[L.sz];lia)]at e;cases e;exact .inl ⟨q.symm,rfl⟩
  ·exact .inr e
 refine⟨_,a,⟨by rw[Array.size_setIfInBounds];exact L.sz,λx i e=>?_,λx y i e e'=>?_,λi g hi hg=>?_⟩⟩
 ·rcases inv e with ⟨_,rfl⟩|e
  ·lia
  ·have:=L.lo _ _ e;lia
 ·rcases inv e with ⟨e1,e0⟩|e1<;>rcases inv e' with ⟨e2,e3⟩|e2
  ·rw[e1,e2]
  ·have:=L.lo _ _ e2;lia
  ·have:=L.lo _ _ e1;lia
  ·exact L.one _ _ _ e1 e2
 ·by_cases hik:i=k
  ·subst hik;rw[hh]at hg;cases hg;refine⟨_,new,m,rfl,λl hl=>?_⟩;have nf:=d l (bp _) hl;cases q:ow[(pr mask h l).j]? with
   |none=>have:=Array.getElem?_eq_none_iff.mp q;have:=L.sz;have:=i_ mask h l;lia
   |some y=>
    cases y with
    |none=>exact absurd (iw.mpr q) nf
    |some i=>exact⟨i,old q⟩
  ·obtain⟨j,e,r⟩:=L.all i g (by lia) hg;exact⟨j,old e,r.mono λj ⟨i,e⟩=>⟨i,old e⟩⟩
noncomputable def iM(mask:Nat):Option (Array (Option Nat)×Nat)->Int->Option (Array (Option Nat)×Nat):=λacc h=>do
  let (owner,k) <-acc
  let j <-layClean.free mask owner (turns mask) (bits h%(mask+1)) (bits h)
  pure (owner.setIfInBounds j (some k),k+1)
theorem jX{mask:Nat}(hM:Mk mask):∀(ls dn:List Int) (ow:Array (Option Nat)),(dn++ls).length<=mask+1->Lay mask (dn++ls) ow dn.length ->
  ∃ow',ls.foldl (iM mask) (some (ow,dn.length))=some (ow',(dn++ls).length)/\Lay mask (dn++ls) ow' (dn++ls).length
 | [],dn,ow,hl,L=>⟨ow,by simp,by simpa using L⟩
 |h::ls,dn,ow,hl,L=>by
  have hl':=hl;simp only[cC,bO]at hl';obtain⟨j,e,L'⟩:=pY hM L (by lia) (h:=h) (by simp);have e1:dn++h::ls=dn++[h]++ls:=by simp
  have:=jX hM ls (dn++[h]) (ow.setIfInBounds j (some dn.length)) (by rw[<-e1];exact hl) (by rw[<-e1];simpa using L');obtain⟨ow',a,b⟩:=this;refine⟨ow',?_,by rw[e1];exact b⟩;rw[List.foldl_cons,e1,<-a]
  congr 1
  simp only[iM,e,aH,Option.bind_some];simp
theorem sj{mask:Nat}(hM:Mk mask)(hs:List Int)(hl:hs.length<=mask+1):∃ow,layClean mask hs.toArray=some ow/\Lay mask hs ow hs.length:=by
 have L0:Lay mask ([]++hs) (Array.replicate (mask+1) none) ([]:List Int).length:=by
  have no:∀(x i:Nat),(Array.replicate (mask+1) (none:Option Nat))[x]?≠some (some i):=λx i e=>by
   rw[Array.getElem?_replicate]at e;split at e<;>cases e
  exact⟨by simp,λj i e=>absurd e (no j i),λj _ i e=>absurd e (no j i),λi g hi=>by simp at hi⟩
 obtain⟨ow,a,b⟩:=jX hM hs [] _ (by simpa using hl) L0;refine⟨ow,?_,by simpa using b⟩;show (Array.foldl (iM mask) (some (Array.replicate (mask+1) none,0)) hs.toArray).map (·.1)=some ow;rw[<-Array.foldl_toList];rw[show hs.toArray.toList=hs from rfl];rw[show (some (Array.replicate (mask+1) (none:Option Nat),0))=some (Array.replicate (mask+1) none,([]:List Int).length)from rfl,a]
 rfl
theorem ig(ow:Array (Option Nat)):∀l:List Nat,(l.filterMap λj=>(ow.getD j none).map (j,·)).map (·.1)=l.filter λj=>(ow.getD j none).isSome
 | []=>rfl
 |j::l=>by
  cases q:ow.getD j none with
  |none=>rw[List.filterMap_cons_none (by rw[q];rfl),List.filter_cons_of_neg (by rw[q];simp)];exact ig ow l
  |some i=>rw[List.filterMap_cons_some (by rw[q];rfl),List.filter_cons_of_pos (by rw[q];simp),bF,ig ow l]
theorem x_{ow:Array (Option Nat)}{mask:Nat}(hz:ow.size=mask+1){j i:Nat}:(j,i)∈((a7 (mask+1)).filterMap λj=>(ow.getD j none).map (j,·))↔ow[j]? = some (some i):=by
 rw[List.mem_filterMap];constructor
 ·rintro⟨x,_,e⟩;rw[bH]at e;obtain⟨y,e1,e2⟩:=e;cases e2;rw[Array.getD_eq_getD_getElem?]at e1;cases q:ow[j]? with
  |none=>rw[q]at e1;cases e1
  |some z=>rw[q]at e1;rw[show z=some i from e1]
 ·intro e;have:=(Array.getElem?_eq_some_iff.mp e).1;exact⟨j,List.mem_range.mpr (by lia),by rw[Array.getD_eq_getD_getElem?,e];rfl⟩
theorem relaid{mask:Nat}(hM:Mk mask)(hs:List Int)(hl:hs.length<=mask+1)(fi mo:Nat)(le pl:Bool) :
  ∃t' order,laid mask fi mo le pl hs.toArray=some (t',order)/\order.toList.Perm (a7 hs.length)/\Good t' (order.toList.filterMap (hs[·]?))/\t'.mask=mask/\t'.led=le/\t'.plain=pl/\t'.moves=mo:=by
 obtain⟨ow,a,L⟩:=sj hM hs hl;generalize hv:((a7 (mask+1)).filterMap λj=>(ow.getD j none).map (j,·))=live;have mem:∀{j i:Nat},(j,i)∈live↔ow[j]? = some (some i):=λ{j i}=>by rw[<-hv];exact x_ L.sz
 have fst:live.map (·.1)=(a7 (mask+1)).filter λj=>(ow.getD j none).isSome:=by rw[<-hv];exact ig ow _
 have ri:(live.map (·.1)).Pairwise (· < ·):=by rw[fst];exact List.pairwise_lt_range.filter _
 have nd:(live.map (·.2)).Nodup:=by
  have:live.Pairwise λx y=>x.1<y.1:=List.pairwise_map.mp ri
  unfold List.Nodup;rw[List.pairwise_map];refine(List.Pairwise.and_mem.mp this).imp λ{x y} ⟨hx,hy,hlt⟩ e=>?_
  have e1:=mem.mp (show (x.1,x.2)∈live from hx);have e2:=mem.mp (show (y.1,y.2)∈live from hy);rw[<-e]at e2;have:=L.one _ _ _ e1 e2;lia
 have pm:(live.map (·.2)).Perm (a7 hs.length):=by
  refine(List.perm_ext_iff_of_nodup nd List.nodup_range).mpr λi=>?_
  rw[bh,List.mem_range];constructor
  ·rintro⟨⟨j,x⟩,h1,rfl⟩;exact L.lo _ _ (mem.mp h1)
  ·intro hi;obtain⟨j,e,_⟩:=L.all i (hs[i]) hi (List.getElem?_eq_getElem hi);exact⟨(j,i),mem.mpr e,rfl⟩
 refine⟨{mask,place:=(live.map (·.1)).toArray,dummies:=#[],finger:=fi,led:=le,moves:=mo,plain:=pl},(live.map (·.2)).toArray,?_,?_⟩
 ·unfold laid;rw[a];simp only[aH,Option.bind_some];rw[hv];rfl
 ·refine⟨pm,?_,rfl,rfl,rfl,rfl⟩;have okk:∀x∈live.map (·.2),(hs[x]?).isSome=true:=λx hx=>by
   have:=List.mem_range.mp (pm.mem_iff.mp hx);rw[List.getElem?_eq_getElem this];rfl
  have ln:((live.map (·.2)).filterMap (hs[·]?)).length=live.length:=by
   have:((live.map (·.2)).filterMap (hs[·]?)).Perm hs:=by
    refine(pm.filterMap _).trans ?_;rw[List.filterMap_getElem?_range_length]
   have p2:=pm.length_eq;rw[this.length_eq];simp at p2;lia
  refine⟨hM,rfl,?_,ri,λj hj=>?_,?_⟩
  ·show (live.map (·.1)).toArray.size=((live.map (·.2)).filterMap (hs[·]?)).length;rw[ln];simp
  ·rw[show (live.map (·.1)).toArray.toList=live.map (·.1)from rfl,fst,cn,List.mem_range]at hj;exact Nat.le_of_lt_succ hj.1
  ·rintro⟨j,g⟩ hx;obtain⟨i,hi⟩:=List.mem_iff_getElem?.mp hx;have hz:=List.getElem?_zip_eq_some.mp hi;have h1:=hz.1;have h2:=hz.2;rw[show (live.map (·.1)).toArray.toList=live.map (·.1)from rfl,List.getElem?_map]at h1;rw[show (live.map (·.2)).toArray.toList=live.map (·.2)from rfl,lg okk,List.getElem?_map]at h2;cases q:live[i]? with
   |none=>rw[q]at h1;cases h1
   |some y=>
    rw[q]at h1 h2;cases h1;obtain⟨j',e,r⟩:=L.all y.2 g (by have:=okk y.2 (bh.mpr ⟨y,List.mem_of_getElem? q,rfl⟩);rw[Option.isSome_iff_exists]at this;obtain⟨_,this⟩:=this;exact(List.getElem?_eq_some_iff.mp this).1) h2;have e2:=mem.mp (show (y.1,y.2)∈live from List.mem_of_getElem? q);have:=L.one _ _ _ e e2;subst this;exact r.mono λj ⟨i,e⟩=>by
     rw[show (live.map (·.1)).toArray.toList=live.map (·.1)from rfl];exact bh.mpr ⟨(j,i),mem.mpr e,rfl⟩
end ST
namespace ST
open PySem PySem.Spec PySem.SetTable
section
variable{K:Type} [DecidableEq K]
noncomputable def ent(hash:K->Int)(x:K×ae):Int×Value:=(hash x.1,x.2)
noncomputable def di(es:List (Int×ae))(ep:Nat)(t:aP):Obj:={cls:=.type "set",dict:=none,data:=.set es.toArray ep t,slots:=#[]}
structure Tb(w:av)(hash:K->Int)(xs:List (K×ae))(t:aP):Prop where
 good:Good t (xs.map λx=>hash x.1)
 few:xs.length * 5<t.mask * 3
 led:t.led = !w.params.followText "set-order"
 plain:t.plain=true
 nd:(xs.map (·.1)).Nodup
noncomputable def eA(w:av)(hash:K->Int)(xs:List (K×ae))(o:Obj):Prop:=∃ep t,o=di (xs.map (ent hash)) ep t/\Tb w hash xs t
variable{w:av}{hash:K->Int}{xs:List (K×ae)}{t:aP}
theorem Tb.fits(T:Tb w hash xs t):t.fits (xs.map (ent hash)).toArray.size=true:=by
 have:=T.good.fits (by rw[aZ];have:=T.few;rcases T.good.ma with h|h|h|h|h<;>rw[h]at this ⊢ <;> lia)
 simpa using this
theorem Tb.nil(fi mo:Nat):Tb w hash [] (.fresh fi mo (!w.params.followText "set-order")):=by
 refine⟨⟨.inl rfl,rfl,rfl,.nil,(λj h=>absurd h (by simp[aP.fresh])),(λjh h=>absurd h (by simp[aP.fresh]))⟩,by show 0 * 5<7 * 3;lia,rfl,rfl,.nil⟩
theorem uM(hash:K->Int)(es:List (K×ae))(p:Nat)(x:K×ae):insertAt (es.map (ent hash)).toArray p (hash x.1,x.2)=((es.take p++x::es.drop p).map (ent hash)).toArray:=by
 apply Array.toList_inj.mp;rw[aP.toList_insertAt];simp[ent]
theorem Tb.put(T:Tb w hash xs t){k:K}{v:ae}{j:Nat}(hj:j∉t.place.toList)(hR:Reach t.mask (·∈t.place.toList) (hash k) j)(hk:k∉xs.map (·.1)) :
  ∃p,t.put j=({t with place:=insertAt t.place p j},p)/\Good {t with place:=insertAt t.place p j} ((xs.take p++(k,v)::xs.drop p).map λx=>hash x.1) /\
   (xs.take p++(k,v)::xs.drop p).Perm (xs++[(k,v)])/\((xs.take p++(k,v)::xs.drop p).map (·.1)).Nodup:=by
 obtain⟨a,b,c⟩:=T.good.put hj hR;have pm:(xs.take (below t.place j)++(k,v)::xs.drop (below t.place j)).Perm (xs++[(k,v)]):=by
  refine List.perm_middle.trans ?_;rw[bA];exact(List.perm_append_singleton _ _).symm
 refine⟨below t.place j,a,?_,pm,?_⟩
 ·simpa[List.map_append,List.map_take,List.map_drop]using c
 ·refine((pm.map (·.1)).nodup_iff).mpr ?_;rw[List.map_append,List.nodup_append];exact⟨T.nd,by simp,λa ha b hb=>by simp at hb;subst hb;exact λe=>hk (e▸ha)⟩
theorem vV{n:Nat}(hn:n+1<1200)(hm:Mk t.mask)(hd:t.dummies = #[])(hl:t.place.size=n+1)(hf:n * 5<t.mask * 3) :
  (t.tooFull=false/\(n+1) * 5<t.mask * 3)\/(t.tooFull=true/\∃m,Mk m/\sizeAbove (grown (n+1))-1=m/\sizeAbove (grown (n+1))<=2048/\n+1<=m+1/\(n+1) * 5<m * 3):=by
 have e:t.tooFull=decide ((n+1) * 5 >= t.mask * 3):=by unfold tooFull fill;rw[hd,hl];rfl
 rw[e];by_cases q:(n+1) * 5 >= t.mask * 3
 ·refine .inr ⟨by simpa using q,?_⟩;rcases hm with h|h|h|h|h<;>rw[h]at q hf
  ·obtain rfl:n=4:=by lia
   exact⟨31,.inr (.inl rfl),by decide,by decide,by lia,by lia⟩
  ·obtain rfl:n=18:=by lia
   exact⟨127,.inr (.inr (.inl rfl)),by decide,by decide,by lia,by lia⟩
  ·obtain rfl:n=76:=by lia
   exact⟨511,.inr (.inr (.inr (.inl rfl))),by decide,by decide,by lia,by lia⟩
  ·obtain rfl:n=306:=by lia
   exact⟨2047,.inr (.inr (.inr (.inr rfl))),by decide,by decide,by lia,by lia⟩
  ·lia
 ·exact .inl ⟨by simpa using q,by lia⟩
theorem yd{t:aP}{ys:List (K×ae)}{n m:Nat}(hM:Mk m)(hs:sizeAbove (grown (n+1))-1=m)(hl:n+1<=m+1)(hq:(n+1) * 5<m * 3)(hn:ys.length=n+1)(led:t.led = !w.params.followText "set-order")(plain:t.plain=true)(nd:(ys.map (·.1)).Nodup) :
  ∃t' order zs,t.relaid ((ys.map (ent hash)).toArray.map (·.1)) (grown (n+1))=some (t',order)/\order.filterMap ((ys.map (ent hash)).toArray[·]?)=(zs.map (ent hash)).toArray/\order.toList.Perm (a7 (n+1))/\zs.Perm ys/\Tb w hash zs t':=by
 have e0:(ys.map (ent hash)).toArray.map (·.1)=(ys.map λx=>hash x.1).toArray:=by
  apply Array.toList_inj.mp;simp[ent,Function.comp_def]
 obtain⟨t',order,h1,h2,h3,h4,h5,h6,h7⟩:=relaid hM (ys.map λx=>hash x.1) (by rw[aZ,hn];exact hl) t.finger (t.movedTo m) t.led t.plain;rw[aZ,hn]at h2;have pz:(order.toList.filterMap (ys[·]?)).Perm ys:=by
  refine(h2.filterMap _).trans ?_;rw[<-hn,List.filterMap_getElem?_range_length]
 refine⟨t',order,order.toList.filterMap (ys[·]?),?_,?_,h2,pz,⟨?_,?_,h5.trans led,h6.trans plain,?_⟩⟩
 ·unfold aP.relaid;rw[hs,e0];exact h1
 ·apply Array.toList_inj.mp;rw[Array.toList_filterMap,List.map_filterMap];refine congrArg (λf=>List.filterMap f order.toList) (funext λi=>?_);simp
 ·rw[List.map_filterMap];refine(congrArg (Good t') (congrArg (λf=>List.filterMap f order.toList) (funext λi=>?_))).mp h3;simp
 ·rw[pz.length_eq,hn,h4];exact hq
 ·exact((pz.map (·.1)).nodup_iff).mpr nd
end
section
variable{prog:aA}{w:av}{A:az}{E:ae->af->Prop}{s:af}{K:Type} [DecidableEq K]{hash:K->Int}
theorem store{a:Addr}{es:List (Int×ae)}{ep:Nat}{t t':aP}{es':Array (Int×ae)}{Q:Unit->af->Prop}(ho:s.heap.get? a=some (di es ep t))(hz:es'.size<=aX)
  (h:∀h',Heap.SameBut a s.heap h'->h'.get? a=some (di es'.toList (ep+1) t')->Q () {s with heap:=h'}):ak (ar prog w) A (storeSet a es' t') Q E s:=by
 refine wpAny_storeSet_of ho rfl (h _ (Heap.SameBut.update _ _ _) ?_) hz;have:=Heap.get?_update_self (Obj.putSet es' t') ho (by rw[putSet_of es' t' rfl];rfl);rw[putSet_of es' t' rfl]at this;rw[this];simp[di]
end
section
variable{prog:aA}{w:av}{A:az}{E:ae->af->Prop}{s:af}
theorem tV{t:aP}{hs:List Int}(G:Good t hs)(hf:hs.length<=t.mask)(h:Int):∃m,m<10 * turns t.mask/\(pr t.mask h m).j∉t.place.toList/\∀k,k<m->(pr t.mask h k).j∈t.place.toList:=by
 obtain⟨m0,_,b0,c0⟩:=G.free hf h 0;obtain⟨m,_,b,c⟩:=G.go (λ_=>h+1) h (10 * turns t.mask) 0 ⟨m0,bp _,b0,c0⟩;have occ:∀k,k<m->(pr t.mask h k).j∈t.place.toList:=λk hk=>by
  obtain⟨i,hi,_⟩:=b k (bp _) hk;rw[<-Array.getElem?_toList]at hi;exact List.mem_of_getElem? hi
 rcases c with ⟨c,_⟩|⟨i,_,c,_⟩
 ·refine⟨m,?_,c,occ⟩;have:m<=m0:=cH λq=>c0 (occ m0 q)
  lia
 ·lia
end
section
variable{prog:aA}{w:av}{A:az}{E:ae->af->Prop}{s:af}
end
section
variable{prog:aA}{w:av}{A:az}{E:ae->af->Prop}{s:af}
theorem xF{K:Type} [DecidableEq K]{hash:K->Int}{xs:List (K×ae)}{t:aP}(T:Tb w hash xs t):(xs.map λx=>hash x.1).length<=t.mask:=by
 rw[aZ];have:=T.few;rcases T.good.ma with h|h|h|h|h<;>rw[h]at this ⊢ <;> lia
noncomputable def More{K:Type} [DecidableEq K](xs:List (K×ae))(k:K)(v:ae):List (K×ae):=if k∈xs.map (·.1)then xs else xs++[(k,v)]
noncomputable def iz(h:Heap)(k:Int)(v:ae):Prop:=∃t,v=.int k t
theorem elems{xs:List (Int×ae)}{h:Heap}(hel:∀x∈xs,iz h x.1 x.2):ElemsOf (intKind prog w) (xs.map (ent hashInt)):=by
 intro e he;obtain⟨x,hx,rfl⟩:=bh.mp he;obtain⟨t,e⟩:=hel x hx;have e2:(ent hashInt x).2=.int x.1 t:=e;rw[e2];exact⟨⟨x.1,intKind_is _ _ _ _,rfl⟩,rfl⟩
theorem vU{a:Addr}{xs:List (Int×ae)}{k:Int}{tk:Tok}{o:Obj}(ho:s.heap.get? a=some o)(hS:eA w hashInt xs o)
  (hel:∀x∈xs,iz s.heap x.1 x.2) (hn:xs.length+1<1200) {Q:Bool->af->Prop}
  (h:∀b h' ys,Heap.SameBut a s.heap h'->(∃o,h'.get? a=some o/\eA w hashInt ys o)->ys.Perm (More xs k (.int k tk))->Q b {s with heap:=h'}) :
  ak (ar prog w) A (setAddHashed a (.int k tk) (hashInt k)) Q E s:=by
 obtain⟨ep,t,rfl,T⟩:=hS;have EL:ElemsOf (intKind prog w) (xs.map (ent hashInt)).toArray.toList:=elems hel;obtain⟨ms,m1,m2,m3⟩:=tV T.good (xF T) (hashInt k);have e:s={s with heap:=s.heap}:=by cases s;rfl
 have hb:(xs.map (ent hashInt)).toArray.size<scanBound:=by simp[scanBound];lia
 unfold setAddHashed;refine b5 ?_;unfold setAddHashedIn;refine aq (wpAny_setState_of ho rfl T.fits ?_);dsimp only;rw[byScan_of (knd:=intKind prog w) rfl hb EL];simp only[↓reduceIte];unfold setAddByScan;refine aq ?_;refine aq (wpAny_rule ?_);refine aq (wpAny_setScan_of (knd:=intKind prog w) (k:=k) (intKind_is _ _ _ _) ho rfl T.fits EL ?_);have is_:∀(x:Int×ae),x∈xs->((intKind prog w).is k (ent hashInt x).2=true↔x.1=k):=λx hx=>by
  obtain⟨t,e⟩:=hel x hx;have e2:(ent hashInt x).2=.int x.1 t:=e;rw[e2];constructor
  ·intro q;exact((intKind prog w).inj _ _ _ q (intKind_is _ _ _ _)).symm
  ·intro q;rw[q];exact intKind_is _ _ _ _
 cases hr:List.findIdx? (λe=>(intKind prog w).is k e.2) (xs.map (ent hashInt)).toArray.toList with
 |some j=>
  dsimp only;obtain⟨hj,hpj,_⟩:=List.findIdx?_eq_some_iff_getElem.mp hr;have hm:k∈xs.map (·.1):=by
   have hj':j<xs.length:=by simpa using hj
   have q:(intKind prog w).is k (ent hashInt xs[j]).2=true:=by simpa using hpj
   exact bh.mpr ⟨xs[j],cJ _,(is_ _ (cJ _)).mp q⟩
  refine aC (aC ?_);have:=h false s.heap xs (Heap.SameBut.refl a s.heap) ⟨_,ho,ep,t,rfl,T⟩ (by rw[More,if_pos hm]);rw[e];exact this
 |none=>
  dsimp only;have hm:k∉xs.map (·.1):=λhm=>by
   obtain⟨x,hx,e⟩:=bh.mp hm;have:=List.findIdx?_eq_none_iff.mp hr (ent hashInt x) (bh.mpr ⟨x,hx,rfl⟩);rw[(is_ x hx).mpr e]at this;cases this
  obtain⟨p,e1,g,pm,nd⟩:=T.put (k:=k) (v:=.int k tk) m2 ⟨ms,rfl,m3⟩ hm;have e2:insertAt (xs.map (ent hashInt)).toArray p (hashInt k,.int k tk)=((xs.take p++(k,.int k tk)::xs.drop p).map (ent hashInt)).toArray:=uM hashInt xs p (k,.int k tk);have fr:t.freeSlot (hashInt k)=some ((pr t.mask (hashInt k) ms).j,false):=by
   obtain⟨m,a1,a2,a3⟩:=T.good.go (λ_=>hashInt k+1) (hashInt k) (10 * turns t.mask) 0 ⟨ms,bp _,by lia,m2⟩;have occ:∀l,l<m->(pr t.mask (hashInt k) l).j∈t.place.toList:=λl hl=>by
    obtain⟨i,hi,_⟩:=a2 l (bp _) hl;rw[<-Array.getElem?_toList]at hi;exact List.mem_of_getElem? hi
   rcases a3 with ⟨b1,b2⟩|⟨i,_,b,_⟩
   ·have:m=ms:=Nat.le_antisymm (cH λq=>m2 (occ ms q)) (cH λq=>b1 (m3 m q));subst this;unfold freeSlot probe;rw[wG,b2];rfl
   ·lia
  generalize hy:xs.take p++(k,.int k tk)::xs.drop p=ys at *;have hl:ys.length=xs.length+1:=by rw[pm.length_eq];simp
  have zl:ys.length<=sizeLine:=by rw[hl,bw];lia
  have ft:({t with place:=insertAt t.place p (pr t.mask (hashInt k) ms).j}:aP).fits (ys.map (ent hashInt)).toArray.size=true:=by
   have:=g.fits (by rw[aZ,hl];have:=T.few;show _<=t.mask;rcases T.good.ma with h|h|h|h|h<;>rw[h]at this ⊢ <;> lia)
   simpa using this
  have ly:layNew t (xs.map (ent hashInt)).toArray (hashInt k) (.int k tk)=((ys.map (ent hashInt)).toArray,{t with place:=insertAt t.place p (pr t.mask (hashInt k) ms).j},false,false):=by
   unfold layNew;rw[fr];dsimp only;rw[e1];dsimp only;rw[e2];unfold orStandIn;rw[ft];rfl
  have hr':(intKind prog w).hash k=hashInt k:=rfl;rw[ly];dsimp only;refine aq (aC ?_);rw[show ({t with place:=insertAt t.place p (pr t.mask (hashInt k) ms).j}:aP).plain=true from T.plain];simp only[if_true];rw[hashByValue_scannable 8 rfl];refine aq (aC ?_);simp only[plainKind,if_true];have len:=g.len;rw[aZ,hl]at len;have gt:∀{tt:aP},tt={t with place:=insertAt t.place p (pr t.mask (hashInt k) ms).j}->ak (ar prog w) A (do
    storeSet a (ys.map (ent hashInt)).toArray tt
    if (!false&&tt.tooFull)=true then do
      (match (relayAll tt (ys.map (ent hashInt)).toArray (aP.grown (ys.map (ent hashInt)).toArray.size)).2.2 with|true=>rule "set.scan.the-table-gave-way" |false=>pure ())
      storeSet a (relayAll tt (ys.map (ent hashInt)).toArray (aP.grown (ys.map (ent hashInt)).toArray.size)).1 (relayAll tt (ys.map (ent hashInt)).toArray (aP.grown (ys.map (ent hashInt)).toArray.size)).2.1
      pure (some true)
     else pure (some true)) (λx s'=>ak (ar prog w) A (match x with|some added=>pure added|none=>setAddHashedIn a (.int k tk) (hashInt k) 99999) Q E s') E s:=by
   rintro _ rfl;refine aq (store ho (by simpa using zl) λh1 sb1 o1=>?_);rcases vV (t:={t with place:=insertAt t.place p (pr t.mask (hashInt k) ms).j}) hn T.good.ma T.good.dum len T.few with ⟨f,few⟩|⟨f,m,hM,hs,hsl,hl',hq⟩
   ·rw[f];simp only[Bool.not_false,Bool.and_false,a_,if_false];exact aC (aC (h true h1 ys sb1 ⟨_,o1,ep+1,_,rfl,⟨g,by rw[hl];exact few,T.led,T.plain,nd⟩⟩ (by rw[More,if_neg hm];exact pm)))
   ·rw[f];simp only[Bool.not_false,Bool.and_self,if_true];obtain⟨t',order,zs,r1,r2,r3,r4,r5⟩:=yd (w:=w) (hash:=hashInt) (t:={t with place:=insertAt t.place p (pr t.mask (hashInt k) ms).j}) hM hs hl' hq hl T.led T.plain nd;have zs_l:zs.length=ys.length:=r4.length_eq;have ra:relayAll {t with place:=insertAt t.place p (pr t.mask (hashInt k) ms).j} (ys.map (ent hashInt)).toArray (aP.grown (ys.map (ent hashInt)).toArray.size)=((zs.map (ent hashInt)).toArray,t',false):=by
     unfold relayAll;rw[show (ys.map (ent hashInt)).toArray.size=xs.length+1 by simp[hl],r1];dsimp only;rw[r2];have ca:coversAll order (xs.length+1)=true:=List.isPerm_iff.mpr r3;rw[ca,r5.fits];rfl
    rw[ra];dsimp only;refine aq (aC ?_);refine aq (store (es:=ys.map (ent hashInt)) (ep:=ep+1) o1 (by simp[zs_l];exact zl) λh2 sb2 o2=>?_);exact aC (aC (h true h2 zs (sb1.trans sb2) ⟨_,o2,ep+1+1,t',rfl,r5⟩ (by rw[More,if_neg hm];exact r4.trans pm)))
  refine gt ?_;rw[<-T.plain]
end
structure Kd(prog:aA)(w:av)(K:Type) [DecidableEq K] where
 hash:K->Int
 el:Heap->K->ae->Prop
 grow:∀{h h':Heap}{k:K}{v:ae},el h k v->(∀b o,h.get? b=some o->h'.get? b=some o)->el h' k v
 room:az->Prop
 pyHash:∀{A:az}{E:ae->af->Prop}{s:af}{k:K}{v:ae}{Q:Int->af->Prop},room A->el s.heap k v->(∀tk,s.toks<=tk->Q (hash k) {s with toks:=tk})->ak (ar prog w) A (pyHash v) Q E s
 add:∀{A:az}{E:ae->af->Prop}{s:af}{a:Addr}{xs:List (K×ae)}{k:K}{v:ae}{o:Obj}{Q:Bool->af->Prop},room A->s.heap.get? a=some o->eA w hash xs o ->
  (∀x∈xs,el s.heap x.1 x.2)->el s.heap k v->xs.length+1<1200 ->
  (∀b h' ys,Heap.SameBut a s.heap h'->(∃o,h'.get? a=some o/\eA w hash ys o)->ys.Perm (More xs k v)->Q b {s with heap:=h'})->ak (ar prog w) A (setAddHashed a v (hash k)) Q E s
noncomputable def inK(prog:aA)(w:av):Kd prog w Int where
 hash:=hashInt
 el:=iz
 grow:=λh _=>h
 room:=λ_=>True
 pyHash:=λ_ ⟨t,e⟩ h=>by subst e;exact wpAny_pyHash_int (h _ (Nat.le_succ _))
 add:=λ_ ho hS hel ⟨t,e⟩ hn h=>by subst e;exact vU ho hS hel hn h
section
variable{prog:aA}{w:av}{K:Type} [DecidableEq K](D:Kd prog w K)
noncomputable def Holds(h0 h:Heap)(a:Addr)(keys:Nat->K)(i:Nat):Prop:=∃o xs,h.get? a=some o/\eA w D.hash xs o/\(∀x∈xs,D.el h0 x.1 x.2)/\(∀k,k∈xs.map (·.1)↔∃j,j<i/\keys j=k)/\xs.length<=i
variable{D}
variable{A:az}{R:Result->af->Prop}{I:Addr}{fp wr:List Addr}{G:Array GenState->Array GenState->Prop}{n:Nat}{P:Nat->ae->Prop}{St:Nat->af->Prop}
theorem loop(W:WalksS prog w A.in1 I fp wr G n P St)(hu:D.room A.in1)(S:Addr)(hSf:S∉fp){h0:Heap}(hS0:h0.get? S=none)(hwr:∀b∈wr,h0.get? b=none)
  (keys:Nat->K) (hval:∀i v,P i v->D.el h0 (keys i) v) (hb:n<1200) :
  ∀(k i:Nat) (s:af),n-i=k->i<=n->St i s->(∀b o,h0.get? b=some o->s.heap.get? b=some o)->Holds D h0 s.heap S keys i ->
   (∀s',Moved (S::wr) G s s'->Holds D h0 s'.heap S keys n->R (.ok (.ret .none)) s') ->
   codeAny (ar prog w) A (.builtin "set.update.loop" ⟨[.ref S,.ref I],[]⟩) R s:=by
 have hSw:S∉wr:=λh=>hSf (W.sub _ h)
 have hsub:∀b∈wr,b∈S::wr:=λb hb=>aS _ hb
 intro k
 induction k with
 |zero=>
  intro i s hk hi hst hk0 hS hR;have hin:i=n:=by lia
  subst hin;refine cb PyProof.Rows.F.entry_set_update_loop ?_;rw[cA PyProof.Rows.F.plain_set_update_loop _];show ak _ A.in1 (pyNext (.ref I)>>=_) _ _ s;refine aq (W.done s _ _ hst λs' hm=>?_);show ak _ A.in1 (ret ae.none) _ _ s';obtain⟨o,xs,ho,r⟩:=hS;exact aC (hR s' (hm.mono hsub) ⟨o,xs,hm.heap S _ hSw ho,r⟩)
 |succ k ih=>
  intro i s hk hi hst hk0 hS hR;have hlt:i<n:=by lia
  refine cb PyProof.Rows.F.entry_set_update_loop ?_;rw[cA PyProof.Rows.F.plain_set_update_loop _];show ak _ A.in1 (pyNext (.ref I)>>=_) _ _ s;refine aq (W.item i s _ _ hlt hst λv s' hP hst' hm=>?_);have hel:=hval i v hP;obtain⟨o,xs,ho,r1,r2,r3,r4⟩:=hS;have hk1:∀b o,h0.get? b=some o->s'.heap.get? b=some o:=λb o e=>hm.heap b o (λq=>by rw[hwr b q]at e;cases e) (hk0 b o e)
  have ho':=hm.heap S _ hSw ho;show ak _ A.in1 (holding [v] (setAdd S v)>>=_) _ _ s';refine aq (b5 ?_);unfold setAdd;refine b5 ?_;refine aq (D.pyHash hu (D.grow hel hk1) λtk htk=>?_);refine D.add (s:={s' with toks:=tk}) hu ho' r1 (λx hx=>D.grow (r2 x hx) hk1) (D.grow hel hk1) (by lia) λb h' ys sb hS2 pm=>?_
  have hk2:∀b o,h0.get? b=some o->h'.get? b=some o:=λb o e=>by
   rw[sb.2 b (λh:b=S=>by rw[h,hS0]at e;cases e)];exact hk1 b o e
  have hS3:Holds D h0 h' S keys (i+1):=by
   obtain⟨o2,ho2,si⟩:=hS2;refine⟨o2,ys,ho2,si,λx hx=>?_,λk'=>?_,?_⟩
   ·have:=pm.mem_iff.mp hx;unfold More at this;split at this
    ·exact r2 x this
    ·rcases List.mem_append.mp this with q|q
     ·exact r2 x q
     ·rw[List.mem_singleton.mp q];exact hel
   ·rw[(pm.map (·.1)).mem_iff];have:(∃j,j<i+1/\keys j=k')↔(∃j,j<i/\keys j=k')\/keys i=k':=by
     constructor
     ·rintro⟨j,a,b⟩;rcases Nat.lt_succ_iff_lt_or_eq.mp a with q|q
      ·exact .inl ⟨j,q,b⟩
      ·subst q;exact .inr b
     ·rintro(⟨j,a,b⟩|b)
      ·exact⟨j,by lia,b⟩
      ·exact⟨i,by lia,b⟩
    rw[this,<-r3 k'];unfold More;split
    ·rename_i q
     exact⟨.inl,λh=>h.elim id λe=>e▸q⟩
    ·rw[List.map_append,List.mem_append];simp only[bF,List.map_nil,List.mem_singleton];exact⟨λh=>h.imp id Eq.symm,λh=>h.imp id Eq.symm⟩
   ·rw[pm.length_eq];unfold More;split
    ·lia
    ·simp;lia
  refine aC ⟨plainId_quiet PyProof.Rows.F.plain_set_update_loop _,ih (i+1) _ (by lia) hlt (W.frame _ s' _ _ hst' htk λb hb o e=>?_) hk2 hS3 λs'' hm'' hS''=>?_⟩
  ·rw[sb.2 b (λh:b=S=>hSf (by rw[<-h];exact hb))];exact e
  ·refine hR s'' (Moved.trans W.gtrans ((hm.mono hsub).then_heap htk λb o hb e=>?_) hm'') hS'';rw[sb.2 b (λh:b=S=>hb (by rw[h];exact aW))];exact e
end
abbrev zT(w:av):Obj:={cls:=.type "set",dict:=none,data:=.set #[] 0 (.fresh 0 0 (!w.params.followText "set-order"))}
section
variable{prog:aA}{w:av}{A:az}{E:ae->af->Prop}{s:af}{K:Type} [DecidableEq K]{D:Kd prog w K}
theorem lV(a:ae){Q₁:ae->af->Prop}(h:Q₁ (.ref s.heap.objs.size) {s with heap:=s.heap.push (zT w)}) :
  codeAny (ar prog w) A (.call (.builtin "set.__new__") ⟨[.type "set",a],[]⟩) (wants Q₁ E) s:=by
 refine codeAny_of_tree ?_;show ak _ A.in1 (do checkBuiltinCall "set.__new__" ⟨[.type "set",a],[]⟩;again (.builtin "set.__new__" ⟨[.type "set",a],[]⟩)) _ _ s;refine aq (wpAny_of_eq (F.newCall_set_1 a) (aC ⟨plainId_quiet F.plain_set_new _,cb F.entry_set_new ?_⟩));rw[cA F.plain_set_new _];unfold Builtin.«set.__new__» Builtin.Frozenset.newClass;have hsub:=sub_set_self;obtain⟨hp,g,d,tk,os⟩:=s;dsimp only
 wp_walk
 refine wpAny_askSetting (aC ?_);dsimp only;simp only[newObj];refine aq (wpAny_alloc (aC ?_));exact aC h
theorem nO:eA w D.hash [] (zT w):=⟨0,_,rfl,Tb.nil 0 0⟩
theorem kh(hu:D.room A.in1.in1.in1){I:Addr}{fp wr:List Addr}{items:Array ae}{St:Nat->Heap->Prop}(W:Walks prog w A.in1.in1.in1 I fp wr items.size (λi v=>items[i]? = some v) St){h1:Heap}
  (keys:Nat->K) (hval:∀(i:Nat) v,items[i]? = some v->D.el s.heap (keys i) v) (hb:items.size<1200) (hst:St 0 h1) (hS:h1.get? s.heap.objs.size=some (zT w)) (hold:∀b o,s.heap.get? b=some o->h1.get? b=some o)
  (hSf:s.heap.objs.size∉fp) (hwr:∀b∈wr,s.heap.objs.size<=b) {R:Result->af->Prop}
  (h:∀(h':Heap) (tk:Nat),Holds D s.heap h' s.heap.objs.size keys items.size->(∀b o,b<s.heap.objs.size->s.heap.get? b=some o->h'.get? b=some o)->R (.ok (.ret .none)) {s with heap:=h',toks:=tk}) :
  codeAny (ar prog w) A.in1.in1 (.builtin "set.update.loop" ⟨[.ref s.heap.objs.size,.ref I],[]⟩) R {s with heap:=h1}:=by
 have out:∀b,s.heap.objs.size<=b->s.heap.get? b=none:=λb hb=>by
  cases q:s.heap.get? b with
  |none=>rfl
  |some o=>exact absurd (aK q) (Nat.not_lt.mpr hb)
 refine loop W.toS hu s.heap.objs.size hSf (h0:=s.heap) (out _ (aD _)) (λb hb=>out b (hwr b hb)) keys hval hb (items.size-0) 0 _ (by lia) (bp _) hst hold ?_ λs' hm hS'=>?_
 ·exact⟨_,[],hS,nO,(λx hx=>absurd hx (bD)),(λk=>by simp),aD _⟩
 ·obtain⟨h',g',d',tk',os'⟩:=s';have eg:g'=s.gens:=hm.gens;have ed:d'=s.drawn:=hm.drawn;have eo:os'=s.os:=hm.os;subst eg;subst ed;subst eo;refine h h' tk' hS' λb o hb e=>hm.heap b o (λq=>?_) (hold b o e)
  rcases aJ.mp q with q|q
  ·rw[q]at hb;exact bL _ hb
  ·exact absurd hb (Nat.not_lt.mpr (hwr b q))
theorem sub_list_set:isSubtype (.type "list") (.type "set")=pure false:=by rw[isSubtype_type];kernel_rfl
theorem sub_list_frozenset:isSubtype (.type "list") (.type "frozenset")=pure false:=by rw[isSubtype_type];kernel_rfl
theorem call_set_list{l:Addr}{items:Array ae}{Q:ae->af->Prop}(hh:A.handled=none)(hu:D.room A.in1.in1.in1)(hl:s.heap.IsList l items)(keys:Nat->K)(hval:∀(i:Nat) v,items[i]? = some v->D.el s.heap (keys i) v)(hb:items.size<1200)
  (h:∀(h':Heap) (tk:Nat),Holds D s.heap h' s.heap.objs.size keys items.size->(∀b o,b<s.heap.objs.size->s.heap.get? b=some o->h'.get? b=some o)->Q (.ref s.heap.objs.size) {s with heap:=h',toks:=tk}) :
  ak (ar prog w) A (call (.type "set") [.ref l]) Q E s:=by
 obtain⟨c,tl,hmro⟩:=F.called_set.mro;have hmade:=F.called_set.made;have hsub:=F.called_set.sub;refine wpAny_call (codeAny_of_tree ?_);show ak _ _ (callAny (.type "set") _) _ _ _;refine aC ⟨Code.quiet_builtin _ (by decide +kernel),cb F.entry_type_call ?_⟩;rw[az.under_plain (weight_type_call_type "set" [.ref l] []) rfl];have h1:=F.called_set.notType;have h2:=F.called_set.canCreate;have hct:=F.typeCall_set_1 (.ref l)
 repeat (any_goals (first|assumption|wp_step))
 refine b8 (lV (.ref l) (E:=E) (Q₁:=λobj s₁=>obj=.ref s.heap.objs.size/\s₁={s with heap:=s.heap.push (zT w)}) ⟨rfl,rfl⟩) λr s₁ hr=>?_
 cases r with
 |error e=>exact hr
 |ok fl=>
  cases fl with
  |ret obj=>
   obtain⟨rfl,rfl⟩:=hr;have hS:(s.heap.push (zT w)).get? s.heap.objs.size=some (zT w):=Heap.get?_push_size _ rfl;have hT:af.TypeIs {s with heap:=s.heap.push (zT w)} (.ref s.heap.objs.size) "set":=⟨_,hS,rfl⟩
   have hli:=F.called_set.init.lookup;have hbi:=F.called_set.init.bind (.ref s.heap.objs.size)
   repeat (any_goals (first|assumption|wp_step))
   refine b8 (codeAny_call_builtin (R:=wants (λr s₂=>r=.none/\∃h' tk,s₂={s with heap:=h',toks:=tk}/\Holds D s.heap h' s.heap.objs.size keys items.size /\
     (∀b o,b<s.heap.objs.size->s.heap.get? b=some o->h'.get? b=some o)) E) F.called_set.init.plain F.entry_set_init (check_set_init_1 hT ?_)) λr₂ s₂ hr₂=>?_
   ·obtain⟨ol,hol,hcl,nl,hdl⟩:=hl;obtain⟨ocls,odict,odata,oslots⟩:=ol;simp only at hcl hdl;subst hcl;subst hdl;have hol':(s.heap.push (zT w)).get? l=some {cls:=.type "list",dict:=odict,data:=.seq items nl,slots:=oslots}:=Heap.get?_push_of_some _ hol;have hsls:=sub_list_set;have hslf:=sub_list_frozenset;have hne:(ae.type "list" == ae.type "dict")=false:=by decide
    have hl1:(s.heap.push (zT w)).IsList l items:=⟨_,hol',rfl,nl,rfl⟩
    unfold Builtin.«set.__init__» noKeywords Builtin.Frozenset.updateFrom;generalize hPI:pyIter=PI
    wp_walk
    subst hPI;refine wpAny_pyIter_list hl1 ?_;refine aq (wpAny_runValue ?_);have hlS:l<s.heap.objs.size:=aK hol;have hh3:A.in1.in1.in1.handled=none:=by simp[hh]
    have hneI:l≠(s.heap.push (zT w)).objs.size:=by
     rw[bQ];exact a9 (cF hlS)
    have hSf:s.heap.objs.size∉[(s.heap.push (zT w)).objs.size,l]:=by
     rw[bQ];simp only[aJ,List.mem_singleton,bD,or_false,not_or];exact⟨a9 (Nat.lt_succ_self _),Nat.ne_of_gt hlS⟩
    refine kh hu (Walks.list hh3 _ l hneI items) keys hval hb ⟨⟨_,Heap.get?_push_size _ rfl,rfl,rfl⟩,(hl1.push _)⟩ (Heap.get?_push_of_some _ hS) (λb o e=>Heap.get?_push_of_some _ (Heap.get?_push_of_some _ e)) hSf (λb hb=>by rw[List.mem_singleton.mp hb,bQ];exact Nat.le_succ _) λh' tk hH hk=>?_
    show ak _ _ _ _ _ _;refine aC ?_;show ak _ _ (ret ae.none) _ _ _;exact aC ⟨rfl,h',tk,rfl,hH,hk⟩
   ·cases r₂ with
    |error e=>exact hr₂
    |ok fl₂=>
     cases fl₂ with
     |ret r=>
      obtain⟨rfl,h',tk,rfl,hS',hk'⟩:=hr₂
      repeat (any_goals (first|assumption|wp_step))
      exact h _ _ hS' hk'
     |_=>exact hr₂.elim
  |_=>exact hr.elim
theorem sub_tuple_set:isSubtype (.type "tuple") (.type "set")=pure false:=by rw[isSubtype_type];kernel_rfl
theorem sub_tuple_frozenset:isSubtype (.type "tuple") (.type "frozenset")=pure false:=by rw[isSubtype_type];kernel_rfl
theorem wj{l:Addr}{items:Array ae}{Q:ae->af->Prop}(hh:A.handled=none)(hu:D.room A.in1.in1.in1)(hl:s.heap.IsTuple l items)(keys:Nat->K)(hval:∀(i:Nat) v,items[i]? = some v->D.el s.heap (keys i) v)(hb:items.size<1200)
  (h:∀(h':Heap) (tk:Nat),Holds D s.heap h' s.heap.objs.size keys items.size->(∀b o,b<s.heap.objs.size->s.heap.get? b=some o->h'.get? b=some o)->Q (.ref s.heap.objs.size) {s with heap:=h',toks:=tk}) :
  ak (ar prog w) A (call (.type "set") [.ref l]) Q E s:=by
 obtain⟨c,tl,hmro⟩:=F.called_set.mro;have hmade:=F.called_set.made;have hsub:=F.called_set.sub;refine wpAny_call (codeAny_of_tree ?_);show ak _ _ (callAny (.type "set") _) _ _ _;refine aC ⟨Code.quiet_builtin _ (by decide +kernel),cb F.entry_type_call ?_⟩;rw[az.under_plain (weight_type_call_type "set" [.ref l] []) rfl];have h1:=F.called_set.notType;have h2:=F.called_set.canCreate;have hct:=F.typeCall_set_1 (.ref l)
 repeat (any_goals (first|assumption|wp_step))
 refine b8 (lV (.ref l) (E:=E) (Q₁:=λobj s₁=>obj=.ref s.heap.objs.size/\s₁={s with heap:=s.heap.push (zT w)}) ⟨rfl,rfl⟩) λr s₁ hr=>?_
 cases r with
 |error e=>exact hr
 |ok fl=>
  cases fl with
  |ret obj=>
   obtain⟨rfl,rfl⟩:=hr;have hS:(s.heap.push (zT w)).get? s.heap.objs.size=some (zT w):=Heap.get?_push_size _ rfl;have hT:af.TypeIs {s with heap:=s.heap.push (zT w)} (.ref s.heap.objs.size) "set":=⟨_,hS,rfl⟩
   have hli:=F.called_set.init.lookup;have hbi:=F.called_set.init.bind (.ref s.heap.objs.size)
   repeat (any_goals (first|assumption|wp_step))
   refine b8 (codeAny_call_builtin (R:=wants (λr s₂=>r=.none/\∃h' tk,s₂={s with heap:=h',toks:=tk}/\Holds D s.heap h' s.heap.objs.size keys items.size /\
     (∀b o,b<s.heap.objs.size->s.heap.get? b=some o->h'.get? b=some o)) E) F.called_set.init.plain F.entry_set_init (check_set_init_1 hT ?_)) λr₂ s₂ hr₂=>?_
   ·obtain⟨ol,hol,hcl,nl,hdl⟩:=hl;obtain⟨ocls,odict,odata,oslots⟩:=ol;simp only at hcl hdl;subst hcl;subst hdl;have hol':(s.heap.push (zT w)).get? l=some {cls:=.type "tuple",dict:=odict,data:=.seq items nl,slots:=oslots}:=Heap.get?_push_of_some _ hol;have hsls:=sub_tuple_set;have hslf:=sub_tuple_frozenset;have hne:(ae.type "tuple" == ae.type "dict")=false:=by decide
    have hl1:(s.heap.push (zT w)).IsTuple l items:=⟨_,hol',rfl,nl,rfl⟩
    unfold Builtin.«set.__init__» noKeywords Builtin.Frozenset.updateFrom;generalize hPI:pyIter=PI
    wp_walk
    subst hPI;refine wpAny_pyIter_tuple hl1 ?_;refine aq (wpAny_runValue ?_);have hlS:l<s.heap.objs.size:=aK hol;have hh3:A.in1.in1.in1.handled=none:=by simp[hh]
    have hneI:l≠(s.heap.push (zT w)).objs.size:=by
     rw[bQ];exact a9 (cF hlS)
    have hSf:s.heap.objs.size∉[(s.heap.push (zT w)).objs.size,l]:=by
     rw[bQ];simp only[aJ,List.mem_singleton,bD,or_false,not_or];exact⟨a9 (Nat.lt_succ_self _),Nat.ne_of_gt hlS⟩
    refine kh hu (Walks.tuple hh3 _ l hneI items) keys hval hb ⟨⟨_,Heap.get?_push_size _ rfl,rfl,rfl⟩,(hl1.push _)⟩ (Heap.get?_push_of_some _ hS) (λb o e=>Heap.get?_push_of_some _ (Heap.get?_push_of_some _ e)) hSf (λb hb=>by rw[List.mem_singleton.mp hb,bQ];exact Nat.le_succ _) λh' tk hH hk=>?_
    show ak _ _ _ _ _ _;refine aC ?_;show ak _ _ (ret ae.none) _ _ _;exact aC ⟨rfl,h',tk,rfl,hH,hk⟩
   ·cases r₂ with
    |error e=>exact hr₂
    |ok fl₂=>
     cases fl₂ with
     |ret r=>
      obtain⟨rfl,h',tk,rfl,hS',hk'⟩:=hr₂
      repeat (any_goals (first|assumption|wp_step))
      exact h _ _ hS' hk'
     |_=>exact hr₂.elim
  |_=>exact hr.elim
end
end ST
namespace TS
open PySem PySem.W PyProof.Rows
noncomputable def ck(x:ah):Int:=match x.1 with
 | .int n _=>n
 |_=>0
noncomputable def eu:ae->Int
 | .int n _=>n
 |_=>0
theorem mV:∀{acc:List ae},(∀v∈acc,∃n t,v=.int n t)->bf acc (acc.map eu)
 | [],_=>.nil
 |v::acc,h=>by
  obtain⟨n,t,rfl⟩:=h v aW;exact .cons n t (mV λu hu=>h u (aS _ hu))
theorem ji{vs:List ae}{ns:List Int}(h:bf vs ns):(∀v∈vs,∃n t,v=.int n t)/\ns=vs.map eu:=by
 induction h with
 |nil=>exact⟨λv h=>(by cases h),rfl⟩
 |cons n t _ ih=>
  refine⟨λv hv=>?_,by rw[bF,<-ih.2];rfl⟩;rcases aJ.mp hv with rfl|hv
  ·exact⟨n,t,rfl⟩
  ·exact ih.1 v hv
section
variable{prog:aA}{w:av}{A:az}{E:ae->af->Prop}{s:af}
theorem tx{l:List ah}(hl:∀x∈l,∃n t,x.1=.int n t):Cmp prog w A s oneType' (·∈l) (λx y=>decide (ck x<ck y)):=
 ⟨λx y hx hy Q q=>by
  obtain⟨n,t,e⟩:=hl x hx;obtain⟨m,u,e'⟩:=hl y hy;have q:Q (decide (ck x<ck y)) s:=q;rw[ck,ck,e,e']at q;rw[e,e',keyLt'_oneType];exact oneLt_int q,
 λx y h=>by simp at h ⊢;lia,λx y z h1 h2=>by simp at h1 h2 ⊢;lia⟩
theorem nI{a:Addr}{vs:List ae}{ns:List Int}{P:Fin->af->Prop}(hoL:s.heap.get? a=some (seqObj "list" vs.toArray 0))(hI:bf vs ns)(hz:vs.length<=aX)
  (h:∀(out:Array ae) (ns':List Int),bf out.toList ns'->ns'.Perm ns->ns'.Pairwise (·<=·)->P (.done (.ret .none)) {s with heap:=sortedHeap s.heap a vs out}) :
  ak (ar prog w) A (Builtin.«list.sort» ⟨[.ref a],[]⟩) P E s:=by
 by_cases h2:vs.length<2
 ·refine L2.uw hoL h2 (h vs.toArray ns hI .rfl ?_);have hl:ns.length<2:=by rw[(ji hI).2,aZ];exact h2
  match ns,hl with
  | [],_=>exact .nil
  | [_],_=>exact List.pairwise_singleton _ _
 rw[list_sort_plain];refine aq (listItems_at  hoL rfl ?_);refine aq (listUpdate_at  hoL rfl ?_ (by rw[aU];exact hz) (bp _));obtain⟨e1,ho1⟩:∃e1,(s.heap.update a (bG λ_=>#[])).get? a=some (seqObj "list" #[] e1):=⟨_,get?_update_seq hoL (λ_=>#[])⟩
 refine aq (seqEpoch_at ho1 rfl ?_);refine aq (wpAny_newTuple ?_ (by show vs.length<=_;exact hz));refine aq (wpAny_newList ?_ (bp _));refine b5 ?_;have ho6:(((s.heap.update a (bG λ_=>#[])).push (seqObj "tuple" vs.toArray 0)).push (seqObj "list" #[] 0)).get? a=some (seqObj "list" #[] e1):=Heap.get?_push_of_some _ (Heap.get?_push_of_some _ ho1);show ak (ar prog w) _ _ _ _ {s with heap:=((s.heap.update a (bG λ_=>#[])).push (seqObj "tuple" vs.toArray 0)).push (seqObj "list" #[] 0)};dsimp only;have h2':¬ vs.toArray.size<2:=by rw[aU];exact h2
 rw[if_neg h2',if_neg h2'];have hv:=(ji hI).1;have hx:∀x∈(pairsOf vs).toList,x.1=x.2/\∃n t,x.1=.int n t:=λx hx=>by
  rw[pairsOf_toList]at hx;obtain⟨b1,b2⟩:=mem_zip_self hx;exact⟨b1,hv _ b2⟩
 have kk:keyKind' vs.toArray=pure oneType':=by
  match vs,h2,hI with
  | [],h2,_=>exact absurd (by simp) h2
  | [_],h2,_=>exact absurd (by simp) h2
  |v₁::v₂::rest,_,hI=>exact keyKind_ints hI
 rw[kk];refine aq (aC ?_);have K:Rk (·∈(pairsOf vs).toList) (λx y=>decide (ck x<ck y)) ck:=⟨λ_ _ _ _=>rfl⟩
 refine aq (bS (uU (Q:=λ_ st'=>(ag st').Perm (pairsOf vs)/\failedOf st'=none/\Seg ck (ag st') 0 (pairsOf vs).size) (tx λx z=>(hx x z).2) K (λ_ z=>z) rfl rfl rfl rfl (by rw[pairsOf_size];lia) λst' z1 z2 z3=>⟨z1,z2,z3⟩) ?_ λ_ _ e=>e);rintro⟨⟨⟩,st'⟩ s' ⟨rfl,pm,fl,sg⟩;dsimp only;have pl:=Array.perm_iff_toList_perm.mp pm;have om:((ag st').map (·.2))=((ag st').toList.map (·.2)).toArray:=by
  generalize ag st'=z;apply Array.toList_inj.mp;rw[Array.toList_map]
 have op:((ag st').toList.map (·.2)).Perm vs:=by
  have:=pl.map (·.2)
  rwa[pairsOf_toList,List.map_snd_zip (aD _)]at this
 have hs:=rB (LT:=λx y=>decide (ck x<ck y)) (R:=ck) (a:=ag st') (by rw[pm.size_eq];exact sg) λx z1 y z2=>rfl
 have fin:=h ((ag st').map (·.2)) (((ag st').toList.map (·.2)).map eu) (by rw[om];exact mV λv hv'=>hv v (op.mem_iff.mp hv')) (by rw[(ji hI).2];exact op.map _) (by
  rw[List.map_map,List.pairwise_map];refine(List.Pairwise.and_mem.mp hs).imp λ{x y} ⟨m1,m2,q⟩=>?_
  have q:=of_decide_eq_false q;have e1:=(hx x (pl.mem_iff.mp m1)).1;have e2:=(hx y (pl.mem_iff.mp m2)).1;show eu x.2<=eu y.2;rw[<-e1,<-e2];have d:∀z:ah,eu z.1=ck z:=λz=>by rw[eu.eq_def,ck]
  rw[d,d];lia)
 refine aq (seqEpoch_at ho6 rfl ?_);refine aq (listUpdate_at ho6 rfl ?_ (bp _) (by rw[om,aU,op.length_eq];lia));rw[fl];simp only[bne_self_eq_false,a_,if_false];exact aC fin
end
end TS
namespace ST
open PySem PySem.Spec PySem.SetTable
theorem mh:Manifest.owners.lookup (String.ofList ['r','o','t','a','r','e','t','i','_','t','e','s'].reverse)=some Manifest.sig_set_iterator:=by kernel_rfl
theorem eS:Slot "set_iterator" "__next__" "set_iterator.__next__":=
 .of (owner:="set_iterator") (n:="__next__") (by rw[typeLookup_type,builtinLookup_eq_fast];kernel_rfl) (by decide +kernel) (by decide +kernel) (by decide +kernel)
  (by first|exact .inl (by decide +kernel)|exact .inr (by decide +kernel)) (by rw[isSubtype_type];kernel_rfl)
theorem md:entryFor table "set_iterator.__next__" = some Builtin.«set_iterator.__next__»:=entryFor_of_tree (by kernel_rfl)
theorem jZ(a:ae):argsOk "set_iterator.__next__" ⟨[a],[]⟩:=by
 unfold argsOk;rw[signature?_of (id:="set_iterator.__next__") (n:=['_','_','t','x','e','n','_','_']) (o:=['r','o','t','a','r','e','t','i','_','t','e','s']) (by kernel_rfl) mh];kernel_rfl
theorem ke:Slot "set_iterator" "__iter__" "set_iterator.__iter__":=
 .of (owner:="set_iterator") (n:="__iter__") (by rw[typeLookup_type,builtinLookup_eq_fast];kernel_rfl) (by decide +kernel) (by decide +kernel) (by decide +kernel)
  (by first|exact .inl (by decide +kernel)|exact .inr (by decide +kernel)) (by rw[isSubtype_type];kernel_rfl)
theorem t9:entryFor table "set_iterator.__iter__" = some Builtin.«dict_keyiterator.__iter__»:=entryFor_alias (id':="dict_keyiterator.__iter__") (by kernel_rfl) (by first|rfl|decide +kernel) (by decide +kernel) (by kernel_rfl)
theorem uX(a:ae):argsOk "set_iterator.__iter__" ⟨[a],[]⟩:=by
 unfold argsOk;rw[signature?_of (id:="set_iterator.__iter__") (n:=['_','_','r','e','t','i','_','_']) (o:=['r','o','t','a','r','e','t','i','_','t','e','s']) (by kernel_rfl) mh];kernel_rfl
theorem yl:entryFor table "set.__iter__" = some Builtin.«frozenset.__iter__»:=entryFor_alias (id':="frozenset.__iter__") (by kernel_rfl) (by first|rfl|decide +kernel) (by decide +kernel) (by kernel_rfl)
noncomputable def dv(w:av)(a:Addr)(ep:Nat)(es:List (Int×ae)):List (Int×ae):=if w.params.followText "set-order" = true then (pickOrder (w.params.setOrder a ep) es.toArray).toList else es
theorem l0{α:Type}:∀{l:List α}{i:Nat} (h:i<l.length),(l[i]::l.eraseIdx i).Perm l
 |_::_,0,_=>.refl _
 |a::l,i+1,h=>by
  rw[List.eraseIdx_cons_succ,List.getElem_cons_succ];exact(List.Perm.swap _ _ _).trans ((l0 (by simpa using h)).cons a)
theorem kq{α:Type}(next:Nat->Nat):∀(fuel k:Nat) (left:List α) (out:Array α),left.length=fuel->(pickOrder.go next fuel k left out).toList.Perm (out.toList++left)
 | 0,k,left,out,h=>by rw[pickOrder.go,List.length_eq_zero_iff.mp h,b_]
 |fuel+1,k,left,out,h=>by
  have hl:next k%left.length<left.length:=Nat.mod_lt _ (by lia);rw[pickOrder.go,List.getElem?_eq_getElem hl];dsimp only;refine(kq next fuel (k+1) _ _ (by rw[List.length_eraseIdx_of_lt hl];lia)).trans ?_;rw[Array.toList_push,bg];refine List.Perm.append_left _ ?_;rw[List.singleton_append];exact l0 hl
theorem fw(w:av)(a:Addr)(ep:Nat)(es:List (Int×ae)):(dv w a ep es).Perm es:=by
 unfold dv;split
 ·have:=kq (w.params.setOrder a ep) es.toArray.size 0 es.toArray.toList #[] (by simp);simp only[List.nil_append]at this;exact this
 ·exact .refl _
section
variable{prog:aA}{w:av}{A:az}{E:ae->af->Prop}{s:af}{K:Type} [DecidableEq K]{hash:K->Int}
noncomputable def itO(slot i:Nat)(a:Addr)(n ep:Nat):Obj:={cls:=.type "set_iterator",data:=.fields #[.int slot 0,.int i 0,.ref a,.int n 0,.int ep 0]}
theorem uz{a:Addr}{xs:List (K×ae)}{ep:Nat}{t:aP}(ho:s.heap.get? a=some (di (xs.map (ent hash)) ep t))(T:Tb w hash xs t){Q:ae->af->Prop}
  (h:Q (.ref s.heap.objs.size) {s with heap:=s.heap.push (itO 0 0 a xs.length ep)}):ak (ar prog w) A (pyIter (.ref a)) Q E s:=by
 have hT:s.TypeIs (.ref a) "set":=⟨_,ho,rfl⟩
 refine wpAny_pyIter_slot hT PySem.F.slot_set_iter (wpAny_call_entry PySem.F.slot_set_iter hT yl ?_ (PySem.F.args_set_iter_1 _));unfold Builtin.«frozenset.__iter__» Builtin.Frozenset.slot0 slotArgs;simp only[List.isEmpty_nil,Bool.not_true,a_,↓reduceIte,bind_assoc,List.length_nil,bne_self_eq_false];unfold Builtin.Frozenset.addrOf Builtin.Frozenset.sizeOf;refine aq (aC ?_)
 try dsimp only
 refine aq (aC ?_);refine aq (aq (wpAny_setEntries_of ho rfl T.fits (aC ?_)));refine aq ?_;unfold setDrawn;refine aq (wpAny_setState_of ho rfl T.fits ?_);unfold setsByText;refine aq (aq (wpAny_askSetting (aC ?_)));refine aC ?_;show ak _ _ (if (!(w.params.followText "set-order")&&(!t.plain&&decide ((xs.map (ent hash)).toArray.size>1)))=true then _ else _) _ _ _;rw[T.plain];simp only[Bool.not_true,Bool.false_and,Bool.and_false,a_,if_false];refine aq (aC ?_);refine aq (wpAny_setEpoch_of ho rfl T.fits ?_);refine aq (cG (aC ⟨_,rfl,"set_iterator",_,⟨_,Heap.get?_push_size _ rfl,rfl⟩,eS.lookup,?_⟩));have e:(xs.map (ent hash)).toArray.size=xs.length:=by simp
 rw[e];exact h
end
section
variable{prog:aA}{w:av}{A:az}{E:ae->af->Prop}{s:af}{K:Type} [DecidableEq K]{hash:K->Int}
theorem pf{xs:Array Nat}(hr:Ri xs):below xs 0=0:=by
 obtain⟨a,b⟩:=gF hr 0;refine Nat.le_zero.mp (cH λq=>?_);have:=(b 0 xs[0] (Array.getElem?_eq_getElem (by lia))).mp q;lia
theorem pe{xs:Array Nat}(hr:Ri xs){i x:Nat}(h:xs[i]? = some x):below xs (x+1)=i+1:=by
 obtain⟨a,b⟩:=gF hr (x+1);have h1:=(b i x h).mpr (by lia);refine Nat.le_antisymm (cH λq=>?_) h1;have e:xs[i+1]? = some xs[i+1]:=Array.getElem?_eq_getElem (by lia);have:=(b _ _ e).mp q;have:=hr i (i+1) x _ (by lia) h e;lia
theorem k_{a:Addr}{xs:List (K×ae)}{ep slot i:Nat}{t:aP}(ho:s.heap.get? a=some (di (xs.map (ent hash)) ep t))(T:Tb w hash xs t)(hs:w.params.followText "set-order" = false->below t.place slot=i)
  {Q:Option (ae×Nat)->af->Prop}
  (h:∀slot',(w.params.followText "set-order" = false->i<xs.length->below t.place slot'=i+1)->Q (((dv w a ep (xs.map (ent hash)))[i]?).map λe=>(e.2,slot')) s):ak (ar prog w) A (setNext a slot i ep) Q E s:=by
 have hr:=Ri.of T.good.ri;unfold setNext;refine aq (wpAny_setState_of ho rfl T.fits ?_);dsimp only;unfold setsByText;refine aq (aq (wpAny_askSetting (aC ?_)));show ak _ _ (if w.params.followText "set-order" = true then _ else _) _ _ _;unfold dv at h;cases q:w.params.followText "set-order" with
 |true=>
  rw[q]at h;simp only[if_true]at h ⊢;rw[if_neg (by simp)];refine aq ?_;unfold setWalk;refine aq (wpAny_setState_of ho rfl T.fits ?_);dsimp only;unfold setsByText;refine aq (aq (wpAny_askSetting (aC ?_)));show ak _ _ (if w.params.followText "set-order" = true then _ else _) _ _ _;rw[q];simp only[if_true];refine aq (wpAny_askSetting (aC (aC ?_)));have:=h slot (λe=>by cases e);rw[Array.getElem?_toList]at this;exact this
 |false=>
  rw[q]at h;simp only[a_,if_false]at h ⊢;show ak _ _ (if (!t.plain&&decide ((xs.map (ent hash)).toArray.size>1))=true then _ else _) _ _ _;rw[T.plain];simp only[Bool.not_true,Bool.false_and,a_,if_false];refine aq ?_;show ak _ _ (if (!t.led && !(xs.map (ent hash)).toArray.isEmpty)=true then _ else _) _ _ _;rw[T.led,q];simp only[Bool.not_false,Bool.not_true,Bool.false_and,a_,if_false];refine aC ?_;rw[hs q];have ln:=T.good.len;rw[aZ]at ln;by_cases hi:i<xs.length
  ·have e1:(xs.map (ent hash)).toArray[i]? = some (ent hash xs[i]):=by simp[hi]
   have e2:t.place[i]? = some t.place[i]:=Array.getElem?_eq_getElem (by lia);rw[e1,e2];refine aC ?_;have:=h (t.place[i]+1) λ_ _=>pe hr e2
   rw[show (xs.map (ent hash))[i]? = some (ent hash xs[i])by simp[hi]]at this;exact this
  ·have e1:(xs.map (ent hash)).toArray[i]? = none:=by simp;lia
   rw[e1];refine aC ?_;have:=h 0 λ_ q=>absurd q hi
   rw[show (xs.map (ent hash))[i]? = none by simp;lia]at this;exact this
noncomputable def StI(w:av)(hash:K->Int)(I a:Addr)(xs:List (K×ae))(ep:Nat)(t:aP)(i:Nat)(h:Heap):Prop:=
 (∃slot,h.get? I=some (itO slot i a xs.length ep)/\(w.params.followText "set-order" = false->below t.place slot=i))/\h.get? a=some (di (xs.map (ent hash)) ep t)
theorem next_item{I a:Addr}(hne:a≠I){xs:List (K×ae)}{ep i:Nat}{t:aP}(T:Tb w hash xs t)(st:StI w hash I a xs ep t i s.heap){e:Int×ae}(he:(dv w a ep (xs.map (ent hash)))[i]? = some e){Q:Option ae->af->Prop}
  (hQ:∀h',StI w hash I a xs ep t (i+1) h'->Heap.SameBut I s.heap h'->Q (some e.2) {s with heap:=h'}):ak (ar prog w) A (pyNext (.ref I)) Q E s:=by
 obtain⟨⟨slot,hI,hs⟩,ho⟩:=st;have hT:s.TypeIs (.ref I) "set_iterator":=⟨_,hI,rfl⟩
 have il:i<xs.length:=by
  have:=(List.getElem?_eq_some_iff.mp he).1;rw[(fw ..).length_eq,aZ]at this;exact this
 unfold pyNext;refine aq (wpAny_attempt (wpAny_callSpecial?_slot (name:=bt "__next__") hT eS (wpAny_call_entry eS hT md ?_ (jZ _))));show ak _ _ (fieldsOf (.ref I)>>=_) _ _ s;refine aq (wpAny_fieldsOf hI rfl ?_);show ak _ _ (setEntries a>>=_) _ _ s;refine aq (wpAny_setEntries_of ho rfl T.fits ?_);rw[show ((((xs.map (ent hash)).toArray.size:Nat):Int) != ((xs.length:Nat):Int))=false by simp];simp only[a_,if_false];show ak _ _ (setNext a (Int.toNat ((slot:Nat):Int)) (Int.toNat ((i:Nat):Int)) (Int.toNat ((ep:Nat):Int))>>=_) _ _ s;rw[Int.toNat_natCast,Int.toNat_natCast,Int.toNat_natCast];refine aq (k_ ho T hs λslot' h1=>?_);rw[he];show ak _ _ (setField (.ref I) 0 (rawInt slot')>>=_) _ _ s;refine aq (wpAny_setField hI rfl (by simp) ?_);have hI2:(s.heap.update I (Obj.mapFields (·.setIfInBounds 0 (rawInt slot')))).get? I=some (itO slot' i a xs.length ep):=by
  rw[Heap.get?_update_self _ hI (Obj.isFreed_of_fields (Obj.data_mapFields (by rfl) _))];rfl
 refine aq (wpAny_setField hI2 rfl (by simp) ?_);have hI3:((s.heap.update I (Obj.mapFields (·.setIfInBounds 0 (rawInt slot')))).update I (Obj.mapFields (·.setIfInBounds 1 (rawInt ((i:Int)+1))))).get? I=some (itO slot' (i+1) a xs.length ep):=by
  rw[Heap.get?_update_self _ hI2 (Obj.isFreed_of_fields (Obj.data_mapFields (by rfl) _))];rfl
 refine aC ⟨e.2,rfl,aC (hQ _ ⟨⟨slot',hI3,λq=>h1 q il⟩,?_⟩ ((Heap.SameBut.update ..).trans (Heap.SameBut.update ..)))⟩;rw[Heap.get?_update_other _ _ (Ne.symm hne),Heap.get?_update_other _ _ (Ne.symm hne)];exact ho
theorem next_end{I a:Addr}(hh:A.handled=none){xs:List (K×ae)}{ep:Nat}{t:aP}(T:Tb w hash xs t)(st:StI w hash I a xs ep t xs.length s.heap){Q:Option ae->af->Prop}
  (hQ:∀h',Heap.ExtBut I s.heap h'->Q none {s with heap:=h'}):ak (ar prog w) A (pyNext (.ref I)) Q E s:=by
 obtain⟨⟨slot,hI,hs⟩,ho⟩:=st;have hT:s.TypeIs (.ref I) "set_iterator":=⟨_,hI,rfl⟩
 unfold pyNext;refine aq (wpAny_attempt (wpAny_callSpecial?_slot (name:=bt "__next__") hT eS (wpAny_call_entry eS hT md ?_ (jZ _))));show ak _ _ (fieldsOf (.ref I)>>=_) _ _ s;refine aq (wpAny_fieldsOf hI rfl ?_);show ak _ _ (setEntries a>>=_) _ _ s;refine aq (wpAny_setEntries_of ho rfl T.fits ?_);rw[show ((((xs.map (ent hash)).toArray.size:Nat):Int) != ((xs.length:Nat):Int))=false by simp];simp only[a_,if_false];show ak _ _ (setNext a (Int.toNat ((slot:Nat):Int)) (Int.toNat ((xs.length:Nat):Int)) (Int.toNat ((ep:Nat):Int))>>=_) _ _ s;rw[Int.toNat_natCast,Int.toNat_natCast,Int.toNat_natCast];refine aq (k_ ho T hs λslot' h1=>?_);rw[show (dv w a ep (xs.map (ent hash)))[xs.length]? = none from List.getElem?_eq_none (by rw[(fw ..).length_eq,aZ];exact aD _)];show ak _ _ (setField (.ref I) 2 .none>>=_) _ _ s;refine aq (wpAny_setField hI rfl (by simp) ?_);show ak _ _ (newExc (.type "StopIteration") []>>=_) _ _ _;refine aq ?_;simp only[newExc,newTuple];refine aq (cG ?_ (by size_fits));refine aq (m:=firstArgMember _ _) (wpAny_of_eq (a:=ae.none) (by first|rfl|(simp only[firstArgMember];rfl)) ?_);refine cG ?_ (by size_fits);simp only[raiseNew];refine aq (wpAny_handled ?_)
 first|rw[show A.in1.handled=none from hh]|rw[hh]
 refine aq (aC (wpAny_throw ?_));refine aq (wpAny_isInstance (T:="StopIteration") (b:=true) ⟨_,Heap.get?_push_size _ rfl,rfl⟩ isSubtype_stop ?_);exact aC (hQ _ (((Heap.SameBut.update ..).extBut.push _).push _))
theorem ux{I a:Addr}{xs:List (K×ae)}{ep i:Nat}{t:aP}(st:StI w hash I a xs ep t i s.heap){Q:ae->af->Prop}(h:Q (.ref I) s):ak (ar prog w) A (pyIter (.ref I)) Q E s:=by
 obtain⟨⟨slot,hI,hs⟩,ho⟩:=st;have hT:s.TypeIs (.ref I) "set_iterator":=⟨_,hI,rfl⟩
 refine wpAny_pyIter_slot hT ke (wpAny_call_entry ke hT t9 ?_ (uX _));show ak _ _ (ret (.ref I)) _ _ s;exact aC ⟨_,rfl,"set_iterator",_,hT,eS.lookup,h⟩
theorem walks(hh:A.handled=none)(I a:Addr)(hne:a≠I){xs:List (K×ae)}{ep:Nat}{t:aP}(T:Tb w hash xs t) :
  Walks prog w A I [I,a] [I] xs.length (λi v=>∃e,(dv w a ep (xs.map (ent hash)))[i]? = some e/\e.2=v) (λi h=>StI w hash I a xs ep t i h) where
 sub:=λb hb=>by simp at hb;simp[hb]
 frame:=λ_ _ _ st hk=>⟨let ⟨slot,x,y⟩:=st.1;⟨slot,hk I (by simp) _ x,y⟩,hk a (by simp) _ st.2⟩
 item:=λi s Q E hi st hQ=>by
  have il:i<(dv w a ep (xs.map (ent hash))).length:=by rw[(fw ..).length_eq,aZ];exact hi
  refine next_item hne T st (List.getElem?_eq_getElem il) λh' st' hs'=>?_
  exact hQ _ h' s.toks ⟨_,List.getElem?_eq_getElem il,rfl⟩ st' λb o hb e=>hs'.extBut b o (λh=>hb (by simp[h])) e
 done:=λs Q E st hQ=>next_end hh T st λh' he'=>hQ h' s.toks λb o hb e=>he' b o (λh=>hb (by simp[h])) e
 self:=λ_ _ _ _ st hQ=>ux st hQ
end
section
variable{prog:aA}{w:av}{A:az}{E:ae->af->Prop}{s:af}{K:Type} [DecidableEq K]{hash:K->Int}
theorem wY{a:Addr}{xs:List (K×ae)}{ep:Nat}{t:aP}(hh:A.handled=none)(ho:s.heap.get? a=some (di (xs.map (ent hash)) ep t))(T:Tb w hash xs t)(hn:xs.length<=aX){Q:List ae->af->Prop}
  (hQ:∀h' tk (acc:List ae),s.toks<=tk->s.heap.objs.size<h'.objs.size->(∀b o,s.heap.get? b=some o->h'.get? b=some o)->acc.Perm (xs.map (·.2))->Q acc {s with heap:=h',toks:=tk}):ak (ar prog w) A (collect (.ref a)) Q E s:=by
 have ha:a<s.heap.objs.size:=aK ho;have hSI:s.heap.objs.size≠a:=Nat.ne_of_gt ha;unfold collect;refine aq (wpAny_runValue (cb F.entry_proto_collect ?_));rw[cA F.plain_proto_collect _];show ak _ A.in1 (newList []>>=λl=>again (.builtin "list.__iadd__" ⟨[l,.ref a],[]⟩)) _ _ s;refine aq (cG ?_);refine aC ⟨plainId_quiet F.plain_list_iadd _,cb F.entry_list_iadd ?_⟩;rw[cA F.plain_list_iadd _];have ho₁:(s.heap.push {cls:=.type "list",data:=.seq ([]:List ae).toArray}).get? a=some (di (xs.map (ent hash)) ep t):=Heap.get?_push_of_some _ ho;have hT₁:af.TypeIs {s with heap:=s.heap.push {cls:=.type "list",data:=.seq ([]:List ae).toArray}} (.ref a) "set":=⟨_,ho₁,rfl⟩
 show ak _ A.in1 (Builtin.List.listExtendWith (.ref s.heap.objs.size) (.ref a) (.ref s.heap.objs.size)) _ _ _;unfold Builtin.List.listExtendWith;refine aq (wpAny_typeOf hT₁ ?_);have h1:Builtin.List.listSameRef (.ref s.heap.objs.size) (.ref a)=false:=by simp[Builtin.List.listSameRef,hSI]
 have h2:(ae.type "set" == ae.type "list")=false:=by decide
 have h3:(ae.type "set" == ae.type "tuple")=false:=by decide
 simp only[h1,h2,h3,Bool.or_false,a_,if_false];refine aq (uz ho₁ T ?_);have hsz:(s.heap.push {cls:=.type "list",data:=.seq ([]:List ae).toArray}).objs.size=s.heap.objs.size+1:=bQ ..;have ho₂:=Heap.get?_push_of_some (itO 0 0 a xs.length ep) ho₁;have hI₂:((s.heap.push {cls:=.type "list",data:=.seq ([]:List ae).toArray}).push (itO 0 0 a xs.length ep)).get? (s.heap.push {cls:=.type "list",data:=.seq ([]:List ae).toArray}).objs.size=some (itO 0 0 a xs.length ep):=Heap.get?_push_size _ rfl;have hT₂:af.TypeIs {s with heap:=(s.heap.push {cls:=.type "list",data:=.seq ([]:List ae).toArray}).push (itO 0 0 a xs.length ep)} (.ref a) "set":=⟨_,ho₂,rfl⟩
 refine aq (b5 ?_);unfold Builtin.List.listLengthHint;refine aq (wpAny_specialOf hT₂ PySem.F.slot_set_len.lookup ?_);show ak _ A.in1 (isInstance (ae.ref a) (.type "set")>>=_) _ _ _;refine aq (wpAny_isInstance hT₂ sub_set_self ?_);simp only[Bool.not_true,a_,if_false];show ak _ A.in1 (typeOf (ae.ref a)>>=_) _ _ _;refine aq (wpAny_typeOf hT₂ ?_);refine aC ?_;show ak _ A.in1 (rule "list.extend.makes-room" >>= λ_=>Builtin.List.listTouch (.ref s.heap.objs.size)>>=λ_=>
  again (.builtin "list.extend.loop" ⟨[.ref s.heap.objs.size,.ref (s.heap.push {cls:=.type "list",data:=.seq ([]:List ae).toArray}).objs.size,.ref s.heap.objs.size],[]⟩)) _ _ _
 refine aq (wpAny_rule ?_);have hS₁:((s.heap.push {cls:=.type "list",data:=.seq ([]:List ae).toArray}).push (itO 0 0 a xs.length ep)).get? s.heap.objs.size=some {cls:=.type "list",data:=.seq ([]:List ae).toArray}:=Heap.get?_push_of_some _ (Heap.get?_push_size _ rfl);rw[hsz]at *;generalize hH:(s.heap.push {cls:=.type "list",data:=.seq ([]:List ae).toArray}).push (itO 0 0 a xs.length ep)=H1 at *;have old1:∀b o,s.heap.get? b=some o->H1.get? b=some o:=λb o e=>by rw[<-hH];exact Heap.get?_push_of_some _ (Heap.get?_push_of_some _ e)
 refine aq ?_;show ak _ A.in1 (updateSeq s.heap.objs.size (·.push .none)>>=λ_=>updateSeq s.heap.objs.size (·.pop)) _ _ _;refine aq (wpAny_updateSeq hS₁ rfl ?_);have hS₂:=Heap.get?_update_self (bG (·.push ae.none)) hS₁ rfl;refine wpAny_updateSeq hS₂ rfl ?_;have hS₃:=Heap.get?_update_self (bG (·.pop)) hS₂ rfl;have oth:∀b o,b≠s.heap.objs.size->H1.get? b=some o->((H1.update s.heap.objs.size (bG (·.push ae.none))).update s.heap.objs.size (bG (·.pop))).get? b=some o:=
  λb o hb e=>(Heap.get?_update_other _ _ (Ne.symm hb)).trans ((Heap.get?_update_other _ _ (Ne.symm hb)).trans e)
 have hne:a≠s.heap.objs.size+1:=a9 (cF ha);have hSf:s.heap.objs.size∉[s.heap.objs.size+1,a]:=by
  simp only[aJ,bD,or_false,not_or];exact⟨a9 (Nat.lt_succ_self _),hSI⟩
 refine aC ⟨plainId_quiet F.plain_extend_loop _,codeAny_extend_loopS ((walks (prog:=prog) (A:=A.in1) hh (s.heap.objs.size+1) a hne (ep:=ep) T).toS) hn _ hSf _ xs.length 0 _ _ _ rfl (bp _)
  ⟨⟨0,oth _ _ (Nat.succ_ne_self _) hI₂,λ_=>pf (Ri.of T.good.ri)⟩,oth _ _ (Ne.symm hSI) ho₂⟩ hS₃ (ItemsOf.nil _) λs' acc' c' hm hS' hacc=>?_⟩
 show ak _ A (load s.heap.objs.size>>=_) _ _ s';refine aq (wpAny_load hS' ?_);obtain⟨h',g',d',tk',os'⟩:=s';have eg:g'=s.gens:=hm.gens;have ed:d'=s.drawn:=hm.drawn;have eo:os'=s.os:=hm.os;subst eg;subst ed;subst eo;refine aC (hQ h' tk' acc'.toList hm.toks (aK hS') (λb o e=>?_) ?_)
 ·have hb:=aK e;refine hm.heap b o (λq=>?_) (oth b o (a9 hb) (old1 b o e));rcases aJ.mp q with q|q
  ·exact absurd q (a9 hb)
  ·exact absurd (List.mem_singleton.mp q) (a9 (cF hb))
 ·have e1:acc'.toList=(dv w a ep (xs.map (ent hash))).map (·.2):=by
   refine List.ext_getElem? λi=>?_
   have ln:(dv w a ep (xs.map (ent hash))).length=xs.length:=by rw[(fw ..).length_eq,aZ]
   rw[Array.getElem?_toList,List.getElem?_map];by_cases hi:i<xs.length
   ·have hi':i<acc'.size:=by rw[hacc.1];exact hi
    have e2:acc'[i]? = some acc'[i]:=Array.getElem?_eq_getElem hi';obtain⟨e,e3,e4⟩:=hacc.2 i _ e2;rw[e2,e3,<-e4];rfl
   ·rw[Array.getElem?_eq_none (by rw[hacc.1];lia),List.getElem?_eq_none (by lia)];rfl
  rw[e1];refine((fw w a ep _).map _).trans ?_;rw[List.map_map];exact .refl _
end
end ST
namespace ST
open PySem PySem.Spec PySem.SetTable PyProof.Rows
section
variable{prog:aA}{w:av}{A:az}{E:ae->af->Prop}{s:af}
noncomputable def vInt:ae->Int
 | .int n _=>n
 |_=>0
theorem ints_map:∀{acc:List ae},(∀v∈acc,∃n t,v=.int n t)->PyProof.Rows.IntsAre acc (acc.map vInt)
 | [],_=>.nil
 |v::acc,h=>by
  obtain⟨n,t,rfl⟩:=h v aW;exact .cons n t (ints_map λu hu=>h u (aS _ hu))
theorem w9{a:Addr}{xs:List (Int×ae)}{ep:Nat}{t:aP}(hh:A.handled=none)(ho:s.heap.get? a=some (di (xs.map (ent hashInt)) ep t))(T:Tb w hashInt xs t)(hel:∀x∈xs,∃t,x.2=.int x.1 t)(hn:xs.length<1200){Q:ae->af->Prop}
  (h:∀(h':Heap) (tk:Nat) (D:Addr) (out:List ae) (ns:List Int) (c:Nat),s.heap.objs.size<=D->(∀b o,s.heap.get? b=some o->h'.get? b=some o)->h'.get? D=some {cls:=.type "list",data:=.seq out.toArray c}->PyProof.Rows.IntsAre out ns->ns.Perm (xs.map (·.1))->ns.Pairwise (·<=·)->Q (.ref D) {s with heap:=h',toks:=tk}) :
  ak (ar prog w) A (call (.builtin "sorted") [.ref a]) Q E s:=by
 refine Calls.call_function_entry kind_sorted plain_sorted entry_sorted (PyProof.Rows.args_sorted1 _) ?_;unfold Builtin.«sorted»;refine aq (m:=checkCount "sorted" 1 1 _) (aC ?_);refine aq (wY (A:=A.in1) hh ho T (by rw[bw];lia) λh1 tk acc _ hs1 k1 pm=>?_);have hI:∀v∈acc,∃n t,v=.int n t:=λv hv=>by
  obtain⟨x,hx,rfl⟩:=bh.mp (pm.mem_iff.mp hv);obtain⟨t,e⟩:=hel x hx;exact⟨_,t,e⟩
 have al:acc.length=xs.length:=by rw[pm.length_eq,aZ]
 refine aq (wpAny_newList (hsz:=by rw[bw,al];lia) ?_);have hL:(h1.push (PyProof.Rows.seqObj "list" acc.toArray 0)).get? h1.objs.size=some (PyProof.Rows.seqObj "list" acc.toArray 0):=Heap.get?_push_size _ rfl;show ak _ _ _ _ _ ({s with heap:=h1.push (PyProof.Rows.seqObj "list" acc.toArray 0),toks:=tk}:af);refine aq (b5 ?_);refine wpAny_call_entry PyProof.Rows.slot_list_sort ⟨_,hL,rfl⟩ PyProof.Rows.entry_list_sort (TS.nI hL (ints_map hI) (by rw[al,bw];lia) λout ns' a1 a2 a3=>⟨_,rfl,?_⟩) (PyProof.Rows.args_list_sort _);obtain⟨c,hc⟩:=PyProof.Rows.sortedHeap_at (out:=out) hL;refine aC ⟨_,rfl,h _ tk _ out.toList ns' c (Nat.le_of_lt hs1) (λb o e=>?_) (by rw[Array.toArray_toList];exact hc) a1 (a2.trans ?_) a3⟩
 ·have e1:=k1 b o e;have hb:=aK e1;show (PyProof.Rows.sortedHeap _ _ _ _).get? b=some o;rw[PyProof.Rows.sortedHeap_old (a9 hb) (by rw[bQ];exact cF hb)];exact Heap.get?_push_of_some _ e1
 ·refine(pm.map vInt).trans ?_;rw[List.map_map,show xs.map (vInt∘λx=>x.2)=xs.map (·.1)from List.map_congr_left λx hx=>by obtain⟨t,e⟩:=hel x hx;simp[e,vInt]]
end
end ST
namespace L2
open PySem PySem.Spec PyProof.Rows
variable{X:Cx}
noncomputable def gB(w:av)(p:Addr)(ns:List Int):Heap->Prop:=λh=>∃o xs,h.get? p=some o/\ST.eA w hashInt xs o/\(∀x∈xs,∃t,x.2=.int x.1 t)/\(∀k,k∈xs.map (·.1)↔k∈ns)/\xs.length<1200
noncomputable def l6(X:Cx):List V->Hp->VK->Prop:=λvs H Q=>∃(l:Addr) (ns:List Int),vs=[.ref l]/\(SqL X.K H l (ns.map V.int)\/SqT X.K H l (ns.map V.int))/\ns.length<1200/\∀p,H p=none->Q (.ref p) (upd H p (.ext (gB X.w p ns)))
theorem getD_mem{α:Type} [DecidableEq α](l:List α)(d:α)(k:α):(∃j,j<l.length/\l.getD j d=k)↔k∈l:=by
 constructor
 ·rintro⟨j,hj,rfl⟩;rw[List.getD_eq_getElem?_getD,List.getElem?_eq_getElem hj];exact cJ hj
 ·intro h;obtain⟨i,hi,rfl⟩:=List.getElem_of_mem h;exact⟨i,hi,by rw[List.getD_eq_getElem?_getD,List.getElem?_eq_getElem hi];rfl⟩
theorem yy(hc:X.calm=true):zd X (.type "set") (l6 X):=by
 intro pins s σ H xs us Q I r ⟨l,ns,e,hl,h64,q⟩;subst e;obtain⟨u,rfl,ru⟩:=r.one;cases ru;have fin:∀{its:List ae} (h':Heap) (tk:Nat),its.length=ns.length->ST.Holds (ST.inK X.prog X.w) s.heap h' s.heap.objs.size (λi=>ns.getD i 0) its.toArray.size->(∀b o,b<s.heap.objs.size->s.heap.get? b=some o->h'.get? b=some o)->EP X pins σ Q (.ref s.heap.objs.size) {s with heap:=h',toks:=tk}:=by
  intro its h' tk hle ⟨o,ys,e1,e2,e3,e4,e5⟩ hk;rw[aU,hle]at e4 e5;refine⟨.ref _,_,I.laid (t':=tk) (o:=.ext (gB X.w s.heap.objs.size ns)) (λb o e=>hk b o (aK e) e) (aD _) ⟨⟨o,ys,e1,e2,e3,λk=>(e4 k).trans (getD_mem ns 0 k),by lia⟩,⟨_,e1⟩,λh1 h2 ⟨o,ys,a1,a2⟩ k=>⟨o,ys,k _ a1,a2⟩⟩,rfl,q _ I.fresh⟩
 rcases hl with hl|hl
 ·obtain⟨its,rv,pl,hz⟩:=I.list hl;have hI:=intsAre_of rv;have hle:=bf.length hI;exact ST.call_set_list (D:=ST.inK X.prog X.w) (I.ok.hd hc) trivial pl.isList (λi=>ns.getD i 0) (λi v hv=>bf.int_at hI i v (by simpa using hv)) (by rw[aU,hle];exact h64) λh' tk hH hk=>fin h' tk hle hH hk
 ·obtain⟨its,rv,pl,hz⟩:=I.tuple hl;have hI:=intsAre_of rv;have hle:=bf.length hI;exact ST.wj (D:=ST.inK X.prog X.w) (I.ok.hd hc) trivial pl (λi=>ns.getD i 0) (λi v hv=>bf.int_at hI i v (by simpa using hv)) (by rw[aU,hle];exact h64) λh' tk hH hk=>fin h' tk hle hH hk
theorem uA:zd X (.builtin "len") (λvs H Q=>∃(p:Addr) (φ:Heap->Prop) (n:Nat),vs=[.ref p]/\H p=some (.ext φ)/\(∀h,φ h->∃es ep t,h.get? p=some (ST.di es ep t)/\t.fits es.toArray.size=true/\es.length=n/\n<1200)/\Q (.int n) H):=by
 intro pins s σ H xs us Q I r ⟨p,φ,n,e,hp,hφ,q⟩;subst e;obtain⟨u,rfl,ru⟩:=r.one;cases ru;obtain⟨h1,_⟩:=I.hok p _ hp;obtain⟨es,ep,t,e1,e2,e3,e4⟩:=hφ _ h1;refine call_len_set e1 ⟨rfl,rfl,rfl⟩ rfl e2 (by simp;lia) ?_;rw[show es.toArray.size=n by simpa using e3];exact⟨.int n,H,I.tok _,⟨_,rfl⟩,q⟩
theorem oi(hc:X.calm=true):zd X (.builtin "sorted") (λvs H Q=>∃(p:Addr) (ns:List Int),vs=[.ref p]/\H p=some (.ext (gB X.w p ns))/\∀(D:Addr) (ms:List Int),H D=none->ms.Nodup->(∀k,k∈ms↔k∈ns)->ms.Pairwise (·<=·)->Q (.ref D) (upd H D (.lst (ms.map V.int)))):=by
 intro pins s σ H xs us Q I r ⟨p,ns,e,hp,q⟩;subst e;obtain⟨u,rfl,ru⟩:=r.one;cases ru;obtain⟨⟨o,ys,e1,⟨ep,t,rfl,T⟩,e3,e4,e5⟩,_⟩:=I.hok p _ hp;refine ST.w9 (I.ok.hd hc) e1 T e3 e5 λh' tk D out ms c hD hk hl a1 a2 a3=>?_
 have hle:=bf.length a1;exact⟨.ref D,_,I.laid (t':=tk) (o:=.lst (ms.map V.int)) hk hD ⟨by rw[aZ,a2.length_eq,aZ,bw];lia,out,c,kZ a1,hl⟩,rfl,q D ms (I.hok.fresh hD) (a2.nodup_iff.mpr T.nd) (λk=>a2.mem_iff.trans (e4 k)) a3⟩
end L2
namespace ST
open PySem PySem.Spec PySem.SetTable PyProof.Rows TS L2
section
variable{prog:aA}{w:av}{A:az}{E:ae->af->Prop}{s:af}
end
end ST
namespace L2
open PySem PySem.Spec PyProof.Rows TS
variable{X:Cx}
end L2
namespace EV
open PySem PySem.Spec PySem.P PyProof.Rows L2
theorem gf{α:Type} [DecidableEq α]{x:α}:∀{l:List α},x∈uq l↔x∈l
 | []=>.rfl
 |a::l=>by
  rw[uq];split
  ·rename_i h
   rw[gf,aJ];exact⟨.inr,λz=>z.elim (λe=>e▸h) id⟩
  ·rw[aJ,aJ,gf]
theorem i9{α:Type} [DecidableEq α]:∀(l:List α),(uq l).Nodup
 | []=>.nil
 |a::l=>by
  rw[uq];split
  ·exact i9 l
  ·rename_i h
   exact List.nodup_cons.mpr ⟨λz=>h (gf.mp z),i9 l⟩
theorem gQ{α:Type} [DecidableEq α]{l m:List α}(h1:m.Nodup)(h2:∀k,k∈m↔k∈l):m.Perm (uq l):=
 (List.perm_ext_iff_of_nodup h1 (i9 l)).mpr λk=>(h2 k).trans gf.symm
theorem pP{c:Cc}{b:B1}{as:List Expr}{a:Expr}(h:jr c b as=some a):∃y p3 pos3,as=[.Call (.Name y p3) [a] [] pos3]/\(b=.sorted\/b=.len)/\glob c y=some .set/\isStar a=false/\c.calm=true:=by
 unfold jr at h;split at h
 ·split at h
  ·rename_i hq
   cases h;simp only[aM,b9,beq_iff_eq,bJ]at hq;exact⟨_,_,_,rfl,hq.1.1.1.1,hq.1.1.2,hq.1.2,hq.2⟩
  ·cases h
 ·cases h
section
variable{w:W}{g:Gc}{c:Cc}{E:XK}{X:Cx}{a:Expr}{ia:EV.E}{pos p2 p3 pos3:Pos}
theorem t4(O:XO w g c E X)(hc:X.calm=true){x y:Str}{b:B1}(hb:b=.sorted\/b=.len)(hx:glob c x=some (.bi b))(hy:glob c y=some .set)(ha:PE X a (tE w g c E ia))(hs:isStar a=false) :
  PE X (.Call (.Name x p2) [.Call (.Name y p3) [a] [] pos3] [] pos) (tE w g c E (.sset (b==.len) ia)):=by
 obtain⟨h1,h2,id,h3⟩:=O.gm hx;have hbt:=mO b;rw[<-h2,h3]at hbt;obtain⟨r1,r2⟩:=O.gm hy;have hK:=O.K;have hr:=eE (p:=p3) (pos:=pos3) (yy hc) (O.gl hy) r1 r2 (zi ha zG (qe hs)) (qm hy).2.2.2 (qm hy).2.2.1 (qe hs);have arg:∀{S:Sh}{H:Hp}{da:D}{va:V}{xs:List D},zp g H S da va->seq? da=some xs->∃l vs,va=.ref l/\(SqL g.K H l vs\/SqT g.K H l vs)/\qF g (hid H S) xs vs:=λ{S H da va xs} r e=>by
  cases da with
  |tup ys=>cases e;obtain⟨l,vs,rfl,q1,q2⟩:=r.tup;exact⟨l,vs,rfl,.inr q1,q2⟩
  |lst ys=>cases e;obtain⟨l,vs,rfl,q1,q2⟩:=r.lst;exact⟨l,vs,rfl,.inl q1,q2⟩
  |_=>cases e
 have hbc:∀(r:List V->Hp->VK->Prop),zd X (b1V b) r->PE X (.Call (.Name x p2) [.Call (.Name y p3) [a] [] pos3] [] pos) (tCB r (eI (tCB (l6 X) (eI (tE w g c E ia) eN)) eN)):=λr hcall=>by
  rw[h3]at hcall;exact jk hcall (O.gl hx) h1 hbt (zi hr zG) (qm hx).2.2.2 (qm hx).2.2.1
 rcases hb with rfl|rfl
 ·refine PE.imp (hbc _ (oi hc)) λσ H Q ⟨τ,S,se,q⟩=>?_
  simp only[qU,qX,qV,za,qW,zb,qZ,zc,qY,qt,qz,qs,qw,qu,qi,qD,qB,qA,qx,qy,qC,qo,qq,qP,qE,qr,qJ,qM,qN,qO,qI,qL,qK,qp,qH]at q;refine qS se q λda va H1 e1 p1 k1=>?_
  unfold dZ at k1;cases e2:seq? da with
  |none=>rw[e2]at k1;exact k1.elim
  |some xs=>
   rw[e2]at k1;simp only[cg]at k1;by_cases h64:xs.length<1200
   ·rw[if_pos h64]at k1;obtain⟨l,vs,rfl,hl,rr⟩:=arg p1.rb e2;cases e3:ints? xs with
    |some ns=>
     rw[e3]at k1;obtain⟨rfl,rfl⟩:=rr.ints e3;refine⟨l,ns,rfl,by rw[hK];exact hl,by simpa using h64,λp hp=>⟨p,ns,rfl,zk,λD ms hD nd mem pw=>?_⟩⟩;have s1:=zg (o:=.ext (gB X.w p ns)) hp;have e4:=jM (gQ nd mem) pw;subst e4;refine k1 _ _ (br.of ((p1.same.trans s1).trans (zg hD)) (eM (se.sub.same (p1.same.trans s1)) hD (qF.ofInts _)) rfl)
    |none=>
     rw[e3]at k1;exact bq k1
   ·rw[if_neg h64]at k1;exact k1.elim
 ·refine PE.imp (hbc _ uA) λσ H Q ⟨τ,S,se,q⟩=>?_
  simp only[qU,qX,qV,za,qW,zb,qZ,zc,qY,qt,qz,qs,qw,qu,qi,qD,qB,qA,qx,qy,qC,qo,qq,qP,qE,qr,qJ,qM,qN,qO,qI,qL,qK,qp,qH]at q;refine qS se q λda va H1 e1 p1 k1=>?_
  unfold dZ at k1;cases e2:seq? da with
  |none=>rw[e2]at k1;exact k1.elim
  |some xs=>
   rw[e2]at k1;simp only[cg]at k1;by_cases h64:xs.length<1200
   ·rw[if_pos h64]at k1;obtain⟨l,vs,rfl,hl,rr⟩:=arg p1.rb e2;cases e3:ints? xs with
    |some ns=>
     rw[e3]at k1;obtain⟨rfl,rfl⟩:=rr.ints e3;refine⟨l,ns,rfl,by rw[hK];exact hl,by simpa using h64,λp hp0=>⟨p,_,(uq ns).length,rfl,zk,λh ⟨o,ys,a1,⟨ep,t,a2,T⟩,a3,a4,a5⟩=>⟨_,ep,t,by rw[<-a2];exact a1,T.fits,?_,?_⟩,?_⟩⟩
     ·rw[aZ];have:=(gQ T.nd a4).length_eq;rw[aZ]at this;exact this
     ·have:=(gQ T.nd a4).length_eq;rw[aZ]at this;lia
     ·exact k1 _ _ (br.of (p1.same.trans (zg hp0)) (.int _) rfl)
    |none=>
     rw[e3]at k1;exact bq k1
   ·rw[if_neg h64]at k1;exact k1.elim
end
section
variable{w:W}{g:Gc}{n:Nat}
theorem Snd.call_name(ih:Snd w g n){c:Cc}{E:XK}{X:Cx}(O:XO w g c E X){f:Str}{p pos:Pos}{as:List Expr}{ir:EV.E}(h:cE (n+1) c (.Call (.Name f p) as [] pos)=some ir):PE X (.Call (.Name f p) as [] pos) (tE w g c E ir):=by
 unfold cE at h;dsimp only at h;split at h
 ·rename_i i hl
  simp only[aH,aG]at h;obtain⟨ies,h1,h⟩:=h;split at h
  ·rename_i hc
   simp only[aM,bJ]at hc;cases h;obtain⟨⟨hc1,hc2⟩,hc3⟩:=hc
   match as with
   | []=>simp at hc2
   |e::es=>exact kB O (O.calm hc3) (ng O hl) (ih.es O h1) hc1 (zS h1) rfl
  ·cases h
 ·split at h
  ·rename_i fr hg
   simp only[aH,aG]at h;obtain⟨ies,h1,h⟩:=h;split at h
   ·rename_i hc
    simp only[aM,bJ]at hc;cases h
    match as with
    | []=>simp at hc
    |e::es=>exact xQ O hg (ih.es O h1) hc.1 (zS h1)
   ·split at h
    ·rename_i hc
     simp only[bJ]at hc;cases h
     match as with
     | []=>simp at hc
     |e::es=>exact rG O hg (ih.es O h1) (zS h1)
    ·cases h
  ·rename_i b hg
   split at h
   ·rename_i a hs
    obtain⟨y,p3,pos3,rfl,hb,hy,hst,hc⟩:=pP hs;rw[bH]at h;obtain⟨ia,h1,rfl⟩:=h;exact t4 O (O.calm hc) hb hg hy (ih.e O h1) hst
   simp only[aH,aG]at h;obtain⟨ies,h1,h⟩:=h;split at h
   ·rename_i hc
    simp only[aM,bJ,b9,beq_iff_eq]at hc;cases h
    match as with
    | []=>simp at hc
    |e::es=>exact uI O hg (by rcases hc.2 with (z|z)|z;exact .inl (O.calm z);exact .inr (.inl z);exact .inr (.inr z)) (ih.es O h1) (zS h1)
   ·cases h
  ·rename_i t b hg
   have plain:∀{ies:Es},cEs n c as=some ies->as.isEmpty=false->PE X (.Call (.Name f p) as [] pos) (tE w g c E (.bi b ies)):=λ{ies} h1 he=>by
    match as with
    | []=>simp at he
    |e::es=>exact oC O hg (ih.es O h1) (zS h1)
   split at h
   ·rename_i y p' as' q
    split at h
    ·rename_i hr
     simp only[aM,beq_iff_eq]at hr;split at h
     ·rename_i hc
      simp only[aM,b9,beq_iff_eq]at hc;split at h
      ·rename_i a
       split at h
       ·cases h
       ·rename_i hs
        have hs:isStar a=false:=by simpa using hs
        simp only[aH,aG]at h;obtain⟨ia,h1,h⟩:=h;cases h;exact jG O (O.calm hc.1) hg hr.2 (wU (ih.e O h1) hs) (by intro z hz;simp at hz;rw[hz];exact hs) hc.2 rP
      ·rename_i a d
       split at h
       ·cases h
       ·rename_i hs
        have hs:isStar a=false/\isStar d=false:=by simpa using hs
        simp only[aH,aG]at h;obtain⟨ia,h1,ib,h2,h⟩:=h;cases h;exact jG O (O.calm hc.1) hg hr.2 (zi (ih.e O h1) (zi (ih.e O h2) zG (qe hs.2)) (qe hs.1)) (by intro z hz;simp at hz;rcases hz with rfl|rfl;exact hs.1;exact hs.2) hc.2 vi
      ·rename_i a d k
       split at h
       ·cases h
       ·rename_i hs
        have hs:(isStar a=false/\isStar d=false)/\isStar k=false:=by simpa[and_assoc]using hs
        simp only[aH,aG]at h;obtain⟨ia,h1,ib,h2,id,h3,h⟩:=h;split at h
        ·rename_i ht
         have ht:=eq_of_beq ht;subst ht;cases h;exact oI O (O.calm hc.1) hg hr.2 (ih.e O h1) (ih.e O h2) (ih.e O h3) hs.1.1 hs.1.2 hs.2
        ·cases h
      ·cases h
     ·cases h
    ·simp only[aH,aG]at h;obtain⟨ies,h1,h⟩:=h;cases h;exact plain h1 rfl
   ·simp only[aH,aG]at h;obtain⟨ies,h1,h⟩:=h;split at h
    ·rename_i hc
     cases h;exact plain h1 (by simpa using hc)
    ·cases h
  ·rename_i hg
   split at h
   ·rename_i a k
    split at h
    ·cases h
    ·rename_i hs
     simp only[aH,aG]at h;obtain⟨ia,h1,cl,h2,h⟩:=h;cases h;exact uT O hg (ih.e O h1) h2 (by simpa using hs)
   ·cases h
  ·cases h
theorem iY:∀{n:Nat}{c:Cc}{l:List Expr}{es:Es},cEs n c l=some es->l.length<=n
 | 0,_,_,_,h=>by simp[cEs]at h
 |n+1,_,[],_,_=>by simp
 |n+1,c,x::l,es,h=>by
  have hs:=zS h x aW;simp only[cEs,hs,a_,if_false,aH,aG]at h;obtain⟨_,_,r,hr,_⟩:=h;have:=iY hr
  simpa using this
theorem kr{c:Cc}{elt:Expr}{gs:List b6}{sc:aY}{p:Pos}{ir:EV.E}(h:cE (n+1) c (.ListComp elt gs sc p)=some ir) :
  ∃tgt it ifs iit itg it' ie,gs=[⟨tgt,it,ifs,0⟩]/\(c.calm=true/\zj it=true)/\(fA (λx=>c.nm.lookup x) c.N (zK sc.names) (eW c sc.names) sc=true/\(zK sc.names).Nodup)/\cI n c it=some iit/\cTg (cy c sc) tgt=some itg/\ee n (cy c sc) ifs=some it'/\cE n (cy c sc) elt=some ie/\(esc ie=true/\eK iit tgt=true)/\ir=.comp iit (eW c sc.names) itg it' ie:=by
 unfold cE at h;dsimp only at h;split at h
 ·rename_i tgt it ifs asy
  split at h
  ·cases h
  ·rename_i hs
   have hs:(asy=0/\c.calm=true)/\zj it=true:=by simpa using hs
   obtain⟨⟨rfl,hs1⟩,hs2⟩:=hs;split at h
   ·cases h
   ·rename_i hk
    have hk:fA (λx=>c.nm.lookup x) c.N (zK sc.names) (eW c sc.names) sc=true/\(zK sc.names).Nodup:=by simpa using hk
    simp only[aH,aG]at h;obtain⟨iit,h1,itg,h2,it',h3,ie,h4,h⟩:=h;split at h
    ·rename_i he
     simp only[aM]at he;cases h;exact⟨tgt,it,ifs,iit,itg,it',ie,rfl,⟨hs1,hs2⟩,hk,h1,h2,h3,h4,he,rfl⟩
    ·cases h
 ·cases h
theorem Snd.e_succ(ih:Snd w g n)(hn:n<=100000){c:Cc}{E:XK}{X:Cx}(O:XO w g c E X){x:Expr}{ir:EV.E}(h:cE (n+1) c x=some ir):PE X x (tE w g c E ir):=by
 have h0:=h;unfold cE at h;split at h
 ·-- Name
  rename_i y p
  split at h
  ·rename_i i hl
   have:=ng (w:=w) (E:=E) (pos:=p) O hl;cases ho:c.own.contains y with
   |true=>rw[ho]at h this;cases h;exact this
   |false=>rw[ho]at h this;cases h;exact this
  ·split at h
   ·rename_i hg;cases h;exact ym O hg
   ·rename_i fr hg;cases h;exact pD O hg
   ·cases h
 ·split at h
  ·cases h;exact fZ rV λ_=>.int _
  ·cases h;exact fZ rh λ_=>.bl _
  ·cases h;exact fZ uS λ_=>.non
  ·cases h;exact fZ pq λ_=>.str _
  ·cases h
 ·simp only[aH,aG]at h;obtain⟨o,ho,ia,h1,ib,h2,h⟩:=h;cases h;exact xo O ho (ih.e O h1) (ih.e O h2)
 ·rename_i op a p
  simp only[aH,aG]at h;obtain⟨ia,h1,h⟩:=h;cases op with
  |USub=>cases h;exact yo (ih.e O h1)
  |Invert=>cases h;exact xT (ih.e O h1)
  |Not=>cases h;exact rZ (ih.e O h1)
  |UAdd=>cases h
 ·exact(ih.bo O h).1
 ·split at h
  ·simp only[aH,aG]at h;obtain⟨ia,h1,ib,h2,h⟩:=h;split at h
   ·rename_i hs;cases h;exact sW O (ih.e O h1) (ih.e O h2) hs
   ·cases h
  ·simp only[aH,aG]at h;obtain⟨ia,h1,ib,h2,id',h3,h⟩:=h;split at h
   ·rename_i hs
    simp only[aM]at hs;cases h;exact xN O (ih.e O h1) (ih.e O h2) (ih.e O h3) hs.2
   ·cases h
  ·simp only[aH,aG]at h;obtain⟨ia,h1,ib,h2,id',h3,if',h4,h⟩:=h;split at h
   ·rename_i hs
    simp only[aM]at hs;cases h;exact vP O (ih.e O h1) (ih.e O h2) (ih.e O h3) (ih.e O h4) hs.2
   ·cases h
  ·cases h
 ·simp only[aH,aG]at h;obtain⟨it,h1,ia,h2,ib,h3,h⟩:=h;split at h
  ·rename_i hs
   simp only[aM]at hs;cases h;exact w8 (ih.t O h1) (ih.e O h2) (ih.e O h3) hs.1 hs.2
  ·cases h
 ·simp only[aH,aG]at h;obtain⟨ies,h1,h⟩:=h;split at h
  ·rename_i hs;cases h
   exact pN (ih.es O h1) hs λτ ds e=>by rw[iZ h1 e];exact bz (iY h1) hn
  ·cases h
 ·simp only[aH,aG]at h;obtain⟨ies,h1,h⟩:=h;split at h
  ·rename_i hs;cases h
   exact vx (ih.es O h1) hs λτ ds e=>by rw[iZ h1 e];exact bz (iY h1) hn
  ·cases h
 ·split at h
  ·rename_i lo hi st' sp
   split at h
   ·cases h
   ·simp only[aH,aG]at h;obtain⟨ia,h1,il,h2,ih',h3,h⟩:=h;cases h;exact yD O (ih.e O h1) (ih.o O h2) (ih.o O h3)
  ·split at h
   ·cases h
   ·rename_i hs
    simp only[aH,aG]at h;obtain⟨ia,h1,ib,h2,h⟩:=h;cases h;exact yu O (ih.e O h1) (ih.e O h2) (by simpa using hs)
 ·-- ListComp
  rename_i elt gs sc p
  obtain⟨tgt,it,ifs,iit,itg,it',ie,rfl,hs,hk,h1,h2,h3,h4,he,rfl⟩:=kr h0;have hS:zI X (zK sc.names) (eW c sc.names) sc:=zI.of (by
   have e1:(λx=>c.nm.lookup x)=X.env.kindOf:=by funext x;show _=X.env.scope.names.lookup x;rw[O.nm]
   rw[<-e1,O.N];exact hk.1)
  refine vj O (O.calm hs.1) hS hk.2 (ih.i O h1 he.2) (λcl C s₀ H₀ fp=>?_) he.1 hs.2;have OY:=O.comp hS.kind hk.2 cl C s₀ H₀ fp;exact⟨gr OY h2,ih.ifs OY h3,ih.e OY h4⟩
 ·split at h
  ·split at h
   ·exact ih.call_name O h0
   ·simp only[aH,aG]at h;obtain⟨ifn,h1,ies,h2,h⟩:=h;split at h
    ·rename_i as pos _ _ _ _ _ hc
     simp only[aM,bJ]at hc;cases h
     match as with
     | []=>simp at hc
     |e::es=>exact kB O (O.calm hc.2) (ih.e O h1) (ih.es O h2) hc.1.1 (zS h2) rfl
    ·cases h
   ·split at h
    ·rename_i hm
     cases h;exact pQ O hm
    ·cases h
   ·cases h
  ·cases h
 ·cases h
theorem rF:Snd w g 0:=⟨λ_ _ _ h=>(by cases h),λ_ _ _ _ _ h=>by simp[cBo]at h,λ_ _ _ h=>by simp[cO]at h,λ_ _ _ h=>by simp[cEs]at h,λ_ _ _ _ h=>by simp[cI]at h,λ_ _ _ h=>by simp[cT]at h,λ_ _ _ _ _ h=>by simp[cTs]at h,λ_ _ _ h=>by simp[ee]at h⟩
theorem snd:∀n,n<=100000->Snd w g n
 | 0,_=>rF
 |n+1,h=>
  have ih:=snd n (Nat.le_of_succ_le h)
  ⟨λO _ _ q=>ih.e_succ (Nat.le_of_succ_le h) O q,λO _ _ _ _ q=>ih.bo_succ O q,λO _ _ q=>ih.o_succ O q,λO _ _ q=>ih.es_succ O q,λO _ _ _ q t=>ih.i_succ O q t,λO _ _ q=>ih.t_succ O q,λO _ _ _ _ q=>ih.ts_succ O q,λO _ _ q=>ih.ifs_succ O q⟩
end
noncomputable def zq(c:Cc)(i:Nat):Prop:=∃x,c.N[i]? = some x/\c.own.contains x=true
structure SS(g:Gc)(c:Cc)(H0:Hp)(B:Sh)(τ:Env)(σ:L2.St)(H:Hp)(S:Sh):Prop where
 se:SE g c τ σ H S
 lenN:τ.length=c.N.length
 same:qa H0 H
 sub0:Sub B H0
 hd:∀a,S.h a=(B.h a||S.o a)
 new:∀a,S.o a=true->H0 a=none
 own:∀i d,zq c i->τ[i]? = some (some d)->∃a vs ds,σ[i]? = some (some (.ref a))/\S.o a=true/\d=.lst ds/\H a=some (.lst vs)/\qF g (hid H S) ds vs
 inj:∀i j d e a,zq c i->zq c j->τ[i]? = some (some d)->τ[j]? = some (some e)->σ[i]? = some (some (.ref a))->σ[j]? = some (some (.ref a))->i=j
 frz:c.frz=true->(∀i,zq c i->σ[i]? = B.z[i]?)/\qa B.y H
section
variable{g:Gc}{c:Cc}{H0:Hp}{B:Sh}{τ:Env}{σ:L2.St}{H H':Hp}{S:Sh}
theorem SS.up(s:SS g c H0 B τ σ H S)(e:qa H H'):SS g c H0 B τ σ H' S:=
 ⟨s.se.up e,s.lenN,s.same.trans e,s.sub0,s.hd,s.new,λi d hi h=>let ⟨a,vs,ds,h1,h2,h3,h4,h5⟩:=s.own i d hi h;⟨a,vs,ds,h1,h2,h3,e _ _ h4,h5.mono (qR e)⟩,s.inj,λz=>⟨(s.frz z).1,(s.frz z).2.trans e⟩⟩
theorem SS.set{i:Nat}{d:D}{v:V}(s:SS g c H0 B τ σ H S)(hi:¬ zq c i)(r:Rep g (hid H S) d v):SS g c H0 B (τ.set i (some d)) (σ.set i (some v)) H S:=by
 refine⟨s.se.set r,by simp[s.lenN],s.same,s.sub0,s.hd,s.new,λj e hj h=>?_,λj k e f a hj hk h1 h2 h3 h4=>?_,λz=>⟨λj hj=>?_,(s.frz z).2⟩⟩
 ·have hij:i≠j:=λz=>hi (z▸hj)
  rw[List.getElem?_set_ne hij]at h ⊢;exact s.own j e hj h
 ·have hij:i≠j:=λz=>hi (z▸hj)
  have hik:i≠k:=λz=>hi (z▸hk)
  rw[List.getElem?_set_ne hij]at h1 h3;rw[List.getElem?_set_ne hik]at h2 h4;exact s.inj j k e f a hj hk h1 h2 h3 h4
 ·rw[List.getElem?_set_ne (λz:i=j=>hi (z▸hj))];exact(s.frz z).1 j hj
theorem SS.setAll{is:List Nat}:∀{ds:List D}{vs:List V}{τ τ':Env}{σ:L2.St}{Q:L2.St->Hp->Prop},SS g c H0 B τ σ H S->(∀i∈is,¬ zq c i)->qF g (hid H S) ds vs->EV.setAll is ds τ=.ok τ'->(∀σ',SS g c H0 B τ' σ' H S->Q σ' H)->fQ is vs σ H Q:=by
 induction is with
 |nil=>
  intro ds vs τ τ' σ Q se _ r h k;cases r with
  |nil=>cases (show R.ok τ=R.ok τ' from h);exact⟨rfl,k σ se⟩
  |cons _ _=>cases (show R.no=R.ok τ' from h)
 |cons i is ih=>
  intro ds vs τ τ' σ Q se ho r h k;cases r with
  |nil=>cases (show R.no=R.ok τ' from h)
  |cons r rs=>exact⟨_,_,rfl,ih (se.set (ho i aW) r) (λj hj=>ho j (aS _ hj)) rs h k⟩
theorem nC{tg:Tg}(h:fB c tg):match tg with | .nm i=>¬ zq c i | .tp is=>∀i∈is,¬ zq c i:=by
 cases tg with
 |nm i=>rintro⟨x,h1,h2⟩;rw[h x h1]at h2;cases h2
 |tp is=>rintro i hi ⟨x,h1,h2⟩;rw[h i hi x h1]at h2;cases h2
theorem SS.store{X:Cx}(O:X.K=g.K){tg:Tg}{d:D}{v:V}{τ':Env}{Q:L2.St->Hp->Prop}(s:SS g c H0 B τ σ H S)(hf:fB c tg)(r:Rep g (hid H S) d v)(h:EV.store tg d τ=.ok τ')(k:∀σ',SS g c H0 B τ' σ' H S->Q σ' H):gT X.K tg v σ H Q:=by
 have ho:=nC hf;cases tg with
 |nm i=>
  simp only[EV.store,R.ok.injEq]at h;subst h;exact k _ (s.set ho r)
 |tp is=>
  cases d with
  |tup ds=>
   simp only[EV.store]at h;split at h
   ·rename_i hl
    cases r with
    |tup h1 r1=>exact⟨_,_,rfl,by rw[O];exact ei cX h1,by rw[<-r1.length];exact hl,s.setAll ho r1 h k⟩
   ·cases h
  |_=>simp[EV.store]at h
noncomputable def mC(S:Sh)(a:Addr):Sh:=⟨λb=>S.o b||b==a,λb=>S.h b||b==a,S.z,S.y⟩
theorem SS.setOwn{i:Nat}{d:D}{v:V}(s:SS g c H0 B τ σ H S)(hz:c.frz=false)(hi:zq c i)(hlt:i<τ.length)(e:qa H H')(f:Fr g H S H' d v):∃S',SS g c H0 B (τ.set i (some d)) (σ.set i (some v)) H' S'/\qa (hid H S) (hid H' S'):=by
 obtain⟨a,vs,ds,rfl,rfl,h1,h2,h3⟩:=f;have up:qa (hid H S) (hid H' (mC S a)):=λb o hb=>by
  obtain⟨z1,z2⟩:=bT.mp hb;refine bT.mpr ⟨?_,e _ _ z2⟩;show (S.h b||b==a)=false;rw[z1]
  simpa using λz:b=a=>by rw[z,h1]at z2;cases z2
 have hlt':i<σ.length:=by rw[<-s.se.len];exact hlt
 refine⟨mC S a,⟨⟨by simp[s.se.len],λj e' hj=>?_,λb hb n=>?_⟩,by simp[s.lenN],s.same.trans e,s.sub0,λb=>?_,λb hb=>?_,λj e' hj h=>?_,λj k e1 e2 b hj hk q1 q2 q3 q4=>?_,λz=>by rw[hz]at z;cases z⟩,up⟩
 ·by_cases hij:i=j
  ·subst hij;simp[hlt]at hj;subst hj;refine⟨.ref a,by simp[hlt'],.inr ⟨a,vs,ds,by show (S.o a||a==a)=true;simp,rfl,rfl,h2,h3⟩,λx hx hn=>?_⟩;obtain⟨y,hy1,hy2⟩:=hi;rw[hy1]at hx;cases hx;rw[hn]at hy2;cases hy2
  ·rw[List.getElem?_set_ne hij]at hj ⊢;obtain⟨u,z1,z2,z3⟩:=s.se.val j e' hj;refine⟨u,z1,?_,λx hx hn=>(z3 x hx hn).mono up⟩;rcases z2 with z2|⟨a',vs',ds',y1,y2,y3,y4,y5⟩
   ·exact .inl (z2.mono up)
   ·exact .inr ⟨a',vs',ds',by show (S.o a'||a'==a)=true;rw[y1];rfl,y2,y3,e _ _ y4,y5.mono up⟩
 ·have hb:(S.h b||b==a)=true\/(S.o b||b==a)=true:=hb;by_cases hba:b=a
  ·rw[hba,h2]at n;cases n
  ·have:S.h b=true\/S.o b=true:=by
    rcases hb with z|z
    ·exact .inl (by simpa[hba]using z)
    ·exact .inr (by simpa[hba]using z)
   exact(s.se.sub.same e) b this n
 ·show (S.h b||b==a)=(B.h b||(S.o b||b==a))
  rw[s.hd b,Bool.or_assoc]
 ·have hb:(S.o b||b==a)=true:=hb;by_cases hba:b=a
  ·rw[hba];exact s.same.free h1
  ·exact s.new b (by simpa[hba]using hb)
 ·by_cases hij:i=j
  ·subst hij;simp[hlt]at h;subst h;exact⟨a,vs,ds,by simp[hlt'],by show (S.o a||a==a)=true;simp,rfl,h2,h3⟩
  ·rw[List.getElem?_set_ne hij]at h ⊢;obtain⟨a',vs',ds',y1,y2,y3,y4,y5⟩:=s.own j e' hj h;exact⟨a',vs',ds',y1,by show (S.o a'||a'==a)=true;rw[y2];rfl,y3,e _ _ y4,y5.mono up⟩
 ·have other:∀j e1 b,i≠j->zq c j->τ[j]? = some (some e1)->σ[j]? = some (some (.ref b))->b≠a:=λj e1 b hij hj q1 q3 z=>by
   obtain⟨a',vs',ds',y1,y2,y3,y4,y5⟩:=s.own j e1 hj q1;rw[q3]at y1;cases y1;rw[z,h1]at y4;cases y4
  by_cases hij:i=j
  ·by_cases hik:i=k
   ·rw[<-hij,<-hik]
   ·subst hij;rw[List.getElem?_set_ne hik]at q2 q4;have q3':b=a:=by
     have:(σ.set i (some (.ref a)))[i]? = some (some (.ref a)):=by simp[hlt']
     rw[this]at q3;cases q3;rfl
    exact absurd q3' (other k e2 b hik hk q2 q4)
  ·by_cases hik:i=k
   ·subst hik;rw[List.getElem?_set_ne hij]at q1 q3;have q4':b=a:=by
     have:(σ.set i (some (.ref a)))[i]? = some (some (.ref a)):=by simp[hlt']
     rw[this]at q4;cases q4;rfl
    exact absurd q4' (other j e1 b hij hj q1 q3)
   ·rw[List.getElem?_set_ne hij]at q1 q3;rw[List.getElem?_set_ne hik]at q2 q4;exact s.inj j k e1 e2 b hj hk q1 q2 q3 q4
theorem SS.change{i:Nat}{a:Addr}{d0:D}{vs:List V}{ds:List D}(s:SS g c H0 B τ σ H S)(hz:c.frz=false)(hi:zq c i)(h0:τ[i]? = some (some d0))(ha:σ[i]? = some (some (.ref a)))(r:qF g (hid H S) ds vs):SS g c H0 B (τ.set i (some (.lst ds))) σ (upd H a (.lst vs)) S/\qa (hid H S) (hid (upd H a (.lst vs)) S):=by
 have hlt:i<τ.length:=(List.getElem?_eq_some_iff.mp h0).1;obtain⟨a',vs0,ds0,y1,y2,y3,y4,y5⟩:=s.own i d0 hi h0;rw[ha]at y1;cases y1;have hh:S.h a=true:=by rw[s.hd,y2,Bool.or_true]
 have he:hid (upd H a (.lst vs)) S=hid H S:=fg hh;have other:∀j e,i≠j->zq c j->τ[j]? = some (some e)->∀b,σ[j]? = some (some (.ref b))->b≠a:=λj e hij hj h b hb z=>by
  subst z;exact hij (s.inj i j d0 e b hi hj h0 h ha hb)
 refine⟨⟨⟨by simp[s.se.len],λj e hj=>?_,λb hb n=>?_⟩,by simp[s.lenN],λb o hb=>?_,s.sub0,s.hd,s.new,λj e hj h=>?_,λj k e1 e2 b hj hk q1 q2 q3 q4=>?_,λz=>by rw[hz]at z;cases z⟩,by rw[he];exact qa.refl _⟩
 ·by_cases hij:i=j
  ·subst hij;simp[hlt]at hj;subst hj;refine⟨.ref a,ha,.inr ⟨a,vs,ds,y2,rfl,rfl,zk,by rw[he];exact r⟩,λx hx hn=>?_⟩;obtain⟨y,hy1,hy2⟩:=hi;rw[hy1]at hx;cases hx;rw[hn]at hy2;cases hy2
  ·rw[List.getElem?_set_ne hij]at hj;obtain⟨u,z1,z2,z3⟩:=s.se.val j e hj;by_cases ho:zq c j
   ·obtain⟨b,ws,es,w1,w2,w3,w4,w5⟩:=s.own j e ho hj;rw[z1]at w1;cases w1;refine⟨_,z1,.inr ⟨b,ws,es,w2,rfl,w3,by rw[qQ (other j e hij ho hj b z1)];exact w4,by rw[he];exact w5⟩,λx hx hn=>?_⟩;obtain⟨y,hy1,hy2⟩:=ho;rw[hy1]at hx;cases hx;rw[hn]at hy2;cases hy2
   ·have st:Rep g (hid H S) e u:=by
     cases q:c.N[j]? with
     |some x=>
      refine z3 x q ?_;cases q2:c.own.contains x with
      |false=>rfl
      |true=>exact absurd ⟨x,q,q2⟩ ho
     |none=>
      have h1:=(List.getElem?_eq_some_iff.mp hj).1;have h2:=List.getElem?_eq_none_iff.mp q;have h3:=s.lenN;lia
    exact⟨u,z1,.inl (by rw[he];exact st),λ_ _ _=>by rw[he];exact st⟩
 ·by_cases hba:b=a
  ·subst hba;rw[zk]at n;cases n
  ·rw[qQ hba]at n;exact s.se.sub b hb n
 ·by_cases hba:b=a
  ·subst hba;rw[s.new b y2]at hb;cases hb
  ·rw[qQ hba];exact s.same _ _ hb
 ·by_cases hij:i=j
  ·subst hij;simp[hlt]at h;subst h;exact⟨a,vs,ds,ha,y2,rfl,zk,by rw[he];exact r⟩
  ·rw[List.getElem?_set_ne hij]at h;obtain⟨b,ws,es,w1,w2,w3,w4,w5⟩:=s.own j e hj h;exact⟨b,ws,es,w1,w2,w3,by rw[qQ (other j e hij hj h b w1)];exact w4,by rw[he];exact w5⟩
 ·have f:∀k e,(τ.set i (some (.lst ds)))[k]? = some (some e)->∃e',τ[k]? = some (some e'):=λk e h=>by
   by_cases hik:i=k
   ·subst hik;exact⟨d0,h0⟩
   ·rw[List.getElem?_set_ne hik]at h;exact⟨e,h⟩
  obtain⟨e1',q1'⟩:=f j e1 q1;obtain⟨e2',q2'⟩:=f k e2 q2;exact s.inj j k e1' e2' b hj hk q1' q2' q3 q4
end
noncomputable def cf(g:Gc)(c:Cc)(E:XK)(fr:Bool)(H0:Hp)(B:Sh)(H:Hp)(S:Sh)(D:Ends):O->Prop
 | .nx τ'=>∀σ' H' S',SS g c H0 B τ' σ' H' S'->qa (hid H S) (hid H' S')->D.nx σ' H'
 | .bk τ'=>∀σ' H' S',SS g c H0 B τ' σ' H' S'->qa (hid H S) (hid H' S')->D.bk σ' H'
 | .ct τ'=>∀σ' H' S',SS g c H0 B τ' σ' H' S'->qa (hid H S) (hid H' S')->D.ct σ' H'
 | .rt d=>∀v H',qa H0 H'->Rep g (hid H' B) d v->(fr=true->Fr g H0 B H' d v)->D.rt v H'
 | .ex k=>∀H' C,qa H0 H'->g.clA k=some C->E (.ref C) none H'
 | .no=>False
section
variable(w:W)(g:Gc)(c:Cc)(E:XK)(fr:Bool)
noncomputable def tS(s:EV.S):TS:=λD σ H=>∃H0 B τ S,SS g c H0 B τ σ H S/\cf g c E fr H0 B H S D (evS w s τ)
noncomputable def tSs(s:Ss):TS:=λD σ H=>∃H0 B τ S,SS g c H0 B τ σ H S/\cf g c E fr H0 B H S D (ql w s τ)
end
structure XS(w:W)(g:Gc)(c:Cc)(E:XK)(X:Cx):Prop extends XO w g c E X where
 thr:c.thr=true->Throws X E
 exc:∀x C,c.G.lookup x=some .exc->g.clA x=some C->kc g.K C
 cat:∀k x,w.cat k x=true->∀C D,g.clA k=some C->g.clA x=some D->PySem.W.exmOne g.K (.ref C) (.ref D)=some true
 frm:X.ex=[]/\X.stack=X.env::X.outer/\X.env.frame=some X.env.locals
 gh:∀x k,c.GH.lookup x=some k->k≠.exc/\∀v,GM w g X.prog X.w X.mg X.base (X.A.mark v) false x k
section
variable{w:W}{g:Gc}{c:Cc}{E:XK}{fr:Bool}{X:Cx}{H0:Hp}{B:Sh}{τ:Env}{σ:L2.St}{H H':Hp}{S:Sh}{Ed:Ends}
theorem cf.up{o:O}{S':Sh}(h:cf g c E fr H0 B H S Ed o)(e:qa (hid H S) (hid H' S')):cf g c E fr H0 B H' S' Ed o:=by
 cases o with
 |nx t=>exact λσ' H2 S2 s e2=>h σ' H2 S2 s (e.trans e2)
 |bk t=>exact λσ' H2 S2 s e2=>h σ' H2 S2 s (e.trans e2)
 |ct t=>exact λσ' H2 S2 s e2=>h σ' H2 S2 s (e.trans e2)
 |rt d=>exact h
 |ex k=>exact h
 |no=>exact h
theorem s_e{e:EV.E}{f:D->O}{Q:VK}(ss:SS g c H0 B τ σ H S)(h:cf g c E fr H0 B H S Ed ((evE w e τ).out f))(k:∀d v H',evE w e τ=.ok d->br g c e S H d v H'->cf g c E fr H0 B H S Ed (f d)->Q v H'):tE w g c E e σ H Q:=by
 refine⟨τ,S,ss.se,?_⟩;cases q:evE w e τ with
 |ok d=>rw[q]at h;exact λv H' p=>k d v H' q p h
 |ex x=>rw[q]at h;exact λH' C s hc=>h H' C (ss.same.trans s) hc
 |no=>rw[q]at h;exact h
theorem s_t{t:T}{f:Bool->O}{Q:Bool->Hp->Prop}(ss:SS g c H0 B τ σ H S)(h:cf g c E fr H0 B H S Ed ((evT w t τ).out f))(k:∀b H',evT w t τ=.ok b->qa H H'->cf g c E fr H0 B H S Ed (f b)->Q b H'):tT w g c E t σ H Q:=by
 refine⟨τ,S,ss.se,?_⟩;cases q:evT w t τ with
 |ok d=>rw[q]at h;exact λH' p=>k d H' q p h
 |ex x=>rw[q]at h;exact λH' C s hc=>h H' C (ss.same.trans s) hc
 |no=>rw[q]at h;exact h
theorem nq(ss:SS g c H0 B τ σ H S){b:Addr}(h:S.h b=false):B.h b=false:=by
 have:=ss.hd b;rw[h]at this;cases q:B.h b with
 |false=>rfl
 |true=>rw[q]at this;cases this
theorem xB(ss:SS g c H0 B τ σ H S):qa (hid H' S) (hid H' B):=λb o h=>by
 obtain⟨z1,z2⟩:=bT.mp h;exact bT.mpr ⟨nq ss z1,z2⟩
theorem m6:∀{is:List Nat}{ds:List EV.D}{τ:Env}{x:Str},setAll is ds τ≠.ex x
 | [],[],_,_,h=>by cases h
 | [],_::_,_,_,h=>by cases h
 |_::_,[],_,_,h=>by cases h
 |i::is,d::ds,τ,x,h=>by simp only[setAll]at h;exact m6 h
theorem nG{pos:Pos}:PS X (.Pass pos) (tS w g c E fr .pass):=PS.imp vA λD σ H ⟨H0,B,τ,S,ss,h⟩=>h σ H S ss (qa.refl _)
theorem rS{pos:Pos}:PS X (.Break pos) (tS w g c E fr .brk):=PS.imp xY λD σ H ⟨H0,B,τ,S,ss,h⟩=>h σ H S ss (qa.refl _)
theorem n5{pos:Pos}:PS X (.Continue pos) (tS w g c E fr .cnt):=PS.imp uN λD σ H ⟨H0,B,τ,S,ss,h⟩=>h σ H S ss (qa.refl _)
theorem hE{e:Expr}{t:Option Expr}{l:Nat}{env:PySem.Env}(h:dN e=false):swapsWith e t l env=pure false:=by
 cases e<;>first|rfl|(simp[dN]at h)
theorem vC{e:Expr}{ie:EV.E}{pos:Pos}(he:PE X e (tE w g c E ie))(hc:dN e=false):PS X (.Expr e pos) (tS w g c E fr (.exp ie)):=
 PS.imp (jU he (hE hc)) λD σ H ⟨H0,B,τ,S,ss,h⟩=>by
  simp only[cw,cN,cZ,cU,zE,cQ,zM,cK,dj,zU,dk,dg,cV,dt,dq,cW,cY,dh]at h;exact s_e ss h λd v H' _ p k=>k σ H' S (ss.up p.same) (qR p.same)
theorem tL{pos:Pos}(hf:fr=false):PS X (.Return none pos) (tS w g c E fr .retN):=PS.imp uV λD σ H ⟨H0,B,τ,S,ss,h⟩=>h _ _ ss.same .non (by rw[hf];intro z;cases z)
theorem iB(ss:SS g c H0 B τ σ H S){a:Addr}{vs:List V}{ds:List EV.D}(h1:H0 a=none)(h2:H' a=some (.lst vs))(h3:qF g (hid H' (zH S a)) ds vs):Rep g (hid H' B) (.lst ds) (.ref a)/\Fr g H0 B H' (.lst ds) (.ref a):=by
 have up:qa (hid H' (zH S a)) (hid H' (zH B a)):=λb o hb=>by
  obtain⟨z1,z2⟩:=bT.mp hb;refine bT.mpr ⟨?_,z2⟩;have z1:(S.h b||b==a)=false:=z1;simp only[Bool.or_eq_false_iff]at z1;show (B.h b||b==a)=false;rw[nq ss z1.1,z1.2];rfl
 exact⟨.lst (SqL.of (bT.mpr ⟨ss.sub0.free h1,h2⟩)) (h3.mono (up.trans nj)),⟨a,vs,ds,rfl,rfl,h1,h2,h3.mono up⟩⟩
theorem l8(ss:SS g c H0 B τ σ H S){a:Addr}{vs:List V}{ds:List EV.D}(y1:S.o a=true)(y3:qF g (hid H' S) ds vs):qF g (hid H' (zH S a)) ds vs:=y3.mono λb o hb=>by
 have hh:S.h a=true:=by rw[ss.hd,y1,Bool.or_true]
 obtain⟨z1,z2⟩:=bT.mp hb;refine bT.mpr ⟨?_,z2⟩;show (S.h b||b==a)=false;rw[z1]
 simpa using λz:b=a=>by rw[z,hh]at z1;cases z1
theorem j5{e:Expr}{ie:EV.E}{pos:Pos}(he:PE X e (tE w g c E ie))(hf:fr=true->fresh c ie=true):PS X (.Return (some e) pos) (tS w g c E fr (.ret ie)):=
 PS.imp (mH he) λD σ H ⟨H0,B,τ,S,ss,h⟩=>by
  simp only[cw,cN,cZ,cU,zE,cQ,zM,cK,dj,zU,dk,dg,cV,dt,dq,cW,cY,dh]at h;refine s_e ss h λd v H' _ p k=>?_
  have k:∀v H',qa H0 H'->Rep g (hid H' B) d v->(fr=true->Fr g H0 B H' d v)->D.rt v H':=k;have s1:=ss.up p.same;by_cases hz:fr=true
  ·obtain⟨a,vs,ds,rfl,rfl,h1,h2,h3⟩:=p.fr (hf hz);obtain⟨r1,r2⟩:=iB (H':=H') ss (ss.same.free h1) h2 h3;exact k _ H' s1.same r1 λ_=>r2
  ·rcases p.rb with r|⟨a,vs,ds,y1,rfl,rfl,y2,y3⟩
   ·exact k v H' s1.same (r.mono (xB ss)) λz=>absurd z hz
   ·obtain⟨r1,r2⟩:=iB (H':=H') ss (ss.new a y1) y2 (l8 ss y1 y3);exact k _ H' s1.same r1 λ_=>r2
theorem nH(O:XO w g c E X){x:Str}{i:Nat}{p pos:Pos}(h:loc c x=some i)(ho:c.own.contains x=true):PS X (.Return (some (.Name x p)) pos) (tS w g c E fr (.ret (.own i))):=by
 obtain⟨h1,h2,h3,h4⟩:=eh h;refine PS.imp (mH (gH (i:=i) (by rw[O.N];exact h1) (by unfold fc;rw[O.nm];exact h2) h3 h4)) λD σ H ⟨H0,B,τ,S,ss,h⟩=>?_
 simp only[cw,cN,cZ,cU,zE,cQ,zM,cK,dj,zU,dk,dg,cV,dt,dq,cW,cY,dh,qU,qX,qV,za,qW,zb,qZ,zc,qY,qt,qz,qs,qw,qu,qi,qD,qB,qA,qx,qy,qC,qo,qq,qP,qE,qr,qJ,qM,qN,qO,qI,qL,qK,qp,qH,zR]at h;cases q:τ[i]? with
 |none=>rw[q]at h;exact h.elim
 |some o=>
  cases o with
  |none=>rw[q]at h;exact h.elim
  |some d=>
   rw[q]at h;obtain⟨a,vs,ds,z1,y1,rfl,y2,y3⟩:=ss.own i d ⟨x,h1,ho⟩ q;obtain⟨r1,r2⟩:=iB (H':=H) ss (ss.new a y1) y2 (l8 ss y1 y3);exact⟨_,z1,h _ H ss.same r1 λ_=>r2⟩
theorem jj{e:Expr}{ie:EV.E}{i:Nat}{st:Stmt}{te:TE}(hp:PS X st (gG te (dU i)))(hr:∀σ H Q,tE w g c E ie σ H Q->te σ H Q)(hlt:i<c.N.length)(hk:(zq c i/\fresh c ie=true/\c.frz=false)\/(¬ zq c i/\esc ie=true)):PS X st (tS w g c E fr (.set (.nm i) ie)):=
 PS.imp hp λD σ H ⟨H0,B,τ,S,ss,h⟩=>by
  simp only[cw,cN,cZ,cU,zE,cQ,zM,cK,dj,zU,dk,dg,cV,dt,dq,cW,cY,dh,store]at h;refine hr σ H _ (s_e ss h λd v H' _ p k=>?_);have k:∀σ' H2 S2,SS g c H0 B (τ.set i (some d)) σ' H2 S2->qa (hid H S) (hid H2 S2)->D.nx σ' H2:=k;rcases hk with ⟨ho,hf,hfz⟩|⟨ho,he⟩
  ·obtain⟨S',s1,s2⟩:=ss.setOwn hfz ho (by rw[ss.lenN];exact hlt) p.same (p.fr hf);exact k _ _ S' s1 s2
  ·exact k _ _ S ((ss.up p.same).set ho (p.st he)) (qR p.same)
theorem tU(O:XO w g c E X){tg e:Expr}{itg:Tg}{ie:EV.E}{pos:Pos}(he:PE X e (tE w g c E ie))(hg:PG X tg (gT X.K itg))(hf:fB c itg)(hes:esc ie=true)(hs:swapsWithSole [tg] e pos.line X.env=pure false)(hw:swappedStores [tg] e X.env=pure none)(h1:(assignEach [tg] X.env).map (·.2)=[assign tg X.env]) :
  PS X (.Assign [tg] e pos) (tS w g c E fr (.set itg ie)):=
 PS.imp (lW he hg hs hw h1) λD σ H ⟨H0,B,τ,S,ss,h⟩=>by
  simp only[cw,cN,cZ,cU,zE,cQ,zM,cK,dj,zU,dk,dg,cV,dt,dq,cW,cY,dh]at h;refine s_e ss h λd v H' _ p k=>?_
  cases q:store itg d τ with
  |ok τ'=>
   rw[q]at k;exact(ss.up p.same).store O.K hf (p.st hes) q λσ' s1=>k σ' H' S s1 (qR p.same)
  |ex z=>cases itg<;>simp only[store]at q<;>first|cases q|(split at q<;>first|cases q|(split at q<;>first|(exact absurd q (m6))|cases q))
  |no=>rw[q]at k;exact k.elim
end
section
variable{w:W}{g:Gc}{c:Cc}{E:XK}{fr:Bool}{X:Cx}{H0:Hp}{B:Sh}{τ:Env}{σ:L2.St}{H H':Hp}{S:Sh}{Ed:Ends}
theorem mL{i:Nat}{d:EV.D}(h:zR τ i=.ok d):τ[i]? = some (some d):=by
 unfold zR at h;split at h
 ·rename_i q;cases h;exact q
 ·cases h
theorem vv(O:XO w g c E X)(hfz:c.frz=false){x:Str}{i:Nat}{a:Expr}{ia:EV.E}{p ap cp pos:Pos}(h:loc c x=some i)(ho:c.own.contains x=true)(ha:PE X a (tE w g c E ia))(hes:esc ia=true)(hs:isStar a=false)(hl:(ap.endLine==cp.line)=true) :
  PS X (.Expr (.Call (.Attribute (.Name x p) "append" ap) [a] [] cp) pos) (tS w g c E fr (.app i ia)):=by
 obtain⟨h1,h2,h3,h4⟩:=eh h;have hv:PE X (.Name x p) (fT i):=gH (i:=i) (by rw[O.N];exact h1) (by unfold fc;rw[O.nm];exact h2) h3 h4;have hst:=qe (es:=[]) (env:=X.env) hs;have hb:=p9 (X:=X) (apos:=ap) (cpos:=cp) PySem.F.plainAttrs_list PySem.F.slot_list_append PySem.F.type_list_append mD hv (zi ha zG hst) rfl (by rw[hst];rfl) hl hst rfl;refine PS.imp (jU hb rfl) λD σ H ⟨H0,B,τ,S,ss,k⟩=>?_
 simp only[cw,cN,cZ,cU,zE,cQ,zM,cK,dj,zU,dk,dg,cV,dt,dq,cW,cY,dh]at k;cases q:zR τ i with
 |ex z=>unfold zR at q;split at q<;>cases q
 |no=>rw[q]at k;exact k.elim
 |ok d0=>
  rw[q]at k;have q':=mL q;have hi:zq c i:=⟨x,h1,ho⟩
  obtain⟨ad,vs,ds,z1,y1,rfl,y2,y3⟩:=ss.own i d0 hi q';refine⟨_,z1,.inl ⟨rfl,vs,SqL.of y2⟩,s_e ss k λd v H1 _ p1 k1=>?_⟩;simp only at k1;by_cases hz:ds.length<SZ
  ·rw[if_pos hz]at k1;have s1:=ss.up p1.same;have y2':=p1.same _ _ y2;obtain⟨s2,s3⟩:=s1.change (vs:=vs++[v]) (ds:=ds++[d]) hfz hi q' z1 ((y3.mono (qR p1.same)).append (.cons (p1.st hes) .nil));exact⟨ad,vs,v,rfl,rfl,y2',by rw[<-y3.length,bw];unfold SZ at hz;lia,k1 _ _ S s2 ((qR p1.same).trans s3)⟩
  ·rw[if_neg hz]at k1;exact k1.elim
theorem vq(O:XO w g c E X)(hfz:c.frz=false){x:Str}{i:Nat}{k e:Expr}{ik ie:EV.E}{p sp pos:Pos}(h:loc c x=some i)(ho:c.own.contains x=true)(hk:PE X k (tE w g c E ik))(he:PE X e (tE w g c E ie))(hes:esc ie=true)(hsl:isSlice k=false)(hc:dN e=false) :
  PS X (.Assign [.Subscript (.Name x p) k sp] e pos) (tS w g c E fr (.seti i ik ie)):=by
 obtain⟨h1,h2,h3,h4⟩:=eh h;have hv:PE X (.Name x p) (fT i):=gH (i:=i) (by rw[O.N];exact h1) (by unfold fc;rw[O.nm];exact h2) h3 h4;have hg:PG X (.Subscript (.Name x p) k sp) (nt (fT i) (tE w g c E ik) lq):=yv hv hk set_list (by intro v;cases k<;>first|rfl|(simp[isSlice]at hsl));refine PS.imp (lW he hg (by simp only[swapsWithSole];exact hE hc) rfl rfl) λD σ H ⟨H0,B,τ,S,ss,k⟩=>?_
 simp only[cw,cN,cZ,cU,zE,cQ,zM,cK,dj,zU,dk,dg,cV,dt,dq,cW,cY,dh]at k;refine s_e ss k λd v H1 _ p1 k1=>?_
 cases q:zR τ i with
 |ex z=>unfold zR at q;split at q<;>cases q
 |no=>rw[q]at k1;exact k1.elim
 |ok d0=>
  rw[q]at k1;have q':=mL q;have hi:zq c i:=⟨x,h1,ho⟩
  have s1:=ss.up p1.same;obtain⟨ad,vs,ds,z1,y1,rfl,y2,y3⟩:=s1.own i d0 hi q';refine⟨_,z1,s_e s1 (cf.up k1 (qR p1.same)) λn vn H2 _ p2 k2=>?_⟩;cases n with
  |int j=>
   simp only at k2;cases qj:ixN ds.length j with
   |none=>rw[qj]at k2;exact k2.elim
   |some m=>
    rw[qj]at k2;have s2:=s1.up p2.same;have y2':=p2.same _ _ y2;obtain⟨s3,s4⟩:=s2.change (vs:=vs.set m v) (ds:=ds.set m d) hfz hi q' z1 ((y3.mono (qR p2.same)).set ((p1.st hes).mono (qR p2.same)) m);exact⟨ad,vs,j,m,rfl,p2.rb.int,y2',by rw[<-y3.length];exact qj,k2 _ _ S s3 ((qR p2.same).trans s4)⟩
  |_=>exact k2.elim
theorem sM:PSs X [] (tSs w g c E fr .nil):=PSs.imp oY λD σ H ⟨H0,B,τ,S,ss,h⟩=>by
 simp only[ql]at h;exact h σ H S ss (qa.refl _)
theorem l9{s:Stmt}{r:List Stmt}{is:EV.S}{ir:Ss}(h1:PS X s (tS w g c E fr is))(h2:PSs X r (tSs w g c E fr ir)):PSs X (s::r) (tSs w g c E fr (.cons is ir)):=
 PSs.imp (vp h1 h2) λD σ H ⟨H0,B,τ,S,ss,h⟩=>by
  simp only[ql]at h;refine⟨H0,B,τ,S,ss,?_⟩;cases q:evS w is τ with
  |nx τ'=>rw[q]at h;exact λσ' H' S' s' e=>⟨H0,B,τ',S',s',cf.up h e⟩
  |bk τ'=>rw[q]at h;exact h
  |ct τ'=>rw[q]at h;exact h
  |rt d=>rw[q]at h;exact h
  |ex k=>rw[q]at h;exact h
  |no=>rw[q]at h;exact h
theorem pK{t:Expr}{a b:List Stmt}{it:T}{ia ib:Ss}{pos:Pos}(ht:PT X t (tT w g c E it))(ha:PSs X a (tSs w g c E fr ia))(hb:PSs X b (tSs w g c E fr ib)):PS X (.If t a b pos) (tS w g c E fr (.ite it ia ib)):=
 PS.imp (t7 ht ha hb) λD σ H ⟨H0,B,τ,S,ss,h⟩=>by
  simp only[cw,cN,cZ,cU,zE,cQ,zM,cK,dj,zU,dk,dg,cV,dt,dq,cW,cY,dh]at h;refine s_t ss h λz H1 _ s1 k1=>?_
  cases z with
  |true=>exact⟨H0,B,τ,S,ss.up s1,cf.up k1 (qR s1)⟩
  |false=>exact⟨H0,B,τ,S,ss.up s1,cf.up k1 (qR s1)⟩
theorem PS.nox'{st:Stmt}{t:TS}(h:PS X.nox st t):PS X st t:=λpins s σ H D I hw=>
 bS (h pins s σ H D (I.wish _) hw) (λ_ _ q=>q.unwish) λ_ _ z=>bq z
theorem XO.nox(O:XO w g c E X):XO w g c E0 X.nox:=⟨O.K,O.nm,O.N,O.nd,O.calm,O.units,O.fn,O.kind,nk rfl rfl,O.gok,O.fns,O.sub⟩
theorem XS.nox(O:XS w g c E X):XS w g c E0 X.nox:=⟨O.toXO.nox,λ_ _ _ _ _ _ _ _ _ _ _ z=>bq z,O.exc,O.cat,O.frm,O.gh⟩
theorem ya{o:O}(h:cf g c E fr H0 B H S Ed o.noEx):cf g c E0 fr H0 B H S Ed o/\(∀k,o≠.ex k)/\o≠.no:=by
 cases o with
 |ex k=>exact h.elim
 |no=>exact h.elim
 |nx t=>exact⟨h,(λ_ z=>by cases z),(λz=>by cases z)⟩
 |bk t=>exact⟨h,(λ_ z=>by cases z),(λz=>by cases z)⟩
 |ct t=>exact⟨h,(λ_ z=>by cases z),(λz=>by cases z)⟩
 |rt t=>exact⟨h,(λ_ z=>by cases z),(λz=>by cases z)⟩
noncomputable def frozen(c:Cc)(b:Bool):Cc:={c with frz:=c.frz||b}
theorem XS.froze(O:XS w g c E X){b:Bool}:XS w g (frozen c b) E X:=
 ⟨⟨O.K,O.nm,O.N,O.nd,O.calm,O.units,O.fn,O.kind,O.pass,O.gok,O.fns,O.sub⟩,O.thr,O.exc,O.cat,O.frm,O.gh⟩
noncomputable def dD(B:Sh)(b:Bool)(σ:L2.St)(H:Hp):Sh:=if b=true then ⟨B.o,B.h,σ,H⟩else B
theorem hV{b:Bool}:(dD B b σ H).h=B.h:=by unfold dD;split<;>rfl
theorem rp{b:Bool}{H1:Hp}:hid H1 (dD B b σ H)=hid H1 B:=by funext a;unfold hid;rw[hV]
theorem SS.froze(b:Bool)(ss:SS g c H0 B τ σ H S):SS g (frozen c b) H0 (dD B b σ H) τ σ H S:=by
 refine⟨⟨ss.se.len,ss.se.val,ss.se.sub⟩,ss.lenN,ss.same,?_,?_,ss.new,ss.own,ss.inj,λz=>?_⟩
 ·unfold dD;split
  ·exact ss.sub0
  ·exact ss.sub0
 ·rw[hV];exact ss.hd
 ·cases b with
  |true=>exact⟨λi _=>rfl,qa.refl _⟩
  |false=>
   have z:(c.frz||false)=true:=z;rw[Bool.or_false]at z;exact ss.frz z
theorem SS.thaw{b:Bool}{σ1:L2.St}{H1:Hp}{τ1:Env}{S1:Sh}(s0:SS g c H0 B τ1 σ1 H1 S1)(ss:SS g (frozen c b) H0 (dD B b σ1 H1) τ σ H S):SS g c H0 B τ σ H S:=by
 refine⟨⟨ss.se.len,ss.se.val,ss.se.sub⟩,ss.lenN,ss.same,s0.sub0,?_,ss.new,ss.own,ss.inj,λz=>?_⟩
 ·have:=ss.hd;rw[hV]at this;exact this
 ·have f:=ss.frz (by show (c.frz||b)=true;rw[z];rfl);cases b with
  |true=>exact⟨λi hi=>(f.1 i hi).trans ((s0.frz z).1 i hi),(s0.frz z).2.trans f.2⟩
  |false=>exact f
theorem SS.iced{b:Bool}{σ1:L2.St}{H1:Hp}(hb:b=true)(ss:SS g (frozen c b) H0 (dD B b σ1 H1) τ σ H S):qa H1 H:=by
 subst hb;exact(ss.frz (by show (c.frz||true)=true;rw[Bool.or_true])).2
theorem nR(O:XO w g c E X)(hc:X.calm=true){tg it:Expr}{b:List Stmt}{itg:Tg}{iit:It}{ib:Ss}{pos:Pos}(hi:PI X.nox tg it (tIt w g c E0 iit))(hg:PG X.nox tg (gT X.K itg))(hf:fB c itg)(hb:PSs X.nox b (tSs w g (frozen c (owned iit)) E0 fr ib))(hs:zj it=true) :
  PS X (.For tg it b [] pos) (tS w g c E fr (.for itg iit ib)):=by
 refine PS.nox' (PS.imp (nX (X:=X.nox) PassesOwn.never hc hi hg hb (λx=>by cases it<;>first|rfl|(simp[zj]at hs))) λD σ H ⟨H0,B,τ,S,ss,h⟩=>?_);simp only[cw,cN,cZ,cU,zE,cQ,zM,cK,dj,zU,dk,dg,cV,dt,dq,cW,cY,dh]at h;obtain⟨h,nex,nno⟩:=ya h;cases q:evI w iit τ with
 |ex z=>rw[q]at nex;exact absurd rfl (nex z)
 |no=>rw[q]at nno;exact absurd rfl nno
 |ok ds=>
  rw[q]at h nex nno;simp only[R.out_ok]at h nex nno;refine⟨τ,S,ss.se,?_⟩;rw[q];intro J H1 s1 kW kS;generalize hr:cR itg (λσ=>ql w ib σ) ds τ=r at h nex nno;refine⟨λi m σ' H'=>m=ds.length-i/\i<=ds.length/\∃τ' S',SS g (frozen c (owned iit)) H0 (dD B (owned iit) σ H1) τ' σ' H' S'/\qa (hid H1 S) (hid H' S')/\cR itg (λσ=>ql w ib σ) (ds.drop i) τ'=r,⟨ds.length,rfl,bp _,τ,S,(ss.up s1).froze _,qa.refl _,hr⟩,?_⟩;rintro i m σ' H' ⟨rfl,hi',τ',S',ss',e',hl⟩;have gg:Goes g J ds H' S':=by
   cases hw:owned iit with
   |false=>exact kS hw H' S' e' ss'.se.sub
   |true=>exact kW H' S' (ss'.iced hw) e' ss'.se.sub
  obtain⟨g1,g2⟩:=gg;have eH:qa (hid H S) (hid H' S'):=(qR s1).trans e';by_cases hlt:i<ds.length
  ·have hd:ds[i]? = some ds[i]:=List.getElem?_eq_getElem hlt;obtain⟨go1,go2⟩:=g2 i ds[i] hd;refine .inr ⟨go1,λσ2 H2=>∃τ' S',SS g (frozen c (owned iit)) H0 (dD B (owned iit) σ H1) τ' σ2 H2 S'/\qa (hid H1 S) (hid H2 S')/\cR itg (λσ=>ql w ib σ) (ds.drop (i+1)) τ'=r,λσ2 H2 z=>⟨ds.length-(i+1),by lia,rfl,hlt,z⟩,λx H2 hy=>?_⟩;obtain⟨s2,rx⟩:=go2 x H2 hy;rw[dR hlt]at hl;simp only[cR]at hl;cases q1:store itg ds[i] τ' with
   |ex z=>rw[q1]at hl;exact absurd hl.symm (nex z)
   |no=>rw[q1]at hl;exact absurd hl.symm nno
   |ok τ1=>
    rw[q1]at hl;simp only[R.out_ok]at hl;refine(ss'.up s2).store O.K hf rx q1 λσ1 ss1=>⟨H0,_,τ1,S',ss1,?_⟩
    cases q2:ql w ib τ1 with
    |nx τ2=>rw[q2]at hl;exact λσ2 H3 S3 s3 e3=>⟨τ2,S3,s3,(e'.trans (qR s2)).trans e3,hl⟩
    |ct τ2=>rw[q2]at hl;exact λσ2 H3 S3 s3 e3=>⟨τ2,S3,s3,(e'.trans (qR s2)).trans e3,hl⟩
    |bk τ2=>
     rw[q2]at hl;simp only at hl;rw[<-hl]at h;exact λσ2 H3 S3 s3 e3=>h σ2 H3 S3 ((ss.up s1).thaw s3) ((eH.trans (qR s2)).trans e3)
    |rt d=>
     rw[q2]at hl;simp only at hl;rw[<-hl]at h;refine λv H3 s3 r3 f3=>h v H3 s3 (by rw[rp]at r3;exact r3) λz=>?_
     have f3:=f3 z;unfold dD at f3;split at f3
     ·exact f3
     ·exact f3
    |ex z=>rw[q2]at hl;exact absurd hl.symm (nex z)
    |no=>rw[q2]at hl;exact absurd hl.symm nno
  ·have e:i=ds.length:=by lia
   subst e;rw[List.drop_length]at hl;simp only[cR]at hl;rw[<-hl]at h;exact .inl ⟨g1 ds.length (aD _),h σ' H' S' ((ss.up s1).thaw ss') eH⟩
end
section
variable{w:W}{g:Gc}{c:Cc}{E:XK}{fr:Bool}{X:Cx}{H0:Hp}{B:Sh}{τ:Env}{σ:L2.St}{H H':Hp}{S:Sh}{Ed:Ends}
theorem u5{s:Stmt}:PS X s (tS w g c E fr .unk):=λpins s σ H D I ⟨H0,B,τ,S,ss,h⟩=>by
 simp only[cw,cN,cZ,cU,zE,cQ,zM,cK,dj,zU,dk,dg,cV,dt,dq,cW,cY,dh]at h;exact h.elim
theorem nW(O:XO w g c E X)(hfz:c.frz=false){x:Str}{i:Nat}{k a:Expr}{ik ia:EV.E}{p ap cp pos:Pos}(h:loc c x=some i)(ho:c.own.contains x=true)(hk:PE X k (tE w g c E ik))(ha:PE X a (tE w g c E ia))(hes:esc ia=true)(hsk:isStar k=false)(hs:isStar a=false)(hl:(ap.endLine==cp.line)=true) :
  PS X (.Expr (.Call (.Attribute (.Name x p) "insert" ap) [k,a] [] cp) pos) (tS w g c E fr (.ins i ik ia)):=λpins s σ H D I ⟨H0,B,τ,S,ss,h⟩=>by
 simp only[cw,cN,cZ,cU,zE,cQ,zM,cK,dj,zU,dk,dg,cV,dt,dq,cW,cY,dh]at h;exact bq h
end
theorem wR{e:Expr}{x:Str}{ap cp:Pos}{k a:Expr}(h:lD e=some (x,ap,k,a,cp)):∃p,e=.Call (.Attribute (.Name x p) "insert" ap) [k,a] [] cp:=by cases h
theorem p6{ts:List Expr}{k:Nat}{p:Pos}{e:Expr}{env:PySem.Env}(h:isTup e=true->i6 e=true):swappedStores [.Tuple ts k p] e env=pure none:=by
 cases e<;>first|rfl|skip
 rename_i vs k2 p2
 have h:vs.all (foldedForSure 8)=true:=h rfl;unfold swappedStores;simp only[h,if_true];split
 ·rfl
 ·split
  ·rfl
  ·split
   ·rfl
   ·rfl
section
variable{w:W}{g:Gc}{c:Cc}{E:XK}{fr:Bool}{X:Cx}
theorem uv(O:XO w g c E X){n:Nat}(hn:n<=100000){x:Str}{i:Nat}{elt:Expr}{gs:List b6}{sc:aY}{p p' pos:Pos}{ie:EV.E}(hl:cP c x=some i)(h:cE n c (.ListComp elt gs sc p)=some ie)(htw:iO (.ListComp elt gs sc p)=false)(hk:(zq c i/\fresh c ie=true/\c.frz=false)\/(¬ zq c i/\esc ie=true)) :
  PS X (.Assign [.Name x p'] (.ListComp elt gs sc p) pos) (tS w g c E fr (.set (.nm i) ie)):=by
 obtain⟨l1,l2⟩:=eC hl;obtain⟨l3,_⟩:=eh l1;have hlt:i<c.N.length:=(List.getElem?_eq_some_iff.mp l3).1;have hN:X.N.Nodup:=by rw[O.N];exact O.nd
 have hix:X.N[i]? = some x:=by rw[O.N];exact l3
 have hx:L2.Loc X.env.scope x:=by unfold L2.Loc;rw[O.nm];rcases l2 with z|z;exact .inl z;exact .inr z.1
 have hf:X.fn x=true\/X.env.scope.names.lookup x=some .local:=by
  rcases l2 with z|z
  ·exact .inr (by rw[O.nm];exact z)
  ·exact .inl (O.fn x z.2)
 cases hb:(X.env.blockKind==.function&&X.env.kindOf x==some .local&&p'.line==p.line && !(sc.names.any λ(n,k)=>n==x&&(k==.local||k==.cell)))with
 |false=>
  have hs:swapsWith (.ListComp elt gs sc p) (some (.Name x p')) pos.line X.env=pure false:=by rw[<-hb];rfl
  exact jj (e:=.ListComp elt gs sc p) (kK hN hix hx ((snd n hn).e O h) hs hf) (λ_ _ _ z=>z) hlt hk
 |true=>
  have hs:swapsWith (.ListComp elt gs sc p) (some (.Name x p')) pos.line X.env=pure true:=by rw[<-hb];rfl
  match n,h with
  | 0,h=>cases h
  |m+1,h=>
   have ih:=snd (w:=w) (g:=g) m (Nat.le_of_succ_le hn);obtain⟨tgt,it,ifs,iit,itg,it',ie',rfl,hs1,hk1,h1,h2,h3,h4,he,rfl⟩:=kr h;have hS:zI X (zK sc.names) (eW c sc.names) sc:=zI.of (by
    have e1:(λx=>c.nm.lookup x)=X.env.kindOf:=by funext x;show _=X.env.scope.names.lookup x;rw[O.nm]
    rw[<-e1,O.N];exact hk1.1)
   refine jj (e:=.ListComp elt [⟨tgt,it,ifs,0⟩] sc p) (uR (tb:=λacc=>gW acc (tE w g (cy c sc) E0 ie')) hN hix hx (O.calm hs1.1) hS (ih.i O h1 he.2) (λcl C s₀ H₀ fp=>?_) (by simp) hs hf (λx=>by
    have q:=hs1.2;cases it<;>first|rfl|cases q)) (λσ H Q q=>mM O hS he.1 q) hlt hk
   have OY:=O.comp hS.kind hk1.2 cl C s₀ H₀ fp;exact⟨gr OY h2,ih.ifs OY h3,λacc=>kg rfl (ih.e OY h4)⟩
end
structure fm(w:W)(g:Gc)(n:Nat):Prop where
 s:∀{c:Cc}{E:XK}{X:Cx} (O:XS w g c E X) {fr:Bool}{x:Stmt}{ir:EV.S},cS n c fr x=some ir->PS X x (tS w g c E fr ir)
 ss:∀{c:Cc}{E:XK}{X:Cx} (O:XS w g c E X) {fr:Bool}{x:List Stmt}{ir:Ss},cSs n c fr x=some ir->PSs X x (tSs w g c E fr ir)
section
variable{w:W}{g:Gc}{n:Nat}
theorem fm.ss_succ(ih:fm w g n){c:Cc}{E:XK}{X:Cx}(O:XS w g c E X){fr:Bool}{x:List Stmt}{ir:Ss}(h:cSs (n+1) c fr x=some ir):PSs X x (tSs w g c E fr ir):=by
 match x with
 | []=>simp only[cSs,bY]at h;subst h;exact sM
 |s::r=>
  simp only[cSs,aH,aG]at h;obtain⟨ir',h2,h⟩:=h;cases h;cases h1:cS n c fr s with
  |none=>exact l9 u5 (ih.ss O h2)
  |some is=>exact l9 (ih.s O h1) (ih.ss O h2)
theorem nN{c:Cc}{x:Str}{i:Nat}(h:c.N[i]? = some x):zq c i↔c.own.contains x=true:=⟨λ⟨y,h1,h2⟩=>by rw[h]at h1;cases h1;exact h2,λh2=>⟨x,h,h2⟩⟩
theorem wX{e:Expr}{x m:Str}{ap cp:Pos}{a:Expr}(h:h9 e=some (x,m,ap,a,cp)):∃p,e=.Call (.Attribute (.Name x p) m ap) [a] [] cp:=by
 unfold h9 at h;split at h
 ·split at h
  ·split at h
   ·split at h
    ·split at h
     ·rename_i hk;cases h;rw[List.isEmpty_iff]at hk;subst hk;exact⟨_,rfl⟩
     ·cases h
    ·cases h
   ·cases h
  ·cases h
 ·cases h
theorem fm.s_succ(ih:fm w g n)(hn:n<=100000){c:Cc}{E:XK}{X:Cx}(O:XS w g c E X){fr:Bool}{x:Stmt}{ir:EV.S}(h:cS (n+1) c fr x=some ir):PS X x (tS w g c E fr ir):=by
 have K:=snd (w:=w) (g:=g) n hn;unfold cS at h;split at h
 ·rename_i ts0 e pos
  split at h
  ·rename_i t0
   split at h
   ·-- x = e
    rename_i y p
    split at h
    ·cases h
    rename_i htw
    have htw:iO e=false:=by simpa using htw
    simp only[aH,aG]at h;obtain⟨i,hl,ie,h1,h⟩:=h;obtain⟨l1,l2⟩:=eC hl;obtain⟨l3,_⟩:=eh l1;have ho:=nN l3;have hk:((zq c i/\fresh c ie=true/\c.frz=false)\/(¬ zq c i/\esc ie=true))/\ir=.set (.nm i) ie:=by
     split at h
     ·rename_i hy
      split at h
      ·rename_i hf;cases h;exact⟨.inl ⟨ho.mpr hy,by simpa using hf⟩,rfl⟩
      ·cases h
     ·rename_i hy
      split at h
      ·rename_i hf;cases h;exact⟨.inr ⟨λz=>hy (ho.mp z),hf⟩,rfl⟩
      ·cases h
    obtain⟨hk,rfl⟩:=hk;cases hc:dN e with
    |false=>
     refine jj (e:=e) (kK (i:=i) (by rw[O.N];exact O.nd) (by rw[O.N];exact l3) (by unfold L2.Loc;rw[O.nm];rcases l2 with z|z;exact .inl z;exact .inr z.1) (K.e O.toXO h1) (hE hc) ?_) (λ_ _ _ z=>z) (List.getElem?_eq_some_iff.mp l3).1 hk;rcases l2 with z|z
     ·exact .inr (by rw[O.nm];exact z)
     ·exact .inl (O.fn y z.2)
    |true=>
     cases e with
     |ListComp elt gs sc p=>exact uv O.toXO hn hl h1 htw hk
     |SetComp elt gs sc p=>match n,h1 with
      | 0,h1=>cases h1
      |m+1,h1=>cases h1
     |DictComp a b gs sc p=>match n,h1 with
      | 0,h1=>cases h1
      |m+1,h1=>cases h1
     |_=>cases hc
   ·-- (a, b) = e
    rename_i ts k p
    simp only[aH,aG]at h;obtain⟨tg,h1,ie,h2,h⟩:=h;split at h
    ·cases h
    ·rename_i hc
     have hc:((isTup e=true->i6 e=true)/\dN e=false)/\esc ie=true:=by simpa using hc
     cases h;refine tU O.toXO (K.e O.toXO h2) (gr O.toXO h1) (jP h1) hc.2 (by simp only[swapsWithSole];exact hE hc.1.2) ?_ rfl;exact p6 hc.1.1
   ·-- x[k] = e
    split at h
    ·simp only[aH,aG]at h;obtain⟨i,hl,ie,h1,ik,h2,h⟩:=h;split at h
     ·rename_i hc
      simp only[aM,bJ]at hc;cases h;exact vq O.toXO hc.2 (eC hl).1 hc.1.1.1.1 (K.e O.toXO h2) (K.e O.toXO h1) hc.1.1.1.2 hc.1.1.2 hc.1.2
     ·cases h
    ·cases h
   ·cases h
  ·cases h
 ·split at h
  ·-- x.insert(k, a)
   rename_i he
   obtain⟨p,rfl⟩:=wR he;simp only[aH,aG]at h;obtain⟨i,hl,ik,h0,ia,h1,h⟩:=h;split at h
   ·rename_i hc
    simp only[aM,bJ,beq_iff_eq]at hc;cases h;obtain⟨⟨⟨⟨⟨c2,c3⟩,c4⟩,c5⟩,c6⟩,c7⟩:=hc;exact nW O.toXO c7 (eC hl).1 c2 (K.e O.toXO h0) (K.e O.toXO h1) c3 c4 c5 (by simpa using c6)
   ·cases h
  split at h
  ·-- x.append(a)
   rename_i he
   obtain⟨p,rfl⟩:=wX he;simp only[aH,aG]at h;obtain⟨i,hl,ia,h1,h⟩:=h;split at h
   ·rename_i hc
    simp only[aM,bJ,beq_iff_eq]at hc;cases h;obtain⟨⟨⟨⟨⟨rfl,c2⟩,c3⟩,c4⟩,c5⟩,c6⟩:=hc;exact vv O.toXO c6 (eC hl).1 c2 (K.e O.toXO h1) c3 c4 (by simpa using c5)
   ·cases h
  ·split at h
   ·cases h
   ·rename_i hc
    simp only[aH,aG]at h;obtain⟨ie,h1,h⟩:=h;cases h;exact vC (K.e O.toXO h1) (by simpa using hc)
 ·split at h
  ·-- return e
   rename_i e
   simp only[aH,aG]at h;obtain⟨ie,h1,h⟩:=h;split at h
   ·rename_i hf
    split at h
    ·rename_i y p
     split at h
     ·rename_i ho
      simp only[bH]at h;obtain⟨i,hl,rfl⟩:=h;exact nH O.toXO hl ho
     ·cases h
    ·split at h
     ·rename_i hfr
      cases h;exact j5 (K.e O.toXO h1) λ_=>hfr
     ·cases h
   ·rename_i hf
    cases h;exact j5 (K.e O.toXO h1) λz=>absurd z hf
  ·split at h
   ·cases h
   ·rename_i hf
    cases h;exact tL (by simpa using hf)
 ·simp only[aH,aG]at h;obtain⟨it,h1,ia,h2,ib,h3,h⟩:=h;cases h;exact pK (K.t O.toXO h1) (ih.ss O h2) (ih.ss O h3)
 ·split at h
  ·cases h
  ·rename_i tg0 it0 b0 els0 pos0 hc
   have hc:(els0=[]/\c.calm=true)/\zj it0=true:=by simpa using hc
   obtain⟨⟨rfl,hc1⟩,hc2⟩:=hc;simp only[aH,aG]at h;obtain⟨tg,h1,it,h2,h⟩:=h;split at h
   ·cases h
   ·rename_i ho
    have ho:eK it tg0=true:=by simpa using ho
    simp only[aG]at h;obtain⟨ib,h3,h⟩:=h;cases h;exact nR O.toXO (O.calm hc1) (K.i O.toXO.nox h2 ho) (gr O.toXO.nox h1) (jP h1) (ih.ss O.nox.froze h3) hc2
 ·cases h;exact nG
 ·cases h;exact rS
 ·cases h;exact n5
 ·cases h
theorem jO:∀n,n<=100000->fm w g n
 | 0,_=>⟨λ_ _ _ _ h=>(by cases h),λ_ _ _ _ h=>by simp[cSs]at h⟩
 |n+1,h=>
  have ih:=jO n (Nat.le_of_succ_le h)
  ⟨λO _ _ _ q=>ih.s_succ (Nat.le_of_succ_le h) O q,λO _ _ _ q=>ih.ss_succ O q⟩
end
section
variable{w:W}{g:Gc}{c:Cc}{E:XK}{fr:Bool}{X:Cx}{H0:Hp}{B:Sh}{τ:Env}{σ:L2.St}{H H':Hp}{S:Sh}{n:Nat}
noncomputable def iW(g:Gc)(E:XK)(fr:Bool)(H0:Hp)(B:Sh)(D:Ends):O->Prop
 | .nx _=>∀σ' H',qa H0 H'->D.nx σ' H'
 | .rt d=>∀v H',qa H0 H'->Rep g (hid H' B) d v->(fr=true->Fr g H0 B H' d v)->D.rt v H'
 | .ex k=>∀H' C,qa H0 H'->g.clA k=some C->E (.ref C) none H'
 |_=>False
theorem iW.out{D:Ends}{o:O}(h:iW g E fr H0 B D o):cf g c E fr H0 B H S D o:=by
 cases o with
 |nx t=>exact λσ' H' S' ss _=>h σ' H' ss.same
 |rt d=>exact h
 |ex k=>exact h
 |bk t=>exact h.elim
 |ct t=>exact h.elim
 |no=>exact h.elim
noncomputable def t5(w:W)(g:Gc)(c:Cc)(E:XK)(fr:Bool)(s:Ss):TS:=λD σ H=>∃H0 B τ S,SS g c H0 B τ σ H S/\iW g E fr H0 B D (ql w s τ)
theorem tw(hn:n<=100000)(O:XS w g c E X){x:List Stmt}{ir:Ss}(h:g9 n c fr x=some ir):PSs X x (t5 w g c E fr ir):=
 PSs.imp ((jO n hn).ss O h) λD σ H ⟨H0,B,τ,S,ss,z⟩=>⟨H0,B,τ,S,ss,z.out⟩
end
noncomputable def GM0(p:Pr)(g:Gc)(mg:Str->Option ae)(x:Str):GK->Prop
 | .fn _=>∃f,g.fnA x=some f
 | .val=>∃u v d,mg x=some u/\RelV v u/\p.glb x=some d/\∀H,Rep g H d v
 | .bi b=>mg x=none/\x=b1N b/\∃id,b1V b=.builtin id
 | .rng=>mg x=none/\x = "range"
 | .enum=>mg x=none/\x = "enumerate"
 | .zip=>mg x=none/\x = "zip"
 | .isi=>mg x=none/\x = "isinstance"
 | .ty n b=>mg x=none/\bM x=some (.type n)/\(n∈["int","bool","str","list","tuple"]\/n = "ValueError")/\∀b',b=some b'->x=b1N b'/\b1V b'=.type n
 | .exc=>∃C,mg x=some (.ref C)/\g.clA x=some C/\kc g.K C
 | .exk=>∃C,mg x=some (.ref C)/\g.clA x=some C
 | .set=>mg x=none/\bM x=some (.type "set")
structure Ground(p:Pr)(g:Gc)(G GH GU:List (Str×GK))(mg:Str->Option ae):Prop where
 fn:∀x f,g.fnA x=some f->∃st own fr fd fnn,p.fns x=some fnn/\cFn G GH own fr st=some fnn/\Fun g.K x x st f fd/\Binds g.K fd (argNames (zf st)) []/\b4 g.K (.ref f)=true/\mg x=some (.ref f)/\G.lookup x=some (.fn fr)
 gl:∀x k,G.lookup x=some k->GM0 p g mg x k
 gu:∀x k,GU.lookup x=some k->(∀fr,k≠.fn fr)/\k≠.exc/\GM0 p g mg x k
 gh:∀x k,GH.lookup x=some k->GU.lookup x=some k
 sub:∀k cl b,p.sub k cl=some b->∃C cv,g.clA k=some C/\iH g.K C/\b3 g.K (.ref C) cv=some b/\match cl with
  | .ty n=>n = "ValueError"/\cv=.type n
  | .ex x=>∃D,g.clA x=some D/\cv=.ref D
 cat:∀k x,p.cat k x=true->∀C D,g.clA k=some C->g.clA x=some D->PySem.W.exmOne g.K (.ref C) (.ref D)=some true
abbrev wAt(p:Pr)(k:Nat):W:=⟨qc p k,p.glb,p.sub,p.cat⟩
theorem wD{N ps:List Str}{sc:aY}(h:gC N ps sc=true):fU N ps sc:=by
 unfold gC at h;simp only[aM,beq_iff_eq,bJ,decide_eq_true_eq,List.all_eq_true,b9,bne_iff_ne,ne_eq]at h;obtain⟨⟨⟨⟨⟨⟨h1,h2⟩,h3⟩,h4⟩,h5⟩,h6⟩,h7⟩:=h;exact⟨h1,h2,h3,h4,h5,h6,h7⟩
theorem p8{G GH:List (Str×GK)}{own:List Str}{fr:Bool}{st:Stmt}{fnn:Fn}(h:cFn G GH own fr st=some fnn):gC (fq (zf st) (ze st)) (argNames (zf st)) (ze st)=true/\(argNames (zf st)).any own.contains=false /\
  ∃b,g9 jc ⟨(ze st).names,fq (zf st) (ze st),own,G,true,true,false,GH,[],false⟩ fr (zQ st)=some b/\fnn=⟨(argNames (zf st)).length,(fq (zf st) (ze st)).length,fr,b⟩:=by
 unfold cFn at h;dsimp only at h;split at h
 ·cases h
 ·rename_i hc
  simp only[b9,bJ,not_or,Bool.not_eq_false,Bool.not_eq_true]at hc;simp only[aH,aG,bY]at h;obtain⟨b,h1,h2⟩:=h;exact⟨hc.1,hc.2,b,h1,h2.symm⟩
section
variable{P:aA}{w:av}{K:aB}{mg:Str->Option ae}{base:Heap}{N:List Str}{qual:Str}{scope:aY}{f:Addr}{cd:ae}{A:az}{outer:List PySem.Env}{s₀:af}{H₀:Hp}{E:XK}
end
theorem GM0.gm{p:Pr}{g:Gc}{mg:Str->Option ae}{x:Str}{k:GK}{P:aA}{wl:av}{base:Heap}{A:az}{calm:Bool}{n:Nat}(h:GM0 p g mg x k)(hf:∀fr,k≠.fn fr):GM (wAt p n) g P wl mg base A calm x k:=by
 cases k with
 |fn fr'=>exact absurd rfl (hf fr')
 |exc=>obtain⟨C,h1,h2,_⟩:=h;exact⟨C,h1,h2⟩
 |val=>exact h
 |bi b=>exact h
 |rng=>exact h
 |enum=>exact h
 |zip=>exact h
 |isi=>exact h
 |ty n b=>exact h
 |exk=>exact h
 |set=>exact h
theorem oE{w:W}{g:Gc}{c:Cc}{E:XK}{X:Cx}{N ps own:List Str}{sc:aY}{fr:Bool}{body:List Stmt}{b:Ss}(hcN:c.N=N)(hco:c.own=own)(hcz:c.frz=false)(FS:fU N ps sc)(c2:ps.any own.contains=false)(c3:g9 jc c fr body=some b)
  (O:XS w g c E X) {vs:List V}{ds:List D}{B:Sh}{H:Hp}{Q:VK} (hB:Sub B H) (rv:qF g (hid H B) ds vs) (hl:ds.length=ps.length)
  (h:tR g E H (match ql w b (ds.map some++bP (N.length-ps.length) none)with
   | .nx _=>if fr then .no else .ok .non
   | .rt d=>.ok d
   | .ex c=>.ex c
   |_=>.no) (λd=>∀v H',qa H H'->Rep g (hid H' B) d v->(fr=true->Fr g H B H' d v)->Q v H')) :
  ∃t,PSs X body t/\t {nx:=λ_ H'=>Q .non H',rt:=Q} (start N vs) H:=by
 have hNl:ps.length<=N.length:=by have:=congrArg List.length FS.pre;rw[bZ]at this;lia
 refine⟨_,tw (by decide) O c3,H,B,ds.map some++bP (N.length-ps.length) none,⟨λ_=>false,B.h,B.z,B.y⟩,?_,?_⟩
 ·-- at the start
  have hh:hid H ⟨λ_=>false,B.h,B.z,B.y⟩=hid H B:=rfl;have hvl:=rv.length;have par:∀i d,(ds.map some++bP (N.length-ps.length) none)[i]? = some (some d)->i<ps.length/\ds[i]? = some d:=λi d hi=>by
   by_cases hlt:i<ds.length
   ·rw[List.getElem?_append_left (by simpa using hlt),List.getElem?_map]at hi;refine⟨by lia,?_⟩;cases q:ds[i]? with
    |none=>rw[q]at hi;cases hi
    |some e=>rw[q]at hi;simpa using hi
   ·rw[List.getElem?_append_right (by simpa using hlt)]at hi;rw[List.getElem?_replicate]at hi;split at hi<;>cases hi
  have noOwn:∀i d,zq c i->(ds.map some++bP (N.length-ps.length) none)[i]? = some (some d)->False:=λi d ⟨y,h1,h2⟩ hi=>by
   obtain⟨hlt,_⟩:=par i d hi;rw[hcN]at h1;rw[hco]at h2;have:N.take ps.length=ps:=FS.pre;have hy:ps[i]? = some y:=by
    rw[<-this,List.getElem?_take,if_pos hlt];exact h1
   have:=List.any_eq_false.mp c2 y (List.mem_of_getElem? hy);exact this h2
  refine⟨⟨by simp[L2.start];lia,λi d hi=>?_,λa ha=>?_⟩,by simp[hcN];lia,qa.refl _,hB,(λa=>by simp),(λa ha=>by cases ha),(λi d ho hi=>(noOwn i d ho hi).elim),λi j d e a ho _ hi _ _ _=>(noOwn i d ho hi).elim,λz=>by rw[hcz]at z;cases z⟩
  ·obtain⟨hlt,hd⟩:=par i d hi;obtain⟨v,h1,h2⟩:=rv.get hd;have hlt':i<vs.length:=by lia
   refine⟨v,?_,.inl h2,λ_ _ _=>h2⟩;unfold L2.start;rw[List.getElem?_append_left (by simpa using hlt'),List.getElem?_map,h1]
   rfl
  ·refine hB a ?_;rcases ha with ha|ha
   ·exact .inl ha
   ·cases ha
 ·-- at the end
  cases q:ql w b (ds.map some++bP (N.length-ps.length) none)with
  |nx τ'=>
   rw[q]at h;simp only at h;cases fr with
   |true=>exact h.elim
   |false=>exact λσ' H' hs=>h .non H' hs .non (by intro z;cases z)
  |rt d=>rw[q]at h;exact h
  |ex z=>rw[q]at h;exact h
  |bk z=>rw[q]at h;exact h.elim
  |ct z=>rw[q]at h;exact h.elim
  |no=>rw[q]at h;exact h.elim
section
variable{p:Pr}{g:Gc}{G GH GU:List (Str×GK)}{mg:Str->Option ae}{P:aA}{wl:av}{base:Heap}
theorem Ground.ok(T:Ground p g G GH GU mg):∀(k:Nat) (x:Str) (f:Addr) (st:Stmt) (own:List Str) (fr:Bool) (fd:bE) (fnn:Fn),p.fns x=some fnn->cFn G GH own fr st=some fnn->Fun g.K x x st f fd ->
  dC P wl g.K mg base (CX1 P wl) k f fd (argNames (zf st)) (spF (wAt p k) g x fr)
 | 0,x,f,st,own,fr,fd,fnn,_,_,_=>⟨λvs H Q E ⟨S,ds,_,_,h⟩=>h.elim,λA outer s H args us vs Q E _ _ _ _ ⟨S,ds,_,_,h⟩=>h.elim⟩
 |k+1,x,f,st,own,fr,fd,fnn,hf,hc,F=>by
  obtain⟨c1,c2,b,c3,rfl⟩:=p8 hc;have FS:=wD c1;generalize hN:fq (zf st) (ze st)=N at *;generalize hps:argNames (zf st)=ps at *;have call:∀ds,qc p (k+1) x ds=zN (wAt p k) ⟨ps.length,N.length,fr,b⟩ ds:=λds=>by simp only[qc,hf]
  have lenOf:∀vs H Q E,spF (wAt p (k+1)) g x fr vs H Q E->vs.length=ps.length:=λvs H Q E ⟨S,ds,_,r,h⟩=>by
   have h:tR g E H (qc p (k+1) x ds) _:=h;rw[call]at h;unfold zN at h;by_cases hl:ds.length=ps.length
   ·rw[<-r.length];exact hl
   ·rw[if_neg hl]at h;exact h.elim
  refine F.ok1 FS lenOf λcdv A outer s H vs Q E hr hsp=>?_
  obtain⟨B,ds,hB,rv,h⟩:=hsp;have h:tR g E H (qc p (k+1) x ds) (λd=>∀v H',qa H H'->Rep g (hid H' B) d v->(fr=true->Fr g H B H' d v)->Q v H'):=h;rw[call]at h;unfold zN at h;by_cases hl:ds.length=ps.length
  ·rw[if_pos hl]at h
   -- the ground of the body
   have calls:∀y fy,g.fnA y=some fy->∃fry,G.lookup y=some (.fn fry)/\gS (wAt p k) g P wl mg base (A.deeper (envOfC x (ze st) s.heap.objs.size f cdv)) true y fy fry:=λy fy hy=>by
    obtain⟨sty,owny,fry,fdy,fny,z1,z2,z3,z4,z5,z6,z7⟩:=T.fn y fy hy;exact⟨fry,z7,z6,z5,k,fdy,_,z4,.inl ⟨rfl,Ground.ok T k y fy sty owny fry fdy fny z1 z2 z3,hr⟩⟩
   have O:XS (wAt p k) g ⟨(ze st).names,N,own,G,true,true,false,GH,[],false⟩ E (dH (CX1 P wl) P wl g.K mg base N x (ze st) f cdv A outer s H E):=by
    refine⟨⟨rfl,rfl,rfl,FS.nd,λ_=>rfl,hr.units,λ_ _=>rfl,FS.kind,rq,λy ky hy=>?_,λ_ y fy hy=>?_,T.sub⟩,(λz=>by cases z),λy C hy hC=>?_,T.cat,⟨rfl,rfl,rfl⟩,λy ky hy=>?_⟩
    ·have:=T.gl y ky hy;by_cases hf:∃fr,ky=.fn fr
     ·obtain⟨fr',rfl⟩:=hf;obtain⟨fy,h1⟩:=this;obtain⟨fry,h2,h3⟩:=calls y fy h1;have hy:G.lookup y=some (.fn fr'):=hy;rw[hy]at h2;cases h2;exact⟨fy,h1,h3⟩
     ·exact this.gm λfr z=>hf ⟨fr,z⟩
    ·obtain⟨fry,_,h3⟩:=calls y fy hy;exact⟨fry,h3⟩
    ·obtain⟨C',_,h2,h3⟩:=T.gl y .exc hy;rw[h2]at hC;cases hC;exact h3
    ·obtain⟨u1,u2,u3⟩:=T.gu y ky (T.gh y ky hy);exact⟨u2,λv=>u3.gm u1⟩
   exact oE rfl rfl rfl FS c2 c3 O hB rv hl h
  ·rw[if_neg hl]at h;exact h.elim
end
end EV
namespace WB
open PySem PySem.Spec PyProof.Rows L2
structure Dd(K:aB)(n:Str)(st:Stmt)(f:Addr):Prop where
 a:aI K aE n=some (some (.ref f))
 l:∃oc od an sl kV dc pm cd ct,K.lookup f=some ⟨oc,od,.func (b7 n n (zf st) (zQ st) (ze st) .none kV dc pm an cd ct),sl⟩/\PySem.W.codeIn K cd n=true
 k:b4 K (.ref f)=true
theorem zL{K:aB}{n:Str}{st:Stmt}{f:Addr}{od an:Option Addr}{sl:Array (Option ae)}{oc kV dc pm cd ct:ae}(a:aI K aE n=some (some (.ref f)))
  (l:K.lookup f=some ⟨oc,od,.func (b7 n n (zf st) (zQ st) (ze st) .none kV dc pm an cd ct),sl⟩) (c:PySem.W.codeIn K cd n=true) (k:b4 K (.ref f)=true):Dd K n st f:=
 ⟨a,⟨oc,od,an,sl,kV,dc,pm,cd,ct,l,c⟩,k⟩
theorem Dd.fn{K:aB}{n:Str}{st:Stmt}{f:Addr}(d:Dd K n st f):∃fd,Fun K n n st f fd:=by
 obtain⟨oc,od,an,sl,kV,dc,pm,cd,ct,l,c⟩:=d.l;exact⟨_,kn (st:=st) l c d.k⟩
theorem lR{us:List ae}(h:us.length=1):∃a,us=[a]:=List.length_eq_one_iff.mp h
theorem m5{n:Nat}{us:List ae}(h:us.length=n+1):∃a r,us=a::r/\r.length=n:=by
 cases us with
 |nil=>cases h
 |cons a r=>exact⟨a,r,rfl,Nat.succ.inj h⟩
theorem jV{us:List ae}(h:us.length=2):∃a b,us=[a,b]:=by
 obtain⟨a,r,e,h⟩:=m5 h;obtain⟨b,q⟩:=lR h;subst q;exact⟨a,b,e⟩
theorem pk{us:List ae}(h:us.length=3):∃a b c,us=[a,b,c]:=by
 obtain⟨a,r,e,h⟩:=m5 h;obtain⟨b,c,q⟩:=jV h;subst q;exact⟨a,b,c,e⟩
structure Dk(K:aB)(n:Str)(D:Addr):Prop where
 a:aI K aE n=some (some (.ref D))
 c:∃x,PySem.W.clsIn K D=some x
 t:PySem.W.typeIn K (.ref D)=some (.type "type")
end WB
namespace EV
open PySem PySem.Spec PySem.P PyProof.Rows L2
structure Ent where
 x:Str
 st:Stmt
 own:List Str
 fr:Bool
 fn:Fn
noncomputable def prT(tab:List Ent)(vals:List (Str×D))(cc:List (Str×Str))(subs:List ((Str×Cl)×Bool):=[]):Pr:=⟨λx=>(tab.find? (·.x==x)).map (·.fn),λx=>vals.lookup x,λk c=>subs.lookup (k,c),λk x=>cc.contains (k,x)⟩
noncomputable def unx:GK->GK
 | .exc=>.exk
 |k=>k
noncomputable def dJ(oth:List (Str×GK)):List (Str×GK):=oth.map λy=>(y.1,unx y.2)
noncomputable def ey(us:List Ent)(oth:List (Str×GK)):List (Str×GK):=us.map (λe=>(e.x,GK.fn e.fr))++dJ oth
theorem jF{x:Str}{k:GK}:∀{oth:List (Str×GK)},(dJ oth).lookup x=some k->∃k0,oth.lookup x=some k0/\k=unx k0
 | [],h=>by cases h
 | (y,k1)::r,h=>by
  have h:List.lookup x ((y,unx k1)::dJ r)=some k:=h;rw[bu]at h;split at h
  ·rename_i q;cases h;exact⟨k1,by rw[bu,q],rfl⟩
  ·rename_i q
   obtain⟨k0,h1,h2⟩:=jF h;exact⟨k0,by rw[bu,q];exact h1,h2⟩
theorem lx{x:Str}{k:GK}{oth:List (Str×GK)}:∀{us:List Ent},(ey us oth).lookup x=some k->(∃e∈us,e.x=x/\k=.fn e.fr)\/(dJ oth).lookup x=some k
 | [],h=>.inr h
 |a::r,h=>by
  have h:List.lookup x ((a.x,GK.fn a.fr)::ey r oth)=some k:=h;rw[bu]at h;split at h
  ·rename_i q;cases h;exact .inl ⟨a,aW,(eq_of_beq q).symm,rfl⟩
  ·rcases lx h with ⟨e,h1,h2⟩|h1
   ·exact .inl ⟨e,aS _ h1,h2⟩
   ·exact .inr h1
noncomputable def dy(K:aB)(ns:List Str)(x:Str):Option Addr:=if ns.contains x then (match aI K aE x with
 |some (some (.ref f))=>some f
 |_=>none)else none
noncomputable def gOf(K:aB)(fns cls:List Str):Gc:=⟨K,dy K fns,dy K cls⟩
theorem fI{K:aB}{ns:List Str}{x:Str}{f:Addr}(h:aI K aE x=some (some (.ref f)))(hx:ns.contains x=true):dy K ns x=some f:=by
 unfold dy;rw[if_pos hx,h]
theorem jw{K:aB}{ns:List Str}{x:Str}{f:Addr}(h:dy K ns x=some f):ns.contains x=true/\aI K aE x=some (some (.ref f)):=by
 unfold dy at h;split at h
 ·rename_i hx
  split at h
  ·rename_i q;cases h;exact⟨hx,q⟩
  ·cases h
 ·cases h
noncomputable def Bnd(e:Ent):Prop:=∀(kV doc pm:ae) (an:Option Addr) (cdv ct:ae) (us:List ae),us.length=(argNames (zf e.st)).length->bindArgs (b7 e.x e.x (zf e.st) (zQ e.st) (ze e.st) .none kV doc pm an cdv ct) ⟨us,[]⟩=pure ((argNames (zf e.st)).zip us)
structure fR(K:aB)(G:List (Str×GK))(e:Ent):Prop where
 dd:∃f,WB.Dd K e.x e.st f
 bnd:Bnd e
noncomputable def kJ(K:aB)(vals:List (Str×D))(x:Str):GK->Prop
 | .fn _=>True
 | .val=>∃u v d,aI K aE x=some (some u)/\RelV v u/\vals.lookup x=some d/\∀g H,g.K=K->Rep g H d v
 | .bi b=>aI K aE x=some none/\x=b1N b/\∃id,b1V b=.builtin id
 | .rng=>aI K aE x=some none/\x = "range"
 | .enum=>aI K aE x=some none/\x = "enumerate"
 | .zip=>aI K aE x=some none/\x = "zip"
 | .isi=>aI K aE x=some none/\x = "isinstance"
 | .ty n b=>aI K aE x=some none/\bM x=some (.type n)/\(n∈["int","bool","str","list","tuple"]\/n = "ValueError")/\∀b',b=some b'->x=b1N b'/\b1V b'=.type n
 | .exc=>∃C,aI K aE x=some (some (.ref C))/\PySem.W.excIn K C gZ "ValueError.__new__" = true
 | .exk=>∃C,aI K aE x=some (some (.ref C))
 | .set=>aI K aE x=some none/\bM x=some (.type "set")
noncomputable def mG(K:aB)(cls:List Str)(y:(Str×Cl)×Bool):Prop:=∃C cv,cls.contains y.1.1=true/\aI K aE y.1.1=some (some (.ref C))/\iH K C/\b3 K (.ref C) cv=some y.2/\match y.1.2 with
 | .ty n=>n = "ValueError"/\cv=.type n
 | .ex x=>∃D,cls.contains x=true/\aI K aE x=some (some (.ref D))/\cv=.ref D
theorem m7{α β:Type} [BEq α] [LawfulBEq α]{a:α}{b:β}:∀{l:List (α×β)},l.lookup a=some b->(a,b)∈l
 | (c,d)::r,h=>by
  rw[bu]at h;split at h
  ·rename_i q;cases h;rw[eq_of_beq q];exact aW
  ·exact aS _ (m7 h)
theorem kE{tab:List Ent}{e:Ent}(hn:(tab.map (·.x)).Nodup)(he:e∈tab):tab.find? (·.x==e.x)=some e:=by
 induction tab with
 |nil=>simp at he
 |cons a r ih=>
  simp only[bF,List.nodup_cons]at hn;rw[List.find?_cons];rcases aJ.mp he with rfl|h
  ·simp
  ·have:(a.x==e.x)=false:=by
    cases q:a.x==e.x with
    |false=>rfl
    |true=>
     have:=eq_of_beq q;exact absurd (this▸bh.mpr ⟨e,h,rfl⟩) hn.1
   rw[this];exact ih hn.2 h
theorem sh{K:aB}{h:Heap}{mg:Str->Option ae}(X:K.In h)(N:h.Ns aE mg){tab:List Ent}{oth G:List (Str×GK)}{vals:List (Str×D)}(hG:G=tab.map (λe=>(e.x,GK.fn e.fr))++oth)
  (hnd:(tab.map (·.x)).Nodup) (ho:∀x k,oth.lookup x=some k->kJ K vals x k) (hof:∀x fr,oth.lookup x≠some (.fn fr)) {us:List Ent} (hus:∀e∈us,e∈tab) (hcu:∀e∈us,jN (dJ oth) e.own e.fr e.st=some e.fn) (hc:∀e∈tab,cFn G (ey us oth) e.own e.fr e.st=some e.fn) (he:∀e∈tab,fR K G e) (cls:List Str) {cc:List (Str×Str)} (hcat:∀y∈cc,∃C D,aI K aE y.1=some (some (.ref C))/\aI K aE y.2=some (some (.ref D))/\PySem.W.exmOne K (.ref C) (.ref D)=some true) (hcl:∀x,(oth.lookup x=some .exc\/oth.lookup x=some .exk)->cls.contains x=true)
  {subs:List ((Str×Cl)×Bool)} (hsub:∀y∈subs,mG K cls y) :
  Ground (prT tab vals cc subs) (gOf K (tab.map (·.x)) cls) G (ey us oth) (dJ oth) mg:=by
 have lk:∀x k,G.lookup x=some k->(∃e∈tab,e.x=x/\k=.fn e.fr)\/oth.lookup x=some k:=by
  subst hG;clear hnd hc he hus
  induction tab with
  |nil=>intro x k hx;exact .inr hx
  |cons a r ih=>
   intro x k hx;simp only[bF,List.cons_append,bu]at hx;split at hx
   ·rename_i q;cases hx;exact .inl ⟨a,aW,(eq_of_beq q).symm,rfl⟩
   ·rcases ih x k hx with ⟨e,h1,h2⟩|h1
    ·exact .inl ⟨e,aS _ h1,h2⟩
    ·exact .inr h1
 have lkE:∀e∈tab,G.lookup e.x=some (.fn e.fr):=by
  subst hG;clear hc he lk hus
  induction tab with
  |nil=>intro e h;simp at h
  |cons a r ih=>
   intro e hm;simp only[bF,List.nodup_cons]at hnd;simp only[bF,List.cons_append,bu];rcases aJ.mp hm with rfl|hm
   ·rw[beq_self_eq_true]
   ·have:(e.x==a.x)=false:=by
     cases q:e.x==a.x with
     |false=>rfl
     |true=>exact absurd ((eq_of_beq q)▸bh.mpr ⟨e,hm,rfl⟩) hnd.1
    rw[this];exact ih hnd.2 e hm
 have hca:∀k x,cc.contains (k,x)=true->∀C D,dy K cls k=some C->dy K cls x=some D->PySem.W.exmOne K (.ref C) (.ref D)=some true:=λk x z C D h1 h2=>by
  obtain⟨C',D',e1,e2,e3⟩:=hcat (k,x) (by simpa using z);have a1:=(jw h1).2;have a2:=(jw h2).2;rw[e1]at a1;rw[e2]at a2;cases a1;cases a2;exact e3
 have fnd:∀e∈tab,∃f fd,dy K (tab.map (·.x)) e.x=some f/\Fun K e.x e.x e.st f fd/\Binds K fd (argNames (zf e.st)) []/\b4 K (.ref f)=true/\mg e.x=some (.ref f):=λe hm=>by
  obtain⟨⟨f',d⟩,hb⟩:=he e hm;obtain⟨fd,F⟩:=d.fn;exact⟨f',fd,fI d.a (by simpa using bh.mpr ⟨e,hm,rfl⟩),F,F.binds hb,d.k,PySem.W.mg_of X N d.a⟩
 have fne:∀e∈tab,(prT tab vals cc subs).fns e.x=some e.fn:=λe hm=>by show (tab.find? (·.x==e.x)).map (·.fn)=_;rw[kE hnd hm];rfl
 have gl:∀x k,oth.lookup x=some k->GM0 (prT tab vals cc subs) (gOf K (tab.map (·.x)) cls) mg x k:=λx k hk=>by
  have:=ho x k hk;cases k with
  |fn fr=>exact absurd hk (hof x fr)
  |val=>obtain⟨u,v,d,h1,h2,h3,h4⟩:=this;exact⟨u,v,d,PySem.W.mg_of X N h1,h2,h3,λH=>h4 _ H rfl⟩
  |bi b=>exact⟨cD X N this.1,this.2⟩
  |rng=>exact⟨cD X N this.1,this.2⟩
  |enum=>exact⟨cD X N this.1,this.2⟩
  |zip=>exact⟨cD X N this.1,this.2⟩
  |isi=>exact⟨cD X N this.1,this.2⟩
  |ty n b=>exact⟨cD X N this.1,this.2⟩
  |exc=>obtain⟨C,h1,h2⟩:=this;exact⟨C,PySem.W.mg_of X N h1,fI h1 (hcl x (.inl hk)),h2⟩
  |exk=>obtain⟨C,h1⟩:=this;exact⟨C,PySem.W.mg_of X N h1,fI h1 (hcl x (.inr hk))⟩
  |set=>exact⟨cD X N this.1,this.2⟩
 refine⟨λx f hf=>?_,λx k hx=>?_,λx k hx=>?_,λx k hx=>?_,λk cl b z=>?_,hca⟩
 ·obtain⟨h1,h2⟩:=jw hf;obtain⟨e,hm,rfl⟩:=bh.mp (by simpa using h1:x∈tab.map (·.x));obtain⟨f',fd,z1,z2,z3,z4,z5⟩:=fnd e hm;have hf:dy K (tab.map (·.x)) e.x=some f:=hf;rw[hf]at z1;cases z1;exact⟨e.st,e.own,e.fr,fd,e.fn,fne e hm,hc e hm,z2,z3,z4,z5,lkE e hm⟩
 ·rcases lk x k hx with ⟨e,hm,rfl,rfl⟩|hk
  ·obtain⟨f',fd,z1,_⟩:=fnd e hm;exact⟨f',z1⟩
  ·exact gl x k hk
 ·obtain⟨k0,h1,rfl⟩:=jF hx;have:=gl x k0 h1;cases k0 with
  |fn fr=>exact absurd h1 (hof x fr)
  |exc=>obtain⟨C,z1,z2,_⟩:=this;exact⟨by simp[unx],by simp[unx],⟨C,z1,z2⟩⟩
  |_=>exact⟨by simp[unx],by simp[unx],this⟩
 ·rcases lx hx with ⟨e,hm,rfl,rfl⟩|hk
  ·have:=hcu e hm;cases this
  ·exact hk
 ·have z:subs.lookup (k,cl)=some b:=z;obtain⟨C,cv,h0,h1,h2,h3,h4⟩:=hsub _ (m7 z);refine⟨C,cv,fI h1 h0,h2,h3,?_⟩;cases cl with
  |ty n=>exact h4
  |ex x=>obtain⟨D,d0,d1,d2⟩:=h4;exact⟨D,fI d1 d0,d2⟩
theorem pv{l:PySem.W.OpenLaw}{q:aA}{loose:List Str}{XP:(Str->Option ae)->Heap->Prop}{YP:av->Heap->Prop}{d:DefRec}{K:Params->aB}{tab:List Ent}{G:List (Str×GK)}{vals:List (Str×D)}{cls:List Str}{cc:List (Str×Str)}{subs:List ((Str×Cl)×Bool)}{GH GU:List (Str×GK)}{e:Ent}{k:Nat}
  (hn:l.most=some 63) (hdf:d.params.defaults=[]) (hd:d.name=e.x) (hr:bW k callerA) (hY:∀(w:av) (h:Heap),YP w h->(K w.params).In h) (hm:e∈tab) (hnd:(tab.map (·.x)).Nodup) (hx:e.x = "law") (hfr:e.fr=false) (hp:argNames (zf e.st)=[("_law_script" : Str)])
  (hG:∀(w:av) (mg:Str->Option ae) (h:Heap),(K w.params).In h->h.Ns aE mg->Ground (prT tab vals cc subs) (gOf (K w.params) (tab.map (·.x)) cls) G GH GU mg/\fR (K w.params) G e) (hc:cFn G GH e.own e.fr e.st=some e.fn)
  (hlaw:∀ns:List Int,ns.length<=63->qc (prT tab vals cc subs) k "law" [.lst (ns.map D.int)]=.ok (.bl true)) :
  PySem.W.WalkO q loose XP YP l.row.toRowW d [] (λf vs=>PySem.call f vs):=by
 refine L2.oq (n:=63) (k:=k) (x:="_law_script") (CX:=λw=>CX1 l.prog w) (sp:=λw=>spF (wAt (prT tab vals cc subs) k) (gOf (K w.params) (tab.map (·.x)) cls) "law" false) hn (by decide) hdf hr hY (λw mg fa h KX N hfa=>?_) (λw H a ns hl _ hS=>?_) λw H s e s' z=>?_
 ·obtain⟨T,⟨f,dd⟩,hb⟩:=hG w mg h KX N;have e1:=hfa.symm.trans (hd▸PySem.W.mg_of KX N dd.a);cases e1;obtain⟨oc,od,an,sl,kV,dc,pm,cd,ct,lk,hcd⟩:=dd.l;refine⟨b7 e.x e.x (zf e.st) (zQ e.st) (ze e.st) .none kV dc pm an cd ct,λs u=>.of_eq ?_,λbase _ _=>?_⟩
  ·have:=hb kV dc pm an cd ct [u] (by rw[hp];rfl);rw[hp]at this;exact this
  ·have:=T.ok (P:=l.prog) (wl:=w) (base:=base) k e.x fa e.st e.own e.fr _ e.fn (by show (tab.find? (·.x==e.x)).map (·.fn)=_;rw[kE hnd hm];rfl) hc (kn (st:=e.st) lk hcd dd.k);rw[hp,hx,hfr]at this;rw[hx];exact this
 ·refine⟨⟨λ_=>false,λ_=>false,[],λ_=>none⟩,[.lst (ns.map D.int)],(λa z=>by rcases z with z|z<;>cases z),.cons (.lst (xs:=ns.map V.int) ?_ (qF.ofInts _)) .nil,?_⟩
  ·have:hid H ⟨λ_=>false,λ_=>false,[],λ_=>none⟩=H:=by funext b;unfold hid;rw[if_neg (by simp)]
   rw[this];exact hS
  ·show tR _ _ _ (qc (prT tab vals cc subs) k "law" [.lst (ns.map D.int)]) _;rw[hlaw ns hl];intro v H' _ r _;cases r;rfl
 ·obtain⟨_,_,_,_,_,_,_,_,_,z⟩:=z;exact z
end EV
namespace KG
open EV
open PySem (Str)
open L2 (atI ixN ltP)
abbrev prD:Int×Int->D:=EV.pairD
theorem zh{w:W}{f:Fn}{ds:List D}{d:D}{τ:Env}(hl:ds.length=f.ps)(hτ:ds.map some++bP (f.N-f.ps) none=τ)(h:ql w f.body τ=.rt d):zN w f ds=.ok d:=by
 rw[zN,if_pos hl,hτ,h]
theorem ez{w:W}{s:S}{r:Ss}{τ σ:Env}{o:O}(h:evS w s τ=.nx σ)(h':ql w r σ=o):ql w (.cons s r) τ=o:=by rw[ql,h];exact h'
theorem gb{w:W}{it:It}{cap:List (Option Nat)}{t:T}{elt:E}{τ c:Env}{ds:List D}{g:D->List D}(h:evI w it τ=.ok ds)(hz:ds.length<=SZ)(hc:dE cap τ=none::none::c)
  (hb:∀x∈ds,((evT w t (none::some x::c)).bind λr=>if r then (evE w elt (none::some x::c)).bind λd=>.ok [d]else .ok [])=.ok (g x)):evE w (.comp it cap (.nm 1) t elt) τ=.ok (.lst (ds.flatMap g)):=by
 have key:∀(l:List D) (v:Option D) (acc:List D),(∀x∈l,x∈ds)->zJ (λx σ=>noEx ((store (.nm 1) x σ).bind λσ'=>(evT w t σ').bind λr=>if r then (evE w elt σ').bind λd=>.ok (σ',[d])else .ok (σ',[]))) l (none::v::c) acc=.ok (acc++l.flatMap g):=by
  intro l
  induction l with
  |nil=>intro v acc _;simp[zJ]
  |cons x r ih=>
   intro v acc hm;have q:=hb x (hm x aW);rw[zJ];have e:noEx ((store (.nm 1) x (none::v::c)).bind λσ'=>(evT w t σ').bind λr=>if r then (evE w elt σ').bind λd=>.ok (σ',[d])else .ok (σ',[]))=.ok (none::some x::c,g x):=by
    simp only[store,R.bind_ok,List.set_cons_succ,List.set_cons_zero];cases ht:evT w t (none::some x::c)with
    |ok b=>
     rw[ht]at q;simp only[R.bind_ok]at q ⊢;cases b
     ·simp at q ⊢;rw[<-q];rfl
     ·simp only[if_true]at q ⊢;cases he:evE w elt (none::some x::c)with
      |ok d=>rw[he]at q;simp only[R.bind_ok,R.ok.injEq]at q ⊢;rw[<-q];rfl
      |ex=>rw[he]at q;cases q
      |no=>rw[he]at q;cases q
    |ex=>rw[ht]at q;cases q
    |no=>rw[ht]at q;cases q
   rw[e];simp only[R.bind_ok];rw[ih (some x) _ λy hy=>hm y (aS _ hy),List.flatMap_cons,bg]
 rw[qr,h];simp only[R.bind_ok];rw[if_neg (by lia),hc,key ds none [] λ_ h=>h]
 rfl
theorem p_{w:W}{i:Int}:cx w (.int i) (.ty "int")=.ok (.bl true):=rfl
theorem s9{w:W}{i:Int}:cx w (.int i) (.ty "bool")=.ok (.bl false):=rfl
theorem u4{w:W}{i:List D}:cx w (.tup i) (.ty "tuple")=.ok (.bl true):=rfl
theorem pG{w:W}{i:List D}:cx w (.tup i) (.ty "bool")=.ok (.bl false)/\cx w (.tup i) (.ty "int")=.ok (.bl false)/\cx w (.tup i) (.ty "str")=.ok (.bl false)/\cx w (.tup i) (.ty "list")=.ok (.bl false):=⟨rfl,rfl,rfl,rfl⟩
theorem yx{w:W}{i:Bool}:cx w (.bl i) (.ty "bool")=.ok (.bl true):=rfl
theorem ou(t:Int×Int):(prD t).asks=true:=rfl
theorem i7:∀ns:List Int,plainAll (ns.map D.int)=true
 | []=>rfl
 |_::r=>i7 r
theorem hZ:∀ns:List Int,dY (ns.map D.int)=0
 | []=>rfl
 |_::r=>by show max 0 (dY _)=0;rw[hZ r];rfl
theorem mN(ns:List Int):(D.tup (ns.map D.int)).asks=true:=by
 simp[D.asks,D.plain,D.deep,i7,hZ]
theorem jv:∀ns ms:List Int,eqvAll (ns.map D.int) (ms.map D.int)=decide (ns=ms)
 | [],[]=>rfl
 | [],_::_=>rfl
 |_::_,[]=>rfl
 |a::r,b::t=>by
  show (a==b&&eqvAll (r.map D.int) (t.map D.int))=_;rw[jv r t];simp[Bool.decide_and]
  rfl
noncomputable def mn(a b:Int):Int:=if b<a then b else a
noncomputable def mx(a b:Int):Int:=if a<b then b else a
noncomputable def fP(ts:List (Int×Int))(a b:Int):Bool:=ts.any λt=>t.1==mn a b&&t.2==mx a b
theorem pT(ts:List (Int×Int))(u v:Int):qh .isin (.tup [.int u,.int v]) (.tup (ts.map prD))=.ok (ts.any λt=>t.1==u&&t.2==v):=by
 rw[qh];simp only[seq?];rw[if_pos (by simp only[aM,List.all_eq_true,bh];exact⟨rfl,λx ⟨t,_,e⟩=>e▸ou t⟩),inD,List.any_map]
 congr 2;funext t;show ((t.1==u)&&((t.2==v)&&true))=_;rw[Bool.and_true]
theorem vT(ns ms:List Int):qh .eq (.tup (ns.map D.int)) (.tup (ms.map D.int))=.ok (decide (ns=ms)):=by
 rw[qh]
 ·rw[if_pos (by simp only[aM];exact⟨mN _,mN _⟩)];show R.ok (eqvAll _ _)=_;rw[jv]
 all_goals (intros;rintro⟨⟩)
structure GW(m:Int)(ts:List (Int×Int)):Prop where
 lo:1<=m
 hi:m<=8
 lt:ts.Pairwise λs t=>ltP s t=true
 ok:∀t∈ts,0<=t.1/\t.1<t.2/\t.2<m
 len:ts.length<=28
structure GS(m:Int)(s:List Int):Prop where
 lt:s.Pairwise (· < ·)
 ok:∀i∈s,0<=i/\i<m
 len:s.length<=8
abbrev wb(m:Int)(ts:List (Int×Int)):D:=.tup [.int m,.tup (ts.map prD)]
abbrev tu(s:List Int):D:=.tup (s.map D.int)
theorem fD{xs:List D}{i:Nat}(h:i<xs.length):atI xs (i:Int)=some xs[i]:=by
 rw[atI,ixN,if_pos (by lia),if_pos (by lia)];simp[h]
theorem all_true(xs:List D):bools? (xs.flatMap λ_=>[.bl true])=some (bP xs.length true):=by
 induction xs with
 |nil=>rfl
 |cons x r ih=>show (bools? (r.flatMap λ_=>[.bl true])).map (true :: ·)=_;rw[ih];rfl
theorem tI(n:Nat):(bP n true).all id=true:=by simp
theorem tG{s t:Int×Int}(h:ltP s t=true):qh .lt (prD s) (prD t)=.ok true:=by
 show R.ok (dO [s.1,s.2] [t.1,t.2])=_;rw[ltP]at h;simp only[dO];by_cases e:s.1=t.1
 ·rw[if_pos e]at h ⊢;by_cases e2:s.2=t.2
  ·rw[e2]at h;simp at h
  ·rw[if_neg e2,h]
 ·rw[if_neg e]at h ⊢;rw[h]
noncomputable def rng(m:Int):List Int:=(a7 m.toNat).map λ(i:Nat)=>(i:Int)
theorem mU(m:Int):zy 0 m.toNat=(rng m).map D.int:=by
 rw[zy,rng,List.map_map];simp
theorem uB(c:Int->Bool)(ns:List Int):(ns.map D.int).flatMap (λx=>match x with | .int i=>if c i then [D.int i]else []|_=>[])=(ns.filter c).map D.int:=by
 induction ns with
 |nil=>rfl
 |cons a r ih=>
  rw[bF,List.flatMap_cons,ih,List.filter_cons];show (if c a=true then [D.int a]else [])++_=_;cases c a<;>rfl
theorem x9(x y:Int)(h:0<y)(h':y<=2^64):small (x%y)=true:=by
 have a:=Int.emod_nonneg x (show y≠0 by lia);have b:=Int.emod_lt_of_pos x h;simp only[small,aM,decide_eq_true_eq];lia
noncomputable def st(c j:Int):Int:=
 ((((c%2147483647+977 * j+1) * 48271%2147483647) * ((c%2147483647+977 * j+1) * 48271%2147483647)%2147483629+40692 * (j+3)) * 69621%2147483647)/8
theorem GW.sub{m:Int}{ts ps:List (Int×Int)}(h:GW m ps)(s:ts.Sublist ps):GW m ts:=
 ⟨h.lo,h.hi,h.lt.sublist s,λt ht=>h.ok t (s.subset ht),bz s.length_le h.len⟩
theorem eq_int(a b:Int):qh .eq (.int a) (.int b)=.ok (decide (a=b)):=by
 show R.ok (a==b)=_;congr 1
theorem lt_int(a b:Int):qh .lt (.int a) (.int b)=.ok (decide (a<b)):=rfl
theorem ints_map(ns:List Int):ints? (ns.map D.int)=some ns:=by
 induction ns with
 |nil=>rfl
 |cons a r ih=>show (ints? (r.map D.int)).map (a :: ·)=_;rw[ih];rfl
noncomputable instance (m:Int) (ts:List (Int×Int)):Decidable (GW m ts):=
 decidable_of_iff (1<=m/\m<=8/\ts.Pairwise (λs t=>ltP s t=true)/\(∀t∈ts,0<=t.1/\t.1<t.2/\t.2<m)/\ts.length<=28) ⟨λ⟨a,b,c,d,e⟩=>⟨a,b,c,d,e⟩,λ⟨a,b,c,d,e⟩=>⟨a,b,c,d,e⟩⟩
noncomputable def Ends(J:Env->Prop)(Q:D->Prop):O->Prop
 | .nx σ=>J σ
 | .rt d=>Q d
 |_=>False
section
variable{w:W}{J K:Env->Prop}{Q:D->Prop}{s:S}{r:Ss}{τ σ:Env}
theorem gJ(h:J τ):Ends J Q (ql w .nil τ):=by rw[ql];exact h
theorem cM(h:evS w s τ=.nx σ)(h':Ends J Q (ql w r σ)):Ends J Q (ql w (.cons s r) τ):=by rw[ql,h];exact h'
theorem nP(h:Ends K Q (evS w s τ))(h':∀σ,K σ->Ends J Q (ql w r σ)):Ends J Q (ql w (.cons s r) τ):=by
 rw[ql];cases q:evS w s τ with
 |nx σ=>rw[q]at h;exact h' σ h
 |rt d=>rw[q]at h;exact h
 |_=>rw[q]at h;exact h.elim
theorem jA{e:E}{d:D}(h:evE w e τ=.ok d)(hq:Q d):Ends J Q (ql w (.cons (.ret e) r) τ):=by
 rw[ql,zE,h];exact hq
theorem gi{tg:Tg}{it:It}{b:Ss}{ds:List D}(I:List D->Env->Prop)(h:evI w it τ=.ok ds)(h0:I ds τ)(hs:∀x t σ,I (x::t) σ->∃σ1,store tg x σ=.ok σ1/\Ends (I t) Q (ql w b σ1))(hn:∀σ,I [] σ->Ends J Q (ql w r σ)):Ends J Q (ql w (.cons (.for tg it b) r) τ):=by
 have key:∀(l:List D) (σ:Env),I l σ->Ends (I []) Q (cR tg (λσ=>ql w b σ) l σ):=by
  intro l
  induction l with
  |nil=>intro σ q;exact q
  |cons x t ih=>
   intro σ q;obtain⟨σ1,a,b'⟩:=hs x t σ q;rw[cR,a];simp only[R.out_ok];cases z:ql w b σ1 with
   |nx σ2=>rw[z]at b';exact ih σ2 b'
   |rt d=>rw[z]at b';exact b'
   |_=>rw[z]at b';exact b'.elim
 have hk:=key ds τ h0;refine nP (K:=I []) ?_ hn;rw[cK,h];simp only[R.out_ok];cases z:cR tg (λσ=>ql w b σ) ds τ with
 |nx σ2=>rw[z]at hk;exact hk
 |rt d=>rw[z]at hk;exact hk
 |_=>rw[z]at hk;exact hk.elim
end
noncomputable def hd(m:Int)(ts:List (Int×Int))(a:Int):List Int:=(rng m).filter λb=>b==a||fP ts a b
end KG
noncomputable def KG.Z:=aw @EV.ql.eq_1 (aw @EV.ql.eq_2 (aw @EV.cw (aw @EV.cN (aw @EV.cU (aw @EV.zE (aw @EV.cQ (aw @EV.zM (aw @EV.zU (aw @EV.qU (aw @EV.qX (aw @EV.qV (aw @EV.za (aw @EV.qW (aw @EV.zb (aw @EV.qY (aw @EV.qt (aw @EV.qz (aw @EV.qs (aw @EV.qw (aw @EV.qu (aw @EV.qD (aw @EV.qB (aw @EV.qA (aw @EV.qx (aw @EV.qy (aw @EV.qo (aw @EV.qq (aw @EV.qE (aw @EV.zu.eq_1 (aw @EV.zu.eq_2 (aw @EV.et (aw @EV.dX (aw @EV.ej (aw @EV.dM (aw @EV.d_ (aw @EV.ef (aw @EV.er (aw @EV.evI.eq_1 (aw @EV.evI.eq_2 (aw @EV.evI.eq_3 (aw @EV.evI.eq_4 (aw @EV.evI.eq_5 (aw @EV.evI.eq_6 (aw @EV.evO.eq_1 (aw @EV.evO.eq_2 (aw @EV.opI.eq_1 (aw @EV.opI.eq_2 (aw @EV.opI.eq_3 (aw @EV.opI.eq_4 (aw @EV.opI.eq_5 (aw @EV.opI.eq_6 (aw @EV.opI.eq_7 (aw @EV.opI.eq_8 (aw @EV.opI.eq_9 (aw @EV.opI.eq_10 (aw @EV.opI.eq_11 (aw @EV.b11.eq_1 (aw @EV.b11.eq_2 (aw @EV.b11.eq_3 (aw @EV.b11.eq_4 (aw @EV.b11.eq_5 (aw @EV.b11.eq_6 (aw @EV.b11.eq_7 (aw @EV.b11.eq_8 (aw @EV.b11.eq_9 (aw @EV.b11.eq_10 (aw @EV.b11.eq_11 (aw @EV.b11.eq_12 (aw @EV.b12.eq_1 (aw @EV.b12.eq_2 (aw @EV.b12.eq_3 (aw @EV.cg.eq_1 (aw @EV.cg.eq_2 (aw @EV.eD.eq_1 (aw @EV.eD.eq_2 (aw @EV.iiR.eq_1 (aw @EV.iiR.eq_2 (aw @EV.zR.eq_1 (aw @EV.store.eq_1 (aw @EV.store.eq_2 (aw @EV.store.eq_3 (aw @EV.setAll.eq_1 (aw @EV.setAll.eq_2 (aw @EV.setAll.eq_3 (aw @EV.truth.eq_1 (aw @EV.truth.eq_2 (aw @EV.truth.eq_3 (aw @EV.truth.eq_4 (aw @EV.truth.eq_5 (aw @EV.truth.eq_6 (aw @KG.p_ (aw @KG.s9 (aw @KG.u4 (aw @KG.pG (@KG.yx)))))))))))))))))))))))))))))))))))))))))))))))))))))))))))))))))))))))))))))))))))))))))))))))
namespace KG
open EV
open PySem (Str)
open L2 (atI ixN ltP)
noncomputable def fX:Fn:=⟨1,1,false,(.cons (.ret (.and (.isi (.var 0) (.ty "int")) (.not (.isi (.var 0) (.ty "bool"))))) .nil)⟩
noncomputable def zD:Fn:=⟨3,3,false,(.cons (.ret (.and (.call "is_whole" (.cons (.var 0) .nil)) (.cmp2 .le .le (.var 1) (.var 0) (.var 2)))) .nil)⟩
noncomputable def jR:Fn:=⟨1,1,false,(.cons (.ret (.and (.isi (.var 0) (.ty "tuple")) (.cmp .eq (.bi .len (.cons (.var 0) .nil)) (.con (.int 2))))) .nil)⟩
noncomputable def jQ:Fn:=⟨1,1,false,(.cons (.ret (.bi .all (.cons (.comp (.rng (.op .sub (.bi .len (.cons (.var 0) .nil)) (.con (.int 1)))) [none,none,some 0] (.nm 1) .yes (.cmp .lt (.ix (.var 2) (.var 1)) (.ix (.var 2) (.op .add (.var 1) (.con (.int 1)))))) .nil))) .nil)⟩
noncomputable def kD:Fn:=⟨1,3,false,(.cons (.ite (.not (.val (.call "is_pair" (.cons (.var 0) .nil)))) (.cons (.ret (.con (.bl false))) .nil) .nil) (.cons (.set (.tp [1,2]) (.var 0)) (.cons (.ite (.or (.not (.val (.call "is_between" (.cons (.var 1) (.cons (.con (.int 1)) (.cons (.glb "MOST") .nil)))))) (.not (.val (.isi (.var 2) (.ty "tuple"))))) (.cons (.ret (.con (.bl false))) .nil) .nil) (.cons (.ret (.and (.bi .all (.cons (.comp (.seq (.var 2)) [none,none,some 1] (.nm 1) .yes (.call "is_tie" (.cons (.var 1) (.cons (.var 2) .nil)))) .nil)) (.call "rises" (.cons (.var 2) .nil)))) .nil))))⟩
noncomputable def jH:Fn:=⟨2,4,false,(.cons (.ite (.not (.val (.call "is_pair" (.cons (.var 0) .nil)))) (.cons (.ret (.con (.bl false))) .nil) .nil) (.cons (.set (.tp [2,3]) (.var 0)) (.cons (.ret (.and (.call "is_whole" (.cons (.var 2) .nil)) (.and (.call "is_whole" (.cons (.var 3) .nil)) (.cmp3 .le .lt .lt (.con (.int 0)) (.var 2) (.var 3) (.var 1))))) .nil)))⟩
noncomputable def mF:Fn:=⟨1,1,false,(.cons (.ite (.not (.val (.call "is_web" (.cons (.var 0) .nil)))) (.cons .unk .nil) .nil) .nil)⟩
noncomputable def kv:Fn:=⟨1,1,false,(.cons (.exp (.call "need_web" (.cons (.var 0) .nil))) (.cons (.ret (.bi .tuple (.cons (.comp (.rng (.ix (.var 0) (.con (.int 0)))) [none,none,some 0] (.nm 1) .yes (.call "hood_of" (.cons (.var 2) (.cons (.var 1) .nil)))) .nil))) .nil))⟩
noncomputable def gp:Fn:=⟨2,4,false,(.cons (.set (.tp [2,3]) (.var 0)) (.cons (.ret (.bi .tuple (.cons (.comp (.rng (.var 2)) [none,none,some 1,some 3] (.nm 1) (.or (.cmp .eq (.var 1) (.var 2)) (.val (.call "are_tied" (.cons (.var 3) (.cons (.var 2) (.cons (.var 1) .nil)))))) (.var 1)) .nil))) .nil))⟩
noncomputable def fE:Fn:=⟨3,3,false,(.cons (.ret (.cmp .isin (.tup (.cons (.bi .min (.cons (.var 1) (.cons (.var 2) .nil))) (.cons (.bi .max (.cons (.var 1) (.cons (.var 2) .nil))) .nil))) (.var 0))) .nil)⟩
noncomputable def pU:Fn:=⟨2,2,false,(.cons (.ret (.bi .tuple (.cons (.comp (.seq (.var 1)) [none,none,some 0] (.nm 1) (.cmp .isin (.var 1) (.var 2)) (.var 1)) .nil))) .nil)⟩
noncomputable def r_:Fn:=⟨2,2,false,(.cons (.ret (.comp (.seq (.var 0)) [none,none,some 1] (.nm 1) .yes (.call "mark_of" (.cons (.var 1) (.cons (.var 2) .nil))))) .nil)⟩
noncomputable def vy:Fn:=⟨1,3,false,(.cons (.set (.nm 1) (.lst (.cons (.tup .nil) .nil))) (.cons (.for (.nm 2) (.rng (.ix (.var 0) (.con (.int 0)))) (.cons (.set (.nm 1) (.op .add (.var 1) (.comp (.seq (.var 1)) [none,none,some 2] (.nm 1) .yes (.op .add (.var 1) (.tup (.cons (.var 2) .nil)))))) .nil)) (.cons (.ret (.bi .sorted (.cons (.var 1) .nil))) .nil)))⟩
noncomputable def zm:Fn:=⟨2,2,false,(.cons (.ite (.cmp .lt (.var 1) (.bi .len (.cons (.var 0) .nil))) (.cons (.ret (.ix (.var 0) (.var 1))) .nil) .nil) (.cons (.ret (.con (.int 0))) .nil))⟩
noncomputable def zB:Fn:=⟨2,3,false,(.cons (.set (.nm 2) (.op .mod (.op .mul (.op .add (.op .add (.op .mod (.var 0) (.con (.int 2147483647))) (.op .mul (.con (.int 977)) (.var 1))) (.con (.int 1))) (.con (.int 48271))) (.con (.int 2147483647)))) (.cons (.set (.nm 2) (.op .mod (.op .mul (.var 2) (.var 2)) (.con (.int 2147483629)))) (.cons (.set (.nm 2) (.op .mod (.op .mul (.op .add (.var 2) (.op .mul (.con (.int 40692)) (.op .add (.var 1) (.con (.int 3))))) (.con (.int 69621))) (.con (.int 2147483647)))) (.cons (.ret (.op .fdiv (.var 2) (.con (.int 8)))) .nil))))⟩
noncomputable def zO:Fn:=⟨1,1,false,(.cons (.ret (.and (.isi (.var 0) (.ty "int")) (.not (.isi (.var 0) (.ty "bool"))))) .nil)⟩
noncomputable def j_:Fn:=⟨2,10,false,(.cons (.set (.nm 2) (.op .add (.con (.int 1)) (.op .mod (.var 0) (.var 1)))) (.cons (.set (.nm 3) (.op .fdiv (.var 0) (.var 1))) (.cons (.set (.nm 4) (.op .mod (.var 3) (.con (.int 6)))) (.cons (.set (.nm 5) (.lst .nil)) (.cons (.for (.nm 6) (.rng2 (.con (.int 1)) (.var 2)) (.cons (.for (.nm 7) (.rng (.var 6)) (.cons (.set (.nm 8) (.op .band (.op .shr (.op .fdiv (.var 3) (.con (.int 6))) (.op .add (.op .fdiv (.op .mul (.var 6) (.op .sub (.var 6) (.con (.int 1)))) (.con (.int 2))) (.var 7))) (.con (.int 1)))) (.cons (.ite (.cmp .eq (.var 4) (.con (.int 3))) (.cons (.set (.nm 8) (.op .fdiv (.op .mod (.call "_law_stir" (.cons (.var 0) (.cons (.op .add (.op .mul (.con (.int 8)) (.var 7)) (.var 6)) .nil))) (.con (.int 3))) (.con (.int 2)))) .nil) .nil) (.cons (.ite (.cmp .eq (.var 4) (.con (.int 4))) (.cons (.set (.nm 8) (.op .fdiv (.op .add (.op .mod (.call "_law_stir" (.cons (.var 0) (.cons (.op .add (.op .mul (.con (.int 8)) (.var 7)) (.var 6)) .nil))) (.con (.int 4))) (.con (.int 2))) (.con (.int 3)))) .nil) .nil) (.cons (.ite (.cmp .eq (.var 4) (.con (.int 5))) (.cons (.set (.nm 9) (.lst (.cons (.cmp .eq (.var 6) (.op .add (.var 7) (.con (.int 1)))) (.cons (.or (.cmp .eq (.var 6) (.op .add (.var 7) (.con (.int 1)))) (.cmp .eq (.op .sub (.var 6) (.var 7)) (.op .sub (.var 2) (.con (.int 1))))) (.cons (.cmp .eq (.var 7) (.con (.int 0))) (.cons (.con (.bl true)) (.cons (.and (.cmp .eq (.var 6) (.op .add (.var 7) (.con (.int 1)))) (.cmp .lt (.op .mod (.var 7) (.con (.int 3))) (.con (.int 2)))) .nil))))))) (.cons (.set (.nm 8) (.bi .int (.cons (.ix (.var 9) (.op .mod (.op .fdiv (.var 3) (.con (.int 6))) (.con (.int 5)))) .nil))) .nil)) .nil) (.cons (.ite (.cmp .eq (.var 8) (.con (.int 1))) (.cons (.app 5 (.tup (.cons (.var 7) (.cons (.var 6) .nil)))) .nil) .nil) .nil)))))) .nil)) (.cons (.ret (.tup (.cons (.var 2) (.cons (.bi .tuple (.cons (.bi .sorted (.cons (.own 5) .nil)) .nil)) .nil)))) .nil))))))⟩
noncomputable def pB:Fn:=⟨1,4,false,(.cons (.set (.nm 1) (.comp (.rng (.ix (.var 0) (.con (.int 0)))) [none,none] (.nm 1) .yes (.op .shl (.con (.int 1)) (.var 1)))) (.cons (.for (.tp [2,3]) (.seq (.ix (.var 0) (.con (.int 1)))) (.cons (.seti 1 (.var 2) (.op .bor (.ix (.own 1) (.var 2)) (.op .shl (.con (.int 1)) (.var 3)))) (.cons (.seti 1 (.var 3) (.op .bor (.ix (.own 1) (.var 3)) (.op .shl (.con (.int 1)) (.var 2)))) .nil))) (.cons (.ret (.own 1)) .nil)))⟩
noncomputable def uE:Fn:=⟨2,2,false,(.cons (.ret (.bi .tuple (.cons (.comp (.rng (.var 0)) [none,none,some 1] (.nm 1) (.cmp .eq (.op .band (.op .shr (.var 2) (.var 1)) (.con (.int 1))) (.con (.int 1))) (.var 1)) .nil))) .nil)⟩
noncomputable def iK:Fn:=⟨2,2,false,(.cons (.ret (.call "is_between" (.cons (.var 1) (.cons (.con (.int 0)) (.cons (.op .sub (.ix (.var 0) (.con (.int 0))) (.con (.int 1))) .nil))))) .nil)⟩
noncomputable def jy:Fn:=⟨2,2,false,(.cons (.ite (.not (.val (.isi (.var 1) (.ty "tuple")))) (.cons (.ret (.con (.bl false))) .nil) .nil) (.cons (.ret (.and (.bi .all (.cons (.comp (.seq (.var 1)) [none,none,some 0] (.nm 1) .yes (.call "is_place" (.cons (.var 2) (.cons (.var 1) .nil)))) .nil)) (.call "rises" (.cons (.var 1) .nil)))) .nil))⟩
noncomputable def ny:Fn:=⟨2,2,false,(.cons (.ite (.not (.val (.call "is_some" (.cons (.var 0) (.cons (.var 1) .nil))))) (.cons .unk .nil) .nil) .nil)⟩
structure Web(p:Pr):Prop where
 is_whole:p.fns "is_whole" = some fX
 is_between:p.fns "is_between" = some zD
 is_pair:p.fns "is_pair" = some jR
 rises:p.fns "rises" = some jQ
 is_web:p.fns "is_web" = some kD
 is_tie:p.fns "is_tie" = some jH
 need_web:p.fns "need_web" = some mF
 MOST:p.glb "MOST" = some (.int 8)
structure Base(p:Pr):Prop extends Web p where
 all_some:p.fns "all_some" = some vy
 _law_cell_at:p.fns "_law_cell_at" = some zm
 _law_stir:p.fns "_law_stir" = some zB
 _law_web:p.fns "_law_web" = some j_
 _law_some:p.fns "_law_some" = some uE
structure lI(p:Pr):Prop where
 _law_cell_at:p.fns "_law_cell_at" = some zm
 _law_stir:p.fns "_law_stir" = some zB
 _law_web:p.fns "_law_web" = some j_
theorem Base.draw{p:Pr}(B:Base p):lI p:=⟨B._law_cell_at,B._law_stir,B._law_web⟩
structure Hds(p:Pr):Prop where
 hoods:p.fns "hoods" = some kv
 hood_of:p.fns "hood_of" = some gp
 are_tied:p.fns "are_tied" = some fE
structure Nbr(p:Pr):Prop where
 hoods:p.fns "hoods" = some kv
 hood_of:p.fns "hood_of" = some gp
 are_tied:p.fns "are_tied" = some fE
 mark_of:p.fns "mark_of" = some pU
 marks_of:p.fns "marks_of" = some r_
structure xa(p:Pr):Prop extends Nbr p where
 _law_masks:p.fns "_law_masks" = some pB
noncomputable instance {p:Pr}:CoeOut (Base p) (Web p):=⟨λb=>b.toWeb⟩
theorem Nbr.hds{p:Pr}(O:Nbr p):Hds p:=⟨O.hoods,O.hood_of,O.are_tied⟩
noncomputable instance {p:Pr}:CoeOut (Base p) (lI p):=⟨λb=>b.draw⟩
noncomputable instance {p:Pr}:CoeOut (Nbr p) (Hds p):=⟨λb=>b.hds⟩
noncomputable instance {p:Pr}:CoeOut (xa p) (Nbr p):=⟨λb=>b.toNbr⟩
structure iG(p:Pr):Prop where
 is_place:p.fns "is_place" = some iK
 is_some:p.fns "is_some" = some jy
structure g8(p:Pr):Prop where
 is_place:p.fns "is_place" = some iK
 is_some:p.fns "is_some" = some jy
 need_some:p.fns "need_some" = some ny
theorem g8.a{p:Pr}(b:g8 p):iG p:=⟨b.is_place,b.is_some⟩
noncomputable instance {p:Pr}:CoeOut (g8 p) (iG p):=⟨λb=>b.a⟩
end KG
namespace K51
open PySem PySem.Spec PyProof.Rows L2 EV
noncomputable def top(i:Nat):Stmt:=PySem.Challenge.pw_holdplaces_k51_papers_of_rows_rings_and.main.body.getD i (.Pass ⟨0,0,0,0⟩)
abbrev fX:Fn:=KG.fX
abbrev zD:Fn:=KG.zD
noncomputable def iC:Fn:=⟨3,3,false,(.cons (.ite (.not (.val (.call "is_between" (.cons (.var 0) (.cons (.var 1) (.cons (.var 2) .nil)))))) (.cons .unk .nil) .nil) .nil)⟩
noncomputable def h_:Fn:=⟨1,1,false,(.cons (.exp (.call "need_between" (.cons (.var 0) (.cons (.con (.int 1)) (.cons (.glb "LONGEST") .nil))))) .nil)⟩
noncomputable def iI:Fn:=⟨1,1,false,(.cons (.exp (.call "need_between" (.cons (.var 0) (.cons (.con (.int 3)) (.cons (.glb "LONGEST") .nil))))) .nil)⟩
noncomputable def iX:Fn:=⟨1,1,false,(.cons (.exp (.call "need_row" (.cons (.var 0) .nil))) (.cons (.ret (.call "thirds_from" (.cons (.con (.int 0)) (.cons (.var 0) .nil)))) .nil))⟩
noncomputable def gx:Fn:=⟨1,1,false,(.cons (.exp (.call "need_ring" (.cons (.var 0) .nil))) (.cons (.ret (.ite (.cmp .eq (.op .mod (.var 0) (.con (.int 3))) (.con (.int 0))) (.call "thirds_from" (.cons (.con (.int 0)) (.cons (.var 0) .nil))) (.con .non))) .nil))⟩
noncomputable def gj:Fn:=⟨1,1,false,(.cons (.exp (.call "need_row" (.cons (.var 0) .nil))) (.cons (.ret (.ite (.cmp .eq (.op .mod (.var 0) (.con (.int 2))) (.con (.int 1))) (.call "zigzag" (.cons (.var 0) .nil)) (.con .non))) .nil))⟩
noncomputable def j8:Fn:=⟨2,2,false,(.cons (.ret (.rtup (.rng3 (.var 0) (.var 1) (.con (.int 3))))) .nil)⟩
noncomputable def lH:Fn:=⟨1,1,false,(.cons (.ret (.bi .tuple (.cons (.comp (.rng3 (.con (.int 0)) (.var 0) (.con (.int 2))) [none,none] (.nm 1) .yes (.op .add (.op .mul (.con (.int 2)) (.var 1)) (.op .mod (.op .fdiv (.var 1) (.con (.int 2))) (.con (.int 2))))) .nil))) .nil)⟩
abbrev zm:Fn:=KG.zm
abbrev zB:Fn:=KG.zB
abbrev zO:Fn:=KG.zO
noncomputable def kf:Fn:=⟨3,4,false,(.cons (.ite (.cmp .eq (.var 0) (.con (.int 2))) (.cons (.set (.nm 3) (.lst (.cons (.var 2) (.cons (.op .bxor (.var 2) (.con (.int 1))) (.cons (.op .sub (.var 2) (.con (.int 2))) (.cons (.op .add (.var 2) (.con (.int 2))) .nil)))))) (.cons (.ret (.comp (.seq (.var 3)) [none,none,some 1] (.nm 1) (.cmp2 .le .lt (.con (.int 0)) (.var 1) (.op .mul (.con (.int 2)) (.var 2))) (.var 1))) .nil)) .nil) (.cons (.set (.nm 3) (.lst (.cons (.op .sub (.var 2) (.con (.int 1))) (.cons (.var 2) (.cons (.op .add (.var 2) (.con (.int 1))) .nil))))) (.cons (.ite (.cmp .eq (.var 0) (.con (.int 1))) (.cons (.ret (.comp (.seq (.var 3)) [none,none,some 1] (.nm 1) .yes (.op .mod (.var 1) (.var 2)))) .nil) .nil) (.cons (.ret (.comp (.seq (.var 3)) [none,none,some 1] (.nm 1) (.cmp2 .le .lt (.con (.int 0)) (.var 1) (.var 2)) (.var 1))) .nil))))⟩
noncomputable def jD:Fn:=⟨2,5,false,(.cons (.set (.nm 2) (.callE (.ix (.lst (.cons (.fnv "row_paper") (.cons (.fnv "ring_paper") (.cons (.fnv "ladder_paper") .nil)))) (.var 0)) (.cons (.var 1) .nil))) (.cons (.ite (.or (.and (.cmp .eq (.var 0) (.con (.int 1))) (.cmp .gt (.op .mod (.var 1) (.con (.int 3))) (.con (.int 0)))) (.and (.cmp .eq (.var 0) (.con (.int 2))) (.cmp .eq (.op .mod (.var 1) (.con (.int 2))) (.con (.int 0))))) (.cons (.ret (.cmp .is (.var 2) (.con .non))) .nil) .nil) (.cons (.ite (.or (.not (.val (.isi (.var 2) (.ty "tuple")))) (.not (.val (.bi .all (.cons (.comp (.seq (.var 2)) [none,none] (.nm 1) .yes (.call "_law_whole" (.cons (.var 1) .nil))) .nil))))) (.cons (.ret (.con (.bl false))) .nil) .nil) (.cons (.ite (.or (.cmp .ne (.bi .list (.cons (.var 2) .nil)) (.sset false (.var 2))) (.cmp .ne (.bi .len (.cons (.var 2) .nil)) (.ix (.lst (.cons (.op .fdiv (.op .add (.var 1) (.con (.int 2))) (.con (.int 3))) (.cons (.op .fdiv (.var 1) (.con (.int 3))) (.cons (.op .add (.op .fdiv (.var 1) (.con (.int 2))) (.con (.int 1))) .nil)))) (.var 0)))) (.cons (.ret (.con (.bl false))) .nil) .nil) (.cons (.ite (.or (.cmp .lt (.ix (.var 2) (.con (.int 0))) (.con (.int 0))) (.cmp .ge (.ix (.var 2) (.neg (.con (.int 1)))) (.ix (.lst (.cons (.var 1) (.cons (.var 1) (.cons (.op .mul (.con (.int 2)) (.var 1)) .nil)))) (.var 0)))) (.cons (.ret (.con (.bl false))) .nil) .nil) (.cons (.set (.nm 4) (.lst .nil)) (.cons (.for (.nm 3) (.seq (.var 2)) (.cons (.set (.nm 4) (.op .add (.var 4) (.call "_law_hood" (.cons (.var 0) (.cons (.var 1) (.cons (.var 3) .nil)))))) .nil)) (.cons (.ret (.and (.cmp .eq (.sset true (.var 4)) (.bi .len (.cons (.var 4) .nil))) (.cmp .eq (.callE (.ix (.lst (.cons (.fnv "row_paper") (.cons (.fnv "ring_paper") (.cons (.fnv "ladder_paper") .nil)))) (.var 0)) (.cons (.var 1) .nil)) (.var 2)))) .nil))))))))⟩
noncomputable def fW:Fn:=⟨1,6,false,(.cons (.for (.nm 1) (.seq (.lst (.cons (.con (.int 1)) (.cons (.con (.int 2)) (.cons (.con (.int 3)) (.cons (.con (.int 4)) (.cons (.con (.int 5)) (.cons (.con (.int 6)) (.cons (.con (.int 300)) .nil))))))))) (.cons (.ite (.or (.not (.val (.call "_law_right" (.cons (.con (.int 0)) (.cons (.var 1) .nil))))) (.or (.not (.val (.call "_law_right" (.cons (.con (.int 2)) (.cons (.var 1) .nil))))) (.and (.cmp .gt (.var 1) (.con (.int 2))) (.not (.val (.call "_law_right" (.cons (.con (.int 1)) (.cons (.var 1) .nil)))))))) (.cons (.ret (.con (.bl false))) .nil) .nil) .nil)) (.cons (.for (.nm 2) (.seq (.op .add (.lst (.cons (.call "_law_cell_at" (.cons (.var 0) (.cons (.con (.int 0)) .nil))) .nil)) (.sl (.var 0) (.some (.con (.int 1))) (.some (.con (.int 4)))))) (.cons (.for (.nm 3) (.rng (.con (.int 3))) (.cons (.set (.nm 4) (.call "_law_stir" (.cons (.var 2) (.cons (.var 3) .nil)))) (.cons (.set (.nm 5) (.lst (.cons (.op .add (.con (.int 1)) (.op .mod (.op .fdiv (.var 4) (.con (.int 4))) (.con (.int 10)))) (.cons (.op .add (.con (.int 1)) (.op .mod (.op .fdiv (.var 4) (.con (.int 4))) (.con (.int 300)))) (.cons (.op .add (.con (.int 3)) (.op .mul (.op .mod (.op .fdiv (.var 4) (.con (.int 4))) (.con (.int 99))) (.con (.int 3)))) (.cons (.op .add (.op .mul (.con (.int 2)) (.op .mod (.op .fdiv (.var 4) (.con (.int 4))) (.con (.int 150)))) (.con (.int 1))) .nil)))))) (.cons (.set (.nm 1) (.ix (.var 5) (.op .mod (.var 4) (.con (.int 4))))) (.cons (.ite (.not (.val (.call "_law_right" (.cons (.var 3) (.cons (.ite (.cmp .eq (.var 3) (.con (.int 1))) (.bi .max (.cons (.var 1) (.cons (.con (.int 3)) .nil))) (.var 1)) .nil))))) (.cons (.ret (.con (.bl false))) .nil) .nil) .nil))))) .nil)) (.cons (.ret (.con (.bl true))) .nil)))⟩
abbrev u9:Ent:=⟨"is_whole",top 4,[],false,fX⟩
abbrev yq:Ent:=⟨"is_between",top 5,[],false,zD⟩
abbrev xq:Ent:=⟨"need_between",top 6,[],false,iC⟩
abbrev t8:Ent:=⟨"need_row",top 9,[],false,h_⟩
abbrev xK:Ent:=⟨"need_ring",top 10,[],false,iI⟩
abbrev rC:Ent:=⟨"row_paper",top 11,[],false,iX⟩
abbrev wJ:Ent:=⟨"ring_paper",top 12,[],false,gx⟩
abbrev uj:Ent:=⟨"ladder_paper",top 13,[],false,gj⟩
abbrev uy:Ent:=⟨"thirds_from",top 14,[],false,j8⟩
abbrev tX:Ent:=⟨"zigzag",top 15,[],false,lH⟩
abbrev ot:Ent:=⟨"_law_cell_at",top 17,[],false,zm⟩
abbrev yc:Ent:=⟨"_law_stir",top 18,[],false,zB⟩
abbrev nT:Ent:=⟨"_law_whole",top 19,[],false,zO⟩
abbrev r8:Ent:=⟨"_law_hood",top 20,[],false,kf⟩
abbrev oa:Ent:=⟨"_law_right",top 21,[],false,jD⟩
abbrev eR:Ent:=⟨"law",top 22,[],false,fW⟩
abbrev tab:List Ent:=[u9,yq,xq,t8,xK,rC,wJ,uj,uy,tX,ot,yc,nT,r8,oa,eR]
abbrev oth:List (Str×GK):=[(bt "NoNumber",GK.exc),(bt "LONGEST",GK.val),(bt "len",GK.bi .len),(bt "tuple",GK.ty "tuple" (some .tuple)),(bt "list",GK.ty "list" (some .list)),(bt "int",GK.ty "int" (some .int)),(bt "bool",GK.ty "bool" (some .bool)),(bt "set",GK.set),(bt "sorted",GK.bi .sorted),(bt "all",GK.bi .all),(bt "max",GK.bi .max),(bt "range",GK.rng),(bt "isinstance",GK.isi)]
abbrev vals:List (Str×D):=[(bt "LONGEST",(.int 300))]
abbrev G:List (Str×GK):=tab.map (λe=>(e.x,GK.fn e.fr))++oth
abbrev cc:List (Str×Str):=[]
abbrev us:List Ent:=[]
abbrev subs:List ((Str×Cl)×Bool):=[]
abbrev p:Pr:=prT tab vals cc subs
theorem xk:p.fns "is_whole" = some fX:=by kernel_rfl
theorem xc:p.fns "is_between" = some zD:=by kernel_rfl
theorem v8:p.fns "need_between" = some iC:=by kernel_rfl
theorem wI:p.fns "need_row" = some h_:=by kernel_rfl
theorem p7:p.fns "need_ring" = some iI:=by kernel_rfl
theorem oX:p.fns "row_paper" = some iX:=by kernel_rfl
theorem jW:p.fns "ring_paper" = some gx:=by kernel_rfl
theorem mZ:p.fns "ladder_paper" = some gj:=by kernel_rfl
theorem sR:p.fns "thirds_from" = some j8:=by kernel_rfl
theorem pR:p.fns "zigzag" = some lH:=by kernel_rfl
theorem jo:p.fns "_law_hood" = some kf:=by kernel_rfl
theorem kl:p.fns "_law_right" = some jD:=by kernel_rfl
theorem xV:p.fns "law" = some fW:=by kernel_rfl
theorem m4:p.glb "LONGEST" = some (.int 300):=by kernel_rfl
end K51
namespace KG
open EV
open PySem (Str)
open L2 (atI ixN ltP)
section
variable{p:Pr}
theorem qk{k:Nat}{x:Str}{f:Fn}{ds:List D}(h:p.fns x=some f):qc p (k+1) x ds=zN ⟨qc p k,p.glb,p.sub,p.cat⟩ f ds:=by
 rw[qc,h]
theorem xR{k:Nat}{x:Str}{f:Fn}{ds:List D}{τ:Env}{Q:D->Prop}(hf:p.fns x=some f)(hl:ds.length=f.ps)(hτ:ds.map some++bP (f.N-f.ps) none=τ)(h:Ends (λ_=>False) Q (ql (wAt p k) f.body τ)):∃d,qc p (k+1) x ds=.ok d/\Q d:=by
 rw[qk hf,zN,if_pos hl,hτ];cases z:ql ⟨qc p k,p.glb,p.sub,p.cat⟩ f.body τ with
 |rt d=>rw[z]at h;exact⟨d,rfl,h⟩
 |nx _=>rw[z]at h;exact h.elim
 |_=>rw[z]at h;exact h.elim
section
variable(B:Web p)
include B
theorem is_whole{k:Nat}(i:Int):qc p (k+1) "is_whole" [.int i]=.ok (.bl true):=by rw[qk B.is_whole];rfl
theorem is_between{k:Nat}(i a b:Int)(h:a<=i/\i<=b):qc p (k+2) "is_between" [.int i,.int a,.int b]=.ok (.bl true):=by
 rw[qk B.is_between];refine zh rfl rfl ?_;simp[KG.Z,KG.zD,is_whole B,qh,fk,h.1,h.2]
theorem is_pair{k:Nat}(a b:D):qc p (k+1) "is_pair" [.tup [a,b]]=.ok (.bl true):=by
 rw[qk B.is_pair];refine zh rfl rfl ?_;simp[KG.Z,jR,b1,seq?,qh,D.asks,D.plain,D.deep,D.eqv]
theorem is_tie{k:Nat}(a b m:Int)(h:0<=a/\a<b/\b<m):qc p (k+2) "is_tie" [.tup [.int a,.int b],.int m]=.ok (.bl true):=by
 rw[qk B.is_tie];refine zh rfl rfl ?_;simp[KG.Z,jH,is_pair B,is_whole B,qh,fk,h.1,h.2.1,h.2.2]
theorem rises{k:Nat}(xs:List D)(hz:xs.length<=28)(h:∀(i:Nat) (q:i+1<xs.length),qh .lt xs[i] xs[i+1]=.ok true):qc p (k+1) "rises" [.tup xs]=.ok (.bl true):=by
 rw[qk B.rises];refine zh rfl rfl ?_;have hr:qf ((xs.length:Int)-1)=true:=by simp[qf];lia
 have hc:evE ⟨qc p k,p.glb,p.sub,p.cat⟩ (.comp (.rng (.op .sub (.bi .len (.cons (.var 0) .nil)) (.con (.int 1)))) [none,none,some 0] (.nm 1) .yes (.cmp .lt (.ix (.var 2) (.var 1)) (.ix (.var 2) (.op .add (.var 1) (.con (.int 1)))))) [some (.tup xs)]=.ok (.lst ((zy 0 ((xs.length:Int)-1).toNat).flatMap λ_=>[.bl true])):=by
  refine gb (c:=[some (.tup xs)]) ?_ ?_ rfl ?_
  ·simp[KG.Z,b1,seq?,op2,hr]
  ·simp[zy,SZ];lia
  ·intro x hx;simp only[zy,bh,List.mem_range]at hx;obtain⟨i,hi,rfl⟩:=hx;have e1:atI xs ((0:Int)+(i:Int))=some xs[i]:=by rw[Int.zero_add];exact fD (by lia)
   have e2:atI xs ((0:Int)+(i:Int)+1)=some xs[i+1]:=by rw[Int.zero_add];exact fD (i:=i+1) (by lia)
   have e3:=h i (by lia);simp only[Int.zero_add]at e1 e2;simp[KG.Z,ixD,op2,e1,e2,e3]
 simp[KG.Z,jQ,hc,b1,all_true,tI]
theorem is_web{k:Nat}{m:Int}{ts:List (Int×Int)}(h:GW m ts):qc p (k+3) "is_web" [wb m ts]=.ok (.bl true):=by
 rw[qk B.is_web];refine zh rfl rfl ?_;have hr:=rises B (k:=k+1) (ts.map prD) (by simpa using h.len) (λi q=>by
  rw[List.getElem_map,List.getElem_map];exact tG (List.pairwise_iff_getElem.mp h.lt i (i+1) (by simp at q;lia) (by simpa using q) (by lia)))
 have hc:evE ⟨qc p (k+2),p.glb,p.sub,p.cat⟩ (.comp (.seq (.var 2)) [none,none,some 1] (.nm 1) .yes (.call "is_tie" (.cons (.var 1) (.cons (.var 2) .nil)))) [some (wb m ts),some (.int m),some (.tup (ts.map prD))]=.ok (.lst ((ts.map prD).flatMap λ_=>[.bl true])):=by
  refine gb (c:=[some (.int m)]) ?_ ?_ rfl ?_
  ·simp[KG.Z,seq?]
  ·simp[SZ];have:=h.len;lia
  ·intro x hx;rw[bh]at hx;obtain⟨t,ht,rfl⟩:=hx;have e:=is_tie B (k:=k) t.1 t.2 m (h.ok t ht);have e':qc p (k+2) "is_tie" [prD t,.int m]=.ok (.bl true):=e;simp[KG.Z,e']
 simp[KG.Z,kD,is_pair B,is_between B m 1 8 ⟨h.lo,h.hi⟩,B.MOST,hc,b1,all_true,hr]
theorem need_web{k:Nat}{m:Int}{ts:List (Int×Int)}(h:GW m ts):qc p (k+4) "need_web" [wb m ts]=.ok .non:=by
 rw[qk B.need_web];simp only[zN];simp[KG.Z,mF,is_web B h]
end
theorem uD(hf:p.fns "_law_stir" = some zB){k:Nat}(c j:Int):qc p (k+1) "_law_stir" [.int c,.int j]=.ok (.int (st c j)):=by
 have s1:small 977=true:=by decide
 have s2:small 48271=true:=by decide
 have s3:small 40692=true:=by decide
 have s4:small 69621=true:=by decide
 have s5:=x9 ((c%2147483647+977 * j+1) * 48271) 2147483647 (by decide) (by decide);rw[qk hf];refine zh rfl rfl ?_;simp[KG.Z,KG.zB,op2,s1,s2,s3,s4,s5,st]
theorem sF(hf:p.fns "_law_cell_at" = some zm){k:Nat}(ns:List Int):∃x:Int,qc p (k+1) "_law_cell_at" [.lst (ns.map D.int),.int 0]=.ok (.int x):=by
 cases ns with
 |nil=>
  refine⟨0,?_⟩;have e1:b1 .len [.lst []]=.ok (.int 0):=rfl;have e3:qh .lt (.int 0) (.int 0)=.ok false:=rfl;rw[qk hf];refine zh rfl rfl ?_;simp[KG.Z,KG.zm,e1,e3]
 |cons x r=>
  refine⟨x,?_⟩;have e1:b1 .len [.lst ((x::r).map D.int)]=.ok (.int (r.length+1:Nat)):=by
   show R.ok (D.int ((x::r).map D.int).length)=_;simp
  have e2:ixD (.lst ((x::r).map D.int)) (.int 0)=.ok (.int x):=by
   have:=fD (xs:=(x::r).map D.int) (i:=0) (by simp);simp only[ixD];rw[show (0:Int)=((0:Nat):Int)from rfl,this];rfl
  simp only[bF]at e1 e2;have h0:(0:Int)<((r.length+1:Nat):Int):=by lia
  have e3:qh .lt (.int 0) (.int ((r.length+1:Nat):Int))=.ok true:=by rw[lt_int,decide_eq_true h0]
  generalize ((r.length+1:Nat):Int)=N at *;rw[qk hf];refine zh rfl rfl ?_;simp[KG.Z,KG.zm,e1,e2,e3]
section
variable(B:Base p)
include B
end
section
variable(B:Web p)(S:iG p)
include B S
theorem is_place{k:Nat}(i m:Int)(t:D)(h:0<=i/\i<m):qc p (k+3) "is_place" [.tup [.int m,t],.int i]=.ok (.bl true):=by
 rw[qk S.is_place];refine zh rfl rfl ?_;simp[KG.Z,iK,ixD,atI,ixN,op2,is_between B i 0 (m-1) (by lia)]
theorem is_some{k:Nat}{m:Int}{t:D}{s:List Int}(h:GS m s):qc p (k+4) "is_some" [.tup [.int m,t],tu s]=.ok (.bl true):=by
 rw[qk S.is_some];refine zh rfl rfl ?_;have hr:=rises B (k:=k+2) (s.map D.int) (by simp;have:=h.len;lia) (λi q=>by
  rw[List.getElem_map,List.getElem_map];have:=List.pairwise_iff_getElem.mp h.lt i (i+1) (by simp at q;lia) (by simpa using q) (by lia);simp[qh,fk,this])
 have hc:evE ⟨qc p (k+3),p.glb,p.sub,p.cat⟩ (.comp (.seq (.var 1)) [none,none,some 0] (.nm 1) .yes (.call "is_place" (.cons (.var 2) (.cons (.var 1) .nil)))) [some (.tup [.int m,t]),some (tu s)]=.ok (.lst ((s.map D.int).flatMap λ_=>[.bl true])):=by
  refine gb (c:=[some (.tup [.int m,t])]) ?_ ?_ rfl ?_
  ·simp[KG.Z,seq?]
  ·simp[SZ];have:=h.len;lia
  ·intro x hx;rw[bh]at hx;obtain⟨i,hi,rfl⟩:=hx;simp[KG.Z,is_place B S i m t (h.ok i hi)]
 simp[KG.Z,jy,hc,b1,all_true,hr]
omit S in
theorem need_some(S:g8 p){k:Nat}{m:Int}{t:D}{s:List Int}(h:GS m s):qc p (k+5) "need_some" [.tup [.int m,t],tu s]=.ok .non:=by
 rw[qk S.need_some];simp only[zN];simp[KG.Z,ny,is_some B S h]
end
theorem ll(hA:p.fns "are_tied" = some fE){k:Nat}(ts:List (Int×Int))(a b:Int):qc p (k+1) "are_tied" [.tup (ts.map prD),.int a,.int b]=.ok (.bl (fP ts a b)):=by
 rw[qk hA];refine zh rfl rfl ?_;simp[KG.Z,fE,b1,pT,fP,mn,mx]
theorem vh(hH:p.fns "hood_of" = some gp)(hA:p.fns "are_tied" = some fE){k:Nat}{m:Int}{ts:List (Int×Int)}(h:GW m ts)(a:Int):qc p (k+2) "hood_of" [wb m ts,.int a]=.ok (tu (hd m ts a)):=by
 rw[qk hH];refine zh rfl rfl ?_;have h1:=h.lo;have h2:=h.hi;have hc:evE ⟨qc p (k+1),p.glb,p.sub,p.cat⟩ (.comp (.rng (.var 2)) [none,none,some 1,some 3] (.nm 1) (.or (.cmp .eq (.var 1) (.var 2)) (.val (.call "are_tied" (.cons (.var 3) (.cons (.var 2) (.cons (.var 1) .nil)))))) (.var 1)) [some (wb m ts),some (.int a),some (.int m),some (.tup (ts.map prD))]=.ok (.lst ((hd m ts a).map D.int)):=by
  rw[hd,<-uB,<-mU];refine gb (c:=[some (.int a),some (.tup (ts.map prD))]) ?_ ?_ rfl ?_
  ·have:qf m=true:=by simp[qf];lia
   simp[KG.Z,this]
  ·simp[zy,SZ];lia
  ·intro x hx;rw[mU,bh]at hx;obtain⟨b,hb,rfl⟩:=hx;have e:qh .eq (.int b) (.int a)=.ok (b==a):=rfl;simp[KG.Z,e,ll hA];by_cases q:b=a
   ·simp[q]
   ·simp[q];cases fP ts a b<;>simp
 simp[KG.Z,gp,hc,b1,seq?]
section
variable(B:Web p)(O:Hds p)
include O
theorem are_tied{k:Nat}(ts:List (Int×Int))(a b:Int):qc p (k+1) "are_tied" [.tup (ts.map prD),.int a,.int b]=.ok (.bl (fP ts a b)):=ll O.are_tied ts a b
theorem hood_of{k:Nat}{m:Int}{ts:List (Int×Int)}(h:GW m ts)(a:Int):qc p (k+2) "hood_of" [wb m ts,.int a]=.ok (tu (hd m ts a)):=vh O.hood_of O.are_tied h a
include B
end
section
variable(O:Nbr p)
include O
end
end
section
variable{p:Pr}{k:Nat}{M c:Int}{n:Int}{ts:List (Int×Int)}{a b:Int}{i:Int}{v3 v4:Option D}{Q:D->Prop}
end
end KG
namespace KG
open EV
open PySem (Str Builtin.bitAnd Builtin.bitOr)
open L2 (atI ixN ltP)
theorem vI(a b:Nat):PySem.Builtin.bitAnd (a:Int) (b:Int)=((a &&& b:Nat):Int):=by
 simp[PySem.Builtin.bitAnd]
theorem vm(a b:Nat):PySem.Builtin.bitOr (a:Int) (b:Int)=((a |||b:Nat):Int):=by
 have h:∀n:Nat,¬ (0<=bN (n:Int)):=λn=>by simp[bN];lia
 have e:∀n:Nat,bN (bN (n:Int))=n:=λn=>by simp[bN];lia
 unfold PySem.Builtin.bitOr;have:PySem.Builtin.bitAnd (bN (a:Int)) (bN (b:Int))=bN (((bN (bN (a:Int))).toNat ||| (bN (bN (b:Int))).toNat:Nat):Int):=by
  simp[PySem.Builtin.bitAnd,h a,h b]
 rw[this,e,e,e];simp
noncomputable def bs(m:Int)(n:Nat):List Int:=(rng m).filter λi=>n.testBit i.toNat
noncomputable def subs:Nat->List (List Int)
 | 0=>[[]]
 |j+1=>subs j++(subs j).map (· ++ [(j:Int)])
section
variable{p:Pr}(B:Base p)
include B
end
end KG
namespace KG
open EV
open PySem (Str)
open L2 (atI ixN ltP)
section
variable{p:Pr}(B:Base p)
include B
end
abbrev ln(N:List Nat):D:=.lst (N.map λ(x:Nat)=>D.int (x:Int))
theorem i0{α:Type}{w:W}{it:It}{cap:List (Option Nat)}{t:T}{elt:E}{τ c:Env}{l:List α}{f:α->D}(q:α->Bool)(g:α->D)(h:evI w it τ=.ok (l.map f))(hz:l.length<=SZ)(hc:dE cap τ=none::none::c)
  (hb:∀a∈l,evT w t (none::some (f a)::c)=.ok (q a)/\(q a=true->evE w elt (none::some (f a)::c)=.ok (g a))):evE w (.comp it cap (.nm 1) t elt) τ=.ok (.lst ((l.filter q).map g)):=by
 have key:∀(r:List α) (v:Option D) (acc:List D),(∀x∈r,x∈l)->zJ (λx σ=>noEx ((store (.nm 1) x σ).bind λσ'=>(evT w t σ').bind λr=>if r then (evE w elt σ').bind λd=>.ok (σ',[d])else .ok (σ',[]))) (r.map f) (none::v::c) acc=.ok (acc++(r.filter q).map g):=by
  intro r
  induction r with
  |nil=>intro v acc _;simp[zJ]
  |cons x r ih=>
   intro v acc hm;obtain⟨h1,h2⟩:=hb x (hm x aW);rw[bF,zJ];have e:noEx ((store (.nm 1) (f x) (none::v::c)).bind λσ'=>(evT w t σ').bind λr=>if r then (evE w elt σ').bind λd=>.ok (σ',[d])else .ok (σ',[]))=.ok (none::some (f x)::c,if q x then [g x]else []):=by
    simp only[store,R.bind_ok,List.set_cons_succ,List.set_cons_zero,h1];cases hq:q x with
    |false=>rfl
    |true=>simp only[if_true,h2 hq,R.bind_ok];rfl
   rw[e];simp only[R.bind_ok];rw[ih (some (f x)) _ λy hy=>hm y (aS _ hy),List.filter_cons,bg];cases q x<;>simp
 rw[qr,h];simp only[R.bind_ok];rw[if_neg (by simp;lia),hc,key l none [] λ_ h=>h]
 rfl
theorem iN{α:Type}{w:W}{it:It}{cap:List (Option Nat)}{elt:E}{τ c:Env}{l:List α}{f:α->D}(g:α->D)(h:evI w it τ=.ok (l.map f))(hz:l.length<=SZ)(hc:dE cap τ=none::none::c)
  (hb:∀a∈l,evE w elt (none::some (f a)::c)=.ok (g a)):evE w (.comp it cap (.nm 1) .yes elt) τ=.ok (.lst (l.map g)):=by
 have:=i0 (t:=.yes) (elt:=elt) (f:=f) (λ_=>true) g h hz hc λa ha=>⟨rfl,λ_=>hb a ha⟩
 rwa[List.filter_eq_self.mpr (λ_ _=>rfl)]at this
theorem iS{w:W}{e:E}{τ:Env}{xs:List D}(h:evE w e τ=.ok (.lst xs)):evI w (.seq e) τ=.ok xs:=by rw[evI.eq_1,h];rfl
theorem mI{w:W}{e:E}{τ:Env}{xs:List D}(h:evE w e τ=.ok (.tup xs)):evI w (.seq e) τ=.ok xs:=by rw[evI.eq_1,h];rfl
theorem nV{α:Type}(l:List α)(f:α->Bool):bools? (l.map λa=>D.bl (f a))=some (l.map f):=by
 induction l with
 |nil=>rfl
 |cons a r ih=>rw[bF,bools?,ih];rfl
theorem oV{α:Type}(l:List α)(f:α->Bool):b1 .all [.lst (l.map λa=>D.bl (f a))]=.ok (.bl (l.all f)):=by
 rw[b1,b11];simp only[eD];rw[nV];simp only[cg];rw[List.all_map];rfl
theorem sV(s:List Int):b1 .len [tu s]=.ok (.int s.length):=by
 show R.ok (D.int ((s.map D.int).length:Nat))=_;rw[aZ]
theorem ne_int(a b:Int):qh .ne (.int a) (.int b)=.ok (!decide (a=b)):=by
 show R.ok (!(a==b))=_
 congr 1
theorem tM(ns:List Int)(lo hi:Option Int):∃cs:List Int,cutD (ns.map D.int) lo hi=cs.map D.int/\cs.length<=ns.length:=by
 refine⟨(ns.drop _).take _,by rw[cutD,<-List.map_drop,<-List.map_take],by simp;lia⟩
theorem rT{p:Pr}(hf:p.fns "_law_whole" = some zO){k:Nat}(i:Int):qc p (k+1) "_law_whole" [.int i]=.ok (.bl true):=by
 rw[qk hf];refine zh rfl rfl ?_;simp[KG.Z,KG.zO]
theorem fx{α:Type}{f:α->D}{r:List D}{x:D}{l:List α}(e:x::r=l.map f):∃a l',l=a::l'/\x=f a/\r=l'.map f:=by
 cases l with
 |nil=>cases e
 |cons a l'=>rw[bF]at e;injection e with e1 e2;exact⟨a,l',rfl,e1,e2⟩
theorem so{w:W}{f:Fn}{ds:List D}{τ:Env}{Q:D->Prop}(hl:ds.length=f.ps)(hτ:ds.map some++bP (f.N-f.ps) none=τ)(h:Ends (λ_=>False) Q (ql w f.body τ)):∃d,zN w f ds=.ok d/\Q d:=by
 rw[zN,if_pos hl,hτ];cases z:ql w f.body τ with
 |rt d=>rw[z]at h;exact⟨d,rfl,h⟩
 |nx _=>rw[z]at h;exact h.elim
 |_=>rw[z]at h;exact h.elim
end KG
namespace K51
open EV KG
open PySem (Str)
open L2 (atI ixN ltP)
theorem hSt:p.fns "_law_stir" = some KG.zB:=by kernel_rfl
theorem hCe:p.fns "_law_cell_at" = some KG.zm:=by kernel_rfl
noncomputable def tf(s n:Int):List Int:=(a7 (L2.zr s n 3)).map λ(i:Nat)=>s+(i:Int) * 3
theorem uo(s n:Int):D.tup (dI s 3 (L2.zr s n 3))=tu (tf s n):=by
 rw[tf,tu,List.map_map];rfl
theorem gL(s n:Int):(tf s n).Pairwise (· < ·):=by
 rw[tf,List.pairwise_map];exact List.pairwise_lt_range.imp λh=>by lia
theorem xM{s n:Int}(h:s<n):∃r,tf s n=s::r:=by
 rw[tf,L2.zr,if_pos h];obtain⟨k,e⟩:∃k,((n-s-1)/3+1).toNat=k+1:=⟨((n-s-1)/3).toNat,by lia⟩
 rw[e,List.range_succ_eq_map,bF];refine⟨((a7 k).map Nat.succ).map λ(i:Nat)=>s+(i:Int) * 3,?_⟩
 congr 1
 simp
theorem mQ{k:Nat}{s n:Int}(h1:0<=s/\s<=2)(h2:1<=n/\n<=300):qc p (k+1) "thirds_from" [.int s,.int n]=.ok (tu (tf s n)):=by
 have a1:qf s=true:=by simp[qf];lia
 have a2:qf n=true:=by simp[qf];lia
 have a3:qf 3=true:=by decide
 rw[qk sR,<-uo];refine zh (τ:=[some (.int s),some (.int n)]) rfl rfl ?_;have e:evI ⟨qc p k,p.glb,p.sub,p.cat⟩ (.rng3 (.var 0) (.var 1) (.con (.int 3))) [some (.int s),some (.int n)]=.ok (dI s 3 (L2.zr s n 3)):=by
  simp[KG.Z,a1,a2,a3]
 show ql _ (.cons (.ret (.rtup _)) .nil) _=_;rw[ql,zE,qq,e]
 rfl
theorem sD{k:Nat}(i:Int):qc p (k+1) "is_whole" [.int i]=.ok (.bl true):=by rw[qk xk];rfl
theorem between{k:Nat}(i a b:Int)(h:a<=i/\i<=b):qc p (k+2) "is_between" [.int i,.int a,.int b]=.ok (.bl true):=by
 rw[qk xc];refine zh rfl rfl ?_;simp[KG.Z,KG.zD,sD,qh,fk,h.1,h.2]
theorem lC{k:Nat}(i a b:Int)(h:a<=i/\i<=b):qc p (k+3) "need_between" [.int i,.int a,.int b]=.ok .non:=by
 rw[qk v8];simp only[zN];simp[KG.Z,iC,between i a b h]
theorem lL{k:Nat}(n:Int)(h:1<=n/\n<=300):qc p (k+4) "need_row" [.int n]=.ok .non:=by
 rw[qk wI];simp only[zN];simp[KG.Z,h_,m4,lC n 1 300 h]
theorem yk{k:Nat}(n:Int)(h:3<=n/\n<=300):qc p (k+4) "need_ring" [.int n]=.ok .non:=by
 rw[qk p7];simp only[zN];simp[KG.Z,iI,m4,lC n 3 300 h]
abbrev li(c:List Int):D:=.lst (c.map D.int)
theorem w6(xs ys:List Int):qh .ne (li xs) (li ys)=.ok (!decide (xs=ys)):=by
 have a:∀l:List Int,(li l).asks=true:=λl=>by simp[D.asks,D.plain,D.deep,i7,hZ]
 rw[qh,a,a];simp only[Bool.and_self,if_true,D.eqv,jv]
theorem xP{xs:List Int}(h:xs.Pairwise (· < ·)):sortI (uq xs)=xs:=(jM (gQ (h.imp λz=>by lia) λ_=>.rfl) (h.imp λz=>by lia)).symm
theorem o6{xs:List Int}(hz:xs.length<=151)(h:xs.Pairwise (· < ·)):dZ false (tu xs)=.ok (li xs):=by
 simp only[dZ,tu,seq?,cg];rw[if_pos (by simp;lia),ints_map];show R.ok (D.lst ((sortI (uq xs)).map D.int))=_;rw[xP h]
theorem xG{l:List D}{P:D->Prop}(hL:∀d∈l,P d)(i:Int)(h:0<=i/\i<l.length):∃d,ixD (.lst l) (.int i)=.ok d/\P d:=by
 obtain⟨j,rfl⟩:∃j:Nat,i=j:=⟨i.toNat,by lia⟩
 have hj:j<l.length:=by lia
 refine⟨l[j],?_,hL _ (cJ hj)⟩;simp only[ixD];rw[fD hj]
theorem mw{α:Type} [DecidableEq α]:∀{l:List α},l.Nodup->(uq l).length=l.length
 | [],_=>rfl
 |a::l,h=>by
  rw[List.nodup_cons]at h;rw[uq,if_neg h.1,bO,bO,mw h.2]
theorem xI{xs:List Int}(hz:xs.length<1200)(h:xs.Nodup):dZ true (li xs)=.ok (.int (xs.length:Int)):=by
 simp only[dZ,seq?,cg];rw[if_pos (by simp;lia),ints_map];show R.ok (D.int ((uq xs).length:Nat))=_;rw[mw h]
noncomputable def zw(t:Int):Int:=2 * t+t/2%2
noncomputable def zz(n:Int):List Int:=(a7 (L2.zr 0 n 2)).map λ(i:Nat)=>zw (0+(i:Int) * 2)
theorem uK{k:Nat}{n:Int}(h2:1<=n/\n<=300):qc p (k+1) "zigzag" [.int n]=.ok (tu (zz n)):=by
 have a2:qf n=true:=by simp[qf];lia
 have a1:qf 0=true:=by decide
 have a3:qf 2=true:=by decide
 have s2:small 2=true:=by decide
 have hl:L2.zr 0 n 2<=200:=by rw[L2.zr];split<;>lia
 have hc:evE ⟨qc p k,p.glb,p.sub,p.cat⟩ (.comp (.rng3 (.con (.int 0)) (.var 0) (.con (.int 2))) [none,none] (.nm 1) .yes (.op .add (.op .mul (.con (.int 2)) (.var 1)) (.op .mod (.op .fdiv (.var 1) (.con (.int 2))) (.con (.int 2))))) [some (.int n)]=.ok (.lst ((zz n).map D.int)):=by
  rw[zz,List.map_map];refine iN (f:=λ(i:Nat)=>D.int (0+(i:Int) * 2)) (c:=[]) (D.int∘λ(i:Nat)=>zw (0+(i:Int) * 2)) ?_ (by simp[SZ];lia) rfl λi _=>?_
  ·rw[show ((a7 (L2.zr 0 n 2)).map λ(i:Nat)=>D.int (0+(i:Int) * 2))=dI 0 2 (L2.zr 0 n 2)from rfl];simp[KG.Z,a1,a2,a3]
  ·show evE _ _ [none,some (.int (0+(i:Int) * 2))]=.ok (.int (zw (0+(i:Int) * 2)));generalize (0+(i:Int) * 2)=T;simp[KG.Z,op2,s2,zw]
 rw[qk pR];refine zh (τ:=[some (.int n)]) rfl rfl ?_;show ql _ (.cons (.ret (.bi .tuple (.cons _ .nil))) .nil) _=_;rw[ql,zE,qo,zu,hc];simp only[R.bind_ok,zu]
 rfl
theorem o7{k:Nat}(n:Int)(h:1<=n/\n<=300):qc p (k+5) "row_paper" [.int n]=.ok (tu (tf 0 n)):=by
 have e1:=lL (k:=k) n h;have e2:=mQ (k:=k+3) (s:=0) (n:=n) (by lia) h;generalize tu (tf 0 n)=U at *;rw[qk oX];refine zh rfl rfl ?_;simp[KG.Z,iX,e1,e2]
theorem uQ{k:Nat}(n:Int)(h:3<=n/\n<=300):qc p (k+5) "ring_paper" [.int n]=.ok (if n%3=0 then tu (tf 0 n)else .non):=by
 have e1:=yk (k:=k) n h;have e2:=mQ (k:=k+3) (s:=0) (n:=n) (by lia) ⟨by lia,h.2⟩;have om:op2 .mod (.int n) (.int 3)=.ok (.int (n%3)):=rfl;have q0:=eq_int (n%3) 0;generalize tu (tf 0 n)=U at *;by_cases q:n%3=0
 ·rw[if_pos q];rw[decide_eq_true q]at q0;generalize n%3=R3 at *;clear q;rw[qk jW];refine zh rfl rfl ?_;simp[KG.Z,gx,e1,e2,om,q0,qi]
 ·rw[if_neg q];rw[decide_eq_false q]at q0;generalize n%3=R3 at *;clear q;rw[qk jW];refine zh rfl rfl ?_;simp[KG.Z,gx,e1,e2,om,q0,qi]
theorem uf{k:Nat}(n:Int)(h:1<=n/\n<=300):qc p (k+5) "ladder_paper" [.int n]=.ok (if n%2=1 then tu (zz n)else .non):=by
 have e1:=lL (k:=k) n h;have e2:=uK (k:=k+3) (n:=n) h;have om:op2 .mod (.int n) (.int 2)=.ok (.int (n%2)):=rfl;have q0:=eq_int (n%2) 1;generalize tu (zz n)=U at *;by_cases q:n%2=1
 ·rw[if_pos q];rw[decide_eq_true q]at q0;generalize n%2=R3 at *;clear q;rw[qk mZ];refine zh rfl rfl ?_;simp[KG.Z,gj,e1,e2,om,q0,qi]
 ·rw[if_neg q];rw[decide_eq_false q]at q0;generalize n%2=R3 at *;clear q;rw[qk mZ];refine zh rfl rfl ?_;simp[KG.Z,gj,e1,e2,om,q0,qi]
noncomputable def inr(b x:Int):Bool:=decide (0<=x)&&decide (x<b)
noncomputable def h0(n x:Int):List Int:=[x-1,x,x+1].filter (inr n)
noncomputable def h1(n x:Int):List Int:=[x-1,x,x+1].map (· % n)
noncomputable def h2(n x:Int):List Int:=[x,PySem.Builtin.bitXor x 1,x-2,x+2].filter (inr (2 * n))
theorem l5{w:W}{e:E}{τ:Env}{b x:Int}(hx:zR τ 1=.ok (.int x))(he:evE w e τ=.ok (.int b)):evT w (.cmp2 .le .lt (.con (.int 0)) (.var 1) e) τ=.ok (inr b x):=by
 have c1:qh .le (.int 0) (.int x)=.ok (decide (0<=x)):=rfl;have c2:qh .lt (.int x) (.int b)=.ok (decide (x<b)):=rfl;rw[inr];generalize decide (x<b)=q2 at *;generalize decide (0<=x)=q1 at *;rw[dM,qV,qU,hx];simp only[R.bind_ok];rw[c1];cases q1
 ·rfl
 ·simp only[R.bind_ok,if_true];rw[he];exact c2
theorem oK{k:Nat}(n x:Int):qc p (k+1) "_law_hood" [.int 0,.int n,.int x]=.ok (li (h0 n x)):=by
 rw[qk jo];refine zh (τ:=[some (.int 0),some (.int n),some (.int x),none]) rfl rfl ?_;have c0:qh .eq (.int 0) (.int 2)=.ok false:=rfl;have c1:qh .eq (.int 0) (.int 1)=.ok false:=rfl;refine ez (σ:=[some (.int 0),some (.int n),some (.int x),none]) (by simp[KG.Z,c0]) ?_;refine ez (σ:=[some (.int 0),some (.int n),some (.int x),some (li [x-1,x,x+1])]) (by simp[KG.Z,op2]) ?_;refine ez (σ:=[some (.int 0),some (.int n),some (.int x),some (li [x-1,x,x+1])]) (by simp[KG.Z,c1]) ?_;have hc:evE ⟨qc p k,p.glb,p.sub,p.cat⟩ (.comp (.seq (.var 3)) [none,none,some 1] (.nm 1) (.cmp2 .le .lt (.con (.int 0)) (.var 1) (.var 2)) (.var 1)) [some (.int 0),some (.int n),some (.int x),some (li [x-1,x,x+1])]=.ok (li (h0 n x)):=
  i0 (f:=D.int) (c:=[some (.int n)]) (inr n) D.int (iS rfl) (by simp[SZ]) rfl λy _=>⟨l5 rfl rfl,λ_=>rfl⟩
 show ql _ (.cons (.ret _) .nil) _=_;rw[ql,zE,hc];rfl
theorem xO{k:Nat}(n x:Int)(hn:0<n):qc p (k+1) "_law_hood" [.int 1,.int n,.int x]=.ok (li (h1 n x)):=by
 rw[qk jo];refine zh (τ:=[some (.int 1),some (.int n),some (.int x),none]) rfl rfl ?_;have c0:qh .eq (.int 1) (.int 2)=.ok false:=rfl;have c1:qh .eq (.int 1) (.int 1)=.ok true:=rfl;refine ez (σ:=[some (.int 1),some (.int n),some (.int x),none]) (by simp[KG.Z,c0]) ?_;refine ez (σ:=[some (.int 1),some (.int n),some (.int x),some (li [x-1,x,x+1])]) (by simp[KG.Z,op2]) ?_;have hc:evE ⟨qc p k,p.glb,p.sub,p.cat⟩ (.comp (.seq (.var 3)) [none,none,some 1] (.nm 1) .yes (.op .mod (.var 1) (.var 2))) [some (.int 1),some (.int n),some (.int x),some (li [x-1,x,x+1])]=.ok (li (h1 n x)):=by
  show _=R.ok (D.lst ([x-1,x,x+1].map λy=>.int (y%n)));refine iN (f:=D.int) (c:=[some (.int n)]) (λy=>.int (y%n)) (iS rfl) (by simp[SZ]) rfl λy _=>?_
  have:op2 .mod (.int y) (.int n)=.ok (.int (y%n)):=by
   show opI .mod y n=_;rw[opI,if_pos hn]
  show evE _ _ [none,some (.int y),some (.int n)]=.ok (.int (y%n));generalize y%n=Z at *;simp[KG.Z,this]
 have eT:evT ⟨qc p k,p.glb,p.sub,p.cat⟩ (.cmp .eq (.var 0) (.con (.int 1))) [some (.int 1),some (.int n),some (.int x),some (li [x-1,x,x+1])]=.ok true:=by simp[KG.Z,c1]
 show ql _ (.cons (.ite _ (.cons (.ret _) .nil) _) _) _=_;rw[ql,zM,eT];simp only[R.out_ok,if_true];rw[ql,zE,hc];rfl
theorem xv{k:Nat}(n x:Int):qc p (k+1) "_law_hood" [.int 2,.int n,.int x]=.ok (li (h2 n x)):=by
 rw[qk jo];refine zh (τ:=[some (.int 2),some (.int n),some (.int x),none]) rfl rfl ?_;have c0:qh .eq (.int 2) (.int 2)=.ok true:=rfl;have s2:small 2=true:=by decide
 have bx:op2 .bxor (.int x) (.int 1)=.ok (.int (PySem.Builtin.bitXor x 1)):=rfl;have sb:op2 .sub (.int x) (.int 2)=.ok (.int (x-2)):=rfl;have ad:op2 .add (.int x) (.int 2)=.ok (.int (x+2)):=rfl;have eT:evT ⟨qc p k,p.glb,p.sub,p.cat⟩ (.cmp .eq (.var 0) (.con (.int 2))) [some (.int 2),some (.int n),some (.int x),none]=.ok true:=by simp[KG.Z,c0]
 have hc:evE ⟨qc p k,p.glb,p.sub,p.cat⟩ (.comp (.seq (.var 3)) [none,none,some 1] (.nm 1) (.cmp2 .le .lt (.con (.int 0)) (.var 1) (.op .mul (.con (.int 2)) (.var 2))) (.var 1)) [some (.int 2),some (.int n),some (.int x),some (li [x,PySem.Builtin.bitXor x 1,x-2,x+2])]=.ok (li (h2 n x)):=
  i0 (f:=D.int) (c:=[some (.int n)]) (inr (2 * n)) D.int (iS rfl) (by simp[SZ]) rfl λy _=>⟨l5 rfl (by simp[KG.Z,op2,s2]),λ_=>rfl⟩
 show ql _ (.cons (.ite _ (.cons (.set _ _) (.cons (.ret _) .nil)) _) _) _=_;rw[ql,zM,eT];simp only[R.out_ok,if_true];rw[ez (σ:=[some (.int 2),some (.int n),some (.int x),some (li [x,PySem.Builtin.bitXor x 1,x-2,x+2])]) (by
  generalize PySem.Builtin.bitXor x 1=BX at *;simp[KG.Z,bx,sb,ad]) rfl]
 rw[ql,zE,hc];rfl
theorem fK{s n x:Int}(h:x∈tf s n):s<=x/\x<n/\(x-s)%3=0:=by
 rw[tf,bh]at h;obtain⟨i,hi,rfl⟩:=h;rw[List.mem_range,L2.zr]at hi;split at hi<;>lia
theorem gv{n x:Int}(h:x∈zz n):∃i:Nat,x=4 * (i:Int)+(i:Int)%2/\2 * (i:Int)<n:=by
 rw[zz,bh]at h;obtain⟨i,hi,rfl⟩:=h;rw[List.mem_range,L2.zr]at hi;refine⟨i,?_,?_⟩
 ·rw[zw];lia
 ·split at hi<;>lia
theorem ku(n:Int):(zz n).Pairwise (· < ·):=by
 rw[zz,List.pairwise_map];exact List.pairwise_lt_range.imp λh=>by rw[zw,zw];lia
theorem tF:∀x:Fin 700,((x.val ||| 1:Nat):Int)-((x.val &&& 1:Nat):Int)=if x.val%2=0 then (x.val:Int)+1 else (x.val:Int)-1:=by decide +kernel
theorem l4{x:Int}(h0:0<=x)(h:x<700):PySem.Builtin.bitXor x 1=if x%2=0 then x+1 else x-1:=by
 obtain⟨m,rfl⟩:∃m:Nat,x=m:=⟨x.toNat,by lia⟩
 have:=tF ⟨m,by lia⟩;rw[PySem.Builtin.bitXor,show (1:Int)=((1:Nat):Int)from rfl,vm,vI,this];by_cases q:m%2=0
 ·rw[if_pos q,if_pos (by lia)];rfl
 ·rw[if_neg q,if_neg (by lia)];rfl
theorem iQ{f:Int->List Int}{s:List Int}(hs:s.Pairwise (· < ·))(h1:∀x∈s,(f x).Nodup)(h2:∀x∈s,∀y∈s,x<y->∀u∈f x,∀v∈f y,u≠v):(s.flatMap f).Nodup:=by
 rw[List.Nodup,List.pairwise_flatMap];exact⟨h1,(List.Pairwise.and_mem.mp hs).imp λ{x y} ⟨a,b,c⟩=>h2 x a y b c⟩
theorem nd0(n:Int):((tf 0 n).flatMap (h0 n)).Nodup:=by
 refine iQ (gL 0 n) (λx _=>?_) λx hx y hy hlt u hu v hv e=>?_
 ·refine List.Pairwise.filter _ ?_;show List.Nodup [x-1,x,x+1];simp only[List.nodup_cons,aJ,bD,or_false,not_or];exact⟨⟨by lia,by lia⟩,by lia,id,List.nodup_nil⟩
 ·have a:=fK hx;have b:=fK hy;have c:=(cn.mp hu).1;have d:=(cn.mp hv).1;simp only[aJ,bD,or_false]at c d;lia
theorem ud{n a b:Int}(hn:0<n)(h:a%n=b%n)(hlt:a<b):n<=b-a:=by
 have d:(b-a)%n=0:=by rw[Int.sub_emod,h];simp
 obtain⟨k,hk⟩:=Int.dvd_of_emod_eq_zero d;have:1<=k:=by
  rcases Int.lt_or_le 0 k with q|q
  ·exact q
  ·have:=Int.mul_le_mul_of_nonneg_left q (show (0:Int)<=n by lia);lia
 have:=Int.mul_le_mul_of_nonneg_left this (show (0:Int)<=n by lia);lia
theorem nd1{n:Int}(h3:3<=n)(hm:n%3=0):((tf 0 n).flatMap (h1 n)).Nodup:=by
 have key:∀a b:Int,a<b->b-a<n->a%n≠b%n:=λa b h q e=>by have:=ud (by lia) e h;lia
 refine iQ (gL 0 n) (λx _=>?_) λx hx y hy hlt u hu v hv e=>?_
 ·show List.Nodup [(x-1)%n,x%n,(x+1)%n];simp only[List.nodup_cons,aJ,bD,or_false,not_or];exact⟨⟨key _ _ (by lia) (by lia),key _ _ (by lia) (by lia)⟩,key _ _ (by lia) (by lia),id,List.nodup_nil⟩
 ·have a:=fK hx;have b:=fK hy;obtain⟨u',hu',rfl⟩:=bh.mp hu;obtain⟨v',hv',rfl⟩:=bh.mp hv;have hu'':u'=x-1\/u'=x\/u'=x+1:=by simpa using hu'
  have hv'':v'=y-1\/v'=y\/v'=y+1:=by simpa using hv'
  exact key u' v' (by lia) (by lia) e
theorem nd2{n:Int}(h:n<=300):((zz n).flatMap (h2 n)).Nodup:=by
 refine iQ (ku n) (λx hx=>?_) λx hx y hy hlt u hu v hv e=>?_
 ·obtain⟨i,a,b⟩:=gv hx;refine List.Pairwise.filter _ ?_;rw[l4 (by lia) (by lia)];show List.Nodup [x,_,x-2,x+2];simp only[List.nodup_cons,aJ,bD,or_false,not_or];refine⟨⟨by split<;>lia,by lia,by lia⟩,⟨by split<;>lia,by split<;>lia⟩,by lia,id,List.nodup_nil⟩
 ·obtain⟨i,a,b⟩:=gv hx;obtain⟨j,c,d⟩:=gv hy;have p1:=(cn.mp hu).1;have p2:=(cn.mp hv).1;rw[l4 (by lia) (by lia)]at p1 p2;simp only[aJ,bD,or_false]at p1 p2;have hij:i<j:=by lia
  have q1:u=4 * (i:Int)\/u=4 * (i:Int)+1\/u=4 * (i:Int)-2+(i:Int)%2\/u=4 * (i:Int)+2+(i:Int)%2:=by
   rcases p1 with p1|p1|p1|p1
   ·lia
   ·split at p1<;>lia
   ·lia
   ·lia
  have q2:v=4 * (j:Int)\/v=4 * (j:Int)+1\/v=4 * (j:Int)-2+(j:Int)%2\/v=4 * (j:Int)+2+(j:Int)%2:=by
   rcases p2 with p2|p2|p2|p2
   ·lia
   ·split at p2<;>lia
   ·lia
   ·lia
  clear p1 p2 hu hv hx hy;by_cases z:j=i+1
  ·subst z;lia
  ·lia
theorem oQ{u:List Int}(hu:u≠[]):ixD (tu u) (.int (-1))=.ok (.int (u.getLast hu)):=by
 have hl:=List.length_pos_iff.mpr hu;have e:atI (u.map D.int) (-1)=some (.int (u.getLast hu)):=by
  rw[atI,ixN,if_neg (by lia),if_pos (by simp;lia)];simp only[aZ];rw[show ((-1:Int)+(u.length:Int)).toNat=u.length-1 by lia];simp[List.getLast_eq_getElem,hl]
 simp only[ixD];rw[e]
theorem rm{a:Int}{r:List Int}:ixD (tu (a::r)) (.int 0)=.ok (.int a):=by
 have:=fD (xs:=(a::r).map D.int) (i:=0) (by simp);simp only[ixD];rw[show (0:Int)=((0:Nat):Int)from rfl,this];rfl
abbrev RS(kd n:Int)(s:List Int)(v3 v4:Option D):Env:=[some (.int kd),some (.int n),some (tu s),v3,v4]
abbrev CE:E:=.callE (.ix (.lst (.cons (.fnv "row_paper") (.cons (.fnv "ring_paper") (.cons (.fnv "ladder_paper") .nil)))) (.var 0)) (.cons (.var 1) .nil)
abbrev CT:T:=.or (.and (.cmp .eq (.var 0) (.con (.int 1))) (.cmp .gt (.op .mod (.var 1) (.con (.int 3))) (.con (.int 0)))) (.and (.cmp .eq (.var 0) (.con (.int 2))) (.cmp .eq (.op .mod (.var 1) (.con (.int 2))) (.con (.int 0))))
theorem good{k:Nat}{kd n b:Int}(hn:1<=n/\n<=300){s:List Int}{h:Int->List Int}(hC:∀v2 v3 v4,evE (wAt p (k+5)) CE [some (.int kd),some (.int n),v2,v3,v4]=.ok (tu s))(hT:∀v2 v3 v4,evT (wAt p (k+5)) CT [some (.int kd),some (.int n),v2,v3,v4]=.ok false)
  (hs:s.Pairwise (· < ·)) (hne:s≠[]) (hz:s.length<=151) (hok:∀x∈s,0<=x/\x<b) (i4:ixD (.lst [.int ((n+2)/3),.int (n/3),.int (n/2+1)]) (.int kd)=.ok (.int (s.length:Int))) (i5:ixD (.lst [.int n,.int n,.int (2 * n)]) (.int kd)=.ok (.int b))
  (hh:∀x∈s,qc p (k+5) "_law_hood" [.int kd,.int n,.int x]=.ok (li (h x))) (hl:∀x,(h x).length<=4) (nd:(s.flatMap h).Nodup):qc p (k+6) "_law_right" [.int kd,.int n]=.ok (.bl true):=by
 have s2:small 2=true:=by decide
 obtain⟨d,e,rfl⟩:∃d,qc p (k+6) "_law_right" [.int kd,.int n]=.ok d/\d=.bl true:=by
  refine xR (k:=k+5) (τ:=[some (.int kd),some (.int n),none,none,none]) kl rfl rfl ?_;refine cM (σ:=RS kd n s none none) (by rw[cw,hC];rfl) ?_;refine cM (σ:=RS kd n s none none) (by rw[zM,hT];rfl) ?_;have hw:p.fns "_law_whole" = some KG.zO:=by kernel_rfl
  have hc:evE (wAt p (k+5)) (.comp (.seq (.var 2)) [none,none] (.nm 1) .yes (.call "_law_whole" (.cons (.var 1) .nil))) (RS kd n s none none)=.ok (.lst (s.map λ_=>.bl true)):=by
   refine iN (f:=D.int) (c:=[]) (λ_=>.bl true) (mI rfl) (by simp[SZ];lia) rfl λa _=>?_
   have e:=rT hw (k:=k+4) a;simp[KG.Z,e]
  have h3:=oV s λ_=>true
  have h4:(s.all λ_=>true)=true:=by simp
  rw[h4]at h3;have e1:∀w:W,cx w (tu s) (.ty "tuple")=.ok (.bl true):=λ_=>rfl
  have e2:b1 .list [tu s]=.ok (li s):=rfl;have e3:=o6 hz hs;have e4:=w6 s s;have e5:=sV s;have e6:=KG.ne_int (s.length:Int) (s.length:Int);simp only[decide_true,Bool.not_true]at e4 e6;refine cM (σ:=RS kd n s none none) ?_ (cM (σ:=RS kd n s none none) ?_ ?_)
  ·dsimp only[RS]at hc ⊢;generalize (s.map λ_=>D.bl true)=BB at *;generalize tu s=TX at *;simp[KG.Z,hc,h3,e1]
  ·dsimp only[RS];generalize tu s=TX at *;generalize li s=LX at *;generalize ((s.length:Nat):Int)=LN at *;simp[KG.Z,op2,e2,e3,e4,e5,e6,i4,qp]
  obtain⟨a,r,ear⟩:∃a r,s=a::r:=by cases s with|nil=>exact absurd rfl hne|cons a r=>exact⟨a,r,rfl⟩
  have f1:ixD (tu s) (.int 0)=.ok (.int a):=by rw[ear];exact rm
  have f2:=oQ hne;have a0:=hok a (by rw[ear];simp);have aL:=hok _ (List.getLast_mem hne);generalize s.getLast hne=z at *;have f3:qh .lt (.int a) (.int 0)=.ok false:=by
   show R.ok (decide (a<0))=_;rw[decide_eq_false (by lia)]
  have f4:qh .ge (.int z) (.int b)=.ok false:=by
   show R.ok (decide (b<=z))=_;rw[decide_eq_false (by lia)]
  refine cM (σ:=RS kd n s none none) ?_ ?_
  ·dsimp only[RS];generalize tu s=TX at *;simp[KG.Z,op2,s2,f1,f2,f3,f4,i5,qZ]
  refine cM (σ:=RS kd n s none (some (li []))) (by rfl) ?_;refine gi (ds:=s.map D.int) (λr σ=>∃(l:List Int) (acc:List Int) (v3:Option D),r=l.map D.int/\(∀x∈l,x∈s)/\acc.length+4 * l.length<=604/\acc++l.flatMap h=s.flatMap h/\σ=RS kd n s v3 (some (li acc))) (mI rfl) ⟨s,[],none,rfl,λ_ h=>h,by simp;lia,rfl,rfl⟩ ?_ ?_
  ·rintro y t σ ⟨l,acc,v3,e,hm,hlen,hf,rfl⟩;obtain⟨x,l,rfl,rfl,rfl⟩:=fx e;refine⟨RS kd n s (some (.int x)) (some (li acc)),rfl,?_⟩;have g1:=hh x (hm x aW);have g2:=hl x;simp only[bO]at hlen;have g3:op2 .add (li acc) (li (h x))=.ok (li (acc++h x)):=by
    rw[op2,if_pos ⟨rfl,by simp[SZ];lia⟩,li,List.map_append]
   refine cM (σ:=RS kd n s (some (.int x)) (some (li (acc++h x)))) ?_ (gJ ⟨l,acc++h x,_,rfl,λy hy=>hm y (aS _ hy),by simp;lia,by rw[<-hf,List.flatMap_cons,bg],rfl⟩);dsimp only[RS];generalize li (acc++h x)=L2' at *;generalize li (h x)=L1 at *;generalize li acc=L0 at *;generalize tu s=TX at *;simp[KG.Z,g1,g3]
  ·rintro σ ⟨l,acc,v3,e,hm,hlen,hf,rfl⟩;have:l=[]:=by cases l with|nil=>rfl|cons _ _=>cases e
   subst this;have hf:acc=s.flatMap h:=by simpa using hf
   rw[<-hf]at nd;have g1:=xI (xs:=acc) (by simp at hlen;lia) nd;have g2:b1 .len [li acc]=.ok (.int (acc.length:Int)):=by show R.ok (D.int (acc.map D.int).length)=_;rw[aZ]
   have g3:=eq_int (acc.length:Int) (acc.length:Int);have g4:=vT s s;simp only[decide_true]at g3 g4;have g4:qh .eq (tu s) (tu s)=.ok true:=g4;have hC':=hC (some (tu s)) v3 (some (li acc));have x1:evE (wAt p (k+5)) (.cmp .eq (.sset true (.var 4)) (.bi .len (.cons (.var 4) .nil))) (RS kd n s v3 (some (li acc)))=.ok (.bl true):=by
    dsimp only[RS];generalize li acc=L0 at *;generalize ((acc.length:Nat):Int)=LN at *;generalize tu s=TX at *;simp[KG.Z,g1,g2,g3,qp]
   have x2:evE (wAt p (k+5)) (.cmp .eq CE (.var 2)) (RS kd n s v3 (some (li acc)))=.ok (.bl true):=by
    rw[qs,hC'];show ((qh .eq (tu s) (tu s)).bind _)=_;rw[g4];rfl
   refine jA (d:=.bl true) ?_ rfl;rw[qt,x1];exact x2
 exact e
theorem iT{n:Int}(h:1<=n):((tf 0 n).length:Int)=(n+2)/3:=by
 rw[tf,aZ,List.length_range,L2.zr,if_pos (by lia)];lia
theorem jg{n:Int}(h:1<=n)(ho:n%2=1):((zz n).length:Int)=n/2+1:=by
 rw[zz,aZ,List.length_range,L2.zr,if_pos (by lia)];lia
theorem bad{k:Nat}{kd n:Int}(hC:∀v2 v3 v4,evE (wAt p (k+5)) CE [some (.int kd),some (.int n),v2,v3,v4]=.ok .non)(hT:∀v2 v3 v4,evT (wAt p (k+5)) CT [some (.int kd),some (.int n),v2,v3,v4]=.ok true):qc p (k+6) "_law_right" [.int kd,.int n]=.ok (.bl true):=by
 rw[qk kl];refine zh (τ:=[some (.int kd),some (.int n),none,none,none]) rfl rfl ?_;refine ez (σ:=[some (.int kd),some (.int n),some .non,none,none]) (by rw[cw,hC];rfl) ?_;show ql (wAt p (k+5)) (.cons (.ite CT _ _) _) _=_;rw[ql,zM,hT]
 rfl
theorem ce{k:Nat}{kd n:Int}{f:Str}{d:D}(hi:ixD (.lst [.fn "row_paper",.fn "ring_paper",.fn "ladder_paper"]) (.int kd)=.ok (.fn f))(hf:qc p (k+5) f [.int n]=.ok d)(v2 v3 v4:Option D):evE (wAt p (k+5)) CE [some (.int kd),some (.int n),v2,v3,v4]=.ok d:=by
 have e1:evE (wAt p (k+5)) (.ix (.lst (.cons (.fnv "row_paper") (.cons (.fnv "ring_paper") (.cons (.fnv "ladder_paper") .nil)))) (.var 0)) [some (.int kd),some (.int n),v2,v3,v4]=.ok (.fn f):=by
  simp[KG.Z,hi]
 rw[qC,e1];show ((R.ok [D.int n]).bind λds=>qc p (k+5) f ds)=_;exact hf
theorem ct{w:W}{kd n:Int}(v2 v3 v4:Option D):evT w CT [some (.int kd),some (.int n),v2,v3,v4]=.ok ((decide (kd=1)&&decide (0<n%3))||(decide (kd=2)&&decide (n%2=0))):=by
 have a1:=eq_int kd 1;have a2:=eq_int kd 2;have b1:qh .gt (.int (n%3)) (.int 0)=.ok (decide (0<n%3)):=rfl;have b2:=eq_int (n%2) 0;have o1:op2 .mod (.int n) (.int 3)=.ok (.int (n%3)):=rfl;have o2:op2 .mod (.int n) (.int 2)=.ok (.int (n%2)):=rfl;generalize decide (kd=1)=q1 at *;generalize decide (kd=2)=q2 at *;generalize decide (0<n%3)=q3 at *;generalize decide (n%2=0)=q4 at *;generalize n%3=M3 at *;generalize n%2=M2 at *;cases q1<;>cases q2<;>cases q3<;>simp[KG.Z,a1,a2,b1,b2,o1,o2]
theorem xn{k:Nat}{kd n:Int}(hk:kd=0\/kd=1\/kd=2)(hn:1<=n/\n<=300)(h3:kd=1->3<=n):qc p (k+6) "_law_right" [.int kd,.int n]=.ok (.bl true):=by
 have lt0:∀x∈tf 0 n,0<=x/\x<n:=λx hx=>by have:=fK hx;lia
 have ne0:tf 0 n≠[]:=by obtain⟨r,e⟩:=xM (s:=0) (n:=n) (by lia);rw[e];simp
 have le0:(tf 0 n).length<=151:=by have:=iT hn.1;lia
 rcases hk with rfl|rfl|rfl
 ·refine good (k:=k) hn (λv2 v3 v4=>ce rfl (o7 n hn) v2 v3 v4) (λv2 v3 v4=>ct v2 v3 v4) (gL 0 n) ne0 le0 lt0 ?_ rfl (λx _=>oK (k:=k+4) n x) (λx=>bz (List.length_filter_le _ _) (by simp)) (nd0 n);rw[iT hn.1];rfl
 ·have h3:=h3 rfl;have hr:=uQ (k:=k) n ⟨h3,hn.2⟩;by_cases q:n%3=0
  ·rw[if_pos q]at hr;refine good (k:=k) hn (λv2 v3 v4=>ce rfl hr v2 v3 v4) (λv2 v3 v4=>?_) (gL 0 n) ne0 le0 lt0 ?_ rfl (λx _=>xO (k:=k+4) n x (by lia)) (λx=>by simp[h1]) (nd1 h3 q)
   ·rw[ct,decide_eq_false (show ¬ 0<n%3 by lia)];rfl
   ·rw[iT hn.1,show (n+2)/3=n/3 by lia];rfl
  ·rw[if_neg q]at hr;refine bad (k:=k) (λv2 v3 v4=>ce rfl hr v2 v3 v4) (λv2 v3 v4=>?_);rw[ct,decide_eq_true (show 0<n%3 by lia)];rfl
 ·have hr:=uf (k:=k) n hn;by_cases q:n%2=1
  ·rw[if_pos q]at hr;have nez:zz n≠[]:=λz=>by have:=jg hn.1 q;rw[z]at this;simp at this;lia
   refine good (k:=k) (b:=2 * n) hn (λv2 v3 v4=>ce rfl hr v2 v3 v4) (λv2 v3 v4=>?_) (ku n) nez (by have:=jg hn.1 q;lia) (λx hx=>?_) ?_ rfl (λx _=>xv (k:=k+4) n x) (λx=>bz (List.length_filter_le _ _) (by simp)) (nd2 hn.2)
   ·rw[ct,decide_eq_false (show ¬ n%2=0 by lia)];rfl
   ·obtain⟨i,a,b⟩:=gv hx;lia
   ·rw[jg hn.1 q];rfl
  ·rw[if_neg q]at hr;refine bad (k:=k) (λv2 v3 v4=>ce rfl hr v2 v3 v4) (λv2 v3 v4=>?_);rw[ct,decide_eq_true (show n%2=0 by lia)];rfl
structure Hyp(F:Str->List D->R D):Prop where
 hr:∀kd n:Int,(kd=0\/kd=1\/kd=2)->1<=n/\n<=300->(kd=1->3<=n)->F "_law_right" [.int kd,.int n]=.ok (.bl true)
 hs:∀c j:Int,F "_law_stir" [.int c,.int j]=.ok (.int (st c j))
theorem nJ{w:W}(ns:List Int)(hn:ns.length<=63)(hc:∃x:Int,w.call "_law_cell_at" [.lst (ns.map D.int),.int 0]=.ok (.int x))(H:Hyp w.call):Ends (λ_=>False) (λd=>d=.bl true) (ql w fW.body [some (.lst (ns.map D.int)),none,none,none,none,none]):=by
 obtain⟨LL,hLL⟩:∃LL,LL=ns.map D.int:=⟨_,rfl⟩
 refine gi (ds:=([1,2,3,4,5,6,300]:List Int).map D.int) (λr σ=>∃(ms:List Int) (v1:Option D),r=ms.map D.int/\(∀x∈ms,1<=x/\x<=300)/\σ=[some (.lst (ns.map D.int)),v1,none,none,none,none]) (by rfl) ⟨_,none,rfl,by decide,rfl⟩ ?_ ?_
 ·rintro y t σ ⟨ms,v1,e,hm,rfl⟩;obtain⟨n,ms,rfl,rfl,rfl⟩:=fx e;have n1:=hm n aW;refine⟨[some (.lst (ns.map D.int)),some (.int n),none,none,none,none],rfl,?_⟩;refine cM (σ:=[some (.lst (ns.map D.int)),some (.int n),none,none,none,none]) ?_ (gJ ⟨ms,_,rfl,λx hx=>hm x (aS _ hx),rfl⟩);have r0:=H.hr 0 n (.inl rfl) n1 (λz=>by cases z);have r2:=H.hr 2 n (.inr (.inr rfl)) n1 (λz=>by cases z);have c1:qh .gt (.int n) (.int 2)=.ok (decide (2<n)):=rfl;rw[<-hLL];by_cases q:2<n
  ·have r1:=H.hr 1 n (.inr (.inl rfl)) n1 (λ_=>by lia);rw[decide_eq_true q]at c1;simp[KG.Z,r0,r1,r2,c1]
  ·rw[decide_eq_false q]at c1;simp[KG.Z,r0,r2,c1]
 ·rintro σ ⟨ms,v1,e,hm,rfl⟩;obtain⟨cs,hcs,hcl⟩:=tM ns (some 1) (some 4);obtain⟨x,hx⟩:=hc;refine gi (ds:=(x::cs).map D.int) (λr σ=>∃(ms:List Int) (v1 v2 v3 v4 v5:Option D),r=ms.map D.int/\σ=[some (.lst (ns.map D.int)),v1,v2,v3,v4,v5]) ?_ ⟨_,v1,none,none,none,none,rfl,rfl⟩ ?_ ?_
  ·have e:op2 .add (.lst [.int x]) (.lst (cs.map D.int))=.ok (.lst ((x::cs).map D.int)):=by
    rw[op2,if_pos (by simp[SZ];lia)];simp
   simp[KG.Z,slD,hcs,hx,e,seq?]
  ·rintro y t σ ⟨ms,v1,v2,v3,v4,v5,e,rfl⟩;obtain⟨c,ms,rfl,rfl,rfl⟩:=fx e;refine⟨[some (.lst (ns.map D.int)),v1,some (.int c),v3,v4,v5],rfl,?_⟩;refine gi (ds:=([0,1,2]:List Int).map D.int) (λr σ=>∃(ks:List Int) (v1 v3 v4 v5:Option D),r=ks.map D.int/\(∀x∈ks,x=0\/x=1\/x=2)/\σ=[some (.lst (ns.map D.int)),v1,some (.int c),v3,v4,v5]) (by rfl) ⟨_,v1,v3,v4,v5,rfl,by simp,rfl⟩ ?_ ?_
   ·rintro y t σ ⟨ks,v1,v3,v4,v5,e,hk,rfl⟩;obtain⟨kd,ks,rfl,rfl,rfl⟩:=fx e;have hkd:=hk kd aW;refine⟨[some (.lst (ns.map D.int)),v1,some (.int c),some (.int kd),v4,v5],rfl,?_⟩;have s1:=H.hs c kd;rw[<-hLL];refine cM (σ:=[some (.lst LL),v1,some (.int c),some (.int kd),some (.int (st c kd)),v5]) (by
     generalize st c kd=T at *;simp[KG.Z,s1]) ?_
    generalize st c kd=T at *;obtain⟨d,g,n,rfl,n1,n2⟩:=xG (l:=[.int (1+T/4%10),.int (1+T/4%300),.int (3+T/4%99 * 3),.int (2 * (T/4%150)+1)]) (P:=λd=>∃n:Int,d=.int n/\1<=n/\n<=300) (by
     simp only[List.forall_mem_cons];exact⟨⟨_,rfl,by lia,by lia⟩,⟨_,rfl,by lia,by lia⟩,⟨_,rfl,by lia,by lia⟩,⟨_,rfl,by lia,by lia⟩,by simp⟩) (T%4) ⟨by lia,by show T%4<4;lia⟩
    have s3:small 3=true:=by decide
    have s2:small 2=true:=by decide
    refine cM (σ:=[some (.lst LL),v1,some (.int c),some (.int kd),some (.int T),some (.lst [.int (1+T/4%10),.int (1+T/4%300),.int (3+T/4%99 * 3),.int (2 * (T/4%150)+1)])]) (by simp[KG.Z,op2,s3,s2]) ?_;generalize ([.int (1+T/4%10),.int (1+T/4%300),.int (3+T/4%99 * 3),.int (2 * (T/4%150)+1)]:List D)=PL at *;refine cM (σ:=[some (.lst LL),some (.int n),some (.int c),some (.int kd),some (.int T),some (.lst PL)]) (by simp[KG.Z,op2,g]) ?_;refine cM (σ:=[some (.lst LL),some (.int n),some (.int c),some (.int kd),some (.int T),some (.lst PL)]) ?_ (gJ ⟨ks,_,_,_,_,rfl,λx hx=>hk x (aS _ hx),by rw[hLL]⟩);have c1:=eq_int kd 1;by_cases q:kd=1
    ·have m1:b1 .max [.int n,.int 3]=.ok (.int (if 3>n then 3 else n)):=rfl;have r1:=H.hr kd (if 3>n then 3 else n) hkd ⟨by split<;>lia,by split<;>lia⟩ (λ_=>by split<;>lia);rw[decide_eq_true q]at c1;generalize (if 3>n then 3 else n)=mx at *;simp[KG.Z,m1,r1,c1,qi]
    ·have r1:=H.hr kd n hkd ⟨n1,n2⟩ (λz=>absurd z q);rw[decide_eq_false q]at c1;simp[KG.Z,r1,c1,qi]
   ·rintro σ ⟨bs,v1,v3,v4,v5,e,hk,rfl⟩;exact gJ ⟨ms,_,_,_,_,_,rfl,rfl⟩
  ·rintro σ ⟨ms,v1,v2,v3,v4,v5,e,rfl⟩;exact jA (d:=.bl true) (by rfl) rfl
theorem rD{F:Str->List D->R D}(ns:List Int)(hn:ns.length<=63)(hc:∃x:Int,F "_law_cell_at" [.lst (ns.map D.int),.int 0]=.ok (.int x))(H:Hyp F):zN ⟨F,p.glb,p.sub,p.cat⟩ fW [.lst (ns.map D.int)]=.ok (.bl true):=by
 obtain⟨d,e,rfl⟩:=so (w:=⟨F,p.glb,p.sub,p.cat⟩) (f:=fW) (ds:=[.lst (ns.map D.int)]) rfl rfl (nJ (w:=⟨F,p.glb,p.sub,p.cat⟩) ns hn hc H);exact e
noncomputable def depth:Nat:=7
theorem yb:∀ns:List Int,ns.length<=63->qc p depth "law" [.lst (ns.map D.int)]=.ok (.bl true):=by
 intro ns hn;rw[show depth=6+1 from rfl,qk xV];exact rD ns hn (sF hCe (k:=5) ns) ⟨λkd n h1 h2 h3=>xn (k:=0) h1 h2 h3,λc j=>uD hSt (k:=5) c j⟩
end K51
namespace K51
open PySem PySem.Spec PyProof.Rows L2 EV
theorem jY:∀e∈tab,cFn G (ey us oth) e.own e.fr e.st=some e.fn:=by
 intro e he;simp only[tab,aJ,bD,or_false]at he;rcases he with rfl|rfl|rfl|rfl|rfl|rfl|rfl|rfl|rfl|rfl|rfl|rfl|rfl|rfl|rfl|rfl<;>kernel_rfl
theorem vQ:∀e∈us,e∈tab:=by
 intro e he;cases he
theorem o8:∀e∈us,jN (dJ oth) e.own e.fr e.st=some e.fn:=by
 intro e he;cases he
theorem nd:(tab.map (·.x)).Nodup:=by decide +kernel
section
variable{K:aB}{h:Heap}{mg:Str->Option ae}{f0:Addr}(d0:WB.Dd K "is_whole" (top 4) f0){f1:Addr}(d1:WB.Dd K "is_between" (top 5) f1){f2:Addr}(d2:WB.Dd K "need_between" (top 6) f2){f3:Addr}(d3:WB.Dd K "need_row" (top 9) f3){f4:Addr}(d4:WB.Dd K "need_ring" (top 10) f4){f5:Addr}(d5:WB.Dd K "row_paper" (top 11) f5){f6:Addr}(d6:WB.Dd K "ring_paper" (top 12) f6){f7:Addr}(d7:WB.Dd K "ladder_paper" (top 13) f7){f8:Addr}(d8:WB.Dd K "thirds_from" (top 14) f8){f9:Addr}(d9:WB.Dd K "zigzag" (top 15) f9){f10:Addr}(d10:WB.Dd K "_law_cell_at" (top 17) f10){f11:Addr}(d11:WB.Dd K "_law_stir" (top 18) f11){f12:Addr}(d12:WB.Dd K "_law_whole" (top 19) f12){f13:Addr}(d13:WB.Dd K "_law_hood" (top 20) f13){f14:Addr}(d14:WB.Dd K "_law_right" (top 21) f14){f15:Addr}(d15:WB.Dd K "law" (top 22) f15)
include d0 d1 d2 d3 d4 d5 d6 d7 d8 d9 d10 d11 d12 d13 d14 d15
theorem uk:∀e∈tab,fR K G e:=by
 intro e he;simp only[tab,aJ,bD,or_false]at he;rcases he with rfl|rfl|rfl|rfl|rfl|rfl|rfl|rfl|rfl|rfl|rfl|rfl|rfl|rfl|rfl|rfl<;>refine⟨⟨_,by assumption⟩,λ_ _ _ _ _ _ us hl=>?_⟩<;>first|(obtain⟨_,rfl⟩:=WB.lR hl;rfl)|(obtain⟨_,_,rfl⟩:=WB.jV hl;rfl)|(obtain⟨_,_,_,rfl⟩:=WB.pk hl;rfl)
omit d0 d1 d2 d3 d4 d5 d6 d7 d8 d9 d10 d11 d12 d13 d14 d15
theorem iF{x:Str}{k:GK}(h:oth.lookup x=some k):∃y∈oth,x=y.1/\k=y.2:=by
 generalize oth=l at h ⊢
 induction l with
 |nil=>cases h
 |cons a r ih=>
  rw[bu]at h;split at h
  ·rename_i q;cases h;exact⟨a,aW,eq_of_beq q,rfl⟩
  ·obtain⟨y,h1,h2⟩:=ih h;exact⟨y,aS _ h1,h2⟩
theorem pO{K:aB}{C0:Addr}(k0:aI K aE "NoNumber" = some (some (.ref C0)))(x0:PySem.W.excIn K C0 gZ "ValueError.__new__" = true){tk0:Tok}(u0:aI K aE "LONGEST" = some (some (.int 300 tk0)))(z0:aI K aE "len" = some none)(z1:aI K aE "tuple" = some none)(z2:aI K aE "list" = some none)(z3:aI K aE "int" = some none)(z4:aI K aE "bool" = some none)(z5:aI K aE "set" = some none)(z6:aI K aE "sorted" = some none)(z7:aI K aE "all" = some none)(z8:aI K aE "max" = some none)(z9:aI K aE "range" = some none)(z10:aI K aE "isinstance" = some none):∀x k,oth.lookup x=some k->kJ K vals x k:=by
 intro x k h;obtain⟨y,h1,rfl,rfl⟩:=iF h;simp only[oth,aJ,bD,or_false]at h1;rcases h1 with rfl|rfl|rfl|rfl|rfl|rfl|rfl|rfl|rfl|rfl|rfl|rfl|rfl
 ·exact⟨_,k0,x0⟩
 ·exact⟨_,.int 300,.int 300,u0,⟨_,rfl⟩,rfl,λg H _=>.int _⟩
 ·exact⟨z0,rfl,_,rfl⟩
 ·exact⟨z1,by decide +kernel,by simp,by simp[b1N,b1V]⟩
 ·exact⟨z2,by decide +kernel,by simp,by simp[b1N,b1V]⟩
 ·exact⟨z3,by decide +kernel,by simp,by simp[b1N,b1V]⟩
 ·exact⟨z4,by decide +kernel,by simp,by simp[b1N,b1V]⟩
 ·exact⟨z5,by decide +kernel⟩
 ·exact⟨z6,rfl,_,rfl⟩
 ·exact⟨z7,rfl,_,rfl⟩
 ·exact⟨z8,rfl,_,rfl⟩
 ·exact⟨z9,rfl⟩
 ·exact⟨z10,rfl⟩
theorem pH:∀x fr,oth.lookup x≠some (.fn fr):=by
 intro x fr h;obtain⟨y,h1,rfl,h2⟩:=iF h;simp only[oth,aJ,bD,or_false]at h1;rcases h1 with rfl|rfl|rfl|rfl|rfl|rfl|rfl|rfl|rfl|rfl|rfl|rfl|rfl<;>cases h2
theorem oz:∀x,(oth.lookup x=some .exc\/oth.lookup x=some .exk)->([bt "NoNumber"]:List Str).contains x=true:=by
 intro x h;rcases h with h|h<;>obtain⟨y,h1,rfl,h2⟩:=iF h<;>simp only[oth,aJ,bD,or_false]at h1<;>rcases h1 with rfl|rfl|rfl|rfl|rfl|rfl|rfl|rfl|rfl|rfl|rfl|rfl|rfl<;>first|(cases h2;done)|decide +kernel
theorem tN{K:aB}{C0:Addr}(k0:aI K aE "NoNumber" = some (some (.ref C0)))  : ∀y∈cc,∃C D,aI K aE y.1=some (some (.ref C))/\aI K aE y.2=some (some (.ref D))/\PySem.W.exmOne K (.ref C) (.ref D)=some true:=by
 intro y h1;simp only[cc,aJ,bD,or_false]at h1
 skip
theorem oA{K:aB}{C0:Addr}(k0:aI K aE "NoNumber" = some (some (.ref C0)))  : ∀y∈subs,mG K [bt "NoNumber"] y:=by
 intro y h1;cases h1
include d0 d1 d2 d3 d4 d5 d6 d7 d8 d9 d10 d11 d12 d13 d14 d15
theorem all_mk(X:K.In h)(N:h.Ns aE mg){C0:Addr}(k0:aI K aE "NoNumber" = some (some (.ref C0)))(x0:PySem.W.excIn K C0 gZ "ValueError.__new__" = true){tk0:Tok}(u0:aI K aE "LONGEST" = some (some (.int 300 tk0)))(z0:aI K aE "len" = some none)(z1:aI K aE "tuple" = some none)(z2:aI K aE "list" = some none)(z3:aI K aE "int" = some none)(z4:aI K aE "bool" = some none)(z5:aI K aE "set" = some none)(z6:aI K aE "sorted" = some none)(z7:aI K aE "all" = some none)(z8:aI K aE "max" = some none)(z9:aI K aE "range" = some none)(z10:aI K aE "isinstance" = some none)   : Ground p (gOf K (tab.map (·.x)) [bt "NoNumber"]) G (ey us oth) (dJ oth) mg/\fR K G eR:=
 have A:=uk d0 d1 d2 d3 d4 d5 d6 d7 d8 d9 d10 d11 d12 d13 d14 d15
 ⟨sh X N rfl nd (pO k0 x0 u0 z0 z1 z2 z3 z4 z5 z6 z7 z8 z9 z10) pH vQ o8 jY A _ (tN k0) oz (oA k0 ),A eR (by simp[tab])⟩
end
theorem walk{l:PySem.W.OpenLaw}{q:aA}{loose:List Str}{XP:(Str->Option ae)->Heap->Prop}{YP:av->Heap->Prop}{d:DefRec}{K:Params->aB}(hn:l.most=some 63)(hdf:d.params.defaults=[])(hd:d.name = "law")(hY:∀(w:av) (h:Heap),YP w h->(K w.params).In h)
  (hG:∀(w:av) (mg:Str->Option ae) (h:Heap),(K w.params).In h->h.Ns aE mg->Ground p (gOf (K w.params) (tab.map (·.x)) [bt "NoNumber"]) G (ey us oth) (dJ oth) mg/\fR (K w.params) G eR):PySem.W.WalkO q loose XP YP l.row.toRowW d [] (λf vs=>PySem.call f vs):=
 pv (e:=eR) (k:=depth) hn hdf hd ⟨rfl,by decide,by decide⟩ hY (by simp[tab]) nd rfl rfl (by kernel_rfl) hG (jY eR (by simp[tab])) yb
end K51
end
open PySem PySem.W PyProof.Rows
namespace PySem.W.Fast
def tw10050554394565109472:Nat:=0
theorem te10050554394565109472:tw10050554394565109472=0:=rfl
def tw12325743765884896512:Nat:=0
theorem te12325743765884896512:tw12325743765884896512=0:=rfl
def tw1370888835785898314:Nat:=0
theorem te1370888835785898314:tw1370888835785898314=0:=rfl
def tw1833417690783432473:Nat:=0
theorem te1833417690783432473:tw1833417690783432473=0:=rfl
def tw12091988428993476240:Nat:=0
theorem te12091988428993476240:tw12091988428993476240=0:=rfl
def tw9636615088755081243:Nat:=0
theorem te9636615088755081243:tw9636615088755081243=0:=rfl
def tw17579152872360908302:Nat:=0
theorem te17579152872360908302:tw17579152872360908302=0:=rfl
def tw13368991908754181833:Nat:=0
theorem te13368991908754181833:tw13368991908754181833=0:=rfl
def tw8189256562541073100:Nat:=0
theorem te8189256562541073100:tw8189256562541073100=0:=rfl
def tw14212548610333219201:Nat:=0
theorem te14212548610333219201:tw14212548610333219201=0:=rfl
def tw5095470136034689372:Nat:=0
theorem te5095470136034689372:tw5095470136034689372=0:=rfl
def tw11905347647199993246:Nat:=0
theorem te11905347647199993246:tw11905347647199993246=0:=rfl
def tw18010064151400864549:Nat:=0
theorem te18010064151400864549:tw18010064151400864549=0:=rfl
def tw7700434849622367457:Nat:=0
theorem te7700434849622367457:tw7700434849622367457=0:=rfl
def tw12830001012163103886:Nat:=0
theorem te12830001012163103886:tw12830001012163103886=0:=rfl
def tw13342833101459468889:Nat:=0
theorem te13342833101459468889:tw13342833101459468889=0:=rfl
def tw15216343926311694330:Nat:=0
theorem te15216343926311694330:tw15216343926311694330=0:=rfl
def tw7262389154982289325:Nat:=0
theorem te7262389154982289325:tw7262389154982289325=0:=rfl
def tw15842536988171621186:Nat:=0
theorem te15842536988171621186:tw15842536988171621186=0:=rfl
def tw17407249945819650437:Nat:=0
theorem te17407249945819650437:tw17407249945819650437=0:=rfl
def tw18180142380959135906:Nat:=0
theorem te18180142380959135906:tw18180142380959135906=0:=rfl
def tw15938633818106551109:Nat:=0
theorem te15938633818106551109:tw15938633818106551109=0:=rfl
def tw6908611666896229042:Nat:=0
theorem te6908611666896229042:tw6908611666896229042=0:=rfl
def tw1896287679367673823:Nat:=0
theorem te1896287679367673823:tw1896287679367673823=0:=rfl
def tw4161773927503413164:Nat:=0
theorem te4161773927503413164:tw4161773927503413164=0:=rfl
def tw6908341947221325119:Nat:=0
theorem te6908341947221325119:tw6908341947221325119=0:=rfl
def tw14236486071273965793:Nat:=0
theorem te14236486071273965793:tw14236486071273965793=0:=rfl
def tw7176202776762941597:Nat:=0
theorem te7176202776762941597:tw7176202776762941597=0:=rfl
def tw166043003137176560:Nat:=0
theorem te166043003137176560:tw166043003137176560=0:=rfl
def tw9633834897094624347:Nat:=0
theorem te9633834897094624347:tw9633834897094624347=0:=rfl
def tw6276297209065867722:Nat:=0
theorem te6276297209065867722:tw6276297209065867722=0:=rfl
def tw17047611925502536603:Nat:=0
theorem te17047611925502536603:tw17047611925502536603=0:=rfl
def tw13134015266219372596:Nat:=0
theorem te13134015266219372596:tw13134015266219372596=0:=rfl
def tw12595674132223078531:Nat:=0
theorem te12595674132223078531:tw12595674132223078531=0:=rfl
def tw16853399307937760166:Nat:=0
theorem te16853399307937760166:tw16853399307937760166=0:=rfl
def tw7027185329349027846:Nat:=0
theorem te7027185329349027846:tw7027185329349027846=0:=rfl
def tw16562844568794366834:Nat:=0
theorem te16562844568794366834:tw16562844568794366834=0:=rfl
def tw8918635581259664502:Nat:=0
theorem te8918635581259664502:tw8918635581259664502=0:=rfl
def tw18117337922087266254:Nat:=0
theorem te18117337922087266254:tw18117337922087266254=0:=rfl
def tw17466310449192429350:Nat:=0
theorem te17466310449192429350:tw17466310449192429350=0:=rfl
def tw3902082351574904128:Nat:=0
theorem te3902082351574904128:tw3902082351574904128=0:=rfl
def tw8236897322841361586:Nat:=0
theorem te8236897322841361586:tw8236897322841361586=0:=rfl
def tw17349367316193760453:Nat:=0
theorem te17349367316193760453:tw17349367316193760453=0:=rfl
def tw7620623349120245582:Nat:=0
theorem te7620623349120245582:tw7620623349120245582=0:=rfl
def tw3852166113668742191:Nat:=0
theorem te3852166113668742191:tw3852166113668742191=0:=rfl
def tw7376672357126660835:Nat:=0
theorem te7376672357126660835:tw7376672357126660835=0:=rfl
def tw7796027455523504849:Nat:=0
theorem te7796027455523504849:tw7796027455523504849=0:=rfl
def tw16331055058637454053:Nat:=0
theorem te16331055058637454053:tw16331055058637454053=0:=rfl
def tw4604245306534891242:Nat:=0
theorem te4604245306534891242:tw4604245306534891242=0:=rfl
def tw11544791035638377849:Nat:=0
theorem te11544791035638377849:tw11544791035638377849=0:=rfl
def tw15911070115437389768:Nat:=0
theorem te15911070115437389768:tw15911070115437389768=0:=rfl
def tw12410872468242882136:Nat:=0
theorem te12410872468242882136:tw12410872468242882136=0:=rfl
def tw1805645168400264006:Nat:=0
theorem te1805645168400264006:tw1805645168400264006=0:=rfl
def tw17167132512629631164:Nat:=0
theorem te17167132512629631164:tw17167132512629631164=0:=rfl
def tw17210051194798564051:Nat:=0
theorem te17210051194798564051:tw17210051194798564051=0:=rfl
def tw15479811112263129195:Nat:=0
theorem te15479811112263129195:tw15479811112263129195=0:=rfl
def tw7664683421368126318:Nat:=0
theorem te7664683421368126318:tw7664683421368126318=0:=rfl
def tw2735896178417314451:Nat:=0
theorem te2735896178417314451:tw2735896178417314451=0:=rfl
def tw12744123881599079858:Nat:=0
theorem te12744123881599079858:tw12744123881599079858=0:=rfl
def tw4136855953169679177:Nat:=0
theorem te4136855953169679177:tw4136855953169679177=0:=rfl
def tw11537702905461622773:Nat:=0
theorem te11537702905461622773:tw11537702905461622773=0:=rfl
def tw17606252637353318541:Nat:=0
theorem te17606252637353318541:tw17606252637353318541=0:=rfl
def tw399541394280967709:Nat:=0
theorem te399541394280967709:tw399541394280967709=0:=rfl
def tw7529971653140485215:Nat:=0
theorem te7529971653140485215:tw7529971653140485215=0:=rfl
def tw1867952111581857813:Nat:=0
theorem te1867952111581857813:tw1867952111581857813=0:=rfl
def tw18434247897805140897:Nat:=0
theorem te18434247897805140897:tw18434247897805140897=0:=rfl
def tw16817533431283754355:Nat:=0
theorem te16817533431283754355:tw16817533431283754355=0:=rfl
def tw1809918508534144075:Nat:=0
theorem te1809918508534144075:tw1809918508534144075=0:=rfl
def tw13449288413907533615:Nat:=0
theorem te13449288413907533615:tw13449288413907533615=0:=rfl
def tw9345015156117064864:Nat:=0
theorem te9345015156117064864:tw9345015156117064864=0:=rfl
def tw4322029764098413850:Nat:=0
theorem te4322029764098413850:tw4322029764098413850=0:=rfl
def tw11351272199169424283:Nat:=0
theorem te11351272199169424283:tw11351272199169424283=0:=rfl
def tw9453819712845963991:Nat:=0
theorem te9453819712845963991:tw9453819712845963991=0:=rfl
def tw9483507398805625783:Nat:=0
theorem te9483507398805625783:tw9483507398805625783=0:=rfl
def tw9564343034296000358:Nat:=0
theorem te9564343034296000358:tw9564343034296000358=0:=rfl
end PySem.W.Fast
set_option maxRecDepth 100000 in
set_option maxHeartbeats 0 in
theorem PySem.Challenge.cw_holdplaces_k51_papers_of_rows_rings_and_holds : PySem.Challenge.rw_holdplaces_k51_papers_of_rows_rings_and.Holds := by
 w_on;o_law;k_head;(case hw=>w_witness2)
 k_fill
 refine K51.walk (l:=PySem.Challenge.rw_holdplaces_k51_papers_of_rows_rings_and) rfl rfl rfl (λw h Y=>PySem.W.kIn_of Y) ?F
 case F=>
  intro w mg h KX N
  refine' K51.all_mk (WB.zL ?_ ?_ ?_ ?_) (WB.zL ?_ ?_ ?_ ?_) (WB.zL ?_ ?_ ?_ ?_) (WB.zL ?_ ?_ ?_ ?_) (WB.zL ?_ ?_ ?_ ?_) (WB.zL ?_ ?_ ?_ ?_) (WB.zL ?_ ?_ ?_ ?_) (WB.zL ?_ ?_ ?_ ?_) (WB.zL ?_ ?_ ?_ ?_) (WB.zL ?_ ?_ ?_ ?_) (WB.zL ?_ ?_ ?_ ?_) (WB.zL ?_ ?_ ?_ ?_) (WB.zL ?_ ?_ ?_ ?_) (WB.zL ?_ ?_ ?_ ?_) (WB.zL ?_ ?_ ?_ ?_) (WB.zL ?_ ?_ ?_ ?_) KX N ?_ ?_ ?_ ?_ ?_ ?_ ?_ ?_ ?_ ?_ ?_ ?_ ?_ ?_
  any_goals k_is
  any_goals k_exc
#print axioms PySem.Challenge.cw_holdplaces_k51_papers_of_rows_rings_and_holds
