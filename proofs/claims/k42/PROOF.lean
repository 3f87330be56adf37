import PyProof.Rows.All
import Wide.All
import OpenK.AllK
import Wide.FinOn
import Lean
import PyProof.EqAt
import PyProof.EqKinds
import PyProof.TupleCall
import PyProof.Rows.Range3
import PyProof.Rows.FStr
import KE.KDictSum
import PyProof.DictUpdate
import PyProof.Rows.ListMulArg
import KE.KSortTup
import KE.LcSums
import PyProof.SeqI3
import KE.KMinBuiltin
import PyProof.Draws
import KE.KRevIter
import PyProof.ListRange
import PyProof.TupleOfSeq
import PySem.Challenge.RW_holdplaces_k42_whole_trees_hold_as_many
set_option Elab.async false
set_option bootstrap.genMatcherCode false
set_option maxHeartbeats 8000000
set_option maxRecDepth 100000
set_option linter.all false
noncomputable section
open PyProof.Rows renaming callWith_type1→fT,pendingOf→a9,wpS_bind→ar,wpS_pure→av,IntsAre→ba,SortSt→aN,seqObj→aU,mirror→aZ,arrOf→ag,Keyed→ak
open PySem.Builtin.SmallTypes renaming nextOf→dF
open Classical renaming byContradiction→eI
open List renaming drop_eq_getElem_cons→fU,take_append_drop→bL,mem_append_right→b8,mem_cons_of_mem→aO,filter_sublist→eJ,mem_cons_self→aK,length_append→bH,size_toArray→aV,append_assoc→bA,flatMap_cons→cw,length_cons→bg,lookup_cons→bJ,any_eq_true→bS,all_eq_true→b_,not_mem_nil→cy,getElem_mem→cz,length_take→cP,length_map→aJ,mem_filter→aX,append_nil→cQ,replicate→cb,mem_cons→aF,map_cons→aR,mem_map→aI,map_map→cg,range→bE
open Option renaming bind_eq_some_iff→aQ,map_eq_some_iff→bF,bind_eq_bind→aS
open Array renaming length_toList→a8,toList_append→bp
open PySem renaming mem_of_lookup→cM,wpAny_truthy_bool→bR,wpAny_call_entry→dG,codeAny_builtin→dH,wpAny_holding→cc,Comprehension→cU,bootBuiltins→bU,codeAny_mono→cW,mainGlobals→aD,sizeLine_eq→bu,wpAny_field→bZ,wpAny_bind→ah,wpAny_pure→aE,wpAny_mono→b5,compareOp→bh,cellsFrom→bz,sizeLine→aP,starEach→aY,NameKind→a7,SetTable→br,Program→aA,Shared→af,Around→aB,Value→ae,model→ao,wpAny→aq,World→au,Scope→bf
open Bool renaming false_eq_true→bD,false_ne_true→b9,not_eq_true'→bN,and_eq_true→aW,or_eq_true→bW
open Nat renaming lt_of_lt_of_le→bG,lt_succ_of_lt→cx,lt_irrefl→bQ,ne_of_lt→a_,le_trans→bB,le_refl→aG,zero_le→bx
open PySem.W renaming mg_none_of→dU,kia_one→bY,kitOne→cR,keepIn→dI,Frag→aC,nsIn→aH,fnOf→cV
open Option.some renaming injEq→cN,inj→bT
open ForInStep renaming yield→dW
open PySem.Heap renaming size_push→bK,lt_size→aM
open PySem.NameKind renaming free→cf
open PySem.Str renaming ofString→aL
open PySem.Obj renaming mapSeq→bt
open False renaming elim→bC
open PySem.Value renaming type→bV,none→ck,ref→bq
open And renaming intro→aw
set_option Elab.async false
namespace L2
open PySem PySem.Spec PyProof.Rows
abbrev Key:=Sum Int Str
noncomputable def ig:Key->ae->Bool
 | .inl k,v=>ae.isInt k v
 | .inr x,v=>ae.isStrOf x v
noncomputable def yS(w:au):Key->Int
 | .inl k=>hashInt k
 | .inr x=>hashStr w x
theorem fJ:∀{k:Key}{v:ae},ig k v=true->(∃i t,k=Sum.inl i/\v=ae.int i t)\/(∃x t,k=Sum.inr x/\v=ae.str x t)
 | .inl i,v,h=>by
  obtain⟨t,e⟩:=ae.isInt_shape (k:=i) (v:=v) h;exact .inl ⟨i,t,rfl,e⟩
 | .inr x,v,h=>by
  obtain⟨t,e⟩:=ae.isStrOf_shape (x:=x) (v:=v) h;exact .inr ⟨x,t,rfl,e⟩
theorem Gb(i:Int)(t:Tok):ig (.inl i) (.int i t)=true:=by simp[ig,ae.isInt]
theorem G4(x:Str)(t:Tok):ig (.inr x) (.str x t)=true:=by simp[ig,ae.isStrOf]
theorem BP(a b:Int):decide ((Sum.inl a:Key)=Sum.inl b)=(a==b):=by
 by_cases e:a=b
 ·subst e;simp
 ·have h:¬ (Sum.inl a:Key)=Sum.inl b:=λq=>e (Sum.inl.inj q)
  rw[decide_eq_false h];exact(beq_eq_false_iff_ne.mpr e).symm
theorem vG(a b:Str):decide ((Sum.inr a:Key)=Sum.inr b)=decide (a=b):=by
 by_cases e:a=b
 ·subst e;simp
 ·have h:¬ (Sum.inr a:Key)=Sum.inr b:=λq=>e (Sum.inr.inj q)
  rw[decide_eq_false h,decide_eq_false e]
theorem wY(a:Int)(b:Str):decide ((Sum.inl a:Key)=Sum.inr b)=false:=decide_eq_false (λq=>nomatch q)
theorem Ay(a:Str)(b:Int):decide ((Sum.inr a:Key)=Sum.inl b)=false:=decide_eq_false (λq=>nomatch q)
noncomputable def zK(prog:aA)(w:au):PySem.KeyKind prog w Key where
 is:=ig
 hash:=yS w
 inj:=λv a b ha hb=>by
  rcases fJ ha with ⟨i,t,rfl,rfl⟩|⟨x,t,rfl,rfl⟩
  ·rcases fJ hb with ⟨j,u,rfl,e⟩|⟨y,u,rfl,e⟩
   ·injection e with e1 _;rw[e1]
   ·exact nomatch e
  ·rcases fJ hb with ⟨j,u,rfl,e⟩|⟨y,u,rfl,e⟩
   ·exact nomatch e
   ·injection e with e1 _;rw[e1]
 byValue:=λk v h=>by
  rcases fJ h with ⟨i,t,rfl,rfl⟩|⟨x,t,rfl,rfl⟩<;>rfl
 pyHash:=λhv h=>by
  rcases fJ hv with ⟨i,t,rfl,rfl⟩|⟨x,t,rfl,rfl⟩
  ·exact wpAny_pyHash_int h
  ·exact wpAny_pyHash_str h
 eqBool:=λhu hv h=>by
  rcases fJ hu with ⟨i,t,rfl,rfl⟩|⟨x,t,rfl,rfl⟩
  ·rcases fJ hv with ⟨j,u,rfl,rfl⟩|⟨y,u,rfl,rfl⟩
   ·rw[BP]at h;exact wpAny_eqBool_int h
   ·rw[wY]at h;exact SeqAt.EqAt.int_str i t y u _ _ _ _ h
  ·rcases fJ hv with ⟨j,u,rfl,rfl⟩|⟨y,u,rfl,rfl⟩
   ·rw[Ay]at h;exact SeqAt.EqAt.str_int x t j u _ _ _ _ h
   ·rw[vG]at h;exact wpAny_eqBool_str h
 «strs»:=λk x t v h=>by
  rcases fJ h with ⟨i,u,rfl,e⟩|⟨y,u,rfl,e⟩
  ·exact nomatch e
  ·injection e with e1 _
   subst e1;cases v<;>rfl
theorem Bx(prog:aA)(w:au)(i:Int)(t:Tok):(zK prog w).is (.inl i) (.int i t)=true:=Gb i t
theorem CK(prog:aA)(w:au)(x:Str)(t:Tok):(zK prog w).is (.inr x) (.str x t)=true:=G4 x t
inductive V where
 |non|bl (b:Bool)|int (i:Int)|str (x:Str)|byt (b:Array UInt8)|flt (b:UInt64)|ref (a:Addr)|ty (n:String)
 deriving DecidableEq
noncomputable def RelV:V->ae->Prop
 | .non,u=>u=ck
 | .bl b,u=>u=ae.bool b
 | .int i,u=>∃t,u=ae.int i t
 | .str x,u=>∃t,u=ae.str x t
 | .byt b,u=>∃t,u=ae.bytes b t
 | .flt b,u=>∃t,u=ae.float b t
 | .ref a,u=>u=bq a
 | .ty n,u=>u=bV n
abbrev Vals:List V->List ae->Prop:=Paired RelV
theorem Vals.length{xs:List V}{us:List ae}(r:Vals xs us):xs.length=us.length:=Paired.length r
theorem Vals.get:∀{xs:List V}{us:List ae}{i:Nat}{x:V},Vals xs us->xs[i]? = some x->∃u,us[i]? = some u/\RelV x u
 |_,_,_,_,.nil,e=>by simp at e
 |_,_,0,_,.cons r _,e=>by simp at e;subst e;exact⟨_,rfl,r⟩
 |_,_,i+1,x,.cons _ t,e=>by
  obtain⟨u,h1,h2⟩:=Vals.get (i:=i) (x:=x) t (by simpa using e);exact⟨u,by simpa using h1,h2⟩
theorem Vals.set{x:V}{u:ae}(r:RelV x u):∀{xs:List V}{us:List ae} (i:Nat),Vals xs us->Vals (xs.set i x) (us.set i u)
 |_,_,_,.nil=>.nil
 |_,_,0,.cons _ t=>.cons r t
 |_,_,i+1,.cons q t=>.cons q (Vals.set r i t)
theorem Vals.append:∀{xs ys:List V}{us ws:List ae},Vals xs us->Vals ys ws->Vals (xs++ys) (us++ws)
 |_,_,_,_,.nil,s=>s
 |_,_,_,_,.cons r t,s=>.cons r (Vals.append t s)
theorem Vals.take:∀{xs:List V}{us:List ae} (n:Nat),Vals xs us->Vals (xs.take n) (us.take n)
 |_,_,0,_=>.nil
 |_,_,_+1,.nil=>.nil
 |_,_,n+1,.cons r t=>.cons r (Vals.take n t)
theorem Vals.drop:∀{xs:List V}{us:List ae} (n:Nat),Vals xs us->Vals (xs.drop n) (us.drop n)
 |_,_,0,r=>r
 |_,_,_+1,.nil=>.nil
 |_,_,n+1,.cons _ t=>Vals.drop n t
noncomputable def eX:Option V->Option ae->Prop
 |some v,some u=>RelV v u
 |none,none=>True
 |_,_=>False
noncomputable def KV{κ:Type}:List (κ×V)->List (κ×ae)->Prop:=Paired λ(p:κ×V) (q:κ×ae)=>p.1=q.1/\RelV p.2 q.2
noncomputable def kV:Key->V
 | .inl i=>.int i
 | .inr x=>.str x
inductive HO where
 |lst (xs:List V)
 |tup (xs:List V)
 |dK (kvs:List (Key×V))|dT (kvs:List (List Key×V))
 |set (S:Int->Bool) (n:Nat)
 |ins (C dx:Addr) (fs:List (Str×V))
 |own (x:Addr)
 |xd (fs:List (Str×V))
 |met (f x:Addr)
 |rng (lo hi:Int)
 |frz (o:Obj) (u:HO)
 |tbl (ps:Array ae)
 |ext (φ:Heap->Prop)
abbrev Hp:=Addr->Option HO
noncomputable def upd(H:Hp)(a:Addr)(o:HO):Hp:=λb=>if b=a then some o else H b
theorem zF{H:Hp}{a:Addr}{o:HO}:upd H a o a=some o:=by unfold upd;rw[if_pos rfl]
theorem qi{H:Hp}{a b:Addr}{o:HO}(h:b≠a):upd H a o b=H b:=by unfold upd;rw[if_neg h]
theorem DO{H:Hp}{a b:Addr}{o u:HO}(h:H a=some o)(h':H b=some u)(d:o≠u):a≠b:=by
 intro e;subst e;rw[h]at h';exact d (bT h')
theorem iJ{H:Hp}{a b:Addr}{o:HO}(h:H a=some o)(h':H b=none):a≠b:=by
 intro e;subst e;rw[h]at h';cases h'
section
variable(P:aA)(w:au)
noncomputable def zO(H:Hp)(h:Heap)(a:Addr):HO->Prop
 | .lst xs=>xs.length<=aP/\∃(its:List ae) (n:Nat),Vals xs its/\h.get? a=some {cls:=.type "list",data:=.seq its.toArray n}
 | .tup xs=>xs.length<=aP/\∃its:List ae,Vals xs its/\IsTup h a its.toArray
 | .dK kvs=>kvs.length<=aP/\(a==sysModules)=false/\∃vs,KV kvs vs/\h.DictOf (zK P w) a vs
 | .dT kvs=>kvs.length<=aP/\(a==sysModules)=false/\∃xs:List (List Key×Addr×ae),
   Paired (λ(p:List Key×V) (q:List Key×Addr×ae)=>p.1=q.1/\H q.2.1=some (.tup (p.1.map kV))/\RelV p.2 q.2.2) kvs xs /\
   ∃o es ep,h.get? a=some o/\o.ExactDict/\o.data=.dict es ep/\es.toList=xs.map (entryOfKey (tupleKind (zK P w)))/\(xs.map (·.1)).Nodup
 | .set S n=>h.SetOf (intKind P w) a S n
 | .ins C dx fs=>H dx=some (.own a)/\fs.length<=1000/\dx≠a/\h.get? a=some (PySem.W.instObj C dx) /\
   ∃mA,h.Ns1 dx mA/\(∀f,eX (fs.lookup f) (mA f))/\PySem.Within mA (fs.map (·.1))
 | .own _=>∃o,h.get? a=some o
 | .xd fs=>∃mA,h.Ns1 a mA/\∀f,eX (fs.lookup f) (mA f)
 | .rng lo hi=>∃t u v,h.get? a=some {cls:=.type "range",data:=.fields #[.int lo t,.int hi u,.int 1 v]}
 | .frz o u=>h.get? a=some o/\zO H h a u
 | .tbl ps=>h.get? a=some {cls:=.none,data:=.fields ps}
 | .met f x=>h.get? a=some (PySem.W.methodObj (.ref f) (.ref x))
 | .ext φ=>φ h/\(∃o,h.get? a=some o)/\∀h1 h2:Heap,φ h1->(∀o,h1.get? a=some o->h2.get? a=some o)->φ h2
noncomputable def HOk(H:Hp)(h:Heap):Prop:=∀a o,H a=some o->zO P w H h a o
end
section
variable{P:aA}{w:au}{H H':Hp}{h h':Heap}{a:Addr}{o:HO}
theorem zO.lt(x:zO P w H h a o):a<h.objs.size:=by
 cases o with
 |lst xs=>obtain⟨_,_,_,_,e⟩:=x;exact aM e
 |tup xs=>obtain⟨_,_,_,p⟩:=x;exact p.lt
 |dK kvs=>obtain⟨_,_,_,_,o,_,_,e,_⟩:=x;exact aM e
 |dT kvs=>obtain⟨_,_,_,_,o,_,_,e,_⟩:=x;exact aM e
 |set S n=>obtain⟨o,_,_,_,e,_⟩:=x;exact aM e
 |ins C dx fs=>obtain⟨_,_,_,e,_⟩:=x;exact aM e
 |own y=>obtain⟨_,e⟩:=x;exact aM e
 |xd fs=>obtain⟨_,⟨_,_,_,e,_⟩,_⟩:=x;exact aM e
 |rng lo hi=>obtain⟨_,_,_,e⟩:=x;exact aM e
 |frz ob u=>obtain⟨e,_⟩:=x;exact aM e
 |tbl ps=>exact aM (show h.get? a=some _ from x)
 |met f y=>exact aM (show h.get? a=some _ from x)
 |ext φ=>obtain⟨_,⟨_,e⟩,_⟩:=x;exact aM e
theorem Paired.mapP{α β:Type}{F G:α->β->Prop}:∀{l₁:List α}{l₂:List β},Paired F l₁ l₂->(∀a b,F a b->G a b)->Paired G l₁ l₂
 |_,_,.nil,_=>.nil
 |_,_,.cons r t,f=>.cons (f _ _ r) (Paired.mapP t f)
theorem zO.stay(x:zO P w H h a o)(k:∀b u,(b=a\/H b=some (.own a))->h.get? b=some u->h'.get? b=some u)
  (ho:∀b,H b=some (.own a)->H' b=some (.own a)) (ht:∀b xs,H b=some (.tup xs)->H' b=some (.tup xs)):zO P w H' h' a o:=by
 induction o with
 |lst xs=>obtain⟨z,its,n,r,e⟩:=x;exact⟨z,its,n,r,k _ _ (.inl rfl) e⟩
 |tup xs=>obtain⟨z,its,r,ob,e,c⟩:=x;exact⟨z,its,r,ob,k _ _ (.inl rfl) e,c⟩
 |dK kvs=>obtain⟨z,y,vs,r,ob,es,ep,e,c⟩:=x;exact⟨z,y,vs,r,ob,es,ep,k _ _ (.inl rfl) e,c⟩
 |dT kvs=>
  obtain⟨z,y,xs,r,ob,es,ep,e,c⟩:=x;exact⟨z,y,xs,Paired.mapP r λp q z=>⟨z.1,ht _ _ z.2.1,z.2.2⟩,ob,es,ep,k _ _ (.inl rfl) e,c⟩
 |set S n=>obtain⟨ob,es,ep,t,e,c⟩:=x;exact⟨ob,es,ep,t,k _ _ (.inl rfl) e,c⟩
 |ins C dx fs=>
  obtain⟨d,z,ne,e,mA,⟨od,es,ep,e2,c⟩,r⟩:=x;exact⟨ho _ d,z,ne,k _ _ (.inl rfl) e,mA,⟨od,es,ep,k _ _ (.inr d) e2,c⟩,r⟩
 |own y=>obtain⟨ob,e⟩:=x;exact⟨ob,k _ _ (.inl rfl) e⟩
 |xd fs=>obtain⟨mA,⟨od,es,ep,e,c⟩,r⟩:=x;exact⟨mA,⟨od,es,ep,k _ _ (.inl rfl) e,c⟩,r⟩
 |rng lo hi=>obtain⟨t,u,v,e⟩:=x;exact⟨t,u,v,k _ _ (.inl rfl) e⟩
 |frz ob u ih=>obtain⟨e,q⟩:=x;exact⟨k _ _ (.inl rfl) e,ih q⟩
 |tbl ps=>
  have e:h.get? a=some {cls:=.none,data:=.fields ps}:=x;show h'.get? a=some {cls:=.none,data:=.fields ps};exact k a _ (.inl rfl) e
 |met f y=>
  have e:h.get? a=some (PySem.W.methodObj (.ref f) (.ref y)):=x;show h'.get? a=some (PySem.W.methodObj (.ref f) (.ref y));exact k a _ (.inl rfl) e
 |ext φ=>obtain⟨p,⟨o,e⟩,st⟩:=x;exact⟨st _ _ p λo q=>k _ _ (.inl rfl) q,⟨o,k _ _ (.inl rfl) e⟩,st⟩
theorem HOk.lt(x:HOk P w H h)(e:H a=some o):a<h.objs.size:=(x a o e).lt
theorem HOk.fresh(x:HOk P w H h)(e:h.objs.size<=a):H a=none:=by
 cases q:H a with
 |none=>rfl
 |some u=>exact absurd (bG (x.lt q) e) (bQ _)
theorem HOk.kept(x:HOk P w H h)(k:∀b u,h.get? b=some u->h'.get? b=some u):HOk P w H h':=λa o e=>
 (x a o e).stay (λb u _ q=>k b u q) (λ_ q=>q) λ_ _ q=>q
theorem HOk.laid(x:HOk P w H h)(k:∀b u,h.get? b=some u->h'.get? b=some u)(hp:h.objs.size<=a)(new:zO P w (upd H a o) h' a o):HOk P w (upd H a o) h':=λb u e=>by
 have hn:=x.fresh hp;by_cases hb:b=a
 ·subst hb;rw[zF]at e;cases e;exact new
 ·rw[qi hb]at e;exact(x b u e).stay (λc v _ q=>k c v q) (λc q=>by rw[qi (iJ q hn)];exact q) λc xs q=>by rw[qi (iJ q hn)];exact q
end
noncomputable def Rd(H:Hp)(a:Addr)(u:HO):Prop:=H a=some u\/∃o,H a=some (.frz o u)
theorem Rd.of{H:Hp}{a:Addr}{u:HO}(h:H a=some u):Rd H a u:=.inl h
theorem Rd.ok{P:aA}{w:au}{H:Hp}{h:Heap}{a:Addr}{u:HO}(r:Rd H a u)(x:HOk P w H h):zO P w H h a u:=by
 rcases r with r|⟨o,r⟩
 ·exact x a u r
 ·obtain⟨_,q⟩:=x a _ r;exact q
noncomputable def Mut:Option HO->Prop
 |some (.lst _)=>True
 |some (.dK _)=>True
 |some (.dT _)=>True
 |some (.set _ _)=>True
 |some (.ins _ _ _)=>True
 |some (.ext _)=>True
 |_=>False
section
variable{P:aA}{w:au}{H:Hp}{h h':Heap}{x e:Addr}{o':HO}
theorem HOk.write(ok:HOk P w H h)(mu:Mut (H x))(he:e=x\/H e=some (.own x))(k:∀b u,b≠e->h.get? b=some u->h'.get? b=some u)(heo:∃u,h'.get? e=some u)
  (new:zO P w (upd H x o') h' x o'):HOk P w (upd H x o') h':=λb u q=>by
 have nown:∀c y,H c=some (.own y)->c≠x:=λc y r z=>by subst z;rw[r]at mu;exact mu
 have ntup:∀c xs,H c=some (.tup xs)->c≠x:=λc xs r z=>by subst z;rw[r]at mu;exact mu
 by_cases hb:b=x
 ·subst hb;rw[zF]at q;cases q;exact new
 ·rw[qi hb]at q;by_cases hbe:b=e
  ·have q':H b=some (.own x):=by
    rcases he with z|z
    ·exact absurd (hbe.trans z) hb
    ·rw[hbe];exact z
   rw[q]at q';cases q';obtain⟨v,hv⟩:=heo;exact⟨v,by rw[hbe];exact hv⟩
  ·refine(ok b u q).stay (λc v hc r=>k c v ?_ r) (λc r=>by rw[qi (nown c b r)];exact r) λc xs r=>by rw[qi (ntup c xs r)];exact r
   rcases hc with rfl|hc
   ·exact hbe
   ·rintro rfl;rcases he with z|z
    ·exact nown c b hc z
    ·rw[hc]at z;cases z;exact hb rfl
end
structure Un(fs ex:List Addr)(H H':Hp)(h h':Heap):Prop where
 keep:∀b o,h.get? b=some o->H b=none->b∉fs->b∉ex->h'.get? b=some o
 slot:∀b o,h.get? b=some o->H b=none->b∈fs->b∉ex->∃sl,h'.get? b=some {o with slots:=sl}
 free:∀b o,h.get? b=some o->H b=none->b∉ex->H' b=none
 there:∀b o,h.get? b=some o->b∉ex->∃o',h'.get? b=some o'
 tups:∀b xs,H b=some (.tup xs)->H' b=some (.tup xs)
 frzs:∀b o u,H b=some (.frz o u)->H' b=some (.frz o u)
 tbls:∀b ps,H b=some (.tbl ps)->∃more,H' b=some (.tbl (ps++more))
section
variable{fs fs' ex ex':List Addr}{H H1 H2:Hp}{h h1 h2 h':Heap}{a x e:Addr}{o:HO}
theorem Un.any(u:Un fs ex H H1 h h1){b:Addr}{ob:Obj}(q:h.get? b=some ob)(n:H b=none)(hx:b∉ex):∃sl,h1.get? b=some {ob with slots:=sl}:=by
 by_cases hb:b∈fs
 ·exact u.slot b ob q n hb hx
 ·exact⟨ob.slots,u.keep b ob q n hb hx⟩
theorem Un.kept(k:∀b u,h.get? b=some u->h'.get? b=some u):Un fs ex H H h h':=
 ⟨λb ob q _ _ _=>k b ob q,λb ob q _ _ _=>⟨ob.slots,k b ob q⟩,λ_ _ _ n _=>n,λb ob q _=>⟨ob,k b ob q⟩,λ_ _ q=>q,λ_ _ _ q=>q,λ_ ps q=>⟨#[],by rw[q];simp⟩⟩
theorem Un.refl:Un fs ex H H h h:=Un.kept λ_ _ q=>q
theorem Un.laid(k:∀b u,h.get? b=some u->h'.get? b=some u)(hp:h.objs.size<=a)(hn:H a=none):Un fs ex H (upd H a o) h h' where
 keep:=λb u q _ _ _=>k b u q
 slot:=λb u q _ _ _=>⟨u.slots,k b u q⟩
 free:=λb u q n _=>by rw[qi (a_ (bG (aM q) hp))];exact n
 there:=λb u q _=>⟨u,k b u q⟩
 tups:=λb xs q=>by rw[qi (iJ q hn)];exact q
 frzs:=λb u xs q=>by rw[qi (iJ q hn)];exact q
 tbls:=λb ps q=>⟨#[],by rw[qi (iJ q hn),q];simp⟩
theorem Un.write(mu:Mut (H x))(he:e=x\/H e=some (.own x))(k:∀b u,b≠e->h.get? b=some u->h'.get? b=some u)(heo:∃u,h'.get? e=some u):Un fs ex H (upd H x o) h h':=by
 have hx:∀b,H b=none->b≠x:=λb n z=>by subst z;rw[n]at mu;exact mu
 have hb:∀b,H b=none->b≠e:=λb n z=>by
  subst z;rcases he with r|r
  ·exact hx b n r
  ·rw[n]at r;cases r
 have hm:∀b u,H b=some u->¬ Mut (some u)->b≠x:=λb u q nm z=>by subst z;rw[q]at mu;exact nm mu
 refine⟨λb u q n _ _=>k b u (hb b n) q,λb u q n _ _=>⟨u.slots,k b u (hb b n) q⟩,λb u q n _=>by rw[qi (hx b n)];exact n,λb u q _=>?_,
  λb xs q=>by rw[qi (hm b _ q λz=>z)];exact q,λb u xs q=>by rw[qi (hm b _ q λz=>z)];exact q,λb ps q=>⟨#[],by rw[qi (hm b _ q λz=>z),q];simp⟩⟩
 by_cases hbe:b=e
 ·subst hbe;exact heo
 ·exact⟨u,k b u hbe q⟩
end
noncomputable def trk(h:Heap)(H:Hp):List Addr:=(bE h.objs.size).filter λa=>(H a).isSome
noncomputable def fG(h:Heap)(H:Hp):Heap:=PySem.W.hideAll h (trk h H)
theorem wu(h:Heap)(H:Hp):(fG h H).objs.size=h.objs.size:=PySem.W.hideAll_size _ _
theorem GC{h:Heap}{H:Hp}{b:Addr}{o:Obj}(e:h.get? b=some o)(n:H b=none):(fG h H).get? b=some o:=
 PySem.W.hideAll_get _ e λhm=>by
  have q:(H b).isSome=true:=(aX.mp hm).2;rw[n]at q;simp at q
theorem AE{h:Heap}{H:Hp}{b:Addr}{o:Obj}(e:(fG h H).get? b=some o):h.get? b=some o/\H b=none:=by
 have e':h.get? b=some o:=PySem.W.of_hideAll (trk h H) e;refine⟨e',?_⟩;cases q:H b with
 |none=>rfl
 |some x=>
  have hm:b∈trk h H:=aX.mpr ⟨List.mem_range.mpr (aM e'),by simp[q]⟩;have z:(fG h H).get? b=none:=PySem.W.hideAll_none (trk h H) hm;rw[z]at e;cases e
noncomputable def eY(g h:Heap)(L:Addr):List (Addr×Obj):=(bE h.objs.size).filterMap λa=>if a=L\/(g.get? a).isSome=true then none else (h.get? a).map λo=>(a,o)
theorem lK{g h:Heap}{L a:Addr}{o:Obj}(h1:a≠L)(h2:g.get? a=none)(h3:h.get? a=some o):(a,o)∈eY g h L:=
 List.mem_filterMap.mpr ⟨a,List.mem_range.mpr (aM h3),by simp[h1,h2,h3]⟩
theorem CW{g h:Heap}{L:Addr}{p:Addr×Obj}(hp:p∈eY g h L):p.1≠L/\g.get? p.1=none/\h.get? p.1=some p.2:=by
 obtain⟨b,_,e⟩:=List.mem_filterMap.mp hp;split at e
 ·cases e
 ·rename_i hn
  cases q:h.get? b with
  |none=>rw[q]at e;simp at e
  |some u=>
   rw[q]at e;simp only[Option.map_some,cN]at e;subst e;refine⟨λz=>hn (.inl z),?_,q⟩;show g.get? b=none;cases r:g.get? b with
   |none=>rfl
   |some v=>exact(hn (.inr (by simp[r]))).elim
noncomputable def rest(g h:Heap)(L d:Addr):List (Addr×Obj):=(eY g h L).filter λp=>decide (p.1≠d)
theorem uF{g h:Heap}{L:Addr}:News g L h (eY g h L):=λp hp=>let ⟨a,b,c⟩:=CW hp;⟨c,a,b⟩
structure Mod(K:aC)(mg:Str->Option ae)(base:Heap):Prop where
 kin:K.In base
 glob:base.Ns aD mg
 blt:∃mb,base.Ns builtinsNs mb/\∀x:Str,x≠"__name__"->mb x=bU x
 nolimit:base.NoLimit
structure Cx where
 prog:aA
 w:au
 K:aC
 mg:Str->Option ae
 base:Heap
 A:aB
 N:List Str
 s₀:af
 H₀:Hp
 env:Env
 outer:List Env
 stack:List Env
 ex:List Addr
 fn:Str->Bool
 calm:Bool
 pn:List (Addr×Obj)
 xe:ae->af->Prop
noncomputable def frs(l:List Env):List Addr:=l.filterMap (·.frame)
abbrev Cx.fs(X:Cx):List Addr:=frs X.outer
noncomputable def fk(sc:bf)(x:Str):Prop:=sc.names.lookup x=some .local\/sc.names.lookup x=some .cell\/sc.names.lookup x=some .free
noncomputable def Loc(sc:bf)(x:Str):Prop:=sc.names.lookup x=some .local\/sc.names.lookup x=some .cell
noncomputable def Look(env:Env)(h:Heap)(m:Str->Option ae)(x:Str)(u:ae):Prop:=
 (env.kindOf x=some .local/\m x=some u)\/((env.kindOf x=some .cell\/env.kindOf x=some .free)/\∃c,env.cells.lookup x=some c/\h.IsCell c (some u))
structure Cx.Ok(X:Cx):Prop where
 mod:Mod X.K X.mg X.base
 kind:X.env.scope.kind=.function
 glob:X.env.globals=aD
 blt:X.env.builtins=builtinsNs
 above:X.s₀.heap.objs.size<=X.env.locals
 inj:∀x y c,X.env.cells.lookup x=some c->X.env.cells.lookup y=some c->x=y
 has:∀x,(X.env.kindOf x=some .cell\/X.env.kindOf x=some .free)->∃c,X.env.cells.lookup x=some c
 cab:∀x c,X.fn x=true->X.env.cells.lookup x=some c->X.s₀.heap.objs.size<=c
 hd:X.calm=true->X.A.handled=none
 frames:X.A.frames=some X.stack
 stk:X.stack=X.outer\/(X.stack=X.env::X.outer/\X.env.frame=some X.env.locals)
 exf:∀b∈X.ex,b≠X.env.locals/\∀x c,X.env.cells.lookup x=some c->c≠b
 bs:∀b o,X.base.get? b=some o->X.s₀.heap.get? b=some o/\X.H₀ b=none
 bsz:X.base.objs.size<=X.s₀.heap.objs.size
 noex:∀b o,X.base.get? b=some o->b∉X.ex
 exfs:∀b∈X.ex,b∉X.fs
 funs:X.s₀.heap.FunFrames X.base X.outer
 frf:∀b∈X.fs,X.H₀ b=none
structure Inv(X:Cx)(pins:List (Addr×Obj))(σ:List (Option V))(H:Hp)(s:af):Prop where
 ok:X.Ok
 os:s.os=X.s₀.os
 bare:AllBare s.gens
 base:Un X.fs X.ex X.H₀ H X.s₀.heap s.heap
 loc:∃m,s.heap.Ns X.env.locals m/\∀(i:Nat) (x:Str) (v:V),X.N[i]? = some x->σ[i]? = some (some v)->fk X.env.scope x->∃u,RelV v u/\Look X.env s.heap m x u
 cell:∀x c,X.env.cells.lookup x=some c->∃v,s.heap.IsCell c v
 free:H X.env.locals=none
 freeC:∀x c,X.env.cells.lookup x=some c->H c=none
 pin:∀p∈X.pn++pins,s.heap.get? p.1=some p.2/\H p.1=none/\p.1≠X.env.locals/\p.1∉X.fs/\∀v,p.2.data≠.cell v
 hok:HOk X.prog X.w H s.heap
 len:σ.length=X.N.length
section
variable{X:Cx}{pins:List (Addr×Obj)}{σ:List (Option V)}{H H':Hp}{s:af}{h':Heap}
theorem Cx.Ok.nofr(ok:X.Ok){b:Addr}{o:Obj}(e:X.base.get? b=some o):b∉X.fs:=λhb=>by
 have:=(ok.funs.mem hb).1;rw[e]at this;cases this
theorem Inv.bs(I:Inv X pins σ H s):∀b o,X.base.get? b=some o->s.heap.get? b=some o/\H b=none:=λb o e=>
 ⟨I.base.keep b o (I.ok.bs b o e).1 (I.ok.bs b o e).2 (I.ok.nofr e) (I.ok.noex b o e),I.base.free b o (I.ok.bs b o e).1 (I.ok.bs b o e).2 (I.ok.noex b o e)⟩
theorem Inv.bk(I:Inv X pins σ H s):∀b o,X.base.get? b=some o->s.heap.get? b=some o:=λb o e=>(I.bs b o e).1
theorem Inv.mod(I:Inv X pins σ H s):Mod X.K X.mg X.base:=I.ok.mod
theorem Inv.kIn(I:Inv X pins σ H s):X.K.In s.heap:=I.ok.mod.kin.keeps I.bk
theorem Inv.nolimit(I:Inv X pins σ H s):s.heap.NoLimit:=I.ok.mod.nolimit.keeps I.bk
theorem Inv.fr(I:Inv X pins σ H s):∃m,Fr X.base X.env.locals s.heap m:=
 let ⟨m,hn,_⟩:=I.loc
 ⟨m,hn,I.bk,bB I.ok.bsz I.ok.above⟩
theorem Inv.lt(I:Inv X pins σ H s):X.env.locals<s.heap.objs.size:=let ⟨_,hn,_⟩:=I.loc;hn.lt
theorem Inv.sz(I:Inv X pins σ H s):X.s₀.heap.objs.size<=s.heap.objs.size:=bB I.ok.above (Nat.le_of_lt I.lt)
theorem Inv.nofs(I:Inv X pins σ H s){a:Addr}(h:s.heap.objs.size<=a):a∉X.fs:=λhb=>by
 obtain⟨_,o,ho,_⟩:=I.ok.funs.mem hb;exact absurd (bG (aM ho) (bB I.sz h)) (bQ _)
theorem Inv.cne(I:Inv X pins σ H s):∀x c,X.env.cells.lookup x=some c->c≠X.env.locals:=λx c e z=>by
 obtain⟨v,o,ho,hd⟩:=I.cell x c e;obtain⟨m,⟨o',es,ep,ho',hd',_⟩,_⟩:=I.loc;rw[z,ho']at ho;cases ho;rw[hd']at hd;cases hd
theorem Inv.funs(I:Inv X pins σ H s):s.heap.FunFrames X.base X.outer:=by
 have all:∀(l:List Env),(∀b∈frs l,b∈X.fs)->X.s₀.heap.FunFrames X.base l->s.heap.FunFrames X.base l:=by
  intro l
  induction l with
  |nil=>intro _ _;trivial
  |cons env r ih=>
   intro hs hl;obtain⟨hk,⟨L,o,hf,hn,ho,hd⟩,hr⟩:=hl;have hL:L∈X.fs:=hs L (by unfold frs;rw[List.filterMap_cons,hf];exact aK);obtain⟨sl,e⟩:=I.base.slot L o ho (I.ok.frf L hL) hL λz=>I.ok.exfs L z hL
   exact⟨hk,⟨L,_,hf,hn,e,hd⟩,ih (λb hb=>hs b (by unfold frs;rw[List.filterMap_cons,hf];exact aO _ hb)) hr⟩
 exact all X.outer (λ_ hb=>hb) I.ok.funs
theorem Inv.stack(I:Inv X pins σ H s):s.heap.FunFrames X.base X.stack:=by
 rcases I.ok.stk with e|⟨e,hf⟩
 ·rw[e];exact I.funs
 ·rw[e];obtain⟨m,hn,_⟩:=I.loc;refine .cons (by rw[I.ok.kind];decide) hf hn ?_ I.funs;exact Heap.get?_none_of_le (bB I.ok.bsz I.ok.above)
theorem Inv.stkSub(I:Inv X pins σ H s):∀b∈frs X.stack,b∈X.env.locals::X.fs:=λb hb=>by
 rcases I.ok.stk with e|⟨e,hf⟩
 ·rw[e]at hb;exact aO _ hb
 ·rw[e]at hb;unfold frs at hb;rw[List.filterMap_cons,hf]at hb;exact hb
theorem Inv.stkFree(I:Inv X pins σ H s):∀b∈frs X.stack,H b=none:=λb hb=>by
 rcases aF.mp (I.stkSub b hb)with e|hb
 ·rw[e];exact I.free
 ·obtain⟨_,o,ho,_⟩:=I.ok.funs.mem hb;exact I.base.free b o ho (I.ok.frf b hb) λz=>I.ok.exfs b z hb
theorem Inv.step{g':Array GenState}{t':Nat}{d':Drawn}{ch:List Addr}(I:Inv X pins σ H s)
  (hch:∀b∈ch,(b∈X.ex\/X.s₀.heap.objs.size<=b)/\b≠X.env.locals/\(∀x c,X.env.cells.lookup x=some c->c≠b)/\∀p∈X.pn++pins,p.1≠b)
  (keep:∀b o,b≠X.env.locals->b∉X.fs->b∉ch->s.heap.get? b=some o->H b=none->h'.get? b=some o)
  (slot:∀b o,b≠X.env.locals->b∈X.fs->b∉ch->s.heap.get? b=some o->H b=none->∃sl,h'.get? b=some {o with slots:=sl}) (free:∀b o,b∉ch->s.heap.get? b=some o->H b=none->H' b=none)
  (there:∀b o,b∉ch->s.heap.get? b=some o->∃o',h'.get? b=some o')
  (tups:∀b xs,H b=some (.tup xs)->H' b=some (.tup xs)) (frzs:∀b o u,H b=some (.frz o u)->H' b=some (.frz o u)) (tbls:∀b ps,H b=some (.tbl ps)->∃more,H' b=some (.tbl (ps++more)))
  (ns:∀m,s.heap.Ns X.env.locals m->h'.Ns X.env.locals m) (hok:HOk X.prog X.w H' h') (hg:AllBare g') :
  Inv X pins σ H' {s with heap:=h',gens:=g',drawn:=d',toks:=t'}:=by
 have neL:∀b o,X.s₀.heap.get? b=some o->b≠X.env.locals:=λb o e=>a_ (bG (aM e) I.ok.above)
 have neC:∀b o,X.s₀.heap.get? b=some o->b∉X.ex->b∉ch:=λb o e hx hb=>by
  rcases(hch b hb).1 with z|z
  ·exact hx z
  ·exact absurd (bG (aM e) z) (bQ _)
 have cellK:∀x c,X.env.cells.lookup x=some c->∀v,s.heap.IsCell c v->h'.IsCell c v:=λx c e v ⟨o,ho,hd⟩=>by
  have nch:c∉ch:=λz=>(hch c z).2.2.1 x c e rfl
  by_cases hc:c∈X.fs
  ·obtain⟨sl,q⟩:=slot c o (I.cne x c e) hc nch ho (I.freeC x c e);exact⟨_,q,hd⟩
  ·exact⟨o,keep c o (I.cne x c e) hc nch ho (I.freeC x c e),hd⟩
 refine⟨I.ok,I.os,hg,⟨λb o e n hb hx=>?_,λb o e n hb hx=>?_,λb o e n hx=>?_,λb o e hx=>?_,λb xs e=>tups b xs (I.base.tups b xs e),λb o xs e=>frzs b o xs (I.base.frzs b o xs e),λb ps e=>?_⟩,?_,λx c e=>?_,?_,λx c e=>?_,λp hp=>?_,hok,I.len⟩
 ·exact keep b o (neL b o e) hb (neC b o e hx) (I.base.keep b o e n hb hx) (I.base.free b o e n hx)
 ·obtain⟨sl,e1⟩:=I.base.slot b o e n hb hx;obtain⟨sl',e2⟩:=slot b _ (neL b o e) hb (neC b o e hx) e1 (I.base.free b o e n hx);exact⟨sl',e2⟩
 ·obtain⟨o',e1⟩:=I.base.there b o e hx;exact free b o' (neC b o e hx) e1 (I.base.free b o e n hx)
 ·obtain⟨o',e1⟩:=I.base.there b o e hx;exact there b o' (neC b o e hx) e1
 ·obtain⟨m1,e1⟩:=I.base.tbls b ps e;obtain⟨m2,e2⟩:=tbls b _ e1;exact⟨m1++m2,by rw[e2,Array.append_assoc]⟩
 ·obtain⟨m,hn,hl⟩:=I.loc;refine⟨m,ns m hn,λi x v e1 e2 e3=>?_⟩;obtain⟨u,r,l⟩:=hl i x v e1 e2 e3;refine⟨u,r,?_⟩;rcases l with l|⟨k,c,e,z⟩
  ·exact .inl l
  ·exact .inr ⟨k,c,e,cellK x c e _ z⟩
 ·obtain⟨v,z⟩:=I.cell x c e;exact⟨v,cellK x c e v z⟩
 ·obtain⟨m,⟨o,_,_,ho,_⟩,_⟩:=I.loc;exact free _ o (λz=>(hch _ z).2.1 rfl) ho I.free
 ·obtain⟨v,o,ho,hd⟩:=I.cell x c e;exact free c o (λz=>(hch c z).2.2.1 x c e rfl) ho (I.freeC x c e)
 ·obtain⟨e,n,ne,nf,d⟩:=I.pin p hp;have nch:p.1∉ch:=λz=>(hch p.1 z).2.2.2 p hp rfl
  exact⟨keep p.1 p.2 ne nf nch e n,free p.1 p.2 nch e n,ne,nf,d⟩
theorem Inv.un{t':Nat}(I:Inv X pins σ H s)(u:Un X.fs [] H H' s.heap h')(hok:HOk X.prog X.w H' h'):Inv X pins σ H' {s with heap:=h',toks:=t'}:=by
 obtain⟨m,⟨o,es,ep,ho,r⟩,_⟩:=id I.loc;obtain⟨sl,hL⟩:=u.any ho I.free (by simp);exact I.step (g':=s.gens) (d':=s.drawn) (ch:=[]) (λ_ z=>nomatch z) (λb o _ hb _ e n=>u.keep b o e n hb (by simp)) (λb o _ hb _ e n=>u.slot b o e n hb (by simp)) (λb o _ e n=>u.free b o e n (by simp)) (λb o _ e=>u.there b o e (by simp)) u.tups u.frzs u.tbls (λm' hm=>by
  obtain⟨o',es',ep',ho',r'⟩:=hm;rw[ho]at ho';cases ho';exact⟨_,es',ep',hL,r'⟩) hok I.bare
theorem Inv.call{g':Array GenState}{t':Nat}{d':Drawn}{ch:List Addr}(I:Inv X pins σ H s)(u:Un (frs X.stack) ch H H' s.heap h')(hok:HOk X.prog X.w H' h')(hg:AllBare g')
  (hch:∀b∈ch,(b∈X.ex\/X.s₀.heap.objs.size<=b)/\b≠X.env.locals/\(∀x c,X.env.cells.lookup x=some c->c≠b)/\∀p∈X.pn++pins,p.1≠b) :
  Inv X pins σ H' {s with heap:=h',gens:=g',drawn:=d',toks:=t'}:=by
 obtain⟨m,⟨o,es,ep,ho,r⟩,_⟩:=id I.loc;obtain⟨sl,hL⟩:=u.any ho I.free λz=>(hch _ z).2.1 rfl
 exact I.step (ch:=ch) hch (λb o hL hb hc e n=>u.keep b o e n (λz=>(aF.mp (I.stkSub b z)).elim hL hb) hc) (λb o _ _ hc e n=>u.any e n hc) (λb o hc e n=>u.free b o e n hc) (λb o hc e=>u.there b o e hc) u.tups u.frzs u.tbls (λm' hm=>by
  obtain⟨o',es',ep',ho',r'⟩:=hm;rw[ho]at ho';cases ho';exact⟨_,es',ep',hL,r'⟩) hok hg
theorem Inv.turned{t':Nat}{it:Addr}(I:Inv X pins σ H s)(k:∀b o,b≠it->s.heap.get? b=some o->h'.get? b=some o)(hn:H it=none)(hL:it≠X.env.locals)
  (h1:it∈X.ex\/X.s₀.heap.objs.size<=it) (h2:∀x c,X.env.cells.lookup x=some c->c≠it) (h3:∀p∈X.pn++pins,p.1≠it):Inv X pins σ H {s with heap:=h',toks:=t'}:=by
 have nit:∀b u,H b=some u->b≠it:=λb u e z=>by rw[z,hn]at e;cases e
 refine I.step (g':=s.gens) (d':=s.drawn) (ch:=[it]) (λb hb=>?_) (λb o _ _ hc e _=>k b o (λz=>hc (by simp[z])) e) (λb o _ _ hc e _=>⟨o.slots,k b o (λz=>hc (by simp[z])) e⟩) (λ_ _ _ _ n=>n)
  (λb o hc e=>⟨o,k b o (λz=>hc (by simp[z])) e⟩) (λ_ _ e=>e) (λ_ _ _ e=>e) (λb ps e=>⟨#[],by rw[e];simp⟩) (λm hm=>?_) (λb u e=>?_) I.bare
 ·have e:b=it:=by simpa using hb
  subst e;exact⟨h1,hL,h2,h3⟩
 ·obtain⟨o,es,ep,ho,r⟩:=hm;exact⟨o,es,ep,k _ o (Ne.symm hL) ho,r⟩
 ·refine(I.hok b u e).stay (λc v hc q=>k c v ?_ q) (λ_ q=>q) λ_ _ q=>q
  rcases hc with z|z
  ·rw[z];exact nit b u e
  ·exact nit c _ z
theorem Inv.tok(I:Inv X pins σ H s)(t:Nat):Inv X pins σ H {s with toks:=t}:=I.un (h':=s.heap) (t':=t) Un.refl I.hok
theorem Inv.kept{t':Nat}(I:Inv X pins σ H s)(k:∀b u,s.heap.get? b=some u->h'.get? b=some u):Inv X pins σ H {s with heap:=h',toks:=t'}:=I.un (Un.kept k) (I.hok.kept k)
theorem Inv.laid{a:Addr}{o:HO}{t':Nat}(I:Inv X pins σ H s)(k:∀b u,s.heap.get? b=some u->h'.get? b=some u)(hp:s.heap.objs.size<=a)(new:zO X.prog X.w (upd H a o) h' a o) :
  Inv X pins σ (upd H a o) {s with heap:=h',toks:=t'}:=I.un (Un.laid k hp (I.hok.fresh hp)) (I.hok.laid k hp new)
theorem Inv.write{x e:Addr}{o:HO}{t':Nat}(I:Inv X pins σ H s)(mu:Mut (H x))(he:e=x\/H e=some (.own x))(k:∀b u,b≠e->s.heap.get? b=some u->h'.get? b=some u)(heo:∃u,h'.get? e=some u)
  (new:zO X.prog X.w (upd H x o) h' x o):Inv X pins σ (upd H x o) {s with heap:=h',toks:=t'}:=I.un (Un.write mu he k heo) (I.hok.write mu he k heo new)
theorem Inv.pins_of{pins':List (Addr×Obj)}(I:Inv X pins σ H s)(h:∀p∈pins',s.heap.get? p.1=some p.2/\H p.1=none/\p.1≠X.env.locals/\p.1∉X.fs/\∀v,p.2.data≠.cell v):Inv X pins' σ H s:=
 ⟨I.ok,I.os,I.bare,I.base,I.loc,I.cell,I.free,I.freeC,λp hp=>(List.mem_append.mp hp).elim (λz=>I.pin p (List.mem_append_left _ z)) (h p),I.hok,I.len⟩
theorem s_{N:List Str}(hN:N.Nodup){i j:Nat}{x:Str}(a:N[i]? = some x)(b:N[j]? = some x):i=j:=by
 obtain⟨h1,e1⟩:=List.getElem?_eq_some_iff.mp a;obtain⟨h2,e2⟩:=List.getElem?_eq_some_iff.mp b;exact(List.getElem_inj hN).mp (e1.trans e2.symm)
theorem uT{M:Model}{A:aB}{E:ae->af->Prop}{i:Nat}{x:Str}{v:V}{u:ae}{Q:Unit->af->Prop}(I:Inv X pins σ H s)(hN:X.N.Nodup)(hi:X.N[i]? = some x)(hx:Loc X.env.scope x)(r:RelV v u)
  (h:∀s',Inv X pins (σ.set i (some v)) H s'->(∃a,Heap.SameBut a s.heap s'.heap/\(a=X.env.locals\/X.env.cells.lookup x=some a))->Q () s') (hf:X.fn x=true\/X.env.scope.names.lookup x=some .local:=by first|exact .inl rfl|exact .inr rfl|assumption):aq M A (storeName X.env x u) Q E s:=by
 obtain⟨m,hn,hl⟩:=id I.loc;have hcls:(X.env.scope.kind==.class||(X.env.scope.kind==.module&&X.env.locals != X.env.globals))=false:=by rw[I.ok.kind];rfl
 have hiσ:i<σ.length:=by rw[I.len];exact(List.getElem?_eq_some_iff.mp hi).1
 have cne:=I.cne;have tracked:∀{a:Addr}{h':Heap},(∃o,s.heap.get? a=some o/\H a=none)->Heap.SameBut a s.heap h'->HOk X.prog X.w H h':=λ{a h'} ha hs b ob e=>by
  obtain⟨_,_,hfree⟩:=ha;refine(I.hok b ob e).stay (λc w' hc q=>(hs.2 c ?_).trans q) (λ_ q=>q) λ_ _ q=>q
  rintro rfl;rcases hc with rfl|hc
  ·rw[hfree]at e;cases e
  ·rw[hfree]at hc;cases hc
 rcases hx with hk|hk
 ·refine wpAny_storeName_local hk hn (λh' hn' hs=>?_) hcls;obtain⟨oL,_,_,hoL,_⟩:=id hn;refine h _ ⟨I.ok,I.os,I.bare,⟨λb o e n hb hx=>?_,λb o e n hb hx=>?_,I.base.free,λb o e hx=>?_,I.base.tups,I.base.frzs,I.base.tbls⟩,⟨_,hn',λj y v' e1 e2 e3=>?_⟩,λy c e=>?_,I.free,I.freeC,λp hp=>?_,tracked ⟨oL,hoL,I.free⟩ hs,by simpa using I.len⟩ ⟨_,hs,.inl rfl⟩
  ·exact(hs.2 b (a_ (bG (aM e) I.ok.above))).trans (I.base.keep b o e n hb hx)
  ·obtain⟨sl,e1⟩:=I.base.slot b o e n hb hx;exact⟨sl,(hs.2 b (a_ (bG (aM e) I.ok.above))).trans e1⟩
  ·obtain⟨o',e1⟩:=I.base.there b o e hx;exact⟨o',(hs.2 b (a_ (bG (aM e) I.ok.above))).trans e1⟩
  ·by_cases hj:j=i
   ·subst hj;rw[hi]at e1;cases e1;rw[List.getElem?_set_self hiσ]at e2;cases e2;exact⟨u,r,.inl ⟨hk,by simp⟩⟩
   ·rw[List.getElem?_set_ne (Ne.symm hj)]at e2;obtain⟨u',r',q⟩:=hl j y v' e1 e2 e3;refine⟨u',r',?_⟩;rcases q with ⟨k,e⟩|⟨k,c,e,z⟩
    ·refine .inl ⟨k,?_⟩;have:y≠x:=λe=>hj (s_ hN e1 (e▸hi))
     simp[this,e]
    ·exact .inr ⟨k,c,e,z.sameBut hs (cne y c e)⟩
  ·obtain⟨w',z⟩:=I.cell y c e;exact⟨w',z.sameBut hs (cne y c e)⟩
  ·obtain⟨e,n,ne,nf,d⟩:=I.pin p hp;exact⟨(hs.2 p.1 ne).trans e,n,ne,nf,d⟩
 ·have hfn:X.fn x=true:=by
   rcases hf with z|z
   ·exact z
   ·rw[z]at hk;cases hk
  obtain⟨c,hc⟩:=I.ok.has x (.inl hk);obtain⟨w',z⟩:=I.cell x c hc;refine wpAny_storeName_cell I.ok.kind hk hc z (λh' hc' hs=>?_);obtain⟨oc,hoc,hocd⟩:=id z;refine h {s with heap:=h'} ⟨I.ok,I.os,I.bare,⟨λb o e n hb hx=>?_,λb o e n hb hx=>?_,I.base.free,λb o e hx=>?_,I.base.tups,I.base.frzs,I.base.tbls⟩,⟨m,hn.sameBut hs (Ne.symm (cne x c hc)),λj y v' e1 e2 e3=>?_⟩,λy c' e=>?_,I.free,I.freeC,λp hp=>?_,tracked ⟨oc,hoc,I.freeC x c hc⟩ hs,by simpa using I.len⟩ ⟨c,hs,.inr hc⟩
  ·exact(hs.2 b (a_ (bG (aM e) (I.ok.cab x c hfn hc)))).trans (I.base.keep b o e n hb hx)
  ·obtain⟨sl,e1⟩:=I.base.slot b o e n hb hx;exact⟨sl,(hs.2 b (a_ (bG (aM e) (I.ok.cab x c hfn hc)))).trans e1⟩
  ·obtain⟨o',e1⟩:=I.base.there b o e hx;exact⟨o',(hs.2 b (a_ (bG (aM e) (I.ok.cab x c hfn hc)))).trans e1⟩
  ·by_cases hj:j=i
   ·subst hj;rw[hi]at e1;cases e1;rw[List.getElem?_set_self hiσ]at e2;cases e2;exact⟨u,r,.inr ⟨.inl hk,c,hc,hc'⟩⟩
   ·rw[List.getElem?_set_ne (Ne.symm hj)]at e2;obtain⟨u',r',q⟩:=hl j y v' e1 e2 e3;refine⟨u',r',?_⟩;rcases q with q|⟨k,c',e,z'⟩
    ·exact .inl q
    ·refine .inr ⟨k,c',e,z'.sameBut hs ?_⟩;rintro rfl;exact hj (s_ hN e1 (I.ok.inj _ _ _ e hc▸hi))
  ·by_cases hcc:c'=c
   ·subst hcc;exact⟨_,hc'⟩
   ·obtain⟨w2,z2⟩:=I.cell y c' e;exact⟨w2,z2.sameBut hs hcc⟩
  ·obtain⟨e,n,ne,nf,d⟩:=I.pin p hp;refine⟨(hs.2 p.1 ?_).trans e,n,ne,nf,d⟩;intro q;rw[q,hoc]at e;have q':oc=p.2:=bT e;exact d w' (by rw[<-q'];exact hocd)
theorem oG{M:Model}{A:aB}{E:ae->af->Prop}{i:Nat}{x:Str}{v:V}{u:ae}{Q:Unit->af->Prop}(I:Inv X pins σ H s)(hN:X.N.Nodup)(hi:X.N[i]? = some x)(hx:Loc X.env.scope x)(r:RelV v u)
  (h:∀s',Inv X pins (σ.set i (some v)) H s'->Q () s') (hf:X.fn x=true\/X.env.scope.names.lookup x=some .local:=by first|exact .inl rfl|exact .inr rfl|assumption):aq M A (storeName X.env x u) Q E s:=
 uT I hN hi hx r (λs' I' _=>h s' I') hf
theorem Inv.call'{s':af}{ch:List Addr}(I:Inv X pins σ H s)(ho:s'.os=s.os)(u:Un (frs X.stack) ch H H' s.heap s'.heap)(hok:HOk X.prog X.w H' s'.heap)(hg:AllBare s'.gens)
  (hch:∀b∈ch,(b∈X.ex\/X.s₀.heap.objs.size<=b)/\b≠X.env.locals/\(∀x c,X.env.cells.lookup x=some c->c≠b)/\∀p∈X.pn++pins,p.1≠b):Inv X pins σ H' s':=by
 obtain⟨h',g',d',t',o'⟩:=s';have e:o'=s.os:=ho;subst e;exact I.call (g':=g') (t':=t') (d':=d') u hok hg hch
end
abbrev XK:=ae->Option Addr->Hp->Prop
abbrev St:=List (Option V)
abbrev VK:=V->Hp->Prop
abbrev TE:=St->Hp->VK->Prop
abbrev TT:=St->Hp->(Bool->Hp->Prop)->Prop
abbrev TA:=St->Hp->(List V->Hp->Prop)->Prop
structure Ends where
 nx:St->Hp->Prop
 rt:VK
 bk:St->Hp->Prop:=λ_ _=>False
 ct:St->Hp->Prop:=λ_ _=>False
abbrev TS:=Ends->St->Hp->Prop
noncomputable def EP(X:Cx)(pins:List (Addr×Obj))(σ:St)(Q:VK)(u:ae)(s':af):Prop:=∃v H',Inv X pins σ H' s'/\RelV v u/\Q v H'
noncomputable def TP(X:Cx)(pins:List (Addr×Obj))(σ:St)(Q:Bool->Hp->Prop)(b:Bool)(s':af):Prop:=∃H',Inv X pins σ H' s'/\Q b H'
noncomputable def AP(X:Cx)(pins:List (Addr×Obj))(σ:St)(Q:List V->Hp->Prop)(us:List ae)(s':af):Prop:=∃vs H',Inv X pins σ H' s'/\Vals vs us/\Q vs H'
noncomputable def SP(X:Cx)(pins:List (Addr×Obj))(D:Ends)(f:Flow)(s':af):Prop:=
 match f with
 | .next=>∃σ' H',Inv X pins σ' H' s'/\D.nx σ' H'
 | .brk=>∃σ' H',Inv X pins σ' H' s'/\D.bk σ' H'
 | .cont=>∃σ' H',Inv X pins σ' H' s'/\D.ct σ' H'
 | .ret u=>∃v σ' H',Inv X pins σ' H' s'/\RelV v u/\D.rt v H'
noncomputable def PE(X:Cx)(e:Expr)(t:TE):Prop:=
 ∀(pins:List (Addr×Obj)) (s:af) (σ:St) (H:Hp) (Q:VK),Inv X pins σ H s->t σ H Q->aq (ao X.prog X.w) X.A (eval e X.env) (EP X pins σ Q) X.xe s
noncomputable def PT(X:Cx)(e:Expr)(t:TT):Prop:=
 ∀(pins:List (Addr×Obj)) (s:af) (σ:St) (H:Hp) (Q:Bool->Hp->Prop),Inv X pins σ H s->t σ H Q->aq (ao X.prog X.w) X.A (isTrue e X.env (eval e X.env)) (TP X pins σ Q) X.xe s
noncomputable def PW(X:Cx)(e:Expr)(t:TT):Prop:=
 ∀(whole:Sem ae) (pins:List (Addr×Obj)) (s:af) (σ:St) (H:Hp) (Q:Bool->Hp->Prop),Inv X pins σ H s->t σ H Q->aq (ao X.prog X.w) X.A (isTrue e X.env whole) (TP X pins σ Q) X.xe s
theorem PW.pt{X:Cx}{e:Expr}{t:TT}(h:PW X e t):PT X e t:=h _
noncomputable def PA(X:Cx)(es:List Expr)(t:TA):Prop:=
 ∀(pos:Pos) (pins:List (Addr×Obj)) (s:af) (σ:St) (H:Hp) (Q:List V->Hp->Prop),Inv X pins σ H s->t σ H Q->aq (ao X.prog X.w) X.A (spliced (backTo pos (aY es X.env))) (AP X pins σ Q) X.xe s
noncomputable def PS(X:Cx)(st:Stmt)(t:TS):Prop:=
 ∀(pins:List (Addr×Obj)) (s:af) (σ:St) (H:Hp) (D:Ends),Inv X pins σ H s->t D σ H->aq (ao X.prog X.w) X.A (exec st X.env) (SP X pins D) X.xe s
noncomputable def PSs(X:Cx)(st:List Stmt)(t:TS):Prop:=
 ∀(pins:List (Addr×Obj)) (s:af) (σ:St) (H:Hp) (D:Ends),Inv X pins σ H s->t D σ H->aq (ao X.prog X.w) X.A (execs st X.env) (SP X pins D) X.xe s
theorem thn{α:Type}{t:Sem α}{Q Q':α->af->Prop}{M:Model}{A:aB}{E:ae->af->Prop}{s:af}(h:aq M A t Q E s)(hQ:∀a s,Q a s->Q' a s):aq M A t Q' E s:=b5 h hQ λ_ _ x=>x
section
variable{X:Cx}
theorem bin{a b:Expr}{ta tb:TE}(ha:PE X a ta)(hb:PE X b tb){pins:List (Addr×Obj)}{s:af}{σ:St}{H:Hp}{R:V->V->Hp->Prop}(I:Inv X pins σ H s)(h:ta σ H λx H1=>tb σ H1 λy H2=>R x y H2)
  {α:Type}{Q:α->af->Prop}{f:ae->ae->Sem α}
  (hf:∀v u s2 x y H2,Inv X pins σ H2 s2->RelV x v->RelV y u->R x y H2->aq (ao X.prog X.w) X.A (f v u) Q X.xe s2) :
  aq (ao X.prog X.w) X.A (eval a X.env) (λv s₁=>aq (ao X.prog X.w) X.A (eval b X.env) (λu s₂=>aq (ao X.prog X.w) X.A (f v u) Q X.xe s₂) X.xe s₁) X.xe s:=by
 refine thn (ha pins s σ H _ I h) λv s1 ⟨x,H1,I1,r1,q1⟩=>?_
 refine thn (hb pins s1 σ H1 _ I1 q1) λu s2 ⟨y,H2,I2,r2,q2⟩=>?_
 exact hf v u s2 x y H2 I2 r1 r2 q2
noncomputable def fL(i:Nat):TE:=λσ H Q=>∃v,σ[i]? = some (some v)/\Q v H
noncomputable def tC(v:V):TE:=λ_ H Q=>Q v H
theorem fV{i:Nat}{x:Str}{pos:Pos}(hN:X.N[i]? = some x)(hv:fk X.env.scope x)(hd:(x==("__debug__" : Str))=false:=by decide)(hcd:(x==("__classdict__" : Str))=false:=by decide):PE X (.Name x pos) (fL i):=by
 intro pins s σ H Q I h;obtain⟨v,e,h⟩:=h;obtain⟨m,hn,hl⟩:=I.loc;obtain⟨u,r,l⟩:=hl i x v hN e hv;have fin:EP X pins σ Q u s:=⟨v,H,I,r,h⟩
 rcases l with ⟨hk,hm⟩|⟨hk,c,hc,hcell⟩
 ·exact wpAny_Name (wpAny_loadName_local I.ok.kind hk hn hm fin) hd
 ·rcases hk with hk|hk
  ·exact wpAny_Name (wpAny_loadName_cell I.ok.kind hk hc hcell fin) hd
  ·exact wpAny_Name (wpAny_loadName_free I.ok.kind hk hc hcell fin hcd) hd
theorem rB{i j pos}:PE X (.Constant (.int i) j pos) (tC (.int i)):=λ_ _ _ H _ I h=>wpAny_Constant_int ⟨.int i,H,I.tok _,⟨_,rfl⟩,h⟩
theorem BK{b j pos}:PE X (.Constant (.bool b) j pos) (tC (.bl b)):=λ_ _ _ H _ I h=>Constant_bool ⟨.bl b,H,I,rfl,h⟩
theorem BX{j pos}:PE X (.Constant .none j pos) (tC .non):=λ_ _ _ H _ I h=>Constant_none ⟨.non,H,I,rfl,h⟩
theorem E7{x j pos}:PE X (.Constant (.str x) j pos) (tC (.str x)):=λ_ _ _ H _ I h=>Calls.Constant_str ⟨.str x,H,I.tok _,⟨_,rfl⟩,h⟩
noncomputable def Gl(X:Cx)(x:Str):Prop:=X.env.kindOf x=some .globalImplicit
theorem lT{E:ae->af->Prop}{pins:List (Addr×Obj)}{s:af}{σ:St}{H:Hp}{x:Str}{u:ae}{pos:Pos}{Q:ae->af->Prop}(I:Inv X pins σ H s)(hg:Gl X x)(hm:X.mg x=some u)(h:Q u s)
  (hd:(x==("__debug__" : Str))=false:=by decide):aq (ao X.prog X.w) X.A (eval (.Name x pos) X.env) Q E s:=
 Calls.Name_function_global I.ok.kind hg (Calls.loadGlobal_global (by rw[I.ok.glob];exact I.mod.glob.keeps I.bk) hm h) hd
theorem fC{E:ae->af->Prop}{pins:List (Addr×Obj)}{s:af}{σ:St}{H:Hp}{x:Str}{u:ae}{pos:Pos}{Q:ae->af->Prop}(I:Inv X pins σ H s)(hg:Gl X x)(hm:X.mg x=none)(hv:bU x=some u)(h:Q u s)
  (hn:x≠"__name__":=by decide) (hd:(x==("__debug__" : Str))=false:=by decide):aq (ao X.prog X.w) X.A (eval (.Name x pos) X.env) Q E s:=by
 obtain⟨mb,h1,h2⟩:=I.mod.blt;exact Calls.Name_function_global I.ok.kind hg (Calls.loadGlobal_builtin (by rw[I.ok.glob];exact I.mod.glob.keeps I.bk) hm (by rw[I.ok.blt];exact h1.keeps I.bk) ((h2 x hn).trans hv) h) hd
theorem lj{x:Str}{v:V}{u:ae}{pos:Pos}(hg:Gl X x)(hm:X.mg x=some u)(r:RelV v u)(hd:(x==("__debug__" : Str))=false:=by decide):PE X (.Name x pos) (tC v):=
 λ_ _ _ H _ I h=>lT I hg hm ⟨v,H,I,r,h⟩ hd
theorem GI{x:Str}{v:V}{u:ae}{pos:Pos}(hg:Gl X x)(hm:X.mg x=none)(hv:bU x=some u)(r:RelV v u)(hn:x≠"__name__":=by decide)(hd:(x==("__debug__" : Str))=false:=by decide):PE X (.Name x pos) (tC v):=
 λ_ _ _ H _ I h=>fC I hg hm hv ⟨v,H,I,r,h⟩ hn hd
variable{a b:Expr}{ta tb:TE}{pos:Pos}
variable{tA tB':TT}{rest:List Expr}
noncomputable def AG(t u:TT):TT:=λσ H Q=>t σ H λc H1=>if c=true then u σ H1 Q else Q false H1
noncomputable def tOr(t u:TT):TT:=λσ H Q=>t σ H λc H1=>if c=true then Q true H1 else u σ H1 Q
noncomputable def Ax(t:TT):TT:=λσ H Q=>t σ H λc H1=>Q (!c) H1
theorem xM(ha:PT X a tA):PW X (.BoolOp .And [a] pos) tA:=by
 intro wh pins s σ H Q I h;refine isTrue_and (thn (ha pins s σ H Q I h) λc s1 e=>?_);cases c with
 |true=>exact isTrue_and_nil e
 |false=>exact e
theorem xI(ha:PT X a tA):PW X (.BoolOp .Or [a] pos) tA:=by
 intro wh pins s σ H Q I h;refine isTrue_or (thn (ha pins s σ H Q I h) λc s1 e=>?_);cases c with
 |false=>exact isTrue_or_nil e
 |true=>exact e
theorem AI(ha:PT X a tA)(hb:PW X (.BoolOp .And (b::rest) pos) tB'):PW X (.BoolOp .And (a::b::rest) pos) (AG tA tB'):=by
 intro wh pins s σ H Q I h;refine isTrue_and (thn (ha pins s σ H _ I h) λc s1 ⟨H1,I1,q1⟩=>?_);cases c with
 |true=>exact hb wh pins s1 σ H1 Q I1 q1
 |false=>exact⟨H1,I1,q1⟩
theorem xf(ha:PT X a tA)(hb:PW X (.BoolOp .Or (b::rest) pos) tB'):PW X (.BoolOp .Or (a::b::rest) pos) (tOr tA tB'):=by
 intro wh pins s σ H Q I h;refine isTrue_or (thn (ha pins s σ H _ I h) λc s1 ⟨H1,I1,q1⟩=>?_);cases c with
 |true=>exact⟨H1,I1,q1⟩
 |false=>exact hb wh pins s1 σ H1 Q I1 q1
theorem Ht(ha:PT X a tA):PT X (.UnaryOp .Not a pos) (Ax tA):=by
 intro pins s σ H Q I h;exact isTrue_not (ha pins s σ H (λc H1=>Q (!c) H1) I h)
noncomputable def xi(ta tb:TE):TE:=λσ H Q=>ta σ H λx H1=>∃c,x=.bl c/\if c=true then tb σ H1 Q else Q (.bl false) H1
noncomputable def BF(ta tb:TE):TE:=λσ H Q=>ta σ H λx H1=>∃c,x=.bl c/\if c=true then Q (.bl true) H1 else tb σ H1 Q
noncomputable def y7(ta:TE):TE:=λσ H Q=>ta σ H λx H1=>∃c,x=.bl c/\Q (.bl (!c)) H1
theorem FY{op}{t:TE}(h:PE X a t):PE X (.BoolOp op [a] pos) t:=λpins s σ H Q I hw=>BoolOp_one (h pins s σ H Q I hw)
theorem EI(ha:PE X a ta)(hb:PE X (.BoolOp .And (b::rest) pos) tb):PE X (.BoolOp .And (a::b::rest) pos) (xi ta tb):=by
 intro pins s σ H Q I h;refine BoolOp_and (thn (ha pins s σ H _ I h) λv s1 ⟨x,H1,I1,r1,q1⟩=>?_);obtain⟨c,rfl,q1⟩:=q1;cases r1;refine bR ?_;cases c with
 |true=>exact hb pins s1 σ H1 Q I1 q1
 |false=>exact⟨.bl false,H1,I1,rfl,q1⟩
theorem xu(ha:PE X a ta)(hb:PE X (.BoolOp .Or (b::rest) pos) tb):PE X (.BoolOp .Or (a::b::rest) pos) (BF ta tb):=by
 intro pins s σ H Q I h;refine BoolOp_or (thn (ha pins s σ H _ I h) λv s1 ⟨x,H1,I1,r1,q1⟩=>?_);obtain⟨c,rfl,q1⟩:=q1;cases r1;refine bR ?_;cases c with
 |false=>exact hb pins s1 σ H1 Q I1 q1
 |true=>exact⟨.bl true,H1,I1,rfl,q1⟩
theorem BO(ha:PE X a ta):PE X (.UnaryOp .Not a pos) (y7 ta):=by
 intro pins s σ H Q I h;refine UnaryOp_ (thn (ha pins s σ H _ I h) λv s1 ⟨x,H1,I1,r1,q1⟩=>?_);obtain⟨c,rfl,q1⟩:=q1;cases r1;exact not_of (bR ⟨.bl (!c),H1,I1,rfl,q1⟩)
noncomputable def tIf(t:TT)(ta tb:TE):TE:=λσ H Q=>t σ H λc H1=>if c=true then ta σ H1 Q else tb σ H1 Q
theorem D0{c:Expr}(hc:PT X c tA)(ha:PE X a ta)(hb:PE X b tb):PE X (.IfExp c a b pos) (tIf tA ta tb):=by
 intro pins s σ H Q I h;refine wpAny_IfExp (thn (hc pins s σ H _ I h) λd s1 ⟨H1,I1,q1⟩=>?_);cases d with
 |true=>exact ha pins s1 σ H1 Q I1 q1
 |false=>exact hb pins s1 σ H1 Q I1 q1
end
noncomputable def SqL(K:aC)(H:Hp)(a:Addr)(xs:List V):Prop:=
 Rd H a (.lst xs) \/
  ∃(o:Obj) (its:Array ae) (n:Nat),K.lookup a=some o/\o.cls=.type "list"/\o.dict=none/\o.data=.seq its n/\its.size<=aP/\Vals xs its.toList
noncomputable def SqT(K:aC)(H:Hp)(a:Addr)(xs:List V):Prop:=
 Rd H a (.tup xs) \/
  ∃(o:Obj) (its:Array ae) (n:Nat),K.lookup a=some o/\o.cls=.type "tuple"/\o.data=.seq its n/\its.size<=aP/\Vals xs its.toList
noncomputable def yH:ae->Option V
 | .none=>some .non
 | .bool b=>some (.bl b)
 | .int i _=>some (.int i)
 | .str x _=>some (.str x)
 | .bytes b _=>some (.byt b)
 | .float b _=>some (.flt b)
 | .ref a=>some (.ref a)
 | .type n=>some (.ty n)
 |_=>none
theorem RelV.abs{x:V}{u:ae}(r:RelV x u):yH u=some x:=by
 cases x with
 |non=>cases r;rfl
 |bl _=>cases r;rfl
 |int _=>obtain⟨t,rfl⟩:=r;rfl
 |str _=>obtain⟨t,rfl⟩:=r;rfl
 |byt _=>obtain⟨t,rfl⟩:=r;rfl
 |flt _=>obtain⟨t,rfl⟩:=r;rfl
 |ref _=>cases r;rfl
 |ty _=>cases r;rfl
theorem RelV.inj{x y:V}{u:ae}(r:RelV x u)(q:RelV y u):x=y:=bT (r.abs.symm.trans q.abs)
theorem Vals.inj{xs ys:List V}{us:List ae}(h:Vals xs us)(h':Vals ys us):xs=ys:=by
 induction h generalizing ys with
 |nil=>cases h';rfl
 |cons r t ih=>cases h' with
  |cons r' t'=>rw[r.inj r',ih t']
section
variable{X:Cx}{pins:List (Addr×Obj)}{σ:St}{H:Hp}{s:af}{a:Addr}{xs ys:List V}
theorem SqL.of{K:aC}(h:H a=some (.lst xs)):SqL K H a xs:=.inl (.inl h)
theorem SqT.of{K:aC}(h:H a=some (.tup xs)):SqT K H a xs:=.inl (.inl h)
theorem Inv.list(I:Inv X pins σ H s)(h:SqL X.K H a xs):∃its:List ae,Vals xs its/\PlainL s.heap a its.toArray/\xs.length<=sizeLine:=by
 rcases h with h|⟨o,its,n,hk,hc,hd,hs,hz,r⟩
 ·obtain⟨z,its,n,r,e⟩:=h.ok I.hok;exact⟨its,r,⟨_,n,e,rfl,rfl,rfl⟩,z⟩
 ·refine⟨its.toList,r,⟨o,n,I.kIn a o hk,hc,hd,by simpa using hs⟩,?_⟩;have e:=r.length;simp only[a8]at e;lia
theorem Inv.tuple(I:Inv X pins σ H s)(h:SqT X.K H a xs):∃its:List ae,Vals xs its/\IsTup s.heap a its.toArray/\xs.length<=sizeLine:=by
 rcases h with h|⟨o,its,n,hk,hc,hs,hz,r⟩
 ·obtain⟨z,its,r,p⟩:=h.ok I.hok;exact⟨its,r,p,z⟩
 ·refine⟨its.toList,r,⟨o,I.kIn a o hk,hc,n,by simpa using hs⟩,?_⟩;have e:=r.length;simp only[a8]at e;lia
theorem Inv.list_inj(I:Inv X pins σ H s)(h:SqL X.K H a xs)(h':SqL X.K H a ys):xs=ys:=by
 obtain⟨its,r,⟨o,n,e,_,_,d⟩,_⟩:=I.list h;obtain⟨its',r',⟨o',n',e',_,_,d'⟩,_⟩:=I.list h';rw[e]at e';cases e';rw[d]at d';injection d' with d1 _
 have:its=its':=by simpa using congrArg Array.toList d1
 subst this;exact r.inj r'
theorem Inv.tuple_inj(I:Inv X pins σ H s)(h:SqT X.K H a xs)(h':SqT X.K H a ys):xs=ys:=by
 obtain⟨its,r,⟨o,e,_,n,d⟩,_⟩:=I.tuple h;obtain⟨its',r',⟨o',e',_,n',d'⟩,_⟩:=I.tuple h';rw[e]at e';cases e';rw[d]at d';injection d' with d1 _
 have:its=its':=by simpa using congrArg Array.toList d1
 subst this;exact r.inj r'
end
abbrev Cx.wish(X:Cx)(E:ae->af->Prop):Cx:={X with xe:=E}
abbrev Cx.nox(X:Cx):Cx:=X.wish λ_ _=>False
theorem Cx.Ok.wish{X:Cx}(ok:X.Ok)(E:ae->af->Prop):(X.wish E).Ok:=
 ⟨ok.mod,ok.kind,ok.glob,ok.blt,ok.above,ok.inj,ok.has,ok.cab,ok.hd,ok.frames,ok.stk,ok.exf,ok.bs,ok.bsz,ok.noex,ok.exfs,ok.funs,ok.frf⟩
theorem Cx.Ok.unwish{X:Cx}{E:ae->af->Prop}(ok:(X.wish E).Ok):X.Ok:=
 ⟨ok.mod,ok.kind,ok.glob,ok.blt,ok.above,ok.inj,ok.has,ok.cab,ok.hd,ok.frames,ok.stk,ok.exf,ok.bs,ok.bsz,ok.noex,ok.exfs,ok.funs,ok.frf⟩
section
variable{X:Cx}{pins:List (Addr×Obj)}{σ:St}{H:Hp}{s:af}{E:ae->af->Prop}
theorem Inv.wish(I:Inv X pins σ H s)(E:ae->af->Prop):Inv (X.wish E) pins σ H s:=⟨I.ok.wish E,I.os,I.bare,I.base,I.loc,I.cell,I.free,I.freeC,I.pin,I.hok,I.len⟩
theorem Inv.unwish(I:Inv (X.wish E) pins σ H s):Inv X pins σ H s:=⟨I.ok.unwish,I.os,I.bare,I.base,I.loc,I.cell,I.free,I.freeC,I.pin,I.hok,I.len⟩
theorem SP.unwish{D:Ends}{f:Flow}{s':af}(h:SP (X.wish E) pins D f s'):SP X pins D f s':=by
 cases f with
 |next=>obtain⟨σ',H',I,q⟩:=h;exact⟨σ',H',I.unwish,q⟩
 |brk=>obtain⟨σ',H',I,q⟩:=h;exact⟨σ',H',I.unwish,q⟩
 |cont=>obtain⟨σ',H',I,q⟩:=h;exact⟨σ',H',I.unwish,q⟩
 |ret u=>obtain⟨v,σ',H',I,r,q⟩:=h;exact⟨v,σ',H',I.unwish,r,q⟩
end
section
variable{X:Cx}{st:Stmt}{rest:List Stmt}{t u:TS}{e:Expr}{te:TE}{pos:Pos}
noncomputable def iY:TS:=λD σ H=>D.nx σ H
noncomputable def Hb(t u:TS):TS:=λD σ H=>t {D with nx:=u D} σ H
theorem vS:PSs X [] iY:=λ_ _ σ H _ I h=>wpAny_execs_nil ⟨σ,H,I,h⟩
theorem Ab(h1:PS X st t)(h2:PSs X rest u):PSs X (st::rest) (Hb t u):=by
 intro pins s σ H D I h;refine wpAny_execs_cons (thn (h1 pins s σ H {D with nx:=u D} I h) λf s1 q=>?_);cases f with
 |next=>
  obtain⟨σ',H',I',q⟩:=q;exact h2 pins s1 σ' H' D I' q
 |ret v=>exact q
 |brk=>exact q
 |cont=>exact q
noncomputable def CP:TS:=λD σ H=>D.bk σ H
noncomputable def F7:TS:=λD σ H=>D.ct σ H
theorem DV:PS X (.Pass pos) iY:=λ_ _ σ H _ I h=>wpAny_Pass ⟨σ,H,I,h⟩
theorem wF:PS X (.Break pos) CP:=λ_ _ σ H _ I h=>wpAny_Break ⟨σ,H,I,h⟩
theorem Fu:PS X (.Continue pos) F7:=λ_ _ σ H _ I h=>wpAny_Continue ⟨σ,H,I,h⟩
theorem Inv.quiet{pins:List (Addr×Obj)}{σ:St}{H:Hp}{s:af}(I:Inv X pins σ H s):interactive X.env=false:=by simp[interactive,I.ok.kind]
noncomputable def Ff(te:TE):TS:=λD σ H=>te σ H λ_ H1=>D.nx σ H1
theorem jE(he:PE X e te)(hs:swapsWith e none pos.line X.env=pure false:=by rfl):PS X (.Expr e pos) (Ff te):=by
 intro pins s σ H D I h;exact wpAny_Expr_any (thn (he pins s σ H _ I h) λv s1 ⟨x,H1,I1,r1,q1⟩=>⟨σ,H1,I1,q1⟩) I.quiet hs
noncomputable def FG(te:TE):TS:=λD σ H=>te σ H D.rt
theorem rz(he:PE X e te):PS X (.Return (some e) pos) (FG te):=by
 intro pins s σ H D I h;exact wpAny_Return_some (thn (he pins s σ H _ I h) λv s1 ⟨x,H1,I1,r1,q1⟩=>⟨x,σ,H1,I1,r1,q1⟩)
noncomputable def F6:TS:=λD _ H=>D.rt .non H
theorem Hu:PS X (.Return none pos) F6:=λ_ _ σ H _ I h=>wpAny_Return_none ⟨.non,σ,H,I,rfl,h⟩
noncomputable def jR(c:TT)(t u:TS):TS:=λD σ H=>c σ H λb H1=>if b=true then t D σ H1 else u D σ H1
theorem Eu{c:Expr}{a b:List Stmt}{tc:TT}(hc:PT X c tc)(ha:PSs X a t)(hb:PSs X b u):PS X (.If c a b pos) (jR tc t u):=by
 intro pins s σ H D I h;refine wpAny_If (thn (hc pins s σ H _ I h) λd s1 ⟨H1,I1,q1⟩=>?_);cases d with
 |true=>exact ha pins s1 σ H1 D I1 q1
 |false=>exact hb pins s1 σ H1 D I1 q1
end
abbrev TG:=V->St->Hp->(St->Hp->Prop)->Prop
abbrev TGs:=List V->St->Hp->(St->Hp->Prop)->Prop
noncomputable def PG(X:Cx)(target:Expr)(t:TG):Prop:=
 ∀(pins:List (Addr×Obj)) (s:af) (σ:St) (H:Hp) (v:V) (u:ae) (Q:St->Hp->Prop),Inv X pins σ H s->RelV v u->t v σ H Q ->
  aq (ao X.prog X.w) X.A (assign target X.env u) (λ_ s'=>∃σ' H',Inv X pins σ' H' s'/\Q σ' H') X.xe s
noncomputable def PGs(X:Cx)(ts:List Expr)(t:TGs):Prop:=
 ∀(pins:List (Addr×Obj)) (s:af) (σ:St) (H:Hp) (vs:List V) (us:List ae) (Q:St->Hp->Prop),Inv X pins σ H s->Vals vs us->t vs σ H Q ->
  aq (ao X.prog X.w) X.A (assignInOrder ((assignEach ts X.env).map (·.2)) us) (λ_ s'=>∃σ' H',Inv X pins σ' H' s'/\Q σ' H') X.xe s
abbrev nO:=V->V->V->Hp->(Hp->Prop)->Prop
noncomputable def gO(X:Cx)(t:nO):Prop:=
 ∀(pins:List (Addr×Obj)) (s:af) (σ:St) (H:Hp) (o i v:V) (ov iv u:ae) (Q:Hp->Prop),Inv X pins σ H s->RelV o ov->RelV i iv->RelV v u->t o i v H Q ->
  aq (ao X.prog X.w) X.A (setItem ov iv u) (λ_ s'=>∃H',Inv X pins σ H' s'/\Q H') X.xe s
section
variable{X:Cx}{pos:Pos}
noncomputable def fX(i:Nat):TG:=λv σ H Q=>Q (σ.set i (some v)) H
theorem vq{i:Nat}{x:Str}(hN:X.N.Nodup)(hi:X.N[i]? = some x)(hx:Loc X.env.scope x)(hf:X.fn x=true\/X.env.scope.names.lookup x=some .local:=by first|exact .inl rfl|exact .inr rfl|assumption):PG X (.Name x pos) (fX i):=by
 intro pins s σ H v u Q I r h;exact wpAny_assign_Name (oG I hN hi hx r (λs' I'=>⟨_,H,I',h⟩) hf)
noncomputable def pY:TGs:=λvs σ H Q=>vs=[]/\Q σ H
noncomputable def nS(t:TG)(u:TGs):TGs:=λvs σ H Q=>∃v r,vs=v::r/\t v σ H λσ' H'=>u r σ' H' Q
theorem AW:PGs X [] pY:=by
 intro pins s σ H vs us Q I r h;obtain⟨e,h⟩:=h;subst e;cases r;exact assignInOrder_nil ⟨σ,H,I,h⟩
theorem DL{e:Expr}{es:List Expr}{t:TG}{u:TGs}(h1:PG X e t)(h2:PGs X es u)
  (hs:(assignEach (e::es) X.env).map (·.2)=assign e X.env::(assignEach es X.env).map (·.2):=by rfl):PGs X (e::es) (nS t u):=by
 intro pins s σ H vs us Q I r h;obtain⟨v,vr,e1,h⟩:=h;subst e1;cases r with
 |cons r rr=>
  rw[hs];refine assignInOrder_cons (thn (h1 pins s σ H _ _ _ I r h) λ_ s1 ⟨σ1,H1,I1,q1⟩=>?_);exact h2 pins s1 σ1 H1 _ _ Q I1 rr q1
noncomputable def vm(K:aC)(n:Nat)(t:TGs):TG:=λv σ H Q=>∃a xs,v=.ref a/\SqT K H a xs/\xs.length=n/\t xs σ H Q
theorem CM{es:List Expr}{k:Nat}{t:TGs}{n:Nat}(hc:X.calm=true)(h:PGs X es t)
  (hn:(assignEach es X.env).length=n:=by rfl) (hst:(assignEach es X.env).findIdx? (·.1)=none:=by rfl):PG X (.Tuple es k pos) (vm X.K n t):=by
 intro pins s σ H v u Q I r hw;obtain⟨a,xs,e1,hq,hl,hw⟩:=hw;subst e1;cases r;obtain⟨its,rv,ht,hz⟩:=I.tuple hq;refine assign_Tuple_tuple (I.ok.hd hc) ht (by simp[hn,<-hl,rv.length]) hst λh' hx=>?_
 have I1:Inv X pins σ H {s with heap:=h'}:=I.kept (t':=s.toks) λb o e=>hx b o (a_ (aM e)) e
 exact h pins _ σ H xs _ Q I1 (by simpa using rv) hw
noncomputable def nU(to ti:TE)(t:nO):TG:=λv σ H Q=>to σ H λo H1=>ti σ H1 λi H2=>t o i v H2 λH3=>Q σ H3
theorem yx{o i:Expr}{to ti:TE}{t:nO}(ho:PE X o to)(hi:PE X i ti)(hs:gO X t)
  (ha:∀v,assign (.Subscript o i pos) X.env v=(do
   let ov <-holding [v] (eval o X.env)
   let iv <-holding [v,ov] (eval i X.env)
   standAt pos
   holding [v,ov,iv] (setItem ov iv v)
   release [v,ov,iv] []):=by intro _;rfl):PG X (.Subscript o i pos) (nU to ti t):=by
 intro pins s σ H v u Q I r h;rw[ha];refine ah (cc (thn (ho pins s σ H _ I h) λov s1 ⟨x,H1,I1,r1,q1⟩=>?_));refine ah (cc (thn (hi pins s1 σ H1 _ I1 q1) λiv s2 ⟨y,H2,I2,r2,q2⟩=>?_));refine ah (wpAny_standAt (ah (cc (thn (hs pins s2 σ H2 x y v ov iv u _ I2 r1 r2 r q2) λ_ s3 ⟨H3,I3,q3⟩=>?_))));exact wpAny_release ⟨σ,H3,I3,q3⟩
noncomputable def kf(te:TE)(g:TG):TS:=λD σ H=>te σ H λx H1=>g x σ H1 D.nx
theorem rN{tg e:Expr}{te:TE}{g:TG}(he:PE X e te)(hg:PG X tg g)(hs:swapsWithSole [tg] e pos.line X.env=pure false:=by rfl)(hw:swappedStores [tg] e X.env=pure none:=by rfl)
  (h1:(assignEach [tg] X.env).map (·.2)=[assign tg X.env]:=by rfl):PS X (.Assign [tg] e pos) (kf te g):=by
 intro pins s σ H D I h;refine wpAny_Assign_stores (thn (he pins s σ H _ I h) λv s1 ⟨x,H1,I1,r1,q1⟩=>?_) hs hw;rw[h1];exact thn (hg pins s1 σ H1 x v _ I1 r1 q1) λ_ s2 q=>q
theorem k9{i:Nat}{x:Str}{e:Expr}{te:TE}{pos':Pos}(hN:X.N.Nodup)(hi:X.N[i]? = some x)(hx:Loc X.env.scope x)(he:PE X e te)(hs:swapsWith e (some (.Name x pos')) pos.line X.env=pure false:=by rfl)(hf:X.fn x=true\/X.env.scope.names.lookup x=some .local:=by first|exact .inl rfl|exact .inr rfl|assumption) :
  PS X (.Assign [.Name x pos'] e pos) (kf te (fX i)):=by
 intro pins s σ H D I h;refine wpAny_Assign_Name (thn (he pins s σ H _ I h) λv s1 ⟨y,H1,I1,r1,q1⟩=>?_) hs;exact oG I1 hN hi hx r1 (λs2 I2=>⟨_,H1,I2,q1⟩) hf
end
section
variable{X:Cx}{pos:Pos}
noncomputable def yJ(c:TT)(tb:TS):TS:=λD σ H=>∃W:Nat->St->Hp->Prop,(∃m,W m σ H)/\∀m σ H,W m σ H ->
 c σ H λb H1=>if b=true then ∃N:St->Hp->Prop,(∀σ' H',N σ' H'->∃m',m'<m/\W m' σ' H')/\tb {D with nx:=N,ct:=N,bk:=D.nx} σ H1 else D.nx σ H1
theorem wR{c:Expr}{body:List Stmt}{tc:TT}{tb:TS}(hp:PassesOwn (ao X.prog X.w) X.A X.env X.xe)(hc:PT X c tc)(hb:PSs X body tb):PS X (.While c body [] pos) (yJ tc tb):=by
 intro pins s σ H D I h;obtain⟨W,⟨m0,w0⟩,turn⟩:=h;refine wpAny_While (codeAny_whileLoop (λn s'=>∃σ' H',Inv X pins σ' H' s'/\W n σ' H') ?_ m0 ⟨σ,H,I,w0⟩);rintro n s1 ⟨σ1,H1,I1,w1⟩;refine wpAny_passesOwn hp (thn (hc pins s1 σ1 H1 _ I1 (turn n σ1 H1 w1)) λb s2 ⟨H2,I2,q2⟩=>?_);cases b with
 |true=>
  obtain⟨N,hN,q2⟩:=q2;rw[if_pos rfl];refine wpAny_passesOwn hp (thn (hb pins s2 σ1 H2 _ I2 q2) λf s3 q3=>?_);cases f with
  |next=>
   obtain⟨σ3,H3,I3,n3⟩:=q3;obtain⟨m',hm,w3⟩:=hN σ3 H3 n3;exact⟨m',hm,σ3,H3,I3,w3⟩
  |cont=>
   obtain⟨σ3,H3,I3,n3⟩:=q3;obtain⟨m',hm,w3⟩:=hN σ3 H3 n3;exact⟨m',hm,σ3,H3,I3,w3⟩
  |brk=>exact q3
  |ret v=>exact q3
 |false=>
  rw[if_neg b9];exact wpAny_execs_nil ⟨σ1,H2,I2,q2⟩
end
structure It where
 go:Nat->Hp->Prop
 yld:Nat->Hp->V->Hp->Prop
 stop:Nat->Hp->Prop
noncomputable def eA(X:Cx)(pins:List (Addr×Obj))(H:Hp)(b:Addr):Prop:=
 H b=none/\b≠X.env.locals/\b∉X.fs/\(b∈X.ex\/X.s₀.heap.objs.size<=b)/\(∀x c,X.env.cells.lookup x=some c->c≠b)/\∀p∈X.pn++pins,p.1≠b
theorem Inv.fpOk{X:Cx}{pins:List (Addr×Obj)}{σ:St}{H H':Hp}{s:af}{b:Addr}(I:Inv X pins σ H s)(hb:s.heap.objs.size<=b)(hn:H' b=none):eA X pins H' b:=by
 refine⟨hn,Nat.ne_of_gt (bG I.lt hb),I.nofs hb,.inr (bB I.sz hb),λx c e z=>?_,λp hp z=>?_⟩
 ·obtain⟨v,q⟩:=I.cell x c e;exact absurd (bG q.lt (by rw[z];exact hb)) (bQ _)
 ·exact absurd (bG (aM (I.pin p hp).1) (by rw[z];exact hb)) (bQ _)
structure Turn(P:aA)(w:au)(K:aC)(tg:Expr)(J:It)(fp:List Addr)(it:Addr)(tn:Nat->Heap->Prop):Prop where
 mem:it∈fp
 obj:∀i h,tn i h->∀b∈fp,∃o,h.get? b=some o/\∀v,o.data≠.cell v
 keep:∀i h h',tn i h->(∀b∈fp,∀o,h.get? b=some o->h'.get? b=some o)->tn i h'
 item:∀(X:Cx),X.prog=P->X.w=w->X.K=K->X.calm=true->∀(i:Nat) (pins:List (Addr×Obj)) (s:af) (σ:St) (H:Hp) (E:ae->af->Prop),Inv X pins σ H s->(∀b∈fp,eA X pins H b)->tn i s.heap->J.go i H ->
  aq (ao P w) X.A (pyNext (.ref it)) (λr s1=>∃u,r=some u /\
   aq (ao P w) X.A (letOwnedTupleGo tg (.ref it) u) (λ_ s2=>∃x H',Inv X pins σ H' s2/\RelV x u/\J.yld i H x H'/\tn (i+1) s2.heap/\∀b∈fp,H' b=none) E s1) E s
 done:∀(X:Cx),X.prog=P->X.w=w->X.K=K->X.calm=true->∀(i:Nat) (pins:List (Addr×Obj)) (s:af) (σ:St) (H:Hp) (E:ae->af->Prop),Inv X pins σ H s->(∀b∈fp,eA X pins H b)->tn i s.heap->J.stop i H ->
  aq (ao P w) X.A (pyNext (.ref it)) (λr s1=>r=none/\Inv X pins σ H s1) E s
 self:∀(A:aB) (i:Nat) (s:af) (Q:ae->af->Prop) (E:ae->af->Prop),tn i s.heap->Q (.ref it) s->aq (ao P w) A (pyIter (.ref it)) Q E s
abbrev TI:=St->Hp->(It->Hp->Prop)->Prop
noncomputable def PIE(X:Cx)(pins:List (Addr×Obj))(σ:St)(tg:Expr)(R:It->Hp->Prop)(itv:ae)(s2:af):Prop:=
 ∃(it:Addr) (fp:List Addr) (tn:Nat->Heap->Prop) (J:It) (H':Hp),itv=.ref it/\Inv X pins σ H' s2/\Turn X.prog X.w X.K tg J fp it tn/\tn 0 s2.heap/\(∀b∈fp,eA X pins H' b)/\R J H'
noncomputable def PI(X:Cx)(tg iter:Expr)(wi:TI):Prop:=
 ∀(pins:List (Addr×Obj)) (s:af) (σ:St) (H:Hp) (R:It->Hp->Prop),Inv X pins σ H s->wi σ H R ->
  aq (ao X.prog X.w) X.A (eval iter X.env) (λv s1=>aq (ao X.prog X.w) X.A (pyIter v) (PIE X pins σ tg R) X.xe s1) X.xe s
theorem mq{M:Model}{A:aB}{E:ae->af->Prop}{s:af}{tg:Expr}{it:Addr}{u:ae}{o:Obj}{n:String}{vs:Array ae}{Q:Unit->af->Prop}(ho:s.heap.get? it=some o)(hc:o.cls=.type n)(hd:o.data=.fields vs)
  (hn:["enumerate","zip","dict_itemiterator","dict_reverseitemiterator","odict_iterator","itertools.zip_longest","itertools.pairwise"].contains n=false) (hQ:Q () s):aq M A (letOwnedTupleGo tg (.ref it) u) Q E s:=by
 unfold letOwnedTupleGo;cases tg<;>first
  |exact aE hQ
  | (cases u<;>first
    |exact aE hQ
    | (refine ah (wpAny_load ho ?_)
       rw[hc,hd];show aq M A (if (["enumerate","zip","dict_itemiterator","dict_reverseitemiterator","odict_iterator","itertools.zip_longest","itertools.pairwise"].contains n&&vs[0]? == some (rawInt _))=true then _ else _) Q E s;rw[if_neg (by intro h;rw[hn,Bool.false_and]at h;cases h)];exact aE hQ))
noncomputable def Itl(K:aC)(a:Addr):It:=
 ⟨λi H=>∃xs x,SqL K H a xs/\xs[i]? = some x,λi H x H'=>H'=H/\∀xs,SqL K H a xs->xs[i]? = some x,λi H=>∃xs,SqL K H a xs/\xs.length<=i⟩
noncomputable def Itt(K:aC)(a:Addr):It:=
 ⟨λi H=>∃xs x,SqT K H a xs/\xs[i]? = some x,λi H x H'=>H'=H/\∀xs,SqT K H a xs->xs[i]? = some x,λi H=>∃xs,SqT K H a xs/\xs.length<=i⟩
noncomputable def Itr(lo:Int)(n:Nat):It:=⟨λi _=>i<n,λi H x H'=>H'=H/\x=.int (lo+i),λi _=>n<=i⟩
theorem FJ{P:aA}{w:au}{K:aC}{tg:Expr}(a it:Addr):Turn P w K tg (Itl K a) [it] it (λi h=>h.IsListIter it a i) where
 mem:=by simp
 obj:=λi h st b hb=>by
  have e:b=it:=by simpa using hb
  subst e;obtain⟨o,e,c,d⟩:=st;exact⟨o,e,λv z=>by rw[d]at z;cases z⟩
 keep:=λi h h' st k=>st.at λo e=>k it (by simp) o e
 item:=by
  intro X hP hw hK hc i pins s σ H E I hf st hg;subst hP hw hK;obtain⟨xs,x,hq,hx⟩:=hg;obtain⟨its,rv,p,hz⟩:=I.list hq;obtain⟨u,hu,ru⟩:=rv.get hx;obtain⟨f0,f1,f2,f3,f4,f5⟩:=hf it (by simp);refine wpAny_pyNext_list_item st p.isList (x:=u) (by simpa using hu) λh' st' sb=>?_
  have I1:Inv X pins σ H {s with heap:=h'}:=I.turned (t':=s.toks) (λb o hb e=>(sb.2 b hb).trans e) f0 f1 f3 f4 f5;obtain⟨o,e,c,d⟩:=id st';exact⟨u,rfl,mq (s:={s with heap:=h'}) e c d (by decide) ⟨x,H,I1,ru,⟨rfl,λys hy=>by rw[I.list_inj hy hq];exact hx⟩,st',λb hb=>(hf b hb).1⟩⟩
 done:=by
  intro X hP hw hK hc i pins s σ H E I hf st hg;subst hP hw hK;obtain⟨xs,hq,hx⟩:=hg;obtain⟨its,rv,p,hz⟩:=I.list hq;obtain⟨f0,f1,f2,f3,f4,f5⟩:=hf it (by simp);have hl:=rv.length;exact wpAny_pyNext_list_end (I.ok.hd hc) st p.isList (by simp;lia) λh' eb=>⟨rfl,I.turned (t':=s.toks) (λb o hb e=>eb b o hb e) f0 f1 f3 f4 f5⟩
 self:=λ_ _ _ _ _ st h=>wpAny_pyIter_listiter st h
theorem Gw{P:aA}{w:au}{K:aC}{tg:Expr}(a it:Addr):Turn P w K tg (Itt K a) [it] it (λi h=>h.IsTupleIter it a i) where
 mem:=by simp
 obj:=λi h st b hb=>by
  have e:b=it:=by simpa using hb
  subst e;obtain⟨o,e,c,d⟩:=st;exact⟨o,e,λv z=>by rw[d]at z;cases z⟩
 keep:=λi h h' st k=>st.at λo e=>k it (by simp) o e
 item:=by
  intro X hP hw hK hc i pins s σ H E I hf st hg;subst hP hw hK;obtain⟨xs,x,hq,hx⟩:=hg;obtain⟨its,rv,p,hz⟩:=I.tuple hq;obtain⟨u,hu,ru⟩:=rv.get hx;obtain⟨f0,f1,f2,f3,f4,f5⟩:=hf it (by simp);refine wpAny_pyNext_tuple_item st (show s.heap.IsTuple a its.toArray from p) (x:=u) (by simpa using hu) λh' st' sb=>?_
  have I1:Inv X pins σ H {s with heap:=h'}:=I.turned (t':=s.toks) (λb o hb e=>(sb.2 b hb).trans e) f0 f1 f3 f4 f5;obtain⟨o,e,c,d⟩:=id st';exact⟨u,rfl,mq (s:={s with heap:=h'}) e c d (by decide) ⟨x,H,I1,ru,⟨rfl,λys hy=>by rw[I.tuple_inj hy hq];exact hx⟩,st',λb hb=>(hf b hb).1⟩⟩
 done:=by
  intro X hP hw hK hc i pins s σ H E I hf st hg;subst hP hw hK;obtain⟨xs,hq,hx⟩:=hg;obtain⟨its,rv,p,hz⟩:=I.tuple hq;obtain⟨f0,f1,f2,f3,f4,f5⟩:=hf it (by simp);have hl:=rv.length;exact wpAny_pyNext_tuple_end (I.ok.hd hc) st (show s.heap.IsTuple a its.toArray from p) (by simp;lia) λh' eb=>⟨rfl,I.turned (t':=s.toks) (λb o hb e=>eb b o hb e) f0 f1 f3 f4 f5⟩
 self:=λ_ _ _ _ _ st h=>wpAny_pyIter_tupleiter st h
theorem yv{P:aA}{w:au}{K:aC}{tg:Expr}(it:Addr)(lo:Int)(n:Nat):Turn P w K tg (Itr lo n) [it] it (λi h=>IsRangeIter h it (lo+(i:Nat) * 1) ((n:Int)-(i:Nat)) 1) where
 mem:=by simp
 obj:=λi h st b hb=>by
  have e:b=it:=by simpa using hb
  subst e;exact⟨_,st,λv z=>by
   have z':Data.fields _=Data.cell v:=z;cases z'⟩
 keep:=λi h h' st k=>k it (by simp) _ st
 item:=by
  intro X hP hw hK hc i pins s σ H E I hf st hg;subst hP hw hK;obtain⟨f0,f1,f2,f3,f4,f5⟩:=hf it (by simp);have W:=Walks.range (prog:=X.prog) (w:=X.w) (I.ok.hd hc) it lo 1 n;refine W.item i s _ _ hg st λv h' tk hv st' kk=>?_
  obtain⟨t,rfl⟩:=hv;have I1:Inv X pins σ H {s with heap:=h',toks:=tk}:=I.turned (λb o hb e=>kk b o (by simpa using hb) e) f0 f1 f3 f4 f5;refine⟨_,rfl,mq (s:={s with heap:=h',toks:=tk}) (n:="range_iterator") st' rfl rfl (by decide) ⟨.int (lo+i),H,I1,⟨t,?_⟩,⟨rfl,rfl⟩,st',λb hb=>(hf b hb).1⟩⟩;rw[Int.mul_one]
 done:=by
  intro X hP hw hK hc i pins s σ H E I hf st hg;subst hP hw hK;obtain⟨f0,f1,f2,f3,f4,f5⟩:=hf it (by simp);exact wpAny_pyNext_range_end (I.ok.hd hc) st (by have:n<=i:=hg;lia) λh' eb=>⟨rfl,I.turned (t':=s.toks) (λb o hb e=>eb b o hb e) f0 f1 f3 f4 f5⟩
 self:=λ_ _ _ _ _ st h=>wpAny_pyIter_rangeiter st h
section
variable{X:Cx}{tg:Expr}
noncomputable def xx(K:aC)(tl:TE):TI:=λσ H R=>tl σ H λx H1=>∃a,x=.ref a/\(∃xs,SqL K H1 a xs)/\R (Itl K a) H1
noncomputable def vC(K:aC)(tl:TE):TI:=λσ H R=>tl σ H λx H1=>∃a,x=.ref a/\(∃xs,SqT K H1 a xs)/\R (Itt K a) H1
theorem C9{l:Expr}{tl:TE}(hl:PE X l tl):PI X tg l (xx X.K tl):=by
 intro pins s σ H R I h;refine thn (hl pins s σ H _ I h) λv s1 ⟨x,H1,I1,r1,q1⟩=>?_
 obtain⟨a,e,⟨xs,hq⟩,q⟩:=q1;subst e;cases r1;obtain⟨its,rv,p,hz⟩:=I1.list hq;refine wpAny_pyIter_list p.isList ?_;refine⟨s1.heap.objs.size,[s1.heap.objs.size],_,_,H1,rfl,I1.kept (t':=s1.toks) λb o e=>Heap.get?_push_of_some _ e,FJ a _,⟨_,Heap.get?_push_size _ rfl,rfl,rfl⟩,λb hb=>?_,q⟩;have e:b=s1.heap.objs.size:=by simpa using hb
 subst e;exact I1.fpOk (aG _) (I1.hok.fresh (aG _))
theorem D8{l:Expr}{tl:TE}(hl:PE X l tl):PI X tg l (vC X.K tl):=by
 intro pins s σ H R I h;refine thn (hl pins s σ H _ I h) λv s1 ⟨x,H1,I1,r1,q1⟩=>?_
 obtain⟨a,e,⟨xs,hq⟩,q⟩:=q1;subst e;cases r1;obtain⟨its,rv,p,hz⟩:=I1.tuple hq;refine wpAny_pyIter_tuple (show s1.heap.IsTuple a its.toArray from p) ?_;refine⟨s1.heap.objs.size,[s1.heap.objs.size],_,_,H1,rfl,I1.kept (t':=s1.toks) λb o e=>Heap.get?_push_of_some _ e,Gw a _,⟨_,Heap.get?_push_size _ rfl,rfl,rfl⟩,λb hb=>?_,q⟩;have e:b=s1.heap.objs.size:=by simpa using hb
 subst e;exact I1.fpOk (aG _) (I1.hok.fresh (aG _))
theorem o8{pins:List (Addr×Obj)}{σ:St}{H:Hp}{s:af}{R:It->Hp->Prop}{E:ae->af->Prop}{lo hi:Int}{t u v:Tok}{tk:Nat}(I:Inv X pins σ H s)(h1:-(2^62)<=lo)(h2:lo<2^62)(h3:-(2^62)<=hi)(h4:hi<2^62)
  (q:R (Itr lo (hi-lo).toNat) H):aq (ao X.prog X.w) X.A (pyIter (.ref s.heap.objs.size)) (PIE X pins σ tg R) E {s with heap:=s.heap.push {cls:=.type "range",data:=.fields #[.int lo t,.int hi u,.int 1 v]},toks:=tk}:=by
 refine wpAny_pyIter_range (IsRange.new ..) (small_one h1 h2 h3 h4) ?_;have I1:Inv X pins σ H {s with heap:=s.heap.push {cls:=.type "range",data:=.fields #[.int lo t,.int hi u,.int 1 v]},toks:=tk}:=I.kept λb o e=>Heap.get?_push_of_some _ e
 refine⟨(s.heap.push {cls:=.type "range",data:=.fields #[.int lo t,.int hi u,.int 1 v]}).objs.size,[(s.heap.push {cls:=.type "range",data:=.fields #[.int lo t,.int hi u,.int 1 v]}).objs.size],_,_,H,rfl,
  I1.kept (t':=tk) λb o e=>Heap.get?_push_of_some _ e,yv _ lo (hi-lo).toNat,?_,λb hb=>?_,q⟩
 ·have e1:lo+((0:Nat):Int) * 1=lo:=by simp
  have e2:(((hi-lo).toNat:Nat):Int)-((0:Nat):Int)=Builtin.Range.rangeSize lo hi 1:=by rw[rangeSize_one];split<;>lia
  show IsRangeIter _ _ (lo+((0:Nat):Int) * 1) ((((hi-lo).toNat:Nat):Int)-((0:Nat):Int)) 1;rw[e1,e2];exact Heap.get?_push_size _ rfl
 ·have e:b=(s.heap.push {cls:=.type "range",data:=.fields #[.int lo t,.int hi u,.int 1 v]}).objs.size:=by simpa using hb
  subst e;exact I1.fpOk (aG _) (I1.hok.fresh (aG _))
noncomputable def G5(ta:TA):TI:=λσ H R=>ta σ H λvs H1=>∃j:Int,vs=[.int j]/\-(2^62)<=j/\j<2^62/\R (Itr 0 j.toNat) H1
noncomputable def Hl(ta:TA):TI:=λσ H R=>ta σ H λvs H1=>∃i j:Int,vs=[.int i,.int j]/\(-(2^62)<=i/\i<2^62/\-(2^62)<=j/\j<2^62)/\R (Itr i (j-i).toNat) H1
theorem yZ{a:Expr}{ta:TA}{p pos:Pos}(hg:Gl X "range")(hm:X.mg "range" = none)(ha:PA X [a] ta)(hs:aY [a] X.env=[(false,eval a X.env)]:=by rfl):PI X tg (.Call (.Name "range" p) [a] [] pos) (G5 ta):=by
 intro pins s σ H R I h;refine Call_ (fC I hg hm boot_range (fT (thn (ha pos pins s σ H _ I h) λus s1 ⟨vs,H1,I1,r1,q1⟩=>?_) hs rfl));obtain⟨j,e,q1,q2,q⟩:=q1;subst e;cases r1 with
 |cons r rr=>
  cases rr;obtain⟨t,rfl⟩:=r;exact call_range_1 (o8 I1 (by lia) (by lia) q1 q2 (by simpa using q))
theorem Bc{a b:Expr}{ta:TA}{p pos:Pos}(hg:Gl X "range")(hm:X.mg "range" = none)(ha:PA X [a,b] ta)(hs:aY [a,b] X.env=[(false,eval a X.env),(false,eval b X.env)]:=by rfl)(hs2:aY [b] X.env=[(false,eval b X.env)]:=by rfl) :
  PI X tg (.Call (.Name "range" p) [a,b] [] pos) (Hl ta):=by
 intro pins s σ H R I h;refine Call_ (fC I hg hm boot_range (fT (thn (ha pos pins s σ H _ I h) λus s1 ⟨vs,H1,I1,r1,q1⟩=>?_) (by rw[hs,hs2]) (by rw[hs2];rfl)));obtain⟨i,j,e,⟨q1,q2,q3,q4⟩,q⟩:=q1;subst e;cases r1 with
 |cons r rr=>
  cases rr with
  |cons r' rr=>
   cases rr;obtain⟨t,rfl⟩:=r;obtain⟨t',rfl⟩:=r';exact call_range_2 (o8 I1 q1 q2 q3 q4 q)
noncomputable def vD(wi:TI)(g:TG)(tb:TS):TS:=λD σ H=>wi σ H λJ H1=>∃W:Nat->Nat->St->Hp->Prop,(∃m,W 0 m σ H1)/\∀i m σ H,W i m σ H ->
 (J.stop i H/\D.nx σ H)\/(J.go i H/\∃N:St->Hp->Prop,(∀σ' H',N σ' H'->∃m',m'<m/\W (i+1) m' σ' H')/\∀x H',J.yld i H x H'->g x σ H' λσ2 H2=>tb {D with nx:=N,ct:=N,bk:=D.nx} σ2 H2)
noncomputable def jj(fp:List Addr)(h:Heap):List (Addr×Obj):=fp.filterMap λb=>(h.get? b).map λo=>(b,o)
theorem kh{fp:List Addr}{h:Heap}{b:Addr}{o:Obj}(hb:b∈fp)(e:h.get? b=some o):(b,o)∈jj fp h:=List.mem_filterMap.mpr ⟨b,hb,by rw[e];rfl⟩
theorem CJ{fp:List Addr}{h:Heap}{p:Addr×Obj}(hp:p∈jj fp h):p.1∈fp/\h.get? p.1=some p.2:=by
 obtain⟨b,hb,e⟩:=List.mem_filterMap.mp hp;cases q:h.get? b with
 |none=>rw[q]at e;cases e
 |some o=>
  rw[q]at e;have e':(b,o)=p:=bT e;subst e';exact⟨hb,q⟩
theorem Inv.pinned{pins:List (Addr×Obj)}{σ:St}{H:Hp}{s:af}{fp:List Addr}(I:Inv X pins σ H s)(hf:∀b∈fp,eA X pins H b)(ho:∀b∈fp,∃o,s.heap.get? b=some o/\∀v,o.data≠.cell v):Inv X (pins++jj fp s.heap) σ H s:=
 I.pins_of λp hp=>(List.mem_append.mp hp).elim (λz=>I.pin p (b8 _ z)) λz=>by
  obtain⟨hb,e⟩:=CJ z;obtain⟨f0,f1,f2,_⟩:=hf p.1 hb;obtain⟨o,e',d⟩:=ho p.1 hb;rw[e]at e';cases e';exact⟨e,f0,f1,f2,d⟩
theorem Inv.unpinned{pins pl:List (Addr×Obj)}{σ:St}{H:Hp}{s:af}(I:Inv X (pins++pl) σ H s):Inv X pins σ H s:=I.pins_of λp hp=>I.pin p (b8 _ (List.mem_append_left _ hp))
theorem BG{iter:Expr}{body:List Stmt}{wi:TI}{g:TG}{tb:TS}{pos:Pos}(hp:PassesOwn (ao X.prog X.w) X.A X.env X.xe)(hc:X.calm=true)(hi:PI X tg iter wi)(hg:PG X tg g)(hb:PSs X body tb)
  (hs:∀x,foldedSetIterable iter X.env x=pure x:=by intro _;rfl):PS X (.For tg iter body [] pos) (vD wi g tb):=by
 intro pins s σ H D I h;refine wpAny_For (thn (hi pins s σ H _ I h) λv s1 h1=>thn h1 λitv s2 h2=>?_) hs;obtain⟨it,fp,tn,J,H2,e,I2,T,st2,f2,W,⟨m0,w0⟩,turn⟩:=h2;subst e
 -- what stays true of the iterator's objects through the loop
 have stat:∀{H':Hp},(∀b∈fp,H' b=none)->∀b∈fp,eA X pins H' b:=λhn b hb=>⟨hn b hb,(f2 b hb).2⟩
 refine codeAny_forLoop_any (λn s'=>∃i σ' H',Inv X pins σ' H' s'/\tn i s'.heap/\(∀b∈fp,H' b=none)/\W i n σ' H') ?_ m0 ⟨0,σ,H2,I2,st2,λb hb=>(f2 b hb).1,w0⟩;rintro n s3 ⟨i,σ3,H3,I3,st3,fr3,w3⟩;rcases turn i n σ3 H3 w3 with ⟨stop,qn⟩|⟨go,N,hN,step⟩
 ·refine wpAny_passesOwn hp (thn (T.done X rfl rfl rfl hc i pins s3 σ3 H3 X.xe I3 (stat fr3) st3 stop) λr s4 ⟨hr,I4⟩=>?_);subst hr;exact wpAny_execs_nil ⟨σ3,H3,I4,qn⟩
 ·refine wpAny_passesOwn hp (thn (T.item X rfl rfl rfl hc i pins s3 σ3 H3 X.xe I3 (stat fr3) st3 go) λr s4 ⟨u,hr,h4⟩=>?_);subst hr;refine wpAny_passesOwn hp (thn h4 λ_ s5 ⟨x,H5,I5,r5,y5,st5,fr5⟩=>?_);have I5':=I5.pinned (stat fr5) (T.obj _ _ st5);refine wpAny_passesOwn hp (thn (hg _ s5 σ3 H5 x u _ I5' r5 (step x H5 y5)) λ_ s6 ⟨σ6,H6,I6,q6⟩=>?_);refine wpAny_passesOwn hp (thn (hb _ s6 σ6 H6 _ I6 q6) λf s7 q7=>?_);have again:∀{σ7:St}{H7:Hp},Inv X (pins++jj fp s5.heap) σ7 H7 s7->N σ7 H7->∃m,m<n/\∃i σ' H',Inv X pins σ' H' s7/\tn i s7.heap/\(∀b∈fp,H' b=none)/\W i m σ' H':=λ{σ7 H7} I7 n7=>by
   obtain⟨m',hm,w7⟩:=hN σ7 H7 n7;refine⟨m',hm,i+1,σ7,H7,I7.unpinned,T.keep _ _ _ st5 λb hb o e=>(I7.pin (b,o) (b8 _ (b8 _ (kh hb e)))).1,λb hb=>?_,w7⟩;obtain⟨o,e,d⟩:=T.obj _ _ st5 b hb;exact(I7.pin (b,o) (b8 _ (b8 _ (kh hb e)))).2.1
  cases f with
  |next=>obtain⟨σ7,H7,I7,n7⟩:=q7;exact again I7 n7
  |cont=>obtain⟨σ7,H7,I7,n7⟩:=q7;exact again I7 n7
  |brk=>obtain⟨σ7,H7,I7,q7⟩:=q7;exact⟨σ7,H7,I7.unpinned,q7⟩
  |ret v=>obtain⟨x7,σ7,H7,I7,r7,q7⟩:=q7;exact⟨x7,σ7,H7,I7.unpinned,r7,q7⟩
end
abbrev R2:=V->V->Hp->VK->Prop
noncomputable def OpR(X:Cx)(f:ae->ae->Sem ae)(r:R2):Prop:=
 ∀(pins:List (Addr×Obj)) (s:af) (σ:St) (H:Hp) (x y:V) (v u:ae) (Q:VK),Inv X pins σ H s->RelV x v->RelV y u->r x y H Q ->
  aq (ao X.prog X.w) X.A (f v u) (EP X pins σ Q) X.xe s
noncomputable def UnR(X:Cx)(f:ae->Sem ae)(r:V->Hp->VK->Prop):Prop:=
 ∀(pins:List (Addr×Obj)) (s:af) (σ:St) (H:Hp) (x:V) (v:ae) (Q:VK),Inv X pins σ H s->RelV x v->r x H Q ->
  aq (ao X.prog X.w) X.A (f v) (EP X pins σ Q) X.xe s
noncomputable def zg(X:Cx)(f:ae)(r:List V->Hp->VK->Prop):Prop:=
 ∀(pins:List (Addr×Obj)) (s:af) (σ:St) (H:Hp) (xs:List V) (us:List ae) (Q:VK),Inv X pins σ H s->Vals xs us->r xs H Q ->
  aq (ao X.prog X.w) X.A (call f us) (EP X pins σ Q) X.xe s
noncomputable def vt(X:Cx)(r:V->Hp->(Bool->Hp->Prop)->Prop):Prop:=
 ∀(pins:List (Addr×Obj)) (s:af) (σ:St) (H:Hp) (x:V) (v:ae) (Q:Bool->Hp->Prop),Inv X pins σ H s->RelV x v->r x H Q ->
  aq (ao X.prog X.w) X.A (truthy v) (TP X pins σ Q) X.xe s
noncomputable def tOp(r:R2)(ta tb:TE):TE:=λσ H Q=>ta σ H λx H1=>tb σ H1 λy H2=>r x y H2 Q
noncomputable def tUn(r:V->Hp->VK->Prop)(ta:TE):TE:=λσ H Q=>ta σ H λx H1=>r x H1 Q
noncomputable def rI(C:Int->Int->Prop)(g:Int->Int->V):R2:=λx y H Q=>∃i j,x=.int i/\y=.int j/\C i j/\Q (g i j) H
noncomputable def rI0(g:Int->Int->V):R2:=λx y H Q=>∃i j,x=.int i/\y=.int j/\Q (g i j) H
noncomputable def rU(g:Int->V):V->Hp->VK->Prop:=λx H Q=>∃i,x=.int i/\Q (g i) H
section
variable{X:Cx}{a b c:Expr}{ta tb tc:TE}{pos:Pos}
theorem mI(ha:PE X a ta)(hb:PE X b tb){pins:List (Addr×Obj)}{s:af}{σ:St}{H:Hp}{R:V->V->Hp->Prop}(I:Inv X pins σ H s)
  (h:ta σ H λx H1=>tb σ H1 λy H2=>R x y H2) {Q:ae->af->Prop}{f:ae->ae->Sem ae}
  (hf:∀v u s2 x y H2,Inv X pins σ H2 s2->RelV x v->RelV y u->R x y H2->aq (ao X.prog X.w) X.A (f v u) Q X.xe s2) :
  aq (ao X.prog X.w) X.A (eval a X.env) (λv s₁=>aq (ao X.prog X.w) X.A (eval b X.env) (λu s₂=>aq (ao X.prog X.w) X.A (f v u) Q X.xe s₂) X.xe s₁) X.xe s:=by
 refine thn (ha pins s σ H _ I h) λv s1 ⟨x,H1,I1,r1,q1⟩=>?_
 refine thn (hb pins s1 σ H1 _ I1 q1) λu s2 ⟨y,H2,I2,r2,q2⟩=>?_
 exact hf v u s2 x y H2 I2 r1 r2 q2
theorem w_{op:Operator}{r:R2}(ho:OpR X (binaryOp op) r)(ha:PE X a ta)(hb:PE X b tb):PE X (.BinOp a op b pos) (tOp r ta tb):=by
 intro pins s σ H Q I h;exact wpAny_BinOp (mI ha hb I h λv u s2 x y H2 I2 rx ry q=>ho pins s2 σ H2 x y v u Q I2 rx ry q)
theorem EB{op:UnaryOp}{r:V->Hp->VK->Prop}(ho:UnR X (unaryOp op) r)(ha:PE X a ta):PE X (.UnaryOp op a pos) (tUn r ta):=by
 intro pins s σ H Q I h;exact UnaryOp_ (thn (ha pins s σ H _ I h) λv s1 ⟨x,H1,I1,r1,q1⟩=>ho pins s1 σ H1 x v Q I1 r1 q1)
theorem opI{f:ae->ae->Sem ae}{C:Int->Int->Prop}{g:Int->Int->Int}
  (rule:∀(i j:Int) (t u:Tok) (s:af) (Q:ae->af->Prop) (E:ae->af->Prop),C i j->Q (.int (g i j) s.toks) {s with toks:=s.toks+1}->aq (ao X.prog X.w) X.A (f (.int i t) (.int j u)) Q E s) :
  OpR X f (rI C λi j=>.int (g i j)):=by
 intro pins s σ H x y v u Q I rx ry h;obtain⟨i,j,rfl,rfl,hc,q⟩:=h;obtain⟨t,rfl⟩:=rx;obtain⟨t',rfl⟩:=ry;exact rule i j t t' s _ _ hc ⟨.int (g i j),H,I.tok _,⟨_,rfl⟩,q⟩
theorem uK{f:ae->ae->Sem ae}{g:Int->Int->Int}
  (rule:∀(i j:Int) (t u:Tok) (s:af) (Q:ae->af->Prop) (E:ae->af->Prop),Q (.int (g i j) s.toks) {s with toks:=s.toks+1}->aq (ao X.prog X.w) X.A (f (.int i t) (.int j u)) Q E s) :
  OpR X f (rI0 λi j=>.int (g i j)):=by
 intro pins s σ H x y v u Q I rx ry h;obtain⟨i,j,rfl,rfl,q⟩:=h;obtain⟨t,rfl⟩:=rx;obtain⟨t',rfl⟩:=ry;exact rule i j t t' s _ _ ⟨.int (g i j),H,I.tok _,⟨_,rfl⟩,q⟩
theorem km{f:ae->ae->Sem ae}{g:Int->Int->Bool}
  (rule:∀(i j:Int) (t u:Tok) (s:af) (Q:ae->af->Prop) (E:ae->af->Prop),Q (.bool (g i j)) s->aq (ao X.prog X.w) X.A (f (.int i t) (.int j u)) Q E s) :
  OpR X f (rI0 λi j=>.bl (g i j)):=by
 intro pins s σ H x y v u Q I rx ry h;obtain⟨i,j,rfl,rfl,q⟩:=h;obtain⟨t,rfl⟩:=rx;obtain⟨t',rfl⟩:=ry;exact rule i j t t' s _ _ ⟨.bl (g i j),H,I,rfl,q⟩
noncomputable def m4(i j:Int):Prop:=(-(2^64)<i/\i<2^64)\/(-(2^64)<j/\j<2^64)
theorem m4.ok{i j:Int}(h:m4 i j):IntMulOk i j:=by
 rcases h with ⟨h1,h2⟩|⟨h1,h2⟩
 ·exact .of_left (intBits_le_64 h1 h2)
 ·exact .of_right (intBits_le_64 h1 h2)
theorem wc(k:Nat):(0:Int)<=2^k:=by
 rw[two_pow_cast];exact Int.natCast_nonneg _
theorem B6:OpR X (binaryOp .Add) (rI0 λi j=>.int (i+j)):=uK λ_ _ _ _ _ _ _ q=>add_int q
theorem yU:OpR X (binaryOp .Sub) (rI0 λi j=>.int (i-j)):=uK λ_ _ _ _ _ _ _ q=>sub_int q
theorem wN:OpR X (binaryOp .Mult) (rI m4 λi j=>.int (i * j)):=opI λ_ _ _ _ _ _ _ hc q=>mul_int q hc.ok
theorem vP:OpR X (binaryOp .Mod) (rI (λ_ j=>0<j) λi j=>.int (i%j)):=opI λi j _ _ _ _ _ hc q=>by
 have h1:(0:Int)<j:=hc;exact mod_int' (by lia) (by rw[Int.fmod_eq_emod_of_nonneg i (by lia)];exact q)
theorem FA:OpR X (binaryOp .RShift) (rI (λ_ j=>0<=j) λi j=>.int (i/2^j.toNat)):=opI λi j _ _ _ _ _ hc q=>
 rshift_int hc (by rw[Int.fdiv_eq_ediv_of_nonneg i (wc _)];exact q)
theorem unI{f:ae->Sem ae}{g:Int->Int}
  (rule:∀(i:Int) (t:Tok) (s:af) (Q:ae->af->Prop) (E:ae->af->Prop),Q (.int (g i) s.toks) {s with toks:=s.toks+1}->aq (ao X.prog X.w) X.A (f (.int i t)) Q E s) :
  UnR X f (rU λi=>.int (g i)):=by
 intro pins s σ H x v Q I rx h;obtain⟨i,rfl,q⟩:=h;obtain⟨t,rfl⟩:=rx;exact rule i t s _ _ ⟨.int (g i),H,I.tok _,⟨_,rfl⟩,q⟩
theorem En:UnR X (unaryOp .USub) (rU λi=>.int (-i)):=unI λ_ _ _ _ _ q=>neg_int q
end
section
variable{X:Cx}{a b c:Expr}{ta tb tc:TE}{pos:Pos}
theorem jN{pins:List (Addr×Obj)}{σ:St}{H:Hp}{s:af}{Q:VK}{k k':Bool}(I:Inv X pins σ H s)(q:Q (.bl k) H)(e:k=k'):EP X pins σ Q (.bool k') s:=by
 subst e;exact⟨.bl k,H,I,rfl,q⟩
theorem Cj:OpR X (bh .Lt) (rI0 λi j=>.bl (decide (i<j))):=km λ_ _ _ _ _ _ _ q=>lt_int q
theorem Gh:OpR X (bh .LtE) (rI0 λi j=>.bl (decide (i<=j))):=km λ_ _ _ _ _ _ _ q=>le_int q
theorem ES:OpR X (bh .Gt) (rI0 λi j=>.bl (decide (j<i))):=km λ_ _ _ _ _ _ _ q=>gt_int q
theorem xj:OpR X (bh .GtE) (rI0 λi j=>.bl (decide (j<=i))):=km λ_ _ _ _ _ _ _ q=>ge_int q
theorem Cz:OpR X (bh .Is) (λx y H Q=>y=.non/\Q (.bl (decide (x=.non))) H):=by
 intro pins s σ H x y v u Q I rx ry h;obtain⟨rfl,q⟩:=h;cases ry;refine is_none_gen (jN I q ?_);cases x<;>first
  | (cases rx;rfl)
  | (obtain⟨t,rfl⟩:=rx;rfl)
theorem Bu:OpR X (bh .IsNot) (λx y H Q=>y=.non/\Q (.bl (!decide (x=.non))) H):=by
 intro pins s σ H x y v u Q I rx ry h;obtain⟨rfl,q⟩:=h;cases ry;refine isnot_none_gen (jN I q ?_);cases x<;>first
  | (cases rx;rfl)
  | (obtain⟨t,rfl⟩:=rx;rfl)
theorem OpR.or{f:ae->ae->Sem ae}{r r':R2}(h:OpR X f r)(h':OpR X f r'):OpR X f (λx y H Q=>r x y H Q\/r' x y H Q):=by
 intro pins s σ H x y v u Q I rx ry q;rcases q with q|q
 ·exact h pins s σ H x y v u Q I rx ry q
 ·exact h' pins s σ H x y v u Q I rx ry q
theorem AY{op:CmpOp}{r:R2}(ho:OpR X (bh op) r)(ha:PE X a ta)(hb:PE X b tb)(hm:behindInMarks op b=false):PE X (.Compare a [op] [b] pos) (tOp r ta tb):=by
 intro pins s σ H Q I h;exact wpAny_Compare1 (mI ha hb I h λv u s2 x y H2 I2 rx ry q=>ho pins s2 σ H2 x y v u Q I2 rx ry q) hm
noncomputable def mL(t:TE):TT:=λσ H Q=>t σ H λx H'=>∃k,x=.bl k/\Q k H'
theorem wm{op:CmpOp}{r:R2}(ho:OpR X (bh op) r)(ha:PE X a ta)(hb:PE X b tb)(hm:behindInMarks op b=false):PT X (.Compare a [op] [b] pos) (mL (tOp r ta tb)):=by
 intro pins s σ H Q I h;refine wpAny_isTrue_Compare1 (thn (ha pins s σ H _ I h) λv s1 ⟨x,H1,I1,r1,q1⟩=>thn (hb pins s1 σ H1 _ I1 q1) λu s2 ⟨y,H2,I2,r2,q2⟩=>
  thn (ho pins s2 σ H2 x y v u _ I2 r1 r2 q2) λc s3 ⟨z,H3,I3,r3,k,e,q3⟩=>?_) hm
 subst e;cases r3;exact bR ⟨H3,I3,q3⟩
noncomputable def oU(r r':R2)(ta tb tc:TE):TE:=λσ H Q=>ta σ H λx H1=>tb σ H1 λy H2=>r x y H2 λz H3=>∃k,z=.bl k /\
 (if k=true then tc σ H3 λw' H4=>r' y w' H4 Q else Q (.bl false) H3)
theorem vx{op op':CmpOp}{r r':R2}(ho:OpR X (bh op) r)(ho':OpR X (bh op') r')(ha:PE X a ta)(hb:PE X b tb)(hc:PE X c tc)
  (hm:lastMarks [op,op'] [b,c]=false:=by with_unfolding_all rfl):PE X (.Compare a [op,op'] [b,c] pos) (oU r r' ta tb tc):=by
 intro pins s σ H Q I h;refine Compare_chain (thn (ha pins s σ H _ I h) λv s1 ⟨x,H1,I1,r1,q1⟩=>chain_link (thn (hb pins s1 σ H1 _ I1 q1) λu s2 ⟨y,H2,I2,r2,q2⟩=>
  thn (ho pins s2 σ H2 x y v u _ I2 r1 r2 q2) λd s3 ⟨z,H3,I3,r3,k,e,q3⟩=>?_)) hm
 subst e;cases r3;refine bR ?_;cases k with
 |false=>exact ite_ff ⟨.bl false,H3,I3,rfl,q3⟩
 |true=>exact ite_tt (chain_last (thn (hc pins s3 σ H3 _ I3 q3) λw' s4 ⟨z',H4,I4,r4,q4⟩=>ho' pins s4 σ H4 y z' u w' Q I4 r2 r4 q4))
theorem Gm{op op':CmpOp}{r r':R2}(ho:OpR X (bh op) r)(ho':OpR X (bh op') r')(ha:PE X a ta)(hb:PE X b tb)(hc:PE X c tc)
  (hm:lastMarks [op,op'] [b,c]=false:=by with_unfolding_all rfl):PT X (.Compare a [op,op'] [b,c] pos) (mL (oU r r' ta tb tc)):=by
 intro pins s σ H Q I h;refine isTrue_chain (thn (ha pins s σ H _ I h) λv s1 ⟨x,H1,I1,r1,q1⟩=>test_link (thn (hb pins s1 σ H1 _ I1 q1) λu s2 ⟨y,H2,I2,r2,q2⟩=>
  thn (ho pins s2 σ H2 x y v u _ I2 r1 r2 q2) λd s3 ⟨z,H3,I3,r3,k,e,q3⟩=>?_)) hm
 subst e;cases r3;refine bR ?_;cases k with
 |false=>
  obtain⟨k',e',q'⟩:=q3;cases e';exact ite_ff ⟨H3,I3,q'⟩
 |true=>
  refine ite_tt (test_last (thn (hc pins s3 σ H3 _ I3 q3) λw' s4 ⟨z',H4,I4,r4,q4⟩=>thn (ho' pins s4 σ H4 y z' u w' _ I4 r2 r4 q4) λd' s5 ⟨z2,H5,I5,r5,k2,e2,q5⟩=>?_));subst e2;cases r5;exact bR ⟨H5,I5,q5⟩
noncomputable def l0(K:aC)(x:V)(H:Hp)(k:Bool):Prop:=
 match x with
 | .non=>k=false
 | .bl b=>k=b
 | .int i=>k=(i != 0)
 | .str y=>y.length<=aP/\k=((y.length:Int) != 0)
 | .byt y=>y.size<=aP/\k=((y.size:Int) != 0)
 | .ref p=>(∃xs,SqL K H p xs/\k = !xs.isEmpty)\/(∃xs,SqT K H p xs/\k = !xs.isEmpty)\/∃kvs,H p=some (.dK kvs)/\k = !kvs.isEmpty
 |_=>False
theorem B_{κ:Type}{kvs:List (κ×V)}{vs:List (κ×ae)}(r:KV kvs vs):(!vs.isEmpty) = !kvs.isEmpty:=by
 cases r<;>rfl
theorem t8{xs:List V}{its:List ae}(r:Vals xs its):(!its.toArray.isEmpty) = !xs.isEmpty:=by
 cases r<;>simp
theorem h9:(aP:Nat)<2^63:=by rw[bu];decide
theorem Eg:vt X (λx H Q=>∃k,l0 X.K x H k/\Q k H):=by
 intro pins s σ H x v Q I rx h;obtain⟨k,e,q⟩:=h;have hl:=h9;have hs:aP=16777216:=bu;cases x with
 |non=>
  cases rx;have e':k=false:=e;subst e';exact truthy_none ⟨H,I,q⟩
 |bl b=>
  cases rx;have e':k=b:=e;subst e';exact bR ⟨H,I,q⟩
 |int i=>
  obtain⟨t,rfl⟩:=rx;have e':k=(i != 0):=e;subst e';exact PySem.P.truthy_int ⟨H,I,q⟩
 |str y=>
  obtain⟨t,rfl⟩:=rx;obtain⟨hy,e'⟩:y.length<=aP/\k=((y.length:Int) != 0):=e;subst e';exact PySem.P.truthy_str (by lia) ⟨H,I.tok _,q⟩
 |byt y=>
  obtain⟨t,rfl⟩:=rx;obtain⟨hy,e'⟩:y.size<=aP/\k=((y.size:Int) != 0):=e;subst e';exact PySem.W.truthy_bytes (by lia) ⟨H,I.tok _,q⟩
 |ref p=>
  cases rx;have e':(∃xs,SqL X.K H p xs/\k = !xs.isEmpty)\/(∃xs,SqT X.K H p xs/\k = !xs.isEmpty)\/∃kvs,H p=some (.dK kvs)/\k = !kvs.isEmpty:=e;rcases e' with ⟨xs,hx,e'⟩|⟨xs,hx,e'⟩|⟨kvs,hx,e'⟩
  ·subst e';obtain⟨its,r,pl,hz⟩:=I.list hx;have hlen:=r.length;exact wpAny_truthy_list pl.isList (by simp only[aV];lia) ⟨H,I.tok _,by rw[t8 r];exact q⟩
  ·subst e';obtain⟨its,r,pl,hz⟩:=I.tuple hx;have hlen:=r.length;exact truthy_tuple pl (by simp only[aV];lia) ⟨H,I.tok _,by rw[t8 r];exact q⟩
  ·subst e';obtain⟨hz,hS,vs,r,m⟩:kvs.length<=aP/\(p==sysModules)=false/\∃vs,KV kvs vs/\s.heap.DictOf (zK X.prog X.w) p vs:=I.hok p _ hx;have hlen:kvs.length=vs.length:=Paired.length r;exact wpAny_truthy_dict hS m (by lia) ⟨H,I.tok _,by rw[B_ r];exact q⟩
 |_=>exact(show False from e).elim
theorem CY(ha:PE X a ta)(he:∀whole,isTrue a X.env whole=(do let v <-whole;standAt a.pos;holding [v] (truthy v))) :
  PT X a (λσ H Q=>ta σ H λx H'=>∃k,l0 X.K x H' k/\Q k H'):=by
 intro pins s σ H Q I h;exact isTrue_plain (thn (ha pins s σ H _ I h) λv s1 ⟨x,H1,I1,r1,q1⟩=>Eg pins s1 σ H1 x v Q I1 r1 q1) (he _)
theorem vals1{x:V}{us:List ae}(r:Vals [x] us):∃u,us=[u]/\RelV x u:=by
 cases r with
 |cons r1 r2=>cases r2;exact⟨_,rfl,r1⟩
theorem vals2{x y:V}{us:List ae}(r:Vals [x,y] us):∃u w',us=[u,w']/\RelV x u/\RelV y w':=by
 cases r with
 |cons r1 r2=>
  cases r2 with
  |cons r3 r4=>cases r4;exact⟨_,_,rfl,r1,r3⟩
theorem Gk(hc:X.calm=true):zg X (.builtin "max") (λxs H Q=>∃i j,xs=[.int i,.int j]/\Q (.int (if j>i then j else i)) H):=by
 intro pins s σ H xs us Q I r h;obtain⟨i,j,rfl,q⟩:=h;obtain⟨u,w',rfl,⟨t,rfl⟩,⟨t',rfl⟩⟩:=vals2 r;refine max_two_ints (I.ok.hd hc) λh' tk k=>⟨_,H,I.kept k,?_,q⟩
 by_cases hj:j>i
 ·rw[if_pos hj,if_pos hj];exact⟨_,rfl⟩
 ·rw[if_neg hj,if_neg hj];exact⟨_,rfl⟩
theorem yL(hc:X.calm=true):zg X (.builtin "min") (λxs H Q=>∃i j,xs=[.int i,.int j]/\Q (.int (if j<i then j else i)) H):=by
 intro pins s σ H xs us Q I r h;obtain⟨i,j,rfl,q⟩:=h;obtain⟨u,w',rfl,⟨t,rfl⟩,⟨t',rfl⟩⟩:=vals2 r;refine min_two_ints (I.ok.hd hc) λh' tk k=>⟨_,H,I.kept k,?_,q⟩
 by_cases hj:j<i
 ·rw[if_pos hj,if_pos hj];exact⟨_,rfl⟩
 ·rw[if_neg hj,if_neg hj];exact⟨_,rfl⟩
end
structure nD(h:Heap)(x dx C:Addr)(mA:Str->Option ae):Prop where
 obj:h.get? x=some (PySem.W.instObj C dx)
 ns:h.Ns1 dx mA
 ne:dx≠x
theorem yP{h:Heap}{dx:Addr}{mA:Str->Option ae}(n:h.Ns1 dx mA):∃od,h.get? dx=some od/\∀name,PySem.W.lookIn name od=some (mA name):=by
 obtain⟨o,es,ep,ho,hd,hk,_,hm⟩:=n;refine⟨o,ho,λname=>?_⟩;have e:=hm name;unfold nsFind findBy at e;rw[<-Array.find?_toList]at e;unfold PySem.W.lookIn;rw[hd];dsimp only;split
 ·rename_i y q
  rw[q]at e;exact congrArg some e
 ·rename_i q
  rw[q]at e;have a:es.toList.any (·.refKey)=false:=by
   rw[List.any_eq_false];intro y hy;obtain⟨z,t,hkey⟩:=hk y (Array.mem_toList_iff.mp hy);simp[DictEntry.refKey,hkey]
  have a':¬ es.toList.any (·.refKey)=true:=by rw[a];exact b9
  rw[if_neg a'];exact congrArg some e
theorem nD.look{h:Heap}{x dx C:Addr}{mA:Str->Option ae}(I:nD h x dx C mA):∃od,PySem.W.InstAt h x (PySem.W.instObj C dx) C (some od)/\∀name,PySem.W.lookIn name od=some (mA name):=
 let ⟨od,ho,hl⟩:=yP I.ns
 ⟨od,⟨I.obj,rfl,rfl,ho⟩,hl⟩
section
variable{prog:aA}{w:au}{A:aB}{E:ae->af->Prop}{s:af}{K:aC}{x dx C f:Addr}{mA:Str->Option ae}{name:Str}{v:ae}
end
theorem eX.some_of{v:V}{o:Option ae}(r:eX (some v) o):∃u,o=some u/\RelV v u:=by
 cases o with
 |none=>exact(show False from r).elim
 |some u=>exact⟨u,rfl,r⟩
section
variable{P:aA}{w:au}{H H':Hp}{h h':Heap}{a C dx:Addr}{fs fs':List (Str×V)}
theorem CV(hok:HOk P w H h)(e:H a=some (.ins C dx fs)):∃mA,nD h a dx C mA/\(∀f,eX (fs.lookup f) (mA f))/\PySem.Within mA (fs.map (·.1))/\fs.length<=1000/\H dx=some (.own a):=by
 obtain⟨d,z,ne,ob,mA,n,r,q⟩:=(show zO P w H h a (.ins C dx fs)from hok a _ e)
 exact⟨mA,⟨ob,n,ne⟩,r,q,z,d⟩
end
structure Cls(K:aC)(C:Addr):Prop where
 pg:PySem.W.plainGet K C Str.empty=true
 hd:PySem.W.hasDictIn K C=true
 po:PySem.W.plainOver K C=true
 sa:PySem.W.findIn K (.ref C) "__setattr__" = some (some (.builtin "object.__setattr__"))
theorem Cls.get{K:aC}{C:Addr}(c:Cls K C)(f:Str):PySem.W.plainGet K C f=true:=c.pg
section
variable{X:Cx}{pins:List (Addr×Obj)}{σ:St}{H:Hp}{s:af}{a C dx:Addr}{fs:List (Str×V)}{f:Str}{v:V}{A:aB}{E:ae->af->Prop}
end
section
variable{X:Cx}{o e value:Expr}{f:Str}{pos pos' tpos:Pos}{ta tv:TE}
end
section
variable{X:Cx}{pins:List (Addr×Obj)}{σ:St}{H:Hp}{s:af}{A:aB}{E:ae->af->Prop}{Q:ae->af->Prop}{c:ae}{b:Bool}
inductive eP(K:aC)(H:Hp):V->ae->Prop where
 |non:eP K H .non (.type "NoneType")
 |bl (x:Bool):eP K H (.bl x) (.type "bool")
 |int (i:Int):eP K H (.int i) (.type "int")
 |str (x:Str):eP K H (.str x) (.type "str")
 |flt (x:UInt64):eP K H (.flt x) (.type "float")
 |lst {a:Addr}{xs:List V} (e:H a=some (.lst xs)):eP K H (.ref a) (.type "list")
 |frz {a:Addr}{o:Obj}{xs:List V} (e:H a=some (.frz o (.lst xs))):eP K H (.ref a) (.type "list")
 |tup {a:Addr}{xs:List V} (e:H a=some (.tup xs)):eP K H (.ref a) (.type "tuple")
 |dK {a:Addr}{kvs:List (Key×V)} (e:H a=some (.dK kvs)):eP K H (.ref a) (.type "dict")
 |dT {a:Addr}{kvs:List (List Key×V)} (e:H a=some (.dT kvs)):eP K H (.ref a) (.type "dict")
 |ins {a C dx:Addr}{fs:List (Str×V)} (e:H a=some (.ins C dx fs)) (cl:Cls K C) (ha:PySem.W.findIn K (.ref C) "__class__" = some (some (.builtin "object.__class__")))
   (hn:PySem.W.specialIn K (.builtin "object.__class__") "__get__" = some (some (.builtin "getset_descriptor.__get__"))) (htk:PySem.W.takesIn K (.builtin "object.__class__")=some true)
   (hm:PySem.W.mroIn K C (.type "object")=some true):eP K H (.ref a) (.ref C)
theorem jc{x:V}{u t:ae}(I:Inv X pins σ H s)(rx:RelV x u)(ty:eP X.K H x t)(e:cR X.K t c=some b)(h:∀tk,Q (.bool b) {s with toks:=tk}) :
  aq (ao X.prog X.w) A (call (.builtin "isinstance") [u,c]) Q E s:=by
 cases ty with
 |non=>cases (show u=ck from rx);exact bY PySem.W.kitx_none I.kIn True.intro e (λz=>nomatch z) h
 |bl y=>cases (show u=ae.bool y from rx);exact bY PySem.W.kitx_bool I.kIn True.intro e (λz=>nomatch z) h
 |int i=>obtain⟨t,q⟩:=(show ∃t,u=ae.int i t from rx);cases q;exact bY PySem.W.kitx_int I.kIn True.intro e (λz=>nomatch z) h
 |str y=>obtain⟨t,q⟩:=(show ∃t,u=ae.str y t from rx);cases q;exact bY PySem.W.kitx_str I.kIn True.intro e (λz=>nomatch z) h
 |flt y=>obtain⟨t,q⟩:=(show ∃t,u=ae.float y t from rx);cases q;exact bY PySem.W.kitx_float I.kIn True.intro e (λz=>nomatch z) h
 | @lst a xs ea=>
  cases (show u=bq a from rx);obtain⟨_,_,n,_,h1⟩:=(show zO X.prog X.w H s.heap a (.lst xs)from I.hok a _ ea)
  exact bY PySem.W.kitx_list I.kIn ⟨_,h1,rfl⟩ e (λz=>nomatch z) h
 | @frz a ob xs ea=>
  cases (show u=bq a from rx);obtain⟨_,_,_,n,_,h1⟩:=(show zO X.prog X.w H s.heap a (.frz ob (.lst xs))from I.hok a _ ea)
  exact bY PySem.W.kitx_list I.kIn ⟨_,h1,rfl⟩ e (λz=>nomatch z) h
 | @tup a xs ea=>
  cases (show u=bq a from rx);obtain⟨_,_,_,p⟩:=(show zO X.prog X.w H s.heap a (.tup xs)from I.hok a _ ea)
  obtain⟨o,h1,h2,_⟩:=p;exact bY PySem.W.kitx_tuple I.kIn ⟨o,h1,h2⟩ e (λz=>nomatch z) h
 | @dK a kvs ea=>
  cases (show u=bq a from rx);obtain⟨_,_,vs,_,p⟩:=(show zO X.prog X.w H s.heap a (.dK kvs)from I.hok a _ ea)
  obtain⟨o,es,ep,h1,h2,_⟩:=p;exact bY PySem.W.kitx_dict I.kIn ⟨o,h1,h2.1⟩ e (λz=>nomatch z) h
 | @dT a kvs ea=>
  cases (show u=bq a from rx);obtain⟨_,_,xs,_,o,es,ep,h1,h2,_⟩:=(show zO X.prog X.w H s.heap a (.dT kvs)from I.hok a _ ea)
  exact bY PySem.W.kitx_dict I.kIn ⟨o,h1,h2.1⟩ e (λz=>nomatch z) h
 | @ins a C dx fs ea cl ha hn htk hm=>
  cases (show u=bq a from rx);obtain⟨mA,O,_⟩:=CV I.hok ea;obtain⟨od,J,_⟩:=O.look;exact bY (PySem.W.kitx_own (cl.get _) cl.hd ha hn htk hm) I.kIn J e (λz=>nomatch z) h
end
structure dw(k:Nat)(A:aB):Prop where
 hd:A.handled=none
 dp:A.depth+3 * k+5<recursionLimit
 un:A.units+16 * k+200<cLine
theorem dw.deeper{k:Nat}{A:aB}(r:dw (k+1) A)(env:Env):dw k (A.deeper env):=
 ⟨r.hd,by have:=r.dp;show A.depth+1+3 * k+5<_;lia,by have:=r.un;show A.units+3+16 * k+200<_;lia⟩
theorem dw.depth{k:Nat}{A:aB}(r:dw k A):A.depth<recursionLimit:=by have:=r.dp;lia
theorem dw.units{k:Nat}{A:aB}(r:dw k A):A.units+64<cLine:=by have:=r.un;lia
noncomputable def lZ:TA:=λ_ H Q=>Q [] H
noncomputable def lW(ta:TE)(tr:TA):TA:=λσ H Q=>ta σ H λx H1=>tr σ H1 λxs H2=>Q (x::xs) H2
section
variable{X:Cx}{e:Expr}{es:List Expr}{te:TE}{t:TA}{pos:Pos}
theorem d_:PA X [] lZ:=λ_ _ _ _ H Q I h=>Calls.spliced_nil ⟨[],H,I,.nil,h⟩
theorem zP(ha:PE X e te)(hr:PA X es t)(hs:aY (e::es) X.env=(false,eval e X.env)::aY es X.env:=by rfl):PA X (e::es) (lW te t):=by
 intro pos pins s σ H Q I h;rw[hs];show aq _ _ (spliced ((false,eval e X.env)::backTo pos (aY es X.env))) _ _ s;refine Calls.spliced_cons (thn (ha pins s σ H _ I h) λu s1 ⟨x,H1,I1,r1,q1⟩=>?_);exact thn (hr pos pins s1 σ H1 _ I1 q1) λus s2 ⟨xs,H2,I2,r2,q2⟩=>⟨x::xs,H2,I2,.cons r1 r2,q2⟩
noncomputable def Gd(t:TA):TE:=λσ H Q=>t σ H λxs H1=>xs.length<=aP/\∀p,H1 p=none->Q (.ref p) (upd H1 p (.tup xs))
noncomputable def F_(t:TA):TE:=λσ H Q=>t σ H λxs H1=>xs.length<=aP/\∀p,H1 p=none->Q (.ref p) (upd H1 p (.lst xs))
theorem wK{x1}(h:PA X es t):PE X (.Tuple es x1 pos) (Gd t):=by
 intro pins s σ H Q I hq;refine wpAny_Tuple_spliced (thn (h pos pins s σ H _ I hq) λus s1 ⟨xs,H1,I1,r,z,q⟩=>⟨by rw[<-r.length];exact z,?_⟩);have hf:H1 s1.heap.objs.size=none:=I1.hok.fresh (aG _);refine⟨.ref s1.heap.objs.size,upd H1 s1.heap.objs.size (.tup xs),I1.laid (t':=s1.toks) (λb u e=>Heap.get?_push_of_some _ e) (aG _) ?_,rfl,q _ hf⟩;exact⟨z,us,r,⟨_,Heap.get?_push_size _ rfl,rfl,_,rfl⟩⟩
theorem Ho(h:PA X es t):PE X (.List es pos) (F_ t):=by
 intro pins s σ H Q I hq;refine wpAny_List_spliced (thn (h pos pins s σ H _ I hq) λus s1 ⟨xs,H1,I1,r,z,q⟩=>⟨by rw[<-r.length];exact z,?_⟩);have hf:H1 s1.heap.objs.size=none:=I1.hok.fresh (aG _);refine⟨.ref s1.heap.objs.size,upd H1 s1.heap.objs.size (.lst xs),I1.laid (t':=s1.toks) (λb u e=>Heap.get?_push_of_some _ e) (aG _) ?_,rfl,q _ hf⟩;exact⟨z,us,0,r,Heap.get?_push_size _ rfl⟩
end
abbrev Sp:=List V->Hp->VK->XK->Prop
abbrev CXT:=List Env->Hp->af->XK->ae->af->Prop
structure iK(P:aA)(w:au)(K:aC)(mg:Str->Option ae)(base:Heap)(A:aB)(outer:List Env)(s:af)(H:Hp):Prop where
 frames:A.frames=some outer
 mod:Mod K mg base
 bs:∀b o,base.get? b=some o->s.heap.get? b=some o/\H b=none
 bsz:base.objs.size<=s.heap.objs.size
 funs:s.heap.FunFrames base outer
 frf:∀b∈frs outer,H b=none
 hok:HOk P w H s.heap
 bare:AllBare s.gens
noncomputable def CE(outer:List Env)(P:aA)(w:au)(H:Hp)(s:af)(Q:VK)(u:ae)(s':af):Prop:=
 ∃v H',s'.os=s.os/\AllBare s'.gens/\Un (frs outer) [] H H' s.heap s'.heap/\HOk P w H' s'.heap/\RelV v u/\Q v H'
noncomputable def CR(CX:CXT)(outer:List Env)(P:aA)(w:au)(H:Hp)(s:af)(Q:VK)(E:XK)(r:Result)(s':af):Prop:=
 match r with
 | .ok (.ret u)=>CE outer P w H s Q u s'
 | .ok _=>False
 | .error e=>CX outer H s E e s'
structure gq(P:aA)(w:au)(K:aC)(mg:Str->Option ae)(base:Heap)(CX:CXT)(k:Nat)(f:Addr)(fd:FuncData)(ps:List Str)(sp:Sp):Prop where
 len:∀vs H Q E,sp vs H Q E->vs.length=ps.length
 run:∀(A:aB) (outer:List Env) (s:af) (H:Hp) (args:Args) (us:List ae) (vs:List V) (Q:VK) (E:XK),dw k A->iK P w K mg base A outer s H->BindsTo s fd args (ps.zip us)->Vals vs us->sp vs H Q E ->
  codeAny (ao P w) A (.call (.ref f) args) (CR CX outer P w H s Q E) s
section
variable{X:Cx}{pins:List (Addr×Obj)}{σ:St}{H:Hp}{s s':af}
theorem Inv.env0(I:Inv X pins σ H s):iK X.prog X.w X.K X.mg X.base X.A X.stack s H:=
 ⟨I.ok.frames,I.ok.mod,I.bs,bB I.ok.bsz I.sz,I.stack,I.stkFree,I.hok,I.bare⟩
theorem Inv.after{Q:VK}{u:ae}(I:Inv X pins σ H s)(h:CE X.stack X.prog X.w H s Q u s'):EP X pins σ Q u s':=by
 obtain⟨v,H',os,bare,un,hok,r,q⟩:=h;obtain⟨hh,g,d,t,os'⟩:=s';obtain rfl:os'=s.os:=os;exact⟨v,H',I.call (h':=hh) (g':=g) (d':=d) (t':=t) (ch:=[]) un hok bare (λb z=>absurd z (by simp)),r,q⟩
end
noncomputable def mE(sp:Sp)(dvs:List V)(E:XK)(t:TA):TE:=λσ H Q=>t σ H λvs H1=>sp (vs++dvs) H1 Q E
noncomputable def Binds(K:aC)(fd:FuncData)(ps:List Str)(ds:List ae):Prop:=
 ∀(s:af) (us:List ae),K.In s.heap->(us++ds).length=ps.length->BindsTo s fd ⟨us,[]⟩ (ps.zip (us++ds))
theorem Binds.all{K:aC}{fd:FuncData}{ps:List Str}(h:∀us:List ae,us.length=ps.length->bindArgs fd ⟨us,[]⟩=pure (ps.zip us)):Binds K fd ps []:=λs us _ hl=>by
 rw[cQ]at hl ⊢;exact .of_eq (h us hl)
noncomputable def Passes(CX:CXT)(X:Cx)(E:XK):Prop:=∀(pins:List (Addr×Obj)) (σ:St) (H:Hp) (s:af) (e:ae) (s':af),Inv X pins σ H s->CX X.stack H s E e s'->X.xe e s'
section
variable{X:Cx}{CX:CXT}{k:Nat}{f C:Addr}{fd:FuncData}{ps:List Str}{sp:Sp}{dvs:List V}{ds:List ae}{E:XK}{x m:Str}{p pos apos:Pos}{e o:Expr}{es:List Expr}{ta:TE}{t:TA}
theorem Bl{pins:List (Addr×Obj)}{σ:St}{H:Hp}{s:af}{Q:VK}{us:List ae}{vs:List V}(F:gq X.prog X.w X.K X.mg X.base CX k f fd ps sp)(hr:dw k X.A)(hb:Binds X.K fd ps ds)(hd:Vals dvs ds)(hx:Passes CX X E)
  (I:Inv X pins σ H s) (r:Vals vs us) (h:sp (vs++dvs) H Q E):aq (ao X.prog X.w) X.A (call (.ref f) us) (EP X pins σ Q) X.xe s:=by
 have r2:Vals (vs++dvs) (us++ds):=r.append hd;have hl:(us++ds).length=ps.length:=by rw[<-r2.length];exact F.len _ _ _ _ h
 refine wpAny_call (cW (F.run X.A X.stack s H ⟨us,[]⟩ (us++ds) (vs++dvs) Q E hr I.env0 (hb s us I.kIn hl) r2 h) λr s' hq=>?_);cases r with
 |error e=>exact hx pins σ H s e s' I hq
 |ok fl=>
  cases fl with
  |ret u=>exact I.after hq
  |next=>exact bC hq
  |brk=>exact bC hq
  |cont=>exact bC hq
theorem FZ(F:gq X.prog X.w X.K X.mg X.base CX k f fd ps sp)(hr:dw k X.A)(hg:Gl X x)(hm:X.mg x=some (.ref f))(hk:dI X.K (.ref f)=true)(hb:Binds X.K fd ps ds)(hd:Vals dvs ds)(hx:Passes CX X E)
  (ha:PA X (e::es) t) (hdb:(x==("__debug__" : Str))=false:=by decide) (he:aY (e::es) X.env=(false,eval e X.env)::aY es X.env:=by rfl) (hpl:(backTo pos (aY es X.env)).any (·.1)=false:=by rfl) :
  PE X (.Call (.Name x p) (e::es) [] pos) (mE sp dvs E t):=by
 intro pins s σ H Q I h;refine wpAny_Call_Name_kw (lT I hg hm ?_ hdb);refine PySem.W.callWith_K (h₀:=X.base) I.ok.mod.kin hk (thn (ha pos pins s σ H _ I h) λus s1 ⟨vs,H1,I1,r,q⟩=>⟨I1.kIn,?_⟩) he hpl;exact Bl F hr hb hd hx I1 r q
end
section
variable{X:Cx}{CX:CXT}{k:Nat}{f C:Addr}{fd:FuncData}{ps ks:List Str}{sp:Sp}{E:XK}{x m:Str}{p pos apos kpos:Pos}{e o:Expr}{es:List Expr}{kws:List Keyword}{te ta:TE}{t tk:TA}{nm:Option Str}
variable{g:List ae->List ae->List ae}{gV:List V->List V->List V}
end
structure iZ(N P:List Str)(sc:bf):Prop where
 kind:sc.kind=.function
 co:sc.isCoroutine=false
 gen:sc.isGenerator=false
 nd:N.Nodup
 pre:N.take P.length=P
 par:∀x∈P,sc.names.lookup x=some .local\/sc.names.lookup x=some .cell
 nofree:∀y∈sc.names,y.2≠.free
theorem rZ{kindOf:Str->Option a7}{x:Str}:∀{binds:List (Str×ae)}{m:Str->Option ae},(∀v,(x,v)∉binds)->bindL kindOf binds m x=m x
 | [],_,_=>rfl
 | (n,v)::r,m,h=>by
  unfold bindL;rw[rZ λw hw=>h w (aO _ hw)];split
  ·have:x≠n:=by rintro rfl;exact h v aK
   simp[this]
  ·rfl
theorem nY{kindOf:Str->Option a7}{x:Str}:∀{binds:List (Str×ae)}{m:Str->Option ae},(∀v,(x,v)∉binds)->bindC kindOf binds m x=m x
 | [],_,_=>rfl
 | (n,v)::r,m,h=>by
  unfold bindC;rw[nY λw hw=>h w (aO _ hw)];split
  ·rfl
  ·have:x≠n:=by rintro rfl;exact h v aK
   simp[this]
theorem pS{kindOf:Str->Option a7}{x:Str}{v:ae}:∀{P:List Str}{vs:List ae}{i:Nat}{m:Str->Option ae},P.Nodup->P[i]? = some x->vs[i]? = some v->kindOf x=some .local ->
  bindL kindOf (P.zip vs) m x=some v
 | [],_,_,_,_,h,_,_=>by simp at h
 |_::_,[],_,_,_,_,h,_=>by simp at h
 |p::P,w::vs,0,m,nd,h1,h2,hk=>by
  simp at h1 h2;subst h1;subst h2;show bindL kindOf ((p,w)::P.zip vs) m p=_;unfold bindL;rw[rZ λv hv=>(List.nodup_cons.mp nd).1 (List.of_mem_zip hv).1,if_pos hk];simp
 |p::P,w::vs,i+1,m,nd,h1,h2,hk=>by
  show bindL kindOf ((p,w)::P.zip vs) m x=_;unfold bindL;exact pS (i:=i) (List.nodup_cons.mp nd).2 (by simpa using h1) (by simpa using h2) hk
theorem ub{kindOf:Str->Option a7}{x:Str}{v:ae}:∀{P:List Str}{vs:List ae}{i:Nat}{m:Str->Option ae},P.Nodup->P[i]? = some x->vs[i]? = some v->kindOf x≠some .local ->
  bindC kindOf (P.zip vs) m x=some v
 | [],_,_,_,_,h,_,_=>by simp at h
 |_::_,[],_,_,_,_,h,_=>by simp at h
 |p::P,w::vs,0,m,nd,h1,h2,hk=>by
  simp at h1 h2;subst h1;subst h2;show bindC kindOf ((p,w)::P.zip vs) m p=_;unfold bindC;rw[nY λv hv=>(List.nodup_cons.mp nd).1 (List.of_mem_zip hv).1,if_neg hk];simp
 |p::P,w::vs,i+1,m,nd,h1,h2,hk=>by
  show bindC kindOf ((p,w)::P.zip vs) m x=_;unfold bindC;exact ub (i:=i) (List.nodup_cons.mp nd).2 (by simpa using h1) (by simpa using h2) hk
noncomputable def start(N:List Str)(vs:List V):St:=vs.map some++cb (N.length-vs.length) none
noncomputable def fR(CX:CXT)(P:aA)(w:au)(K:aC)(mg:Str->Option ae)(base:Heap)(N:List Str)(qual:Str)(scope:bf)(f:Addr)(cd:ae)(A:aB)(outer:List Env)(s:af)(H:Hp)(E:XK):Cx where
 prog:=P
 w:=w
 K:=K
 mg:=mg
 base:=base
 A:=A.deeper (envOfC qual scope s.heap.objs.size f cd)
 N:=N
 s₀:=s
 H₀:=H
 env:=envOfC qual scope s.heap.objs.size f cd
 outer:=outer
 stack:=envOfC qual scope s.heap.objs.size f cd::outer
 ex:=[]
 calm:=true
 fn:=λ_=>true
 pn:=[]
 xe:=λe s'=>aq (ao P w) (A.deeper (envOfC qual scope s.heap.objs.size f cd)) (leaving (envOfC qual scope s.heap.objs.size f cd) e) (λ_ s''=>CX outer H s E e s'') (λe' s''=>CX outer H s E e' s'') s'
theorem ki{sc:bf}{n:Nat}{x:Str}(h:sc.names.lookup x=some .cell):∃c,(bz n sc.names []).lookup x=some c:=by
 have q:=PySem.W.cellsFrom_some sc.names n [] (.inl h);exact Option.isSome_iff_exists.mp q
theorem Am{CX:CXT}{P:aA}{w:au}{K:aC}{mg:Str->Option ae}{base:Heap}{N ps:List Str}{qual:Str}{scope:bf}{f:Addr}{cd:ae}{A:aB}{outer:List Env}{s s1:af}{H:Hp}{E:XK}{us:List ae}{vs:List V}
  (S:iZ N ps scope) (hd:A.handled=none) (e0:iK P w K mg base A outer s H) (hl:vs.length=ps.length) (r:Vals vs us)
  (x:InCallC s s.heap.objs.size (bindL (envOfC qual scope s.heap.objs.size f cd).kindOf (ps.zip us) λ_=>none) (bz (s.heap.objs.size+1) scope.names []) (bindC (envOfC qual scope s.heap.objs.size f cd).kindOf (ps.zip us) λ_=>none) s1) :
  Inv (fR CX P w K mg base N qual scope f cd A outer s H E) [] (start N vs) H s1:=by
 have hpl:ps.length<=N.length:=by have:=congrArg List.length S.pre;rw[cP]at this;lia
 obtain⟨h1,tk,rfl,hk⟩:=x.done;have noA:∀b:Addr,b∉(fR CX P w K mg base N qual scope f cd A outer s H E).ex:=λb z=>absurd (show b∈([]:List Addr)from z) (by simp)
 refine⟨⟨e0.mod,S.kind,rfl,rfl,aG _,λy z c h1 h2=>?_,λy hy=>?_,λy c _ h=>?_,λ_=>hd,aB.frames_deeper e0.frames,.inr ⟨rfl,rfl⟩,λb z=>absurd z (noA b),e0.bs,e0.bsz,λb _ _=>noA b,λb z=>absurd z (noA b),e0.funs,e0.frf⟩,
  rfl,e0.bare,Un.kept hk,⟨_,x.toInCall.ns,λi y v h1 h2 h3=>?_⟩,λy c h=>⟨_,x.cell y c h⟩,e0.hok.fresh (aG _),λy c h=>?_,λp hp=>absurd (show p∈([]:List (Addr×Obj))from hp) (by simp),e0.hok.kept hk,?_⟩
 ·exact name_of_addr x.apart (cM h1) (cM h2)
 ·have hy:scope.names.lookup y=some .cell\/scope.names.lookup y=some .free:=hy;rcases hy with hy|hy
  ·exact ki hy
  ·exact absurd rfl (S.nofree _ (cM hy))
 ·exact Nat.le_of_lt (x.above y c (cM h))
 ·have hi:i<vs.length:=by
   unfold start at h2;by_cases hi:i<vs.length
   ·exact hi
   ·rw[List.getElem?_append_right (by simpa using hi)]at h2;rw[List.getElem?_replicate]at h2;split at h2<;>cases h2
  have ha:vs[i]? = some v:=by
   unfold start at h2;rw[List.getElem?_append_left (by simpa using hi),List.getElem?_map]at h2;cases e:vs[i]? with
   |none=>rw[e]at h2;cases h2
   |some a=>rw[e]at h2;cases h2;rfl
  obtain⟨u,hu,rv⟩:=r.get ha;have hp:ps[i]? = some y:=by
   rw[<-S.pre,List.getElem?_take_of_lt (by lia)];exact h1
  have ndP:ps.Nodup:=by rw[<-S.pre];exact S.nd.sublist (List.take_sublist _ _)
  refine⟨u,rv,?_⟩;rcases S.par y (List.mem_of_getElem? hp)with k|k
  ·exact .inl ⟨k,pS ndP hp hu k⟩
  ·obtain⟨c,e⟩:=ki (n:=s.heap.objs.size+1) k;refine .inr ⟨.inl k,c,e,?_⟩;have q:=x.cell y c e;rw[ub ndP hp hu (by show scope.names.lookup y≠_;rw[k];decide)]at q;exact q
 ·exact e0.hok.fresh (Nat.le_of_lt (x.above y c (cM h)))
 ·unfold start;show _=N.length;rw[bH,aJ,List.length_replicate];lia
theorem xE{CX:CXT}{P:aA}{w:au}{K:aC}{mg:Str->Option ae}{base:Heap}{k:Nat}{f:Addr}{name qual:Str}{params:Arguments}{body:List Stmt}{scope:bf}{dV kV doc pm cdv ct oc:ae}{an od:Option Addr}
  {osl:Array (Option ae)}{N ps:List Str}{sp:Sp} (lk:K.lookup f=some ⟨oc,od,.func (cV name qual params body scope dV kV doc pm an cdv ct),osl⟩) (hcd:PySem.W.codeIn K cdv qual=true) (S:iZ N ps scope)
  (len:∀vs H Q E,sp vs H Q E->vs.length=ps.length)
  (hbody:∀(A:aB) (outer:List Env) (s:af) (H:Hp) (vs:List V) (Q:VK) (E:XK),dw k (A.deeper (envOfC qual scope s.heap.objs.size f cdv))->sp vs H Q E ->
   ∃t,PSs (fR CX P w K mg base N qual scope f cdv A outer s H E) body t/\t {nx:=λ_ H'=>Q .non H',rt:=Q} (start N vs) H) :
  gq P w K mg base CX (k+1) f (cV name qual params body scope dV kV doc pm an cdv ct) ps sp:=by
 refine⟨len,λA outer s H args us vs Q E hr e0 hb r hsp=>?_⟩;have hl:=len _ _ _ _ hsp;have KX:K.In s.heap:=e0.mod.kin.keeps λb o e=>(e0.bs b o e).1
 have lim:s.heap.NoLimit:=e0.mod.nolimit.keeps λb o e=>(e0.bs b o e).1
 have hkind:∀y∈ps.zip us,scope.names.lookup y.1=some .local\/(scope.names.lookup y.1=some .cell/\((bz (s.heap.objs.size+1) scope.names []).lookup y.1).isSome=true):=λ⟨n,v⟩ hy=>by
  rcases S.par n (List.of_mem_zip hy).1 with q|q
  ·exact .inl q
  ·exact .inr ⟨q,PySem.W.cellsFrom_some _ _ _ (.inl q)⟩
 refine codeAny_call_function hr.depth (KX _ _ lk) rfl S.co S.gen rfl (PySem.W.codeRec_of KX hcd) (hb _ _ _ _ ?_);refine wpAny_newFunctionEnv_cells S.kind hkind λenv he s1 x=>?_
 subst he;refine⟨lim.keeps x.toInCall.keep,codeAny_func ?_⟩;obtain⟨t,ht,hq⟩:=hbody A outer s H vs Q E (hr.deeper _) hsp;have I:Inv (fR CX P w K mg base N qual scope f cdv A outer s H E) [] (start N vs) H s1:=Am S hr.hd e0 hl r x;refine b5 (ht [] s1 (start N vs) H _ I hq) (λfl s' hs=>?_) λe s' hs=>hs
 have fin:∀{σ':St}{H':Hp}{v:V}{u:ae},Inv (fR CX P w K mg base N qual scope f cdv A outer s H E) [] σ' H' s'->RelV v u->Q v H'->CE outer P w H s Q u s':=
  λ{σ' H' v u} J rv q=>⟨v,H',J.os,J.bare,J.base,J.hok,rv,q⟩
 cases fl with
 |ret u=>
  obtain⟨v,σ',H',J,rv,q⟩:=hs;exact fin J rv q
 |next=>
  obtain⟨σ',H',J,q⟩:=hs;exact fin (v:=V.non) (u:=ck) J rfl q
 |brk=>
  obtain⟨_,_,_,q⟩:=hs;exact bC q
 |cont=>
  obtain⟨_,_,_,q⟩:=hs;exact bC q
section
variable{X:Cx}{x:Str}{p pos:Pos}{e:Expr}{es:List Expr}{t:TA}{id T:String}{r:List V->Hp->VK->Prop}
noncomputable def tCB(r:List V->Hp->VK->Prop)(t:TA):TE:=λσ H Q=>t σ H λvs H1=>r vs H1 Q
theorem lH(hc:zg X (.builtin id) r)(hg:Gl X x)(hm:X.mg x=none)(hv:bU x=some (.builtin id))(ha:PA X (e::es) t)(hn:x≠"__name__":=by decide)(hdb:(x==("__debug__" : Str))=false:=by decide)
  (he:aY (e::es) X.env=(false,eval e X.env)::aY es X.env:=by rfl) (hpl:(backTo pos (aY es X.env)).any (·.1)=false:=by rfl):PE X (.Call (.Name x p) (e::es) [] pos) (tCB r t):=by
 intro pins s σ H Q I h;refine wpAny_Call_Name_kw (fC I hg hm hv ?_ hn hdb);exact PyProof.Rows.callWith_builtin1 (thn (ha pos pins s σ H _ I h) λus s1 ⟨vs,H1,I1,r1,q1⟩=>hc pins s1 σ H1 vs us Q I1 r1 q1) he hpl
theorem sO(hc:zg X (.type T) r)(hg:Gl X x)(hm:X.mg x=none)(hv:bU x=some (.type T))(ha:PA X (e::es) t)(hn:x≠"__name__":=by decide)(hdb:(x==("__debug__" : Str))=false:=by decide)
  (he:aY (e::es) X.env=(false,eval e X.env)::aY es X.env:=by rfl) (hpl:(backTo pos (aY es X.env)).any (·.1)=false:=by rfl):PE X (.Call (.Name x p) (e::es) [] pos) (tCB r t):=by
 intro pins s σ H Q I h;refine wpAny_Call_Name_kw (fC I hg hm hv ?_ hn hdb);exact fT (thn (ha pos pins s σ H _ I h) λus s1 ⟨vs,H1,I1,r1,q1⟩=>hc pins s1 σ H1 vs us Q I1 r1 q1) he hpl
end
end L2
namespace HT
open PySem PyProof.Rows
noncomputable def lexLt:List Int->List Int->Bool
 | [],[]=>false
 | [],_::_=>true
 |_::_,[]=>false
 |x::xs,y::ys=>if x=y then lexLt xs ys else decide (x<y)
theorem o7(x y:Int)(xs ys:List Int):lexLt (x::xs) (y::ys)=if x=y then lexLt xs ys else decide (x<y):=rfl
theorem u9:lexLt [] []=false:=rfl
theorem pL(y:Int)(ys:List Int):lexLt [] (y::ys)=true:=rfl
theorem pX(x:Int)(xs:List Int):lexLt (x::xs) []=false:=rfl
theorem Ea(A:aB)(s:af)(a:Int)(t:Tok)(c:Int)(u:Tok):∃e,SeqAt.EqAt A s (.int a t) (.int c u) e/\(e=true↔a=c):=
 ⟨(a==c),SeqAt.EqAt.int_int a t c u,by simp⟩
theorem vF(A:aB)(s:af)(a:Int)(t:Tok)(c:Int)(u:Tok)(prog:aA)(w:au)(E:ae->af->Prop)(Q:ae->af->Prop)(h:Q (.bool (decide (a<c))) s) :
  aq (ao prog w) A (richCompare .Lt (.int a t) (.int c u)) Q E s:=
 (PyProof.Rows.lt_int h:aq (ao prog w) A (bh .Lt (.int a t) (.int c u)) Q E s)
section
open PySem.SeqAt
open PySem.AutoSeq1 (wpAny_loadPart')
open PySem.MeetsSeq PySem.MeetsSeq2 PySem.MeetsSeq3
theorem o4(l b:Addr)(items items2:Array ae)(n n2:Nat)(dd dd2:Option Addr)(sl sl2:Array (Option ae))(ns ms:List Int)(hi:ba items.toList ns)(hj:ba items2.toList ms) :
  Meets (Builtin.«tuple.__lt__» ⟨[.ref l,.ref b],[]⟩)
   (λ_ R s=>s.heap.get? l=some {cls:=.type "tuple",dict:=dd,data:=.seq items n,slots:=sl}/\s.heap.get? b=some {cls:=.type "tuple",dict:=dd2,data:=.seq items2 n2,slots:=sl2} /\
    R (.ok (.ret (.bool (lexLt ns ms)))) s):=
 .of_wp λprog w A R s h=>by
  obtain⟨hp,g,d,tk,os⟩:=s;obtain⟨hl,hb,h⟩:=h;have f2:=AutoSeq1.sub_tuple_tuple;have z1:items.size=ns.length:=by rw[<-hi.length];simp
  have z2:items2.size=ms.length:=by rw[<-hj.length];simp
  wp_walk using wpAny_loadPart' hl,wpAny_loadPart' hb,wpAny_forIn_list _ (λrest b s'=>b.1=none/\s'=⟨hp,g,d,tk,os⟩/\∃(vs ws:List ae) (ns' ms':List Int),rest=vs.zip ws /\
   ba vs ns'/\ba ws ms'/\ns'.length+items2.size=ms'.length+items.size/\R (.ok (.ret (.bool (lexLt ns' ms')))) ⟨hp,g,d,tk,os⟩) _
  case turn=>
   rintro⟨y,x⟩ rest b s' ⟨hb',rfl,vs,ws,ns',ms',hz,hvi,hwi,hlen,hR⟩;cases hvi with
   |nil=>rw[List.zip_nil_left]at hz;cases hz
   |cons a t hvi'=>
    cases hwi with
    |nil=>rw[List.zip_nil_right]at hz;cases hz
    |cons c u hwi'=>
     rw[List.zip_cons_cons]at hz;injection hz with hyx hrest
     injection hyx with hy hx
     subst hy hx;rw[o7]at hR;simp only[bg]at hlen;obtain⟨e,he,hiff⟩:=Ea A.in1 ⟨hp,g,d,tk,os⟩ a t c u;refine ah (he prog w _ _ ?_);cases e with
     |true=>
      rw[if_pos (hiff.mp rfl)]at hR
      wp_walk
      exact⟨rfl,rfl,_,_,_,_,hrest,hvi',hwi',by lia,hR⟩
     |false=>
      rw[if_neg (λq=>absurd (hiff.mpr q) b9)]at hR;have hri:=vF A.in1 ⟨hp,g,d,tk,os⟩ a t c u prog w
      wp_walk using hri
      exact⟨_,rfl,by simpa using hR⟩
  case fin=>
   rintro⟨b1,b2⟩ s' ⟨hb',rfl,vs,ws,ns',ms',hz,hvi,hwi,hlen,hR⟩;simp only at hb';subst hb';have hv:lexLt ns' ms'=decide (items.size<items2.size):=by
    cases hvi with
    |nil=>
     cases hwi with
     |nil=>
      simp only[List.length_nil]at hlen;rw[u9];exact(decide_eq_false (by lia)).symm
     |cons c u hw=>
      simp only[List.length_nil,bg]at hlen;rw[pL];exact(decide_eq_true (by lia)).symm
    |cons a t hv=>
     cases hwi with
     |nil=>
      simp only[List.length_nil,bg]at hlen;rw[pX];exact(decide_eq_false (by lia)).symm
     |cons c u hw=>
      rw[List.zip_cons_cons]at hz;cases hz
   rw[hv]at hR
   wp_walk
   exact⟨_,rfl,by simpa[Builtin.Tuple.tupleCompareSizes]using hR⟩
  case h=>
   exact⟨rfl,rfl,items.toList,items2.toList,ns,ms,rfl,hi,hj,by lia,h⟩
end
section
variable{prog:aA}{w:au}{A:aB}{E:ae->af->Prop}{s:af}
theorem DX{l b:Addr}{items items2:Array ae}{ns ms:List Int}{Q:ae->af->Prop}(hl:IsTup s.heap l items)(hb:IsTup s.heap b items2)(hi:ba items.toList ns)(hj:ba items2.toList ms)
  (hu:A.units<cLine) (h:Q (.bool (lexLt ns ms)) s):aq (ao prog w) A (bh .Lt (.ref l) (.ref b)) Q E s:=by
 obtain⟨⟨cls,dd,data,sl⟩,ho,hc,n,hd⟩:=id hl;obtain⟨⟨cls2,dd2,data2,sl2⟩,ho2,hc2,n2,hd2⟩:=id hb;simp only at hc hd hc2 hd2;subst hc hd hc2 hd2;exact richCompare_meets_room (op:=.Lt) ⟨_,ho,rfl⟩ ⟨_,ho2,rfl⟩ PySem.F.slot_tuple_lt PySem.F.entry_tuple_lt (PySem.F.args_tuple_lt_2 _ _) (o4 l b items items2 n n2 dd dd2 sl sl2 ns ms hi hj)
  ⟨ho,ho2,show ae.bool (lexLt ns ms)≠ae.notImplemented/\Q (.bool (lexLt ns ms)) s from ⟨(λx=>nomatch x),h⟩⟩ hu
theorem De{t b:Addr}{vs ws:List ae}{Q:ae->af->Prop}(ht:IsTup s.heap t vs.toArray)(hb:IsTup s.heap b ws.toArray)(hv:vs≠[])
  (h1:ws=[]->Q (.ref t) s) (h2:ws≠[]->Q (.ref s.heap.objs.size) {s with heap:=s.heap.push {cls:=.type "tuple",data:=.seq (vs++ws).toArray}})
  (hsz:vs.length+ws.length<=aP):aq (ao prog w) A (binaryOp .Add (.ref t) (.ref b)) Q E s:=by
 obtain⟨⟨cls,dd,data,sl⟩,ho,hc,n,hd⟩:=id ht;obtain⟨⟨cls2,dd2,data2,sl2⟩,ho2,hc2,n2,hd2⟩:=id hb;simp only at hc hd hc2 hd2;subst hc hd hc2 hd2;have e:vs.toArray++ws.toArray=(vs++ws).toArray:=by simp
 by_cases hw:ws=[]
 ·exact concat_meets ⟨_,ho,rfl⟩ ⟨_,ho2,rfl⟩ noFill_tuple_add seq_tuple_add PySem.F.slot_tuple_add PySem.F.entry_tuple_add (PySem.F.args_tuple_add_2 _ _)
   (tuple_addW1 t b vs.toArray ws.toArray n n2 dd dd2 sl sl2 (by simpa using hv) (by simp[hw])) ⟨ho,ho2,h1 hw⟩
 ·refine concat_meets ⟨_,ho,rfl⟩ ⟨_,ho2,rfl⟩ noFill_tuple_add seq_tuple_add PySem.F.slot_tuple_add PySem.F.entry_tuple_add (PySem.F.args_tuple_add_2 _ _)
   (tuple_addW2 t b vs.toArray ws.toArray n n2 dd dd2 sl sl2 (by simpa using hv) (by simpa using hw) (by rw[aV,aV];exact hsz)) ⟨ho,ho2,?_⟩
  rw[e];exact h2 hw
noncomputable def sIx(n d:Nat):Option Int->Nat
 |none=>d
 |some v=>if v<0 then (v+(n:Int)).toNat else min v.toNat n
end
end HT
namespace L2
open PySem PySem.Spec PyProof.Rows
abbrev TO:=St->Hp->(Option Int->Hp->Prop)->Prop
noncomputable def PO(X:Cx)(e:Option Expr)(t:TO):Prop:=
 ∀(pins:List (Addr×Obj)) (s:af) (σ:St) (H:Hp) (Q:Option Int->Hp->Prop),Inv X pins σ H s->t σ H Q ->
  aq (ao X.prog X.w) X.A (evalPart e X.env) (λu s'=>∃o H',Inv X pins σ H' s'/\IsPart u o/\Q o H') X.xe s
noncomputable def Fm:TO:=λ_ H Q=>Q none H
noncomputable def xD(t:TE):TO:=λσ H Q=>t σ H λx H1=>∃i,x=.int i/\Q (some i) H1
theorem intsAre_of{ns:List Int}:∀{us:List ae},Vals (ns.map V.int) us->ba us ns:=by
 induction ns with
 |nil=>intro us r;rw[List.map_nil]at r;cases r;exact .nil
 |cons n ns ih=>
  intro us r;rw[aR]at r;cases r with
  |cons r1 r2=>
   obtain⟨t,e⟩:=r1;subst e;exact .cons n t (ih r2)
section
variable{X:Cx}{e:Expr}{te:TE}{lo hi:Option Expr}{tl th:TO}{pos p2:Pos}
theorem CO:PO X none Fm:=by
 intro pins s σ H Q I h;rw[evalPart_none];exact aE ⟨none,H,I,.none,h⟩
theorem Cf(h:PE X e te):PO X (some e) (xD te):=by
 intro pins s σ H Q I hw;rw[evalPart_some];refine thn (h pins s σ H _ I hw) λu s1 ⟨x,H1,I1,r1,q1⟩=>?_
 obtain⟨i,rfl,q⟩:=q1;obtain⟨t,rfl⟩:=r1;exact⟨some i,H1,I1,.int i t,q⟩
noncomputable def SlR(X:Cx)(r:V->Option Int->Option Int->Hp->VK->Prop):Prop:=
 ∀(pins:List (Addr×Obj)) (s:af) (σ:St) (H:Hp) (x:V) (v vl vu:ae) (lo hi:Option Int) (sl:Addr) (Q:VK),Inv X pins σ H s->RelV x v->s.heap.IsSliceOf sl vl vu .none->IsPart vl lo->IsPart vu hi->r x lo hi H Q ->
  ∃T id,typeLookup (.type T) "__getitem__" = pure (some (.builtin id))/\s.TypeIs v T/\aq (ao X.prog X.w) X.A (getItem v (.ref sl)) (EP X pins σ Q) X.xe s
noncomputable def tSl(r:V->Option Int->Option Int->Hp->VK->Prop)(te:TE)(tl th:TO):TE:=λσ H Q=>te σ H λx H1=>tl σ H1 λl H2=>th σ H2 λu H3=>r x l u H3 Q
theorem By{r:V->Option Int->Option Int->Hp->VK->Prop}(hr:SlR X r)(he:PE X e te)(hl:PO X lo tl)(hu:PO X hi th):PE X (.Subscript e (.Slice lo hi none p2) pos) (tSl r te tl th):=by
 intro pins s σ H Q I h;refine Subscript_ (thn (he pins s σ H _ I h) λv s1 ⟨x,H1,I1,r1,q1⟩=>?_);refine wpAny_Slice (thn (hl pins s1 σ H1 _ I1 q1) λvl s2 ⟨l,H2,I2,pl,q2⟩=>thn (hu pins s2 σ H2 _ I2 q2) λvu s3 ⟨u,H3,I3,pu,q3⟩=>?_);rw[evalPart_none];refine aE ?_;have I4:Inv X pins σ H3 {s3 with heap:=s3.heap.push {cls:=.type "slice",data:=.fields #[vl,vu,.none]}}:=I3.kept (t':=s3.toks) λb ob q=>Heap.get?_push_of_some _ q
 obtain⟨T,id,hT,ht,hg⟩:=hr pins {s3 with heap:=s3.heap.push {cls:=.type "slice",data:=.fields #[vl,vu,.none]}} σ H3 x v vl vu l u s3.heap.objs.size Q I4 r1 (Heap.IsSliceOf.new ..) pl pu q3;show aq (ao X.prog X.w) X.A (subscriptTail e (.Slice lo hi none p2) v (.ref s3.heap.objs.size)) (EP X pins σ Q) X.xe {s3 with heap:=s3.heap.push {cls:=.type "slice",data:=.fields #[vl,vu,.none]}};exact tail_any (ops:=[.ref s3.heap.objs.size,v]) ht hT hg (by with_unfolding_all rfl)
noncomputable def iw(xs:List V)(lo hi:Option Int):List V:=(xs.drop (HT.sIx xs.length 0 lo)).take (HT.sIx xs.length xs.length hi-HT.sIx xs.length 0 lo)
theorem A'(xs:List V)(lo hi:Option Int):(iw xs lo hi).length<=xs.length:=by
 unfold iw;rw[cP,List.length_drop];lia
noncomputable def ER(K:aC):R2:=λx y H Q=>∃a b ns ms,x=.ref a/\y=.ref b/\SqT K H a (ns.map V.int)/\SqT K H b (ms.map V.int)/\Q (.bl (HT.lexLt ns ms)) H
theorem EX(hu:X.A.units<cLine):OpR X (bh .Lt) (ER X.K):=by
 intro pins s σ H x y v u Q I rx ry h;obtain⟨a,b,ns,ms,rfl,rfl,ha,hb,q⟩:=h;cases rx;cases ry;obtain⟨its,r1,p1,_⟩:=I.tuple ha;obtain⟨its2,r2,p2,_⟩:=I.tuple hb;have i1:ba its.toArray.toList ns:=intsAre_of r1;have i2:ba its2.toArray.toList ms:=intsAre_of r2;exact HT.DX p1 p2 i1 i2 hu ⟨.bl (HT.lexLt ns ms),H,I,rfl,q⟩
noncomputable def Aw(K:aC):R2:=λx y H Q=>∃a b xs ys,x=.ref a/\y=.ref b/\SqT K H a xs/\SqT K H b ys/\xs≠[]/\xs.length+ys.length<=aP /\
 (ys=[]->Q (.ref a) H)/\(ys≠[]->∀p,H p=none->Q (.ref p) (upd H p (.tup (xs++ys))))
theorem Vals.nil_iff{xs:List V}{us:List ae}(r:Vals xs us):us=[]↔xs=[]:=by
 cases r with
 |nil=>simp
 |cons _ _=>simp
theorem Bo:OpR X (binaryOp .Add) (Aw X.K):=by
 intro pins s σ H x y v u Q I rx ry h;obtain⟨a,b,xs,ys,rfl,rfl,ha,hb,hx,hz,q1,q2⟩:=h;cases rx;cases ry;obtain⟨its,r1,p1,_⟩:=I.tuple ha;obtain⟨its2,r2,p2,_⟩:=I.tuple hb;refine HT.De p1 p2 (λz=>hx (r1.nil_iff.mp z)) (λz=>⟨.ref a,H,I,rfl,q1 (r2.nil_iff.mp z)⟩) (λz=>?_) (by rw[<-r1.length,<-r2.length];exact hz);refine⟨.ref s.heap.objs.size,_,I.laid (t':=s.toks) (o:=.tup (xs++ys)) (λb ob q=>Heap.get?_push_of_some _ q) (aG _) ?_,rfl,q2 (λw=>z (r2.nil_iff.mpr w)) _ (I.hok.fresh (aG _))⟩;exact⟨by rw[bH];exact hz,_,r1.append r2,IsTup.new _ _⟩
end
noncomputable def ixN(n:Nat)(i:Int):Option Nat:=if 0<=i then (if i<n then some i.toNat else none)else if -(n:Int)<=i then some (i+n).toNat else none
noncomputable def atI{α:Type}(xs:List α)(i:Int):Option α:=(ixN xs.length i).bind λj=>xs[j]?
theorem sJ{n:Nat}{i:Int}{j:Nat}(h:ixN n i=some j):seqIndex? i n=some j/\j<n/\-(n:Int)<=i/\i<n:=by
 unfold ixN at h;by_cases h0:0<=i
 ·rw[if_pos h0]at h;by_cases h1:i<n
  ·rw[if_pos h1]at h;have e:i.toNat=j:=bT h;exact⟨by rw[seqIndex_of h0 h1,e],by lia,by lia,h1⟩
  ·rw[if_neg h1]at h;cases h
 ·rw[if_neg h0]at h;by_cases h1:-(n:Int)<=i
  ·rw[if_pos h1]at h;have e:(i+n).toNat=j:=bT h;exact⟨by rw[seqIndex_neg (by lia) h1,e],by lia,h1,by lia⟩
  ·rw[if_neg h1]at h;cases h
theorem uC{α:Type}{xs:List α}{i:Int}{v:α}(h:atI xs i=some v):∃j,seqIndex? i xs.length=some j/\xs[j]? = some v/\j<xs.length/\-(xs.length:Int)<=i/\i<xs.length:=by
 unfold atI at h;cases e:ixN xs.length i with
 |none=>rw[e]at h;cases h
 |some j=>
  rw[e]at h;obtain⟨h1,h2,h3,h4⟩:=sJ e;exact⟨j,h1,h,h2,h3,h4⟩
noncomputable def sU(b:Expr):Prop:=∀o i,subscripted b false o i=operate [o,i] (getItem o i)
noncomputable def IxR(X:Cx)(r:R2):Prop:=
 ∀(value slice:Expr) (pins:List (Addr×Obj)) (s:af) (σ:St) (H:Hp) (x y:V) (v u:ae) (Q:VK),Inv X pins σ H s->RelV x v->RelV y u->r x y H Q ->
  subscripted slice false v u=operate [v,u] (getItem v u)->aq (ao X.prog X.w) X.A (subscriptTail value slice v u) (EP X pins σ Q) X.xe s
noncomputable def MtR(X:Cx)(id:String)(r:V->List V->Hp->VK->Prop):Prop:=
 ∀(pins:List (Addr×Obj)) (s:af) (σ:St) (H:Hp) (x:V) (xs:List V) (v:ae) (us:List ae) (Q:VK),Inv X pins σ H s->RelV x v->Vals xs us->r x xs H Q ->
  aq (ao X.prog X.w) X.A (call (.builtin id) (v::us)) (EP X pins σ Q) X.xe s
section
variable{X:Cx}{a b:Expr}{ta tb:TE}{pos:Pos}
theorem IxR.or{r r':R2}(h:IxR X r)(h':IxR X r'):IxR X (λx y H Q=>r x y H Q\/r' x y H Q):=by
 intro value slice pins s σ H x y v u Q I rx ry q hs;rcases q with q|q
 ·exact h value slice pins s σ H x y v u Q I rx ry q hs
 ·exact h' value slice pins s σ H x y v u Q I rx ry q hs
theorem Fq{r:R2}(hr:IxR X r)(ha:PE X a ta)(hb:PE X b tb)(hs:sU b):PE X (.Subscript a b pos) (tOp r ta tb):=by
 intro pins s σ H Q I h;exact Subscript_ (mI ha hb I h λv u s2 x y H2 I2 rx ry q=>hr a b pins s2 σ H2 x y v u Q I2 rx ry q (hs _ _))
noncomputable def uX(K:aC):R2:=λx y H Q=>∃p xs i v,x=.ref p/\y=.int i/\SqL K H p xs/\atI xs i=some v/\Q v H
noncomputable def p_(K:aC):R2:=λx y H Q=>∃p xs i v,x=.ref p/\y=.int i/\SqT K H p xs/\atI xs i=some v/\Q v H
theorem D_:IxR X (uX X.K):=by
 intro value slice pins s σ H x y v u Q I rx ry h hs;obtain⟨p,xs,i,z,rfl,rfl,hq,he,q⟩:=h;cases rx;obtain⟨t,rfl⟩:=ry;obtain⟨its,r,pl,hz⟩:=I.list hq;obtain⟨j,h1,h2,h3,h4,h5⟩:=uC he;obtain⟨w,ew,rw'⟩:=r.get h2;have hl:=r.length;have hn:=h9;have fin:EP X pins σ Q w s:=⟨z,H,I,rw',q⟩
 by_cases h0:0<=i
 ·have hj:i.toNat=j:=by
   rw[seqIndex_of h0 h5]at h1;exact bT h1
  exact item_listR pl.isList h0 (by lia) (by rw[hj];simpa using ew) fin hs
 ·have hj:(i+(its.toArray.size:Int)).toNat=j:=by
   rw[seqIndex_neg (by lia) h4]at h1;rw[aV,<-hl];exact bT h1
  exact subscriptTail_builtinR (x:=w) pl.isList.typeIs slot_list_getitem.lookup
   (wpAny_getItem_list_neg (Q:=λr s'=>r=w/\EP X pins σ Q r s') pl.isList (by lia) (by rw[aV]<;>lia) (by lia) (by rw[hj];simpa using ew) ⟨rfl,fin⟩) hs
theorem Ag:IxR X (p_ X.K):=by
 intro value slice pins s σ H x y v u Q I rx ry h hs;obtain⟨p,xs,i,z,rfl,rfl,hq,he,q⟩:=h;cases rx;obtain⟨t,rfl⟩:=ry;obtain⟨its,r,pl,hz⟩:=I.tuple hq;obtain⟨j,h1,h2,h3,h4,h5⟩:=uC he;obtain⟨w,ew,rw'⟩:=r.get h2;have hl:=r.length;have hn:=h9;have fin:EP X pins σ Q w s:=⟨z,H,I,rw',q⟩
 exact subscriptTail_builtinR (x:=w) pl.typeIs slot_tuple_getitem.lookup
  (getItem_tuple (j:=j) (Q:=λr s'=>r=w/\EP X pins σ Q r s') pl (by lia) (by lia) (by rw[aV,<-hl];exact h1) (by simpa using ew) ⟨rfl,fin⟩) hs
theorem vv(its:List ae)(n j:Nat)(u:ae):bt (·.setIfInBounds j u) {cls:=.type "list",data:=.seq its.toArray n}={cls:=.type "list",data:=.seq (its.set j u).toArray n}:=by
 simp[bt]
theorem Inv.lst{pins:List (Addr×Obj)}{σ:St}{H:Hp}{s:af}{p:Addr}{xs:List V}(I:Inv X pins σ H s)(h:H p=some (.lst xs)) :
  ∃(its:List ae) (n:Nat),Vals xs its/\s.heap.get? p=some {cls:=.type "list",data:=.seq its.toArray n}/\xs.length<=sizeLine:=by
 obtain⟨z,its,n,r,e⟩:=I.hok p _ h;exact⟨its,n,r,e,z⟩
theorem Inv.lstUpd{pins:List (Addr×Obj)}{σ:St}{H:Hp}{s:af}{p:Addr}{xs ys:List V}{its its':List ae}{n n':Nat}{f:Obj->Obj}(I:Inv X pins σ H s)(h:H p=some (.lst xs))
  (ho:s.heap.get? p=some {cls:=.type "list",data:=.seq its.toArray n}) (hf:f {cls:=.type "list",data:=.seq its.toArray n}={cls:=.type "list",data:=.seq its'.toArray n'}) (r:Vals ys its') (hz:ys.length<=aP) (t:Nat) :
  Inv X pins σ (upd H p (.lst ys)) {s with heap:=s.heap.update p f,toks:=t}:=by
 have e:(s.heap.update p f).get? p=some {cls:=.type "list",data:=.seq its'.toArray n'}:=by
  rw[Heap.get?_update_self f ho (by rw[hf]<;>rfl),hf]
 refine I.write (x:=p) (e:=p) (by rw[h];trivial) (.inl rfl) (λb u hb q=>(Heap.get?_update_other _ _ (Ne.symm hb)).trans q) ⟨_,e⟩ ?_;exact⟨hz,its',n',r,e⟩
noncomputable def p9:V->V->V->Hp->(Hp->Prop)->Prop:=λo i v H Q=>∃p xs k j,o=.ref p/\i=.int k/\H p=some (.lst xs)/\ixN xs.length k=some j/\Q (upd H p (.lst (xs.set j v)))
theorem set_list:gO X p9:=by
 intro pins s σ H o i v ov iv u Q I ro ri rv h;obtain⟨p,xs,k,j,rfl,rfl,hp,hj,q⟩:=h;cases ro;obtain⟨t,rfl⟩:=ri;obtain⟨its,n,r,ho,hz⟩:=I.lst hp;obtain⟨h1,h2,h3,h4⟩:=sJ hj;have hl:=r.length;have hn:=h9;have I':Inv X pins σ (upd H p (.lst (xs.set j v))) {s with heap:=s.heap.update p (bt (·.setIfInBounds j u))}:=
  I.lstUpd hp ho (vv its n j u) (r.set rv j) (by rw[List.length_set];exact hz) s.toks
 by_cases h0:0<=k
 ·have hk:k.toNat=j:=by
   rw[seqIndex_of h0 h4]at h1;exact bT h1
  exact PySem.W.ki_setAt ho h0 (by lia) (by rw[aV,<-hl];exact h4) (by rw[hk];exact⟨_,I',q⟩)
 ·have hk:(k+(its.toArray.size:Int)).toNat=j:=by
   rw[seqIndex_neg (by lia) h3]at h1;rw[aV,<-hl];exact bT h1
  exact PySem.W.ki_setBack ho (by lia) (by rw[aV,<-hl];exact h3) (by lia) (by rw[hk];exact⟨_,I',q⟩)
theorem EA(lo hi:Option Int)(n:Nat):(sliceBounds lo hi none n).1=((HT.sIx n 0 lo:Nat):Int)/\(sliceBounds lo hi none n).2.1=((HT.sIx n n hi:Nat):Int)/\(sliceBounds lo hi none n).2.2=1:=by
 refine⟨?_,?_,rfl⟩
 ·cases lo with
  |none=>simp[sliceBounds,HT.sIx]
  |some i=>
   simp only[sliceBounds,HT.sIx,Option.getD_none,show (1:Int)>0 by decide,if_true];by_cases h:i<0
   ·simp only[h,if_true]<;>lia
   ·simp only[h,if_false]<;>lia
 ·cases hi with
  |none=>simp[sliceBounds,HT.sIx]
  |some i=>
   simp only[sliceBounds,HT.sIx,Option.getD_none,show (1:Int)>0 by decide,if_true];by_cases h:i<0
   ·simp only[h,if_true]<;>lia
   ·simp only[h,if_false]<;>lia
theorem FC(its:List ae)(lo hi:Option Int):slicePick its.toArray lo hi none=((its.drop (HT.sIx its.length 0 lo)).take (HT.sIx its.length its.length hi-HT.sIx its.length 0 lo)).toArray:=by
 obtain⟨h1,h2,h3⟩:=EA lo hi its.toArray.size;unfold slicePick;rw[h1,h2,h3];simp only[sliceRange_one,pick_run,aV]<;>rfl
noncomputable def AU(K:aC):V->Option Int->Option Int->Hp->VK->Prop:=λx lo hi H Q=>∃a xs,x=.ref a/\SqL K H a xs/\∀p,H p=none->Q (.ref p) (upd H p (.lst (iw xs lo hi)))
theorem FN:SlR X (AU X.K):=by
 intro pins s σ H x v vl vu lo hi sl Q I rx hs pl pu h;obtain⟨a,xs,rfl,hx,q⟩:=h;cases rx;obtain⟨its,r,ht,hz⟩:=I.list hx;have hlen:=r.length;refine⟨"list",_,slot_list_getitem.lookup,ht.isList.typeIs,?_⟩;refine wpAny_getItem_list_slice ht.isList hs pl pu .none (by simp) ?_ (by rw[aV]<;>lia);rw[FC,<-hlen];refine⟨.ref s.heap.objs.size,_,I.laid (t':=s.toks) (o:=.lst (iw xs lo hi)) (λb ob q=>Heap.get?_push_of_some _ q) (aG _) ?_,rfl,q _ (I.hok.fresh (aG _))⟩;exact⟨bB (A' xs lo hi) hz,_,0,(r.drop (HT.sIx xs.length 0 lo)).take (HT.sIx xs.length xs.length hi-HT.sIx xs.length 0 lo),Heap.get?_push_size _ rfl⟩
theorem Bb:zg X (.builtin "len") (λxs H Q=>∃p ys,xs=[.ref p]/\(SqL X.K H p ys\/SqT X.K H p ys)/\Q (.int ys.length) H):=by
 intro pins s σ H xs us Q I r h;obtain⟨p,ys,rfl,hq,q⟩:=h;obtain⟨u,rfl,rx⟩:=vals1 r;cases rx;have hn:=h9;rcases hq with hq|hq
 ·obtain⟨its,r',pl,hz⟩:=I.list hq;have hlen:=r'.length;exact Calls.call_len_list pl.isList (by simp only[aV]<;>lia) ⟨.int ys.length,H,I.tok _,⟨s.toks+1,by rw[aV,hlen]⟩,q⟩
 ·obtain⟨its,r',pl,hz⟩:=I.tuple hq;have hlen:=r'.length;exact len_tuple pl (by simp only[aV]<;>lia) ⟨.int ys.length,H,I.tok _,⟨s.toks+1,by rw[aV,hlen]⟩,q⟩
theorem zg.or{f:ae}{r r':List V->Hp->VK->Prop}(h:zg X f r)(h':zg X f r'):zg X f (λxs H Q=>r xs H Q\/r' xs H Q):=by
 intro pins s σ H xs us Q I rs q;rcases q with q|q
 ·exact h pins s σ H xs us Q I rs q
 ·exact h' pins s σ H xs us Q I rs q
theorem Ek:zg X (.type "list") (λxs H Q=>∃p ys,xs=[.ref p]/\(SqL X.K H p ys\/SqT X.K H p ys)/\∀l,H l=none->Q (.ref l) (upd H l (.lst ys))):=by
 intro pins s σ H xs us Q I r h;obtain⟨p,ys,rfl,hq,q⟩:=h;obtain⟨u,rfl,rx⟩:=vals1 r;cases rx;have fin:∀(its:List ae),Vals ys its->ys.length<=aP->∀(h':Heap) (c':Nat),(∀b o',s.heap.get? b=some o'->h'.get? b=some o') ->
   h'.get? s.heap.objs.size=some {cls:=.type "list",dict:=none,data:=.seq its.toArray c',slots:=#[]}->EP X pins σ Q (.ref s.heap.objs.size) {s with heap:=h'}:=λits r' hz h' c' kp e=>
  ⟨.ref s.heap.objs.size,_,I.laid (t':=s.toks) kp (aG _) (show zO X.prog X.w _ h' _ (.lst ys)from ⟨hz,its,c',r',e⟩),rfl,q _ (I.hok.fresh (aG _))⟩
 rcases hq with hq|hq
 ·obtain⟨its,r',pl,hz⟩:=I.list hq;have hlen:=r'.length;obtain⟨o,ho,hc,n,hd⟩:=pl.isList;exact call_list_seq p (.inl rfl) ho hc hd (λh' c' kp e=>fin its r' hz h' c' kp e) (by simp only[aV]<;>lia)
 ·obtain⟨its,r',pl,hz⟩:=I.tuple hq;have hlen:=r'.length;obtain⟨o,ho,hc,n,hd⟩:=pl;exact call_list_seq p (.inr rfl) ho hc hd (λh' c' kp e=>fin its r' hz h' c' kp e) (by simp only[aV]<;>lia)
theorem Av:zg X (.type "tuple") (λxs H Q=>∃p ys,xs=[.ref p]/\((SqL X.K H p ys/\∀l,H l=none->Q (.ref l) (upd H l (.tup ys)))\/(SqT X.K H p ys/\Q (.ref p) H))):=by
 intro pins s σ H xs us Q I r h;obtain⟨p,ys,rfl,h⟩:=h;obtain⟨u,rfl,rx⟩:=vals1 r;cases rx;rcases h with ⟨hq,q⟩|⟨hq,q⟩
 ·obtain⟨its,r',pl,hz⟩:=I.list hq;have hlen:=r'.length;refine call_tuple_list pl.isList (λh' kp=>?_) (by simp only[aV]<;>lia);have I1:Inv X pins σ H {s with heap:=h'}:=I.kept (t':=s.toks) kp;have I2:Inv X pins σ (upd H h'.objs.size (.tup ys)) {s with heap:=h'.push {cls:=.type "tuple",data:=.seq its.toArray}}:=
   I1.laid (t':=s.toks) (λb o e=>Heap.get?_push_of_some _ e) (aG _) (show zO X.prog X.w _ _ _ (.tup ys)from ⟨hz,its,r',IsTup.new _ _⟩)
  exact⟨.ref h'.objs.size,_,I2,rfl,q _ (I1.hok.fresh (aG _))⟩
 ·obtain⟨its,r',pl,hz⟩:=I.tuple hq;exact call_tuple_same pl ⟨.ref p,H,I,rfl,q⟩
noncomputable def tyV(K:aC)(T:String)(x:V)(H:Hp):Prop:=match x with
 | .str _=>T = "str"
 | .int _=>T = "int"
 | .ref p=>(T = "list"/\∃xs,SqL K H p xs)\/(T = "tuple"/\∃o,K.lookup p=some o/\o.cls=.type "tuple"/\o.dict=none) \/
   (T = "dict"/\((∃kvs,H p=some (.dK kvs))\/∃kvs,H p=some (.dT kvs)))\/(T = "set"/\∃S n,H p=some (.set S n))
 |_=>False
theorem G6{pins:List (Addr×Obj)}{σ:St}{H:Hp}{s:af}{T:String}{x:V}{v:ae}(I:Inv X pins σ H s)(r:RelV x v)(ty:tyV X.K T x H) :
  s.TypeIs v T/\∀a,v=.ref a->∃ob,s.heap.get? a=some ob/\ob.dict=none:=by
 cases x with
 |str z=>
  obtain⟨t,rfl⟩:=r;cases (show T = "str" from ty);exact⟨typeIs_str s z t,λ_ e=>nomatch e⟩
 |int i=>
  obtain⟨t,rfl⟩:=r;cases (show T = "int" from ty);exact⟨typeIs_int s i t,λ_ e=>nomatch e⟩
 |ref p=>
  cases r;rcases ty with ⟨rfl,xs,hq⟩|⟨rfl,o,hk,hc,hd⟩|⟨rfl,hk⟩|⟨rfl,S,n,hk⟩
  ·obtain⟨its,_,pl,_⟩:=I.list hq;refine⟨pl.isList.typeIs,λa e=>?_⟩;cases e;obtain⟨o,n,e,c,hd,_⟩:=pl;exact⟨o,e,hd⟩
  ·refine⟨⟨o,I.kIn p o hk,hc⟩,λa e=>?_⟩;cases e;exact⟨o,I.kIn _ o hk,hd⟩
  ·have z:∃o,s.heap.get? p=some o/\o.ExactDict:=by
    rcases hk with ⟨kvs,hk⟩|⟨kvs,hk⟩
    ·obtain⟨_,_,_,_,o,_,_,e,ex,_⟩:=I.hok p _ hk;exact⟨o,e,ex⟩
    ·obtain⟨_,_,_,_,o,_,_,e,ex,_⟩:=I.hok p _ hk;exact⟨o,e,ex⟩
   obtain⟨o,e,ex⟩:=z;refine⟨⟨o,e,ex.1⟩,λa e2=>?_⟩;cases e2;exact⟨o,e,ex.2.1⟩
  ·obtain⟨o,_,_,_,e,ex,_⟩:=I.hok p _ hk;refine⟨⟨o,e,ex.1⟩,λa e2=>?_⟩;cases e2;exact⟨o,e,ex.2.1⟩
 |_=>exact bC ty
noncomputable def tBM(K:aC)(T:String)(r:V->List V->Hp->VK->Prop)(to:TE)(t:TA):TE:=λσ H Q=>to σ H λx H1=>tyV K T x H1/\t σ H1 λxs H2=>r x xs H2 Q
variable{o e:Expr}{es:List Expr}{to:TE}{t:TA}{name:Str}{apos cpos:Pos}{T id:String}{r:V->List V->Hp->VK->Prop}
theorem jz(pa:PlainAttrs T)(slot:Slot T name id)(hty:typeOf (.builtin id)=pure (.type "method_descriptor"))(hm:MtR X id r)(ho:PE X o to)(ha:PA X (e::es) t)
  (hbase:attributeBase o name X.env (eval o X.env)=eval o X.env:=by rfl)
  (hfew:((backTo cpos (aY (e::es) X.env)).all (λx=>!x.1)&&(backToKw cpos (keywordEach [] X.env)).all (λx=>x.1.isSome)
   && decide ((e::es).length+([]:List Keyword).length+(if ([]:List Keyword).isEmpty then 0 else 1)<30))=true:=by rfl)
  (hline:(apos.endLine==cpos.line)=true:=by rfl) (hs:aY (e::es) X.env=(false,eval e X.env)::aY es X.env:=by rfl) (hplain:(backTo cpos (aY es X.env)).any (·.1)=false:=by rfl) :
  PE X (.Call (.Attribute o name apos) (e::es) [] cpos) (tBM X.K T r to t):=by
 intro pins s σ H Q I h;refine wpAny_Call_method_late hbase hfew hline rfl (thn (ho pins s σ H _ I h) λv s1 ⟨x,H1,I1,r1,ty,q1⟩=>?_);obtain⟨h1,h2⟩:=G6 I1 r1 ty;refine⟨T,id,pa,slot,hty,h1,h2,?_⟩;have hA:=ha cpos pins s1 σ H1 _ I1 q1;rw[hs]at hA ⊢;refine Calls.callWith_builtin (by show (false||(backTo cpos (aY es X.env)).any (·.1))=false;rw[hplain]<;>rfl) (Calls.evalArgs_plain ?_);exact thn hA λus s2 ⟨vs,H2,I2,r2,q2⟩=>hm pins s2 σ H2 x vs v us Q I2 r1 r2 q2
/- xs.append(e), list.index on a module's tuple .. are MtR facts of 06m -/
end
noncomputable def MtM(X:Cx)(id:String)(r:V->List V->Hp->VK->Prop):Prop:=
 ∀(pins:List (Addr×Obj)) (s:af) (σ:St) (H:Hp) (x:V) (xs:List V) (v:ae) (us:List ae) (Q:VK),Inv X pins σ H s->RelV x v->Vals xs us->r x xs H Q ->
  aq (ao X.prog X.w) X.A (call (.builtin id) (v::us)) (EP X pins σ Q) X.xe s
theorem Vals.one{x:V}{us:List ae}(h:Vals [x] us):∃u,us=[u]/\RelV x u:=by
 cases h with
 |cons r h=>cases h;exact⟨_,rfl,r⟩
theorem Vals.two{x y:V}{us:List ae}(h:Vals [x,y] us):∃u v,us=[u,v]/\RelV x u/\RelV y v:=by
 cases h with
 |cons r h=>cases h with
  |cons q h=>cases h;exact⟨_,_,rfl,r,q⟩
theorem Vals.zero:∀{us:List ae},Vals [] us->us=[]
 |_,.nil=>rfl
theorem Vals.eraseIdx:∀{xs:List V}{us:List ae} (i:Nat),Vals xs us->Vals (xs.eraseIdx i) (us.eraseIdx i)
 |_,_,_,.nil=>.nil
 |_,_,0,.cons _ t=>t
 |_,_,i+1,.cons r t=>.cons r (Vals.eraseIdx i t)
theorem sS{α:Type}:∀(l:List α) (i:Nat),(l.eraseIdx i).length<=l.length
 | [],_=>aG _
 |_::_,0=>Nat.le_succ _
 |_::r,i+1=>Nat.succ_le_succ (sS r i)
section
variable{X:Cx}{pins:List (Addr×Obj)}{σ:St}{H:Hp}{s:af}{l b:Addr}{xs ys zs:List V}
theorem Inv.lset{its its':List ae}{n:Nat}{f:Array ae->Array ae}{t':Nat}(I:Inv X pins σ H s)(hH:H l=some (.lst xs))
  (e:s.heap.get? l=some {cls:=.type "list",data:=.seq its.toArray n}) (hf:f its.toArray=its'.toArray) (hv:Vals ys its') (hz:ys.length<=aP) :
  Inv X pins σ (upd H l (.lst ys)) {s with heap:=s.heap.update l (bt f),toks:=t'}:=by
 have q:=PySem.IsL.update e f;rw[hf]at q;refine I.write (x:=l) (e:=l) (by rw[hH];exact trivial) (.inl rfl) (λb' u hb hu=>(Heap.get?_update_other s.heap (bt f) (Ne.symm hb)).trans hu) ⟨_,q⟩ ?_;exact⟨hz,its',_,hv,q⟩
theorem Inv.lnew{its:List ae}{t':Nat}(I:Inv X pins σ H s)(hv:Vals ys its)(hz:ys.length<=aP) :
  Inv X pins σ (upd H s.heap.objs.size (.lst ys)) {s with heap:=s.heap.push {cls:=.type "list",data:=.seq its.toArray},toks:=t'}:=
 I.laid (λ_ _ q=>Heap.get?_push_of_some _ q) (aG _) ⟨hz,its,0,hv,Heap.get?_push_size _ rfl⟩
theorem Inv.fresh(I:Inv X pins σ H s):H s.heap.objs.size=none:=I.hok.fresh (aG _)
theorem Inv.lstM(I:Inv X pins σ H s)(hH:H l=some (.lst xs)):xs.length<=aP/\∃(its:List ae) (n:Nat),Vals xs its/\xs.length=its.length/\s.heap.get? l=some {cls:=.type "list",data:=.seq its.toArray n}:=by
 obtain⟨z,its,n,r,e⟩:=I.hok l _ hH;exact⟨z,its,n,r,r.length,e⟩
theorem Ci{n:Nat}(h:n<=aP):Builtin.List.listTooLong n=false:=by
 unfold Builtin.List.listTooLong;exact decide_eq_false (by lia)
end
section
variable{X:Cx}
noncomputable def CA:V->List V->Hp->VK->Prop:=λx vs H Q=>∃l xs y,x=.ref l/\vs=[y]/\H l=some (.lst xs)/\xs.length<aP/\Q .non (upd H l (.lst (xs++[y])))
theorem uL:MtM X "list.append" CA:=by
 intro pins s σ H x vs v us Q I rx rv h;obtain⟨l,xs,y,rfl,rfl,hH,hz,q⟩:=h;cases rx;obtain⟨u,rfl,ru⟩:=rv.one;obtain⟨z,its,n,r,hl,e⟩:=I.lstM hH;refine call_meets F.slot_list_append ⟨_,e,rfl⟩ F.entry_list_append (F.args_list_append_2 _ _) (PySem.list_append l its.toArray n u (by rw[aV];lia)) ⟨e,?_⟩;refine⟨.non,_,I.lset (its':=its++[u]) hH e (by simp) (r.append (.cons ru .nil)) ?_,rfl,q⟩;rw[bH,List.length_singleton];lia
noncomputable def yy:V->List V->Hp->VK->Prop:=λx vs H Q=>∃l xs i k y,x=.ref l/\vs=[.int i]/\H l=some (.lst xs)/\-(2^63)<=i/\i<2^63/\seqIndex? i xs.length=some k/\xs[k]? = some y/\Q y (upd H l (.lst (xs.eraseIdx k)))
theorem Fs:MtM X "list.pop" yy:=by
 intro pins s σ H x vs v us Q I rx rv h;obtain⟨l,xs,i,k,y,rfl,rfl,hH,h1,h2,hk,hy,q⟩:=h;cases rx;obtain⟨u,rfl,ru⟩:=rv.one;obtain⟨t,rfl⟩:=ru;obtain⟨z,its,n,r,hl,e⟩:=I.lstM hH;obtain⟨w,hw,rw'⟩:=r.get hy;refine call_meets F.slot_list_pop ⟨_,e,rfl⟩ F.entry_list_pop (F.args_list_pop_2 _ _)
  (MeetsSeq.list_pop_at l its.toArray n i t k w (fitsIndex_both h1 h2) (by rw[aV,<-hl];exact hk) (by rw[<-Array.getElem?_toList];exact hw) (by rw[aV];lia)) ⟨e,?_⟩
 refine⟨y,_,I.lset (its':=its.eraseIdx k) hH e ?_ (r.eraseIdx k) ?_,rw',q⟩
 ·show its.toArray.eraseIdxIfInBounds k=(its.eraseIdx k).toArray;rw[List.eraseIdxIfInBounds_toArray]
 ·have:=sS xs k;lia
end
section
variable{prog:aA}{w:au}{A:aB}{E:ae->af->Prop}{s:af}
set_option maxRecDepth 100000 in
end
section
variable{X:Cx}
end
end L2
namespace Att
open PySem PySem.W PySem.Calls PyProof.Rows
theorem wj{P:Params}{h:Heap}:∀(ns:List Int) (vs:List ae),WellAll P h vs (ns.map WData.int)->ba vs ns:=by
 intro ns
 induction ns with
 |nil=>
  intro vs w;rw[List.map_nil]at w;cases w;exact .nil
 |cons n ns ih=>
  intro vs w;rw[aR]at w;cases w with
  |cons a b=>
   cases a;exact .cons _ _ (ih _ b)
theorem xX{l:OpenLaw}{n:Nat}(hn:l.most=some n){P:Params}{h:Heap}{args:List WData}{vals:List ae}
  (hpre:l.row.toRowW.claim.pre args=true) (hwl:WellAll P h vals args) :
  ∃a vs ns,vals=[bq a]/\args=[WData.list (ns.map WData.int)]/\h.get? a=some {cls:=.type "list",data:=.seq vs.toArray}/\ba vs ns/\ns.length<=n:=by
 have hsh:WShape.hasAll [] args [.list .int]=true:=(pre_splitW hpre).1;have hc:l.pre.holds [] {args:=args}=true:=(pre_splitW hpre).2;obtain⟨d,r,rfl,h1,h2⟩:=hasAllW_cons hsh;obtain rfl:=hasAllW_nil h2;obtain⟨xs,rfl,h3⟩:=hasW_list h1;obtain⟨ns,rfl⟩:=items_int h3;have hlen:ns.length<=n:=by
  unfold OpenLaw.pre at hc;have h4:(WTm.not (.lt (.lit (.int (n:Int))) (.len (.arg 0)))).holds [] {args:=[.list (ns.map .int)]}=true:=by
   have h4:=(holds_andW hc).1;rw[hn]at h4;exact h4
  have h5:=condW_of h4 (w_not (w_lt w_lit (w_len_list (w_arg rfl))));rw[aJ]at h5;refine Nat.le_of_not_lt λq=>?_
  have q':(n:Int)<((ns.length:Nat):Int):=by lia
  first
   | (rw[decide_eq_true q']at h5;exact absurd h5 (by decide))
   | (simp at h5;lia)
 cases hwl with
 |cons w1 w2=>
  cases w2;cases w1 with
  |list ho hall=>exact⟨_,_,ns,rfl,rfl,ho,wj ns _ hall,hlen⟩
theorem Bz(l:OpenLaw)(args:List WData):l.row.toRowW.claim.post args (.bool true) args=true:=
 postW_of (r:=l.row.toRowW) (X:=(true==true))
  (show WShape.has [] (.bool true) .bool=true by first|rfl|decide|simp[WShape.has,WShape.arms,WShape.armsAll])
  (show (WTm.eq .res (.lit (.bool true))).value [] {args:=args,res:=some (.bool true),after:=args}=some (.bool (true==true))from w_eq_bool (w_res rfl) w_lit) rfl
theorem El{l:OpenLaw}{n:Nat}{q:aA}{loose:List Str}{XP:(Str->Option ae)->Heap->Prop}{YP:au->Heap->Prop}{d:DefRec}
  (hn:l.most=some n) (hdf:d.params.defaults=[])
  (call:∀(w:au) (s₀ s₁:af) (mg mb:Str->Option ae) (fa:Addr) (o:Obj) (pm cd doc:ae) (a:Addr) (vs:List ae) (ns:List Int),
   Ground q loose [] XP w s₀ mg mb s₁.heap->YP w s₁.heap ->
   s₁.heap.get? fa=some o->o.data=.func (docDef d.name d.params d.body d.scope pm cd doc)->s₁.heap.CodeRec cd d.name->mg d.name=some (.ref fa) ->
   s₁.heap.get? a=some {cls:=.type "list",data:=.seq vs.toArray}->ba vs ns->ns.length<=n->s₁.gens = #[] ->
   codeAny (ao l.prog w) callerA (.call (.ref fa) ⟨[.ref a],[]⟩) (λr s'=>r=.ok (.ret (.bool true))/\OldK s₁.heap s'.heap/\s'.os=s₁.os/\AllBare s'.gens) s₁) :
  WalkO q loose XP YP l.row.toRowW d [] (λf vs=>PySem.call f vs):=by
 intro w s₀ s₁ mg mb G Y fa o pm cd doc dV kV ho hd hcd hD hmg hg args vals as hpre hlay hrd hwl hlo;obtain rfl:dV=.none:=Dflts.none hD hdf;obtain rfl:kV=.none:=Dflts.noKw hD;obtain⟨a,vs,ns,rfl,rfl,hobj,hints,hlen⟩:=xX hn hpre hwl;refine enter_call (cW (call w s₀ s₁ mg mb fa o pm cd doc a vs ns G Y ho (fd_plain hd) hcd hmg hobj hints hlen hg) λr s' hq=>?_);obtain⟨rfl,h2,h3,h4⟩:=hq;exact⟨.inl ⟨.bool true,.bool true,[],rfl,λ_=>rfl,.bool true,Bz l _,λ_=>⟨List.Pairwise.nil,λ_ hm=>(nomatch hm)⟩⟩,h2,h3,h4⟩
section
variable{prog:aA}{w:au}{A:aB}{E:ae->af->Prop}{s:af}{K:Frag}
end
end Att
namespace L2
open PySem PySem.Spec PyProof.Rows
theorem uB:∀{vs:List ae}{ns:List Int},ba vs ns->Vals (ns.map V.int) vs
 |_,_,.nil=>.nil
 |_,_,.cons n t h=>.cons ⟨t,rfl⟩ (uB h)
noncomputable def mM(H:Hp):Prop:=∀b,H b=none\/∃o xs,H b=some (.frz o (.lst xs))
theorem Dw{P:aA}{w:au}{K:aC}{mg mb:Str->Option ae}{CX:CXT}{k:Nat}{fa a:Addr}{fd:FuncData}{x:Str}{sp:Sp}{s₁:af}{vs:List ae}{ns:List Int}
  (KX:K.In s₁.heap) (hns:s₁.heap.Ns aD mg) (hb:s₁.heap.Ns builtinsNs mb) (hbb:∀x:Str,x≠"__name__"->mb x=bU x) (hlim:s₁.heap.NoLimit) (hg:s₁.gens = #[])
  (ha:s₁.heap.get? a=some {cls:=.type "list",data:=.seq vs.toArray}) (hi:ba vs ns) (hl:ns.length<=aP) (hr:dw k callerA)
  (F:∀base:Heap,K.In base->base.Ns aD mg->gq P w K mg base CX k fa fd [x] sp) (hbind:∀(s:af) (u:ae),BindsTo s fd ⟨[u],[]⟩ [(x,u)])
  (hsp:∀H:Hp,mM H->SqL K H a (ns.map V.int)->sp [.ref a] H (λv _=>v=.bl true) λ_ _ _=>False)
  (hCX:∀H e s',CX [] H s₁ (λ_ _ _=>False) e s'->False) :
  codeAny (ao P w) callerA (.call (.ref fa) ⟨[.ref a],[]⟩) (λr s'=>r=.ok (.ret (.bool true))/\OldK s₁.heap s'.heap/\s'.os=s₁.os/\AllBare s'.gens) s₁:=by
 have rv:=uB hi;have lenV:=hi.length
 -- from an abstract heap in which nothing but the script may be tracked
 have core:∀H:Hp,mM H->SqL K H a (ns.map V.int)->HOk P w H s₁.heap->(∀b,H b≠none->b=a)->(H a≠none->K.lookup a=none) ->
   codeAny (ao P w) callerA (.call (.ref fa) ⟨[.ref a],[]⟩) (λr s'=>r=.ok (.ret (.bool true))/\OldK s₁.heap s'.heap/\s'.os=s₁.os/\AllBare s'.gens) s₁:=by
  intro H hO hS hok hA hK;have base_of:∀{b:Addr}{o:Obj},s₁.heap.get? b=some o->H b=none->(fG s₁.heap H).get? b=some o:=λe n=>GC e n
  have noA:∀{b:Addr}{o:Obj}{es:Array DictEntry}{ep:Nat},s₁.heap.get? b=some o->o.data=.dict es ep->H b=none:=λ{b o es ep} e d=>by
   cases q:H b with
   |none=>rfl
   |some u=>
    have e':b=a:=hA b (by rw[q];simp);subst e';rw[ha]at e;cases e;have d':Data.seq vs.toArray _=Data.dict es ep:=d;cases d'
  have nsK:∀{b:Addr}{m:Str->Option ae},s₁.heap.Ns b m->(fG s₁.heap H).Ns b m:=λ{b m} ⟨o,es,ep,e,d,r⟩=>⟨o,es,ep,base_of e (noA e d),d,r⟩
  have hKb:K.In (fG s₁.heap H):=λb o e=>base_of (KX b o e) (by
   cases q:H b with
   |none=>rfl
   |some u=>
    have e':b=a:=hA b (by rw[q];simp);subst e';rw[hK (by rw[q];simp)]at e;cases e)
  have hM:Mod K mg (fG s₁.heap H):=⟨hKb,nsK hns,⟨mb,nsK hb,hbb⟩,let ⟨mc,h1,h2⟩:=hlim;⟨mc,nsK h1,h2⟩⟩
  have e0:iK P w K mg (fG s₁.heap H) callerA [] s₁ H:=⟨rfl,hM,λb o e=>AE e,Nat.le_of_eq (wu _ _),trivial,λb hb=>absurd (show b∈([]:List Addr)from hb) (by simp),hok,.of_eq hg⟩
  refine cW ((F _ hKb (nsK hns)).run callerA [] s₁ H ⟨[.ref a],[]⟩ [.ref a] [.ref a] _ _ hr e0 (hbind s₁ (.ref a)) (.cons rfl .nil) (hsp H hO hS)) λr s' h=>?_
  cases r with
  |error e=>exact(hCX H e s' h).elim
  |ok fl=>
   cases fl with
   |next=>exact bC h
   |brk=>exact bC h
   |cont=>exact bC h
   |ret u=>
    obtain⟨v,H',os,bare,un,hok',r',q⟩:=h;have q':v=.bl true:=q;subst q';obtain rfl:u=ae.bool true:=r';refine⟨rfl,OldK.of_keep λb o e=>?_,os,bare⟩;cases q:H b with
    |none=>exact un.keep b o e q (by intro z;exact absurd (show b∈([]:List Addr)from z) (by simp)) (by simp)
    |some u=>
     rcases hO b with z|⟨ob,xs,z⟩
     ·rw[q]at z;cases z
     ·have z2:=un.frzs b ob _ z;obtain⟨e1,_⟩:=hok b _ z;obtain⟨e2,_⟩:=hok' b _ z2;rw[e]at e1;cases e1;exact e2
 cases hk:K.lookup a with
 |some o=>
  -- the script is one of the module's own objects
  have e:=KX a o hk;rw[ha]at e;cases e;refine core (λ_=>none) (λ_=>.inl rfl) (.inr ⟨_,vs.toArray,_,hk,rfl,rfl,rfl,by rw[aV,lenV];exact hl,by simpa using rv⟩) (λb u z=>by have z':(none:Option HO)=some u:=z;cases z') (λb z=>absurd rfl z) λz=>absurd rfl z
 |none=>
  refine core (λb=>if b=a then some (.frz {cls:=.type "list",data:=.seq vs.toArray} (.lst (ns.map V.int)))else none) (λb=>?_) (.inl (.inr ⟨{cls:=.type "list",data:=.seq vs.toArray},if_pos rfl⟩)) (λb u z=>?_) (λb z=>?_) λ_=>hk
  ·by_cases hb:b=a
   ·exact .inr ⟨_,_,if_pos hb⟩
   ·exact .inl (if_neg hb)
  ·by_cases hb:b=a
   ·have z':=(if_pos hb).symm.trans z;cases z';subst hb;exact⟨ha,by rw[aJ];exact hl,vs,_,rv,ha⟩
   ·have z':=(if_neg hb).symm.trans z;cases z'
  ·by_cases hb:b=a
   ·exact hb
   ·exact absurd (if_neg hb) z
theorem Bs{l:PySem.W.OpenLaw}{n k:Nat}{q:aA}{loose:List Str}{XP:(Str->Option ae)->Heap->Prop}{YP:au->Heap->Prop}{d:DefRec}{K:Params->aC}{CX:au->CXT}{sp:au->Sp}{x:Str}
  (hn:l.most=some n) (hn2:n<=aP) (hdf:d.params.defaults=[]) (hr:dw k callerA)
  (hY:∀(w:au) (h:Heap),YP w h->(K w.params).In h)
  (F:∀(w:au) (mg:Str->Option ae) (fa:Addr) (h:Heap),(K w.params).In h->h.Ns aD mg->mg d.name=some (.ref fa) ->
   ∃fd:FuncData,(∀(s:af) (u:ae),BindsTo s fd ⟨[u],[]⟩ [(x,u)]) /\
    ∀base:Heap,(K w.params).In base->base.Ns aD mg->gq l.prog w (K w.params) mg base (CX w) k fa fd [x] (sp w))
  (hsp:∀(w:au) (H:Hp) (a:Addr) (ns:List Int),ns.length<=n->mM H->SqL (K w.params) H a (ns.map V.int)->sp w [.ref a] H (λv _=>v=.bl true) λ_ _ _=>False)
  (hCX:∀(w:au) (H:Hp) (s:af) (e:ae) (s':af),CX w [] H s (λ_ _ _=>False) e s'->False) :
  PySem.W.WalkO q loose XP YP l.row.toRowW d [] (λf vs=>PySem.call f vs):=by
 refine Att.El hn hdf λw s₀ s₁ mg mb fa o pm cd doc a vs ns G Y ho hd hcd hmg hobj hints hlen hg=>?_
 have KX:=hY w _ Y;obtain⟨fd,hb,hF⟩:=F w mg fa _ KX G.T.g hmg;exact Dw KX G.T.g G.T.b G.T.builtins G.T.nolimit hg hobj hints (bB hlen hn2) hr hF hb (λH hO hS=>hsp w H a ns hlen hO hS) λH e s'=>hCX w H s₁ e s'
end L2
/- THE LAST THEOREM (shape; LID, My.* are yours):
   My.Adr: a structure of the addresses that your layer names (classes, functions); My.Txt K t: a structure (Prop) of the equations over K;
   My.txt_mk : {K} {implicit addresses ..} (e1 : nsIn K mainGlobals "law" = some (some (.ref f))) (e2 : K.lookup f = some ⟨oc, od, .func (fnOf "law" "law" params body scope dV kV doc pm an cdv ct), sl⟩) (e3 : codeIn K cdv "law" = true) .. : ∃ t, My.Txt K t
set_option maxRecDepth 100000 in
set_option maxHeartbeats 0 in
theorem PySem.Challenge.cw_LID_holds : PySem.Challenge.rw_LID.Holds := by
 w_on; o_law; k_head; (case hw => w_witness2)
 k_fill
 refine L2.walk_of (l := PySem.Challenge.rw_LID) (n := 63) (k := 40) (x := "script") (CX := fun w => ..) (sp := fun _ => My.sp_law) rfl (by decide) rfl ⟨rfl, by decide, by decide⟩ (fun w h Y => PySem.W.kIn_of Y) ?F ?S ?C
 case F =>
  intro w mg fa h KX G hmg;have T : ∃ t, My.Txt (L2.KOf KX) t := by
   dsimp only [L2.KOf]                          -- K must stand as «<heap const> w.params» for k_is
   refine' My.txt_mk ?e1 ?e2 ?e3 ..
   (case e1 => PySem.W.k_is)                    -- in the order: a name -> its address -> its object -> its parts
   (case e2 => PySem.W.k_is)
   ..
  obtain ⟨t, T⟩ := T;have e0 := hmg.symm.trans (PySem.W.mg_of KX G T.law);cases e0                                       -- fa is the law's own address
  exact ⟨_, fun s u => .of_eq rfl, fun base kb nb => My.law_fn T kb nb⟩     -- if «.of_eq rfl» comes too early: refine' ⟨_, ?b, fun base kb nb => My.law_fn T kb nb⟩; exact fun s u => .of_eq rfl
 case S => exact fun w H a ns hl hO hS => ..
 case C => exact ..
(the tactic k_is has no namespace: write k_is) -/
namespace L2
open PySem PySem.Spec PyProof.Rows
noncomputable def zC(s:Stmt):Arguments:=match s with
 | .FunctionDef _ a _ _ _ _ _ _ _ _=>a
 |_=>{posonlyargs:=[],args:=[],vararg:=none,kwonlyargs:=[],kw_defaults:=[],kwarg:=none,defaults:=[]}
noncomputable def eV(s:Stmt):List Stmt:=match s with
 | .FunctionDef _ _ b _ _ _ _ _ _ _=>b
 |_=>[]
noncomputable def zt(s:Stmt):Scope:=match s with
 | .FunctionDef _ _ _ _ _ _ sc _ _ _=>sc
 |_=>{kind:=.function,names:=[],isGenerator:=false,isCoroutine:=false}
abbrev E0:XK:=λ_ _ _=>False
structure Fun(K:aC)(x qual:Str)(st:Stmt)(f:Addr)(fd:FuncData):Prop where
 ex:∃(oc:ae) (od:Option Addr) (kV doc pm:ae) (an:Option Addr) (cdv ct:ae) (osl:Array (Option ae)),
  fd=cV x qual (zC st) (eV st) (zt st) .none kV doc pm an cdv ct/\K.lookup f=some ⟨oc,od,.func fd,osl⟩/\PySem.W.codeIn K cdv qual=true
 kp:dI K (.ref f)=true
section
variable{P:aA}{w:au}{K:aC}{mg:Str->Option ae}{base:Heap}
theorem Fun.binds{x qual:Str}{st:Stmt}{f:Addr}{fd:FuncData}{ps:List Str}(F:Fun K x qual st f fd)
  (h:∀(kV doc pm:ae) (an:Option Addr) (cdv ct:ae) (us:List ae),us.length=ps.length->bindArgs (cV x qual (zC st) (eV st) (zt st) .none kV doc pm an cdv ct) ⟨us,[]⟩=pure (ps.zip us)):Binds K fd ps []:=by
 obtain⟨oc,od,kV,doc,pm,an,cdv,ct,osl,rfl,lk,hcd⟩:=F.ex;exact .all (h kV doc pm an cdv ct)
theorem u_{x qual:Str}{st:Stmt}{f:Addr}{oc:ae}{od an:Option Addr}{osl:Array (Option ae)}{kV doc pm cdv ct:ae}(l:K.lookup f=some ⟨oc,od,.func (cV x qual (zC st) (eV st) (zt st) .none kV doc pm an cdv ct),osl⟩)
  (c:PySem.W.codeIn K cdv qual=true) (k:dI K (.ref f)=true):Fun K x qual st f (cV x qual (zC st) (eV st) (zt st) .none kV doc pm an cdv ct):=⟨⟨oc,od,kV,doc,pm,an,cdv,ct,osl,rfl,l,c⟩,k⟩
end
section
variable{X:Cx}
end
noncomputable def qe(H H':Hp):Prop:=∀b o,H b=some o->H' b=some o
theorem qe.refl(H:Hp):qe H H:=λ_ _ h=>h
theorem qe.trans{H H1 H2:Hp}(a:qe H H1)(b:qe H1 H2):qe H H2:=λc o h=>b c o (a c o h)
theorem qe.free{H H':Hp}(e:qe H H'){l:Addr}(h:H' l=Option.none):H l=Option.none:=by
 cases q:H l with
 |none=>rfl
 |some o=>
  rw[e l o q]at h;cases h
theorem qe.seq{K:aC}{H H':Hp}{a:Addr}{xs:List V}(e:qe H H')(h:SqL K H a xs):SqL K H' a xs:=by
 rcases h with (h|⟨o,h⟩)|h
 ·exact .inl (.inl (e _ _ h))
 ·exact .inl (.inr ⟨o,e _ _ h⟩)
 ·exact .inr h
noncomputable def fQ(elt:Expr)(gens:List cU)(scope:bf)(pos:Pos)(d:Nat)(acc:ae)(env:Env):Sem Unit:=
 match gens[d+1]? with
 |some g'=>do
  let x <-eval g'.iter env
  standAt g'.iter.pos
  let x <-foldedSetIterable g'.iter env x
  let _ <-runOwn (.compStart (.ListComp elt gens scope pos) (d+1) (<-holding [x] (pyIter x)) acc env) env
  pure ()
 |none=>do
  let _ <-call (.builtin "list.append") [acc,<-eval elt env]
  pure ()
theorem xB{elt:Expr}{gens:List cU}{scope:bf}{pos:Pos}{d:Nat}{g:cU}{it acc:ae}{env:Env}(hg:gens[d]? = some g)(ha:g.is_async=0)
  (hn:∀g',gens[d+1]? = some g'->g'.is_async=0) :
  compTurn (.ListComp elt gens scope pos) d it acc env=(do
   standAt g.iter.pos
   match <-pyNext it with
   |none=>pure (.done .next)
   |some v=>
    letOwnedTupleGo g.target it v
    assign g.target env v
    let ok <-(forIn g.ifs true λc r=>if r=true then do let ok <-isTrue c env (eval c env);pure (dW ok)else pure (dW r))
    if ok then
     fQ elt gens scope pos d acc env
     again (.compLoop (.ListComp elt gens scope pos) d it acc env)
    else again (.compLoop (.ListComp elt gens scope pos) d it acc env)):=by
 unfold compTurn;cases e:gens[d+1]? with
 |none=>
  simp only[hg,ha,e,fQ]
  rfl
 |some g'=>
  have ha':=hn g' e;simp only[hg,ha,e,ha',fQ];simp only[bne_self_eq_false,bD,if_false,bind_assoc,pure_bind]
  rfl
theorem vV{prog:aA}{w:au}{A:aB}{R:Result->af->Prop}{s:af}{elt:Expr}{gens:List cU}{scope:bf}{pos:Pos}{d:Nat}{g:cU}{it acc:ae}{env:Env}
  (hg:gens[d]? = some g) (ha:g.is_async=0)
  (h0:codeAny (ao prog w) A (.compLoop (.ListComp elt gens scope pos) d it acc env) R s)
  (h:aq (ao prog w) A (pyIter it) (λit' s'=>codeAny (ao prog w) A (.compLoop (.ListComp elt gens scope pos) d it' acc env) R s')
   (notedBy (ao prog w) A env λx s'=>R (.error x) s') s) :
  codeAny (ao prog w) A (.compStart (.ListComp elt gens scope pos) d it acc env) R s:=by
 refine codeAny_of_tree ?_;show aq _ _ ((compStart (.ListComp elt gens scope pos) d it acc env).onRaise (λx=>do noteFrame x env;standAt theWindowsPlace)) _ _ s;refine wpAny_notedAt ?_;unfold compStart;have e2:(clausesOf (.ListComp elt gens scope pos))[d]? = some g:=hg;simp only[e2];rw[if_neg (by show ¬ (g.is_async != 0)=true;simp[ha])];show aq _ _ (ask>>=_) _ _ s;refine ah (wpAny_askSetting (wpAny_ite ?_));split
 ·first
   |exact ah (aE (aE (aw rfl h0)))
   |exact aE (aw rfl h0)
 ·first
   |exact ah (wpAny_rule (ah (wpAny_standAt (ah (b5 h (λit' s' h'=>aE (aw rfl h')) λ_ _ x=>x)))))
   | (refine ah (wpAny_rule ?_);show aq _ _ (standAt g.iter.pos>>=_) _ _ s;exact ah (wpAny_standAt (ah (b5 h (λit' s' h'=>aE (aw rfl h')) λ_ _ x=>x))))
noncomputable def PTs(Y:Cx)(ifs:List Expr)(t:TT):Prop:=
 ∀(pins:List (Addr×Obj)) (s:af) (σ:St) (H:Hp) (Q:Bool->Hp->Prop),Inv Y pins σ H s->t σ H Q ->
  aq (ao Y.prog Y.w) Y.A (forIn ifs true λc r=>if r=true then do let ok <-isTrue c Y.env (eval c Y.env);pure (dW ok)else pure (dW r)) (TP Y pins σ Q) Y.xe s
noncomputable def Bg:TT:=λ_ H Q=>Q true H
theorem DQ{Y:Cx}:PTs Y [] Bg:=λ_ _ _ H _ I h=>wpAny_tests_nil ⟨H,I,h⟩
theorem Eb{Y:Cx}{c:Expr}{t:TT}(hc:PT Y c t):PTs Y [c] t:=λpins s σ H Q I h=>wpAny_tests_one (hc pins s σ H Q I h)
noncomputable def PB(Y:Cx)(m:Sem Unit)(t:TS):Prop:=
 ∀(pins:List (Addr×Obj)) (s:af) (σ:St) (H:Hp) (D:Ends),Inv Y pins σ H s->t D σ H ->
  aq (ao Y.prog Y.w) Y.A m (λ_ s'=>∃σ' H',Inv Y pins σ' H' s'/\D.nx σ' H') Y.xe s
section
variable{Y:Cx}{elt:Expr}{gens:List cU}{scope:bf}{pos:Pos}{d:Nat}
noncomputable def j6(acc:Addr)(te:TE):TS:=λD σ H=>te σ H λy H1=>∃xs,H1 acc=some (.lst xs)/\xs.length<aP/\D.nx σ (upd H1 acc (.lst (xs++[y])))
theorem o3{acc:Addr}{te:TE}(hn:gens[d+1]? = none)(he:PE Y elt te):PB Y (fQ elt gens scope pos d (.ref acc) Y.env) (j6 acc te):=by
 intro pins s σ H D I h;unfold fQ;rw[hn];refine ah (thn (he pins s σ H _ I h) λu s1 ⟨y,H1,I1,r1,xs,hx,hz,q⟩=>?_);refine ah (thn (uL pins s1 σ H1 (.ref acc) [y] (.ref acc) [u] (λ_ H'=>D.nx σ H') I1 rfl (.cons r1 .nil) ⟨acc,xs,y,rfl,rfl,hx,hz,q⟩) λ_ s2 ⟨_,H2,I2,_,q2⟩=>?_);exact aE ⟨σ,H2,I2,q2⟩
theorem B'{g:cU}{it:Addr}{acc:ae}{fp:List Addr}{tn:Nat->Heap->Prop}{J:It}{tg:TG}{tt:TT}{tb:TS}(hc:Y.calm=true)(hx:∀e s,¬ Y.xe e s)(hg:gens[d]? = some g)(ha:g.is_async=0)
  (hn:∀g',gens[d+1]? = some g'->g'.is_async=0) (T:Turn Y.prog Y.w Y.K g.target J fp it tn) (pg:PG Y g.target tg) (pt:PTs Y g.ifs tt) (pb:PB Y (fQ elt gens scope pos d acc Y.env) tb)
  {pins:List (Addr×Obj)}{s:af}{σ:St}{H:Hp}{D:Ends} (I:Inv Y pins σ H s) (st:tn 0 s.heap) (fr:∀b∈fp,eA Y pins H b)
  (h:∃W:Nat->Nat->St->Hp->Prop,(∃m,W 0 m σ H)/\∀i m σ H,W i m σ H ->
   (J.stop i H/\D.nx σ H)\/(J.go i H/\∃N:St->Hp->Prop,(∀σ' H',N σ' H'->∃m',m'<m/\W (i+1) m' σ' H')/\∀x H',J.yld i H x H'->tg x σ H' λσ2 H2=>jR tt tb iY {D with nx:=N,ct:=N,bk:=D.nx} σ2 H2)) :
  codeAny (ao Y.prog Y.w) Y.A (.compLoop (.ListComp elt gens scope pos) d (.ref it) acc Y.env) (λr s'=>r=.ok .next/\∃σ' H',Inv Y pins σ' H' s'/\D.nx σ' H') s:=by
 obtain⟨W,⟨m0,w0⟩,turn⟩:=h;have stat:∀{H':Hp},(∀b∈fp,H' b=none)->∀b∈fp,eA Y pins H' b:=λhn b hb=>⟨hn b hb,(fr b hb).2⟩
 refine codeAny_loop rfl (λn s'=>∃i σ' H',Inv Y pins σ' H' s'/\tn i s'.heap/\(∀b∈fp,H' b=none)/\W i n σ' H') ?_ m0 ⟨0,σ,H,I,st,λb hb=>(fr b hb).1,w0⟩;rintro n s3 ⟨i,σ3,H3,I3,st3,fr3,w3⟩;show aq _ Y.A ((compTurn (.ListComp elt gens scope pos) d (.ref it) acc Y.env).onRaise (λx=>do noteFrame x Y.env;theTreesLotGoes x)) _ _ s3;refine wpAny_noted ?_;rw[xB hg ha hn];have nox:∀{E:ae->af->Prop} (e:ae) (s:af),Y.xe e s->E e s:=λe s z=>absurd z (hx e s)
 refine ah (wpAny_standAt ?_);rcases turn i n σ3 H3 w3 with ⟨stop,qn⟩|⟨go,N,hN,step⟩
 ·refine ah (thn (T.done Y rfl rfl rfl hc i pins s3 σ3 H3 _ I3 (stat fr3) st3 stop) λr s4 ⟨hr,I4⟩=>?_);subst hr;exact aE ⟨rfl,σ3,H3,I4,qn⟩
 ·refine ah (thn (T.item Y rfl rfl rfl hc i pins s3 σ3 H3 _ I3 (stat fr3) st3 go) λr s4 ⟨u,hr,h4⟩=>?_);subst hr;refine ah (thn h4 λ_ s5 ⟨x,H5,I5,r5,y5,st5,fr5⟩=>?_);have I5':=I5.pinned (stat fr5) (T.obj _ _ st5);refine ah (b5 (pg _ s5 σ3 H5 x u _ I5' r5 (step x H5 y5)) (λ_ s6 ⟨σ6,H6,I6,q6⟩=>?_) nox);have again:∀{s7:af}{σ7:St}{H7:Hp},Inv Y (pins++jj fp s5.heap) σ7 H7 s7->N σ7 H7->∃m,m<n/\∃i σ' H',Inv Y pins σ' H' s7/\tn i s7.heap/\(∀b∈fp,H' b=none)/\W i m σ' H':=λ{s7 σ7 H7} I7 n7=>by
   obtain⟨m',hm,w7⟩:=hN σ7 H7 n7;refine⟨m',hm,i+1,σ7,H7,I7.unpinned,T.keep _ _ _ st5 λb hb o e=>(I7.pin (b,o) (b8 _ (b8 _ (kh hb e)))).1,λb hb=>?_,w7⟩;obtain⟨o,e,d⟩:=T.obj _ _ st5 b hb;exact(I7.pin (b,o) (b8 _ (b8 _ (kh hb e)))).2.1
  refine ah (b5 (pt _ s6 σ6 H6 _ I6 q6) (λb s7 ⟨H7,I7,q7⟩=>?_) nox);cases b with
  |true=>
   rw[if_pos rfl];rw[if_pos rfl]at q7;refine ah (b5 (pb _ s7 σ6 H7 _ I7 q7) (λ_ s8 ⟨σ8,H8,I8,q8⟩=>?_) nox);exact aE ⟨rfl,again I8 q8⟩
  |false=>
   rw[if_neg b9];rw[if_neg b9]at q7;exact aE ⟨rfl,again I7 q7⟩
end
theorem m9{env:Env}:∀{names:List (Str×a7)}{cs:List (Str×Addr)},(∀x∈names,x.2=.free->∃c,env.cells.lookup x.1=some c) ->
  ∃cl,(forIn names cs (λ(x:Str×a7) (cs:List (Str×Addr))=>if (x.2==cf)=true then do let c <-cellOf env x.1;pure (dW ((x.1,c)::cs))else pure (dW cs)):Sem (List (Str×Addr)))=pure cl /\
   (∀x c,cl.lookup x=some c->env.cells.lookup x=some c\/cs.lookup x=some c)/\(∀x,(∃c,cs.lookup x=some c)->∃c,cl.lookup x=some c)/\∀x∈names,x.2=.free->∃c,cl.lookup x.1=some c
 | [],cs,_=>⟨cs,by rw[List.forIn_nil],λ_ _ h=>.inr h,λ_ h=>h,λ_ h=>nomatch h⟩
 | (n,k)::r,cs,h=>by
  rw[List.forIn_cons];by_cases hk:k=.free
  ·subst hk;obtain⟨c,hc⟩:=h (n,.free) aK rfl;have e:cellOf env n=pure c:=by
    have hc':env.cells.lookup n=some c:=hc;unfold cellOf;rw[hc']
   obtain⟨cl,e1,e2,e3,e4⟩:=m9 (names:=r) (cs:=(n,c)::cs) λx hx=>h x (aO _ hx)
   refine⟨cl,?_,λx c' q=>?_,λx q=>e3 x ?_,λx hx hf=>?_⟩
   ·simp only[beq_self_eq_true,if_true,e,pure_bind];exact e1
   ·rcases e2 x c' q with z|z
    ·exact .inl z
    ·rw[bJ]at z;by_cases hxn:(x==n)=true
     ·rw[hxn]at z;have:x=n:=by simpa using hxn
      subst this;cases z;exact .inl hc
     ·have hxn':(x==n)=false:=by simpa using hxn
      rw[hxn']at z;exact .inr z
   ·rw[bJ];by_cases hxn:(x==n)=true
    ·rw[hxn];exact⟨c,rfl⟩
    ·have hxn':(x==n)=false:=by simpa using hxn
     rw[hxn'];exact q
   ·rcases aF.mp hx with z|z
    ·subst z;exact e3 n ⟨c,by rw[bJ,beq_self_eq_true]⟩
    ·exact e4 x z hf
  ·have hk':(k==cf)=false:=by simpa using hk
   obtain⟨cl,e1,e2,e3,e4⟩:=m9 (names:=r) (cs:=cs) λx hx=>h x (aO _ hx)
   refine⟨cl,?_,e2,e3,λx hx hf=>?_⟩
   ·simp only[hk',bD,if_false,pure_bind];exact e1
   ·rcases aF.mp hx with z|z
    ·subst z;exact absurd hf hk
    ·exact e4 x z hf
theorem sF{env:Env}{scope:bf}(h:∀x∈scope.names,x.2=.free->∃c,env.cells.lookup x.1=some c) :
  ∃cl,closureFor scope env=pure cl/\(∀x c,cl.lookup x=some c->env.cells.lookup x=some c)/\∀x∈scope.names,x.2=.free->∃c,cl.lookup x.1=some c:=by
 obtain⟨cl,e1,e2,_,e4⟩:=m9 (env:=env) (names:=scope.names) (cs:=[]) h;refine⟨cl,?_,λx c q=>(e2 x c q).elim (λz=>z) (λz=>by simp at z),e4⟩;have e:closureFor scope env=(forIn scope.names [] (λ(x:Str×a7) (cs:List (Str×Addr))=>if (x.2==cf)=true then do let c <-cellOf env x.1;pure (dW ((x.1,c)::cs))else pure (dW cs))>>=λcs=>pure cs):=rfl;rw[e,e1,pure_bind]
theorem kg{env:Env}:∀{names:List (Str×a7)}{x:Str}{k:a7},
  (names.map λ(n,k)=>if (k==cf&&env.scope.kind==.function&&env.kindOf n==some .cell)then (n,a7.cell)else (n,k)).lookup x=some k ->
  names.lookup x=some k\/(k=.cell/\names.lookup x=some .free)
 | [],_,_,h=>by simp at h
 | (n,k')::r,x,k,h=>by
  have ih:=@kg env r x k;have h':List.lookup x ((if (k'==cf&&env.scope.kind==.function&&env.kindOf n==some .cell)=true then (n,a7.cell)else (n,k'))::r.map (λ(n,k)=>if (k==cf&&env.scope.kind==.function&&env.kindOf n==some .cell)then (n,a7.cell)else (n,k)))=some k:=h;cases hx:x==n with
  |true=>
   by_cases hc:(k'==cf&&env.scope.kind==.function&&env.kindOf n==some .cell)=true
   ·rw[if_pos hc]at h';simp only[bJ,hx]at h';cases h';have:k'=.free:=by
     have z:(k'==cf)=true:=by
      cases q:(k'==cf)with
      |true=>rfl
      |false=>rw[q]at hc;simp at hc
     simpa using z
    subst this;exact .inr ⟨rfl,by simp[bJ,hx]⟩
   ·rw[if_neg hc]at h';simp only[bJ,hx]at h';cases h';exact .inl (by simp[bJ,hx])
  |false=>
   have h2:(r.map (λ(n,k)=>if (k==cf&&env.scope.kind==.function&&env.kindOf n==some .cell)then (n,a7.cell)else (n,k))).lookup x=some k:=by
    by_cases hc:(k'==cf&&env.scope.kind==.function&&env.kindOf n==some .cell)=true
    ·rw[if_pos hc]at h';simpa only[bJ,hx]using h'
    ·rw[if_neg hc]at h';simpa only[bJ,hx]using h'
   rcases ih h2 with z|z
   ·exact .inl (by simpa only[bJ,hx]using z)
   ·exact .inr ⟨z.1,by simpa only[bJ,hx]using z.2⟩
noncomputable def iT(names:List (Str×a7)):List Str:=(names.filter λy=>y.2==.cell).map (·.1)
theorem mK:∀(names:List (Str×a7)) (n:Nat) (a b:List (Str×Addr)),bz n names (a++b)=bz n names a++b
 | [],_,_,_=>rfl
 | (x,k)::r,n,a,b=>by
  unfold bz;split
  ·exact mK r (n+1) ((x,n)::a) b
  ·exact mK r n a b
theorem mv{x:Str}{c:Addr}:∀{names:List (Str×a7)}{n:Nat}{a:List (Str×Addr)},(x,c)∈bz n names a->(x,c)∈a\/(x,a7.cell)∈names
 | [],_,_,h=>.inl h
 | (y,k)::r,n,a,h=>by
  unfold bz at h;split at h
  ·rename_i hk
   rcases mv h with z|z
   ·rcases aF.mp z with q|q
    ·have hk:k=.cell:=by simpa using hk
     cases q;exact .inr (by rw[hk];exact aK)
    ·exact .inl q
   ·exact .inr (aO _ z)
  ·rcases mv h with z|z
   ·exact .inl z
   ·exact .inr (aO _ z)
theorem Fc{M:Model}{A:aB}{E:ae->af->Prop}{s:af}{scope:bf}{globals:Addr}{cl:List (Str×Addr)}{qual:Str}{env:Env}{Q:Env->af->Prop}
  (hQ:∀h₁,h₁.Ns s.heap.objs.size (λ_=>none)->(∀b o,s.heap.get? b=some o->h₁.get? b=some o)->CellsOk h₁ (s.heap.objs.size+1) (bz (s.heap.objs.size+1) scope.names []) ->
   Q (newEnv scope s.heap.objs.size globals (bz (s.heap.objs.size+1) scope.names []++cl) qual none .none (some env) builtinsNs) {s with heap:=h₁}) :
  aq M A (newFunctionEnv scope globals cl [] qual none .none (some env)) Q E s:=by
 simp only[newFunctionEnv,Option.isSome_some,if_true];refine ah (wpAny_alloc ?_);refine ah (wpAny_layCells _ (λname kind cells=>by cases hkc:kind==a7.cell<;>simp[hkc]) _ _ _ _ ?_);have ok:=cellsFrom_ok scope.names (s.heap.push {cls:=.type "dict",data:=.dict #[]}) (s.heap.objs.size+1) [] ⟨λ_ _ hm=>(nomatch hm),List.Pairwise.nil⟩ (by rw[bK];exact aG _);rw[bK]at ok;rw[show ({s with heap:=s.heap.push {cls:=.type "dict",data:=.dict #[]}}:af).heap.objs.size=s.heap.objs.size+1 from bK ..];rw[show cl=[]++cl from rfl,mK];rw[List.forIn_nil];exact ah (aE (aE (hQ _ ((Heap.Ns.new s.heap (.type "dict")).keeps (pushCells_keeps _ _)) (λb o e=>pushCells_keeps _ _ b o (Heap.get?_push_of_some _ e)) ok)))
noncomputable def zX(X:Cx)(NY:List Str)(scope:bf)(cl:List (Str×Addr))(C:Addr)(s₀:af)(H₀:Hp)(fp:List Addr):Cx where
 prog:=X.prog
 w:=X.w
 K:=X.K
 mg:=X.mg
 base:=X.base
 A:=X.A
 N:=NY
 s₀:=s₀
 H₀:=H₀
 env:=compEnvC scope (bz (C+1) scope.names []++cl) C X.env
 outer:=X.stack
 stack:=X.stack
 ex:=fp
 fn:=λx=>(iT scope.names).contains x
 calm:=X.calm
 pn:=[]
 xe:=λ_ _=>False
noncomputable def caps(cap:List (Option Nat))(σ:St):St:=cap.map λo=>o.bind λj=>(σ[j]?).join
noncomputable def ui(X:Cx)(NY:List Str)(cap:List (Option Nat))(scope:bf):Prop:=
 cap.length=NY.length/\∀(i j:Nat),cap[i]? = some (some j)->∃x,NY[i]? = some x/\X.N[j]? = some x/\scope.names.lookup x=some .free/\(X.env.kindOf x=some .cell\/X.env.kindOf x=some .free)
structure eS(X:Cx)(NY:List Str)(cap:List (Option Nat))(scope:bf):Prop where
 kind:scope.kind=.function
 cells:∀y∈scope.names,y.2=.cell->scope.names.lookup y.1=some .cell
 names:∀y∈scope.names,y.2=.local->scope.names.lookup y.1=some .local
 free:∀y∈scope.names,y.2=.free->X.env.kindOf y.1=some .cell\/X.env.kindOf y.1=some .free
 cap:ui X NY cap scope
theorem Hi{cap:List (Option Nat)}{σ:St}{i:Nat}{v:V}(h:(caps cap σ)[i]? = some (some v)):∃j,cap[i]? = some (some j)/\σ[j]? = some (some v):=by
 unfold caps at h;rw[List.getElem?_map]at h;cases e:cap[i]? with
 |none=>rw[e]at h;simp at h
 |some o=>
  rw[e]at h;cases o with
  |none=>simp at h
  |some j=>
   refine⟨j,rfl,?_⟩;have h':(σ[j]?).join=some v:=by simpa using h
   cases q:σ[j]? with
   |none=>rw[q]at h';cases h'
   |some z=>rw[q]at h';exact congrArg some h'
theorem Gx{X:Cx}{pins:List (Addr×Obj)}{σ:St}{H:Hp}{s:af}{NY:List Str}{cap:List (Option Nat)}{scope:bf}{cl:List (Str×Addr)}{fp:List Addr}{h₁:Heap}{m:Str->Option ae}
  (I:Inv X pins σ H s) (S:eS X NY cap scope) (hsub:∀x c,cl.lookup x=some c->X.env.cells.lookup x=some c) (hall:∀x∈scope.names,x.2=.free->∃c,cl.lookup x.1=some c)
  (hf:∀b∈fp,eA X pins H b) (hlt:∀b∈fp,b<s.heap.objs.size) (hn:h₁.Ns s.heap.objs.size m) (hk:∀b o,s.heap.get? b=some o->h₁.get? b=some o) (hcs:CellsOk h₁ (s.heap.objs.size+1) (bz (s.heap.objs.size+1) scope.names [])) {tk:Nat} :
  Inv (zX X NY scope cl s.heap.objs.size s H fp) [] (caps cap σ) H {s with heap:=h₁,toks:=tk}:=by
 have relx:∀x,(compEnvC scope (bz (s.heap.objs.size+1) scope.names []++cl) s.heap.objs.size X.env).kindOf x=some .cell\/(compEnvC scope (bz (s.heap.objs.size+1) scope.names []++cl) s.heap.objs.size X.env).kindOf x=some .free->scope.names.lookup x=some .free\/scope.names.lookup x=some .cell:=λx hx=>by
  rcases hx with q|q
  ·rcases kg (env:=X.env) (names:=scope.names) (x:=x) (k:=.cell) q with z|z
   ·exact .inr z
   ·exact .inl z.2
  ·rcases kg (env:=X.env) (names:=scope.names) (x:=x) (k:=.free) q with z|z
   ·exact .inl z
   ·exact .inl z.2
 have cnew:∀x c,cl.lookup x=some c->c<s.heap.objs.size:=λx c e=>by
  obtain⟨v,q⟩:=I.cell x c (hsub x c e);exact q.lt
 -- a cell is one of its own, or one from around
 have two:∀x c,(bz (s.heap.objs.size+1) scope.names []++cl).lookup x=some c->(x,c)∈bz (s.heap.objs.size+1) scope.names []\/cl.lookup x=some c:=λx c e=>by
  rw[List.lookup_append]at e;cases q:(bz (s.heap.objs.size+1) scope.names []).lookup x with
  |none=>rw[q]at e;exact .inr e
  |some c'=>rw[q]at e;cases e;exact .inl (cM q)
 have own1:∀x c,(x,c)∈bz (s.heap.objs.size+1) scope.names []->scope.names.lookup x=some .cell:=λx c e=>by
  rcases mv e with z|z
  ·cases z
  ·exact S.cells _ z rfl
 have ownA:∀x c,(x,c)∈bz (s.heap.objs.size+1) scope.names []->s.heap.objs.size<c:=λx c e=>(hcs.empty x c e).2
 have frl:∀x c,scope.names.lookup x=some .free->cl.lookup x=some c->(bz (s.heap.objs.size+1) scope.names []++cl).lookup x=some c:=λx c e1 e2=>by
  rw[List.lookup_append];cases q:(bz (s.heap.objs.size+1) scope.names []).lookup x with
  |none=>rw[e2];rfl
  |some c'=>have:=own1 x c' (cM q);rw[e1]at this;cases this
 refine⟨⟨I.ok.mod,S.kind,I.ok.glob,I.ok.blt,aG _,λx y c e1 e2=>?_,λx hx=>?_,λx c e e2=>?_,I.ok.hd,I.ok.frames,.inl rfl,λb hb=>?_,λb o e=>I.bs b o e,bB I.ok.bsz I.sz,λb o e hb=>?_,λb hb z=>?_,I.stack,I.stkFree⟩,
  rfl,I.bare,Un.kept hk,⟨m,hn,λi x v e1 e2 e3=>?_⟩,λx c e=>?_,I.hok.fresh (aG _),λx c e=>?_,λp hp=>absurd (show p∈([]:List (Addr×Obj))from hp) (by simp),I.hok.kept hk,?_⟩
 ·rcases two x c e1 with z1|z1<;>rcases two y c e2 with z2|z2
  ·exact name_of_addr hcs.apart z1 z2
  ·exact absurd (Nat.lt_trans (cnew y c z2) (ownA x c z1)) (bQ _)
  ·exact absurd (Nat.lt_trans (cnew x c z1) (ownA y c z2)) (bQ _)
  ·exact I.ok.inj x y c (hsub x c z1) (hsub y c z2)
 ·rcases relx x hx with z|z
  ·obtain⟨c,hc⟩:=hall (x,.free) (cM z) rfl;exact⟨c,frl x c z hc⟩
  ·obtain⟨c,hc⟩:=ki (n:=s.heap.objs.size+1) z;refine⟨c,?_⟩;show (bz (s.heap.objs.size+1) scope.names []++cl).lookup x=some c;rw[List.lookup_append,hc];rfl
 ·have e:(iT scope.names).contains x=true:=e;have hm:scope.names.lookup x=some .cell:=by
   simp only[iT,List.contains_iff_mem,aI,aX,beq_iff_eq]at e;obtain⟨y,⟨y1,y2⟩,rfl⟩:=e;exact S.cells y y1 y2
  rcases two x c e2 with z|z
  ·exact Nat.le_of_lt (ownA x c z)
  ·obtain⟨c',hc⟩:=ki (n:=s.heap.objs.size+1) hm;have e2:(bz (s.heap.objs.size+1) scope.names []++cl).lookup x=some c:=e2;rw[List.lookup_append,hc]at e2;cases e2;exact Nat.le_of_lt (ownA x _ (cM hc))
 ·obtain⟨f0,f1,f2,f3,f4,f5⟩:=hf b hb;refine⟨a_ (hlt b hb),λx c e=>?_⟩;rcases two x c e with z|z
  ·exact λw=>absurd (Nat.lt_trans (ownA x c z) (w▸hlt b hb)) (bQ _)
  ·exact f4 x c (hsub x c z)
 ·obtain⟨f0,f1,f2,f3,f4,f5⟩:=hf b hb;rcases f3 with z|z
  ·exact I.ok.noex b o e z
  ·exact absurd (bG (aM e) (bB I.ok.bsz z)) (bQ _)
 ·obtain⟨f0,f1,f2,f3,f4,f5⟩:=hf b hb;rcases aF.mp (I.stkSub b z)with q|q
  ·exact f1 q
  ·exact f2 q
 ·obtain⟨j,c1,c2⟩:=Hi e2;obtain⟨x',n1,n2,n3,n4⟩:=S.cap.2 i j c1;have ex:x'=x:=bT (n1.symm.trans e1);subst ex;obtain⟨m',_,hl⟩:=I.loc;obtain⟨u,r,l⟩:=hl j x' v n2 c2 (n4.elim (λz=>.inr (.inl z)) λz=>.inr (.inr z));refine⟨u,r,.inr ⟨?_,?_⟩⟩
  ·rcases e3 with z|z|z
   ·rcases kg (env:=X.env) (names:=scope.names) (x:=x') (k:=.local) z with q|q
    ·rw[n3]at q;cases q
    ·cases q.1
   ·exact .inl z
   ·exact .inr z
  ·rcases l with ⟨kk,_⟩|⟨_,c,ec,ic⟩
   ·rcases n4 with z|z
    ·rw[kk]at z;cases z
    ·rw[kk]at z;cases z
   ·obtain⟨c',ec'⟩:=hall (x',.free) (cM n3) rfl;have:=hsub x' c' ec';rw[ec]at this;cases this;obtain⟨o,ho,hd⟩:=ic;exact⟨c,frl x' c n3 ec',o,hk _ _ ho,hd⟩
 ·rcases two x c e with z|z
  ·exact⟨_,(hcs.empty x c z).1⟩
  ·obtain⟨v,o,ho,hd⟩:=I.cell x c (hsub x c z);exact⟨v,o,hk _ _ ho,hd⟩
 ·rcases two x c e with z|z
  ·exact I.hok.fresh (Nat.le_of_lt (ownA x c z))
  ·exact I.freeC x c (hsub x c z)
 ·show (caps cap σ).length=NY.length;unfold caps;rw[aJ];exact S.cap.1
noncomputable def lV(cap:List (Option Nat))(wi:TI)(tg:TG)(tt:TT)(tb:Addr->TS):TE:=λσ H Q=>wi σ H λJ H1=>∀acc,H1 acc=none ->
 ∃W:Nat->Nat->St->Hp->Prop,(∃m,W 0 m (caps cap σ) (upd H1 acc (.lst [])))/\∀i m τ H,W i m τ H ->
  (J.stop i H/\(Ends.mk (λ_ H=>Q (.ref acc) H) (λ_ _=>False) (λ_ _=>False) (λ_ _=>False)).nx τ H)\/(J.go i H/\∃N:St->Hp->Prop,(∀σ' H',N σ' H'->∃m',m'<m/\W (i+1) m' σ' H')/\∀x H',J.yld i H x H' ->
   tg x τ H' λσ2 H2=>jR tt (tb acc) iY {(Ends.mk (λ_ H=>Q (.ref acc) H) (λ_ _=>False) (λ_ _=>False) (λ_ _=>False))with nx:=N,ct:=N,bk:=(Ends.mk (λ_ H=>Q (.ref acc) H) (λ_ _=>False) (λ_ _=>False) (λ_ _=>False)).nx} σ2 H2)
structure Loose(X:Cx)(pins:List (Addr×Obj))(C:Addr):Prop where
 loc:C≠X.env.locals
 cell:∀x c,X.env.cells.lookup x=some c->c≠C
 up:X.s₀.heap.objs.size<=C
 pin:∀p∈X.pn++pins,p.1≠C
theorem Loose.turn{X:Cx}{pins:List (Addr×Obj)}{C:Addr}{σ:St}{H:Hp}{s:af}{h':Heap}(L:Loose X pins C)(I:Inv X pins σ H s)(hn:H C=none)(hs:Heap.SameBut C s.heap h'):Inv X pins σ H {s with heap:=h'}:=
 I.turned (t':=s.toks) (it:=C) (λb o hb e=>(hs.2 b hb).trans e) hn L.loc (.inr L.up) L.cell L.pin
section
variable{X:Cx}{elt tgt it:Expr}{ifs:List Expr}{gs:List cU}{scope:bf}{pos:Pos}{NY:List Str}{cap:List (Option Nat)}{wi:TI}{tg:TG}{tt:TT}{tb:Addr->TS}
theorem o_{Q:VK}{pins:List (Addr×Obj)}{σ:St}{H:Hp}{s s2:af}{cl:List (Str×Addr)}{itv:ae}{E:ae->af->Prop}{use:Option (ae->Sem Unit)}{QQ:ae->af->Prop}
  (hc:X.calm=true) (S:eS X NY cap scope) (hng:∀g'∈gs,g'.is_async=0)
  (hsub:∀x c,cl.lookup x=some c->X.env.cells.lookup x=some c) (hall:∀x∈scope.names,x.2=.free->∃c,cl.lookup x.1=some c)
  (hb:∀cl C s₀ H₀ fp,PG (zX X NY scope cl C s₀ H₀ fp) tgt tg/\PTs (zX X NY scope cl C s₀ H₀ fp) ifs tt/\∀acc,PB (zX X NY scope cl C s₀ H₀ fp) (fQ elt (⟨tgt,it,ifs,0⟩::gs) scope pos 0 (.ref acc) (zX X NY scope cl C s₀ H₀ fp).env) (tb acc))
  (h2:PIE X pins σ tgt (λJ H1=>∀acc,H1 acc=none ->
   ∃W:Nat->Nat->St->Hp->Prop,(∃m,W 0 m (caps cap σ) (upd H1 acc (.lst [])))/\∀i m τ H,W i m τ H ->
    (J.stop i H/\(Ends.mk (λ_ H=>Q (.ref acc) H) (λ_ _=>False) (λ_ _=>False) (λ_ _=>False)).nx τ H)\/(J.go i H/\∃N:St->Hp->Prop,(∀σ' H',N σ' H'->∃m',m'<m/\W (i+1) m' σ' H')/\∀x H',J.yld i H x H' ->
     tg x τ H' λσ2 H2=>jR tt (tb acc) iY {(Ends.mk (λ_ H=>Q (.ref acc) H) (λ_ _=>False) (λ_ _=>False) (λ_ _=>False))with nx:=N,ct:=N,bk:=(Ends.mk (λ_ H=>Q (.ref acc) H) (λ_ _=>False) (λ_ _=>False) (λ_ _=>False)).nx} σ2 H2)) itv s2)
  (fin:∀(acc C:Addr) (s':af) (m:Str->Option ae) (H':Hp),s'.heap.Ns C m->Loose X pins C->Inv X pins σ H' s'->H' C=none->Q (.ref acc) H'->compPost (ao X.prog X.w) X.A E use QQ (.ref acc) C (.ok .next) s') :
  aq (ao X.prog X.w) X.A (newList []) (λacc s₃=>aq (ao X.prog X.w) X.A (newFunctionEnv scope X.env.globals cl [] X.env.qual none .none (some X.env)) (λcenv s₄=>
   codeAny (ao X.prog X.w) X.A (.compStart (.ListComp elt (⟨tgt,it,ifs,0⟩::gs) scope pos) 0 itv acc {cenv with scope:=relabel scope X.env}) (compPost (ao X.prog X.w) X.A E use QQ acc cenv.locals) s₄) E s₃) E s2:=by
 obtain⟨ia,fp,tn,J,H2,e,I2,T,st2,f2,q⟩:=h2;subst e;have hlt2:∀b∈fp,b<s2.heap.objs.size:=λb hb=>by
  obtain⟨o,ho,_⟩:=T.obj _ _ st2 b hb;exact aM ho
 refine wpAny_newObj_type ?_;have hacc:H2 s2.heap.objs.size=none:=I2.hok.fresh (aG _);have I3:Inv X pins σ (upd H2 s2.heap.objs.size (.lst [])) {s2 with heap:=s2.heap.push {cls:=.type "list",dict:=none,data:=.seq ([]:List ae).toArray}}:=
  I2.laid (t':=s2.toks) (λb u e=>Heap.get?_push_of_some _ e) (aG _) ⟨bx _,[],0,.nil,Heap.get?_push_size _ rfl⟩
 have hsz3:(s2.heap.push {cls:=.type "list",dict:=none,data:=.seq ([]:List ae).toArray}).objs.size=s2.heap.objs.size+1:=bK ..;generalize hs3:({s2 with heap:=s2.heap.push {cls:=.type "list",dict:=none,data:=.seq ([]:List ae).toArray}}:af)=s3 at I3 ⊢;have hsz:s3.heap.objs.size=s2.heap.objs.size+1:=by rw[<-hs3];exact hsz3
 have st3:tn 0 s3.heap:=T.keep _ _ _ st2 λb hb o e=>by rw[<-hs3];exact Heap.get?_push_of_some _ e
 have f3:∀b∈fp,eA X pins (upd H2 s2.heap.objs.size (.lst [])) b:=λb hb=>⟨by rw[qi (a_ (hlt2 b hb))];exact(f2 b hb).1,(f2 b hb).2⟩
 have hlt3:∀b∈fp,b<s3.heap.objs.size:=λb hb=>by rw[hsz];exact cx (hlt2 b hb)
 refine Fc λh₁ hns₁ hk1 hcs=>?_
 have IY:=Gx (tk:=s3.toks) I3 S hsub hall f3 hlt3 hns₁ hk1 hcs;have stY:tn 0 h₁:=T.keep _ _ _ st3 λb hb o e=>hk1 b o e
 obtain⟨pg,pt,pb⟩:=hb cl s3.heap.objs.size s3 (upd H2 s2.heap.objs.size (.lst [])) fp;have fY:∀b∈fp,eA (zX X NY scope cl s3.heap.objs.size s3 (upd H2 s2.heap.objs.size (.lst [])) fp) [] (upd H2 s2.heap.objs.size (.lst [])) b:=λb hb=>by
  obtain⟨g0,g1,g2,g3,g4,g5⟩:=f3 b hb;refine⟨g0,a_ (hlt3 b hb),λz=>?_,.inl hb,(IY.ok.exf b hb).2,λp hp=>absurd (show p∈([]:List (Addr×Obj))from hp) (by simp)⟩;rcases aF.mp (I3.stkSub b z)with w|w
  ·exact g1 w
  ·exact g2 w
 have L:=B' (elt:=elt) (gens:=⟨tgt,it,ifs,0⟩::gs) (scope:=scope) (pos:=pos) (d:=0) (Y:=zX X NY scope cl s3.heap.objs.size s3 (upd H2 s2.heap.objs.size (.lst [])) fp) (acc:=.ref s2.heap.objs.size) hc (λ_ _ z=>z) rfl rfl
  (λg' hg'=>hng g' (List.mem_of_getElem? (i:=0) (by simpa using hg'))) T pg pt (pb s2.heap.objs.size) IY stY fY (q s2.heap.objs.size hacc)
 refine cW (vV (elt:=elt) (gens:=⟨tgt,it,ifs,0⟩::gs) (scope:=scope) (pos:=pos) (d:=0) (env:=compEnvC scope (bz (s3.heap.objs.size+1) scope.names []++cl) s3.heap.objs.size X.env) rfl rfl L (T.self _ 0 _ _ _ stY L)) λr s' ⟨e,τ',H',I',q'⟩=>?_
 subst e;obtain⟨m',hn',_⟩:=id I'.loc;have hLne:s3.heap.objs.size≠X.env.locals:=Nat.ne_of_gt I3.lt;have hCne:∀x c,X.env.cells.lookup x=some c->c≠s3.heap.objs.size:=λx c e z=>by
  obtain⟨v,qv⟩:=I3.cell x c e;exact absurd qv.lt (by rw[z];exact bQ _)
 have J1:Inv X pins σ H' s':=by
  refine I3.call' (ch:=fp) I'.os I'.base I'.hok I'.bare λb hb=>?_
  obtain⟨g0,g1,g2,g3,g4,g5⟩:=f3 b hb;exact⟨g3,g1,g4,g5⟩
 refine fin s2.heap.objs.size s3.heap.objs.size s' m' H' hn' ⟨hLne,hCne,I3.sz,λp hp z=>?_⟩ J1 I'.free q';have:=aM (I3.pin p hp).1;rw[z]at this;exact bQ _ this
theorem AK(hc:X.calm=true)(S:eS X NY cap scope)(hi:PI X tgt it wi)
  (hb:∀cl C s₀ H₀ fp,PG (zX X NY scope cl C s₀ H₀ fp) tgt tg/\PTs (zX X NY scope cl C s₀ H₀ fp) ifs tt/\∀acc,PB (zX X NY scope cl C s₀ H₀ fp) (fQ elt (⟨tgt,it,ifs,0⟩::gs) scope pos 0 (.ref acc) (zX X NY scope cl C s₀ H₀ fp).env) (tb acc))
  (hng:∀g'∈gs,g'.is_async=0:=by simp)
  (hs:∀x,foldedSetIterable it X.env x=pure x:=by intro _;rfl):PE X (.ListComp elt (⟨tgt,it,ifs,0⟩::gs) scope pos) (lV cap wi tg tt tb):=by
 intro pins s σ H Q I h;obtain⟨cl,hcl,hsub,hall⟩:=sF (env:=X.env) (scope:=scope) λx hx hf=>I.ok.has x.1 (S.free x hx hf)
 rw[eval_ListComp];refine wpAny_comprehension_free (use:=none) rfl hs hcl S.kind S.names (thn (hi pins s σ H _ I h) λv s1 h1=>thn h1 λitv s2 h2=>?_);exact o_ (s:=s) (H:=H) (use:=none) hc S hng hsub hall hb h2 λacc C s' m H' hn L I' hC q=>⟨m,hn,λh' hs'=>⟨.ref acc,H',L.turn I' hC hs',rfl,q⟩⟩
theorem Gq{i:Nat}{x:Str}{pos' spos:Pos}(hN:X.N.Nodup)(hix:X.N[i]? = some x)(hx:Loc X.env.scope x)(hc:X.calm=true)(S:eS X NY cap scope)(hi:PI X tgt it wi)
  (hb:∀cl C s₀ H₀ fp,PG (zX X NY scope cl C s₀ H₀ fp) tgt tg/\PTs (zX X NY scope cl C s₀ H₀ fp) ifs tt/\∀acc,PB (zX X NY scope cl C s₀ H₀ fp) (fQ elt (⟨tgt,it,ifs,0⟩::gs) scope pos 0 (.ref acc) (zX X NY scope cl C s₀ H₀ fp).env) (tb acc))
  (hng:∀g'∈gs,g'.is_async=0:=by simp)
  (hsw:swapsWith (.ListComp elt (⟨tgt,it,ifs,0⟩::gs) scope pos) (some (.Name x pos')) spos.line X.env=pure true:=by rfl)
  (hf:X.fn x=true\/X.env.scope.names.lookup x=some .local:=by first|exact .inl rfl|exact .inr rfl|assumption)
  (hs:∀x,foldedSetIterable it X.env x=pure x:=by intro _;rfl) :
  PS X (.Assign [.Name x pos'] (.ListComp elt (⟨tgt,it,ifs,0⟩::gs) scope pos) spos) (kf (lV cap wi tg tt tb) (fX i)):=by
 intro pins s σ H D I h;obtain⟨cl,hcl,hsub,hall⟩:=sF (env:=X.env) (scope:=scope) λx hx hf=>I.ok.has x.1 (S.free x hx hf)
 rw[exec_Assign_Name_used _ _ _ _ hsw];refine ah (wpAny_standAt (ah ?_));show aq _ _ (do let _ <-comprehension (.ListComp elt (⟨tgt,it,ifs,0⟩::gs) scope pos) scope X.env _ (newList []) false (eval it X.env) (some (assign (.Name x pos') X.env))) _ _ s;refine ah (b5 (wpAny_comprehension_free (use:=some (assign (.Name x pos') X.env)) (Q:=λ_ s'=>SP X pins D .next s') rfl hs hcl S.kind S.names (thn (hi pins s σ H _ I h) λv s1 h1=>thn h1 λitv s2 h2=>?_)) (λ_ s' q=>aE (aE q)) λ_ _ e=>e);refine o_ (s:=s) (H:=H) (Q:=λx H1=>fX i x σ H1 D.nx) (use:=some (assign (.Name x pos') X.env)) hc S hng hsub hall hb h2 λacc C s' m H' hn L I1 hC q1=>?_
 show aq _ _ (assign (.Name x pos') X.env (.ref acc)) _ _ _;refine wpAny_assign_Name (uT (v:=.ref acc) I1 hN hix hx rfl (λs3 I3 ⟨a,hsa,ha⟩=>?_) hf);have hCa:C≠a:=by
  rcases ha with z|z
  ·rw[z];exact L.loc
  ·exact Ne.symm (L.cell x a z)
 exact⟨m,hn.sameBut hsa hCa,λh' hsb=>⟨_,H',L.turn I3 hC hsb,q1⟩⟩
end
theorem zO.there{P:aA}{w:au}{H:Hp}{h:Heap}{a:Addr}{o:HO}(x:zO P w H h a o):∃u,h.get? a=some u:=by
 cases o with
 |lst xs=>obtain⟨_,_,_,_,e⟩:=x;exact⟨_,e⟩
 |tup xs=>obtain⟨_,_,_,o,e,_⟩:=x;exact⟨_,e⟩
 |dK kvs=>obtain⟨_,_,_,_,o,_,_,e,_⟩:=x;exact⟨_,e⟩
 |dT kvs=>obtain⟨_,_,_,_,o,_,_,e,_⟩:=x;exact⟨_,e⟩
 |set S n=>obtain⟨o,_,_,_,e,_⟩:=x;exact⟨_,e⟩
 |ins C dx fs=>obtain⟨_,_,_,e,_⟩:=x;exact⟨_,e⟩
 |own y=>obtain⟨_,e⟩:=x;exact⟨_,e⟩
 |xd fs=>obtain⟨_,⟨_,_,_,e,_⟩,_⟩:=x;exact⟨_,e⟩
 |rng lo hi=>obtain⟨_,_,_,e⟩:=x;exact⟨_,e⟩
 |frz ob u=>obtain⟨e,_⟩:=x;exact⟨_,e⟩
 |tbl ps=>exact⟨_,(show h.get? a=some _ from x)⟩
 |met f y=>exact⟨_,(show h.get? a=some _ from x)⟩
 |ext φ=>obtain⟨_,e,_⟩:=x;exact e
theorem HOk.free_of{P:aA}{w:au}{H:Hp}{h:Heap}{a:Addr}(x:HOk P w H h)(e:h.get? a=none):H a=none:=by
 cases q:H a with
 |none=>rfl
 |some o=>obtain⟨u,z⟩:=(x a o q).there;rw[e]at z;cases z
structure Apart(X:Cx)(pins:List (Addr×Obj))(H:Hp)(b:Addr):Prop where
 new:X.s₀.heap.get? b=none
 free:H b=none
 pin:∀p∈X.pn++pins,p.1≠b
structure fj(X:Cx)(pins:List (Addr×Obj))(H:Hp)(h:Heap)(x:Addr)(cls:ae):Prop where
 me:Apart X pins H x
 tr:∃oe vs T oT ts a0,h.get? x=some oe/\oe.cls=cls/\vs[0]? = some a0/\oe.data=.fields vs/\vs[1]? = some (.ref T)/\T≠x/\h.get? T=some oT/\oT.data=.fields ts/\ts[3]? = some .none/\Apart X pins H T
structure Fly(h₀ h:Heap)(H:Hp)(x:Addr)(cls:ae):Prop where
 new:h₀.get? x=none
 free:H x=none
 tr:∃oe vs T oT ts a0,h.get? x=some oe/\oe.cls=cls/\vs[0]? = some a0/\oe.data=.fields vs/\vs[1]? = some (.ref T)/\T≠x/\h.get? T=some oT/\oT.data=.fields ts/\ts[3]? = some .none/\h₀.get? T=none/\H T=none
noncomputable def CX1(P:aA)(w:au):CXT:=λouter H s E e s'=>
 ∃x cls H',e=.ref x/\s'.os=s.os/\AllBare s'.gens/\Un (frs outer) [] H H' s.heap s'.heap/\HOk P w H' s'.heap/\Fly s.heap s'.heap H' x cls/\E cls none H'
section
variable{X:Cx}{pins:List (Addr×Obj)}{σ:St}{H:Hp}{s:af}{x T:Addr}{cls:ae}
theorem Inv.stepN{h':Heap}{t':Nat}{ch:List Addr}(I:Inv X pins σ H s)(hex:X.ex=[])(hch:∀b∈ch,Apart X pins H b/\b≠X.env.locals/\(∀x c,X.env.cells.lookup x=some c->c≠b)/\b∉X.fs)
  (keep:∀b o,b∉frs X.stack->b≠X.env.locals->b∉X.fs->b∉ch->s.heap.get? b=some o->h'.get? b=some o)
  (slot:∀b o,(b∈frs X.stack\/b=X.env.locals\/b∈X.fs)->s.heap.get? b=some o->∃sl,h'.get? b=some {o with slots:=sl}) (there:∀b o,b∉ch->s.heap.get? b=some o->∃o',h'.get? b=some o') :
  Inv X pins σ H {s with heap:=h',toks:=t'}:=by
 have sub:∀b,b∈frs X.stack->b=X.env.locals\/b∈X.fs:=λb hb=>aF.mp (I.stkSub b hb)
 have keep':∀b o,b≠X.env.locals->b∉X.fs->b∉ch->s.heap.get? b=some o->h'.get? b=some o:=λb o h1 h2 h3 e=>keep b o (λz=>(sub b z).elim h1 h2) h1 h2 h3 e
 have neL:∀b o,X.s₀.heap.get? b=some o->b≠X.env.locals:=λb o e=>a_ (bG (aM e) I.ok.above)
 have neC:∀b o,X.s₀.heap.get? b=some o->b∉ch:=λb o e hb=>by
  have:=(hch b hb).1.new;rw[e]at this;cases this
 have cellK:∀x c,X.env.cells.lookup x=some c->∀v,s.heap.IsCell c v->h'.IsCell c v:=λx c e v ⟨o,ho,hd⟩=>by
  have nch:c∉ch:=λz=>(hch c z).2.2.1 x c e rfl
  by_cases hc:c∈X.fs
  ·obtain⟨sl,q⟩:=slot c o (.inr (.inr hc)) ho;exact⟨_,q,hd⟩
  ·exact⟨o,keep' c o (I.cne x c e) hc nch ho,hd⟩
 have nex:∀b,b∉X.ex:=λb=>by rw[hex];simp
 refine⟨I.ok,I.os,I.bare,⟨λb o e n hb hx=>?_,λb o e n hb hx=>?_,I.base.free,λb o e hx=>?_,I.base.tups,I.base.frzs,I.base.tbls⟩,?_,λx c e=>?_,I.free,I.freeC,λp hp=>?_,λb u e=>?_,I.len⟩
 ·exact keep' b o (neL b o e) hb (neC b o e) (I.base.keep b o e n hb hx)
 ·obtain⟨sl,e1⟩:=I.base.slot b o e n hb hx;obtain⟨sl',e2⟩:=slot b _ (.inr (.inr hb)) e1;exact⟨sl',e2⟩
 ·obtain⟨o',e1⟩:=I.base.there b o e hx;exact there b o' (neC b o e) e1
 ·obtain⟨m,hn,hl⟩:=I.loc;obtain⟨oL,es,ep,hoL,hdL,r⟩:=id hn;obtain⟨sl,eL⟩:=slot _ _ (.inr (.inl rfl)) hoL;refine⟨m,⟨_,es,ep,eL,hdL,r⟩,λi x v e1 e2 e3=>?_⟩;obtain⟨u,ru,l⟩:=hl i x v e1 e2 e3;refine⟨u,ru,?_⟩;rcases l with l|⟨k,c,e,z⟩
  ·exact .inl l
  ·exact .inr ⟨k,c,e,cellK x c e _ z⟩
 ·obtain⟨v,z⟩:=I.cell x c e;exact⟨v,cellK x c e v z⟩
 ·obtain⟨e,n,ne,nf,d⟩:=I.pin p hp;exact⟨keep' p.1 p.2 ne nf (λz=>(hch p.1 z).1.pin p hp rfl) e,n,ne,nf,d⟩
 ·have nfr:∀b,(∃u,H b=some u)->b≠X.env.locals/\b∉X.fs/\b∉ch:=λb ⟨u,e⟩=>by
   refine⟨λz=>?_,λz=>?_,λz=>?_⟩
   ·rw[z,I.free]at e;cases e
   ·obtain⟨_,o,ho,_⟩:=I.ok.funs.mem z;have:=I.base.free b o ho (I.ok.frf b z) (nex b);rw[e]at this;cases this
   ·have:=(hch b z).1.free;rw[e]at this;cases this
  refine(I.hok b u e).stay (λc v hc q=>?_) (λ_ q=>q) λ_ _ q=>q
  have hc':∃u,H c=some u:=by
   rcases hc with z|z
   ·exact⟨u,by rw[z];exact e⟩
   ·exact⟨_,z⟩
  obtain⟨n1,n2,n3⟩:=nfr c hc';exact keep' c v n1 n2 n3 q
theorem Inv.rec_ne(I:Inv X pins σ H s){b:Addr}{o:Obj}{vs:Array ae}(e:s.heap.get? b=some o)(d:o.data=.fields vs):b≠X.env.locals/\(∀x c,X.env.cells.lookup x=some c->c≠b)/\b∉X.fs/\b∉frs X.stack:=by
 have h1:b≠X.env.locals:=λz=>by
  obtain⟨m,⟨o',es,ep,ho,hd,_⟩,_⟩:=I.loc;rw[<-z,e]at ho;cases ho;rw[d]at hd;cases hd
 have h3:b∉X.fs:=λz=>by
  obtain⟨_,o',ho,hn⟩:=I.funs.mem z;rw[e]at ho;cases ho;exact hn vs d
 refine⟨h1,λx c ec z=>?_,h3,λz=>(aF.mp (I.stkSub b z)).elim h1 h3⟩;obtain⟨v,o',ho,hd⟩:=I.cell x c ec;rw[z,e]at ho;cases ho;rw[d]at hd;cases hd
theorem fj.flying(I:Inv X pins σ H s)(F:fj X pins H s.heap x cls):∃T oT ts a0,Heap.FlyingW (PySem.W.hideAll s.heap (x::T::frs X.stack)) X.stack x cls a0 s.heap/\s.heap.get? T=some oT/\oT.data=.fields ts/\Apart X pins H T:=by
 obtain⟨oe,vs,T,oT,ts,a0,e1,e2,e3,e4,e5,e6,e7,e8,e9,e10⟩:=F.tr;refine⟨T,oT,ts,a0,⟨λb o q=>PySem.W.of_hideAll _ q,PySem.W.hideAll_none _ aK,?_,oe,vs,T,oT,ts,e1,⟨e2,e3⟩,e4,e5,PySem.W.hideAll_none _ (aO _ aK),e6,e7,e8,e9⟩,e7,e8,e10⟩;exact PySem.W.funFrames_hide I.stack λenv he a ha=>aO _ (aO _ (List.mem_filterMap.mpr ⟨env,he,ha⟩))
theorem fj.back(I:Inv X pins σ H s)(hex:X.ex=[])(me:Apart X pins H x){ox:Obj}{vs:Array ae}(hx:s.heap.get? x=some ox)(hxd:ox.data=.fields vs){oT:Obj}{ts:Array ae}(hT:s.heap.get? T=some oT)(hTd:oT.data=.fields ts)(aT:Apart X pins H T)
  {l:List Env}{a0:ae}{h':Heap} (W:Heap.FlyingW (PySem.W.hideAll s.heap (x::T::frs X.stack)) l x cls a0 h') (u:s.heap.UpToSlots h') :
  Inv X pins σ H {s with heap:=h'}/\fj X pins H h' x cls:=by
 obtain⟨w1,w2,w3,oe',vs',T',oT',ts',f1,⟨f2,f3⟩,f4,f5,f6,f7,f8,f9,f10⟩:=W;obtain⟨nx1,nx2,nx3,nx4⟩:=I.rec_ne hx hxd;obtain⟨nt1,nt2,nt3,nt4⟩:=I.rec_ne hT hTd;have frd:∀b o,(b∈frs X.stack\/b=X.env.locals\/b∈X.fs)->s.heap.get? b=some o->∀ws,o.data≠.fields ws:=λb o hb e ws d=>by
  obtain⟨n1,n2,n3,n4⟩:=I.rec_ne e d;rcases hb with z|z|z
  ·exact n4 z
  ·exact n1 z
  ·exact n3 z
 have nch:∀b,b∉[x,T]->b∉frs X.stack->b∉(x::T::frs X.stack):=λb h1 h2 h3=>by
  rcases aF.mp h3 with z|h3
  ·exact h1 (by simp[z])
  ·rcases aF.mp h3 with z|h3
   ·exact h1 (by simp[z])
   ·exact h2 h3
 refine⟨?_,me,oe',vs',T',oT',ts',a0,f1,f2,f3,f4,f5,f7,f8,f9,f10,?_⟩
 ·refine I.stepN (t':=s.toks) (ch:=[x,T]) hex (λb hb=>?_) (λb o h1 h2 h3 h4 e=>w1 b o (PySem.W.hideAll_get _ e (nch b h4 h1))) (λb o hb e=>u b o e (frd b o hb e)) λb o h4 e=>?_
  ·rcases aF.mp hb with z|hb
   ·subst z;exact⟨me,nx1,nx2,nx3⟩
   ·have z:b=T:=by simpa using hb
    subst z;exact⟨aT,nt1,nt2,nt3⟩
  ·by_cases hb:b∈frs X.stack
   ·obtain⟨sl,q⟩:=u b o e (frd b o (.inl hb) e);exact⟨_,q⟩
   ·exact⟨o,w1 b o (PySem.W.hideAll_get _ e (nch b h4 hb))⟩
 ·by_cases hTT:T'=T
  ·rw[hTT];exact aT
  ·by_cases hTf:T'∈frs X.stack
   ·obtain⟨_,o,ho,hn⟩:=I.stack.mem hTf;obtain⟨sl,q⟩:=u T' o ho hn;rw[q]at f8;have z:({o with slots:=sl}:Obj)=oT':=bT f8;subst z;exact absurd f9 (hn ts')
   ·have hnone:s.heap.get? T'=none:=by
     cases q:s.heap.get? T' with
     |none=>rfl
     |some o=>
      have:(PySem.W.hideAll s.heap (x::T::frs X.stack)).get? T'=some o:=PySem.W.hideAll_get _ q (nch T' (by simp[f7,hTT]) hTf);rw[f6]at this;cases this
    refine⟨?_,I.hok.free_of hnone,λp hp z=>?_⟩
    ·cases q:X.s₀.heap.get? T' with
     |none=>rfl
     |some o=>
      obtain⟨o',e'⟩:=I.base.there T' o q (by rw[hex];simp);rw[hnone]at e';cases e'
    ·have:=(I.pin p hp).1;rw[z,hnone]at this;cases this
theorem x_{P:aA}{w:au}(hP:X.prog=P)(hw:X.w=w)(I:Inv X pins σ H s)(hex:X.ex=[]){E:XK}{e:ae}{s':af}(h:CX1 P w X.stack H s E e s') :
  ∃x cls H',e=.ref x/\Inv X pins σ H' s'/\fj X pins H' s'.heap x cls/\E cls none H':=by
 subst hP hw;obtain⟨x,cls,H',rfl,os,bare,un,hok,F,q⟩:=h;have ap:∀b,s.heap.get? b=none->H' b=none->Apart X pins H' b:=λb h1 h2=>by
  refine⟨?_,h2,λp hp z=>?_⟩
  ·cases q:X.s₀.heap.get? b with
   |none=>rfl
   |some o=>
    obtain⟨o',e'⟩:=I.base.there b o q (by rw[hex];simp);rw[h1]at e';cases e'
  ·have:=(I.pin p hp).1;rw[z,h1]at this;cases this
 obtain⟨oe,vs,T,oT,ts,a0,e1,e2,e3,e4,e5,e6,e7,e8,e9,e10,e11⟩:=F.tr;exact⟨x,cls,H',rfl,I.call' (ch:=[]) os un hok bare (λb z=>absurd z (by simp)),⟨ap x F.new F.free,oe,vs,T,oT,ts,a0,e1,e2,e3,e4,e5,e6,e7,e8,e9,ap T e10 e11⟩,q⟩
theorem fj.leaves(I:Inv X pins σ H s)(hex:X.ex=[]){env:Env}{outer:List Env}(hst:X.stack=X.env::X.outer)(hfr:X.env.frame=some X.env.locals)(F:fj X pins H s.heap x cls){E:XK}(q:E cls none H)
  {EE:ae->af->Prop}:aq (ao X.prog X.w) X.A (leaving X.env (.ref x)) (λ_ s''=>CX1 X.prog X.w X.outer X.H₀ X.s₀ E (.ref x) s'') EE s:=by
 obtain⟨oe,vs,_,_,_,_,e1,_,_,e4,_⟩:=id F.tr;obtain⟨T,oT,ts,a0,W,hT,hTd,aT⟩:=fj.flying I F;have hfrm:=I.ok.frames;rw[hst]at hfrm W;refine wpAny_leaves_onW hfrm hfr W λh' W' u=>?_
 rw[<-hst]at W';obtain⟨I',F'⟩:=fj.back I hex F.me e1 e4 hT hTd aT W' u;obtain⟨oe',vs',T',oT',ts',a0',f1,f2,f3,f4,f5,f6,f7,f8,f9,f10⟩:=F'.tr;have hb:=I'.base;rw[hex]at hb;exact⟨x,cls,H,rfl,I'.os,I'.bare,hb,I'.hok,⟨F'.me.new,F'.me.free,oe',vs',T',oT',ts',a0',f1,f2,f3,f4,f5,f6,f7,f8,f9,f10.new,f10.free⟩,q⟩
end
section
variable{P:aA}{w:au}{K:aC}{mg:Str->Option ae}{base:Heap}{N:List Str}{qual:Str}{scope:bf}{f:Addr}{cd:ae}{A:aB}{outer:List Env}{s₀:af}{H₀:Hp}{E:XK}
theorem BJ:Passes (CX1 P w) (fR (CX1 P w) P w K mg base N qual scope f cd A outer s₀ H₀ E) E:=by
 intro pins σ H s e s' I h;obtain⟨x,cls,H',rfl,I',F,q⟩:=x_ rfl rfl I rfl h;exact fj.leaves (env:=(fR (CX1 P w) P w K mg base N qual scope f cd A outer s₀ H₀ E).env) (outer:=outer) I' rfl rfl rfl F q
theorem mz{X:Cx}(hP:X.prog=P)(hw:X.w=w):Passes (CX1 P w) X E0:=by
 intro pins σ H s e s' I h;obtain⟨x,cls,H',rfl,_,_,_,_,_,q⟩:=h;exact q.elim
noncomputable def Throws(X:Cx)(E:XK):Prop:=∀(pins:List (Addr×Obj)) (σ:St) (H:Hp) (s:af) (h':Heap) (e:Addr) (cls:ae) (args:List ae),Inv X pins σ H s->Heap.MadeExcOf s.heap h' e cls args->E cls none H->X.xe (.ref e) {s with heap:=h'}
end
abbrev e_:List Value:=[.type "ValueError",.type "Exception",.type "BaseException",.type "object"]
noncomputable def sA(K:aC)(C:Addr):Prop:=PySem.W.excIn K C e_ "ValueError.__new__" = true
section
variable{X:Cx}{C:Addr}{x:Str}{E:XK}{t:TA}{e:Expr}{es:List Expr}{np cpos pos:Pos}
end
structure jm(k:Nat)(A:aB):Prop where
 dp:A.depth+3 * k+5<recursionLimit
 un:A.units+16 * k+200<cLine
theorem dw.u{k:Nat}{A:aB}(r:dw k A):jm k A:=⟨r.dp,r.un⟩
structure nC(P:aA)(w:au)(K:aC)(mg:Str->Option ae)(base:Heap)(CX:CXT)(k:Nat)(f:Addr)(fd:FuncData)(ps:List Str)(sp:Sp):Prop where
 len:∀vs H Q E,sp vs H Q E->vs.length=ps.length
 run:∀(A:aB) (outer:List Env) (s:af) (H:Hp) (args:Args) (us:List ae) (vs:List V) (Q:VK) (E:XK),jm k A->iK P w K mg base A outer s H->BindsTo s fd args (ps.zip us)->Vals vs us->sp vs H Q E ->
  codeAny (ao P w) A (.call (.ref f) args) (CR CX outer P w H s Q E) s
section
variable{CX:CXT}{P:aA}{w:au}{K:aC}{mg:Str->Option ae}{base:Heap}{k:Nat}{f:Addr}{fd:FuncData}{ps:List Str}{sp:Sp}
end
section
variable{X:Cx}{CX:CXT}{k:Nat}{f:Addr}{fd:FuncData}{ps:List Str}{sp:Sp}{dvs:List V}{ds:List ae}{E:XK}{x:Str}{p pos:Pos}{e:Expr}{es:List Expr}{t:TA}
theorem DT{pins:List (Addr×Obj)}{σ:St}{H:Hp}{s:af}{Q:VK}{us:List ae}{vs:List V}(F:nC X.prog X.w X.K X.mg X.base CX k f fd ps sp)(hr:jm k X.A)(hb:Binds X.K fd ps ds)(hd:Vals dvs ds)(hx:Passes CX X E)
  (I:Inv X pins σ H s) (r:Vals vs us) (h:sp (vs++dvs) H Q E):aq (ao X.prog X.w) X.A (call (.ref f) us) (EP X pins σ Q) X.xe s:=by
 have r2:Vals (vs++dvs) (us++ds):=r.append hd;have hl:(us++ds).length=ps.length:=by rw[<-r2.length];exact F.len _ _ _ _ h
 refine wpAny_call (cW (F.run X.A X.stack s H ⟨us,[]⟩ (us++ds) (vs++dvs) Q E hr I.env0 (hb s us I.kIn hl) r2 h) λr s' hq=>?_);cases r with
 |error e=>exact hx pins σ H s e s' I hq
 |ok fl=>
  cases fl with
  |ret u=>exact I.after hq
  |next=>exact bC hq
  |brk=>exact bC hq
  |cont=>exact bC hq
theorem A0(F:nC X.prog X.w X.K X.mg X.base CX k f fd ps sp)(hr:jm k X.A)(hg:Gl X x)(hm:X.mg x=some (.ref f))(hk:dI X.K (.ref f)=true)(hb:Binds X.K fd ps ds)(hd:Vals dvs ds)(hx:Passes CX X E)
  (ha:PA X (e::es) t) (hdb:(x==("__debug__" : Str))=false:=by decide) (he:aY (e::es) X.env=(false,eval e X.env)::aY es X.env:=by rfl) (hpl:(backTo pos (aY es X.env)).any (·.1)=false:=by rfl) :
  PE X (.Call (.Name x p) (e::es) [] pos) (mE sp dvs E t):=by
 intro pins s σ H Q I h;refine wpAny_Call_Name_kw (lT I hg hm ?_ hdb);refine PySem.W.callWith_K (h₀:=X.base) I.ok.mod.kin hk (thn (ha pos pins s σ H _ I h) λus s1 ⟨vs,H1,I1,r,q⟩=>⟨I1.kIn,?_⟩) he hpl;exact DT F hr hb hd hx I1 r q
end
noncomputable def wZ(x:Addr)(cls:ae):HO:=.ext λh=>∃o vs,h.get? x=some o/\o.cls=cls/\o.data=.fields vs
abbrev Cx.held(X:Cx)(x:Addr):Cx:={X with A:=X.A.mark (some (.ref x)),calm:=false,xe:=λ_ _=>False}
section
variable{X:Cx}{pins:List (Addr×Obj)}{σ:St}{H:Hp}{s:af}
end
abbrev Cx.inTry(X:Cx)(pn:List (Addr×Obj))(Et:ae->af->Prop):Cx:={X with pn:=pn,xe:=Et}
end L2
namespace L2
open PySem PySem.Spec PyProof.Rows PySem.W PySem.Calls Builtin Builtin.ObjectAttr Builtin.Getset_descriptor
structure mQ(K:Frag)(C:Addr):Prop where
 ga:findIn K (.ref C) "__getattribute__" = some (some (.builtin "BaseException.__getattribute__"))
 gt:findIn K (.ref C) "__getattr__" = some none
 gc:findIn K (.ref C) "__class__" = some (some (.builtin "object.__class__"))
 mb:mroIn K C (.type "BaseException")=some true
 mo:mroIn K C (.type "object")=some true
 cl:∃c dd cd sl,K.lookup C=some ⟨c,dd,.cls cd,sl⟩
section
variable{prog:aA}{w:au}{A:aB}{E:ae->af->Prop}{h:Heap}{g:Array GenState}{d:Drawn}{t:Nat}{os:OsState}{x C:Addr}{K:Frag}
end
end L2
namespace L2
open PySem PySem.Spec PyProof.Rows
structure iG(prog:aA)(w:au)(xs:Array ae)(i l:Addr)(P:Nat->Heap->Prop):Prop where
 fr:∀k h h',P k h->(∀o,h.get? i=some o->h'.get? i=some o)->(∀o,h.get? l=some o->h'.get? l=some o)->P k h'
 nx:∀{A:aB} (k:Nat) (x:ae) (s:af) (Q:ae->af->Prop) (E:ae->af->Prop),P k s.heap->xs[k]? = some x->(∀h',P (k+1) h'->Heap.SameBut i s.heap h'->Q x {s with heap:=h'})->aq (ao prog w) A (dF (.ref i)) Q E s
 en:∀{A:aB} (k:Nat) (s:af) (Q:ae->af->Prop) (E:ae->af->Prop),A.handled=none->P k s.heap->xs[k]? = none ->
  (∀h' e,Heap.ExtBut i s.heap h'->(∃o,h'.get? e=some o/\o.cls=.type "StopIteration")->E (.ref e) {s with heap:=h'})->aq (ao prog w) A (dF (.ref i)) Q E s
 at_:∀k h,P k h->∃o,h.get? i=some o/\∃vs,o.data=.fields vs
theorem vy{prog:aA}{w:au}{xs:Array ae}{i l:Addr}:iG prog w xs i l (λk h=>h.IsListIter i l k/\h.IsList l xs) where
 fr:=λ_ _ _ ⟨a,b⟩ p q=>⟨a.at p,b.at q⟩
 nx:=λk x s Q E ⟨a,b⟩ hx hQ=>wpAny_nextOf_list_item a b hx λh' a' sb=>hQ h' ⟨a',b.at λo e=>(sb.2 l (λz=>by
  obtain⟨_,e1,e2,_⟩:=a;obtain⟨_,f1,f2,_⟩:=b;rw[z,e1]at f1;have e3:=bT f1;rw[<-e3,e2]at f2;exact absurd f2 (by decide))).trans e⟩ sb
 en:=λk s Q E hh ⟨a,b⟩ hx hE=>wpAny_nextOf_list_end hh a b hx hE
 at_:=λ_ _ ⟨⟨o,e,_,d⟩,_⟩=>⟨o,e,_,d⟩
section
variable{prog:aA}{w:au}{A:aB}{E:ae->af->Prop}{s:af}
theorem nZ{it l:Addr}{i:Nat}{items}{x:ae}{Q:ae->af->Prop}(hit:s.heap.IsTupleIter it l i)(hl:s.heap.IsTuple l items)(hx:items[i]? = some x)
  (hQ:∀h',h'.IsTupleIter it l (i+1)->Heap.SameBut it s.heap h'->Q x {s with heap:=h'}):aq (ao prog w) A (dF (.ref it)) Q E s:=by
 obtain⟨oi,gi,ci,di⟩:=id hit;obtain⟨ol,gl,_,nl,dl⟩:=hl;unfold dF;refine ah (wpAny_callSpecial?_slot (name:=aL "__next__") hit.typeIs F.slot_tuple_iterator_next (dG F.slot_tuple_iterator_next hit.typeIs F.entry_tuple_iterator_next ?_ (F.args_tuple_iterator_next_1 _)));show aq (ao prog w) _ (field (.ref it) 0>>=_) _ _ s;refine ah (bZ gi di (x:=.ref l) rfl ?_);show aq (ao prog w) _ (if (bq l==ck)=true then _ else _) _ _ s;rw[if_neg (show ¬ ((bq l==.none)=true)from b9)];show aq (ao prog w) _ (field (.ref it) 1>>=_) _ _ s;refine ah (bZ gi di (x:=.int i 0) rfl ?_);show aq (ao prog w) _ (seqItems? (.ref l)>>=_) _ _ s;refine ah (wpAny_seqItems gl dl ?_);simp only[Int.toNat_natCast,hx];refine ah (wpAny_setField gi di (by simp) (aE ⟨x,rfl,aE (hQ _ ?_ (Heap.SameBut.update ..))⟩));exact⟨_,Heap.get?_update_self _ gi (Obj.isFreed_of_fields (Obj.data_mapFields di _)),(Obj.cls_mapFields ..).trans ci,by rw[Obj.data_mapFields di];simp[rawInt]⟩
theorem l7{it l:Addr}{i:Nat}{items}{Q:ae->af->Prop}(hh:A.handled=none)(hit:s.heap.IsTupleIter it l i)(hl:s.heap.IsTuple l items)(hx:items[i]? = none)
  (hE:∀h' e,Heap.ExtBut it s.heap h'->(∃o,h'.get? e=some o/\o.cls=.type "StopIteration")->E (.ref e) {s with heap:=h'}):aq (ao prog w) A (dF (.ref it)) Q E s:=by
 obtain⟨oi,gi,ci,di⟩:=id hit;obtain⟨ol,gl,_,nl,dl⟩:=hl;unfold dF;refine ah (wpAny_callSpecial?_slot (name:=aL "__next__") hit.typeIs F.slot_tuple_iterator_next (dG F.slot_tuple_iterator_next hit.typeIs F.entry_tuple_iterator_next ?_ (F.args_tuple_iterator_next_1 _)));show aq (ao prog w) _ (field (.ref it) 0>>=_) _ _ s;refine ah (bZ gi di (x:=.ref l) rfl ?_);show aq (ao prog w) _ (if (bq l==ck)=true then _ else _) _ _ s;rw[if_neg (show ¬ ((bq l==.none)=true)from b9)];show aq (ao prog w) _ (field (.ref it) 1>>=_) _ _ s;refine ah (bZ gi di (x:=.int i 0) rfl ?_);show aq (ao prog w) _ (seqItems? (.ref l)>>=_) _ _ s;refine ah (wpAny_seqItems gl dl ?_);simp only[Int.toNat_natCast,hx];refine ah (wpAny_rule (ah (wpAny_setField gi di (by simp) ?_)));show aq (ao prog w) _ (newExc (.type "StopIteration") []>>=_) _ _ _;refine ah ?_;simp only[newExc,newTuple];refine ah (wpAny_newObj_type ?_ (by size_fits));refine ah (m:=firstArgMember _ _) (wpAny_of_eq (a:=ck) (by first|rfl|(simp only[firstArgMember];rfl)) ?_);refine wpAny_newObj_type ?_ (by size_fits);simp only[raiseNew];refine ah (wpAny_handled ?_)
 first|rw[show A.in1.handled=none from hh]|rw[hh]
 refine ah (aE (wpAny_throw ?_));exact hE _ _ (((Heap.SameBut.update ..).extBut.push _).push _) ⟨_,Heap.get?_push_size _ rfl,rfl⟩
end
theorem w6{prog:aA}{w:au}{xs:Array ae}{i l:Addr}:iG prog w xs i l (λk h=>h.IsTupleIter i l k/\h.IsTuple l xs) where
 fr:=λ_ _ _ ⟨a,b⟩ p q=>⟨a.at p,let ⟨o,e,r⟩:=b;⟨o,q o e,r⟩⟩
 nx:=λk x s Q E ⟨a,b⟩ hx hQ=>nZ a b hx λh' a' sb=>hQ h' ⟨a',b.extBut sb.extBut (λz=>by
  obtain⟨_,e1,e2,_⟩:=a;obtain⟨_,f1,f2,_⟩:=b;rw[z,e1]at f1;have e3:=bT f1;rw[<-e3,e2]at f2;exact absurd f2 (by decide))⟩ sb
 en:=λk s Q E hh ⟨a,b⟩ hx hE=>l7 hh a b hx hE
 at_:=λ_ _ ⟨⟨o,e,_,d⟩,_⟩=>⟨o,e,_,d⟩
section
variable{prog:aA}{w:au}{A:aB}{E:ae->af->Prop}{s:af}{z TI TO i1 i2 l1 l2:Addr}{k:Nat}{xs ys:Array ae}{P1 P2:Nat->Heap->Prop}
structure HE(z TI TO i1 i2 l1 l2:Addr):Prop where
 d:ZipApart z TI TO i1 i2 l1 l2
theorem Dm{x y a b:ae}{Q:ae->af->Prop}(D:ZipApart z TI TO i1 i2 l1 l2)(S1:iG prog w xs i1 l1 P1)(S2:iG prog w ys i2 l2 P2)
  (hz:IsZip s.heap z TI TO .none) (hTI:IsPair s.heap TI (.ref i1) (.ref i2)) (hTO:IsPair s.heap TO a b) (h1:P1 k s.heap) (h2:P2 k s.heap) (hx:xs[k]? = some x) (hy:ys[k]? = some y)
  (hQ:∀h',IsZip h' z TI TO (rawInt s.heap.objs.size)->IsPair h' TO x y->P1 (k+1) h'->P2 (k+1) h'->IsPair h' s.heap.objs.size x y->h'.objs.size=s.heap.objs.size+1 ->
   (∀c o,c≠z->c≠TO->c≠i1->c≠i2->s.heap.get? c=some o->h'.get? c=some o)->Q (.ref s.heap.objs.size) {s with heap:=h'}) :
  aq (ao prog w) A (Builtin.«zip.__next__» ⟨[.ref z],[]⟩) (λfin s'=>∃v,fin=.done (.ret v)/\Q v s') E s:=by
 show aq (ao prog w) _ (field (.ref z) 2>>=_) _ _ _;refine ah (bZ hz rfl (x:=.bool false) rfl ?_);show aq (ao prog w) _ (field (.ref z) 3>>=_) _ _ _;refine ah (bZ hz rfl (x:=.ref TI) rfl ?_);refine ah (wpAny_seqItems hTI rfl ?_);show aq (ao prog w) _ (Builtin.SmallTypes.ownedTupleIsFree (.ref z)>>=_) _ _ _;refine ah ?_;unfold Builtin.SmallTypes.ownedTupleIsFree;refine ah (bZ hz rfl (x:=.none) rfl (aE ?_));simp only[if_true];refine ah (wpAny_rule ?_);refine ah (bZ hz rfl (x:=.ref TO) rfl ?_);refine ah (wpAny_setField_rec hz (by simp) λj1 zj1 sj1=>?_)
 replace zj1:IsZip j1 z TI TO .ellipsis:=zj1
 refine ah ?_;simp only[List.zipIdx_cons,List.zipIdx_nil,List.forIn_cons,List.forIn_nil];refine ah (ah (wpAny_onRaise ?_));show aq (ao prog w) _ (dF (.ref i1)>>=_) _ _ _;refine ah (S1.nx k x _ _ _ (S1.fr k _ _ h1 (λo e=>sj1.extBut _ o D.i1z e) λo e=>sj1.extBut _ o D.l1z e) hx λj2 pj2 sj2=>aE ?_);have oj2:IsPair j2 TO a b:=sj2.extBut _ _ D.TOi1 (sj1.extBut _ _ D.TOz hTO);refine ah (wpAny_seqItems oj2 rfl ?_);refine ah (wpAny_updateSeq_pair oj2 λj3 oj3 sj3=>?_)
 replace oj3:IsPair j3 TO x b:=oj3
 refine ah (wpAny_letGo (aE ?_));refine ah (ah (wpAny_onRaise ?_));show aq (ao prog w) _ (dF (.ref i2)>>=_) _ _ _;refine ah (S2.nx k y _ _ _ (S2.fr k _ _ h2 (λo e=>sj3.extBut _ o D.TOi2.symm (sj2.extBut _ o D.i12.symm (sj1.extBut _ o D.i2z e))) λo e=>sj3.extBut _ o D.l2TO (sj2.extBut _ o D.l2i1 (sj1.extBut _ o D.l2z e))) hy λj4 pj4 sj4=>aE ?_);have oj4:IsPair j4 TO x b:=sj4.extBut _ _ D.TOi2 oj3;refine ah (wpAny_seqItems oj4 rfl ?_);refine ah (wpAny_updateSeq_pair oj4 λj5 oj5 sj5=>?_)
 replace oj5:IsPair j5 TO x y:=oj5
 refine ah (wpAny_letGo (aE (aE ?_)));refine ah (wpAny_seqItems oj5 rfl ?_);refine ah (wpAny_newTuple ?_);have hsz:j5.objs.size=s.heap.objs.size:=by rw[sj5.1,sj4.1,sj3.1,sj2.1,sj1.1]
 have zj5:IsZip j5 z TI TO .ellipsis:=sj5.extBut _ _ D.TOz.symm (sj4.extBut _ _ D.i2z.symm (sj3.extBut _ _ D.TOz.symm (sj2.extBut _ _ D.i1z.symm zj1)));have kj5:∀c o,c≠z->c≠TO->c≠i1->c≠i2->s.heap.get? c=some o->j5.get? c=some o:=λc o c1 c2 c3 c4 e=>
  sj5.extBut _ _ c2 (sj4.extBut _ _ c4 (sj3.extBut _ _ c2 (sj2.extBut _ _ c3 (sj1.extBut _ _ c1 e))))
 have p15:P1 (k+1) j5:=S1.fr _ _ _ pj2 (λo e=>sj5.extBut _ o D.TOi1.symm (sj4.extBut _ o D.i12 (sj3.extBut _ o D.TOi1.symm e))) λo e=>sj5.extBut _ o D.l1TO (sj4.extBut _ o D.l1i2 (sj3.extBut _ o D.l1TO e))
 have p25:P2 (k+1) j5:=S2.fr _ _ _ pj4 (λo e=>sj5.extBut _ o D.TOi2.symm e) λo e=>sj5.extBut _ o D.l2TO e
 have hzlt:z<j5.objs.size:=aM zj5;show aq (ao prog w) _ (Builtin.SmallTypes.ownedTupleHandOut (.ref z) (.ref j5.objs.size)>>=_) _ _ _;refine ah ?_;unfold Builtin.SmallTypes.ownedTupleHandOut;have zj6:IsZip (j5.push {cls:=.type "tuple",data:=.seq #[x,y]}) z TI TO .ellipsis:=Heap.get?_push_of_some _ zj5;refine ah (wpAny_setField_rec zj6 (by simp) λj7 zj7 sj7=>?_)
 replace zj7:IsZip j7 z TI TO (rawInt j5.objs.size):=zj7
 refine wpAny_setField_rec zj7 (by simp) λj8 zj8 sj8=>?_
 replace zj8:IsZip j8 z TI TO (rawInt j5.objs.size):=zj8
 have up:∀c o,c≠z->j5.get? c=some o->j8.get? c=some o:=λc o c1 e=>sj8.extBut _ _ c1 (sj7.extBut _ _ c1 (Heap.get?_push_of_some _ e))
 have tj8:IsPair j8 j5.objs.size x y:=sj8.extBut _ _ (Nat.ne_of_gt hzlt) (sj7.extBut _ _ (Nat.ne_of_gt hzlt) (Heap.get?_push_size _ rfl));have hz8:j8.objs.size=j5.objs.size+1:=by rw[sj8.1,sj7.1,bK]
 rw[hsz]at zj8 tj8 hz8;refine aE ⟨_,rfl,?_⟩;show Q (.ref j5.objs.size) _;rw[hsz];exact hQ j8 zj8 (up _ _ D.TOz oj5) (S1.fr _ _ _ p15 (λo e=>up _ o D.i1z e) λo e=>up _ o D.l1z e) (S2.fr _ _ _ p25 (λo e=>up _ o D.i2z e) λo e=>up _ o D.l2z e) tj8 hz8 λc o c1 c2 c3 c4 e=>up c o c1 (kj5 c o c1 c2 c3 c4 e)
theorem FT{a b:ae}{Q:PySem.Fin->af->Prop}(hh:A.handled=none)(D:ZipApart z TI TO i1 i2 l1 l2)(S1:iG prog w xs i1 l1 P1)
  (hz:IsZip s.heap z TI TO .none) (hTI:IsPair s.heap TI (.ref i1) (.ref i2)) (hTO:IsPair s.heap TO a b) (h1:P1 k s.heap) (hx:xs[k]? = none)
  (hE:∀h' e,(∀c o,c≠z->c≠TO->c≠i1->c≠i2->s.heap.get? c=some o->h'.get? c=some o)->(∃o,h'.get? e=some o/\o.cls=.type "StopIteration")->E (.ref e) {s with heap:=h'}) :
  aq (ao prog w) A (Builtin.«zip.__next__» ⟨[.ref z],[]⟩) Q E s:=by
 show aq (ao prog w) _ (field (.ref z) 2>>=_) _ _ _;refine ah (bZ hz rfl (x:=.bool false) rfl ?_);show aq (ao prog w) _ (field (.ref z) 3>>=_) _ _ _;refine ah (bZ hz rfl (x:=.ref TI) rfl ?_);refine ah (wpAny_seqItems hTI rfl ?_);show aq (ao prog w) _ (Builtin.SmallTypes.ownedTupleIsFree (.ref z)>>=_) _ _ _;refine ah ?_;unfold Builtin.SmallTypes.ownedTupleIsFree;refine ah (bZ hz rfl (x:=.none) rfl (aE ?_));simp only[if_true];refine ah (wpAny_rule ?_);refine ah (bZ hz rfl (x:=.ref TO) rfl ?_);refine ah (wpAny_setField_rec hz (by simp) λj1 zj1 sj1=>?_)
 replace zj1:IsZip j1 z TI TO .ellipsis:=zj1
 refine ah ?_;simp only[List.zipIdx_cons,List.zipIdx_nil,List.forIn_cons,List.forIn_nil];refine ah (ah (wpAny_onRaise ?_));show aq (ao prog w) _ (dF (.ref i1)>>=_) _ _ _;refine ah (S1.en k _ _ _ hh (S1.fr k _ _ h1 (λo e=>sj1.extBut _ o D.i1z e) λo e=>sj1.extBut _ o D.l1z e) hx λj2 e sj2 he=>?_);obtain⟨oe,hoe,hce⟩:=he;have zj2:IsZip j2 z TI TO .ellipsis:=sj2 _ _ D.i1z.symm zj1;have hez:e≠z:=λq=>by subst q;rw[zj2]at hoe;cases hoe;simp at hce
 refine wpAny_setField_rec zj2 (by simp) λj3 _ sj3=>hE j3 e (λc o c1 _ c3 _ q=>sj3.extBut _ _ c1 (sj2 _ _ c3 (sj1.extBut _ _ c1 q))) ⟨oe,sj3.extBut _ _ hez hoe,hce⟩
end
section
variable{X:Cx}{pins:List (Addr×Obj)}{σ:St}{H:Hp}{s:af}{h':Heap}{tk:Nat}
theorem Inv.turnNew{ch:List Addr}{p:Addr}{vs:List V}{its:List ae}(I:Inv X pins σ H s)(hf:∀b∈ch,eA X pins H b)(k:∀b o,b∉ch->s.heap.get? b=some o->h'.get? b=some o)
  (hp:s.heap.objs.size<=p) (ht:IsTup h' p its.toArray) (r:Vals vs its) (hz:vs.length<=aP):Inv X pins σ (upd H p (.tup vs)) {s with heap:=h',toks:=tk}:=by
 have hpn:H p=none:=I.hok.fresh hp;have nch:∀b u,H b=some u->b∉ch:=λb u e z=>by have:=(hf b z).1;rw[e]at this;cases this
 have np:∀b u,H b=some u->b≠p:=λb u e z=>by rw[z,hpn]at e;cases e
 refine I.step (g':=s.gens) (d':=s.drawn) (ch:=ch) (λb hb=>?_) (λb o _ _ hc e _=>k b o hc e) (λb o _ _ hc e _=>⟨o.slots,k b o hc e⟩) (λb o hc e n=>?_) (λb o hc e=>⟨o,k b o hc e⟩)
  (λb xs e=>by rw[qi (np b _ e)];exact e) (λb o u e=>by rw[qi (np b _ e)];exact e) (λb ps e=>⟨#[],by rw[qi (np b _ e),e];simp⟩) (λm hm=>?_) (λb u e=>?_) I.bare
 ·obtain⟨f0,f1,f2,f3,f4,f5⟩:=hf b hb;exact⟨f3,f1,f4,f5⟩
 ·rw[qi (a_ (bG (aM e) hp))];exact n
 ·obtain⟨o,es,ep,ho,r⟩:=hm;exact⟨o,es,ep,k _ o (λz=>(hf _ z).2.1 rfl) ho,r⟩
 ·by_cases hb:b=p
  ·subst hb;rw[zF]at e;cases e;exact⟨hz,its,r,ht⟩
  ·rw[qi hb]at e;refine(I.hok b u e).stay (λc v hc q=>k c v ?_ q) (λc q=>by rw[qi (np c _ q)];exact q) λc xs q=>by rw[qi (np c _ q)];exact q
   rcases hc with z|z
   ·rw[z];exact nch b u e
   ·exact nch c _ z
theorem Inv.turnAll{ch:List Addr}(I:Inv X pins σ H s)(hf:∀b∈ch,eA X pins H b)(k:∀b o,b∉ch->s.heap.get? b=some o->h'.get? b=some o):Inv X pins σ H {s with heap:=h',toks:=tk}:=by
 have nch:∀b u,H b=some u->b∉ch:=λb u e z=>by have:=(hf b z).1;rw[e]at this;cases this
 refine I.step (g':=s.gens) (d':=s.drawn) (ch:=ch) (λb hb=>?_) (λb o _ _ hc e _=>k b o hc e) (λb o _ _ hc e _=>⟨o.slots,k b o hc e⟩) (λb o hc e n=>n) (λb o hc e=>⟨o,k b o hc e⟩)
  (λb xs e=>e) (λb o u e=>e) (λb ps e=>⟨#[],by rw[e];simp⟩) (λm hm=>?_) (λb u e=>?_) I.bare
 ·obtain⟨f0,f1,f2,f3,f4,f5⟩:=hf b hb;exact⟨f3,f1,f4,f5⟩
 ·obtain⟨o,es,ep,ho,r⟩:=hm;exact⟨o,es,ep,k _ o (λz=>(hf _ z).2.1 rfl) ho,r⟩
 ·refine(I.hok b u e).stay (λc v hc q=>k c v ?_ q) (λc q=>q) λc xs q=>q
  rcases hc with z|z
  ·rw[z];exact nch b u e
  ·exact nch c _ z
end
noncomputable def Sq2(K:aC)(tup:Bool)(H:Hp)(a:Addr)(xs:List V):Prop:=if tup=true then SqT K H a xs else SqL K H a xs
noncomputable def Itz(K:aC)(tup:Bool)(l1 l2:Addr):It:=
 ⟨λi H=>∃xs ys x y,Sq2 K tup H l1 xs/\Sq2 K tup H l2 ys/\xs[i]? = some x/\ys[i]? = some y,
  λi H v H'=>∃p x y,H p=none/\v=.ref p/\H'=upd H p (.tup [x,y])/\(∀xs,Sq2 K tup H l1 xs->xs[i]? = some x)/\∀ys,Sq2 K tup H l2 ys->ys[i]? = some y,
  λi H=>∃xs ys,Sq2 K tup H l1 xs/\Sq2 K tup H l2 ys/\xs.length<=i⟩
noncomputable def fh(tup:Bool)(h:Heap)(i l:Addr)(k:Nat):Prop:=if tup=true then h.IsTupleIter i l k else h.IsListIter i l k
noncomputable def u5(tup:Bool)(h:Heap)(l:Addr)(xs:Array ae):Prop:=if tup=true then h.IsTuple l xs else h.IsList l xs
theorem lL{prog:aA}{w:au}{xs:Array ae}{i l:Addr}{tup:Bool}:iG prog w xs i l (λk h=>fh tup h i l k/\u5 tup h l xs):=by
 cases tup with
 |true=>exact w6
 |false=>exact vy
theorem fh.rec{tup:Bool}{h:Heap}{i l:Addr}{k:Nat}(x:fh tup h i l k):∃o vs,h.get? i=some o/\o.data=.fields vs:=by
 cases tup with
 |true=>obtain⟨o,e,_,d⟩:=(show h.IsTupleIter i l k from x);exact⟨o,_,e,d⟩
 |false=>obtain⟨o,e,_,d⟩:=(show h.IsListIter i l k from x);exact⟨o,_,e,d⟩
theorem fh.kept{tup:Bool}{h h':Heap}{i l:Addr}{k:Nat}(x:fh tup h i l k)(p:∀o,h.get? i=some o->h'.get? i=some o):fh tup h' i l k:=by
 cases tup with
 |true=>exact(show h.IsTupleIter i l k from x).at p
 |false=>exact(show h.IsListIter i l k from x).at p
theorem Inv.sq2{X:Cx}{pins:List (Addr×Obj)}{σ:St}{H:Hp}{s:af}{tup:Bool}{a:Addr}{xs:List V}(I:Inv X pins σ H s)(h:Sq2 X.K tup H a xs):∃its:List ae,Vals xs its/\u5 tup s.heap a its.toArray/\xs.length<=aP/\∃o ns n,s.heap.get? a=some o/\o.data=.seq ns n:=by
 cases tup with
 |true=>
  obtain⟨its,r,p,z⟩:=I.tuple h;obtain⟨o,e,c,n,d⟩:=id p;exact⟨its,r,p,z,o,_,n,e,d⟩
 |false=>
  obtain⟨its,r,p,z⟩:=I.list h;obtain⟨o,n,e,c,c',d⟩:=id p;exact⟨its,r,p.isList,z,o,_,n,e,d⟩
theorem Inv.sq2_inj{X:Cx}{pins:List (Addr×Obj)}{σ:St}{H:Hp}{s:af}{tup:Bool}{a:Addr}{xs ys:List V}(I:Inv X pins σ H s)(h:Sq2 X.K tup H a xs)(h':Sq2 X.K tup H a ys):xs=ys:=by
 cases tup with
 |true=>exact I.tuple_inj h h'
 |false=>exact I.list_inj h h'
theorem yN{P:aA}{w:au}{K:aC}{es:List Expr}{ek:Nat}{epos:Pos}{tup:Bool}{z TI TO i1 i2 l1 l2:Addr}(n1:TI≠z)(n2:TO≠z)(n3:i1≠z)(n4:i2≠z)(n5:TI≠TO)(n6:TI≠i1)(n7:TI≠i2)(n8:TO≠i1)(n9:TO≠i2)(n10:i1≠i2)
  (ml:∀b∈[z,TI,TO,i1,i2],l1≠b/\l2≠b):Turn P w K (.Tuple es ek epos) (Itz K tup l1 l2) [z,TI,TO,i1,i2] z (λi h=>IsZip h z TI TO .none/\IsPair h TI (.ref i1) (.ref i2)/\(∃a b,IsPair h TO a b)/\fh tup h i1 l1 i/\fh tup h i2 l2 i) where
 mem:=by simp
 obj:=λi h st b hb=>by
  obtain⟨hz,hTI,⟨a,c,hTO⟩,h1,h2⟩:=st;obtain⟨o1,v1,e1,d1⟩:=h1.rec;obtain⟨o2,v2,e2,d2⟩:=h2.rec;have hb':b=z\/b=TI\/b=TO\/b=i1\/b=i2:=by simpa using hb
  rcases hb' with q|q|q|q|q
  ·subst q;exact⟨_,hz,λv q=>by cases q⟩
  ·subst q;exact⟨_,hTI,λv q=>by cases q⟩
  ·subst q;exact⟨_,hTO,λv q=>by cases q⟩
  ·subst q;exact⟨o1,e1,λv q=>by rw[d1]at q;cases q⟩
  ·subst q;exact⟨o2,e2,λv q=>by rw[d2]at q;cases q⟩
 keep:=λi h h' st k=>by
  obtain⟨hz,hTI,⟨a,c,hTO⟩,h1,h2⟩:=st;exact⟨k z (by simp) _ hz,k TI (by simp) _ hTI,⟨a,c,k TO (by simp) _ hTO⟩,h1.kept λo e=>k i1 (by simp) o e,h2.kept λo e=>k i2 (by simp) o e⟩
 item:=by
  intro X hP hw hK hc i pins s σ H E I hf st hg;subst hP hw hK;obtain⟨hz,hTI,⟨a,c,hTO⟩,h1,h2⟩:=st;obtain⟨xs,ys,x,y,q1,q2,hx,hy⟩:=hg;obtain⟨its1,r1,p1,z1,_⟩:=I.sq2 q1;obtain⟨its2,r2,p2,z2,_⟩:=I.sq2 q2;obtain⟨u1,hu1,ru1⟩:=r1.get hx;obtain⟨u2,hu2,ru2⟩:=r2.get hy;have D:ZipApart z TI TO i1 i2 l1 l2:=⟨n1,n2,n3,n4,n5,n6,n7,n8,n9,n10,(ml z (by simp)).1,(ml TO (by simp)).1,(ml i1 (by simp)).1,(ml i2 (by simp)).1,(ml z (by simp)).2,(ml TO (by simp)).2,(ml i1 (by simp)).2,(ml i2 (by simp)).2⟩
  have hT:s.TypeIs (.ref z) "zip":=⟨_,hz,rfl⟩
  unfold pyNext;refine ah (wpAny_attempt (wpAny_callSpecial?_slot (name:=aL "__next__") hT F.slot_zip_next (dG F.slot_zip_next hT F.entry_zip_next
   (Dm (xs:=its1.toArray) (ys:=its2.toArray) (k:=i) D (lL (tup:=tup)) (lL (tup:=tup)) hz hTI hTO ⟨h1,p1⟩ ⟨h2,p2⟩ (by simpa using hu1) (by simpa using hu2) λh' a1 a2 a3 a4 a5 a6 hk=>aE ?_) (F.args_zip_next_1 _))))
  have hkc:∀b o,b∉[z,TI,TO,i1,i2]->s.heap.get? b=some o->h'.get? b=some o:=λb o hb e=>hk b o (λq=>hb (by simp[q])) (λq=>hb (by simp[q])) (λq=>hb (by simp[q])) (λq=>hb (by simp[q])) e
  have I1:Inv X pins σ (upd H s.heap.objs.size (.tup [x,y])) {s with heap:=h'}:=I.turnNew (tk:=s.toks) (its:=[u1,u2]) hf hkc (aG _) ⟨_,a5,rfl,_,rfl⟩ (.cons ru1 (.cons ru2 .nil)) (by show 2<=aP;decide);have hpn:H s.heap.objs.size=none:=I.hok.fresh (aG _);have hfp:∀b∈[z,TI,TO,i1,i2],b≠s.heap.objs.size:=λb hb q=>by
   have hb':b=z\/b=TI\/b=TO\/b=i1\/b=i2:=by simpa using hb
   obtain⟨o1,v1,e1,d1⟩:=h1.rec;obtain⟨o2,v2,e2,d2⟩:=h2.rec;have:b<s.heap.objs.size:=by
    rcases hb' with q|q|q|q|q
    ·subst q;exact aM hz
    ·subst q;exact aM hTI
    ·subst q;exact aM hTO
    ·subst q;exact aM e1
    ·subst q;exact aM e2
   rw[q]at this;exact bQ _ this
  have hnone:∀b∈[z,TI,TO,i1,i2],(upd H s.heap.objs.size (.tup [x,y])) b=none:=λb hb=>by rw[qi (hfp b hb)];exact(hf b hb).1
  refine⟨_,rfl,?_⟩;refine wpAny_letOwnedTupleGo_zip (s:={s with heap:=h'}) a1 λh2' hz' hs'=>?_
  obtain⟨f0,f1,f2,f3,f4,f5⟩:=hf z (by simp);refine⟨.ref s.heap.objs.size,_,I1.turned (t':=s.toks) (it:=z) (λb o hb e=>(hs'.2 b hb).trans e) (hnone z (by simp)) f1 f3 f4 f5,rfl,⟨_,x,y,hpn,rfl,rfl,λzs hq=>by rw[I.sq2_inj hq q1];exact hx,λzs hq=>by rw[I.sq2_inj hq q2];exact hy⟩,?_,hnone⟩;have up:∀b o,b≠z->h'.get? b=some o->h2'.get? b=some o:=λb o hb e=>(hs'.2 b hb).trans e
  exact⟨hz',up _ _ n1 (hk _ _ n1 n5 n6 n7 hTI),⟨_,_,up _ _ n2 a2⟩,a3.1.kept λo e=>up _ o n3 e,a4.1.kept λo e=>up _ o n4 e⟩
 done:=by
  intro X hP hw hK hc i pins s σ H E I hf st hg;subst hP hw hK;obtain⟨hz,hTI,⟨a,c,hTO⟩,h1,h2⟩:=st;obtain⟨xs,ys,q1,q2,hx⟩:=hg;obtain⟨its1,r1,p1,z1,_⟩:=I.sq2 q1;have D:ZipApart z TI TO i1 i2 l1 l2:=⟨n1,n2,n3,n4,n5,n6,n7,n8,n9,n10,(ml z (by simp)).1,(ml TO (by simp)).1,(ml i1 (by simp)).1,(ml i2 (by simp)).1,(ml z (by simp)).2,(ml TO (by simp)).2,(ml i1 (by simp)).2,(ml i2 (by simp)).2⟩
  have hT:s.TypeIs (.ref z) "zip":=⟨_,hz,rfl⟩
  have hl:=r1.length;unfold pyNext;refine ah (wpAny_attempt (wpAny_callSpecial?_slot (name:=aL "__next__") hT F.slot_zip_next (dG F.slot_zip_next hT F.entry_zip_next
   (FT (xs:=its1.toArray) (k:=i) (I.ok.hd hc) D (lL (tup:=tup)) hz hTI hTO ⟨h1,p1⟩ (by simp;lia) λh' e hk he=>?_) (F.args_zip_next_1 _))))
  obtain⟨o,ho,hcl⟩:=he;refine ah (wpAny_isInstance (T:="StopIteration") (b:=true) ⟨o,ho,hcl⟩ isSubtype_stop ?_);exact aE ⟨rfl,I.turnAll (tk:=s.toks) hf λb o hb e=>hk b o (λq=>hb (by simp[q])) (λq=>hb (by simp[q])) (λq=>hb (by simp[q])) (λq=>hb (by simp[q])) e⟩
 self:=λ_ _ _ _ _ st h=>wpAny_pyIter_zip st.1 h
abbrev zj1(h:Heap)(l1:Addr):Heap:=h.push {cls:=.type "tuple_iterator",data:=.fields #[.ref l1,.int 0 0]}
abbrev zj2(h:Heap)(l1 l2:Addr):Heap:=(zj1 h l1).push {cls:=.type "tuple_iterator",data:=.fields #[.ref l2,.int 0 0]}
abbrev zj3(h:Heap)(l1 l2:Addr):Heap:=(zj2 h l1 l2).push {cls:=.type "tuple",data:=.seq #[.ref h.objs.size,.ref (zj1 h l1).objs.size]}
abbrev zj4(h:Heap)(l1 l2:Addr):Heap:=(zj3 h l1 l2).push {cls:=.type "tuple",data:=.seq #[.none,.none]}
abbrev zj5(h:Heap)(l1 l2:Addr):Heap:=(zj4 h l1 l2).push {cls:=.type "zip",data:=.fields #[.none,.bool false,.bool false,.ref (zj2 h l1 l2).objs.size,.ref (zj3 h l1 l2).objs.size]}
theorem GQ(l1 l2:Addr)(xs ys:Array ae) :
  Meets (Builtin.«zip.__new__» ⟨[.type "zip",.ref l1,.ref l2],[]⟩) (λ_ R s=>s.heap.IsTuple l1 xs/\s.heap.IsTuple l2 ys/\R (.ok (.ret (.ref (zj4 s.heap l1 l2).objs.size))) {s with heap:=zj5 s.heap l1 l2}):=
 .of_wp λprog w A R s h=>by
  obtain⟨hp,g,d,tk,os⟩:=s;obtain⟨hl1,hl2,h⟩:=h;have hsub:=sub_zip;have hL1:Heap.IsTuple (af.heap ⟨hp,g,d,tk,os⟩) l1 xs:=hl1;have hL2:Heap.IsTuple (af.heap ⟨hp.push {cls:=.type "tuple_iterator",data:=.fields #[.ref l1,.int 0 0]},g,d,tk,os⟩) l2 ys:=let ⟨o,e,r⟩:=hl2;⟨o,Heap.get?_push_of_some _ e,r⟩
  wp_walk using wpAny_pyIter_tuple hL1,wpAny_pyIter_tuple hL2
  exact⟨_,rfl,h⟩
section
variable{prog:aA}{w:au}{A:aB}{E:ae->af->Prop}{s:af}
theorem xm{l1 l2:Addr}{xs ys:Array ae}{Q:ae->af->Prop}(hl1:s.heap.IsTuple l1 xs)(hl2:s.heap.IsTuple l2 ys)
  (h:∀h',IsZip h' (s.heap.objs.size+4) (s.heap.objs.size+2) (s.heap.objs.size+3) .none->IsPair h' (s.heap.objs.size+2) (.ref s.heap.objs.size) (.ref (s.heap.objs.size+1)) ->
   IsPair h' (s.heap.objs.size+3) .none .none->h'.IsTupleIter s.heap.objs.size l1 0->h'.IsTupleIter (s.heap.objs.size+1) l2 0->h'.objs.size=s.heap.objs.size+5 ->
   (∀c o,s.heap.get? c=some o->h'.get? c=some o)->Q (.ref (s.heap.objs.size+4)) {s with heap:=h'}):aq (ao prog w) A (call (.type "zip") [.ref l1,.ref l2]) Q E s:=by
 refine callType_new F.called_zip (by decide) (F.typeCall_zip_2 _ _) (F.newCall_zip_2 _ _) (λobj=>F.args_object_init_3 obj _ _) F.entry_zip_new (GQ l1 l2 xs ys) ⟨hl1,hl2,?_⟩;have z1:(zj1 s.heap l1).objs.size=s.heap.objs.size+1:=bK ..;have z2:(zj2 s.heap l1 l2).objs.size=s.heap.objs.size+2:=by rw[bK,z1]
 have z3:(zj3 s.heap l1 l2).objs.size=s.heap.objs.size+3:=by rw[bK,z2]
 have z4:(zj4 s.heap l1 l2).objs.size=s.heap.objs.size+4:=by rw[bK,z3]
 have z5:(zj5 s.heap l1 l2).objs.size=s.heap.objs.size+5:=by rw[bK,z4]
 have g5:(zj5 s.heap l1 l2).get? (zj4 s.heap l1 l2).objs.size=some _:=Heap.get?_push_size _ rfl;have g4:(zj5 s.heap l1 l2).get? (zj3 s.heap l1 l2).objs.size=some _:=Heap.get?_push_of_some _ (Heap.get?_push_size _ rfl);have g3:(zj5 s.heap l1 l2).get? (zj2 s.heap l1 l2).objs.size=some _:=Heap.get?_push_of_some _ (Heap.get?_push_of_some _ (Heap.get?_push_size _ rfl));have g2:(zj5 s.heap l1 l2).get? (zj1 s.heap l1).objs.size=some _:=Heap.get?_push_of_some _ (Heap.get?_push_of_some _ (Heap.get?_push_of_some _ (Heap.get?_push_size _ rfl)));have g1:(zj5 s.heap l1 l2).get? s.heap.objs.size=some _:=Heap.get?_push_of_some _ (Heap.get?_push_of_some _ (Heap.get?_push_of_some _ (Heap.get?_push_of_some _ (Heap.get?_push_size _ rfl))));show _/\_;rw[z2,z3,z4]at g5;rw[z1,z2]at g3;rw[z3]at g4;rw[z1]at g2;rw[z4];exact⟨⟨_,g5,rfl⟩,h _ g5 g3 g4 ⟨_,g1,rfl,rfl⟩ ⟨_,g2,rfl,rfl⟩ z5 λc o x=>Heap.get?_push_of_some _ (Heap.get?_push_of_some _ (Heap.get?_push_of_some _ (Heap.get?_push_of_some _ (Heap.get?_push_of_some _ x))))⟩
end
noncomputable def vL(K:aC)(ta:TA):TI:=λσ H R=>ta σ H λvs H1=>∃(tup:Bool) (l1 l2:Addr),vs=[.ref l1,.ref l2]/\(∃xs,Sq2 K tup H1 l1 xs)/\(∃ys,Sq2 K tup H1 l2 ys)/\R (Itz K tup l1 l2) H1
theorem vR{X:Cx}{es:List Expr}{ek:Nat}{epos p pos:Pos}{a b:Expr}{ta:TA}(hg:Gl X "zip")(hm:X.mg "zip" = none)(hv:bU "zip" = some (.type "zip"))(ha:PA X [a,b] ta)
  (hs:aY [a,b] X.env=[(false,eval a X.env),(false,eval b X.env)]:=by rfl) (hs2:aY [b] X.env=[(false,eval b X.env)]:=by rfl):PI X (.Tuple es ek epos) (.Call (.Name "zip" p) [a,b] [] pos) (vL X.K ta):=by
 intro pins s σ H R I h;refine Call_ (fC I hg hm hv (fT (thn (ha pos pins s σ H _ I h) λus s1 ⟨vs,H1,I1,r1,q1⟩=>?_) (by rw[hs,hs2]) (by rw[hs2];rfl)));obtain⟨tup,l1,l2,e,⟨xs,q2⟩,⟨ys,q3⟩,q⟩:=q1;subst e;cases r1 with
 |cons r rr=>
  cases rr with
  |cons r' rr=>
   cases rr;cases r;cases r';obtain⟨its1,v1,p1,_,o1,ns1,m1,e1,d1⟩:=I1.sq2 q2;obtain⟨its2,v2,p2,_,o2,ns2,m2,e2,d2⟩:=I1.sq2 q3;have lt1:l1<s1.heap.objs.size:=aM e1;have lt2:l2<s1.heap.objs.size:=aM e2;have above:∀b:Addr,b∈[s1.heap.objs.size+4,s1.heap.objs.size+2,s1.heap.objs.size+3,s1.heap.objs.size,s1.heap.objs.size+1]->s1.heap.objs.size<=b:=λb hb=>by
    have hb':b=s1.heap.objs.size+4\/b=s1.heap.objs.size+2\/b=s1.heap.objs.size+3\/b=s1.heap.objs.size\/b=s1.heap.objs.size+1:=by simpa using hb
    rcases hb' with q|q|q|q|q
    ·rw[q];exact Nat.le_add_right _ _
    ·rw[q];exact Nat.le_add_right _ _
    ·rw[q];exact Nat.le_add_right _ _
    ·rw[q];exact aG _
    ·rw[q];exact Nat.le_add_right _ _
   have fin:∀h',IsZip h' (s1.heap.objs.size+4) (s1.heap.objs.size+2) (s1.heap.objs.size+3) .none->IsPair h' (s1.heap.objs.size+2) (.ref s1.heap.objs.size) (.ref (s1.heap.objs.size+1)) ->
     IsPair h' (s1.heap.objs.size+3) .none .none->fh tup h' s1.heap.objs.size l1 0->fh tup h' (s1.heap.objs.size+1) l2 0->(∀c o,s1.heap.get? c=some o->h'.get? c=some o) ->
     aq (ao X.prog X.w) X.A (pyIter (.ref (s1.heap.objs.size+4))) (PIE X pins σ (.Tuple es ek epos) R) X.xe {s1 with heap:=h'}:=λh' a1 a2 a3 a4 a5 k=>by
    have I2:Inv X pins σ H1 {s1 with heap:=h'}:=I1.kept (t':=s1.toks) k;refine wpAny_pyIter_zip a1 ?_;refine⟨_,_,_,_,H1,rfl,I2,yN (P:=X.prog) (w:=X.w) (K:=X.K) (z:=s1.heap.objs.size+4) (TI:=s1.heap.objs.size+2) (TO:=s1.heap.objs.size+3) (i1:=s1.heap.objs.size) (i2:=s1.heap.objs.size+1) (l1:=l1) (l2:=l2) (tup:=tup) (show (s1.heap.objs.size+2:Nat)≠s1.heap.objs.size+4 by lia) (show (s1.heap.objs.size+3:Nat)≠s1.heap.objs.size+4 by lia) (show (s1.heap.objs.size:Nat)≠s1.heap.objs.size+4 by lia) (show (s1.heap.objs.size+1:Nat)≠s1.heap.objs.size+4 by lia) (show (s1.heap.objs.size+2:Nat)≠s1.heap.objs.size+3 by lia) (show (s1.heap.objs.size+2:Nat)≠s1.heap.objs.size by lia) (show (s1.heap.objs.size+2:Nat)≠s1.heap.objs.size+1 by lia) (show (s1.heap.objs.size+3:Nat)≠s1.heap.objs.size by lia) (show (s1.heap.objs.size+3:Nat)≠s1.heap.objs.size+1 by lia) (show (s1.heap.objs.size:Nat)≠s1.heap.objs.size+1 by lia) (λb hb=>?_),⟨a1,a2,⟨_,_,a3⟩,a4,a5⟩,λb hb=>?_,q⟩
    ·have:=above b hb;exact⟨a_ (bG lt1 this),a_ (bG lt2 this)⟩
    ·have:=above b hb;exact I1.fpOk this (I1.hok.fresh this)
   cases tup with
   |true=>exact xm p1 p2 λh' a1 a2 a3 a4 a5 _ k=>fin h' a1 a2 a3 a4 a5 k
   |false=>exact call_zip_2 p1 p2 λh' a1 a2 a3 a4 a5 _ k=>fin h' a1 a2 a3 a4 a5 k
theorem yF{K:aC}{T:String}:cR K (.type T) (.type T)=some true:=by unfold cR;rw[if_pos (by simp)]
theorem y6{K:aC}{a T:String}{b:Bool}(hne:(bV a==bV T)=false)(hm:PySem.W.kitMeta T=true)(hf:(fastBuiltinMro a).map (·.contains (.type T))=some b):cR K (.type a) (.type T)=some b:=by
 unfold cR PySem.W.kitCls PySem.W.subIn;rw[if_neg (by rw[hne];exact b9)];dsimp only;rw[if_pos hm];exact hf
noncomputable def hX(a T:String):Bool:=a==T||(a == "bool" && T == "int")
theorem w8{K:aC}{a T:String}(ha:a∈["NoneType","bool","int","str","list","tuple","dict"])(hT:T∈["int","bool","str","list","tuple"]):cR K (.type a) (.type T)=some (hX a T):=by
 simp only[aF,cy,or_false]at ha hT;rcases ha with rfl|rfl|rfl|rfl|rfl|rfl|rfl<;>rcases hT with rfl|rfl|rfl|rfl|rfl<;>first|exact yF|exact y6 (by decide +kernel) (by decide +kernel) (by decide +kernel)
noncomputable def ltP(p q:Int×Int):Bool:=if p.1=q.1 then decide (p.2<q.2)else decide (p.1<q.1)
section
variable{prog:aA}{w:au}{A:aB}{E:ae->af->Prop}{s:af}
end
theorem sH{h:Heap}{a:Addr}{m m':Str->Option ae}(x:h.Ns a m)(y:h.Ns a m'):m=m':=by
 obtain⟨o,es,ep,e1,e2,_,e4⟩:=x;obtain⟨o',es',ep',f1,f2,_,f4⟩:=y;rw[e1]at f1;cases f1;rw[e2]at f2;cases f2;funext n;rw[<-e4,<-f4]
theorem Inv.newList{X:Cx}{pins:List (Addr×Obj)}{σ:St}{H:Hp}{s s':af}{D:Addr}{out:List V}{its:List ae}{c:Nat}(I:Inv X pins σ H s)(hos:s'.os=s.os)(hg:s'.gens=s.gens)
  (k:∀b o,b≠X.env.locals->s.heap.get? b=some o->s'.heap.get? b=some o) (ns:∀m,s.heap.Ns X.env.locals m->s'.heap.Ns X.env.locals m) (hD:s.heap.get? D=none) (hDL:D≠X.env.locals)
  (hl:s'.heap.get? D=some {cls:=.type "list",data:=.seq its.toArray c}) (r:Vals out its) (hz:out.length<=aP):Inv X pins σ (upd H D (.lst out)) s':=by
 obtain⟨h',g',d',t',o'⟩:=s';have eo:o'=s.os:=hos;have eg:g'=s.gens:=hg;subst eo eg;have hpn:H D=none:=I.hok.free_of hD;have np:∀b u,H b=some u->b≠D:=λb u e z=>by rw[z,hpn]at e;cases e
 obtain⟨m0,n0,_⟩:=id I.loc;obtain⟨oL,es,ep,hoL,_⟩:=id n0;obtain⟨oL',es',ep',hoL',_⟩:=ns _ n0;refine I.step (g':=s.gens) (d':=d') (ch:=[]) (λb hb=>absurd hb (by simp)) (λb o hL _ _ e _=>k b o hL e) (λb o hL _ _ e _=>⟨o.slots,k b o hL e⟩) (λb o _ e n=>?_) (λb o _ e=>?_)
  (λb xs e=>by rw[qi (np b _ e)];exact e) (λb o u e=>by rw[qi (np b _ e)];exact e) (λb ps e=>⟨#[],by rw[qi (np b _ e),e];simp⟩) ns (λb u e=>?_) I.bare
 ·rw[qi (λz=>by rw[z,hD]at e;cases e)];exact n
 ·by_cases hL:b=X.env.locals
  ·exact⟨oL',by rw[hL];exact hoL'⟩
  ·exact⟨o,k b o hL e⟩
 ·by_cases hb:b=D
  ·subst hb;rw[zF]at e;cases e;exact⟨hz,its,c,r,hl⟩
  ·rw[qi hb]at e;have nl:∀c,(∃u,H c=some u)->c≠X.env.locals:=λc ⟨u,e⟩ z=>by rw[z,I.free]at e;cases e
   refine(I.hok b u e).stay (λc v hc q=>k c v (nl c ?_) q) (λc q=>by rw[qi (np c _ q)];exact q) λc xs q=>by rw[qi (np c _ q)];exact q
   rcases hc with z|z
   ·exact⟨u,by rw[z];exact e⟩
   ·exact⟨_,z⟩
section
variable{prog:aA}{w:au}{A:aB}{E:ae->af->Prop}{s:af}
theorem GL{a:Addr}{vs:List ae}{P:Fin->af->Prop}(hoL:s.heap.get? a=some (aU "list" vs.toArray 0))(h2:vs.length<2)(h:P (.done (.ret .none)) {s with heap:=sortedHeap s.heap a vs vs.toArray}) :
  aq (ao prog w) A (Builtin.«list.sort» ⟨[.ref a],[]⟩) P E s:=by
 rw[list_sort_plain];refine ah (listItems_at  hoL rfl ?_);refine ah (listUpdate_at  hoL rfl ?_ (by rw[aV,bu];lia) (bx _));obtain⟨e1,ho1⟩:∃e1,(s.heap.update a (bt λ_=>#[])).get? a=some (aU "list" #[] e1):=⟨_,get?_update_seq hoL (λ_=>#[])⟩
 refine ah (seqEpoch_at ho1 rfl ?_);refine ah (wpAny_newTuple ?_ (by show vs.length<=_;rw[bu];lia));refine ah (wpAny_newList ?_ (bx _));refine cc ?_;have hlt:a<s.heap.objs.size:=aM hoL;have ho6:(((s.heap.update a (bt λ_=>#[])).push (aU "tuple" vs.toArray 0)).push (aU "list" #[] 0)).get? a=some (aU "list" #[] e1):=by
  rw[Heap.get?_push_ne _ _ _ (by rw[size_push',Heap.size_update];exact a_ (cx hlt)),Heap.get?_push_ne _ _ _ (by rw[Heap.size_update];exact a_ hlt)];exact ho1
 show aq (ao prog w) _ _ _ _ {s with heap:=((s.heap.update a (bt λ_=>#[])).push (aU "tuple" vs.toArray 0)).push (aU "list" #[] 0)};dsimp only;have h2':vs.toArray.size<2:=by rw[aV];exact h2
 rw[if_pos h2',if_pos h2'];refine ah (aE ?_);rw[StateT.run_pure];refine ah (aE ?_);dsimp only;refine ah (seqEpoch_at ho6 rfl ?_);have hout:(ag (aN.mk' general' (vs.toArray.zip vs.toArray) #[] 7 none)).map (·.2)=vs.toArray:=by
  show (vs.toArray.zip vs.toArray).map (·.2)=vs.toArray;apply Array.toList_inj.mp;simp[List.map_snd_zip]
 refine ah (listUpdate_at ho6 rfl ?_ (bx _) (by rw[hout,aV,bu];lia));simp only[bne_self_eq_false,bD,if_false];refine aE ?_;rw[hout];exact h
theorem EM{l:Addr}{vs:List ae}{Q:ae->af->Prop}(hl:s.heap.IsList l vs.toArray)(h2:vs.length<2)(h:Q (.ref (s.heap.objs.size+1)) {s with heap:=sortedAll s.heap vs vs.toArray}):aq (ao prog w) A (call (.builtin "sorted") [.ref l]) Q E s:=by
 refine Calls.call_function_entry kind_sorted plain_sorted entry_sorted (args_sorted1 _) ?_;unfold Builtin.«sorted»;refine ah (m:=checkCount "sorted" 1 1 _) (aE ?_);refine ah (collect_list hl ?_ (by rw[bu];lia));refine ah (wpAny_newList ?_ (by rw[bu];lia));have hsz:((s.heap.push (aU "list" #[] 0)).update s.heap.objs.size (bt (· ++ vs.toArray))).objs.size=s.heap.objs.size+1:=by rw[Heap.size_update,size_push']
 have hoL:(((s.heap.push (aU "list" #[] 0)).update s.heap.objs.size (bt (· ++ vs.toArray))).push (aU "list" vs.toArray 0)).get? (s.heap.objs.size+1)=some (aU "list" vs.toArray 0):=by rw[<-hsz];exact Heap.get?_push_size _ rfl
 show aq _ _ _ _ _ {s with heap:=((s.heap.push (aU "list" #[] 0)).update s.heap.objs.size (bt (· ++ vs.toArray))).push (aU "list" vs.toArray 0)};rw[hsz];refine ah (cc (dG slot_list_sort ⟨_,hoL,rfl⟩ entry_list_sort ?body (args_list_sort _)))
 case body=>
  exact GL hoL h2 ⟨_,rfl,aE ⟨_,rfl,h⟩⟩
end
section
variable{X:Cx}{pins:List (Addr×Obj)}{σ:St}{H:Hp}{s:af}
theorem FQ{A:aB}{bs:List Bool}{us:List ae}(r:Vals (bs.map V.bl) us):us=bs.map ae.bool:=by
 induction bs generalizing us with
 |nil=>cases r;rfl
 |cons b bs ih=>cases r with
  |cons h t=>rw[ih t,show _=ae.bool b from h];rfl
end
section
variable{X:Cx}
noncomputable def sM(r r' r'':R2)(ta tb tc td:TE):TE:=λσ H Q=>ta σ H λx H1=>tb σ H1 λy H2=>r x y H2 λz H3=>∃k,z=.bl k /\
 (if k=true then tc σ H3 λw' H4=>r' y w' H4 λz H5=>∃k,z=.bl k/\(if k=true then td σ H5 λw'' H6=>r'' w' w'' H6 Q else Q (.bl false) H5)else Q (.bl false) H3)
theorem xk{a b c d:Expr}{ta tb tc td:TE}{pos:Pos}{op op' op'':CmpOp}{r r' r'':R2}(ho:OpR X (bh op) r)(ho':OpR X (bh op') r')(ho'':OpR X (bh op'') r'')(ha:PE X a ta)(hb:PE X b tb)(hc:PE X c tc)(hd:PE X d td)
  (hm:lastMarks [op,op',op''] [b,c,d]=false:=by with_unfolding_all rfl):PE X (.Compare a [op,op',op''] [b,c,d] pos) (sM r r' r'' ta tb tc td):=by
 intro pins s σ H Q I h;refine Compare_chain (thn (ha pins s σ H _ I h) λv s1 ⟨x,H1,I1,r1,q1⟩=>chain_link (thn (hb pins s1 σ H1 _ I1 q1) λu s2 ⟨y,H2,I2,r2,q2⟩=>
  thn (ho pins s2 σ H2 x y v u _ I2 r1 r2 q2) λd s3 ⟨z,H3,I3,r3,k,e,q3⟩=>?_)) hm
 subst e;cases r3;refine bR ?_;cases k with
 |false=>exact ite_ff ⟨.bl false,H3,I3,rfl,q3⟩
 |true=>
  refine ite_tt (chain_link (thn (hc pins s3 σ H3 _ I3 q3) λw' s4 ⟨z',H4,I4,r4,q4⟩=>thn (ho' pins s4 σ H4 y z' u w' _ I4 r2 r4 q4) λd' s5 ⟨z2,H5,I5,r5,k2,e2,q5⟩=>?_));subst e2;cases r5;refine bR ?_;cases k2 with
  |false=>exact ite_ff ⟨.bl false,H5,I5,rfl,q5⟩
  |true=>exact ite_tt (chain_last (thn (hd pins s5 σ H5 _ I5 q5) λw'' s6 ⟨z3,H6,I6,r6,q6⟩=>ho'' pins s6 σ H6 z' z3 w' w'' Q I6 r4 r6 q6))
noncomputable def An(K:aC):R2:=λx y H Q=>∃a b xs ys,x=.ref a/\y=.ref b/\SqT K H a xs/\SqT K H b ys/\xs.length+ys.length<=aP /\
 (xs=[]->Q (.ref b) H)/\(xs≠[]->ys=[]->Q (.ref a) H)/\(xs≠[]->ys≠[]->∀p,H p=none->Q (.ref p) (upd H p (.tup (xs++ys))))
theorem AM:OpR X (binaryOp .Add) (An X.K):=by
 intro pins s σ H x y v u Q I rx ry h;obtain⟨a,b,xs,ys,rfl,rfl,ha,hb,hz,q0,q1,q2⟩:=h;by_cases hx:xs=[]
 ·subst hx;cases rx;cases ry;obtain⟨its,r1,p1,_⟩:=I.tuple ha;obtain⟨its2,r2,p2,_⟩:=I.tuple hb;cases r1;obtain⟨⟨cls,dd,data,sl⟩,ho,hc,n,hd⟩:=id p1;obtain⟨⟨cls2,dd2,data2,sl2⟩,ho2,hc2,n2,hd2⟩:=id p2;simp only at hc hd hc2 hd2;subst hc hd hc2 hd2;exact concat_meets ⟨_,ho,rfl⟩ ⟨_,ho2,rfl⟩ noFill_tuple_add seq_tuple_add PySem.F.slot_tuple_add PySem.F.entry_tuple_add (PySem.F.args_tuple_add_2 _ _)
   (tuple_addW0 a b _ its2.toArray n n2 dd dd2 sl sl2 (by simp)) ⟨ho,ho2,⟨.ref b,H,I,rfl,q0 rfl⟩⟩
 ·exact Bo pins s σ H (.ref a) (.ref b) v u Q I rx ry ⟨a,b,xs,ys,rfl,rfl,ha,hb,hx,hz,q1 hx,q2 hx⟩
theorem lI{vs:List ae}{ns:List Int}(h:ba vs ns):Vals (ns.map V.int) vs:=by
 induction h with
 |nil=>exact .nil
 |cons n t _ ih=>exact .cons ⟨t,rfl⟩ ih
noncomputable def Cq(K:aC):List V->Hp->VK->Prop:=λvs H Q=>∃(l:Addr) (ns:List Int),vs=[.ref l]/\SqL K H l (ns.map V.int)/\ns.length<64/\∀(D:Addr) (ms:List Int),H D=none->ms.Perm ns->ms.Pairwise (·<=·)->Q (.ref D) (upd H D (.lst (ms.map V.int)))
theorem vA:zg X (.builtin "sorted") (Cq X.K):=by
 intro pins s σ H xs us Q I r h;obtain⟨l,ns,rfl,hl,h64,q⟩:=h;obtain⟨u,rfl,ru⟩:=r.one;cases ru;obtain⟨its,rv,pl,hz⟩:=I.list hl;obtain⟨m,F⟩:=I.fr;refine PySem.W.kso_sorted F (uF (g:=X.base) (h:=s.heap) (L:=X.env.locals)) pl.isList (intsAre_of rv) h64 λD vs' ns' c h' F' N' hlt hi he hp ho _=>?_
 have keep:∀b o,b≠X.env.locals->s.heap.get? b=some o->h'.get? b=some o:=λb o hb e=>by
  cases qb:X.base.get? b with
  |some ob=>have:=I.bk b ob qb;rw[e]at this;cases this;exact F'.keep b _ qb
  |none=>exact(N' (b,o) (aO _ (lK hb qb e))).1
 have hDn:=N' (D,_) aK;have hD0:s.heap.get? D=none:=by
  cases qd:s.heap.get? D with
  |none=>rfl
  |some o=>exact absurd (hlt (D,o) (lK hDn.2.1 hDn.2.2 qd)) (bQ _)
 refine⟨.ref D,_,I.newList (s':={s with heap:=h'}) (c:=c) rfl rfl keep (λm' hm'=>?_) hD0 hDn.2.1 hDn.1 (lI hi) (by rw[aJ,he,bu];lia),rfl,q D ns' (I.hok.free_of hD0) hp ho⟩;rw[sH hm' F.ns];exact F'.ns
end
noncomputable def Ite(K:aC)(l:Addr):It:=
 ⟨λi H=>∃xs x,SqL K H l xs/\xs[i]? = some x,
  λi H v H'=>∃p x,H p=none/\v=.ref p/\H'=upd H p (.tup [.int i,x])/\∀xs,SqL K H l xs->xs[i]? = some x,
  λi H=>∃xs,SqL K H l xs/\xs.length<=i⟩
theorem ya{P:aA}{w:au}{K:aC}{es:List Expr}{ek:Nat}{epos:Pos}{e it l:Addr}(n1:e≠it)(n2:l≠e)(n3:l≠it) :
  Turn P w K (.Tuple es ek epos) (Ite K l) [e,it] e (λi h=>(∃old,IsEnum h e it ((i:Nat):Int) old)/\h.IsListIter it l i) where
 mem:=by simp
 obj:=λi h st b hb=>by
  obtain⟨⟨old,hz⟩,o1,e1,_,d1⟩:=st;have hb':b=e\/b=it:=by simpa using hb
  rcases hb' with q|q
  ·subst q;exact⟨_,hz,λv q=>by cases q⟩
  ·subst q;exact⟨o1,e1,λv q=>by rw[d1]at q;cases q⟩
 keep:=λi h h' st k=>by
  obtain⟨⟨old,hz⟩,h1⟩:=st;exact⟨⟨old,k e (by simp) _ hz⟩,h1.at λo q=>k it (by simp) o q⟩
 item:=by
  intro X hP hw hK hc i pins s σ H E I hf st hg;subst hP hw hK;obtain⟨⟨old,hz⟩,h1⟩:=st;obtain⟨xs,x,q1,hx⟩:=hg;obtain⟨its,r1,p1,z1⟩:=I.list q1;obtain⟨u1,hu1,ru1⟩:=r1.get hx;refine wpAny_pyNext_enum_item hz h1 p1.isList (x:=u1) (by simpa using hu1) n1 λh' a1 a2 a3 a4 hk=>?_
  have hkc:∀b o,b∉[e,it]->s.heap.get? b=some o->h'.get? b=some o:=λb o hb q=>hk b o (λz=>hb (by simp[z])) (λz=>hb (by simp[z])) q
  have I1:Inv X pins σ (upd H s.heap.objs.size (.tup [.int i,x])) {s with heap:=h',toks:=s.toks+1}:=I.turnNew (tk:=s.toks+1) (its:=[.int i s.toks,u1]) hf hkc (aG _) ⟨_,a3,rfl,_,rfl⟩ (.cons ⟨_,rfl⟩ (.cons ru1 .nil)) (by show 2<=aP;decide);have hpn:H s.heap.objs.size=none:=I.hok.fresh (aG _);have hfp:∀b∈[e,it],b≠s.heap.objs.size:=λb hb q=>by
   have hb':b=e\/b=it:=by simpa using hb
   obtain⟨o1,e1,_,d1⟩:=h1;have:b<s.heap.objs.size:=by
    rcases hb' with q|q
    ·subst q;exact aM hz
    ·subst q;exact aM e1
   rw[q]at this;exact bQ _ this
  have hnone:∀b∈[e,it],(upd H s.heap.objs.size (.tup [.int i,x])) b=none:=λb hb=>by rw[qi (hfp b hb)];exact(hf b hb).1
  refine⟨_,rfl,?_⟩;refine wpAny_letOwnedTupleGo_enum (s:={s with heap:=h',toks:=s.toks+1}) a1 λh2' hz' hs'=>?_
  obtain⟨f0,f1,f2,f3,f4,f5⟩:=hf e (by simp);refine⟨.ref s.heap.objs.size,_,I1.turned (t':=s.toks+1) (it:=e) (λb o hb q=>(hs'.2 b hb).trans q) (hnone e (by simp)) f1 f3 f4 f5,rfl,⟨_,x,hpn,rfl,rfl,λzs hq=>by rw[I.list_inj hq q1];exact hx⟩,⟨⟨u1,?_⟩,a2.at λo q=>(hs'.2 it (Ne.symm n1)).trans q⟩,hnone⟩
  ·have:((i+1:Nat):Int)=(i:Int)+1:=by push_cast;rfl
   rw[this];exact hz'
 done:=by
  intro X hP hw hK hc i pins s σ H E I hf st hg;subst hP hw hK;obtain⟨⟨old,hz⟩,h1⟩:=st;obtain⟨xs,q1,hx⟩:=hg;obtain⟨its,r1,p1,z1⟩:=I.list q1;have hl:=r1.length;exact wpAny_pyNext_enum_end (I.ok.hd hc) hz h1 p1.isList (by simp;lia) λh' eb=>⟨rfl,I.turnAll (tk:=s.toks) hf λb o hb q=>eb b o (λz=>hb (by simp[z])) q⟩
 self:=λ_ _ _ _ _ st h=>by
  obtain⟨⟨old,hz⟩,_⟩:=st;exact wpAny_pyIter_enum hz h
end L2
namespace L2
open PySem PySem.Spec PyProof.Rows PySem.SeqAt
mutual
inductive fq(K:aC)(H:Hp):V->PyData->Prop
 |non:fq K H .non .none
 |bl (b:Bool):fq K H (.bl b) (.bool b)
 |int (i:Int):fq K H (.int i) (.int i)
 |str (x:Str):fq K H (.str x) (.str x)
 |lst {a:Addr}{xs:List V}{ds:List PyData}:SqL K H a xs->hJ K H xs ds->fq K H (.ref a) (.list ds)
 |tup {a:Addr}{xs:List V}{ds:List PyData}:SqT K H a xs->hJ K H xs ds->fq K H (.ref a) (.tuple ds)
inductive hJ(K:aC)(H:Hp):List V->List PyData->Prop
 |nil:hJ K H [] []
 |cons {x:V}{xs:List V}{d:PyData}{ds:List PyData}:fq K H x d->hJ K H xs ds->hJ K H (x::xs) (d::ds)
end
section
variable{X:Cx}{pins:List (Addr×Obj)}{σ:St}{H:Hp}{s:af}
theorem Inv.reads(I:Inv X pins σ H s){x:V}{d:PyData}(h:fq X.K H x d):∀{u:ae},RelV x u->∃as,Reads s.heap u d as:=
 h.rec (motive_1:=λx d _=>∀{u:ae},RelV x u->∃as,Reads s.heap u d as) (motive_2:=λxs ds _=>∀{us:List ae},Vals xs us->∃as,ReadsAll s.heap us ds as) (λr=>by cases r;exact⟨_,.none⟩) (λb _ r=>by cases r;exact⟨_,.bool b⟩) (λi _ r=>by obtain⟨t,rfl⟩:=r;exact⟨_,.int i t⟩) (λx _ r=>by obtain⟨t,rfl⟩:=r;exact⟨_,.str x t⟩)
  (λh _ g _ r=>by
   cases r;obtain⟨its,rv,pl,_⟩:=I.list h;obtain⟨as,ra⟩:=g rv;obtain⟨o,ho,hc,n,hd⟩:=pl.isList;exact⟨_,Reads.list ho hc hd (by simpa using ra)⟩)
  (λh _ g _ r=>by
   cases r;obtain⟨its,rv,pl,_⟩:=I.tuple h;obtain⟨as,ra⟩:=g rv;obtain⟨o,ho,hc,n,hd⟩:=pl;exact⟨_,Reads.tuple ho hc hd (by simpa using ra)⟩)
  (λr=>by cases r;exact⟨_,.nil⟩) (λ_ _ a b _ r=>by
   cases r with
   |cons r1 r2=>
    obtain⟨as,ra⟩:=a r1;obtain⟨bs,rb⟩:=b r2;exact⟨_,.cons ra rb⟩)
end
section
variable{X:Cx}
end
end L2
namespace L2
open PySem PySem.Spec PyProof.Rows
section
variable{lt:Nat->Nat->Bool}
noncomputable def Asc(lt:Nat->Nat->Bool)(p:Array Nat)(m:Nat):Prop:=∀i j,i<j->j<m->lt (p.getD j 0) (p.getD i 0)=false
end
section
variable{lt:Nat->Nat->Bool}
structure Part(lt:Nat->Nat->Bool)(p:Array Nat)(r:Nat×Array Nat):Prop where
 perm:r.2.Perm p
 size:r.2.size=p.size
 lo:1<=r.1
 hi:r.1<=p.size
 asc:Asc lt r.2 r.1
end
end L2
namespace HT
open PySem PySem.Spec PyProof.Rows L2
section
variable{prog:aA}{w:au}{A:aB}{E:ae->af->Prop}{s:af}
end
end HT
namespace L2
open PySem PySem.Spec PyProof.Rows
section
variable{X:Cx}
noncomputable def yO:V->List V->Hp->VK->Prop:=λx vs H Q=>∃l xs j y,x=.ref l/\vs=[.int j,y]/\H l=some (.lst xs)/\xs.length<aP/\0<=j/\j<=xs.length/\Q .non (upd H l (.lst (xs.take j.toNat++y::xs.drop j.toNat)))
theorem Dt:MtM X "list.insert" yO:=by
 intro pins s σ H x vs v us Q I rx rv h;obtain⟨l,xs,j,y,rfl,rfl,hH,hz,hj,hj',q⟩:=h;cases rx;obtain⟨u,u2,rfl,ru,ru2⟩:=rv.two;obtain⟨t,rfl⟩:=ru;obtain⟨z,its,n,r,hl,e⟩:=I.lstM hH;have hsl:=bu;have hfit:Builtin.List.listFitsIndex j=true:=by
  have a:¬ j<0:=by lia
  simp[Builtin.List.listFitsIndex];lia
 refine call_meets PySem.F.slot_list_insert ⟨_,e,rfl⟩ PySem.F.entry_list_insert (PySem.F.args_list_insert_3 _ _ _) (PySem.AutoSeq1.list_insert_list_int_val_1 l its.toArray n j t u2 (by simp[hfit]) (by rw[aV];lia)) ⟨e,?_⟩;refine⟨.non,_,I.lset (its':=its.take j.toNat++u2::its.drop j.toNat) hH e ?_ ((r.take _).append (.cons ru2 (r.drop _))) ?_,rfl,q⟩
 ·have hk:(if j<0 then (j+(its.toArray.size:Int)).toNat else min j.toNat its.toArray.size)=j.toNat:=by
   rw[if_neg (by lia),aV];lia
  show (its.toArray.extract 0 (if j<0 then (j+(its.toArray.size:Int)).toNat else min j.toNat its.toArray.size)).push u2++its.toArray.extract (if j<0 then (j+(its.toArray.size:Int)).toNat else min j.toNat its.toArray.size)=_;rw[hk];simp;apply List.take_of_length_le;simp
 ·simp;lia
end
section
variable{X:Cx}{tg:Expr}
end
section
variable{κ:Type} [DecidableEq κ]
noncomputable def dJ(kvs:List (κ×V))(k:κ):Option V:=(kvs.find? λkv=>decide (kv.1=k)).map (·.2)
noncomputable def putK(kvs:List (κ×V))(k:κ)(v:V):List (κ×V):=
 if (kvs.any λkv=>decide (kv.1=k))=true then kvs.map (λkv=>if kv.1=k then (kv.1,v)else kv)else kvs++[(k,v)]
theorem gG{p:κ×V}{r:List (κ×V)}{k:κ}(e:p.1=k):dJ (p::r) k=some p.2:=by simp[dJ,List.find?_cons,e]
theorem gJ{p:κ×V}{r:List (κ×V)}{k:κ}(e:¬ p.1=k):dJ (p::r) k=dJ r k:=by simp[dJ,List.find?_cons,e]
theorem lu(k:κ):∀kvs:List (κ×V),(kvs.any λkv=>decide (kv.1=k))=(dJ kvs k).isSome
 | []=>rfl
 |p::r=>by
  rw[List.any_cons];by_cases e:p.1=k
  ·simp only[gG e,decide_eq_true e,Bool.true_or,Option.isSome_some]
  ·rw[gJ e,decide_eq_false e,Bool.false_or];exact lu k r
theorem BQ(k j:κ)(y:V):∀kvs:List (κ×V),dJ (kvs.map λkv=>if kv.1=k then (kv.1,y)else kv) j=(dJ kvs j).map λx=>if j=k then y else x
 | []=>rfl
 |p::r=>by
  have ih:=BQ k j y r;rw[aR];by_cases h:p.1=k
  ·rw[if_pos h];by_cases e:p.1=j
   ·rw[gG (p:=(p.1,y)) e,gG e,Option.map_some,if_pos (e.symm.trans h)]
   ·rw[gJ (p:=(p.1,y)) e,gJ e,ih]
  ·rw[if_neg h];by_cases e:p.1=j
   ·rw[gG (p:=p) e,gG e,Option.map_some,if_neg (λz=>h (e.trans z))]
   ·rw[gJ (p:=p) e,gJ e,ih]
theorem mF(kvs:List (κ×V))(k:κ)(v:V):(putK kvs k v).length<=kvs.length+1:=by
 unfold putK;split
 ·rw[aJ];lia
 ·rw[bH,bg,List.length_nil];lia
theorem eX.isSome_eq{o:Option V}{u:Option ae}(r:eX o u):o.isSome=u.isSome:=by
 cases o with
 |none=>cases u with
  |none=>rfl
  |some _=>exact(show False from r).elim
 |some _=>cases u with
  |none=>exact(show False from r).elim
  |some _=>rfl
theorem KV.val{kvs:List (κ×V)}{vs:List (κ×ae)}(r:KV kvs vs)(k:κ):eX (dJ kvs k) (valueAt vs k):=by
 unfold KV at r
 induction r with
 |nil=>exact True.intro
 | @cons p q ps qs h t ih=>
  obtain⟨h1,h2⟩:=h;by_cases e:p.1=k
  ·have e':q.1=k:=h1.symm.trans e;have b:valueAt (q::qs) k=some q.2:=by simp[valueAt,List.find?_cons,e']
   rw[gG e,b];exact h2
  ·have e':¬ q.1=k:=λz=>e (h1.trans z)
   have b:valueAt (q::qs) k=valueAt qs k:=by simp[valueAt,List.find?_cons,e']
   rw[gJ e,b];exact ih
theorem KV.any{kvs:List (κ×V)}{vs:List (κ×ae)}(r:KV kvs vs)(k:κ):(kvs.any λkv=>decide (kv.1=k))=vs.any λkv=>decide (kv.1=k):=by
 unfold KV at r
 induction r with
 |nil=>rfl
 |cons h t ih=>rw[List.any_cons,List.any_cons,ih,h.1]
theorem KV.repl{kvs:List (κ×V)}{vs:List (κ×ae)}(r:KV kvs vs)(k:κ){y:V}{u:ae}(ry:RelV y u) :
  KV (kvs.map λkv=>if kv.1=k then (kv.1,y)else kv) (vs.map λkv=>if kv.1=k then (kv.1,u)else kv):=by
 unfold KV at r ⊢
 induction r with
 |nil=>exact .nil
 | @cons p q ps qs h t ih=>
  rw[aR,aR];refine .cons ?_ ih;obtain⟨h1,h2⟩:=h;by_cases e:p.1=k
  ·rw[if_pos e,if_pos (h1.symm.trans e)];exact⟨h1,ry⟩
  ·rw[if_neg e,if_neg (λz=>e (h1.trans z))];exact⟨h1,h2⟩
theorem KV.put{kvs:List (κ×V)}{vs:List (κ×ae)}(r:KV kvs vs)(k:κ){y:V}{u:ae}(ry:RelV y u):KV (putK kvs k y) (stored vs k u):=by
 unfold putK stored;rw[r.any k];by_cases e:(vs.any λkv=>decide (kv.1=k))=true
 ·rw[if_pos e,if_pos e];exact r.repl k ry
 ·rw[if_neg e,if_neg e];exact Paired.snoc r ⟨rfl,ry⟩
theorem KV.length{kvs:List (κ×V)}{vs:List (κ×ae)}(r:KV kvs vs):kvs.length=vs.length:=Paired.length r
end
theorem g8{P:aA}{w:au}{k:Key}{u:ae}(r:RelV (kV k) u):(zK P w).is k u=true:=by
 cases k with
 |inl i=>obtain⟨t,e⟩:=(show ∃t,u=ae.int i t from r);subst e;exact Bx P w i t
 |inr x=>obtain⟨t,e⟩:=(show ∃t,u=ae.str x t from r);subst e;exact CK P w x t
theorem pq{P:aA}{w:au}:∀{ks:List Key}{us:List ae},Vals (ks.map kV) us->ItemsAre (zK P w) ks us
 | [],_,r=>by rw[List.map_nil]at r;cases r;exact .nil
 |k::ks,_,r=>by
  rw[aR]at r;cases r with
  |cons h t=>exact .cons (g8 h) (pq t)
abbrev KT(H:Hp):List (List Key×V)->List (List Key×Addr×ae)->Prop:=Paired λp q=>p.1=q.1/\H q.2.1=some (.tup (p.1.map kV))/\RelV p.2 q.2.2
theorem KT.val{H:Hp}{kvs:List (List Key×V)}{xs:List (List Key×Addr×ae)}(r:KT H kvs xs)(k:List Key):eX (dJ kvs k) ((atKey xs k).map (·.2)):=by
 induction r with
 |nil=>exact True.intro
 | @cons p q ps qs h t ih=>
  obtain⟨h1,_,h2⟩:=h;by_cases e:p.1=k
  ·have e':q.1=k:=h1.symm.trans e;have b:atKey (q::qs) k=some q.2:=by simp[atKey,List.find?_cons,e']
   rw[gG e,b];exact h2
  ·have e':¬ q.1=k:=λz=>e (h1.trans z)
   have b:atKey (q::qs) k=atKey qs k:=by simp[atKey,List.find?_cons,e']
   rw[gJ e,b];exact ih
theorem KT.repl{H:Hp}{kvs:List (List Key×V)}{xs:List (List Key×Addr×ae)}(r:KT H kvs xs)(k:List Key){y:V}{u:ae}(ry:RelV y u) :
  KT H (kvs.map λkv=>if kv.1=k then (kv.1,y)else kv) (xs.map (putAt k u)):=by
 induction r with
 |nil=>exact .nil
 | @cons p q ps qs h t ih=>
  rw[aR,aR];refine .cons ?_ ih;obtain⟨h1,h2,h3⟩:=h;unfold putAt;by_cases e:p.1=k
  ·rw[if_pos e,if_pos (h1.symm.trans e)];exact⟨h1,h2,ry⟩
  ·rw[if_neg e,if_neg (λz=>e (h1.trans z))];exact⟨h1,h2,h3⟩
theorem KT.put{H:Hp}{kvs:List (List Key×V)}{xs:List (List Key×Addr×ae)}(r:KT H kvs xs)(k:List Key){b:Addr}{y:V}{u:ae}(hb:H b=some (.tup (k.map kV)))(ry:RelV y u) :
  KT H (putK kvs k y) (storedH xs k b u):=by
 have e:(kvs.any λkv=>decide (kv.1=k))=(atKey xs k).isSome:=by
  rw[lu,(r.val k).isSome_eq,Option.isSome_map]
 unfold putK storedH;rw[e];by_cases q:(atKey xs k).isSome=true
 ·rw[if_pos q,if_pos q];exact r.repl k ry
 ·rw[if_neg q,if_neg q];exact Paired.snoc r ⟨rfl,hb,ry⟩
theorem KT.keeps{H H':Hp}{kvs:List (List Key×V)}{xs:List (List Key×Addr×ae)}(r:KT H kvs xs)(ht:∀b ys,H b=some (.tup ys)->H' b=some (.tup ys)):KT H' kvs xs:=
 Paired.mapP r λ_ _ z=>⟨z.1,ht _ _ z.2.1,z.2.2⟩
section
variable{P:aA}{w:au}{H:Hp}{h:Heap}{a:Addr}
theorem t_{u:HO}(ok:HOk P w H h)(e:Rd H a u):zO P w H h a u:=e.ok ok
theorem jd{kvs:List (Key×V)}(ok:HOk P w H h)(e:Rd H a (.dK kvs)):kvs.length<=aP/\(a==sysModules)=false/\∃vs,KV kvs vs/\h.DictOf (zK P w) a vs:=
 show zO P w H h a (.dK kvs)from t_ ok e
theorem jy{kvs:List (Key×V)}(ok:HOk P w H h)(e:H a=some (.dK kvs)):kvs.length<=aP/\(a==sysModules)=false/\∃vs,KV kvs vs/\h.DictOf (zK P w) a vs:=jd ok (.inl e)
theorem jA{ks:List Key}(ok:HOk P w H h)(e:H a=some (.tup (ks.map kV))):(tupleKind (zK P w)).is h ks a:=by
 obtain⟨_,its,r,o,h1,h2,n,h3⟩:=(show zO P w H h a (.tup (ks.map kV))from ok a _ e)
 exact⟨o,its.toArray,n,h1,h2,h3,by simpa using pq r⟩
theorem ju{kvs:List (List Key×V)}(ok:HOk P w H h)(e:Rd H a (.dT kvs)):kvs.length<=aP/\(a==sysModules)=false /\
  ∃xs,KT H kvs xs/\h.DictOfH (tupleKind (zK P w)) a xs:=by
 obtain⟨z,y,xs,r,o,es,ep,h1,h2,h3,h4,h5⟩:=(show zO P w H h a (.dT kvs)from t_ ok e)
 refine⟨z,y,xs,r,o,es,ep,h1,h2,h3,h4,λx hx=>?_,h5⟩;have all:∀{l:List (List Key×V)}{m:List (List Key×Addr×ae)},KT H l m->∀x∈m,(tupleKind (zK P w)).is h x.1 x.2.1:=by
  intro l m q
  induction q with
  |nil=>intro x hx;exact nomatch hx
  | @cons p q ps qs hq t ih=>
   intro x hx;rcases aF.mp hx with e|hx
   ·subst e;exact jA ok (by rw[<-hq.1];exact hq.2.1)
   ·exact ih x hx
 exact all r x hx
theorem Hg{kvs:List (List Key×V)}(ok:HOk P w H h)(e:H a=some (.dT kvs)):kvs.length<=aP/\(a==sysModules)=false /\
  ∃xs,KT H kvs xs/\h.DictOfH (tupleKind (zK P w)) a xs:=ju ok (.inl e)
end
noncomputable def fv(H:Hp)(a:Addr)(y:V)(r:Option V):Prop:=
 (∃kvs k,Rd H a (.dK kvs)/\y=kV k/\r=dJ kvs k)\/∃kvs k b,Rd H a (.dT kvs)/\y=.ref b/\H b=some (.tup (k.map kV))/\r=dJ kvs k
noncomputable def kr(H:Hp)(a:Addr)(y v:V)(H':Hp):Prop:=
 (∃kvs k,H a=some (.dK kvs)/\y=kV k/\kvs.length<aP/\H'=upd H a (.dK (putK kvs k v))) \/
 ∃kvs k b,H a=some (.dT kvs)/\y=.ref b/\H b=some (.tup (k.map kV))/\kvs.length<aP/\H'=upd H a (.dT (putK kvs k v))
theorem fv.k{H:Hp}{a:Addr}{kvs:List (Key×V)}{k:Key}(e:H a=some (.dK kvs)):fv H a (kV k) (dJ kvs k):=.inl ⟨kvs,k,.inl e,rfl,rfl⟩
theorem kr.k{H:Hp}{a:Addr}{kvs:List (Key×V)}{k:Key}{v:V}(e:H a=some (.dK kvs))(hl:kvs.length<aP):kr H a (kV k) v (upd H a (.dK (putK kvs k v))):=.inl ⟨kvs,k,e,rfl,hl,rfl⟩
section
variable{X:Cx}{pins:List (Addr×Obj)}{σ:St}{H:Hp}{s:af}{a:Addr}{y v:V}{u r:ae}{o:Option V}{A:aB}{E:ae->af->Prop}
theorem Inv.big(I:Inv X pins σ H s):sysModules<s.heap.objs.size:=by
 have h:aD<s.heap.objs.size:=(I.mod.glob.keeps I.bk).lt;exact Nat.lt_trans (by decide) h
theorem CN{Q:ae->af->Prop}(hu:A.units+1<cLine)(I:Inv X pins σ H s)(g:fv H a y (some v))(ry:RelV y u)(h:∀w' s',Inv X pins σ H s'->RelV v w'->Q w' s') :
  aq (ao X.prog X.w) A (getItem (.ref a) u) Q E s:=by
 rcases g with ⟨kvs,k,e,ey,l⟩|⟨kvs,k,b,e,ey,eb,l⟩
 ·subst ey;obtain⟨z,hd,vs,rel,dd⟩:=jd I.hok e;obtain⟨w',hw,rw'⟩:=eX.some_of (v:=v) (o:=valueAt vs k) (by rw[l];exact rel.val k);exact wpAny_getItem_of (g8 ry) dd.mapOf hw (h w' _ (I.tok _) rw')
 ·subst ey;cases (show u=bq b from ry);obtain⟨z,hd,xs,rel,dd⟩:=ju I.hok e;obtain⟨w',hw,rw'⟩:=eX.some_of (v:=v) (o:=(atKey xs k).map (·.2)) (by rw[l];exact rel.val k);obtain⟨p,hp,hp2⟩:=bF.mp hw;refine wpAny_getItem_heap (tupleKind_room_in1 hu) (jA I.hok eb) dd hp ?_;rw[hp2];exact h w' _ (I.tok _) rw'
theorem EH{Q:ae->af->Prop}(hu:A.units+1<cLine)(I:Inv X pins σ H s)(g:fv H a y o)(ry:RelV y u)(h:∀s',Inv X pins σ H s'->Q (.bool o.isSome) s') :
  aq (ao X.prog X.w) A (bh .In u (.ref a)) Q E s:=by
 rcases g with ⟨kvs,k,e,ey,l⟩|⟨kvs,k,b,e,ey,eb,l⟩
 ·subst ey;obtain⟨z,hd,vs,rel,dd⟩:=jd I.hok e;refine wpAny_in_of (g8 ry) hd dd.mapOf ?_;rw[<-(rel.val k).isSome_eq,<-l];exact h _ (I.tok _)
 ·subst ey;cases (show u=bq b from ry);obtain⟨z,hd,xs,rel,dd⟩:=ju I.hok e;refine wpAny_in_heap (tupleKind_room_in1 hu) (jA I.hok eb) hd dd ?_;have q:=(rel.val k).isSome_eq;rw[Option.isSome_map]at q;rw[<-q,<-l];exact h _ (I.tok _)
theorem CH{Q:ae->af->Prop}(hu:A.units+1<cLine)(I:Inv X pins σ H s)(g:fv H a y o)(ry:RelV y u)(h:∀s',Inv X pins σ H s'->Q (.bool (!o.isSome)) s') :
  aq (ao X.prog X.w) A (bh .NotIn u (.ref a)) Q E s:=by
 rcases g with ⟨kvs,k,e,ey,l⟩|⟨kvs,k,b,e,ey,eb,l⟩
 ·subst ey;obtain⟨z,hd,vs,rel,dd⟩:=jd I.hok e;refine wpAny_notIn_of (g8 ry) hd dd.mapOf ?_;rw[<-(rel.val k).isSome_eq,<-l];exact h _ (I.tok _)
 ·subst ey;cases (show u=bq b from ry);obtain⟨z,hd,xs,rel,dd⟩:=ju I.hok e;refine wpAny_notIn_heap (tupleKind_room_in1 hu) (jA I.hok eb) hd dd ?_;have q:=(rel.val k).isSome_eq;rw[Option.isSome_map]at q;rw[<-q,<-l];exact h _ (I.tok _)
theorem kc{h':Heap}{t':Nat}{ob:HO}(I:Inv X pins σ H s)(mu:Mut (H a))(hs:Heap.SameBut a s.heap h')(he:∃q,h'.get? a=some q)(new:zO X.prog X.w (upd H a ob) h' a ob) :
  Inv X pins σ (upd H a ob) {s with heap:=h',toks:=t'}:=
 I.write (x:=a) (e:=a) mu (.inl rfl) (λb q hb z=>(hs.2 b hb).trans z) he new
theorem lE{P:aA}{w:au}{H':Hp}{h':Heap}{kvs:List (Key×V)}{vs:List (Key×ae)}(z:kvs.length<=aP)(hd:(a==sysModules)=false)(rel:KV kvs vs)(dd:h'.DictOf (zK P w) a vs) :
  zO P w H' h' a (.dK kvs):=⟨z,hd,vs,rel,dd⟩
theorem vE{H':Hp}{Q:Unit->af->Prop}(hu:A.units+1<cLine)(I:Inv X pins σ H s)(g:kr H a y v H')(ry:RelV y u)(rv:RelV v r)(h:∀s',Inv X pins σ H' s'->Q () s') :
  aq (ao X.prog X.w) A (setItem (.ref a) u r) Q E s:=by
 rcases g with ⟨kvs,k,e,ey,l,eH⟩|⟨kvs,k,b,e,ey,eb,l,eH⟩
 ·subst ey eH;obtain⟨z,hd,vs,rel,dd⟩:=jy I.hok e;have hz:vs.length<=sizeLine:=by rw[<-rel.length];exact z
  have hl:(putK kvs k v).length<=sizeLine:=by have:=mF kvs k v;lia
  refine wpAny_setItem_pairs (hsz:=hz) (g8 ry) dd λh' dd' hs=>h _ ?_
  have he:∃q,h'.get? a=some q:=let ⟨q,_,_,hq,_⟩:=dd';⟨q,hq⟩
  exact kc I (by rw[e];exact True.intro) hs he (lE hl hd (rel.put k rv) dd')
 ·subst ey eH;cases (show u=bq b from ry);obtain⟨z,hd,xs,rel,dd⟩:=Hg I.hok e;have hz:xs.length<=sizeLine:=by rw[<-Paired.length rel];exact z
  have hl:(putK kvs k v).length<=sizeLine:=by have:=mF kvs k v;lia
  refine wpAny_setItem_heap (hsz:=hz) (tupleKind_room_in1 hu) (jA I.hok eb) dd λh' dd' hs=>h _ ?_
  obtain⟨q,es,ep,hq,h2,h3,h4,_,h5⟩:=dd';refine kc I (by rw[e];exact True.intro) hs ⟨q,hq⟩ ⟨hl,hd,_,(rel.put k eb rv).keeps λc ys ec=>?_,q,es,ep,hq,h2,h3,h4,h5⟩;rw[qi (DO ec e (λz=>nomatch z))];exact ec
end
section
variable{X:Cx}{pins:List (Addr×Obj)}{σ:St}{H:Hp}{s:af}{a:Addr}{kvs:List (Key×V)}{k:Key}{u:ae}{A:aB}{E:ae->af->Prop}
end
theorem wD{X:Cx}{pins:List (Addr×Obj)}{σ:St}{H:Hp}{s:af}{a:Addr}{y:V}{o:Option V}(I:Inv X pins σ H s)(g:fv H a y o):s.TypeIs (.ref a) "dict":=by
 rcases g with ⟨kvs,k,e,_,_⟩|⟨kvs,k,b,e,_,_,_⟩
 ·obtain⟨_,_,vs,_,dd⟩:=jd I.hok e;exact dd.typeIs
 ·obtain⟨_,_,xs,_,dd⟩:=ju I.hok e;exact dd.typeIs
section
variable{X:Cx}{o i e value:Expr}{pos pos' tpos:Pos}{td ty tv:TE}
end
theorem pG{P:aA}{w:au}{H:Hp}(h:Heap)(hb:sysModules<h.objs.size):zO P w H (h.push {cls:=.type "dict",data:=.dict #[]}) h.objs.size (.dK []):=
 ⟨bx _,beq_eq_false_iff_ne.mpr (Ne.symm (a_ hb)),[],.nil,Heap.DictOf.new h⟩
noncomputable def EU:TE:=λ_ H Q=>∀p,H p=none->Q (.ref p) (upd H p (.dK []))
section
variable{X:Cx}{pos:Pos}
theorem Fl:PE X (.Dict [] [] pos) EU:=λpins s σ H Q I h=>
 wpAny_Dict_empty ⟨.ref s.heap.objs.size,_,I.laid (a:=s.heap.objs.size) (o:=.dK []) (t':=s.toks) (λ_ _ q=>Heap.get?_push_of_some _ q) (aG _) (pG s.heap I.big),rfl,h _ (I.hok.fresh (aG _))⟩
end
noncomputable def ng:List (TE×TE)->St->Hp->(List (V×V)->Hp->Prop)->Prop
 | [],_,H,Q=>Q [] H
 | (tk,tv)::r,σ,H,Q=>tk σ H λx H1=>tv σ H1 λy H2=>ng r σ H2 λps H3=>Q ((x,y)::ps) H3
abbrev VV:List (V×V)->List (ae×ae)->Prop:=Paired λp q=>RelV p.1 q.1/\RelV p.2 q.2
noncomputable def PPs(X:Cx)(pos:Pos)(keys:List (Option Expr))(values:List Expr)(trs:List (TE×TE)):Prop:=
 ∀(pins:List (Addr×Obj)) (s:af) (σ:St) (H:Hp) (Q:List (V×V)->Hp->Prop),Inv X pins σ H s->ng trs σ H Q ->
  aq (ao X.prog X.w) X.A (evalPairs (pairTrees keys values X.env pos)) (λvs s'=>∃ps H',Inv X pins σ H' s'/\VV ps vs/\Q ps H') X.xe s
theorem xw{X:Cx}{pos:Pos}:PPs X pos [] [] []:=λpins s σ H Q I h=>pairTrees_nil_walk ⟨[],H,I,.nil,h⟩
theorem wU{X:Cx}{pos:Pos}{k v:Expr}{ks:List (Option Expr)}{vs:List Expr}{tk tv:TE}{trs:List (TE×TE)}(hk:PE X k tk)(hv:PE X v tv)(hr:PPs X pos ks vs trs) :
  PPs X pos (some k::ks) (v::vs) ((tk,tv)::trs):=λpins s σ H Q I h=>
 pairTrees_cons_walk (thn (hk pins s σ H _ I h) λu s1 ⟨x,H1,I1,rx,q1⟩=>thn (hv pins s1 σ H1 _ I1 q1) λw2 s2 ⟨y,H2,I2,ry,q2⟩=>
  thn (hr pins s2 σ H2 _ I2 q2) λws s3 ⟨ps,H3,I3,rel,q3⟩=>⟨(x,y)::ps,H3,I3,.cons ⟨rx,ry⟩ rel,q3⟩)
noncomputable def fP(kvs more:List (Key×V)):List (Key×V):=more.foldl (λacc kv=>putK acc kv.1 kv.2) kvs
theorem KV.merge:∀{more:List (Key×V)}{rs:List (Key×ae)}{kvs:List (Key×V)}{vs:List (Key×ae)},KV more rs->KV kvs vs->KV (fP kvs more) (merged vs rs):=by
 intro more rs kvs vs r;unfold KV at r
 induction r generalizing kvs vs with
 |nil=>intro q;exact q
 | @cons p q ps qs h t ih=>
  intro r0;have e:KV (putK kvs p.1 p.2) (stored vs q.1 q.2):=by
   have:=r0.put p.1 h.2;rw[<-h.1];exact this
  exact ih e
theorem mw:∀(more kvs:List (Key×V)),(fP kvs more).length<=kvs.length+more.length
 | [],kvs=>by show kvs.length<=kvs.length+0;lia
 |p::r,kvs=>by
  have h1:=mw r (putK kvs p.1 p.2);have h2:=mF kvs p.1 p.2;show (fP (putK kvs p.1 p.2) r).length<=_;rw[bg];lia
theorem uQ{P:aA}{w:au}:∀{kvs:List (Key×V)}{ws:List (ae×ae)},VV (kvs.map λkv=>(kV kv.1,kv.2)) ws->∃rs,Carries (zK P w) ws rs/\KV kvs rs
 | [],_,r=>by rw[List.map_nil]at r;cases r;exact⟨[],True.intro,.nil⟩
 |p::kvs,_,r=>by
  rw[aR]at r;cases r with
  | @cons a b as bs h t=>
   obtain⟨rs,c,q⟩:=uQ (P:=P) (w:=w) t;obtain⟨b1,b2⟩:=b;exact⟨(p.1,b2)::rs,⟨g8 h.1,rfl,c⟩,.cons ⟨rfl,h.2⟩ q⟩
noncomputable def BW(trs:List (TE×TE)):TE:=λσ H Q=>∀p,H p=none->ng trs σ (upd H p (.dK [])) λps H2=>H2 p=some (.dK [])/\∃kvs:List (Key×V),ps=kvs.map (λkv=>(kV kv.1,kv.2))/\kvs.length<=15/\Q (.ref p) (upd H2 p (.dK (fP [] kvs)))
theorem Cm{X:Cx}{pos:Pos}{keys:List (Option Expr)}{values:List Expr}{trs:List (TE×TE)}(h:PPs X pos keys values trs)(hall:keys.all (·.isSome)=true)(hl:keys.length=values.length)(h0:keys≠[])
  (h15:keys.length<=15):PE X (.Dict keys values pos) (BW trs):=by
 intro pins s σ H Q I q;have hn:=I.hok.fresh (aG s.heap.objs.size);have I1:=I.laid (a:=s.heap.objs.size) (o:=.dK []) (h':=s.heap.push {cls:=.type "dict",data:=.dict #[]}) (t':=s.toks) (λ_ _ q=>Heap.get?_push_of_some _ q) (aG _) (pG s.heap I.big);refine wpAny_Dict_walk (knd:=zK X.prog X.w) hall hl h0 h15 (thn (h pins _ σ _ _ I1 (q _ hn)) λws s2 ⟨ps,H2,I2,rel,e,kvs,ep,lk,q2⟩=>?_);subst ep;obtain⟨rs,c,rk⟩:=uQ (P:=X.prog) (w:=X.w) rel;obtain⟨z,hd,vs0,r0,dd⟩:=jy I2.hok e;cases r0;refine⟨rs,c,dd,λh' dd' hs=>⟨.ref s.heap.objs.size,_,?_,rfl,q2⟩⟩;have hz:(fP [] kvs).length<=sizeLine:=by
  have h1:=mw kvs [];rw[List.length_nil]at h1;rw[bu];lia
 have he:∃q,h'.get? s.heap.objs.size=some q:=let ⟨q,_,_,hq,_⟩:=dd';⟨q,hq⟩
 exact kc I2 (by rw[e];exact True.intro) hs he (lE hz hd (rk.merge .nil) dd')
structure M1(X:Cx)(o:Expr)(m:Str)(apos:Pos)(e:Expr)(cpos:Pos):Prop where
 base:attributeBase o m X.env (eval o X.env)=eval o X.env
 few:((backTo cpos (aY [e] X.env)).all (λx=>!x.1)&&(backToKw cpos (keywordEach [] X.env)).all (λx=>x.1.isSome)
  && decide (([e]:List Expr).length+([]:List Keyword).length+(if ([]:List Keyword).isEmpty then 0 else 1)<30))=true
 line:(apos.endLine==cpos.line)=true
 trees:backTo cpos (aY [e] X.env)=[(false,eval e X.env)]
structure M2(X:Cx)(o:Expr)(m:Str)(apos:Pos)(e f:Expr)(cpos:Pos):Prop where
 base:attributeBase o m X.env (eval o X.env)=eval o X.env
 few:((backTo cpos (aY [e,f] X.env)).all (λx=>!x.1)&&(backToKw cpos (keywordEach [] X.env)).all (λx=>x.1.isSome)
  && decide (([e,f]:List Expr).length+([]:List Keyword).length+(if ([]:List Keyword).isEmpty then 0 else 1)<30))=true
 line:(apos.endLine==cpos.line)=true
 trees:backTo cpos (aY [e,f] X.env)=[(false,eval e X.env),(false,eval f X.env)]
section
variable{X:Cx}{pins:List (Addr×Obj)}{σ:St}{H:Hp}{s:af}{a:Addr}{y d:V}{u r:ae}{o:Option V}{A:aB}{E:ae->af->Prop}
end
section
variable{X:Cx}{o e f:Expr}{apos cpos:Pos}{td ty tx:TE}
end
section
variable{X:Cx}{pins:List (Addr×Obj)}{σ:St}{H:Hp}{s:af}{a:Addr}{kvs:List (Key×V)}{A:aB}{E:ae->af->Prop}
end
section
variable{X:Cx}{pins:List (Addr×Obj)}{σ:St}{H:Hp}{s:af}{a:Addr}{y:V}{u:ae}{A:aB}{E:ae->af->Prop}
end
section
variable{X:Cx}
end
end L2
namespace HT
open PySem PySem.Spec PyProof.Rows L2
section
variable{prog:aA}{w:au}{A:aB}{E:ae->af->Prop}{s:af}
theorem yb{l:Addr}{its:Array ae}{Q:List ae->af->Prop}(ht:IsTup s.heap l its)(hz:its.size<=aP)
  (h:Q its.toList {s with heap:=(s.heap.push (aU "list" #[] 0)).update s.heap.objs.size (bt (· ++ its))}) :
  aq (ao prog w) A (collect (.ref l)) Q E s:=by
 obtain⟨o,ho,hc,n,hd⟩:=id ht;unfold collect;apply ah;apply wpAny_runValue;apply dH entry_proto_collect';show aq _ _ (do again (.builtin "list.__iadd__" ⟨[<-newList [],.ref l],[]⟩)) _ _ s;apply ah;refine wpAny_newList (hsz:=bx _) ?_;refine aE ⟨Code.quiet_builtin _ (by decide +kernel),?_⟩;apply dH entry_list_iadd';show aq _ _ (Builtin.List.listExtendWith (.ref s.heap.objs.size) (.ref l) (.ref s.heap.objs.size)) _ _ ({s with heap:=s.heap.push (aU "list" #[] 0)}:af);have hS:(s.heap.push (aU "list" #[] 0)).get? s.heap.objs.size=some (aU "list" #[] 0):=Heap.get?_push_size _ rfl;have hT:=Heap.get?_push_of_some (aU "list" #[] 0) ho;unfold Builtin.List.listExtendWith;apply ah;refine wpAny_typeOf (T:="tuple") ⟨o,hT,hc⟩ ?_;rw[if_pos (by simp)];apply ah;refine listItems_at hT hd ?_;apply ah;refine listItems_at hS rfl ?_;rw[if_neg (by simp)];apply ah;refine listUpdate_at hS rfl ?_ (bx _) (by show (#[]++its).size<=aP+1;rw[Array.size_append];show 0+its.size<=_;lia);apply aE;show aq (ao prog w) A (load s.heap.objs.size>>=λo=>match o.data with
  | .seq xs _=>pure xs.toList
  |_=>unsupported "internal:collect") Q E _
 apply ah;refine wpAny_load (get?_update_seq hS _) ?_;show aq _ _ (pure ((#[]:Array ae)++its).toList) Q E _;rw[show ((#[]:Array ae)++its).toList=its.toList by simp];exact aE h
theorem Ds{l:Addr}{vs:List ae}{ns:List Int}{Q:ae->af->Prop}(ht:IsTup s.heap l vs.toArray)(hI:ba vs ns)(h64:vs.length<64)
  (h:∀(out:Array ae) (ns':List Int),ba out.toList ns'->ns'.Perm ns->ns'.Pairwise (·<=·)->Q (.ref (s.heap.objs.size+1)) {s with heap:=sortedAll s.heap vs out}) :
  aq (ao prog w) A (call (.builtin "sorted") [.ref l]) Q E s:=by
 refine Calls.call_function_entry kind_sorted plain_sorted entry_sorted (args_sorted1 _) ?_;unfold Builtin.«sorted»;apply ah (m:=checkCount "sorted" 1 1 _);apply aE;apply ah;refine yb ht (by rw[aV,bu];lia) ?_;apply ah;refine wpAny_newList (hsz:=by rw[bu];show vs.length<=_;lia) ?_;have hz:((s.heap.push (aU "list" #[] 0)).update s.heap.objs.size (bt (· ++ vs.toArray))).objs.size=s.heap.objs.size+1:=by rw[Heap.size_update,size_push']
 have hL:(((s.heap.push (aU "list" #[] 0)).update s.heap.objs.size (bt (· ++ vs.toArray))).push (aU "list" vs.toArray 0)).get? (s.heap.objs.size+1)=some (aU "list" vs.toArray 0):=hz▸Heap.get?_push_size _ rfl;show aq _ _ _ _ _ ({s with heap:=((s.heap.push (aU "list" #[] 0)).update s.heap.objs.size (bt (· ++ vs.toArray))).push (aU "list" vs.toArray 0)}:af);rw[hz];apply ah;apply cc;refine dG slot_list_sort ⟨_,hL,rfl⟩ entry_list_sort (list_sort_tree hL hI h64 λout ns' a1 a2 a3=>⟨_,rfl,?_⟩) (args_list_sort _);exact aE ⟨_,rfl,h out ns' a1 a2 a3⟩
end
end HT
namespace L2
open PySem PySem.Spec PyProof.Rows
variable{X:Cx}
noncomputable def xo(K:aC):List V->Hp->VK->Prop:=λvs H Q=>∃(l:Addr) (ns:List Int),vs=[.ref l]/\SqT K H l (ns.map V.int)/\ns.length<64/\∀(D:Addr) (ms:List Int),H D=none->ms.Perm ns->ms.Pairwise (·<=·)->Q (.ref D) (upd H D (.lst (ms.map V.int)))
theorem Ao:zg X (.builtin "sorted") (xo X.K):=by
 intro pins s σ H xs us Q I r ⟨l,ns,e,hl,h64,q⟩;subst e;obtain⟨u,rfl,ru⟩:=r.one;cases ru;obtain⟨its,rv,ht,hz⟩:=I.tuple hl;have hI:=intsAre_of rv;have hle:=ba.length hI;refine HT.Ds ht hI (by rw[hle];exact h64) λout ns' a1 a2 a3=>?_
 obtain⟨c,hc⟩:=sortedAll_at s.heap its out;have keep:∀b o,s.heap.get? b=some o->(sortedAll s.heap its out).get? b=some o:=λb o e=>sortedAll_old e
 have hn:H (s.heap.objs.size+1)=none:=I.hok.fresh (Nat.le_succ _);have hl':ns'.length=ns.length:=a2.length_eq;exact⟨.ref (s.heap.objs.size+1),_,I.laid (t':=s.toks) (o:=.lst (ns'.map V.int)) keep (Nat.le_succ _) ⟨by rw[aJ,bu];lia,out.toList,c,lI a1,by rw[Array.toArray_toList];exact hc⟩,rfl,q _ ns' hn a2 a3⟩
noncomputable def bM(kvs:List (Int×Int)):List (Key×V):=kvs.map λp=>(Sum.inl p.1,V.int p.2)
noncomputable def atK(kvs:List (Int×Int))(i:Int):Option Int:=(kvs.find? λp=>decide (p.1=i)).map (·.2)
noncomputable def cD(kvs:List (Int×Int))(i v:Int):List (Int×Int):=if (kvs.any λp=>decide (p.1=i))=true then kvs.map (λp=>if p.1=i then (p.1,v)else p)else kvs++[(i,v)]
noncomputable def dA(kvs more:List (Int×Int)):List (Int×Int):=more.foldl (λacc p=>cD acc p.1 p.2) kvs
theorem oV(a i:Int):decide ((Sum.inl a:Key)=Sum.inl i)=decide (a=i):=decide_eq_decide.mpr ⟨λh=>Sum.inl.inj h,λh=>by rw[h]⟩
theorem Au(kvs:List (Int×Int))(i:Int):dJ (bM kvs) (Sum.inl i)=(atK kvs i).map V.int:=by
 rw[dJ,atK,bM]
 induction kvs with
 |nil=>rfl
 |cons p r ih=>
  rw[aR,List.find?_cons,List.find?_cons];rw[show decide ((Sum.inl p.1,V.int p.2).fst=(Sum.inl i:Key))=decide (p.1=i)from oV p.1 i];cases decide (p.1=i)with
  |true=>rfl
  |false=>exact ih
theorem rV(kvs:List (Int×Int))(i:Int):((bM kvs).any λkv=>decide (kv.1=Sum.inl i))=kvs.any λp=>decide (p.1=i):=by
 rw[bM,List.any_map]
 congr 1
 funext p;exact oV p.1 i
theorem sX(kvs:List (Int×Int))(i:Int):(dJ (bM kvs) (Sum.inl i)).isSome=kvs.any λp=>decide (p.1=i):=by
 rw[<-lu,rV]
theorem pd(kvs:List (Int×Int))(i v:Int):putK (bM kvs) (Sum.inl i) (V.int v)=bM (cD kvs i v):=by
 rw[putK,cD,rV];by_cases h:(kvs.any λp=>decide (p.1=i))=true
 ·rw[if_pos h,if_pos h,bM,bM,cg,cg];refine List.map_congr_left λp _=>?_
  show (if (Sum.inl p.1:Key)=Sum.inl i then ((Sum.inl p.1:Key),V.int v)else (Sum.inl p.1,V.int p.2))=_;by_cases e:p.1=i
  ·rw[if_pos (by rw[e])];show _=((Sum.inl (if p.1=i then (p.1,v)else p).1:Key),V.int (if p.1=i then (p.1,v)else p).2)
   rw[if_pos e]
  ·rw[if_neg (λz=>e (Sum.inl.inj z))];show _=((Sum.inl (if p.1=i then (p.1,v)else p).1:Key),V.int (if p.1=i then (p.1,v)else p).2)
   rw[if_neg e]
 ·rw[if_neg h,if_neg h,bM,bM,List.map_append];rfl
theorem vi:∀(ms kvs:List (Int×Int)),fP (bM kvs) (bM ms)=bM (dA kvs ms)
 | [],kvs=>rfl
 |p::r,kvs=>by
  show fP (putK (bM kvs) (Sum.inl p.1) (V.int p.2)) (bM r)=_;rw[pd,vi r];rfl
theorem lC(kvs:List (Int×Int)):(bM kvs).length=kvs.length:=aJ ..
section
variable{X:Cx}
noncomputable def AF:V->List V->Hp->VK->Prop:=λx vs H Q=>∃a b ks ms,x=.ref a/\vs=[.ref b]/\a≠b/\H a=some (.dK ks)/\H b=some (.dK ms)/\ks.length+ms.length<=aP/\Q .non (upd H a (.dK (fP ks ms)))
theorem yp:MtM X "dict.update" AF:=by
 intro pins s σ H x vs v us Q I rx rv h;obtain⟨a,b,ks,ms,rfl,rfl,hab,ha,hb,hz,q⟩:=h;cases rx;obtain⟨u,rfl,ru⟩:=rv.one;cases ru;obtain⟨z,hd,vs,rel,dd⟩:=jy I.hok ha;obtain⟨z2,hd2,vs2,rel2,dd2⟩:=jy I.hok hb;refine call_meetsIn PySem.F.slot_dict_update dd.typeIs PySem.F.entry_dict_update (PySem.F.args_dict_update_2 _ _) (meets_dict_update (zK X.prog X.w) a b hab hd2)
  ⟨vs,vs2,dd,dd2,by rw[<-rel.length,<-rel2.length];exact hz,λh' dd' _ hs=>?_⟩
 have he:∃q,h'.get? a=some q:=let ⟨q,_,_,hq,_⟩:=dd';⟨q,hq⟩
 have hl:(fP ks ms).length<=sizeLine:=bB (mw ms ks) hz;exact⟨.non,_,kc (t':=s.toks) I (by rw[ha];exact True.intro) hs he (lE hl hd (rel2.merge rel) dd'),rfl,q⟩
noncomputable def CU:List V->Hp->VK->Prop:=λvs H Q=>∃(l:Addr) (kvs:List (Int×Int)),vs=[.ref l]/\H l=some (.dK (bM kvs))/\kvs.length<64/\∀(D:Addr) (ms:List Int),H D=none->ms.Perm (kvs.map (·.1))->ms.Pairwise (·<=·)->Q (.ref D) (upd H D (.lst (ms.map V.int)))
theorem q_{P:aA}{w:au}:∀{ks:List (Int×Int)}{vs:List (Key×ae)}{xs:List ae},KV (bM ks) vs->xs.length=vs.length->(∀(j:Nat) (v:ae),xs[j]? = some v->∃k x,vs[j]? = some (k,x)/\(zK P w).is k v=true)->ba xs (ks.map (·.1))
 | [],vs,xs,r,hl,h=>by
  cases r;cases xs with
  |nil=>exact .nil
  |cons _ _=>cases hl
 |p::ks,vs,xs,r,hl,h=>by
  cases r with
  | @cons a b as bs h1 t=>
   cases xs with
   |nil=>cases hl
   |cons x xs=>
    obtain⟨k,y,e1,e2⟩:=h 0 x rfl;cases e1;obtain⟨z1,_⟩:=h1;have z1:Sum.inl p.1=k:=z1;subst z1;obtain⟨tk,rfl⟩:∃t,x=ae.int p.1 t:=ae.isInt_shape (k:=p.1) (v:=x) e2;exact .cons _ _ (q_ t (by simpa using hl) λj v e=>h (j+1) v e)
theorem yM{prog:aA}{w:au}{A:aB}{E:ae->af->Prop}{s:af}{T:String}{r d:Addr}{n:Nat}{P:Nat->ae->Prop}{OK:Heap->Prop}{R:List ae->af->Prop}(K:PySem.W.KdlSrc prog w T r d n P OK)(hh:A.handled=none)(hok:OK s.heap)(hn:n<=aP)
  (h:∀(h':Heap) (tk:Nat) (acc:Array ae),s.heap.objs.size<h'.objs.size->(∀b o,s.heap.get? b=some o->h'.get? b=some o)->ItemsOf P acc n->R acc.toList {s with heap:=h',toks:=tk}) :
  aq (ao prog w) A (collect (.ref r)) R E s:=by
 have hlt:=K.there _ hok;unfold collect;refine ah (wpAny_runValue (dH F.entry_proto_collect ?_));rw[aB.under_plainId F.plain_proto_collect _];show aq _ A.in1 (newList []>>=λl=>again (.builtin "list.__iadd__" ⟨[l,.ref r],[]⟩)) _ _ s;refine ah (wpAny_newObj_type ?_);refine aE ⟨plainId_quiet F.plain_list_iadd _,dH F.entry_list_iadd ?_⟩;rw[aB.under_plainId F.plain_list_iadd _];have hS:(s.heap.push {cls:=.type "list",data:=.seq ([]:List ae).toArray}).get? s.heap.objs.size=some {cls:=.type "list",data:=.seq #[]}:=Heap.get?_push_size _ rfl;show aq _ A.in1 (Builtin.List.listExtendWith (.ref s.heap.objs.size) (.ref r) (.ref s.heap.objs.size)) _ _ _;refine b5 (PySem.W.kdl_extend (A:=A) (R:=λq s'=>∃h' tk acc c,q=.ok (.ret (.ref s.heap.objs.size))/\s'={s with heap:=h',toks:=tk}/\(∀b o,s.heap.get? b=some o->h'.get? b=some o)/\h'.get? s.heap.objs.size=some {cls:=.type "list",data:=.seq acc c}/\ItemsOf P acc n)
  K hh (K.keep _ _ hok λb _ o e=>Heap.get?_push_of_some _ e) _ (Nat.ne_of_gt hlt.1) (Nat.ne_of_gt hlt.2) (.ref s.heap.objs.size) 0 hS
  (λh' tk acc c k1 k2 k3=>⟨h',tk,acc,c,rfl,rfl,λb o e=>k1 b o (a_ (aM e)) (Heap.get?_push_of_some _ e),k2,k3⟩) hn) (λf s' x=>?_) λe s' x=>?_
 ·have fin:∀{q:Result}{s':af},(∃h' tk acc c,q=.ok (.ret (.ref s.heap.objs.size))/\s'={s with heap:=h',toks:=tk}/\(∀b o,s.heap.get? b=some o->h'.get? b=some o)/\h'.get? s.heap.objs.size=some {cls:=.type "list",data:=.seq acc c}/\ItemsOf P acc n)->∃u,q=.ok (.ret u)/\aq (ao prog w) A (match (u:ae)with|bq a=>load a>>=λo=>(match o.data with | .seq xs _=>pure xs.toList|_=>unsupported "internal:collect")|_=>unsupported "internal:collect") R E s':=by
   rintro q s' ⟨h',tk,acc,c,rfl,rfl,k1,k2,k3⟩;exact⟨_,rfl,ah (wpAny_load k2 (aE (h h' tk acc (aM k2) k1 k3)))⟩
  cases f with
  |done f=>
   obtain⟨u,e,z⟩:=fin x;cases e;exact z
  |again c=>
   refine⟨x.1,cW x.2 λq s2 y=>?_⟩;obtain⟨u,rfl,z⟩:=fin y;exact z
 ·obtain⟨_,_,_,_,z,_⟩:=x;cases z
theorem CC(hc:X.calm=true):zg X (.builtin "sorted") CU:=by
 intro pins s σ H xs us Q I r ⟨l,kvs,e,hl,h64,q⟩;subst e;obtain⟨u,rfl,ru⟩:=r.one;cases ru;obtain⟨z,hd,vs,rel,dd⟩:=jy I.hok hl;obtain⟨ep,hat⟩:=dd.dictAt;have hlen:vs.length=kvs.length:=by rw[<-rel.length];exact aJ ..
 have hn:vs.length<=sizeLine:=by rw[bu];lia
 refine Calls.call_function_entry kind_sorted plain_sorted entry_sorted (args_sorted1 _) ?_;unfold Builtin.«sorted»;refine ah (m:=checkCount "sorted" 1 1 _) (aE ?_);refine ah (yM (A:=X.A.in1) (PySem.W.kdl_dict (knd:=zK X.prog X.w) (kvs:=vs) (ep:=ep) hd) (I.ok.hd hc) hat hn λh' tk acc hsz hk hacc=>?_);have hla:acc.toList.length=vs.length:=by rw[a8];exact hacc.1
 have hI:ba acc.toList (kvs.map (·.1)):=q_ (P:=X.prog) (w:=X.w) rel hla λj v e=>hacc.2 j v (by rw[<-Array.getElem?_toList];exact e)
 refine ah (wpAny_newList ?_ (by rw[hla];exact hn));have hL:(h'.push (aU "list" acc.toList.toArray 0)).get? h'.objs.size=some (aU "list" acc.toList.toArray 0):=Heap.get?_push_size _ rfl;refine ah (cc ?_);refine dG slot_list_sort ⟨_,hL,rfl⟩ entry_list_sort (list_sort_tree hL hI (by rw[hla,hlen];exact h64) λout ns' a1 a2 a3=>⟨_,rfl,?_⟩) (args_list_sort _);obtain⟨c,hc⟩:=sortedHeap_at (out:=out) hL;have hle:=ba.length a1;refine aE ⟨_,rfl,.ref h'.objs.size,_,I.laid (t':=tk) (o:=.lst (ns'.map V.int)) (λb o e=>?_) (Nat.le_of_lt hsz) ⟨by rw[aJ,a2.length_eq,aJ,bu];lia,out.toList,c,lI a1,by rw[Array.toArray_toList];exact hc⟩,rfl,q _ ns' (I.hok.fresh (Nat.le_of_lt hsz)) a2 a3⟩;have e1:=hk b o e;have hb:=aM e1;show (sortedHeap _ _ _ _).get? b=some o;rw[sortedHeap_old (a_ hb) (by rw[bK];exact cx hb)];exact Heap.get?_push_of_some _ e1
theorem BM(hu:X.A.units+64<cLine):OpR X (bh .In) (λx y H Q=>∃a kvs i,y=.ref a/\x=.int i/\H a=some (.dK (bM kvs))/\Q (.bl (kvs.any λp=>decide (p.1=i))) H):=by
 intro pins s σ H x y v u Q I rx ry ⟨a,kvs,i,e1,e2,ha,q⟩;subst e1 e2;obtain rfl:u=bq a:=ry;refine EH (by lia) I (fv.k (k:=Sum.inl i) ha) rx λs' I'=>⟨.bl _,H,I',rfl,?_⟩
 rw[sX];exact q
theorem Dq(hu:X.A.units+64<cLine):OpR X (bh .NotIn) (λx y H Q=>∃a kvs i,y=.ref a/\x=.int i/\H a=some (.dK (bM kvs))/\Q (.bl (!kvs.any λp=>decide (p.1=i))) H):=by
 intro pins s σ H x y v u Q I rx ry ⟨a,kvs,i,e1,e2,ha,q⟩;subst e1 e2;obtain rfl:u=bq a:=ry;refine CH (by lia) I (fv.k (k:=Sum.inl i) ha) rx λs' I'=>⟨.bl _,H,I',rfl,?_⟩
 rw[sX];exact q
theorem Gy{prog:aA}{w:au}{A:aB}{E:ae->af->Prop}{s:af}{e b:Expr}{o i:ae}{T id:String}{Q:ae->af->Prop}(hT:s.TypeIs o T)(hl:typeLookup (.type T) "__getitem__" = pure (some (.builtin id)))
  (h:aq (ao prog w) A (getItem o i) Q E s) (hs:subscripted b false o i=operate [o,i] (getItem o i)):aq (ao prog w) A (subscriptTail e b o i) Q E s:=by
 unfold subscriptTail;refine ah ?_;rw[getitemInPython_of_ne hT.not_modules];refine ah (wpAny_specialOf hT hl ?_);have fin:aq (ao prog w) A (subscripted b false o i) (λr s'=>aq (ao prog w) A (letTemporaryGo e o r>>=λ_=>pure r) Q E s') E s:=by
  rw[hs];exact wpAny_operating (b5 h (λr s' z=>ah (wpAny_letTemporaryGo (aE z))) λ_ _ x=>x)
 first
  |exact aE (ah fin)
  |exact ah (aE (ah fin))
  |exact ah fin
noncomputable def rq:R2:=λx y H Q=>∃a kvs i v,x=.ref a/\y=.int i/\H a=some (.dK (bM kvs))/\atK kvs i=some v/\Q (.int v) H
theorem F4(hu:X.A.units+64<cLine):IxR X rq:=by
 intro value slice pins s σ H x y v u Q I rx ry ⟨a,kvs,i,z,e1,e2,ha,he,q⟩ hs;subst e1 e2;obtain rfl:v=bq a:=rx;have g:fv H a (.int i) (some (.int z)):=by
  have:=fv.k (k:=Sum.inl i) ha;rw[Au,he]at this;exact this
 exact Gy (wD I g) PySem.F.slot_dict_getitem.lookup (CN (by lia) I g ry λw' s' I' rw'=>⟨_,H,I',rw',q⟩) hs
theorem gO.or{r r':V->V->V->Hp->(Hp->Prop)->Prop}(h:gO X r)(h':gO X r'):gO X (λx y v H Q=>r x y v H Q\/r' x y v H Q):=by
 intro pins s σ H o i v ov iv u Q I ro ri rv q;rcases q with q|q
 ·exact h pins s σ H o i v ov iv u Q I ro ri rv q
 ·exact h' pins s σ H o i v ov iv u Q I ro ri rv q
noncomputable def uU:V->V->V->Hp->(Hp->Prop)->Prop:=λo i v H Q=>∃a kvs k z,o=.ref a/\i=.int k/\v=.int z/\H a=some (.dK (bM kvs))/\kvs.length<aP/\Q (upd H a (.dK (bM (cD kvs k z))))
theorem vW(hu:X.A.units+64<cLine):gO X uU:=by
 intro pins s σ H o i v ov iv u Q I ro ri rv ⟨a,kvs,k,z,e1,e2,e3,ha,hz,q⟩;subst e1 e2 e3;obtain rfl:ov=bq a:=ro;refine vE (by lia) I (kr.k (k:=Sum.inl k) (v:=.int z) ha (by rw[lC];exact hz)) ri rv λs' I'=>⟨_,I',?_⟩
 rw[pd];exact q
end
noncomputable def i_(kX:Str->Option a7)(NX NY:List Str)(cap:List (Option Nat))(scope:bf):Bool:=
 (scope.kind==.function)&&(scope.names.all λy=>(y.2 != .cell||scope.names.lookup y.1==some .cell)&&(y.2 != .local||scope.names.lookup y.1==some .local)&&(y.2 != .free||kX y.1==some .cell||kX y.1==some .free)) &&
 (cap.length==NY.length)&&(bE cap.length).all λi=>match cap[i]? with
  |some (some j)=>(match NY[i]?,NX[j]? with
   |some x,some y=>x==y&&scope.names.lookup x==some .free&&(kX x==some .cell||kX x==some .free)
   |_,_=>false)
  |_=>true
theorem eS.of{X:Cx}{NY:List Str}{cap:List (Option Nat)}{scope:bf}(h:i_ X.env.kindOf X.N NY cap scope=true):eS X NY cap scope:=by
 unfold i_ at h;simp only[aW,b_,beq_iff_eq]at h;obtain⟨⟨⟨h1,h2⟩,h3⟩,h4⟩:=h;refine⟨h1,λy hy e=>?_,λy hy e=>?_,λy hy e=>?_,h3,λi j hc=>?_⟩
 ·have:=(h2 y hy).1.1;rw[e]at this
  simpa using this
 ·have:=(h2 y hy).1.2;rw[e]at this
  simpa using this
 ·have:=(h2 y hy).2;rw[e]at this
  simpa using this
 ·have hi:i<cap.length:=(List.getElem?_eq_some_iff.mp hc).1;have:=h4 i (List.mem_range.mpr hi);rw[hc]at this;dsimp only at this;split at this
  ·rename_i x y e1 e2
   simp only[aW,beq_iff_eq,bW]at this;obtain⟨⟨e3,e4⟩,e5⟩:=this;subst e3;exact⟨x,e1,e2,e4,e5⟩
  ·cases this
end L2
namespace WB
open PySem PySem.Spec PyProof.Rows L2
section
variable{P:aA}{w:au}{K:aC}{mg:Str->Option ae}{base:Heap}{f g:Addr}{fd gd:FuncData}
theorem _root_.L2.Fun.ok1{x qual:Str}{st:Stmt}{f:Addr}{fd:FuncData}{N ps:List Str}{k:Nat}{sp:Sp}(F:Fun K x qual st f fd)(S:iZ N ps (zt st))(len:∀vs H Q E,sp vs H Q E->vs.length=ps.length)
  (hbody:∀(cdv:ae) (A:aB) (outer:List Env) (s:af) (H:Hp) (vs:List V) (Q:VK) (E:XK),dw k (A.deeper (envOfC qual (zt st) s.heap.objs.size f cdv))->sp vs H Q E ->
   ∃t,PSs (fR (CX1 P w) P w K mg base N qual (zt st) f cdv A outer s H E) (eV st) t/\t {nx:=λ_ H'=>Q .non H',rt:=Q} (start N vs) H):gq P w K mg base (CX1 P w) (k+1) f fd ps sp:=by
 obtain⟨oc,od,kV,doc,pm,an,cdv,ct,osl,rfl,lk,hcd⟩:=F.ex;exact xE lk hcd S len λA outer s H vs Q E hr hsp=>hbody cdv A outer s H vs Q E hr hsp
end
noncomputable def Bn(H:Hp)(ps:List Addr)(ks:List (Int×Int)):Prop:=ps.length=ks.length/\∀(i:Nat) p k,ps[i]? = some p->ks[i]? = some k->H p=some (.tup [.int k.1,.int k.2])
structure Built(H0:Hp)(acc:Addr)(ks:List (Int×Int))(H:Hp):Prop where
 ex:∃ps:List Addr,H acc=some (.lst (ps.map V.ref))/\Bn H ps ks
 same:∀b o,b≠acc->H0 b=some o->H b=some o
end WB
set_option genSizeOf false
set_option genSizeOfSpec false
namespace EV
open PySem L2
inductive D where
 |non|bl (b:Bool)|int (i:Int)|str (x:Str)|tup (xs:List D)|lst (xs:List D)|fn (x:Str)|exn (c:Str)|dic (kvs:List (Int×Int))
inductive R(α:Type) where
 |ok (a:α)|ex (c:Str)|no
noncomputable def R.bind{α β:Type}:R α->(α->R β)->R β
 | .ok a,f=>f a
 | .ex c,_=>.ex c
 | .no,_=>.no
@[simp] theorem R.bind_ok{α β:Type}(a:α)(f:α->R β):(R.ok a).bind f=f a:=rfl
@[simp] theorem R.bind_ex{α β:Type}(c:Str)(f:α->R β):(R.ex c:R α).bind f=.ex c:=rfl
@[simp] theorem R.bind_no{α β:Type}(f:α->R β):(R.no:R α).bind f=.no:=rfl
inductive O2 where
 |add|sub|mul|fdiv|mod|pow|shl|shr|band|bor|bxor
 deriving DecidableEq
inductive C2 where
 |eq|ne|lt|le|gt|ge|isin|notin|is|isnot
 deriving DecidableEq
inductive B1 where
 |len|tuple|list|sorted|all|any|sum|min|max|abs|int|bool
 deriving DecidableEq
inductive Cl where
 |ty (n:String)|ex (x:Str)
 deriving DecidableEq
inductive Tg where
 |nm (i:Nat)|tp (is:List Nat)
mutual
inductive E where
 |var (i:Nat)|own (i:Nat)|con (d:D)|glb (x:Str)|fnv (x:Str)
 |op (o:O2) (a b:E)|neg (a:E)|inv (a:E)|not (a:E)|and (a b:E)|or (a b:E)
 |cmp (c:C2) (a b:E)|cmp2 (c c':C2) (a b d:E)|cmp3 (c c' c'':C2) (a b d e:E)
 |ite (t:T) (a b:E)
 |tup (es:Es)|lst (es:Es)
 |ix (a b:E)|sl (a:E) (lo hi:OE)
 |call (f:Str) (es:Es)|callE (f:E) (es:Es)
 |bi (b:B1) (es:Es)
 |rtup (a:It)|rlst (a:It)
 |isi (a:E) (c:Cl)
 |comp (it:It) (cap:List (Option Nat)) (tg:Tg) (t:T) (elt:E)
 |mth (ix:Bool) (a:E)
 |cnt (a b:E)
 |mxk (mx:Bool) (a:E)
 |dic
 |callo (f:Str) (es:Es)
 |comp2 (it:It) (cap:List (Option Nat)) (tg:Tg) (it2:It) (tg2:Tg) (t:T) (elt:E)
 |fst2 (t0:Str) (a:E) (t1:Str) (b:E) (t2:Str)
 |sset (ln:Bool) (a:E)
 |rev (a:E)
 |dic1 (a b:E)
 |dget (a b:E)
 |dget2 (a b d:E)
 |lsd (a:E)
inductive OE where
 |none|some (e:E)
inductive Es where
 |nil|cons (e:E) (es:Es)
inductive It where
 |seq (e:E)|rng (a:E)|rng2 (a b:E)|enum (e:E)|zip (a b:E)|rng3 (a b k:E)|rrev (a:E)
inductive T where
 |yes|val (e:E)|cmp (c:C2) (a b:E)|cmp2 (c c':C2) (a b d:E)|and (a b:T)|or (a b:T)|not (a:T)
end
noncomputable def SZ:Nat:=1000000
noncomputable def small(j:Int):Bool:=decide (-(2^64)<j)&&decide (j<2^64)
noncomputable def opI:O2->Int->Int->R D
 | .add,i,j=>.ok (.int (i+j))
 | .sub,i,j=>.ok (.int (i-j))
 | .mul,i,j=>if small i||small j then .ok (.int (i * j))else .no
 | .fdiv,i,j=>if 0<j/\j<1000000000000000000000000000000 then .ok (.int (i/j))else .no
 | .mod,i,j=>if 0<j then .ok (.int (i%j))else .no
 | .pow,i,j=>if 0<=j/\j<=1000000/\i.natAbs<2^64 then .ok (.int (i^j.toNat))else .no
 | .shl,i,j=>if 0<=j/\j<=1000000/\i.natAbs<2^64 then .ok (.int (i * 2^j.toNat))else .no
 | .shr,i,j=>if 0<=j then .ok (.int (i/2^j.toNat))else .no
 | .band,i,j=>.ok (.int (Builtin.bitAnd i j))
 | .bor,i,j=>.ok (.int (Builtin.bitOr i j))
 | .bxor,i,j=>.ok (.int (Builtin.bitXor i j))
noncomputable def t7:D->Bool
 | .lst _=>true
 |_=>false
noncomputable def op2(o:O2):D->D->R D
 | .int i,.int j=>opI o i j
 | .tup xs,.tup ys=>if o=.add/\xs.length+ys.length<=SZ then .ok (.tup (xs++ys))else .no
 | .lst xs,.lst ys=>if o=.add/\xs.length+ys.length<=SZ then .ok (.lst (xs++ys))else .no
 |_,_=>.no
mutual
noncomputable def D.plain:D->Bool
 | .non=>true
 | .bl _=>true
 | .int _=>true
 | .str x=>PyData.strOk x
 | .tup xs=>plainAll xs
 | .lst xs=>plainAll xs
 | .fn _=>false
 | .exn _=>false
 | .dic _=>false
noncomputable def plainAll:List D->Bool
 | []=>true
 |x::xs=>x.plain&&plainAll xs
end
mutual
noncomputable def D.deep:D->Nat
 | .tup xs=>gj xs+1
 | .lst xs=>gj xs+1
 |_=>0
noncomputable def gj:List D->Nat
 | []=>0
 |x::xs=>max x.deep (gj xs)
end
mutual
noncomputable def D.eqv:D->D->Bool
 | .non,.non=>true
 | .bl a,.bl b=>a==b
 | .bl a,.int j=>(if a then 1 else 0)==j
 | .int i,.bl b=>i==(if b then 1 else 0)
 | .int i,.int j=>i==j
 | .str x,.str y=>x==y
 | .tup xs,.tup ys=>eqvAll xs ys
 | .lst xs,.lst ys=>eqvAll xs ys
 |_,_=>false
noncomputable def eqvAll:List D->List D->Bool
 | [],[]=>true
 |x::xs,y::ys=>x.eqv y&&eqvAll xs ys
 |_,_=>false
end
noncomputable def D.asks(d:D):Bool:=d.plain&&decide (d.deep<=20)
mutual
noncomputable def D.noL:D->Bool
 | .non=>true
 | .bl _=>true
 | .int _=>true
 | .str _=>true
 | .tup xs=>p5 xs
 |_=>false
noncomputable def p5:List D->Bool
 | []=>true
 |x::xs=>x.noL&&p5 xs
end
noncomputable def ints?:List D->Option (List Int)
 | []=>some []
 | .int i::r=>(ints? r).map (i :: ·)
 |_=>none
noncomputable def bools?:List D->Option (List Bool)
 | []=>some []
 | .bl i::r=>(bools? r).map (i :: ·)
 |_=>none
noncomputable def pairs?:List D->Option (List (Int×Int))
 | []=>some []
 | .tup [.int i,.int j]::r=>(pairs? r).map ((i,j) :: ·)
 |_=>none
noncomputable def seq?:D->Option (List D)
 | .tup xs=>some xs
 | .lst xs=>some xs
 |_=>none
noncomputable def eD:List Int->List Int->Bool
 | [],[]=>false
 | [],_::_=>true
 |_::_,[]=>false
 |a::r,b::t=>if a=b then eD r t else decide (a<b)
noncomputable def kC(c:C2)(i j:Int):Option Bool:=
 match c with
 | .lt=>some (decide (i<j))
 | .le=>some (decide (i<=j))
 | .gt=>some (decide (j<i))
 | .ge=>some (decide (j<=i))
 | .eq=>some (decide (i=j))
 | .ne=>some (!decide (i=j))
 |_=>none
noncomputable def inD(x:D)(xs:List D):Bool:=xs.any λy=>y.eqv x
noncomputable def gy:D->Bool
 | .non=>true
 |_=>false
noncomputable def isB(n:Bool):D->D->R Bool
 | .bl a,.bl b=>.ok (n != (a==b))
 |_,_=>.no
noncomputable def eE(a b:D):R Bool:=match b with
 | .dic kvs=>(match a with
  | .int i=>.ok (kvs.any λp=>decide (p.1=i))
  |_=>.no)
 |_=>.no
noncomputable def qg:C2->D->D->R Bool
 | .is,a,b=>if gy b then .ok (gy a)else isB false a b
 | .isnot,a,b=>if gy b then .ok (!gy a)else isB true a b
 | .isin,a,b=>match seq? b with
  |some xs=>if a.asks&&xs.all D.asks then .ok (inD a xs)else .no
  |none=>eE a b
 | .notin,a,b=>match seq? b with
  |some xs=>if a.asks&&xs.all D.asks then .ok (!inD a xs)else .no
  |none=>(eE a b).bind λr=>.ok (!r)
 | .eq,a,b=>if a.asks&&b.asks then .ok (a.eqv b)else .no
 | .ne,a,b=>if a.asks&&b.asks then .ok (!a.eqv b)else .no
 | .lt,.tup xs,.tup ys=>match ints? xs,ints? ys with
  |some ns,some ms=>.ok (eD ns ms)
  |_,_=>.no
 |c,.int i,.int j=>match kC c i j with
  |some b=>.ok b
  |none=>.no
 |_,_,_=>.no
noncomputable def truth:D->R Bool
 | .non=>.ok false
 | .bl b=>.ok b
 | .int i=>.ok (i != 0)
 | .tup xs=>.ok (!xs.isEmpty)
 | .lst xs=>.ok (!xs.isEmpty)
 |_=>.no
noncomputable def ixD:D->D->R D
 | .tup xs,.int i=>match atI xs i with|some d=>.ok d|none=>.no
 | .lst xs,.int i=>match atI xs i with|some d=>.ok d|none=>.no
 | .dic kvs,.int i=>match atK kvs i with|some v=>.ok (.int v)|none=>.no
 |_,_=>.no
noncomputable def cutD(xs:List D)(lo hi:Option Int):List D:=(xs.drop (HT.sIx xs.length 0 lo)).take (HT.sIx xs.length xs.length hi-HT.sIx xs.length 0 lo)
noncomputable def slD:D->Option Int->Option Int->R D
 | .lst xs,lo,hi=>.ok (.lst (cutD xs lo hi))
 |_,_,_=>.no
noncomputable def insI(i:Int):List Int->List Int
 | []=>[i]
 |j::r=>if i<=j then i::j::r else j::insI i r
noncomputable def sortI:List Int->List Int
 | []=>[]
 |i::r=>insI i (sortI r)
noncomputable def fH(p:Int×Int):List (Int×Int)->List (Int×Int)
 | []=>[p]
 |q::r=>if ltP q p then q::fH p r else p::q::r
noncomputable def zj:List (Int×Int)->List (Int×Int)
 | []=>[]
 |p::r=>fH p (zj r)
noncomputable def pairD(p:Int×Int):D:=.tup [.int p.1,.int p.2]
noncomputable def dE(d:D)(k:List D->R D):R D:=match d with | .lst xs=>k xs|_=>.no
noncomputable def iiR(d e:D)(k:Int->Int->R D):R D:=match d,e with | .int i,.int j=>k i j|_,_=>.no
noncomputable def bX{α β:Type}(o:Option α)(k:α->R β):R β:=match o with|some a=>k a|none=>.no
noncomputable def tups?:List D->Option (List (List Int))
 | []=>some []
 | .tup xs::r=>(ints? xs).bind λn=>(tups? r).map (n :: ·)
 |_=>none
noncomputable def eO(p:List Int):List (List Int)->List (List Int)
 | []=>[p]
 |q::r=>if eD q p then q::eO p r else p::q::r
noncomputable def zT:List (List Int)->List (List Int)
 | []=>[]
 |p::r=>eO p (zT r)
noncomputable def iy(l:List Int):D:=.tup (l.map D.int)
noncomputable def gE:List (List Int)->Bool
 |p::q::r=>p.isEmpty||(p::q::r).all λt=>!t.isEmpty
 |_=>false
noncomputable def eB(xs:List D):R D:=bX (tups? xs) λts=>if gE ts then .ok (.lst ((zT ts).map iy))else .no
noncomputable def zW(mx:Bool)(i:Int):List Int->Int
 | []=>i
 |j::r=>zW mx (if mx then (if i<j then j else i)else (if j<i then j else i)) r
noncomputable def jv(mx:Bool):List Int->R D
 | []=>.no
 |i::r=>.ok (.int (zW mx i r))
noncomputable def lens?:List D->Option (List Int)
 | []=>some []
 |x::r=>(seq? x).bind λxs=>(lens? r).map ((xs.length:Int) :: ·)
noncomputable def pickK(n:Int):List D->List Int->R D
 |d::ds,m::ms=>if m=n then .ok d else pickK n ds ms
 |_,_=>.no
noncomputable def fK(mx:Bool)(x:D):R D:=dE x λxs=>bX (lens? xs) λns=>match ns with
 | []=>.no
 |i::r=>pickK (zW mx i r) xs ns
noncomputable def kP(x:D)(f:List (Int×Int)->R D):R D:=match x with
 | .dic kvs=>f kvs
 |_=>.no
noncomputable def sN(kvs:List (Int×Int))(y:D):R D:=match y with
 | .int i=>.ok (match atK kvs i with|some v=>.int v|none=>.non)
 |_=>.no
noncomputable def pQ(kvs:List (Int×Int))(y z:D):R D:=match y with
 | .int i=>.ok (match atK kvs i with|some v=>.int v|none=>z)
 |_=>.no
noncomputable def pB(x:D):R D:=match x with
 | .lst xs=>.ok (.lst xs)
 | .dic kvs=>.ok (.lst (kvs.map λp=>.int p.1))
 |_=>.no
noncomputable def b11(b:B1)(d:D):R D:=match b with
 | .len=>bX (seq? d) λxs=>.ok (.int xs.length)
 | .tuple=>bX (seq? d) λxs=>.ok (.tup xs)
 | .list=>bX (seq? d) λxs=>.ok (.lst xs)
 | .all=>dE d λxs=>bX (bools? xs) λbs=>.ok (.bl (bs.all id))
 | .any=>dE d λxs=>bX (bools? xs) λbs=>.ok (.bl (bs.any id))
 | .sorted=>match d with
  | .tup xs=>if xs.length<64 then bX (ints? xs) λns=>.ok (.lst ((sortI ns).map D.int))else .no
  | .dic kvs=>if kvs.length<64 then .ok (.lst ((sortI (kvs.map (·.1))).map D.int))else .no
  |d=>dE d λxs=>if xs.length<64 then (match ints? xs with
   |some ns=>.ok (.lst ((sortI ns).map D.int))
   |none=>match pairs? xs with
    |some ps=>.ok (.lst ((zj ps).map pairD))
    |none=>eB xs)else eB xs
 | .abs=>.no
 | .int=>.no
 | .bool=>.no
 | .min=>dE d λxs=>bX (ints? xs) λns=>jv false ns
 | .max=>dE d λxs=>bX (ints? xs) λns=>jv true ns
 | .sum=>.no
noncomputable def b12(b:B1)(d e:D):R D:=match b with
 | .min=>iiR d e λi j=>.ok (.int (if j<i then j else i))
 | .max=>iiR d e λi j=>.ok (.int (if j>i then j else i))
 |_=>.no
noncomputable def uq{α:Type} [DecidableEq α]:List α->List α
 | []=>[]
 |a::l=>if a∈l then uq l else a::uq l
noncomputable def gC(ln:Bool)(d:D):R D:=bX (seq? d) λxs=>if xs.length<64 then (match ints? xs with
 |some ns=>if ln then .ok (.int ((uq ns).length:Nat))else .no
 |none=>.no)else .no
noncomputable def b1(b:B1):List D->R D
 | [d]=>b11 b d
 | [d,e]=>b12 b d e
 |_=>.no
noncomputable def tyD:D->Option String
 | .non=>some "NoneType"
 | .bl _=>some "bool"
 | .int _=>some "int"
 | .str _=>some "str"
 | .tup _=>some "tuple"
 | .lst _=>some "list"
 | .dic _=>some "dict"
 |_=>none
noncomputable def dR(lo:Int)(n:Nat):List D:=(bE n).map λ(i:Nat)=>.int (lo+(i:Int))
noncomputable def dj:Nat->List D->List D
 |_,[]=>[]
 |k,x::r=>.tup [.int k,x]::dj (k+1) r
noncomputable def dM:List D->List D->List D
 |x::xs,y::ys=>.tup [x,y]::dM xs ys
 |_,_=>[]
noncomputable def zo(j:Int):Bool:=decide (-1000000<=j)&&decide (j<=1000000)
abbrev Env:=List (Option D)
structure W where
 call:Str->List D->R D
 glb:Str->Option D
 sub:Str->Cl->Option Bool
 cat:Str->Str->Bool
noncomputable def eu(w:W)(x:D)(c:Cl):R D:=match tyD x,c with
 |some t,.ty n=>if n = "ValueError" then .no else .ok (.bl (hX t n))
 |_,_=>.no
noncomputable def zD(τ:Env)(i:Nat):R D:=match τ[i]? with
 |some (some d)=>.ok d
 |_=>.no
noncomputable def setAll:List Nat->List D->Env->R Env
 | [],[],τ=>.ok τ
 |i::is,d::ds,τ=>setAll is ds (τ.set i (some d))
 |_,_,_=>.no
noncomputable def store:Tg->D->Env->R Env
 | .nm i,d,τ=>.ok (τ.set i (some d))
 | .tp is,.tup ds,τ=>if ds.length=is.length then setAll is ds τ else .no
 |_,_,_=>.no
noncomputable def ez(cap:List (Option Nat))(τ:Env):Env:=cap.map λo=>o.bind λj=>(τ[j]?).join
noncomputable def noEx{α:Type}:R α->R α
 | .ok a=>.ok a
 |_=>.no
noncomputable def zG(body:D->Env->R (Env×List D)):List D->Env->List D->R (List D)
 | [],_,acc=>.ok acc
 |x::r,τ,acc=>(body x τ).bind λp=>zG body r p.1 (acc++p.2)
mutual
noncomputable def evE(w:W):E->Env->R D
 | .var i,τ=>zD τ i
 | .own i,τ=>zD τ i
 | .con d,_=>.ok d
 | .glb x,_=>match w.glb x with|some d=>.ok d|none=>.no
 | .fnv x,_=>.no
 | .op o a b,τ=>(evE w a τ).bind λx=>(evE w b τ).bind λy=>op2 o x y
 | .neg a,τ=>(evE w a τ).bind λx=>match x with | .int i=>.ok (.int (-i))|_=>.no
 | .inv a,_=>.no
 | .not a,τ=>(evE w a τ).bind λx=>match x with | .bl b=>.ok (.bl (!b))|_=>.no
 | .and a b,τ=>(evE w a τ).bind λx=>match x with | .bl true=>evE w b τ | .bl false=>.ok (.bl false)|_=>.no
 | .or a b,τ=>(evE w a τ).bind λx=>match x with | .bl true=>.ok (.bl true) | .bl false=>evE w b τ|_=>.no
 | .cmp c a b,τ=>(evE w a τ).bind λx=>(evE w b τ).bind λy=>(qg c x y).bind λr=>.ok (.bl r)
 | .cmp2 c c' a b d,τ=>(evE w a τ).bind λx=>(evE w b τ).bind λy=>(qg c x y).bind λr=>if r then (evE w d τ).bind λz=>(qg c' y z).bind λr'=>.ok (.bl r')else .ok (.bl false)
 | .cmp3 c c' c'' a b d e,τ=>(evE w a τ).bind λx=>(evE w b τ).bind λy=>(qg c x y).bind λr=>if r then (evE w d τ).bind λz=>(qg c' y z).bind λr'=>if r' then (evE w e τ).bind λu=>(qg c'' z u).bind λr''=>.ok (.bl r'')else .ok (.bl false)else .ok (.bl false)
 | .ite t a b,τ=>(evT w t τ).bind λr=>if r then evE w a τ else evE w b τ
 | .tup es,τ=>(zM w es τ).bind λds=>.ok (.tup ds)
 | .lst es,τ=>(zM w es τ).bind λds=>.ok (.lst ds)
 | .ix a b,τ=>(evE w a τ).bind λx=>(evE w b τ).bind λy=>ixD x y
 | .sl a lo hi,τ=>(evE w a τ).bind λx=>(evO w lo τ).bind λl=>(evO w hi τ).bind λh=>slD x l h
 | .call f es,τ=>(zM w es τ).bind λds=>w.call f ds
 | .callE f es,_=>.no
 | .bi b es,τ=>(zM w es τ).bind λds=>b1 b ds
 | .rtup a,_=>.no
 | .rlst a,_=>.no
 | .isi a c,τ=>(evE w a τ).bind λx=>eu w x c
 | .comp it cap tg t elt,τ=>(evI w it τ).bind λds=>if SZ<ds.length then .no else (zG (λx σ=>noEx ((store tg x σ).bind λσ'=>(evT w t σ').bind λr=>if r then (evE w elt σ').bind λd=>.ok (σ',[d])else .ok (σ',[]))) ds (ez cap τ) []).bind λout=>.ok (.lst out)
 | .mth ix a,_=>.no
 | .cnt a b,_=>.no
 | .mxk mx a,τ=>(evE w a τ).bind λx=>fK mx x
 | .dic,_=>.ok (.dic [])
 | .callo f es,_=>.no
 | .comp2 it cap tg it2 tg2 t elt,_=>.no
 | .fst2 t0 a t1 b t2,_=>.no
 | .sset ln a,τ=>(evE w a τ).bind (gC ln)
 | .rev a,_=>.no
 | .dic1 a b,τ=>(evE w a τ).bind λx=>(evE w b τ).bind λy=>iiR x y λi j=>.ok (.dic [(i,j)])
 | .dget a b,τ=>(evE w a τ).bind λx=>kP x λkvs=>(evE w b τ).bind λy=>sN kvs y
 | .dget2 a b d,τ=>(evE w a τ).bind λx=>kP x λkvs=>(evE w b τ).bind λy=>(evE w d τ).bind λz=>pQ kvs y z
 | .lsd a,τ=>(evE w a τ).bind pB
noncomputable def evO(w:W):OE->Env->R (Option Int)
 | .none,_=>.ok none
 | .some e,τ=>(evE w e τ).bind λx=>match x with | .int i=>.ok (some i)|_=>.no
noncomputable def zM(w:W):Es->Env->R (List D)
 | .nil,_=>.ok []
 | .cons e es,τ=>(evE w e τ).bind λd=>(zM w es τ).bind λds=>.ok (d::ds)
noncomputable def evI(w:W):It->Env->R (List D)
 | .seq e,τ=>(evE w e τ).bind λx=>match seq? x with|some xs=>.ok xs|none=>.no
 | .rng a,τ=>(evE w a τ).bind λx=>match x with | .int j=>if zo j then .ok (dR 0 j.toNat)else .no|_=>.no
 | .rng2 a b,τ=>(evE w a τ).bind λx=>(evE w b τ).bind λy=>match x,y with | .int i,.int j=>if zo i&&zo j then .ok (dR i (j-i).toNat)else .no|_,_=>.no
 | .enum e,τ=>(evE w e τ).bind λx=>match x with | .lst xs=>.ok (dj 0 xs) | .tup xs=>.ok (dj 0 xs)|_=>.no
 | .zip a b,τ=>(evE w a τ).bind λx=>(evE w b τ).bind λy=>match x,y with
  | .tup xs,.tup ys=>if xs.length=ys.length then .ok (dM xs ys)else .no
  | .lst xs,.lst ys=>if xs.length=ys.length then .ok (dM xs ys)else .no
  |_,_=>.no
 | .rng3 a b k,_=>.no
 | .rrev a,_=>.no
noncomputable def evT(w:W):T->Env->R Bool
 | .yes,_=>.ok true
 | .val e,τ=>(evE w e τ).bind λx=>truth x
 | .cmp c a b,τ=>(evE w a τ).bind λx=>(evE w b τ).bind λy=>qg c x y
 | .cmp2 c c' a b d,τ=>(evE w a τ).bind λx=>(evE w b τ).bind λy=>(qg c x y).bind λr=>if r then (evE w d τ).bind λz=>qg c' y z else .ok false
 | .and a b,τ=>(evT w a τ).bind λr=>if r then evT w b τ else .ok false
 | .or a b,τ=>(evT w a τ).bind λr=>if r then .ok true else evT w b τ
 | .not a,τ=>(evT w a τ).bind λr=>.ok (!r)
end
theorem qO:∀{w i τ},@Eq (R D) (evE w (.var i) τ) (zD τ i):=rfl
theorem zw:∀{w i τ},@Eq (R D) (evE w (.own i) τ) (zD τ i):=rfl
theorem zv:∀{w d τ},@Eq (R D) (evE w (.con d) τ) (.ok d):=rfl
theorem zu:∀{w x τ},@Eq (R D) (evE w (.glb x) τ) (match w.glb x with|some d=>.ok d|none=>.no):=rfl
theorem zx:∀{w x τ},@Eq (R D) (evE w (.fnv x) τ) (.no):=rfl
theorem zm:∀{w o a b τ},@Eq (R D) (evE w (.op o a b) τ) ((evE w a τ).bind λx=>(evE w b τ).bind λy=>op2 o x y):=rfl
theorem zk:∀{w a τ},@Eq (R D) (evE w (.neg a) τ) ((evE w a τ).bind λx=>match x with | .int i=>.ok (.int (-i))|_=>.no):=rfl
theorem zA:∀{w a τ},@Eq (R D) (evE w (.inv a) τ) (.no):=rfl
theorem zy:∀{w a τ},@Eq (R D) (evE w (.not a) τ) ((evE w a τ).bind λx=>match x with | .bl b=>.ok (.bl (!b))|_=>.no):=rfl
theorem qI:∀{w a b τ},@Eq (R D) (evE w (.and a b) τ) ((evE w a τ).bind λx=>match x with | .bl true=>evE w b τ | .bl false=>.ok (.bl false)|_=>.no):=rfl
theorem qM:∀{w a b τ},@Eq (R D) (evE w (.or a b) τ) ((evE w a τ).bind λx=>match x with | .bl true=>.ok (.bl true) | .bl false=>evE w b τ|_=>.no):=rfl
theorem qL:∀{w c a b τ},@Eq (R D) (evE w (.cmp c a b) τ) ((evE w a τ).bind λx=>(evE w b τ).bind λy=>(qg c x y).bind λr=>.ok (.bl r)):=rfl
theorem qE:∀{w c c' a b d τ},@Eq (R D) (evE w (.cmp2 c c' a b d) τ) ((evE w a τ).bind λx=>(evE w b τ).bind λy=>(qg c x y).bind λr=>if r then (evE w d τ).bind λz=>(qg c' y z).bind λr'=>.ok (.bl r')else .ok (.bl false)):=rfl
theorem qH:∀{w c c' c'' a b d e τ},@Eq (R D) (evE w (.cmp3 c c' c'' a b d e) τ) ((evE w a τ).bind λx=>(evE w b τ).bind λy=>(qg c x y).bind λr=>if r then (evE w d τ).bind λz=>(qg c' y z).bind λr'=>if r' then (evE w e τ).bind λu=>(qg c'' z u).bind λr''=>.ok (.bl r'')else .ok (.bl false)else .ok (.bl false)):=rfl
theorem qy:∀{w t a b τ},@Eq (R D) (evE w (.ite t a b) τ) ((evT w t τ).bind λr=>if r then evE w a τ else evE w b τ):=rfl
theorem qK:∀{w es τ},@Eq (R D) (evE w (.tup es) τ) ((zM w es τ).bind λds=>.ok (.tup ds)):=rfl
theorem qJ:∀{w es τ},@Eq (R D) (evE w (.lst es) τ) ((zM w es τ).bind λds=>.ok (.lst ds)):=rfl
theorem qG:∀{w a b τ},@Eq (R D) (evE w (.ix a b) τ) ((evE w a τ).bind λx=>(evE w b τ).bind λy=>ixD x y):=rfl
theorem qC:∀{w a lo hi τ},@Eq (R D) (evE w (.sl a lo hi) τ) ((evE w a τ).bind λx=>(evO w lo τ).bind λl=>(evO w hi τ).bind λh=>slD x l h):=rfl
theorem qx:∀{w f es τ},@Eq (R D) (evE w (.call f es) τ) ((zM w es τ).bind λds=>w.call f ds):=rfl
theorem qT:∀{w f es τ},@Eq (R D) (evE w (.callE f es) τ) (.no):=rfl
theorem qr:∀{w b es τ},@Eq (R D) (evE w (.bi b es) τ) ((zM w es τ).bind λds=>b1 b ds):=rfl
theorem qF:∀{w a τ},@Eq (R D) (evE w (.rtup a) τ) (.no):=rfl
theorem qW:∀{w a τ},@Eq (R D) (evE w (.rlst a) τ) (.no):=rfl
theorem qD:∀{w a c τ},@Eq (R D) (evE w (.isi a c) τ) ((evE w a τ).bind λx=>eu w x c):=rfl
theorem qt:∀{w it cap tg t elt τ},@Eq (R D) (evE w (.comp it cap tg t elt) τ) ((evI w it τ).bind λds=>if SZ<ds.length then .no else (zG (λx σ=>noEx ((store tg x σ).bind λσ'=>(evT w t σ').bind λr=>if r then (evE w elt σ').bind λd=>.ok (σ',[d])else .ok (σ',[]))) ds (ez cap τ) []).bind λout=>.ok (.lst out)):=rfl
theorem ze:∀{w ix a τ},@Eq (R D) (evE w (.mth ix a) τ) (.no):=rfl
theorem qY:∀{w a b τ},@Eq (R D) (evE w (.cnt a b) τ) (.no):=rfl
theorem qN:∀{w mx a τ},@Eq (R D) (evE w (.mxk mx a) τ) ((evE w a τ).bind λx=>fK mx x):=rfl
theorem qU:∀{w τ},@Eq (R D) (evE w (.dic) τ) (.ok (.dic [])):=rfl
theorem qS:∀{w f es τ},@Eq (R D) (evE w (.callo f es) τ) (.no):=rfl
theorem qZ:∀{w it cap tg it2 tg2 t elt τ},@Eq (R D) (evE w (.comp2 it cap tg it2 tg2 t elt) τ) (.no):=rfl
theorem qR:∀{w t0 a t1 b t2 τ},@Eq (R D) (evE w (.fst2 t0 a t1 b t2) τ) (.no):=rfl
theorem qB:∀{w ln a τ},@Eq (R D) (evE w (.sset ln a) τ) ((evE w a τ).bind (gC ln)):=rfl
theorem qX:∀{w a τ},@Eq (R D) (evE w (.rev a) τ) (.no):=rfl
theorem qQ:∀{w a b τ},@Eq (R D) (evE w (.dic1 a b) τ) ((evE w a τ).bind λx=>(evE w b τ).bind λy=>iiR x y λi j=>.ok (.dic [(i,j)])):=rfl
theorem qP:∀{w a b τ},@Eq (R D) (evE w (.dget a b) τ) ((evE w a τ).bind λx=>kP x λkvs=>(evE w b τ).bind λy=>sN kvs y):=rfl
theorem qV:∀{w a b d τ},@Eq (R D) (evE w (.dget2 a b d) τ) ((evE w a τ).bind λx=>kP x λkvs=>(evE w b τ).bind λy=>(evE w d τ).bind λz=>pQ kvs y z):=rfl
theorem zc:∀{w a τ},@Eq (R D) (evE w (.lsd a) τ) ((evE w a τ).bind pB):=rfl
theorem fW:∀{w τ},@Eq (R Bool) (evT w (.yes) τ) (.ok true):=rfl
theorem fI:∀{w e τ},@Eq (R Bool) (evT w (.val e) τ) ((evE w e τ).bind λx=>truth x):=rfl
theorem fS:∀{w c a b τ},@Eq (R Bool) (evT w (.cmp c a b) τ) ((evE w a τ).bind λx=>(evE w b τ).bind λy=>qg c x y):=rfl
theorem fZ:∀{w c c' a b d τ},@Eq (R Bool) (evT w (.cmp2 c c' a b d) τ) ((evE w a τ).bind λx=>(evE w b τ).bind λy=>(qg c x y).bind λr=>if r then (evE w d τ).bind λz=>qg c' y z else .ok false):=rfl
theorem gp:∀{w a b τ},@Eq (R Bool) (evT w (.and a b) τ) ((evT w a τ).bind λr=>if r then evT w b τ else .ok false):=rfl
theorem gk:∀{w a b τ},@Eq (R Bool) (evT w (.or a b) τ) ((evT w a τ).bind λr=>if r then .ok true else evT w b τ):=rfl
theorem gx:∀{w a τ},@Eq (R Bool) (evT w (.not a) τ) ((evT w a τ).bind λr=>.ok (!r)):=rfl
mutual
inductive S where
 |set (tg:Tg) (e:E)
 |app (i:Nat) (e:E)
 |seti (i:Nat) (k e:E)
 |exp (e:E)
 |ret (e:E)|retN
 |ite (t:T) (a b:Ss)
 |for (tg:Tg) (it:It) (b:Ss)
 |while (t:T) (b:Ss)
 |raise (c:Str) (es:Es)
 |try (b:Ss) (c:Str) (i:Option Nat) (h:Ss)
 |ins (i:Nat) (k e:E)
 |pass|brk|cnt|unk
 |par (i j:Nat) (a b:E)
 |par3 (i j k:Nat) (a b c:E)
 |dupd (i:Nat) (e:E)
 |pop0 (j i:Nat)
 |ext (i:Nat) (e:E)
inductive Ss where
 |nil|cons (s:S) (r:Ss)
end
inductive O where
 |nx (τ:Env)|rt (d:D)|bk (τ:Env)|ct (τ:Env)|ex (c:Str)|no
noncomputable def R.out{α:Type}:R α->(α->O)->O
 | .ok a,f=>f a
 | .ex c,_=>.ex c
 | .no,_=>.no
@[simp] theorem R.out_ok{α:Type}(a:α)(f:α->O):(R.ok a).out f=f a:=rfl
@[simp] theorem R.out_ex{α:Type}(c:Str)(f:α->O):(R.ex c:R α).out f=.ex c:=rfl
@[simp] theorem R.out_no{α:Type}(f:α->O):(R.no:R α).out f=.no:=rfl
noncomputable def dZ(tg:Tg)(body:Env->O):List D->Env->O
 | [],τ=>.nx τ
 |x::r,τ=>(store tg x τ).out λτ'=>match body τ' with
  | .nx σ=>dZ tg body r σ
  | .ct σ=>dZ tg body r σ
  | .bk σ=>.nx σ
  |o=>o
noncomputable def eQ(test:Env->R Bool)(body:Env->O):Nat->Env->O
 | 0,_=>.no
 |n+1,τ=>(test τ).out λb=>if b then (match body τ with
  | .nx σ=>eQ test body n σ
  | .ct σ=>eQ test body n σ
  | .bk σ=>.nx σ
  |o=>o)else .nx τ
noncomputable def f_:Nat:=100000
noncomputable def O.noEx:O->O
 | .ex _=>.no
 |o=>o
noncomputable def i6(x n d:D)(i:Nat)(τ:Env):O:=match x with
 | .lst xs=>(match n with
  | .int j=>if 0<=j/\j<=xs.length/\xs.length<SZ then .nx (τ.set i (some (.lst (xs.take j.toNat++d::xs.drop j.toNat))))else .no
  |_=>.no)
 |_=>.no
mutual
noncomputable def evS(w:W):S->Env->O
 | .set tg e,τ=>(evE w e τ).out λd=>(store tg d τ).out .nx
 | .app i e,τ=>(zD τ i).out λx=>match x with
  | .lst xs=>(evE w e τ).out λd=>if xs.length<SZ then .nx (τ.set i (some (.lst (xs++[d]))))else .no
  |_=>.no
 | .seti i k e,τ=>(evE w e τ).out λd=>(zD τ i).out λx=>(evE w k τ).out λn=>match x,n with
  | .lst xs,.int j=>match ixN xs.length j with
   |some m=>.nx (τ.set i (some (.lst (xs.set m d))))
   |none=>.no
  | .dic kvs,.int j=>(match d with
   | .int v=>if kvs.length<SZ then .nx (τ.set i (some (.dic (cD kvs j v))))else .no
   |_=>.no)
  |_,_=>.no
 | .exp e,τ=>(evE w e τ).out λ_=>.nx τ
 | .ret e,τ=>(evE w e τ).out .rt
 | .retN,_=>.rt .non
 | .ite t a b,τ=>(evT w t τ).out λr=>if r then qc w a τ else qc w b τ
 | .for tg it b,τ=>((evI w it τ).out λds=>dZ tg (λσ=>qc w b σ) ds τ).noEx
 | .while t b,τ=>(eQ (λσ=>evT w t σ) (λσ=>qc w b σ) f_ τ).noEx
 | .raise c es,_=>.no
 | .try b c i h,_=>.no
 | .ins i k e,τ=>(zD τ i).out λx=>match x with
  | .lst xs=>(evE w k τ).out λn=>(evE w e τ).out λd=>i6 (.lst xs) n d i τ
  |_=>.no
 | .unk,_=>.no
 | .pass,τ=>.nx τ
 | .brk,τ=>.bk τ
 | .cnt,τ=>.ct τ
 | .par i j a b,_=>.no
 | .par3 i j k a b c,_=>.no
 | .dupd i e,τ=>(zD τ i).out λx=>match x with
  | .dic kvs=>(evE w e τ).out λd=>(match d with
   | .dic ms=>if kvs.length+ms.length<SZ then .nx (τ.set i (some (.dic (dA kvs ms))))else .no
   |_=>.no)
  |_=>.no
 | .pop0 j i,τ=>(zD τ i).out λx=>match x with
  | .lst xs=>(match xs with
   |y::r=>.nx ((τ.set i (some (.lst r))).set j (some y))
   | []=>.no)
  |_=>.no
 | .ext i e,τ=>(zD τ i).out λx=>match x with
  | .lst xs=>(evE w e τ).out λd=>(match d with
   | .tup ys=>if xs.length+ys.length<SZ then .nx (τ.set i (some (.lst (xs++ys))))else .no
   |_=>.no)
  |_=>.no
noncomputable def qc(w:W):Ss->Env->O
 | .nil,τ=>.nx τ
 | .cons s r,τ=>match evS w s τ with
  | .nx σ=>qc w r σ
  |o=>o
end
theorem zR:∀{w tg e τ},@Eq (O) (evS w (.set tg e) τ) ((evE w e τ).out λd=>(store tg d τ).out .nx):=rfl
theorem cA:∀{w i e τ},@Eq (O) (evS w (.app i e) τ) ((zD τ i).out λx=>match x with
  | .lst xs=>(evE w e τ).out λd=>if xs.length<SZ then .nx (τ.set i (some (.lst (xs++[d]))))else .no
  |_=>.no):=rfl
theorem cK:∀{w i k e τ},@Eq (O) (evS w (.seti i k e) τ) ((evE w e τ).out λd=>(zD τ i).out λx=>(evE w k τ).out λn=>match x,n with
  | .lst xs,.int j=>match ixN xs.length j with
   |some m=>.nx (τ.set i (some (.lst (xs.set m d))))
   |none=>.no
  | .dic kvs,.int j=>(match d with
   | .int v=>if kvs.length<SZ then .nx (τ.set i (some (.dic (cD kvs j v))))else .no
   |_=>.no)
  |_,_=>.no):=rfl
theorem cJ:∀{w e τ},@Eq (O) (evS w (.exp e) τ) ((evE w e τ).out λ_=>.nx τ):=rfl
theorem zL:∀{w e τ},@Eq (O) (evS w (.ret e) τ) ((evE w e τ).out .rt):=rfl
theorem cF:∀{w τ},@Eq (O) (evS w (.retN) τ) (.rt .non):=rfl
theorem zV:∀{w t a b τ},@Eq (O) (evS w (.ite t a b) τ) ((evT w t τ).out λr=>if r then qc w a τ else qc w b τ):=rfl
theorem cB:∀{w tg it b τ},@Eq (O) (evS w (.for tg it b) τ) (((evI w it τ).out λds=>dZ tg (λσ=>qc w b σ) ds τ).noEx):=rfl
theorem cH:∀{w t b τ},@Eq (O) (evS w (.while t b) τ) ((eQ (λσ=>evT w t σ) (λσ=>qc w b σ) f_ τ).noEx):=rfl
theorem cG:∀{w c es τ},@Eq (O) (evS w (.raise c es) τ) (.no):=rfl
theorem c_:∀{w b c i h τ},@Eq (O) (evS w (.try b c i h) τ) (.no):=rfl
theorem zY:∀{w i k e τ},@Eq (O) (evS w (.ins i k e) τ) ((zD τ i).out λx=>match x with
  | .lst xs=>(evE w k τ).out λn=>(evE w e τ).out λd=>i6 (.lst xs) n d i τ
  |_=>.no):=rfl
theorem dk:∀{w τ},@Eq (O) (evS w (.unk) τ) (.no):=rfl
theorem cY:∀{w τ},@Eq (O) (evS w (.pass) τ) (.nx τ):=rfl
theorem dq:∀{w τ},@Eq (O) (evS w (.brk) τ) (.bk τ):=rfl
theorem dh:∀{w τ},@Eq (O) (evS w (.cnt) τ) (.ct τ):=rfl
theorem dg:∀{w i j a b τ},@Eq (O) (evS w (.par i j a b) τ) (.no):=rfl
theorem cZ:∀{w i j k a b c τ},@Eq (O) (evS w (.par3 i j k a b c) τ) (.no):=rfl
theorem cX:∀{w i e τ},@Eq (O) (evS w (.dupd i e) τ) ((zD τ i).out λx=>match x with
  | .dic kvs=>(evE w e τ).out λd=>(match d with
   | .dic ms=>if kvs.length+ms.length<SZ then .nx (τ.set i (some (.dic (dA kvs ms))))else .no
   |_=>.no)
  |_=>.no):=rfl
theorem de:∀{w j i τ},@Eq (O) (evS w (.pop0 j i) τ) ((zD τ i).out λx=>match x with
  | .lst xs=>(match xs with
   |y::r=>.nx ((τ.set i (some (.lst r))).set j (some y))
   | []=>.no)
  |_=>.no):=rfl
theorem zZ:∀{w i e τ},@Eq (O) (evS w (.ext i e) τ) ((zD τ i).out λx=>match x with
  | .lst xs=>(evE w e τ).out λd=>(match d with
   | .tup ys=>if xs.length+ys.length<SZ then .nx (τ.set i (some (.lst (xs++ys))))else .no
   |_=>.no)
  |_=>.no):=rfl
structure Fn where
 ps:Nat
 N:Nat
 fr:Bool
 body:Ss
noncomputable def dC(w:W)(f:Fn)(ds:List D):R D:=if ds.length=f.ps then (match qc w f.body (ds.map some++cb (f.N-f.ps) none)with
  | .nx _=>if f.fr then .no else .ok .non
  | .rt d=>.ok d
  | .ex c=>.ex c
  |_=>.no)else .no
structure Pr where
 fns:Str->Option Fn
 glb:Str->Option D
 sub:Str->Cl->Option Bool
 cat:Str->Str->Bool
noncomputable def qa(p:Pr):Nat->Str->List D->R D
 | 0,_,_=>.no
 |k+1,x,ds=>match p.fns x with
  |some f=>dC ⟨qa p k,p.glb,p.sub,p.cat⟩ f ds
  |none=>.no
inductive GK where
  |fn (fresh:Bool)|val|bi (b:B1)|rng|enum|zip|isi|ty (n:String) (b:Option B1)|exc|exk|set|rvd
  deriving DecidableEq
structure Cc where
  nm:List (Str×a7)
  N:List Str
  own:List Str
  G:List (Str×GK)
  calm:Bool
  fnc:Bool
  thr:Bool
  GH:List (Str×GK)
  oc:List Str
  frz:Bool
noncomputable def loc(c:Cc)(x:Str):Option Nat:=
  if x == "__debug__" ||x == "__classdict__" then none else
  match c.nm.lookup x with
  |some .local|some .cell|some .free=>let i:=c.N.findIdx (· == x);if c.N[i]? = some x then some i else none
  |_=>none
noncomputable def dP(c:Cc)(x:Str):Option Nat:=
  match c.nm.lookup x with
  |some .local=>loc c x
  |some .cell=>if c.fnc||c.oc.contains x then loc c x else none
  |_=>none
noncomputable def glob(c:Cc)(x:Str):Option GK:=
  if x == "__debug__" ||x == "__name__" then none else
  match c.nm.lookup x with
  |some .globalImplicit=>c.G.lookup x
  |_=>none
noncomputable def esc:E->Bool
  | .own _=>false
  |_=>true
noncomputable def fz:Es->Bool
  | .nil=>true
  | .cons e es=>esc e&&fz es
noncomputable def isL:E->Bool
  | .lst _=>true
  | .rlst _=>true
  | .comp .. => true
  |_=>false
noncomputable def Ah:O2->Bool
  | .add=>true
  | .mul=>true
  |_=>false
noncomputable def fresh(c:Cc):E->Bool
  | .op o a b=>Ah o&&isL a||o==.add&&isL b
  | .lst _=>true
  | .rlst _=>true
  | .comp .. => true
  | .comp2 .. => true
  | .dic=>true
  | .dic1 .. => true
  | .lsd _=>true
  | .bi .list _=>true
  | .bi .sorted _=>true
  | .call f _=>c.G.lookup f==some (.fn true)
  |_=>false
noncomputable def o2:Operator->Option O2
  | .Add=>some .add
  | .Sub=>some .sub
  | .Mult=>some .mul
  | .FloorDiv=>some .fdiv
  | .Mod=>some .mod
  | .RShift=>some .shr
  |_=>none
noncomputable def c2:CmpOp->C2
  | .Eq=>.eq
  | .NotEq=>.ne
  | .Lt=>.lt
  | .LtE=>.le
  | .Gt=>.gt
  | .GtE=>.ge
  | .Is=>.is
  | .IsNot=>.isnot
  | .In=>.isin
  | .NotIn=>.notin
noncomputable def fN:Expr->Bool
  | .ListComp .. => true
  | .SetComp .. => true
  | .DictComp .. => true
  |_=>false
noncomputable def zI:Expr->Bool
  | .Set .. => false
  |_=>true
noncomputable def k7(names nm:List (Str×a7)):List (Str×a7):=names.map λ(n,k)=>if k==cf&&(nm.lookup n==some .cell)then (n,a7.cell)else (n,k)
noncomputable def cq(names:List (Str×a7)):List Str:=(names.filter λp=>p.2==.local||p.2==.free||p.2==.cell).map (·.1)
noncomputable def hZ(c:Cc)(names:List (Str×a7)):List (Option Nat):=(cq names).map λx=>if names.lookup x==some .free then loc c x else none
noncomputable def g6:List Expr->Option (List Str)
  | []=>some []
  | .Name x _::r=>(g6 r).map (x :: ·)
  |_=>none
noncomputable def cTg(c:Cc):Expr->Option Tg
  | .Name x _=>if c.own.contains x then none else (dP c x).map .nm
  | .Tuple es _ _=>if c.calm then do
      let xs <-g6 es
      if xs.any c.own.contains then none else
      let is <-xs.mapM (dP c)
      if is.Nodup then some (.tp is)else none
    else none
  |_=>none
noncomputable def isStar:Expr->Bool
  | .Starred .. => true
  |_=>false
noncomputable def isSlice:Expr->Bool
  | .Slice .. => true
  |_=>false
noncomputable def isTup:Expr->Bool
  | .Tuple .. => true
  |_=>false
noncomputable def gS(it:It)(tg:Expr):Bool:=match it with
  | .enum _=>isTup tg
  | .zip .. => isTup tg
  |_=>true
noncomputable def kx(c:Cc):Expr->Option Cl
  | .Name x _=>match glob c x with
    |some (.ty n _)=>some (.ty n)
    |some .exc=>some (.ex x)
    |some .exk=>some (.ex x)
    |_=>none
  |_=>none
noncomputable def vr(c:Cc)(x:Str)(i:Nat):E:=if c.own.contains x then .own i else .var i
noncomputable def baseOk:Expr->Bool
  | .Call (.Name _ _) (_::_) _ _=>true
  | .Name .. => true
  |_=>false
noncomputable def owned:It->Bool
  | .seq (.own _)=>true
  | .enum (.own _)=>true
  | .zip (.own _) _=>true
  | .zip _ (.own _)=>true
  |_=>false
noncomputable def nt:Expr->Option Str
  | .Constant k _ _=>match k with
    | .str t=>some t
    |_=>none
  |_=>none
noncomputable def sP:Expr->Option Expr
  | .FormattedValue a k f _=>match f with
    |none=>if k = -1 then some a else none
    |_=>none
  |_=>none
noncomputable def HD:List Expr->Option (Str×Expr×Str×Expr×Str)
  | [x0,x1,x2,x3,x4]=>do
    let t0 <-nt x0
    let a <-sP x1
    let t1 <-nt x2
    let b <-sP x3
    let t2 <-nt x4
    if (Str.empty++t0).length<=1000 then some (t0,a,t1,b,t2)else none
  |_=>none
noncomputable def HC:Expr->Bool
  | .UnaryOp .USub (.Constant (.int i) _ _) _=>decide (i=1)
  |_=>false
noncomputable def nR(c:Cc)(b:B1):List Expr->Option Expr
  | [.Call (.Name g _) [a] [] _]=>if (b==.len)&&loc c g==none&&glob c g==some .set && !isStar a&&c.calm then some a else none
  |_=>none
noncomputable def HF(c:Cc)(t:String):List Expr->Option Expr
  | [a]=>match a with
    | .Name x _=>if t == "list" && c.calm&&c.own.contains x then some a else none
    |_=>none
  |_=>none
noncomputable def lN:Expr->Bool
  | .ListComp _ gs _ _=>gs.length==2
  |_=>false
mutual
noncomputable def cE:Nat->Cc->Expr->Option E
  | 0,_,_=>none
  |n+1,c,e=>match e with
    | .Name x _=>match loc c x with
      |some i=>if c.own.contains x then some (.own i)else some (.var i)
      |none=>match glob c x with
        |some .val=>some (.glb x)
        |some (.fn _)=>some (.fnv x)
        |_=>none
    | .Constant k _ _=>match k with
      | .int i=>some (.con (.int i))
      | .bool i=>some (.con (.bl i))
      | .none=>some (.con .non)
      | .str x=>some (.con (.str x))
      |_=>none
    | .BinOp a op b _=>do
      let o <-o2 op
      let a <-cE n c a
      let b <-cE n c b
      some (.op o a b)
    | .UnaryOp op a _=>do
      let a <-cE n c a
      match op with
      | .USub=>some (.neg a)
      | .Invert=>some (.inv a)
      | .Not=>some (.not a)
      |_=>none
    | .BoolOp op vs _=>cBo n c op vs
    | .Compare a ops bs _=>match ops,bs with
      | [o],[b]=>do
        let a <-cE n c a
        let b' <-cE n c b
        if zI b then some (.cmp (c2 o) a b')else none
      | [o,o'],[b,d]=>do
        let a <-cE n c a
        let b' <-cE n c b
        let d' <-cE n c d
        if zI b&&zI d then some (.cmp2 (c2 o) (c2 o') a b' d')else none
      | [o,o',o''],[b,d,f]=>do
        let a <-cE n c a
        let b' <-cE n c b
        let d' <-cE n c d
        let f' <-cE n c f
        if zI b&&zI d&&zI f then some (.cmp3 (c2 o) (c2 o') (c2 o'') a b' d' f')else none
      |_,_=>none
    | .Dict ks vs _=>match ks with
      | []=>if vs.isEmpty then some .dic else none
      |k::r=>match k with
        |some k=>match vs with
          |v::q=>if r.isEmpty&&q.isEmpty then (do
              let k <-cE n c k
              let v <-cE n c v
              some (.dic1 k v))else none
          | []=>none
        |none=>none
    | .IfExp t a b _=>do
      let t <-cT n c t
      let a <-cE n c a
      let b <-cE n c b
      if esc a&&esc b then some (.ite t a b)else none
    | .Tuple es _ _=>do
      let es <-cEs n c es
      if fz es then some (.tup es)else none
    | .List es _=>do
      let es <-cEs n c es
      if fz es then some (.lst es)else none
    | .Subscript a b _=>match b with
      | .Slice lo hi st _=>match st with
        |some _=>none
        |none=>do
          let a <-cE n c a
          let lo <-cO n c lo
          let hi <-cO n c hi
          some (.sl a lo hi)
      |b=>do
        if isSlice b then none else
        let a <-cE n c a
        let b <-cE n c b
        some (.ix a b)
    | .ListComp elt gs sc _=>match gs with
     | [⟨tgt,it,ifs,asy⟩]=>do
      if !(asy==0) || !c.calm || !zI it then none else
      let c':Cc:={c with nm:=k7 sc.names c.nm,N:=cq sc.names,fnc:=false,oc:=iT sc.names}
      let cap:=hZ c sc.names
      if !i_ (λx=>c.nm.lookup x) c.N (cq sc.names) cap sc || !decide (cq sc.names).Nodup then none else
      let it <-cI n c it
      let tg <-cTg c' tgt
      let t <-gf n c' ifs
      let elt <-cE n c' elt
      if esc elt&&gS it tgt then some (.comp it cap tg t elt)else none
     |_=>none
    | .Call fe as ks cp=>match ks with
     | []=>match fe with
      | .Name f _=>match loc c f with
        |some _=>none
        |none=>match glob c f with
          |some (.fn _)=>do
            let es <-cEs n c as
            if fz es && !as.isEmpty then some (.call f es)else if !as.isEmpty then some (.callo f es)else none
          |some (.bi b)=>match nR c b as with
            |some a=>(cE n c a).map (.sset (b==.len))
            |none=>do
              let es <-cEs n c as
              if !as.isEmpty&&(c.calm||b==.len||b==.abs)then some (.bi b es)else none
          |some (.ty t (some b))=>do
              let es <-cEs n c as
              if !as.isEmpty then some (.bi b es)else none
          |some .isi=>match as with
            | [a,k]=>do
              if isStar a then none else
              let a <-cE n c a
              let k <-kx c k
              some (.isi a k)
            |_=>none
          |_=>none
      |_=>none
     | [⟨kn,kv,_⟩]=>match fe with
      | .Name f _=>match kv with
        | .Name y _=>match as with
          | [a]=>do
            if isStar a || !c.calm || !(kn==some "key") || !(loc c f==none) || !(glob c y==some (.bi .len)) || !(loc c y==none)then none else
            let a' <-cE n c a
            if glob c f==some (.bi .max)then some (.mxk true a')else if glob c f==some (.bi .min)then some (.mxk false a')else none
          |_=>none
        |_=>none
      |_=>none
     |_=>none
    |_=>none
noncomputable def gf:Nat->Cc->List Expr->Option T
  | 0,_,_=>none
  |n+1,c,ifs=>match ifs with
    | []=>some .yes
    | [t]=>cT n c t
    |_=>none
noncomputable def cBo:Nat->Cc->BoolOp->List Expr->Option E
  | 0,_,_,_=>none
  |n+1,c,op,vs=>match vs with
    | []=>none
    | [a]=>do
      let a <-cE n c a
      if esc a then some a else none
    |a::b::r=>do
      let a <-cE n c a
      let r <-cBo n c op (b::r)
      match op with
      | .And=>some (.and a r)
      | .Or=>some (.or a r)
noncomputable def cO:Nat->Cc->Option Expr->Option OE
  | 0,_,_=>none
  |n+1,c,o=>match o with
    |none=>some .none
    |some e=>(cE n c e).map .some
noncomputable def cEs:Nat->Cc->List Expr->Option Es
  | 0,_,_=>none
  |n+1,c,es=>match es with
    | []=>some .nil
    |e::r=>do
      if isStar e then none else
      let e <-cE n c e
      let r <-cEs n c r
      some (.cons e r)
noncomputable def cI:Nat->Cc->Expr->Option It
  | 0,_,_=>none
  |n+1,c,e=>match e with
    | .Call (.Name f p) as [] q=>match loc c f with
      |some _=>(cE n c (.Call (.Name f p) as [] q)).map .seq
      |none=>match glob c f with
        |some .rng=>(match as with
          | [a]=>if isStar a then none else (cE n c a).map .rng
          | [a,b]=>if isStar a||isStar b then none else do
            let a <-cE n c a
            let b <-cE n c b
            some (.rng2 a b)
          |_=>none)
        |some .enum=>(match as with
          | [a]=>if isStar a then none else (cE n c a).map .enum
          |_=>none)
        |some .zip=>(match as with
          | [a,b]=>if isStar a||isStar b then none else do
            let a <-cE n c a
            let b <-cE n c b
            some (.zip a b)
          |_=>none)
        |some .rvd=>(match as with
          | [.Call (.Name g _) [a] [] _]=>if loc c g==none&&glob c g==some .rng && !isStar a then (cE n c a).map .rrev else none
          |_=>none)
        |_=>(cE n c (.Call (.Name f p) as [] q)).map .seq
    |e=>(cE n c e).map .seq
noncomputable def cT:Nat->Cc->Expr->Option T
  | 0,_,_=>none
  |n+1,c,e=>match e with
    | .UnaryOp .Not a _=>(cT n c a).map .not
    | .BoolOp op vs _=>cTs n c op vs
    | .IfExp .. => none
    | .Compare a ops bs _=>match ops,bs with
      | [o],[b]=>do
        let a <-cE n c a
        let b' <-cE n c b
        if zI b then some (.cmp (c2 o) a b')else none
      | [o,o'],[b,d]=>do
        let a <-cE n c a
        let b' <-cE n c b
        let d' <-cE n c d
        if zI b&&zI d then some (.cmp2 (c2 o) (c2 o') a b' d')else none
      | [o,o',o''],[b,d,f]=>do
        let a <-cE n c a
        let b' <-cE n c b
        let d' <-cE n c d
        let f' <-cE n c f
        if zI b&&zI d&&zI f then some (.val (.cmp3 (c2 o) (c2 o') (c2 o'') a b' d' f'))else none
      |_,_=>none
    |e=>(cE n c e).map .val
noncomputable def cTs:Nat->Cc->BoolOp->List Expr->Option T
  | 0,_,_,_=>none
  |n+1,c,op,vs=>match vs with
    | []=>none
    | [a]=>cT n c a
    |a::b::r=>do
      let a <-cT n c a
      let r <-cTs n c op (b::r)
      match op with
      | .And=>some (.and a r)
      | .Or=>some (.or a r)
end
noncomputable def kL(c:Cc):Cc:={c with calm:=false,thr:=false,G:=c.GH,GH:=[]}

noncomputable def mY:Expr->Option (Str×Str×Pos×Expr×Pos)
  | .Call f as ks cp=>match f with
    | .Attribute o m ap=>match o with
      | .Name x _=>match as with
        | [a]=>if ks.isEmpty then some (x,m,ap,a,cp)else none
        |_=>none
      |_=>none
    |_=>none
  |_=>none
noncomputable def lF:Expr->Option (Str×Pos×Expr×Expr×Pos)
  | .Call f as ks cp=>match f with
    | .Attribute o m ap=>match o with
      | .Name x _=>match as with
        | [k,a]=>if ks.isEmpty&&m == "insert" then some (x,ap,k,a,cp)else none
        |_=>none
      |_=>none
    |_=>none
  |_=>none
noncomputable def mH:Expr->Option (Str×Pos×Pos)
  | .Call f as ks cp=>match f with
    | .Attribute o m ap=>match o with
      | .Name x _=>match as with
        | [a]=>match a with
          | .Constant k _ _=>match k with
            | .int i=>if ks.isEmpty&&m == "pop" && decide (i=0)then some (x,ap,cp)else none
            |_=>none
          |_=>none
        |_=>none
      |_=>none
    |_=>none
  |_=>none
noncomputable def raiseOf:Expr->Option (Str×Expr×List Expr)
  | .Call f as ks _=>match f with
    | .Name x _=>match as with
      |a::as=>if ks.isEmpty then some (x,a,as)else none
      |_=>none
    |_=>none
  |_=>none
noncomputable def nQ:Expr->Bool
  | .Tuple es _ _=>es.all (foldedForSure 8)
  |_=>false
mutual
noncomputable def cS:Nat->Cc->Bool->Stmt->Option S
  | 0,_,_,_=>none
  |n+1,c,fr,s=>match s with
    | .Assign ts e _=>match ts with
      | [t]=>match t with
        | .Name x _=>match mH e with
         |some (y,ap,cp)=>do
          let i <-dP c x
          let j <-loc c y
          if c.own.contains y && !c.own.contains x&&ap.endLine==cp.line && !c.frz then some (.pop0 i j)else none
         |none=>do
          if lN e then none else
          let i <-dP c x
          let e' <-cE n c e
          if c.own.contains x then (if fresh c e' && !c.frz then some (.set (.nm i) e')else none)else if esc e' then some (.set (.nm i) e')else none
        | .Tuple ts k p=>do
              let tg <-cTg c (.Tuple ts k p)
              let e' <-cE n c e
              if (isTup e && !nQ e)||fN e || !esc e' then none else some (.set tg e')
        | .Subscript a k _=>match a with
          | .Name x _=>do
            let i <-dP c x
            let e' <-cE n c e
            let k' <-cE n c k
            if c.own.contains x&&esc e' && !isSlice k && !fN e && !c.frz then some (.seti i k' e')else none
          |_=>none
        |_=>none
      |_=>none
    | .Expr e _=>match lF e with
      |some (x,ap,k,a,cp)=>do
        let i <-dP c x
        let k' <-cE n c k
        let a' <-cE n c a
        if c.own.contains x&&esc a' && !isStar k && !isStar a&&ap.endLine==cp.line && !c.frz then some (.ins i k' a')else none
      |none=>match mY e with
      |some (x,m,ap,a,cp)=>do
        let i <-dP c x
        let a' <-cE n c a
        if m == "update" then (if c.own.contains x&&esc a' && !isStar a&&ap.endLine==cp.line && !c.frz then some (.dupd i a')else none)else
        if m == "extend" then (if c.own.contains x&&esc a' && !isStar a&&ap.endLine==cp.line && !c.frz then some (.ext i a')else none)else
        if m == "append" && c.own.contains x&&esc a' && !isStar a&&ap.endLine==cp.line && !c.frz then some (.app i a')else none
      |none=>do
        if fN e then none else
        let e' <-cE n c e
        some (.exp e')
    | .Return o _=>match o with
      |some e=>do
        let e' <-cE n c e
        if fr then (match e with
          | .Name y _=>if c.own.contains y then (loc c y).map (λi=>.ret (.own i))else none
          |_=>if fresh c e' then some (.ret e')else none)
        else some (.ret e')
      |none=>if fr then none else some .retN
    | .If t a b _=>do
      let t <-cT n c t
      let a <-cSs n c fr a
      let b <-cSs n c fr b
      some (.ite t a b)
    | .For tg it b els _=>do
      if !els.isEmpty || !c.calm || !zI it then none else
      let tg' <-cTg c tg
      let it <-cI n c it
      if !gS it tg then none else
      let b <-cSs n {c with frz:=c.frz||owned it} fr b
      some (.for tg' it b)
    | .While t b els _=>do
      if !els.isEmpty || !c.calm then none else
      let t <-cT n c t
      let b <-cSs n c fr b
      some (.while t b)
    | .Raise o o' _=>match o with
      |some r=>match raiseOf r with
        |some (x,a,as)=>do
          if !o'.isNone || !c.calm || !c.thr then none else
          match glob c x with
          |some .exc=>do
            let es <-cEs n c (a::as)
            some (.raise x es)
          |_=>none
        |none=>none
      |none=>none
    | .Try b hs els fin _=>match hs with
      | [.ExceptHandler ty y h _]=>match ty with
        |some (.Name x _)=>do
          if !els.isEmpty || !fin.isEmpty || !c.calm || !c.fnc||fr||h.isEmpty || !c.own.isEmpty||c.frz then none else
          let b <-cSs n {c with thr:=false} fr b
          let h <-cSs n (kL c) fr h
          if !(glob c x==some .exc||glob c x==some .exk)then none else
          match y with
          |none=>some (.try b x none h)
          |some y=>do
            let i <-dP c y
            if c.nm.lookup y==some .local then some (.try b x (some i) h)else none
        |_=>none
      |_=>none
    | .Pass _=>some .pass
    | .Break _=>some .brk
    | .Continue _=>some .cnt
    |_=>none
noncomputable def cSs:Nat->Cc->Bool->List Stmt->Option Ss
  | 0,_,_,_=>none
  |n+1,c,fr,ss=>match ss with
    | []=>some .nil
    |s::r=>do
      let r <-cSs n c fr r
      some (.cons ((cS n c fr s).getD .unk) r)
end
noncomputable def noOwn(c:Cc):Cc:={c with own:=[],frz:=false}
noncomputable def jO(n:Nat)(c:Cc)(fr:Bool)(b:List Stmt):Option Ss:=cSs n c fr b
noncomputable def argNames(a:Arguments):List Str:=a.args.map (·.arg)
noncomputable def iL(a:Arguments)(sc:bf):List Str:=argNames a++((sc.names.filter λp=>p.2==.local||p.2==.cell).map (·.1)).filter λx=>!(argNames a).contains x
noncomputable def kE(N ps:List Str)(sc:bf):Bool:=
  sc.kind==.function && !sc.isCoroutine && !sc.isGenerator&&decide N.Nodup&&decide (N.take ps.length=ps)&&ps.all (λx=>sc.names.lookup x==some .local||sc.names.lookup x==some .cell)&&sc.names.all λy=>y.2 != .free
noncomputable def nA:Nat:=60
noncomputable def cFn(G GH:List (Str×GK))(own:List Str)(fr:Bool)(st:Stmt):Option Fn:=do
  let a:=zC st
  let sc:=zt st
  let N:=iL a sc
  if !kE N (argNames a) sc||(argNames a).any own.contains then none else
  let b <-jO nA ⟨sc.names,N,own,G,true,true,false,GH,[],false⟩ fr (eV st)
  some ⟨(argNames a).length,N.length,fr,b⟩
noncomputable def rG(GU:List (Str×GK))(own:List Str)(fr:Bool)(st:Stmt):Option Fn:=none
end EV

namespace EV
open PySem PySem.Spec PyProof.Rows L2
structure Gc where
 K:aC
 fnA:Str->Option Addr
 clA:Str->Option Addr
mutual
inductive Rep(g:Gc)(H:Hp):D->V->Prop
 |non:Rep g H .non .non
 |bl (b:Bool):Rep g H (.bl b) (.bl b)
 |int (i:Int):Rep g H (.int i) (.int i)
 |str (x:Str):Rep g H (.str x) (.str x)
 |tup {a:Addr}{xs:List V}{ds:List D}:SqT g.K H a xs->qw g H ds xs->Rep g H (.tup ds) (.ref a)
 |lst {a:Addr}{xs:List V}{ds:List D}:SqL g.K H a xs->qw g H ds xs->Rep g H (.lst ds) (.ref a)
 |fn {x:Str}{a:Addr}:g.fnA x=some a->Rep g H (.fn x) (.ref a)
 |exn {c:Str}{a C:Addr}:g.clA c=some C->H a=some (wZ a (.ref C))->Rep g H (.exn c) (.ref a)
 |dic {a:Addr}{kvs:List (Int×Int)}:H a=some (.dK (bM kvs))->Rep g H (.dic kvs) (.ref a)
inductive qw(g:Gc)(H:Hp):List D->List V->Prop
 |nil:qw g H [] []
 |cons {d:D}{ds:List D}{x:V}{xs:List V}:Rep g H d x->qw g H ds xs->qw g H (d::ds) (x::xs)
end
theorem zE{K:aC}{H H':Hp}{a:Addr}{xs:List V}(e:qe H H')(h:SqT K H a xs):SqT K H' a xs:=by
 rcases h with (h|⟨o,h⟩)|h
 ·exact .inl (.inl (e _ _ h))
 ·exact .inl (.inr ⟨o,e _ _ h⟩)
 ·exact .inr h
section
variable{g:Gc}{H H':Hp}
theorem p8{a b:Bool}(h:(a&&b)=true):a=true/\b=true:=by rw[aW]at h;exact h
theorem Rep.mono(e:qe H H'){d:D}{v:V}(h:Rep g H d v):Rep g H' d v:=
 h.rec (motive_1:=λd v _=>Rep g H' d v) (motive_2:=λd v _=>qw g H' d v) .non .bl .int .str (λq _ r=>.tup (zE e q) r) (λq _ r=>.lst (e.seq q) r) .fn (λq r=>.exn q (e _ _ r)) (λq=>.dic (e _ _ q)) .nil (λ_ _ a b=>.cons a b)
theorem qw.mono(e:qe H H'){d:List D}{v:List V}(h:qw g H d v):qw g H' d v:=
 h.rec (motive_1:=λd v _=>Rep g H' d v) (motive_2:=λd v _=>qw g H' d v) .non .bl .int .str (λq _ r=>.tup (zE e q) r) (λq _ r=>.lst (e.seq q) r) .fn (λq r=>.exn q (e _ _ r)) (λq=>.dic (e _ _ q)) .nil (λ_ _ a b=>.cons a b)
theorem qw.length{ds:List D}:∀{vs:List V},qw g H ds vs->ds.length=vs.length:=by
 induction ds with
 |nil=>intro vs h;cases h;rfl
 |cons d ds ih=>intro vs h;cases h with|cons _ r=>exact congrArg (· + 1) (ih r)
theorem qw.get{ds:List D}:∀{vs:List V}{i:Nat}{d:D},qw g H ds vs->ds[i]? = some d->∃v,vs[i]? = some v/\Rep g H d v:=by
 induction ds with
 |nil=>intro vs i d h e;cases e
 |cons d ds ih=>
  intro vs i d' h e;cases h with
  |cons h t=>cases i with
   |zero=>cases e;exact⟨_,rfl,h⟩
   |succ i=>exact ih (i:=i) t e
theorem qw.append{ds:List D}:∀{es:List D}{vs us:List V},qw g H ds vs->qw g H es us->qw g H (ds++es) (vs++us):=by
 induction ds with
 |nil=>intro es vs us h s;cases h;exact s
 |cons d ds ih=>intro es vs us h s;cases h with|cons r t=>exact .cons r (ih t s)
theorem qw.take{ds:List D}:∀{vs:List V} (n:Nat),qw g H ds vs->qw g H (ds.take n) (vs.take n):=by
 induction ds with
 |nil=>intro vs n h;cases h;cases n<;>exact .nil
 |cons d ds ih=>intro vs n h;cases h with|cons r t=>cases n with
  |zero=>exact .nil
  |succ n=>exact .cons r (ih n t)
theorem qw.drop{ds:List D}:∀{vs:List V} (n:Nat),qw g H ds vs->qw g H (ds.drop n) (vs.drop n):=by
 induction ds with
 |nil=>intro vs n h;cases h;cases n<;>exact .nil
 |cons d ds ih=>intro vs n h;cases n with
  |zero=>exact h
  |succ n=>cases h with|cons r t=>exact ih n t
theorem qw.set{d:D}{v:V}(r:Rep g H d v){ds:List D}:∀{vs:List V} (i:Nat),qw g H ds vs->qw g H (ds.set i d) (vs.set i v):=by
 induction ds with
 |nil=>intro vs i h;cases h;exact .nil
 |cons d' ds ih=>intro vs i h;cases h with|cons q t=>cases i with
  |zero=>exact .cons r t
  |succ i=>exact .cons q (ih i t)
theorem qw.ints{ds:List D}:∀{vs:List V}{ns:List Int},qw g H ds vs->ints? ds=some ns->vs=ns.map V.int/\ds=ns.map D.int:=by
 induction ds with
 |nil=>intro vs ns h e;cases h;cases e;exact⟨rfl,rfl⟩
 |cons d ds ih=>
  intro vs ns h e;cases h with
  |cons h t=>cases d with
   |int i=>
    obtain⟨ms,e1,rfl⟩:=bF.mp (show (ints? ds).map (i :: ·)=some ns from e);obtain⟨h1,h2⟩:=ih t e1;cases h;exact⟨by rw[h1];rfl,by rw[h2];rfl⟩
   |_=>cases (show none=some ns from e)
theorem qw.bools{ds:List D}:∀{vs:List V}{ns:List Bool},qw g H ds vs->bools? ds=some ns->vs=ns.map V.bl:=by
 induction ds with
 |nil=>intro vs ns h e;cases h;cases e;rfl
 |cons d ds ih=>
  intro vs ns h e;cases h with
  |cons h t=>cases d with
   |bl i=>
    obtain⟨ms,e1,rfl⟩:=bF.mp (show (bools? ds).map (i :: ·)=some ns from e);have h1:=ih t e1;cases h;rw[h1];rfl
   |_=>cases (show none=some ns from e)
theorem qw.ofInts:∀(ns:List Int),qw g H (ns.map D.int) (ns.map V.int)
 | []=>.nil
 |i::r=>.cons (.int i) (qw.ofInts r)
end
structure Sh where
 o:Addr->Bool
 h:Addr->Bool
 z:L2.St
 y:Hp
noncomputable def hid(H:Hp)(S:Sh):Hp:=λb=>if S.h b=true then none else H b
noncomputable def dz(S:Sh)(a:Addr):Sh:=⟨S.o,λb=>S.h b||b==a,S.z,S.y⟩
theorem b7{H:Hp}{S:Sh}{b:Addr}{o:HO}:hid H S b=some o↔S.h b=false/\H b=some o:=by
 unfold hid;cases h:S.h b<;>simp
theorem zH{H:Hp}{S:Sh}:qe (hid H S) H:=λ_ _ h=>(b7.mp h).2
theorem qh{H H':Hp}{S:Sh}(e:qe H H'):qe (hid H S) (hid H' S):=λb o h=>b7.mpr ⟨(b7.mp h).1,e _ _ (b7.mp h).2⟩
noncomputable def Sub(S:Sh)(H:Hp):Prop:=∀a,(S.h a=true\/S.o a=true)->H a≠none
theorem Sub.same{S:Sh}{H H':Hp}(h:Sub S H)(e:qe H H'):Sub S H':=λa s n=>by
 cases q:H a with
 |none=>exact h a s q
 |some o=>rw[e _ _ q]at n;cases n
theorem Sub.free{S:Sh}{H:Hp}(h:Sub S H){p:Addr}(n:H p=none):S.h p=false:=by
 cases q:S.h p with
 |false=>rfl
 |true=>exact absurd n (h p (.inl q))
theorem Sub.freeO{S:Sh}{H:Hp}(h:Sub S H){p:Addr}(n:H p=none):S.o p=false:=by
 cases q:S.o p with
 |false=>rfl
 |true=>exact absurd n (h p (.inr q))
theorem zi{H:Hp}{p:Addr}{o:HO}(n:H p=none):qe H (upd H p o):=λb u h=>by
 rw[qi (λz=>by rw[z,n]at h;cases h)];exact h
theorem mR{H:Hp}{S:Sh}{p:Addr}{o:HO}(hs:Sub S H)(n:H p=none):hid (upd H p o) S p=some o:=b7.mpr ⟨hs.free n,zF⟩
theorem j_{H:Hp}{S:Sh}{p:Addr}{o:HO}(n:H p=none):qe (hid H S) (hid (upd H p o) (dz S p)):=λb u h=>by
 obtain⟨h1,h2⟩:=b7.mp h;have hb:b≠p:=λz=>by rw[z,n]at h2;cases h2
 refine b7.mpr ⟨?_,by rw[qi hb];exact h2⟩;show (S.h b||b==p)=false;rw[h1]
 simpa using hb
theorem ug{H:Hp}{S:Sh}{p:Addr}:qe (hid H (dz S p)) (hid H S):=λb u h=>by
 obtain⟨h1,h2⟩:=b7.mp h;refine b7.mpr ⟨?_,h2⟩;have h1:(S.h b||b==p)=false:=h1;simp at h1;exact h1.1
inductive ee(g:Gc)(H:Hp):D->HO->Prop
 |lst {ds:List D}{vs:List V}:qw g H ds vs->ee g H (.lst ds) (.lst vs)
 |dic (kvs:List (Int×Int)):ee g H (.dic kvs) (.dK (bM kvs))
theorem ee.mono{g:Gc}{H H':Hp}{d:D}{o:HO}(e:qe H H')(h:ee g H d o):ee g H' d o:=by
 cases h with
 |lst r=>exact .lst (r.mono e)
 |dic k=>exact .dic k
theorem ee.rep{g:Gc}{H H':Hp}{d:D}{o:HO}{a:Addr}(h:ee g H d o)(e:qe H H')(ha:H' a=some o):Rep g H' d (.ref a):=by
 cases h with
 |lst r=>exact .lst (SqL.of ha) (r.mono e)
 |dic k=>exact .dic ha
noncomputable def zN(g:Gc)(H:Hp)(S:Sh)(d:D)(v:V):Prop:=
 Rep g (hid H S) d v\/∃a o,S.o a=true/\v=.ref a/\H a=some o/\ee g (hid H S) d o
noncomputable def Fr(g:Gc)(H0:Hp)(S:Sh)(H:Hp)(d:D)(v:V):Prop:=
 ∃a o,v=.ref a/\H0 a=none/\H a=some o/\ee g (hid H (dz S a)) d o
section
variable{g:Gc}{H H' H0:Hp}{S:Sh}{d:D}{v:V}
theorem zN.mono(e:qe H H')(h:zN g H S d v):zN g H' S d v:=by
 rcases h with h|⟨a,o,h1,h2,h3,h4⟩
 ·exact .inl (h.mono (qh e))
 ·exact .inr ⟨a,o,h1,h2,e _ _ h3,h4.mono (qh e)⟩
theorem zN.rep(h:zN g H S d v):Rep g H d v:=by
 rcases h with h|⟨a,o,h1,rfl,h3,h4⟩
 ·exact h.mono zH
 ·exact h4.rep zH h3
theorem zN.lst{ds:List D}(h:zN g H S (.lst ds) v):∃a vs,v=.ref a/\SqL g.K H a vs/\qw g (hid H S) ds vs:=by
 rcases h with h|⟨a,o,h1,rfl,h3,h4⟩
 ·cases h with
  |lst h r=>exact⟨_,_,rfl,zH.seq h,r⟩
 ·cases h4 with
  |lst r=>exact⟨a,_,rfl,SqL.of h3,r⟩
theorem zN.dic{kvs:List (Int×Int)}(h:zN g H S (.dic kvs) v):∃a,v=.ref a/\H a=some (.dK (bM kvs)):=by
 rcases h with h|⟨a,o,h1,rfl,h3,h4⟩
 ·cases h with
  |dic h=>exact⟨_,rfl,zH _ _ h⟩
 ·cases h4 with
  |dic k=>exact⟨a,rfl,h3⟩
theorem zN.strong(h:zN g H S d v)(n:∀ds,d≠.lst ds)(n2:∀k,d≠.dic k:=by intro _ z;cases z):Rep g (hid H S) d v:=by
 rcases h with h|⟨a,o,h1,rfl,h3,h4⟩
 ·exact h
 ·cases h4 with
  |lst r=>exact absurd rfl (n _)
  |dic k=>exact absurd rfl (n2 _)
theorem zN.tup{ds:List D}(h:zN g H S (.tup ds) v):∃a vs,v=.ref a/\SqT g.K H a vs/\qw g (hid H S) ds vs:=by
 cases h.strong (by intro _ z;cases z)with
 |tup h2 r=>exact⟨_,_,rfl,zE zH h2,r⟩
theorem zN.seq{ds:List D}(h:zN g H S d v)(e:seq? d=some ds):∃a vs,v=.ref a/\(SqL g.K H a vs\/SqT g.K H a vs)/\qw g (hid H S) ds vs:=by
 cases d with
 |tup xs=>cases e;obtain⟨a,vs,h1,h2,h3⟩:=h.tup;exact⟨a,vs,h1,.inr h2,h3⟩
 |lst xs=>cases e;obtain⟨a,vs,h1,h2,h3⟩:=h.lst;exact⟨a,vs,h1,.inl h2,h3⟩
 |_=>cases e
theorem zN.int{i:Int}(h:zN g H S (.int i) v):v=.int i:=by cases h.strong (by intro _ z;cases z);rfl
theorem zN.bl{b:Bool}(h:zN g H S (.bl b) v):v=.bl b:=by cases h.strong (by intro _ z;cases z);rfl
theorem iB{ds:List D}{vs:List V}{p:Addr}(hs:Sub S H)(n:H p=none)(r:qw g (hid H S) ds vs):Rep g (hid (upd H p (.tup vs)) S) (.tup ds) (.ref p):=
 .tup (SqT.of (mR hs n)) (r.mono (qh (zi n)))
theorem fM{ds:List D}{vs:List V}{p:Addr}(hs:Sub S H)(n:H p=none)(r:qw g (hid H S) ds vs):Rep g (hid (upd H p (.lst vs)) S) (.lst ds) (.ref p):=
 .lst (SqL.of (mR hs n)) (r.mono (qh (zi n)))
theorem gb{ds:List D}{vs:List V}{p:Addr}(e:qe H0 H)(n:H p=none)(r:qw g (hid H S) ds vs):Fr g H0 S (upd H p (.lst vs)) (.lst ds) (.ref p):=
 ⟨p,_,rfl,e.free n,zF,.lst (r.mono (j_ n))⟩
theorem GX{kvs:List (Int×Int)}{p:Addr}(hs:Sub S H)(n:H p=none):Rep g (hid (upd H p (.dK (bM kvs))) S) (.dic kvs) (.ref p):=.dic (mR hs n)
theorem Hd{kvs:List (Int×Int)}{p:Addr}(e:qe H0 H)(n:H p=none):Fr g H0 S (upd H p (.dK (bM kvs))) (.dic kvs) (.ref p):=⟨p,_,rfl,e.free n,zF,.dic kvs⟩
end
end EV
namespace L2
open PySem PySem.Spec PyProof.Rows
section
variable{X:Cx}
end
end L2
namespace EV
open PySem PySem.Spec PySem.P PyProof.Rows L2
mutual
noncomputable def D.py:D->PyData
 | .non=>.none
 | .bl b=>.bool b
 | .int i=>.int i
 | .str x=>.str x
 | .tup xs=>.tuple (pys xs)
 | .lst xs=>.list (pys xs)
 | .fn _=>.none
 | .exn _=>.none
 | .dic _=>.none
noncomputable def pys:List D->List PyData
 | []=>[]
 |x::xs=>x.py::pys xs
end
mutual
theorem tq:∀{d:D},d.plain=true->d.py.canLay0=true
 | .non,_ | .bl _,_ | .int _,_=>by simp[D.py,PyData.canLay0]
 | .str x,h=>by simpa[D.py,PyData.canLay0,D.plain]using h
 | .tup xs,h=>by simp only[D.py,PyData.canLay0];exact lq (by simpa[D.plain]using h)
 | .lst xs,h=>by simp only[D.py,PyData.canLay0];exact lq (by simpa[D.plain]using h)
 | .fn _,h | .exn _,h | .dic _,h=>by simp[D.plain]at h
theorem lq:∀{ds:List D},plainAll ds=true->PyData.canLayAll0 (pys ds)=true
 | [],_=>by simp[pys,PyData.canLayAll0]
 |x::xs,h=>by
  simp only[plainAll,aW]at h;simp only[pys,PyData.canLayAll0,aW];exact⟨tq h.1,lq h.2⟩
end
mutual
theorem t5:∀(d:D),d.py.depth=d.deep
 | .non | .bl _ | .int _ | .str _ | .fn _ | .exn _ | .dic _=>by simp[D.py,PyData.depth,D.deep]
 | .tup xs=>by simp only[D.py,PyData.depth,D.deep];rw[nM xs]
 | .lst xs=>by simp only[D.py,PyData.depth,D.deep];rw[nM xs]
theorem nM:∀(ds:List D),PyData.depthAll (pys ds)=gj ds
 | []=>by simp[pys,PyData.depthAll,gj]
 |x::xs=>by simp only[pys,PyData.depthAll,gj];rw[t5 x,nM xs]
end
mutual
theorem m6:∀(a b:D),a.plain=true->b.plain=true->PyData.eqv a.py b.py=a.eqv b
 | .tup xs,.tup ys,h,h'=>by simp only[D.py,PyData.eqv,D.eqv];exact lQ xs ys (by simpa[D.plain]using h) (by simpa[D.plain]using h')
 | .lst xs,.lst ys,h,h'=>by simp only[D.py,PyData.eqv,D.eqv];exact lQ xs ys (by simpa[D.plain]using h) (by simpa[D.plain]using h')
 | .fn _,_,h,_=>by simp[D.plain]at h
 | .exn _,_,h,_=>by simp[D.plain]at h
 | .dic _,_,h,_=>by simp[D.plain]at h
 | .non,b,_,h' | .bl _,b,_,h' | .int _,b,_,h' | .str _,b,_,h'=>by cases b<;>simp[D.py,PyData.eqv,D.eqv,D.plain]at h' ⊢
 | .tup _,.non,_,_ | .tup _,.bl _,_,_ | .tup _,.int _,_,_ | .tup _,.str _,_,_ | .tup _,.lst _,_,_=>by simp[D.py,PyData.eqv,D.eqv]
 | .lst _,.non,_,_ | .lst _,.bl _,_,_ | .lst _,.int _,_,_ | .lst _,.str _,_,_ | .lst _,.tup _,_,_=>by simp[D.py,PyData.eqv,D.eqv]
 | .tup _,.fn _,_,h' | .tup _,.exn _,_,h' | .lst _,.fn _,_,h' | .lst _,.exn _,_,h' | .tup _,.dic _,_,h' | .lst _,.dic _,_,h'=>by simp[D.plain]at h'
theorem lQ:∀(xs ys:List D),plainAll xs=true->plainAll ys=true->PyData.eqvAll (pys xs) (pys ys)=eqvAll xs ys
 | [],[],_,_=>by simp[pys,PyData.eqvAll,eqvAll]
 |x::xs,y::ys,h,h'=>by
  simp only[plainAll,aW]at h h';simp only[pys,PyData.eqvAll,eqvAll];rw[m6 x y h.1 h'.1,lQ xs ys h.2 h'.2]
 | [],_::_,_,_=>by simp[pys,PyData.eqvAll,eqvAll]
 |_::_,[],_,_=>by simp[pys,PyData.eqvAll,eqvAll]
end
theorem Rep.data{g:Gc}{H:Hp}{d:D}{v:V}(h:Rep g H d v):d.plain=true->fq g.K H v d.py:=
 h.rec (motive_1:=λd v _=>d.plain=true->fq g.K H v d.py) (motive_2:=λds vs _=>plainAll ds=true->hJ g.K H vs (pys ds)) (λ_=>.non) (λb _=>.bl b) (λb _=>.int b) (λb _=>.str b) (λq _ r p=>.tup q (r p)) (λq _ r p=>.lst q (r p)) (λ_ p=>nomatch p) (λ_ _ p=>nomatch p) (λ_ p=>nomatch p) (λ_=>.nil) (λ_ _ a b p=>.cons (a (p8 p).1) (b (p8 p).2))
theorem jF{d:D}:d.asks=true↔d.plain=true/\d.deep<=20:=by simp[D.asks]
section
variable{X:Cx}{g:Gc}
theorem OpR.imp{f:ae->ae->Sem ae}{r r':R2}(h:OpR X f r)(i:∀x y H Q,r' x y H Q->r x y H Q):OpR X f r':=
 λpins s σ H x y v u Q I rx ry q=>h pins s σ H x y v u Q I rx ry (i _ _ _ _ q)
noncomputable def Az(K:aC):R2:=λx y H Q=>∃l b xs zs,x=.ref l/\y=.ref b/\SqL K H l xs/\SqL K H b zs/\xs.length+zs.length<=aP/\∀p,H p=none->Q (.ref p) (upd H p (.lst (xs++zs)))
theorem FP:OpR X (binaryOp .Add) (Az X.K):=by
 intro pins s σ H x y v u Q I rx ry h;obtain⟨l,b,xs,zs,rfl,rfl,hH,hB,hz,q⟩:=h;cases rx;cases ry;obtain⟨its,r,pl,z⟩:=I.list hH;obtain⟨its2,r2,pl2,z2⟩:=I.list hB;have l1:=r.length;have l2:=r2.length;obtain⟨⟨cls,dd,data,sl⟩,ho,hc,n,hd⟩:=pl.isList;obtain⟨⟨cls2,dd2,data2,sl2⟩,ho2,hc2,n2,hd2⟩:=pl2.isList;simp only at hc hd hc2 hd2;subst hc hd hc2 hd2;refine concat_meets ⟨_,ho,rfl⟩ ⟨_,ho2,rfl⟩ noFill_list_add seq_list_add PySem.F.slot_list_add PySem.F.entry_list_add (PySem.F.args_list_add_2 _ _) (list_addW l b its.toArray its2.toArray n n2 dd dd2 sl sl2 (by rw[aV,aV];lia)) ⟨ho,ho2,?_⟩;have ea:its.toArray++its2.toArray=(its++its2).toArray:=by simp
 rw[ea];exact⟨.ref _,_,I.lnew (t':=s.toks) (r.append r2) (by rw[bH];lia),rfl,q _ I.fresh⟩
noncomputable def rOp(g:Gc)(o:O2):R2:=λx y H Q=>∃S da db,Sub S H/\zN g H S da x/\zN g H S db y /\
 match op2 o da db with
 | .ok d=>∀v H',qe H H'->Rep g (hid H' S) d v->(t7 da=true->Fr g H S H' d v)->Q v H'
 |_=>False
theorem kB{o:O2}(ho:o≠.add)(hm:o≠.mul){da db d:D}(h:op2 o da db=.ok d):∃i j,da=.int i/\db=.int j/\opI o i j=.ok d:=by
 unfold op2 at h;split at h
 ·exact⟨_,_,rfl,rfl,h⟩
 ·rw[if_neg (λz=>ho z.1)]at h;cases h
 ·rw[if_neg (λz=>ho z.1)]at h;cases h
 ·cases h
theorem uG{j:Int}(h:small j=true):-(2^64)<j/\j<2^64:=by simpa[small]using h
theorem oD{n:Nat}(h:n<=SZ):n<=sizeLine:=bB h (by rw[bu];decide)
theorem log2_small{j:Int}(h1:0<j)(h2:j<1000000000000000000000000000000):j.natAbs.log2<9000:=by
 have h3:j.natAbs<2^100:=by
  have:(2:Nat)^100=1267650600228229401496703205376:=by decide +kernel
  rw[this];lia
 have:=(Nat.log2_lt (n:=j.natAbs) (k:=100) (by lia)).mpr h3;lia
theorem CG:OpR X (binaryOp .FloorDiv) (rI (λ_ j=>0<j/\j<1000000000000000000000000000000) λi j=>.int (i/j)):=L2.opI λi j _ _ _ _ _ hc q=>by
 have h1:(0:Int)<j:=hc.1;exact floordiv_int (by lia) (by rw[Int.fdiv_eq_ediv_of_nonneg i (by lia)];exact q) (.inl (PyProof.noPylong_of_log2 (log2_small hc.1 hc.2)))
theorem yE(hK:X.K=g.K){op:Operator}{o:O2}(h:o2 op=some o):OpR X (binaryOp op) (rOp g o):=by
 have two:∀{f:ae->ae->Sem ae}{C:Int->Int->Prop}{q:Int->Int->Int} (o:O2),OpR X f (rI C λi j=>.int (q i j))->(∀da db d,op2 o da db=.ok d->∃i j,da=.int i/\db=.int j/\C i j/\d=.int (q i j))->OpR X f (rOp g o):=λo k e=>by
  refine OpR.imp k λx y H Q ⟨S,da,db,hs,ra,rb,m⟩=>?_
  cases e1:op2 o da db with
  |ok d=>
   rw[e1]at m;obtain⟨i,j,rfl,rfl,c,rfl⟩:=e da db d e1;exact⟨i,j,ra.int,rb.int,c,m _ _ (qe.refl _) (.int _) (λz=>nomatch z)⟩
  |ex c=>rw[e1]at m;exact m.elim
  |no=>rw[e1]at m;exact m.elim
 have two0:∀{f:ae->ae->Sem ae}{q:Int->Int->Int} (o:O2),OpR X f (rI0 λi j=>.int (q i j))->(∀da db d,op2 o da db=.ok d->∃i j,da=.int i/\db=.int j/\d=.int (q i j))->OpR X f (rOp g o):=λ{f q} o k e=>
  two (C:=λ_ _=>True) (q:=q) o (OpR.imp k λx y H Q ⟨i,j,h1,h2,_,h3⟩=>⟨i,j,h1,h2,h3⟩) λda db d h=>by
   obtain⟨i,j,h1,h2,h3⟩:=e da db d h;exact⟨i,j,h1,h2,trivial,h3⟩
 cases op<;>simp only[o2,cN]at h<;>first|subst h|cases h
 ·-- Add
  refine OpR.imp (B6.or (AM.or FP)) λx y H Q ⟨S,da,db,hs,ra,rb,m⟩=>?_
  cases da with
  |int i=>
   cases db with
   |int j=>exact .inl ⟨i,j,ra.int,rb.int,m _ _ (qe.refl _) (.int _) (λz=>nomatch z)⟩
   |_=>exact m.elim
  |tup xs=>
   cases db with
   |tup ys=>
    simp only[op2,true_and]at m;split at m
    ·rename_i e
     split at e<;>cases e
     rename_i hz
     obtain⟨a,vs,rfl,h1,r1⟩:=ra.tup;obtain⟨b,us,rfl,h2,r2⟩:=rb.tup;refine .inr (.inl ⟨a,b,vs,us,rfl,rfl,by rw[hK];exact h1,by rw[hK];exact h2,by rw[<-r1.length,<-r2.length];exact oD hz,λe=>?_,λ_ e=>?_,λ_ _ p hp=>?_⟩)
     ·subst e;cases r1;exact m _ _ (qe.refl _) (rb.strong (by intro _ z;cases z)) (λz=>nomatch z)
     ·subst e;cases r2;rw[cQ]at m;exact m _ _ (qe.refl _) (ra.strong (by intro _ z;cases z)) (λz=>nomatch z)
     ·exact m _ _ (zi hp) (iB hs hp (r1.append r2)) (λz=>nomatch z)
    ·exact m.elim
   |_=>exact m.elim
  |lst xs=>
   cases db with
   |lst ys=>
    simp only[op2,true_and]at m;split at m
    ·rename_i e
     split at e<;>cases e
     rename_i hz
     obtain⟨a,vs,rfl,h1,r1⟩:=ra.lst;obtain⟨b,us,rfl,h2,r2⟩:=rb.lst;refine .inr (.inr ⟨a,b,vs,us,rfl,rfl,by rw[hK];exact h1,by rw[hK];exact h2,by rw[<-r1.length,<-r2.length];exact oD hz,λp hp=>?_⟩);exact m _ _ (zi hp) (fM hs hp (r1.append r2)) (λ_=>gb (qe.refl _) hp (r1.append r2))
    ·exact m.elim
   |_=>exact m.elim
  |_=>exact m.elim
 ·exact two0 .sub yU λda db d h=>by obtain⟨i,j,rfl,rfl,h'⟩:=kB (by decide) (by decide) h;clear h;rename _=>h;cases h;exact⟨_,_,rfl,rfl,rfl⟩
 ·refine OpR.imp wN λx y H Q ⟨S,da,db,hs,ra,rb,m⟩=>?_
  cases e1:op2 .mul da db with
  |ok d=>
   rw[e1]at m;unfold op2 at e1;split at e1
   ·simp only[opI]at e1;split at e1
    ·rename_i i j hc
     cases e1;refine⟨i,j,ra.int,rb.int,?_,m _ _ (qe.refl _) (.int _) (λz=>nomatch z)⟩;rcases(by simpa using hc)with z|z
     ·exact .inl (uG z)
     ·exact .inr (uG z)
    ·cases e1
   ·rw[if_neg (λz=>nomatch z.1)]at e1;cases e1
   ·rw[if_neg (λz=>nomatch z.1)]at e1;cases e1
   ·cases e1
  |ex c=>rw[e1]at m;exact m.elim
  |no=>rw[e1]at m;exact m.elim
 ·exact two .mod vP λda db d h=>by obtain⟨i,j,rfl,rfl,h'⟩:=kB (by decide) (by decide) h;clear h;rename _=>h;simp only[opI]at h;split at h<;>cases h;rename_i hc;exact⟨_,_,rfl,rfl,hc,rfl⟩
 ·exact two .shr FA λda db d h=>by obtain⟨i,j,rfl,rfl,h'⟩:=kB (by decide) (by decide) h;clear h;rename _=>h;simp only[opI]at h;split at h<;>cases h;rename_i hc;exact⟨_,_,rfl,rfl,hc,rfl⟩
 ·exact two .fdiv CG λda db d h=>by obtain⟨i,j,rfl,rfl,h'⟩:=kB (by decide) (by decide) h;clear h;rename _=>h;simp only[opI]at h;split at h<;>cases h;rename_i hc;exact⟨_,_,rfl,rfl,hc,rfl⟩
theorem kQ(hK:X.K=g.K){pins:List (Addr×Obj)}{σ:L2.St}{H:Hp}{s:af}(I:Inv X pins σ H s){d:D}{v:V}{u:ae}(r:Rep g H d v)(a:d.asks=true)(ru:RelV v u):∃as,Reads s.heap u d.py as/\d.py.canLay0=true/\d.py.depth<=20:=by
 obtain⟨h1,h2⟩:=jF.mp a;have h:=r.data h1;rw[<-hK]at h;obtain⟨as,q⟩:=I.reads h ru;exact⟨as,q,tq h1,by rw[t5];exact h2⟩
theorem oN:∀(a b:List Int),eD a b=HT.lexLt a b
 | [],[]=>by simp[eD,HT.lexLt]
 | [],_::_=>by simp[eD,HT.lexLt]
 |_::_,[]=>by simp[eD,HT.lexLt]
 |a::r,b::t=>by
  simp only[eD,HT.lexLt];rw[oN r t]
  try (by_cases h:a=b<;>simp[h])
noncomputable def rCm(g:Gc)(c:C2):R2:=λx y H Q=>∃S da db,zN g H S da x/\zN g H S db y /\
 match qg c da db with
 | .ok b=>Q (.bl b) H
 |_=>False
open Classical in
noncomputable def fc(h:Heap)(q:PyData)(u:ae):Bool:=if e:∃d as,Reads h u d as then PyData.eqv e.choose q else false
theorem uD{h:Heap}{q d:PyData}{u:ae}{as:List Addr}(r:Reads h u d as):fc h q u=PyData.eqv d q:=by
 have e:∃d as,Reads h u d as:=⟨d,as,r⟩
 unfold fc;rw[dif_pos e];obtain⟨bs,r'⟩:=e.choose_spec;rw[(PySem.Reads.unique r' d as r).1]
theorem any_eq(hK:X.K=g.K){pins:List (Addr×Obj)}{σ:L2.St}{H:Hp}{s:af}(I:Inv X pins σ H s){da:D}(ha:da.asks=true){ds:List D}:∀{vs:List V}{us:List ae},qw g H ds vs->Vals vs us->ds.all D.asks=true ->
  us.any (fc s.heap da.py)=inD da ds/\∀u∈us,∃d as,Reads s.heap u d as/\d.canLay0=true/\d.depth<=20:=by
 induction ds with
 |nil=>intro vs us h r _;cases h;cases r;exact⟨rfl,λu h=>nomatch h⟩
 |cons d ds ih=>
  intro vs us h q e;cases h with
  |cons h r=>cases q with
   |cons q t=>
    rw[List.all_cons,aW]at e;obtain⟨as,h1,h2,h3⟩:=kQ hK I h e.1 q;obtain⟨i1,i2⟩:=ih r t e.2;refine⟨?_,λu hu=>?_⟩
    ·rw[List.any_cons,i1,uD h1,m6 _ _ (jF.mp e.1).1 (jF.mp ha).1]
     rfl
    ·rcases aF.mp hu with rfl|hu
     ·exact⟨_,as,h1,h2,h3⟩
     ·exact i2 u hu
theorem AQ{A:aB}{s:af}{u v:ae}{d:PyData}{as:List Addr}{q:PyData}{bs:List Addr}(hu:A.units+60<cLine)(r:Reads s.heap u d as)(r':Reads s.heap v q bs)(h1:d.canLay0=true)(h2:q.canLay0=true)(h3:d.depth<=20):SeqAt.EqAt A.in1 s u v (fc s.heap q u):=by
 rw[uD r];refine SeqAt.eqAt_reads d q A.in1 s u v as bs r r' h1 h2 ?_;have:min d.depth q.depth<=d.depth:=Nat.min_le_left _ _;show A.units+1+_<_;lia
theorem rm(hK:X.K=g.K)(hu:X.A.units+64<cLine)(neg:Bool):OpR X (bh (if neg then .NotIn else .In)) (λx y H Q=>∃S da db ds,zN g H S da x/\zN g H S db y/\seq? db=some ds/\da.asks=true/\ds.all D.asks=true/\Q (.bl (if neg then !inD da ds else inD da ds)) H):=by
 intro pins s σ H x y v u Q I rx ry h;obtain⟨S,da,db,ds,ra,rb,es,aa,ad,q⟩:=h;obtain⟨as,h1,h2,h3⟩:=kQ hK I ra.rep aa rx;obtain⟨a,vs,rfl,hsq,rr⟩:=rb.seq es;cases ry;have go:∀{its:List ae},Vals vs its->(∀w∈its.toArray,SeqAt.EqAt X.A.in1 s w v (fc s.heap da.py w))/\its.toArray.any (fc s.heap da.py)=inD da ds:=λ{its} rv=>by
  obtain⟨i1,i2⟩:=any_eq hK I aa (rr.mono zH) rv ad;refine⟨λw hw=>?_,by simpa using i1⟩;obtain⟨d,bs,r1,r2,r3⟩:=i2 w (by simpa using hw);exact AQ (Nat.lt_of_le_of_lt (Nat.add_le_add_left (by decide) _) hu) r1 h1 r2 h2 r3
 rcases hsq with hsq|hsq
 ·obtain⟨its,rv,pl,_⟩:=I.list (by rw[hK];exact hsq);obtain⟨g1,g2⟩:=go rv;cases neg with
  |false=>exact SeqAt.in_listAt (fc s.heap da.py) pl.isList g1 ⟨.bl _,H,I,rfl,by rw[g2];exact q⟩
  |true=>exact SeqAt.notIn_listAt (fc s.heap da.py) pl.isList g1 ⟨.bl _,H,I,rfl,by rw[g2];exact q⟩
 ·obtain⟨its,rv,pl,_⟩:=I.tuple (by rw[hK];exact hsq);obtain⟨g1,g2⟩:=go rv;cases neg with
  |false=>exact SeqAt.in_tupleAt (fc s.heap da.py) pl g1 ⟨.bl _,H,I,rfl,by rw[g2];exact q⟩
  |true=>exact SeqAt.notIn_tupleAt (fc s.heap da.py) pl g1 ⟨.bl _,H,I,rfl,by rw[g2];exact q⟩
theorem sV(hK:X.K=g.K)(hu:X.A.units+64<cLine)(neg:Bool):OpR X (bh (if neg then .NotEq else .Eq)) (λx y H Q=>∃S da db,zN g H S da x/\zN g H S db y/\da.asks=true/\db.asks=true/\Q (.bl (if neg then !da.eqv db else da.eqv db)) H):=by
 intro pins s σ H x y v u Q I rx ry h;obtain⟨S,da,db,ra,rb,aa,ab,q⟩:=h;obtain⟨as,h1,h2,h3⟩:=kQ hK I ra.rep aa rx;obtain⟨bs,k1,k2,k3⟩:=kQ hK I rb.rep ab ry;have e:=m6 da db (jF.mp aa).1 (jF.mp ab).1;have room:X.A.units+min da.py.depth db.py.depth<cLine:=by
  have:min da.py.depth db.py.depth<=da.py.depth:=Nat.min_le_left _ _;lia
 cases neg with
 |false=>exact SeqAt.compareEq_reads h1 k1 h2 k2 room ⟨.bl _,H,I,by rw[e];rfl,q⟩
 |true=>exact SeqAt.compareNe_reads h1 k1 h2 k2 room ⟨.bl _,H,I,by rw[e];rfl,q⟩
theorem zN.non_iff{S:Sh}{H:Hp}{d:D}{v:V}(r:zN g H S d v):decide (v=.non)=gy d:=by
 cases r.rep<;>rfl
theorem fb{op:CmpOp}{c:C2}{r:R2}(h:OpR X (bh op) r)(k:∀S da db b x y H Q,zN g H S da x->zN g H S db y->qg c da db=.ok b->Q (.bl b) H->r x y H Q):OpR X (bh op) (rCm g c):=by
 refine OpR.imp h λx y H Q ⟨S,da,db,ra,rb,m⟩=>?_
 cases e:qg c da db with
 |ok b=>rw[e]at m;exact k S da db b x y H Q ra rb e m
 |ex c'=>rw[e]at m;exact m.elim
 |no=>rw[e]at m;exact m.elim
theorem Em:OpR X (bh .Is) (λx y H Q=>∃a b,x=.bl a/\y=.bl b/\Q (.bl (a==b)) H):=by
 intro pins s σ H x y v u Q I rx ry h;obtain⟨a,b,rfl,rfl,q⟩:=h;cases rx;cases ry;exact is_bool (jN I q rfl)
theorem Al:OpR X (bh .IsNot) (λx y H Q=>∃a b,x=.bl a/\y=.bl b/\Q (.bl (!(a==b))) H):=by
 intro pins s σ H x y v u Q I rx ry h;obtain⟨a,b,rfl,rfl,q⟩:=h;cases rx;cases ry;exact isnot_bool (jN I q rfl)
theorem uW{n:Bool}{a b:EV.D}{c:Bool}(h:isB n a b=.ok c):∃x y,a=.bl x/\b=.bl y/\c=(n != (x==y)):=by
 unfold isB at h;split at h
 ·cases h;exact⟨_,_,rfl,rfl,rfl⟩
 ·cases h
theorem uv{da db:D}{b:Bool}(h:eE da db=.ok b):∃kvs i,db=.dic kvs/\da=.int i/\b=kvs.any λp=>decide (p.1=i):=by
 unfold eE at h;split at h
 ·split at h
  ·cases h;exact⟨_,_,rfl,rfl,rfl⟩
  ·cases h
 ·cases h
theorem eN(hK:X.K=g.K)(hu:X.A.units+64<cLine)(op:CmpOp):OpR X (bh op) (rCm g (c2 op)):=by
 cases op
 ·exact fb (sV hK hu false) λS da db b x y H Q ra rb e q=>by
   simp only[c2,qg]at e;split at e<;>cases e
   rename_i a
   simp only[aW]at a;exact⟨S,da,db,ra,rb,a.1,a.2,q⟩
 ·exact fb (sV hK hu true) λS da db b x y H Q ra rb e q=>by
   simp only[c2,qg]at e;split at e<;>cases e
   rename_i a
   simp only[aW]at a;exact⟨S,da,db,ra,rb,a.1,a.2,q⟩
 ·exact fb (Cj.or (EX (by lia))) λS da db b x y H Q ra rb e q=>by
   simp only[c2]at e;cases da with
   |int i=>
    cases db with
    |int j=>cases e;exact .inl ⟨i,j,ra.int,rb.int,q⟩
    |_=>cases e
   |tup xs=>
    cases db with
    |tup ys=>
     simp only[qg]at e;split at e
     ·rename_i ns ms e1 e2
      cases e;obtain⟨a,vs,rfl,h1,r1⟩:=ra.tup;obtain⟨b,us,rfl,h2,r2⟩:=rb.tup;obtain⟨rfl,_⟩:=r1.ints e1;obtain⟨rfl,_⟩:=r2.ints e2;exact .inr ⟨a,b,ns,ms,rfl,rfl,by rw[hK];exact h1,by rw[hK];exact h2,oN ns ms▸q⟩
     ·cases e
    |_=>cases e
   |_=>cases db<;>cases e
 ·exact fb Gh λS da db b x y H Q ra rb e q=>by
   cases da with
   |int i=>
    cases db with
    |int j=>cases e;exact⟨_,_,ra.int,rb.int,q⟩
    |_=>cases e
   |_=>cases e
 ·exact fb ES λS da db b x y H Q ra rb e q=>by
   cases da with
   |int i=>
    cases db with
    |int j=>cases e;exact⟨_,_,ra.int,rb.int,q⟩
    |_=>cases e
   |_=>cases e
 ·exact fb xj λS da db b x y H Q ra rb e q=>by
   cases da with
   |int i=>
    cases db with
    |int j=>cases e;exact⟨_,_,ra.int,rb.int,q⟩
    |_=>cases e
   |_=>cases e
 ·exact fb (Cz.or Em) λS da db b x y H Q ra rb e q=>by
   simp only[c2,qg]at e;split at e
   ·rename_i hd
    cases e;have hd:db=.non:=by cases db<;>first|rfl|cases hd
    subst hd;cases rb.rep;exact .inl ⟨rfl,by rw[ra.non_iff];exact q⟩
   ·obtain⟨a,c,rfl,rfl,rfl⟩:=uW e;cases ra.rep;cases rb.rep;exact .inr ⟨a,c,rfl,rfl,by cases a<;>cases c<;>exact q⟩
 ·exact fb (Bu.or Al) λS da db b x y H Q ra rb e q=>by
   simp only[c2,qg]at e;split at e
   ·rename_i hd
    cases e;have hd:db=.non:=by cases db<;>first|rfl|cases hd
    subst hd;cases rb.rep;exact .inl ⟨rfl,by rw[ra.non_iff];exact q⟩
   ·obtain⟨a,c,rfl,rfl,rfl⟩:=uW e;cases ra.rep;cases rb.rep;exact .inr ⟨a,c,rfl,rfl,by cases a<;>cases c<;>exact q⟩
 ·exact fb ((rm hK hu false).or (BM hu)) λS da db b x y H Q ra rb e q=>by
   simp only[c2,qg]at e;split at e
   ·rename_i xs es
    split at e<;>cases e
    rename_i a
    simp only[aW]at a;exact .inl ⟨S,da,db,xs,ra,rb,es,a.1,a.2,q⟩
   ·obtain⟨kvs,i,rfl,rfl,rfl⟩:=uv e;obtain⟨l,rfl,hl⟩:=rb.dic;exact .inr ⟨l,kvs,i,rfl,ra.int,hl,q⟩
 ·exact fb ((rm hK hu true).or (Dq hu)) λS da db b x y H Q ra rb e q=>by
   simp only[c2,qg]at e;split at e
   ·rename_i xs es
    split at e<;>cases e
    rename_i a
    simp only[aW]at a;exact .inl ⟨S,da,db,xs,ra,rb,es,a.1,a.2,q⟩
   ·cases ed:eE da db with
    |ok r=>
     rw[ed]at e;obtain⟨kvs,i,rfl,rfl,rfl⟩:=uv ed;obtain⟨l,rfl,hl⟩:=rb.dic;cases e;exact .inr ⟨l,kvs,i,rfl,ra.int,hl,q⟩
    |ex z=>rw[ed]at e;cases e
    |no=>rw[ed]at e;cases e
end
abbrev gF(g:Gc)(H:Hp)(S:Sh):List D->List V->Prop:=Paired (zN g H S)
section
variable{X:Cx}{g:Gc}
theorem sR{H:Hp}{ds:List D}{vs:List V}{i:Int}{d:D}(r:qw g H ds vs)(e:atI ds i=some d):∃v,atI vs i=some v/\Rep g H d v:=by
 unfold atI at e ⊢;rw[<-r.length];cases q:ixN ds.length i with
 |none=>rw[q]at e;cases e
 |some j=>rw[q]at e;exact r.get e
noncomputable def E_(g:Gc):R2:=λx y H Q=>∃S da db,zN g H S da x/\zN g H S db y /\
 match ixD da db with
 | .ok d=>∀v,Rep g (hid H S) d v->Q v H
 |_=>False
theorem Cb(hK:X.K=g.K)(hu:X.A.units+64<cLine):IxR X (E_ g):=by
 have k:IxR X (λx y H Q=>(uX X.K x y H Q\/p_ X.K x y H Q)\/rq x y H Q):=(D_.or Ag).or (F4 hu);intro value slice pins s σ H x y v u Q I rx ry h hs;refine k value slice pins s σ H x y v u Q I rx ry ?_ hs;obtain⟨S,da,db,ra,rb,m⟩:=h;cases da with
 |tup xs=>
  cases db with
  |int i=>
   simp only[ixD]at m;cases e:atI xs i with
   |none=>rw[e]at m;exact m.elim
   |some d=>
    rw[e]at m;obtain⟨a,vs,rfl,h1,r1⟩:=ra.tup;obtain⟨w,h2,h3⟩:=sR r1 e;exact .inl (.inr ⟨a,vs,i,w,rfl,rb.int,by rw[hK];exact h1,h2,m w h3⟩)
  |_=>exact m.elim
 |lst xs=>
  cases db with
  |int i=>
   simp only[ixD]at m;cases e:atI xs i with
   |none=>rw[e]at m;exact m.elim
   |some d=>
    rw[e]at m;obtain⟨a,vs,rfl,h1,r1⟩:=ra.lst;obtain⟨w,h2,h3⟩:=sR r1 e;exact .inl (.inl ⟨a,vs,i,w,rfl,rb.int,by rw[hK];exact h1,h2,m w h3⟩)
  |_=>exact m.elim
 |dic kvs=>
  cases db with
  |int i=>
   simp only[ixD]at m;cases e:atK kvs i with
   |none=>rw[e]at m;exact m.elim
   |some v=>
    rw[e]at m;obtain⟨a,rfl,h1⟩:=ra.dic;exact .inr ⟨a,kvs,i,v,rfl,rb.int,h1,e,m _ (.int v)⟩
  |_=>exact m.elim
 |_=>exact m.elim
noncomputable def yw(g:Gc):V->Option Int->Option Int->Hp->VK->Prop:=λx lo hi H Q=>∃S da,Sub S H/\zN g H S da x /\
 match slD da lo hi with
 | .ok d=>∀v H',qe H H'->Rep g (hid H' S) d v->Q v H'
 |_=>False
theorem vM{H:Hp}{ds:List D}{vs:List V}(r:qw g H ds vs)(lo hi:Option Int):qw g H (cutD ds lo hi) (iw vs lo hi):=by
 unfold cutD iw;rw[r.length];exact(r.drop _).take _
theorem Du(hK:X.K=g.K):SlR X (yw g):=by
 intro pins s σ H x v vl vu lo hi sl Q I rx hs pl pu h;obtain⟨S,da,hS,ra,m⟩:=h;cases da with
 |lst xs=>
  obtain⟨a,vs,rfl,h1,r1⟩:=ra.lst;exact FN pins s σ H _ v vl vu lo hi sl Q I rx hs pl pu ⟨a,vs,rfl,by rw[hK];exact h1,λp hp=>m _ _ (zi hp) (fM hS hp (vM r1 lo hi))⟩
 |_=>exact m.elim
noncomputable def b1V:B1->ae
 | .len=>.builtin "len"
 | .tuple=>.type "tuple"
 | .list=>.type "list"
 | .sorted=>.builtin "sorted"
 | .all=>.builtin "all"
 | .any=>.builtin "any"
 | .sum=>.builtin "sum"
 | .min=>.builtin "min"
 | .max=>.builtin "max"
 | .abs=>.builtin "abs"
 | .int=>.type "int"
 | .bool=>.type "bool"
noncomputable def rB1(g:Gc)(b:B1):List V->Hp->VK->Prop:=λvs H Q=>∃S ds,Sub S H/\gF g H S ds vs /\
 match b1 b ds with
 | .ok d=>∀v H',qe H H'->Rep g (hid H' S) d v->(b=.list\/b=.sorted->Fr g H S H' d v)->Q v H'
 |_=>False
theorem zg.imp{f:ae}{r r':List V->Hp->VK->Prop}(h:zg X f r)(i:∀xs H Q,r' xs H Q->r xs H Q):zg X f r':=
 λpins s σ H xs us Q I rv q=>h pins s σ H xs us Q I rv (i _ _ _ q)
theorem gD{f:ae}{b:B1}{r:List V->Hp->VK->Prop}(h:zg X f r)
  (k:∀S ds d vs H Q,Sub S H->gF g H S ds vs->b1 b ds=.ok d->(∀v H',qe H H'->Rep g (hid H' S) d v->(b=.list\/b=.sorted->Fr g H S H' d v)->Q v H')->r vs H Q):zg X f (rB1 g b):=by
 refine zg.imp h λvs H Q ⟨S,ds,hs,rs,m⟩=>?_
 cases e:b1 b ds with
 |ok d=>rw[e]at m;exact k S ds d vs H Q hs rs e m
 |ex c=>rw[e]at m;exact m.elim
 |no=>rw[e]at m;exact m.elim
theorem ko{f:ae}{b:B1}(h1:∀d,b11 b d=.no)(h2:∀d e,b12 b d e=.no):zg X f (rB1 g b):=λpins s σ H xs us Q I rv ⟨S,ds,hs,rs,m⟩=>by
 have e:b1 b ds=.no:=by
  unfold b1;split
  ·exact h1 _
  ·exact h2 _ _
  ·rfl
 rw[e]at m;exact m.elim
theorem l5{b:B1}(hb:∀x y,b12 b x y=.no){ds:List D}{d:D}(h:b1 b ds=.ok d):∃x,ds=[x]/\b11 b x=.ok d:=by
 match ds,h with
 | [x],h=>exact⟨x,rfl,h⟩
 | [x,y],h=>have h:b12 b x y=.ok d:=h;rw[hb]at h;cases h
 | [],h=>cases h
 |_::_::_::_,h=>cases h
theorem jw{x r:D}{k:List D->R D}(h:dE x k=.ok r):∃xs,x=.lst xs/\k xs=.ok r:=by
 cases x with
 |lst xs=>exact⟨xs,rfl,h⟩
 |_=>cases h
theorem pV{x y r:D}{k:Int->Int->R D}(h:iiR x y k=.ok r):∃i j,x=.int i/\y=.int j/\k i j=.ok r:=by
 cases x with
 |int i=>
  cases y with
  |int j=>exact⟨i,j,rfl,rfl,h⟩
  |_=>cases h
 |_=>cases h
theorem iu{α β:Type}{o:Option α}{k:α->R β}{r:β}(h:bX o k=.ok r):∃a,o=some a/\k a=.ok r:=by
 cases o with
 |some a=>exact⟨a,rfl,h⟩
 |none=>cases h
theorem nr{b:B1}{ds:List D}{d:D}{q:List D->R D}(h:b1 b ds=.ok d)(e:∀x,b1 b [x]=bX (seq? x) q)(n:ds.length≠1->b1 b ds=.no):∃x xs,ds=[x]/\seq? x=some xs/\q xs=.ok d:=by
 match ds with
 | []=>rw[n (by simp)]at h;cases h
 | [x]=>
  rw[e]at h;cases z:seq? x with
  |none=>rw[z]at h;cases h
  |some xs=>rw[z]at h;exact⟨x,xs,rfl,z,h⟩
 |x::y::r=>rw[n (by simp)]at h;cases h
theorem B9(hK:X.K=g.K):zg X (.builtin "len") (rB1 g .len):=gD Bb λS ds d vs H Q hs rs h q=>by
 obtain⟨x,xs,rfl,e,h⟩:=nr (q:=λxs=>.ok (.int xs.length)) h (λ_=>rfl) (λn=>by match ds,n with | [],_=>rfl | [_,_],_=>rfl|_::_::_::_,_=>rfl);cases h;cases rs with
 |cons r rs=>
  cases rs;obtain⟨a,us,rfl,h1,r1⟩:=r.seq e;exact⟨a,us,rfl,by rw[hK];exact h1,by rw[<-r1.length];exact q _ _ (qe.refl _) (.int _) (by simp)⟩
theorem G3(hK:X.K=g.K):zg X (.type "tuple") (rB1 g .tuple):=gD Av λS ds d vs H Q hs rs h q=>by
 obtain⟨x,xs,rfl,e,h⟩:=nr (q:=λxs=>.ok (.tup xs)) h (λ_=>rfl) (λn=>by match ds,n with | [],_=>rfl | [_,_],_=>rfl|_::_::_::_,_=>rfl);cases h;cases rs with
 |cons r rs=>
  cases rs;cases x with
  |lst ys=>
   cases e;obtain⟨a,us,rfl,h1,r1⟩:=r.lst;exact⟨a,us,rfl,.inl ⟨by rw[hK];exact h1,λp hp=>q _ _ (zi hp) (iB hs hp r1) (by simp)⟩⟩
  |tup ys=>
   cases e;have z:=r.strong (by intro _ z;cases z);obtain⟨a,us,rfl,h1,r1⟩:=r.tup;exact⟨a,us,rfl,.inr ⟨by rw[hK];exact h1,q _ _ (qe.refl _) z (by simp)⟩⟩
  |_=>cases e
theorem F9(hK:X.K=g.K):zg X (.type "list") (rB1 g .list):=gD Ek λS ds d vs H Q hs rs h q=>by
 obtain⟨x,xs,rfl,e,h⟩:=nr (q:=λxs=>.ok (.lst xs)) h (λ_=>rfl) (λn=>by match ds,n with | [],_=>rfl | [_,_],_=>rfl|_::_::_::_,_=>rfl);cases h;cases rs with
 |cons r rs=>
  cases rs;obtain⟨a,us,rfl,h1,r1⟩:=r.seq e;exact⟨a,us,rfl,by rw[hK];exact h1,λp hp=>q _ _ (zi hp) (fM hs hp r1) λ_=>gb (qe.refl _) hp r1⟩
theorem Er(hc:X.calm=true)(al:Bool):zg X (.builtin (if al then "all" else "any")) (λxs H Q=>∃(l:Addr) (bs:List Bool),xs=[.ref l]/\SqL X.K H l (bs.map V.bl)/\Q (.bl (if al then bs.all id else bs.any id)) H):=by
 intro pins s σ H xs us Q I r h;obtain⟨l,bs,rfl,hl,q⟩:=h;obtain⟨u,rfl,ru⟩:=r.one;cases ru;obtain⟨its,rv,pl,hz⟩:=I.list hl;have e:=FQ (A:=X.A) rv;subst e;have hlt:l<s.heap.objs.size:=by obtain⟨_,e,_⟩:=pl.isList;exact aM e
 have tr:TruthOf X.prog X.w X.A.in1 (λi v=>(bs.map ae.bool).toArray[i]? = some v) (λi=>(bs[i]?).getD al):=λi v s' Q' E' hP hQ=>by
  have hv:(bs.map ae.bool)[i]? = some v:=by simpa using hP
  rw[List.getElem?_map]at hv;cases e:bs[i]? with
  |none=>rw[e]at hv;cases hv
  |some b=>
   rw[e]at hv;cases hv;simp only[e,Option.getD_some]at hQ;exact bR hQ
 have wk:=Walks.list (prog:=X.prog) (w:=X.w) (A:=X.A.in1) (I.ok.hd hc) s.heap.objs.size l (a_ hlt) (bs.map ae.bool).toArray;cases al with
 |true=>
  refine call_all_walk (wpAny_pyIter_list pl.isList ?_);refine⟨s.heap.objs.size,[s.heap.objs.size,l],[s.heap.objs.size],_,_,_,_,rfl,wk,⟨⟨_,Heap.get?_push_size _ rfl,rfl,rfl⟩,pl.isList.push _⟩,tr,λh' tk hk=>?_⟩;have e:((bE (bs.map ae.bool).toArray.size).all λi=>(bs[i]?).getD true)=bs.all id:=by
   rw[aV,aJ];exact LSm.range_all bs
  rw[e];exact⟨.bl _,H,I.kept (LSm.kept_iter hk),rfl,q⟩
 |false=>
  refine call_any_walk (wpAny_pyIter_list pl.isList ?_);refine⟨s.heap.objs.size,[s.heap.objs.size,l],[s.heap.objs.size],_,_,_,_,rfl,wk,⟨⟨_,Heap.get?_push_size _ rfl,rfl,rfl⟩,pl.isList.push _⟩,tr,λh' tk hk=>?_⟩;have e:((bE (bs.map ae.bool).toArray.size).any λi=>(bs[i]?).getD false)=bs.any id:=by
   rw[aV,aJ,Bool.eq_iff_iff];simp only[bS,List.mem_range,id];constructor
   ·rintro⟨i,hi,e⟩;rw[List.getElem?_eq_getElem hi]at e;exact⟨_,cz hi,e⟩
   ·rintro⟨b,hb,e⟩;obtain⟨i,hi,rfl⟩:=List.getElem_of_mem hb;exact⟨i,hi,by rw[List.getElem?_eq_getElem hi];exact e⟩
  rw[e];exact⟨.bl _,H,I.kept (LSm.kept_iter hk),rfl,q⟩
theorem pv(hK:X.K=g.K)(hc:X.calm=true)(al:Bool):zg X (.builtin (if al then "all" else "any")) (rB1 g (if al then .all else .any)):=gD (Er hc al) λS ds d vs H Q hs rs h q=>by
 obtain⟨xs,bs,rfl,e,rfl⟩:∃xs bs,ds=[.lst xs]/\bools? xs=some bs/\d=.bl (if al then bs.all id else bs.any id):=by
  cases al
  ·obtain⟨x,rfl,h'⟩:=l5 (λ_ _=>rfl) h;obtain⟨xs,rfl,h'⟩:=jw h';obtain⟨bs,e,h'⟩:=iu h';cases h';exact⟨xs,bs,rfl,e,rfl⟩
  ·obtain⟨x,rfl,h'⟩:=l5 (λ_ _=>rfl) h;obtain⟨xs,rfl,h'⟩:=jw h';obtain⟨bs,e,h'⟩:=iu h';cases h';exact⟨xs,bs,rfl,e,rfl⟩
 cases rs with
 |cons r rs=>
  cases rs;obtain⟨a,us,rfl,h1,r1⟩:=r.lst;have e2:=r1.bools e;subst e2;exact⟨a,bs,rfl,by rw[hK];exact h1,q _ _ (qe.refl _) (.bl _) (by cases al<;>simp)⟩
end
end EV
namespace TS
open PySem PyProof.Rows
noncomputable def sC:Bool->ak->Array ak->Nat->Nat->Nat->StateT aN Sem (Option Nat):=sortPriv% PySem.Builtin.gallop
noncomputable def tm:Array ak->Array ak->StateT aN Sem (Array ak):=sortPriv% PySem.Builtin.mergeLo
noncomputable def r9:Array ak->Array ak->StateT aN Sem (Array ak):=sortPriv% PySem.Builtin.mergeHi
theorem pr5{A1 A2 A3 A4 A5:Type}{F:A1×A2×A3×A4×A5->Prop}(h:∀x1 x2 x3 x4 x5,F (x1,x2,x3,x4,x5)):∀c,F c:=λ⟨x1,x2,x3,x4,x5⟩=>h x1 x2 x3 x4 x5
theorem pr6{A1 A2 A3 A4 A5 A6:Type}{F:A1×A2×A3×A4×A5×A6->Prop}(h:∀x1 x2 x3 x4 x5 x6,F (x1,x2,x3,x4,x5,x6)):∀c,F c:=λ⟨x1,x2,x3,x4,x5,x6⟩=>h x1 x2 x3 x4 x5 x6
theorem pr7{A1 A2 A3 A4 A5 A6 A7:Type}{F:A1×A2×A3×A4×A5×A6×A7->Prop}(h:∀x1 x2 x3 x4 x5 x6 x7,F (x1,x2,x3,x4,x5,x6,x7)):∀c,F c:=λ⟨x1,x2,x3,x4,x5,x6,x7⟩=>h x1 x2 x3 x4 x5 x6 x7
theorem exE{α:Type}{P:α->Prop}{C:Prop}(h:∀a,P a->C)(x:∃a,P a):C:=h _ x.choose_spec
theorem wpI{M:Model}{A:aB}{E:ae->af->Prop}{s:af}{α σ:Type}{c:Prop}{i:Decidable c}{x y:StateT σ Sem α}{Q:α->σ->Prop}{st:σ}(h:c->wpS M A E s x Q st)(k:¬ c->wpS M A E s y Q st):wpS M A E s (if c then x else y) Q st:=by
 split
 ·exact h ‹_›
 ·exact k ‹_›
theorem stE{M:Model}{A:aB}{E:ae->af->Prop}{s:af}{α σ:Type}{m:StateT σ Sem α}{Q:α->σ->Prop}{st st':σ}(h:st'=st)(k:wpS M A E s m Q st):wpS M A E s m Q st':=h▸k
structure Cmp(prog:aA)(w:au)(A:aB)(s:af)(κ:SortKind)(D:ak->Prop)(LT:ak->ak->Bool):Prop where
 lt:∀x y,D x->D y->∀Q:Bool->af->Prop,Q (LT x y) s->aq (ao prog w) A (keyLt' κ x.1 y.1) Q (λ_ _=>False) s
 asym:∀x y,LT x y=true->LT y x=false
 neg:∀x y z,LT y x=false->LT z y=false->LT z x=false
section
variable{prog:aA}{w:au}{A:aB}{E:ae->af->Prop}{s:af}{κ:SortKind}{D:ak->Prop}{LT:ak->ak->Bool}
theorem zh{arr:Array ak}{i:Nat}{x:ak}{Q:ak->aN->Prop}{st:aN}(hx:arr[i]? = some x)(h:Q x st):wpS (ao prog w) A E s (elem' arr i) Q st:=by
 rw[elem'_eq,hx];exact av h
theorem iS(C:Cmp prog w A s κ D LT){x y:ak}(hx:D x)(hy:D y){Q:Option Bool->aN->Prop}{st:aN}(hk:kindOf st=κ)(h:Q (some (LT x y)) st):wpS (ao prog w) A E s (lt' x y) Q st:=by
 rw[lt'_eq];refine ar (wpS_get ?_);rw[hk];refine ar (wpS_lift (wpAny_attempt (b5 (C.lt x y hx hy (λb s'=>s'=s/\b=LT x y) ⟨rfl,rfl⟩) (λb s' hb=>?_) λ_ _ z=>z.elim)));obtain⟨rfl,rfl⟩:=hb;exact⟨rfl,av h⟩
noncomputable def bey(LT:ak->ak->Bool)(left:Bool)(key:ak)(x:ak):Bool:=if left then LT x key else !LT key x
theorem iq(C:Cmp prog w A s κ D LT){left:Bool}{key:ak}{arr:Array ak}{base n hint:Nat}{Q:Option Nat->aN->Prop}{st:aN}(hk:kindOf st=κ)(hkey:D key)(it:Nat->ak)(ha:∀i,i<n->arr[base+i]? = some (it i)/\D (it i))(hh:hint<n)
  (mono:∀i j,i<=j->j<n->bey LT left key (it j)=true->bey LT left key (it i)=true)
  (h:∀k,k<=n->(∀i,i<k->bey LT left key (it i)=true)->(∀i,k<=i->i<n->bey LT left key (it i)=false)->Q (some k) st):wpS (ao prog w) A E s (sC left key arr base n hint) Q st:=by
 have ask:∀(i:Nat) (R:Option Bool->aN->Prop),i<n->R (some (bey LT left key (it i))) st->wpS (ao prog w) A E s (do
   let x <-elem' arr (base+i)
   if left=true then lt' x key else do
    let r <-lt' key x
    pure (r.map (!·))) R st:=λi R hi hR=>by
  obtain⟨h1,h2⟩:=ha i hi;refine ar (zh h1 ?_);cases left with
  |true=>rw[if_pos rfl];exact iS C h2 hkey hk hR
  |false=>rw[if_neg (by decide)];exact ar (iS C hkey h2 hk (av hR))
 have mono':∀i j,i<=j->j<n->bey LT left key (it i)=false->bey LT left key (it j)=false:=λi j hij hj hf=>by
  cases q:bey LT left key (it j)with
  |false=>rfl
  |true=>rw[mono i j hij hj q]at hf;cases hf
 -- the last loop
 have fin:∀(lo hi:Nat) (f:Nat->Option (Option Nat)×Nat×Nat->StateT aN Sem (ForInStep (Option (Option Nat)×Nat×Nat))) (g:Option (Option Nat)×Nat×Nat->StateT aN Sem (Option Nat)),lo<=hi->hi<=n ->
   (∀i,i<lo->bey LT left key (it i)=true)->(∀i,hi<=i->i<n->bey LT left key (it i)=false) ->
   (∀i lo hi R,lo >= hi->R (.done (none,lo,hi)) st->wpS (ao prog w) A E s (f i (none,lo,hi)) R st) ->
   (∀i lo hi R,¬ lo >= hi->hi<=n->R (if bey LT left key (it (lo+(hi-lo)/2))=true then .yield (none,lo+(hi-lo)/2+1,hi)else .yield (none,lo,lo+(hi-lo)/2)) st->wpS (ao prog w) A E s (f i (none,lo,hi)) R st) ->
   (∀lo hi,Q (some hi) st->wpS (ao prog w) A E s (g (none,lo,hi)) Q st) ->
   wpS (ao prog w) A E s (forIn [:n] (none,lo,hi) f>>=g) Q st:=by
  intro lo hi f g h1 h2 hlo hhi hf1 hf2 hg;refine ar (wpS_forRange (λi c st'=>st'=st/\c.1=none/\c.2.1<=c.2.2/\c.2.2<=n/\c.2.2-c.2.1<=n-i/\(∀i,i<c.2.1->bey LT left key (it i)=true)/\(∀i,c.2.2<=i->i<n->bey LT left key (it i)=false)) ?_ ?_ ⟨rfl,rfl,h1,h2,by show hi-lo<=n-0;lia,hlo,hhi⟩)
  ·rintro i ⟨c0,lo,hi⟩ st' _ hi' ⟨rfl,rfl,g1,g2,g3,g4,g5⟩;dsimp only at g1 g2 g3 g4 g5 ⊢;by_cases hge:lo >= hi
   ·have:lo=hi:=by lia
    subst this;exact hf1 _ _ _ _ hge (hg _ _ (h lo g2 g4 g5))
   ·refine hf2 _ _ _ _ hge g2 ?_;cases q:bey LT left key (it (lo+(hi-lo)/2))with
    |true=>
     rw[if_pos rfl];refine⟨rfl,rfl,?_,g2,?_,λj hj=>?_,g5⟩
     ·show lo+(hi-lo)/2+1<=hi;lia
     ·show hi-(lo+(hi-lo)/2+1)<=n-(i+1);lia
     ·exact mono j _ (by have:j<lo+(hi-lo)/2+1:=hj;lia) (by lia) q
    |false=>
     rw[if_neg (by decide)];refine⟨rfl,rfl,?_,?_,?_,g4,λj hj hjn=>?_⟩
     ·show lo<=lo+(hi-lo)/2;lia
     ·show lo+(hi-lo)/2<=n;lia
     ·show lo+(hi-lo)/2-lo<=n-(i+1);lia
     ·exact mono' _ j hj hjn q
  ·rintro⟨c0,lo,hi⟩ st' ⟨rfl,rfl,g1,g2,g3,g4,g5⟩;dsimp only at g1 g2 g3 g4 g5;have:lo=hi:=by lia
   subst this;exact hg _ _ (h lo g2 g4 g5)
 unfold sC;refine ar (ask hint _ hh ?_);cases q:bey LT left key (it hint)with
 |true=>
  dsimp only;rw[if_pos rfl];refine ar (wpS_forRange (λi c st'=>st'=st/\c.1=none/\c.2.1<c.2.2/\i+1<=c.2.2/\hint+c.2.1<n/\bey LT left key (it (hint+c.2.1))=true) ?_ ?_ ⟨rfl,rfl,by show 0<1;lia,by show 0+1<=1;lia,by show hint+0<n;lia,by show bey LT left key (it (hint+0))=true;exact q⟩)
  ·rintro i ⟨c0,la,ofs⟩ st' _ hi' ⟨rfl,rfl,g1,g2,g3,g4⟩;dsimp only at g1 g2 g3 g4 ⊢;by_cases hge:ofs >= n-hint
   ·rw[if_pos hge];refine av ?_;refine fin (hint+la+1) (hint+min ofs (n-hint)) _ _ (by lia) (by lia) (λj hj=>mono j _ (by lia) g3 g4) (λj hj hjn=>by lia) ?_ ?_ ?_
    ·intro i lo hi R hge hR;dsimp only;rw[if_pos hge];exact av hR
    ·intro i lo hi R hge hn hR;dsimp only;rw[if_neg hge];refine ar (ask _ _ (by lia) ?_);cases q9:bey LT left key (it (lo+(hi-lo)/2))with
     |true=>rw[q9]at hR;exact av hR
     |false=>rw[q9]at hR;exact av hR
    ·intro lo hi hQ;exact av hQ
   ·rw[if_neg hge];refine ar (ask _ _ (by lia) ?_);cases q2:bey LT left key (it (hint+ofs))with
    |false=>
     refine av ?_;refine fin (hint+la+1) (hint+min ofs (n-hint)) _ _ (by lia) (by lia) (λj hj=>mono j _ (by lia) g3 g4) (λj hj hjn=>mono' (hint+ofs) j (by lia) hjn q2) ?_ ?_ ?_
     ·intro i lo hi R hge hR;dsimp only;rw[if_pos hge];exact av hR
     ·intro i lo hi R hge hn hR;dsimp only;rw[if_neg hge];refine ar (ask _ _ (by lia) ?_);cases q9:bey LT left key (it (lo+(hi-lo)/2))with
      |true=>rw[q9]at hR;exact av hR
      |false=>rw[q9]at hR;exact av hR
     ·intro lo hi hQ;exact av hQ
    |true=>
     refine av ⟨rfl,rfl,?_,?_,?_,q2⟩
     ·show ofs<2 * ofs+1;lia
     ·show i+1+1<=2 * ofs+1;lia
     ·show hint+ofs<n;lia
  ·rintro⟨c0,la,ofs⟩ st' ⟨rfl,rfl,g1,g2,g3,g4⟩;dsimp only at g1 g2 g3 g4;refine fin (hint+la+1) (hint+min ofs (n-hint)) _ _ (by lia) (by lia) (λj hj=>mono j _ (by lia) g3 g4) (λj hj hjn=>by lia) ?_ ?_ ?_
   ·intro i lo hi R hge hR;dsimp only;rw[if_pos hge];exact av hR
   ·intro i lo hi R hge hn hR;dsimp only;rw[if_neg hge];refine ar (ask _ _ (by lia) ?_);cases q9:bey LT left key (it (lo+(hi-lo)/2))with
    |true=>rw[q9]at hR;exact av hR
    |false=>rw[q9]at hR;exact av hR
   ·intro lo hi hQ;exact av hQ
 |false=>
  dsimp only;rw[if_neg (by decide)];refine ar (wpS_forRange (λi c st'=>st'=st/\c.1=none/\c.2.1<c.2.2/\i+1<=c.2.2/\c.2.1<=hint/\bey LT left key (it (hint-c.2.1))=false) ?_ ?_ ⟨rfl,rfl,by show 0<1;lia,by show 0+1<=1;lia,by show 0<=hint;lia,by show bey LT left key (it (hint-0))=false;exact q⟩)
  ·rintro i ⟨c0,la,ofs⟩ st' _ hi' ⟨rfl,rfl,g1,g2,g3,g4⟩;dsimp only at g1 g2 g3 g4 ⊢;by_cases hge:ofs >= hint+1
   ·rw[if_pos hge];refine av ?_;refine fin (hint+1-min ofs (hint+1)) (hint-la) _ _ (by lia) (by lia) (λj hj=>by lia) (λj hj hjn=>mono' (hint-la) j (by lia) hjn g4) ?_ ?_ ?_
    ·intro i lo hi R hge hR;dsimp only;rw[if_pos hge];exact av hR
    ·intro i lo hi R hge hn hR;dsimp only;rw[if_neg hge];refine ar (ask _ _ (by lia) ?_);cases q9:bey LT left key (it (lo+(hi-lo)/2))with
     |true=>rw[q9]at hR;exact av hR
     |false=>rw[q9]at hR;exact av hR
    ·intro lo hi hQ;exact av hQ
   ·rw[if_neg hge];refine ar (ask _ _ (by lia) ?_);cases q2:bey LT left key (it (hint-ofs))with
    |true=>
     refine av ?_;refine fin (hint+1-min ofs (hint+1)) (hint-la) _ _ (by lia) (by lia) (λj hj=>mono j (hint-ofs) (by lia) (by lia) q2) (λj hj hjn=>mono' (hint-la) j (by lia) hjn g4) ?_ ?_ ?_
     ·intro i lo hi R hge hR;dsimp only;rw[if_pos hge];exact av hR
     ·intro i lo hi R hge hn hR;dsimp only;rw[if_neg hge];refine ar (ask _ _ (by lia) ?_);cases q9:bey LT left key (it (lo+(hi-lo)/2))with
      |true=>rw[q9]at hR;exact av hR
      |false=>rw[q9]at hR;exact av hR
     ·intro lo hi hQ;exact av hQ
    |false=>
     refine av ⟨rfl,rfl,?_,?_,?_,q2⟩
     ·show ofs<2 * ofs+1;lia
     ·show i+1+1<=2 * ofs+1;lia
     ·show ofs<=hint;lia
  ·rintro⟨c0,la,ofs⟩ st' ⟨rfl,rfl,g1,g2,g3,g4⟩;dsimp only at g1 g2 g3 g4;refine fin (hint+1-min ofs (hint+1)) (hint-la) _ _ (by lia) (by lia) (λj hj=>by lia) (λj hj hjn=>mono' (hint-la) j (by lia) hjn g4) ?_ ?_ ?_
   ·intro i lo hi R hge hR;dsimp only;rw[if_pos hge];exact av hR
   ·intro i lo hi R hge hn hR;dsimp only;rw[if_neg hge];refine ar (ask _ _ (by lia) ?_);cases q9:bey LT left key (it (lo+(hi-lo)/2))with
    |true=>rw[q9]at hR;exact av hR
    |false=>rw[q9]at hR;exact av hR
   ·intro lo hi hQ;exact av hQ
end
structure Wo(LT:ak->ak->Bool):Prop where
 asym:∀x y,LT x y=true->LT y x=false
 neg:∀x y z,LT y x=false->LT z y=false->LT z x=false
section
variable{LT:ak->ak->Bool}
theorem Wo.irr(W:Wo LT)(x:ak):LT x x=false:=by
 cases h:LT x x with
 |false=>rfl
 |true=>have:=W.asym x x h;rw[h]at this;cases this
theorem Wo.le_lt(W:Wo LT){x y z:ak}(h1:LT y x=false)(h2:LT y z=true):LT x z=true:=by
 cases h:LT x z with
 |true=>rfl
 |false=>have:=W.neg z x y h h1;rw[h2]at this;cases this
theorem Wo.lt_le(W:Wo LT){x y z:ak}(h1:LT x y=true)(h2:LT z y=false):LT x z=true:=by
 cases h:LT x z with
 |true=>rfl
 |false=>have:=W.neg y z x h2 h;rw[h1]at this;cases this
noncomputable def Srt(LT:ak->ak->Bool)(l:List ak):Prop:=l.Pairwise λx y=>LT y x=false
abbrev df:Keyed:=(ck,ck)
noncomputable def at'(a:Array ak)(i:Nat):Keyed:=a.getD i df
theorem qo{a:Array ak}{i:Nat}(h:i<a.size):a[i]? = some (at' a i):=by
 unfold at' Array.getD;rw[dif_pos h];exact Array.getElem?_eq_getElem h
theorem kH{a:Array ak}{i:Nat}(h:i<a.size):at' a i∈a.toList:=by
 have:=qo h;rw[<-Array.getElem?_toList]at this;exact List.mem_of_getElem? this
theorem dQ(W:Wo LT){a:Array ak}(h:Srt LT a.toList){i j:Nat}(hij:i<=j)(hj:j<a.size):LT (at' a j) (at' a i)=false:=by
 by_cases e:i=j
 ·subst e;exact W.irr _
 ·have hi:i<a.toList.length:=by rw[a8];lia
  have hj':j<a.toList.length:=by rw[a8];lia
  have:=List.pairwise_iff_getElem.mp h i j hi hj' (by lia);have e1:=qo (a:=a) (i:=i) (by lia);have e2:=qo (a:=a) (i:=j) hj;rw[<-Array.getElem?_toList,List.getElem?_eq_getElem hi]at e1;rw[<-Array.getElem?_toList,List.getElem?_eq_getElem hj']at e2;injection e1 with e1
  injection e2 with e2
  rw[<-e1,<-e2];exact this
theorem qA{a:Array ak}{i j:Nat}{x:ak}(h:x∈(a.extract i j).toList):∃k,i<=k/\k<j/\k<a.size/\x=at' a k:=by
 obtain⟨m,hm⟩:=List.mem_iff_getElem?.mp h;rw[Array.getElem?_toList,Array.getElem?_extract]at hm;split at hm
 ·rename_i hlt
  have hk:i+m<a.size:=(Array.getElem?_eq_some_iff.mp hm).1;rw[qo hk]at hm;injection hm with hm
  exact⟨i+m,by lia,by lia,hk,hm.symm⟩
 ·cases hm
theorem eG(a:Array ak)(i j:Nat):(a.extract i j).toList=(a.toList.drop i).take (j-i):=by
 simp[Array.toList_extract]
theorem eR{a:Array ak}(h:Srt LT a.toList)(i j:Nat):Srt LT (a.extract i j).toList:=by
 rw[eG];exact(h.sublist (List.drop_sublist _ _)).sublist (List.take_sublist _ _)
structure MI(LT:ak->ak->Bool)(a b out:Array ak)(ia ib:Nat):Prop where
 pm:out.toList.Perm (a.toList.take ia++b.toList.take ib)
 sr:Srt LT out.toList
 la:∀x∈out.toList,∀j,ia<=j->j<a.size->LT (at' a j) x=false
 lb:∀x∈out.toList,∀j,ib<=j->j<b.size->LT (at' b j) x=false
variable{a b out:Array ak}{ia ib:Nat}
theorem ve{l:List ak}{i k:Nat}:l.take (i+k)=l.take i++(l.drop i).take k:=List.take_add
theorem MI.takeA(W:Wo LT)(h:MI LT a b out ia ib)(Sa:Srt LT a.toList)(k:Nat)(hb:∀i,ia<=i->i<ia+k->i<a.size->∀j,ib<=j->j<b.size->LT (at' b j) (at' a i)=false):MI LT a b (out++a.extract ia (ia+k)) (ia+k) ib:=by
 refine⟨?_,?_,λx hx j h1 h2=>?_,λx hx j h1 h2=>?_⟩
 ·rw[bp,eG,ve,show ia+k-ia=k by lia];refine(h.pm.append_right _).trans ?_;rw[bA,bA];exact(List.perm_append_comm).append_left _
 ·rw[bp];refine List.pairwise_append.mpr ⟨h.sr,eR Sa _ _,λx hx y hy=>?_⟩;obtain⟨i,g1,g2,g3,rfl⟩:=qA hy;exact h.la x hx i g1 g3
 ·rw[bp]at hx;rcases List.mem_append.mp hx with hx|hx
  ·exact h.la x hx j (by lia) h2
  ·obtain⟨i,g1,g2,g3,rfl⟩:=qA hx;exact dQ W Sa (by lia) h2
 ·rw[bp]at hx;rcases List.mem_append.mp hx with hx|hx
  ·exact h.lb x hx j h1 h2
  ·obtain⟨i,g1,g2,g3,rfl⟩:=qA hx;exact hb i g1 g2 g3 j h1 h2
theorem MI.takeB(W:Wo LT)(h:MI LT a b out ia ib)(Sb:Srt LT b.toList)(k:Nat)(hb:∀i,ib<=i->i<ib+k->i<b.size->∀j,ia<=j->j<a.size->LT (at' a j) (at' b i)=false):MI LT a b (out++b.extract ib (ib+k)) ia (ib+k):=by
 refine⟨?_,?_,λx hx j h1 h2=>?_,λx hx j h1 h2=>?_⟩
 ·rw[bp,eG,ve,show ib+k-ib=k by lia,<-bA];exact h.pm.append_right _
 ·rw[bp];refine List.pairwise_append.mpr ⟨h.sr,eR Sb _ _,λx hx y hy=>?_⟩;obtain⟨i,g1,g2,g3,rfl⟩:=qA hy;exact h.lb x hx i g1 g3
 ·rw[bp]at hx;rcases List.mem_append.mp hx with hx|hx
  ·exact h.la x hx j h1 h2
  ·obtain⟨i,g1,g2,g3,rfl⟩:=qA hx;exact hb i g1 g2 g3 j h1 h2
 ·rw[bp]at hx;rcases List.mem_append.mp hx with hx|hx
  ·exact h.lb x hx j (by lia) h2
  ·obtain⟨i,g1,g2,g3,rfl⟩:=qA hx;exact dQ W Sb (by lia) h2
theorem nG{a out:Array ak}{i:Nat}(h:i<a.size):out.push (at' a i)=out++a.extract i (i+1):=by
 apply Array.toList_inj.mp;rw[Array.toList_push,bp,eG,show i+1-i=1 by lia]
 congr 1
 have hl:i<a.toList.length:=by rw[a8];exact h
 rw[fU hl];have e1:=qo (a:=a) (i:=i) h;rw[<-Array.getElem?_toList,List.getElem?_eq_getElem hl]at e1;injection e1 with e1
 rw[e1];rfl
theorem MI.pushA(W:Wo LT)(h:MI LT a b out ia ib)(Sa:Srt LT a.toList)(Sb:Srt LT b.toList)(hi:ia<a.size)(hb:ib<b.size->LT (at' b ib) (at' a ia)=false):MI LT a b (out.push (at' a ia)) (ia+1) ib:=by
 rw[nG hi];refine h.takeA W Sa 1 λi h1 h2 _ j g1 g2=>?_
 have:i=ia:=by lia
 subst this;exact W.neg _ _ _ (hb (by lia)) (dQ W Sb g1 g2)
theorem MI.pushB(W:Wo LT)(h:MI LT a b out ia ib)(Sa:Srt LT a.toList)(Sb:Srt LT b.toList)(hi:ib<b.size)(hb:ia<a.size->LT (at' b ib) (at' a ia)=true):MI LT a b (out.push (at' b ib)) ia (ib+1):=by
 rw[nG hi];refine h.takeB W Sb 1 λi h1 h2 _ j g1 g2=>?_
 have:i=ib:=by lia
 subst this;exact W.neg _ _ _ (W.asym _ _ (hb (by lia))) (dQ W Sa g1 g2)
noncomputable def Mg(LT:ak->ak->Bool)(a b r:Array ak):Prop:=r.toList.Perm (a.toList++b.toList)/\Srt LT r.toList
theorem MI.done(W:Wo LT)(h:MI LT a b out ia ib)(Sa:Srt LT a.toList)(Sb:Srt LT b.toList)(he:ib=b.size\/ia=a.size):Mg LT a b (out++a.extract ia++b.extract ib):=by
 have ea:(a.extract ia).toList=a.toList.drop ia:=by
  rw[eG];exact List.take_of_length_le (by simp)
 have eb:(b.extract ib).toList=b.toList.drop ib:=by
  rw[eG];exact List.take_of_length_le (by simp)
 refine⟨?_,?_⟩
 ·rw[bp,bp,ea,eb];refine((h.pm.append_right _).append_right _).trans ?_;have e1:=bL ia a.toList;have e2:=bL ib b.toList;rcases he with he|he
  ·have z1:b.toList.drop ib=[]:=List.drop_eq_nil_of_le (by rw[a8];lia);have z2:b.toList.take ib=b.toList:=List.take_of_length_le (by rw[a8];lia);rw[z1,z2,cQ,bA];refine(List.perm_append_comm.append_left _).trans ?_;rw[<-bA,e1]
  ·have z1:a.toList.drop ia=[]:=List.drop_eq_nil_of_le (by rw[a8];lia);have z2:a.toList.take ia=a.toList:=List.take_of_length_le (by rw[a8];lia);rw[z1,z2,cQ,bA,e2]
 ·rw[bp,bp];refine List.pairwise_append.mpr ⟨List.pairwise_append.mpr ⟨h.sr,eR Sa _ _,λx hx y hy=>?_⟩,eR Sb _ _,λx hx y hy=>?_⟩
  ·obtain⟨i,g1,g2,g3,rfl⟩:=qA hy;exact h.la x hx i g1 g3
  ·obtain⟨i,g1,g2,g3,rfl⟩:=qA hy;rcases List.mem_append.mp hx with hx|hx
   ·exact h.lb x hx i g1 g3
   ·obtain⟨j,k1,k2,k3,rfl⟩:=qA hx;lia
theorem MI.last(W:Wo LT)(h:MI LT a b out ia ib)(Sa:Srt LT a.toList)(Sb:Srt LT b.toList)(hl:ia+1=a.size)(hb:∀j,j<b.size->LT (at' b j) (at' a ia)=true):Mg LT a b (out++b.extract ib++a.extract ia):=by
 have ea:(a.extract ia).toList=a.toList.drop ia:=by
  rw[eG];exact List.take_of_length_le (by simp)
 have eb:(b.extract ib).toList=b.toList.drop ib:=by
  rw[eG];exact List.take_of_length_le (by simp)
 refine⟨?_,?_⟩
 ·rw[bp,bp,ea,eb];refine((h.pm.append_right _).append_right _).trans ?_;have e1:=bL ia a.toList;have e2:=bL ib b.toList;rw[bA (a.toList.take ia),e2];refine(List.perm_append_comm.append_right _).trans ?_;rw[bA,e1];exact List.perm_append_comm
 ·rw[bp,bp];refine List.pairwise_append.mpr ⟨List.pairwise_append.mpr ⟨h.sr,eR Sb _ _,λx hx y hy=>?_⟩,eR Sa _ _,λx hx y hy=>?_⟩
  ·obtain⟨i,g1,g2,g3,rfl⟩:=qA hy;exact h.lb x hx i g1 g3
  ·obtain⟨i,g1,g2,g3,rfl⟩:=qA hy;rcases List.mem_append.mp hx with hx|hx
   ·exact h.la x hx i g1 g3
   ·obtain⟨j,k1,k2,k3,rfl⟩:=qA hx;have:i=ia:=by lia
    subst this;exact W.asym _ _ (hb j k3)
end
abbrev setG(st:aN)(g:Nat):SortSt:=aN.mk' (kindOf st) (ag st) (a9 st) g (failedOf st)
section
variable{prog:aA}{w:au}{A:aB}{E:ae->af->Prop}{s:af}{κ:SortKind}{D:ak->Prop}{LT:ak->ak->Bool}
theorem Cmp.wo(C:Cmp prog w A s κ D LT):Wo LT:=⟨C.asym,C.neg⟩
theorem m7(W:Wo LT){a:Array ak}(S:Srt LT a.toList){left:Bool}{key:ak}{base n:Nat}(hn:base+n<=a.size):∀i j,i<=j->j<n->bey LT left key (at' a (base+j))=true->bey LT left key (at' a (base+i))=true:=by
 intro i j hij hj h;have o:=dQ W S (show base+i<=base+j by lia) (by lia);cases left with
 |true=>
  have h:LT (at' a (base+j)) key=true:=h;show LT (at' a (base+i)) key=true;exact W.le_lt o h
 |false=>
  have h:(!LT key (at' a (base+j)))=true:=h;show (!LT key (at' a (base+i)))=true;have h':LT key (at' a (base+j))=false:=by simpa using h
  rw[W.neg _ _ _ o h'];rfl
theorem share1{α γ:Type}{M:Model}{c:α->Prop} [∀u,Decidable (c u)]{X F:α->StateT aN Sem γ}{Q:γ->aN->Prop}{st:aN}(hG:(∀u,wpS M A E s (F u) Q st)->∀u,wpS M A E s (if c u then X u else F u) Q st)(H:∀u,wpS M A E s (F u) Q st):∀u,wpS M A E s (if c u then X u else F u) Q st:=hG H
theorem kU{α β γ:Type}{M:Model}{c:Prop} [Decidable c]{X F:α->β->StateT aN Sem γ}{x:α}{y:β}{Q:γ->aN->Prop}{st:aN}(C:α->β->Prop)(hG:(∀u v,C u v->wpS M A E s (F u v) Q st)->∀u,x=u->∀v,y=v->wpS M A E s (if c then X u v else F u v) Q st)(H:∀u v,C u v->wpS M A E s (F u v) Q st):∀u,x=u->∀v,y=v->wpS M A E s (if c then X u v else F u v) Q st:=hG H
theorem mi0{a b:Array ak}:MI LT a b #[] 0 0:=⟨by simp,by simp[Srt],by simp,by simp⟩
theorem GZ(C:Cmp prog w A s κ D LT){a b:Array ak}{st:aN}{Q:Array ak->aN->Prop}(hk:kindOf st=κ)(Da:∀i,i<a.size->D (at' a i))(Db:∀i,i<b.size->D (at' b i))(Sa:Srt LT a.toList)(Sb:Srt LT b.toList)
  (ha:0<a.size) (hb:0<b.size) (h0:LT (at' b 0) (at' a 0)=true) (hl:∀j,j<b.size->LT (at' b j) (at' a (a.size-1))=true) (h:∀r g,Mg LT a b r->Q r (setG st g)):wpS (ao prog w) A E s (tm a b) Q st:=by
 have W:=C.wo;have lastA:∀{ia:Nat},ia+1=a.size->∀j,j<b.size->LT (at' b j) (at' a ia)=true:=λ{ia} e j hj=>by
  have:ia=a.size-1:=by lia
  rw[this];exact hl j hj
 unfold tm;refine ar (wpS_lift (wpAny_rule ⟨rfl,?_⟩));refine ar (zh (qo hb) ?_);have M1:MI LT a b #[at' b 0] 0 1:=(mi0 (LT:=LT)).pushB W Sa Sb hb λ_=>h0
 dsimp only;refine wpI (λe1=>?_) λe1=>?_
 ·exact av (h _ (gallopOf st) (M1.done W Sa Sb (.inl (by simpa using e1))))
 refine wpI (λe2=>?_) λe2=>?_
 ·exact av (h _ (gallopOf st) (M1.last W Sa Sb (by simpa using e2) (lastA (by simpa using e2))))
 have e1':1≠b.size:=by simpa using e1
 have e2':1≠a.size:=by simpa using e2
 refine ar (wpS_get ?_);refine ar (wpS_mono (Q:=λc st'=>∃r g,c.1=some r/\Mg LT a b r/\st'=setG st g) ?_ ?_)
 ·refine wpS_forRange (λi c st'=>∃g,st'=setG st g/\c.1=none/\MI LT a b c.2.1 c.2.2.1 c.2.2.2.1/\c.2.2.1+1<a.size/\c.2.2.2.1<b.size/\i<=c.2.2.1+c.2.2.2.1) ?_ ?_ ⟨gallopOf st,rfl,rfl,M1,by show 0+1<a.size;lia,by show 1<b.size;lia,bx _⟩
  ·refine λi=>pr5 λc0 out ia ib mg st' _ hi x=>exE (λg y=>stE y.1 ?_) x
   clear x;have M:=y.2.2.1;have h1:=y.2.2.2.1;have h2:=y.2.2.2.2.1;have h3:=y.2.2.2.2.2;clear y;dsimp only at M h1 h2 h3 ⊢;refine ar (wpS_mono (Q:=λc st'=>st'=setG st g/\((∃r,c.1=some r/\Mg LT a b r)\/(c.1=none/\MI LT a b c.2.1 c.2.2.1 c.2.2.2.1/\c.2.2.1+1<a.size/\c.2.2.2.1<b.size/\ia+ib+1<=c.2.2.1+c.2.2.2.1))) ?_ ?_)
   ·refine wpS_forRange (λj c st'=>st'=setG st g/\c.1=none/\MI LT a b c.2.1 c.2.2.1 c.2.2.2.1/\c.2.2.1+1<a.size/\c.2.2.2.1<b.size/\ia+ib+j<=c.2.2.1+c.2.2.2.1) ?_ ?_ ⟨rfl,rfl,M,h1,h2,aG _⟩
    ·refine λj=>pr6 λc0 out ia2 ib2 ac bc st' _ hj y=>stE y.1 ?_
     have M:=y.2.2.1;have h1:=y.2.2.2.1;have h2:=y.2.2.2.2.1;have h3:=y.2.2.2.2.2;clear y;dsimp only at M h1 h2 h3 ⊢;refine ar (zh (qo h2) ?_);refine ar (zh (qo (show ia2<a.size by lia)) ?_);refine ar (iS C (Db _ h2) (Da _ (by lia)) hk ?_);dsimp only;refine wpI (λq=>?_) λq=>?_
     ·refine ar (zh (qo h2) ?_);have M2:=M.pushB W Sa Sb h2 λ_=>q
      refine wpI (λe3=>?_) λe3=>?_
      ·exact av ⟨rfl,.inl ⟨_,rfl,M2.done W Sa Sb (.inl (by simpa using e3))⟩⟩
      have e3':ib2+1≠b.size:=by simpa using e3
      refine wpI (λe4=>?_) λe4=>?_
      ·exact av ⟨rfl,.inr ⟨rfl,M2,h1,by show ib2+1<b.size;lia,by show ia+ib+1<=ia2+(ib2+1);lia⟩⟩
      ·exact av ⟨rfl,rfl,M2,h1,by show ib2+1<b.size;lia,by show ia+ib+(j+1)<=ia2+(ib2+1);lia⟩
     ·have q:=eq_false_of_ne_true q;refine ar (zh (qo (show ia2<a.size by lia)) ?_);have M2:=M.pushA W Sa Sb (by lia) λ_=>q
      refine wpI (λe3=>?_) λe3=>?_
      ·exact av ⟨rfl,.inl ⟨_,rfl,M2.last W Sa Sb (by simpa using e3) (lastA (by simpa using e3))⟩⟩
      have e3':ia2+1+1≠a.size:=by simpa using e3
      refine wpI (λe4=>?_) λe4=>?_
      ·exact av ⟨rfl,.inr ⟨rfl,M2,by show ia2+1+1<a.size;lia,h2,by show ia+ib+1<=ia2+1+ib2;lia⟩⟩
      ·exact av ⟨rfl,rfl,M2,by show ia2+1+1<a.size;lia,h2,by show ia+ib+(j+1)<=ia2+1+ib2;lia⟩
    ·rintro⟨c0,out,ia2,ib2,ac,bc⟩ st' ⟨rfl,rfl,M,h1,h2,h3⟩;dsimp only at M h1 h2 h3;exact absurd h3 (by lia)
   ·refine pr6 λc0 out ia2 ib2 ac bc st' y=>stE y.1 ?_
    have hc:=y.2;clear y;dsimp only at hc ⊢;rcases hc with ⟨r,rfl,hm⟩|⟨rfl,M,h1,h2,h3⟩
    ·exact av ⟨r,g,rfl,hm,rfl⟩
    dsimp only;refine ar (wpS_lift (wpAny_rule ⟨rfl,?_⟩));refine ar (wpS_mono (Q:=λc st'=>∃g,st'=setG st g/\((∃r,c.1=some r/\Mg LT a b r)\/(c.1=none/\MI LT a b c.2.1 c.2.2.1 c.2.2.2.1/\c.2.2.1+1<a.size/\c.2.2.2.1<b.size/\ia+ib+1<=c.2.2.1+c.2.2.2.1))) ?_ ?_)
    ·refine wpS_forRange (λj c st'=>∃g,st'=setG st g/\c.1=none/\MI LT a b c.2.1 c.2.2.1 c.2.2.2.1/\c.2.2.1+1<a.size/\c.2.2.2.1<b.size/\ia+ib+1+j<=c.2.2.1+c.2.2.2.1) ?_ ?_ ⟨g,rfl,rfl,M,h1,h2,h3⟩
     ·clear M h1 h2 h3;refine λj=>pr7 λc0 out ia2 ib2 mg2 ac bc st' _ hj x=>exE (λg y=>stE y.1 ?_) x
      clear x;have M:=y.2.2.1;have h1:=y.2.2.2.1;have h2:=y.2.2.2.2.1;have h3:=y.2.2.2.2.2;clear y;dsimp only at M h1 h2 h3 ⊢;revert mg2;refine share1 (λH mg2=>?_) ?_
      ·show wpS _ _ _ _ _ _ _;by_cases e0:¬ mg2>1
       ·rw[if_neg e0];exact H mg2
       ·rw[if_pos (Decidable.not_not.mp e0)];exact H (mg2-1)
      intro mg3;refine ar (wpS_modify ?_);refine ar (zh (qo h2) ?_);refine ar (iq C hk (Db _ h2) (λi=>at' a (ia2+i)) (λi hi=>⟨qo (by lia),Da _ (by lia)⟩) (by lia) (m7 W Sa (by lia)) λk l1 l2 l3=>?_);dsimp only;have t2:∀i,ia2<=i->i<ia2+k->LT (at' b ib2) (at' a i)=false:=λi g1 g2=>by
       have:=l2 (i-ia2) (by lia);rw[show ia2+(i-ia2)=i by lia]at this;have this:(!LT (at' b ib2) (at' a i))=true:=this
       simpa using this
      have t3:ia2+k<a.size->LT (at' b ib2) (at' a (ia2+k))=true:=λz=>by
       have:=l3 k (aG _) (by lia);have this:(!LT (at' b ib2) (at' a (ia2+k)))=false:=this
       simpa using this
      generalize hu:out=u;generalize hv:ia2=v;revert u v;refine kU (λout' ia'=>MI LT a b out' ia' ib2/\ia'+1<a.size/\ia2<=ia'/\LT (at' b ib2) (at' a ia')=true) (λH u hu v hv=>?_) ?_
      ·subst hu;subst hv;by_cases e4:¬ k>0
       ·rw[if_neg e4];refine H out ia2 ⟨M,h1,aG _,?_⟩;have:=t3 (by lia);rw[show k=0 by lia]at this;exact this
       ·rw[if_pos (Decidable.not_not.mp e4)];have M2:=M.takeA W Sa k λi g1 g2 _ j' g3 g4=>W.neg _ _ _ (t2 i g1 g2) (dQ W Sb g3 g4)
        refine wpI (λe3=>?_) λe3=>?_
        ·exact av ⟨_,rfl,.inl ⟨_,rfl,M2.last W Sa Sb (by simpa using e3) (lastA (by simpa using e3))⟩⟩
        have e3':ia2+k+1≠a.size:=by simpa using e3
        refine wpI (λe9=>?_) λe9=>?_
        ·exact av ⟨_,rfl,.inl ⟨_,rfl,M2.done W Sa Sb (.inr (by simpa using e9))⟩⟩
        have e9':ia2+k≠a.size:=by simpa using e9
        exact H _ _ ⟨M2,by lia,by lia,t3 (by lia)⟩
      rintro out3 ia3 ⟨M2,hia,hge,q2⟩
      try dsimp only
      refine ar (zh (qo h2) ?_);have M3:=M2.pushB W Sa Sb h2 λ_=>q2
      refine wpI (λe5=>?_) λe5=>?_
      ·exact av ⟨_,rfl,.inl ⟨_,rfl,M3.done W Sa Sb (.inl (by simpa using e5))⟩⟩
      have e5':ib2+1≠b.size:=by simpa using e5
      refine ar (zh (qo (show ia3<a.size by lia)) ?_);generalize out3.push (at' b ib2)=out5 at M3 ⊢;have hY:∃n,ib2+1=n:=⟨_,rfl⟩
      obtain⟨ib3,hY⟩:=hY;rw[hY]at M3 e5' ⊢;refine ar (iq C hk (Da _ (by lia)) (λi=>at' b (ib3+i)) (λi hi=>⟨qo (by lia),Db _ (by lia)⟩) (by lia) (m7 W Sb (by lia)) λk' l1 l2 l3=>?_);dsimp only;have t2:∀i,ib3<=i->i<ib3+k'->LT (at' b i) (at' a ia3)=true:=λi g1 g2=>by
       have:=l2 (i-ib3) (by lia);rw[show ib3+(i-ib3)=i by lia]at this;exact this
      have t3:ib3+k'<b.size->LT (at' b (ib3+k')) (at' a ia3)=false:=λz=>l3 k' (aG _) (by lia)
      generalize hu:out5=u;generalize hv:ib3=v;revert u v;refine kU (λout' ib'=>MI LT a b out' ia3 ib'/\ib'<b.size/\ib3<=ib'/\LT (at' b ib') (at' a ia3)=false) (λH u hu v hv=>?_) ?_
      ·subst hu;subst hv;by_cases e6:¬ k'>0
       ·rw[if_neg e6];refine H out5 ib3 ⟨M3,by lia,aG _,?_⟩;have:=t3 (by lia);rw[show k'=0 by lia]at this;exact this
       ·rw[if_pos (Decidable.not_not.mp e6)];have M4:=M3.takeB W Sb k' λi g1 g2 _ j' g3 g4=>W.neg _ _ _ (W.asym _ _ (t2 i g1 g2)) (dQ W Sa g3 g4)
        refine wpI (λe8=>?_) λe8=>?_
        ·exact av ⟨_,rfl,.inl ⟨_,rfl,M4.done W Sa Sb (.inl (by simpa using e8))⟩⟩
        have e8':ib3+k'≠b.size:=by simpa using e8
        exact H _ _ ⟨M4,by lia,by lia,t3 (by lia)⟩
      rintro out4 ib4 ⟨M4,hib,hgb,q5⟩
      try dsimp only
      refine ar (zh (qo (show ia3<a.size by lia)) ?_);have M5:=M4.pushA W Sa Sb (show ia3<a.size by lia) λ_=>q5
      refine wpI (λe7=>?_) λe7=>?_
      ·exact av ⟨_,rfl,.inl ⟨_,rfl,M5.last W Sa Sb (by simpa using e7) (lastA (by simpa using e7))⟩⟩
      have e7':ia3+1+1≠a.size:=by simpa using e7
      split
      ·exact av ⟨_,rfl,.inr ⟨rfl,M5,by show ia3+1+1<a.size;lia,by show ib4<b.size;lia,by show ia+ib+1<=ia3+1+ib4;lia⟩⟩
      ·exact av ⟨_,rfl,rfl,M5,by show ia3+1+1<a.size;lia,by show ib4<b.size;lia,by show ia+ib+1+(j+1)<=ia3+1+ib4;lia⟩
     ·clear M h1 h2 h3;rintro⟨c0,out,ia2,ib2,mg2,ac,bc⟩ st' ⟨g,rfl,rfl,M,h1,h2,h3⟩;dsimp only at M h1 h2 h3;exact absurd h3 (by lia)
    ·refine pr7 λc0 out ia2 ib2 mg2 ac bc st' x=>exE (λg y=>stE y.1 ?_) x
     clear x;have hc:=y.2;clear y;dsimp only at hc ⊢;rcases hc with ⟨r,rfl,hm⟩|⟨rfl,M,h1,h2,h3⟩
     ·exact av ⟨r,g,rfl,hm,rfl⟩
     dsimp only;refine ar (wpS_modify ?_);exact av ⟨mg2+1,rfl,rfl,M,h1,h2,by show i+1<=ia2+ib2;lia⟩
  ·rintro⟨c0,out,ia,ib,mg⟩ st' ⟨g,rfl,rfl,M,h1,h2,h3⟩;dsimp only at M h1 h2 h3;exact absurd h3 (by lia)
 ·rintro⟨c0,out,ia,ib,mg⟩ st' ⟨r,g,hr,hm,rfl⟩;dsimp only at hr ⊢;subst hr;exact av (h r g hm)
end
section
variable{LT:ak->ak->Bool}
structure MH(LT:ak->ak->Bool)(a b out:Array ak)(na nb:Nat):Prop where
 pm:out.toList.Perm (a.toList.drop na++b.toList.drop nb)
 sr:Srt LT out.toList.reverse
 la:∀x∈out.toList,∀j,j<na->LT x (at' a j)=false
 lb:∀x∈out.toList,∀j,j<nb->LT x (at' b j)=false
variable{a b out:Array ak}{na nb:Nat}
theorem rp{l:List ak}{m n:Nat}(h:m<=n):l.drop m=(l.drop m).take (n-m)++l.drop n:=by
 have:=(bL (n-m) (l.drop m)).symm;rw[List.drop_drop,show m+(n-m)=n by lia]at this;exact this
theorem MH.takeA(W:Wo LT)(h:MH LT a b out na nb)(Sa:Srt LT a.toList)(hna:na<=a.size)(m:Nat)(hm:m<=na)(hb:∀i,m<=i->i<na->∀j,j<nb->LT (at' a i) (at' b j)=false):MH LT a b (out++(a.extract m na).reverse) m nb:=by
 have mem:∀{x},x∈(out++(a.extract m na).reverse).toList->x∈out.toList\/x∈(a.extract m na).toList:=λ{x} hx=>by
  rw[bp,Array.toList_reverse]at hx;rcases List.mem_append.mp hx with hx|hx
  ·exact .inl hx
  ·exact .inr (List.mem_reverse.mp hx)
 refine⟨?_,?_,λx hx j h1=>?_,λx hx j h1=>?_⟩
 ·rw[bp,Array.toList_reverse,eG];have e:=rp (l:=a.toList) hm;generalize (a.toList.drop m).take (na-m)=T at e ⊢;rw[e];refine(h.pm.append (List.reverse_perm _)).trans ?_;refine List.perm_append_comm.trans ?_;rw[bA]
 ·rw[bp,Array.toList_reverse,List.reverse_append,List.reverse_reverse];refine List.pairwise_append.mpr ⟨eR Sa _ _,h.sr,λx hx y hy=>?_⟩;obtain⟨i,g1,g2,g3,rfl⟩:=qA hx;exact h.la y (List.mem_reverse.mp hy) i g2
 ·rcases mem hx with hx|hx
  ·exact h.la x hx j (by lia)
  ·obtain⟨i,g1,g2,g3,rfl⟩:=qA hx;exact dQ W Sa (by lia) g3
 ·rcases mem hx with hx|hx
  ·exact h.lb x hx j h1
  ·obtain⟨i,g1,g2,g3,rfl⟩:=qA hx;exact hb i g1 g2 j h1
theorem MH.takeB(W:Wo LT)(h:MH LT a b out na nb)(Sb:Srt LT b.toList)(hnb:nb<=b.size)(m:Nat)(hm:m<=nb)(hb:∀i,m<=i->i<nb->∀j,j<na->LT (at' b i) (at' a j)=false):MH LT a b (out++(b.extract m nb).reverse) na m:=by
 have mem:∀{x},x∈(out++(b.extract m nb).reverse).toList->x∈out.toList\/x∈(b.extract m nb).toList:=λ{x} hx=>by
  rw[bp,Array.toList_reverse]at hx;rcases List.mem_append.mp hx with hx|hx
  ·exact .inl hx
  ·exact .inr (List.mem_reverse.mp hx)
 refine⟨?_,?_,λx hx j h1=>?_,λx hx j h1=>?_⟩
 ·rw[bp,Array.toList_reverse,eG];have e:=rp (l:=b.toList) hm;generalize (b.toList.drop m).take (nb-m)=T at e ⊢;rw[e];refine(h.pm.append (List.reverse_perm _)).trans ?_;rw[bA];exact List.perm_append_comm.append_left _
 ·rw[bp,Array.toList_reverse,List.reverse_append,List.reverse_reverse];refine List.pairwise_append.mpr ⟨eR Sb _ _,h.sr,λx hx y hy=>?_⟩;obtain⟨i,g1,g2,g3,rfl⟩:=qA hx;exact h.lb y (List.mem_reverse.mp hy) i g2
 ·rcases mem hx with hx|hx
  ·exact h.la x hx j h1
  ·obtain⟨i,g1,g2,g3,rfl⟩:=qA hx;exact hb i g1 g2 j h1
 ·rcases mem hx with hx|hx
  ·exact h.lb x hx j (by lia)
  ·obtain⟨i,g1,g2,g3,rfl⟩:=qA hx;exact dQ W Sb (by lia) g3
theorem tF{a out:Array ak}{i:Nat}(h:i<a.size):out.push (at' a i)=out++(a.extract i (i+1)).reverse:=by
 have:=nG (out:=(#[]:Array ak)) h;have e:a.extract i (i+1) = #[at' a i]:=by
  have h2:(#[]:Array ak)++a.extract i (i+1)=a.extract i (i+1):=by simp
  rw[h2]at this;rw[<-this];rfl
 rw[e];simp
theorem MH.pushA(W:Wo LT)(h:MH LT a b out (na+1) nb)(Sa:Srt LT a.toList)(Sb:Srt LT b.toList)(hi:na<a.size)(hnb:nb<=b.size)(hb:0<nb->LT (at' b (nb-1)) (at' a na)=true):MH LT a b (out.push (at' a na)) na nb:=by
 rw[tF hi];refine h.takeA W Sa (by lia) na (by lia) λi h1 h2 j g1=>?_
 have:i=na:=by lia
 subst this;exact W.neg _ _ _ (dQ W Sb (show j<=nb-1 by lia) (by lia)) (W.asym _ _ (hb (by lia)))
theorem MH.pushB(W:Wo LT)(h:MH LT a b out na (nb+1))(Sa:Srt LT a.toList)(Sb:Srt LT b.toList)(hi:nb<b.size)(hna:na<=a.size)(hb:0<na->LT (at' b nb) (at' a (na-1))=false):MH LT a b (out.push (at' b nb)) na nb:=by
 rw[tF hi];refine h.takeB W Sb (by lia) nb (by lia) λi h1 h2 j g1=>?_
 have:i=nb:=by lia
 subst this;exact W.neg _ _ _ (dQ W Sa (show j<=na-1 by lia) (by lia)) (hb (by lia))
theorem kY(a:Array ak)(n:Nat):(a.extract 0 n).toList=a.toList.take n:=by
 rw[eG,List.drop_zero];rfl
theorem MH.done(W:Wo LT)(h:MH LT a b out na nb)(Sa:Srt LT a.toList)(Sb:Srt LT b.toList)(he:na=0\/nb=0):Mg LT a b (a.extract 0 na++b.extract 0 nb++out.reverse):=by
 refine⟨?_,?_⟩
 ·rw[bp,bp,Array.toList_reverse,kY,kY];refine((List.reverse_perm _).trans h.pm).append_left _ |>.trans ?_;have e1:=bL na a.toList;have e2:=bL nb b.toList;rcases he with he|he
  ·subst he;rw[List.take_zero,List.drop_zero,List.nil_append];refine List.perm_append_comm.trans ?_;rw[bA];refine(List.perm_append_comm.append_left _).trans ?_;rw[e2]
  ·subst he;rw[List.take_zero,List.drop_zero,cQ,<-bA,e1]
 ·rw[bp,bp,Array.toList_reverse];refine List.pairwise_append.mpr ⟨List.pairwise_append.mpr ⟨eR Sa _ _,eR Sb _ _,λx hx y hy=>?_⟩,h.sr,λx hx y hy=>?_⟩
  ·obtain⟨i,g1,g2,g3,rfl⟩:=qA hx;obtain⟨j,k1,k2,k3,rfl⟩:=qA hy;lia
  ·have hy:=List.mem_reverse.mp hy;rcases List.mem_append.mp hx with hx|hx
   ·obtain⟨i,g1,g2,g3,rfl⟩:=qA hx;exact h.la y hy i g2
   ·obtain⟨i,g1,g2,g3,rfl⟩:=qA hx;exact h.lb y hy i g2
theorem MH.first(W:Wo LT)(h:MH LT a b out na nb)(Sa:Srt LT a.toList)(Sb:Srt LT b.toList)(hl:nb=1)(hb:∀j,j<a.size->LT (at' b 0) (at' a j)=true):Mg LT a b (b.extract 0 nb++a.extract 0 na++out.reverse):=by
 subst hl;refine⟨?_,?_⟩
 ·rw[bp,bp,Array.toList_reverse,kY,kY];refine((List.reverse_perm _).trans h.pm).append_left _ |>.trans ?_;have e1:=bL na a.toList;have e2:=bL 1 b.toList;rw[bA,<-bA (a.toList.take na),e1];refine List.perm_append_comm.trans ?_;rw[bA];refine(List.perm_append_comm.append_left _).trans ?_;rw[e2]
 ·rw[bp,bp,Array.toList_reverse];refine List.pairwise_append.mpr ⟨List.pairwise_append.mpr ⟨eR Sb _ _,eR Sa _ _,λx hx y hy=>?_⟩,h.sr,λx hx y hy=>?_⟩
  ·obtain⟨i,g1,g2,g3,rfl⟩:=qA hx;obtain⟨j,k1,k2,k3,rfl⟩:=qA hy;have:i=0:=by lia
   subst this;exact W.asym _ _ (hb j k3)
  ·have hy:=List.mem_reverse.mp hy;rcases List.mem_append.mp hx with hx|hx
   ·obtain⟨i,g1,g2,g3,rfl⟩:=qA hx;exact h.lb y hy i g2
   ·obtain⟨i,g1,g2,g3,rfl⟩:=qA hx;exact h.la y hy i g2
theorem mh0{a b:Array ak}:MH LT a b #[] a.size b.size:=⟨by
 rw[List.drop_eq_nil_of_le (by simp),List.drop_eq_nil_of_le (by simp)];simp,by simp[Srt],by simp,by simp⟩
end
section
variable{prog:aA}{w:au}{A:aB}{E:ae->af->Prop}{s:af}{κ:SortKind}{D:ak->Prop}{LT:ak->ak->Bool}
theorem tP(W:Wo LT){a:Array ak}(S:Srt LT a.toList){left:Bool}{key:ak}{n:Nat}(hn:n<=a.size):∀i j,i<=j->j<n->bey LT left key (at' a j)=true->bey LT left key (at' a i)=true:=by
 intro i j h1 h2 h3;have:=m7 W S (left:=left) (key:=key) (base:=0) (n:=n) (by lia) i j h1 h2;rw[Nat.zero_add,Nat.zero_add]at this;exact this h3
theorem Dz(C:Cmp prog w A s κ D LT){a b:Array ak}{st:aN}{Q:Array ak->aN->Prop}(hk:kindOf st=κ)(Da:∀i,i<a.size->D (at' a i))(Db:∀i,i<b.size->D (at' b i))(Sa:Srt LT a.toList)(Sb:Srt LT b.toList)
  (ha:0<a.size) (hb:0<b.size) (h0:LT (at' b 0) (at' a 0)=true) (hl:∀j,j<b.size->LT (at' b j) (at' a (a.size-1))=true) (h:∀r g,Mg LT a b r->Q r (setG st g)):wpS (ao prog w) A E s (r9 a b) Q st:=by
 have W:=C.wo;have fst:∀j,j<a.size->LT (at' b 0) (at' a j)=true:=λj hj=>W.lt_le h0 (dQ W Sa (bx j) hj)
 unfold r9;refine ar (wpS_lift (wpAny_rule ⟨rfl,?_⟩));refine ar (zh (qo (show a.size-1<a.size by lia)) ?_);have M1:MH LT a b #[at' a (a.size-1)] (a.size-1) b.size:=by
  have M0:MH LT a b #[] (a.size-1+1) b.size:=by rw[show a.size-1+1=a.size by lia];exact mh0
  exact M0.pushA W Sa Sb (by lia) (aG _) λ_=>hl _ (by lia)
 dsimp only;refine wpI (λe1=>?_) λe1=>?_
 ·exact av (h _ (gallopOf st) (M1.done W Sa Sb (.inl (by simpa using e1))))
 refine wpI (λe2=>?_) λe2=>?_
 ·exact av (h _ (gallopOf st) (M1.first W Sa Sb (by simpa using e2) fst))
 have e1':a.size-1≠0:=by simpa using e1
 have e2':b.size≠1:=by simpa using e2
 refine ar (wpS_get ?_);refine ar (wpS_mono (Q:=λc st'=>∃r g,c.1=some r/\Mg LT a b r/\st'=setG st g) ?_ ?_)
 ·refine wpS_forRange (λi c st'=>∃g,st'=setG st g/\c.1=none/\MH LT a b c.2.2.2.1 c.2.1 c.2.2.1/\(1<=c.2.1/\c.2.1<a.size)/\(2<=c.2.2.1/\c.2.2.1<=b.size)/\c.2.1+c.2.2.1+i<=a.size+b.size) ?_ ?_ ⟨gallopOf st,rfl,rfl,M1,by show 1<=a.size-1/\a.size-1<a.size;lia,by show 2<=b.size/\b.size<=b.size;lia,by show a.size-1+b.size+0<=_;lia⟩
  ·refine λi=>pr5 λc0 na nb out mg st' _ hi x=>exE (λg y=>stE y.1 ?_) x
   clear x;have M:=y.2.2.1;have h1:=y.2.2.2.1;have h2:=y.2.2.2.2.1;have h3:=y.2.2.2.2.2;clear y;dsimp only at M h1 h2 h3 ⊢;refine ar (wpS_mono (Q:=λc st'=>st'=setG st g/\((∃r,c.1=some r/\Mg LT a b r)\/(c.1=none/\MH LT a b c.2.2.2.1 c.2.1 c.2.2.1/\(1<=c.2.1/\c.2.1<a.size)/\(2<=c.2.2.1/\c.2.2.1<=b.size)/\c.2.1+c.2.2.1+1<=na+nb))) ?_ ?_)
   ·refine wpS_forRange (λj c st'=>st'=setG st g/\c.1=none/\MH LT a b c.2.2.2.1 c.2.1 c.2.2.1/\(1<=c.2.1/\c.2.1<a.size)/\(2<=c.2.2.1/\c.2.2.1<=b.size)/\c.2.1+c.2.2.1+j<=na+nb) ?_ ?_ ⟨rfl,rfl,M,h1,h2,aG _⟩
    ·clear M;refine λj=>pr6 λc0 na2 nb2 out ac bc st' _ hj y=>stE y.1 ?_
     have M:=y.2.2.1;have g1:=y.2.2.2.1;have g2:=y.2.2.2.2.1;have g3:=y.2.2.2.2.2;clear y;dsimp only at M g1 g2 g3 ⊢;refine ar (zh (qo (show nb2-1<b.size by lia)) ?_);refine ar (zh (qo (show na2-1<a.size by lia)) ?_);refine ar (iS C (Db _ (by lia)) (Da _ (by lia)) hk ?_);obtain⟨na3,rfl⟩:∃n,na2=n+1:=⟨na2-1,by lia⟩
     obtain⟨nb3,rfl⟩:∃n,nb2=n+1:=⟨nb2-1,by lia⟩
     simp only[Nat.add_sub_cancel];refine wpI (λq=>?_) λq=>?_
     ·refine ar (zh (qo (show na3<a.size by lia)) ?_);have M2:=M.pushA W Sa Sb (by lia) (by lia) λ_=>q
      refine wpI (λe3=>?_) λe3=>?_
      ·exact av ⟨rfl,.inl ⟨_,rfl,M2.done W Sa Sb (.inl (by simpa using e3))⟩⟩
      have e3':na3≠0:=by simpa using e3
      refine wpI (λe4=>?_) λe4=>?_
      ·exact av ⟨rfl,.inr ⟨rfl,M2,by show 1<=na3/\na3<a.size;lia,g2,by show na3+(nb3+1)+1<=na+nb;lia⟩⟩
      ·exact av ⟨rfl,rfl,M2,by show 1<=na3/\na3<a.size;lia,g2,by show na3+(nb3+1)+(j+1)<=na+nb;lia⟩
     ·have q:=eq_false_of_ne_true q;refine ar (zh (qo (show nb3<b.size by lia)) ?_);have M2:=M.pushB W Sa Sb (by lia) (by lia) λ_=>q
      refine wpI (λe3=>?_) λe3=>?_
      ·exact av ⟨rfl,.inl ⟨_,rfl,M2.first W Sa Sb (by simpa using e3) fst⟩⟩
      have e3':nb3≠1:=by simpa using e3
      refine wpI (λe4=>?_) λe4=>?_
      ·exact av ⟨rfl,.inr ⟨rfl,M2,g1,by show 2<=nb3/\nb3<=b.size;lia,by show na3+1+nb3+1<=na+nb;lia⟩⟩
      ·exact av ⟨rfl,rfl,M2,g1,by show 2<=nb3/\nb3<=b.size;lia,by show na3+1+nb3+(j+1)<=na+nb;lia⟩
    ·clear M;rintro⟨c0,na2,nb2,out,ac,bc⟩ st' ⟨rfl,rfl,M,g1,g2,g3⟩;dsimp only at M g1 g2 g3;exact absurd g3 (by lia)
   ·refine pr6 λc0 na2 nb2 out ac bc st' y=>stE y.1 ?_
    have hc:=y.2;clear y;dsimp only at hc ⊢;rcases hc with ⟨r,rfl,hm⟩|⟨rfl,M,g1,g2,g3⟩
    ·exact av ⟨r,g,rfl,hm,rfl⟩
    dsimp only;refine ar (wpS_lift (wpAny_rule ⟨rfl,?_⟩));refine ar (wpS_mono (Q:=λc st'=>∃g,st'=setG st g/\((∃r,c.1=some r/\Mg LT a b r)\/(c.1=none/\MH LT a b c.2.2.2.1 c.2.1 c.2.2.1/\(1<=c.2.1/\c.2.1<a.size)/\(2<=c.2.2.1/\c.2.2.1<=b.size)/\c.2.1+c.2.2.1+1<=na+nb))) ?_ ?_)
    ·refine wpS_forRange (λj c st'=>∃g,st'=setG st g/\c.1=none/\MH LT a b c.2.2.2.1 c.2.1 c.2.2.1/\(1<=c.2.1/\c.2.1<a.size)/\(2<=c.2.2.1/\c.2.2.1<=b.size)/\c.2.1+c.2.2.1+1+j<=na+nb) ?_ ?_ ⟨g,rfl,rfl,M,g1,g2,g3⟩
     ·clear M g1 g2 g3;refine λj=>pr7 λc0 na2 nb2 out mg2 ac bc st' _ hj x=>exE (λg y=>stE y.1 ?_) x
      clear x;have M:=y.2.2.1;have g1:=y.2.2.2.1;have g2:=y.2.2.2.2.1;have g3:=y.2.2.2.2.2;clear y;dsimp only at M g1 g2 g3 ⊢;obtain⟨nb3,rfl⟩:∃n,nb2=n+1:=⟨nb2-1,by lia⟩
      revert mg2;refine share1 (λH mg2=>?_) ?_
      ·by_cases e0:¬ mg2>1
       ·rw[if_neg e0];exact H mg2
       ·rw[if_pos (Decidable.not_not.mp e0)];exact H (mg2-1)
      intro mg3;refine ar (wpS_modify ?_);refine ar (zh (qo (show nb3+1-1<b.size by lia)) ?_);refine ar (iq C hk (Db _ (by lia)) (λi=>at' a i) (λi hi=>⟨by rw[Nat.zero_add];exact qo (by lia),Da _ (by lia)⟩) (by lia) (tP W Sa (by lia)) λk l1 l2 l3=>?_);simp only[Nat.add_sub_cancel]at l2 l3;dsimp only;have t2:∀i,i<k->LT (at' b nb3) (at' a i)=false:=λi g1=>by
       have this:(!LT (at' b nb3) (at' a i))=true:=l2 i g1
       simpa using this
      have t3:∀i,k<=i->i<na2->LT (at' b nb3) (at' a i)=true:=λi z1 z2=>by
       have this:(!LT (at' b nb3) (at' a i))=false:=l3 i z1 z2
       simpa using this
      generalize hac:na2-k=ac2;generalize hu:out=u;generalize hv:na2=v;revert u v;refine kU (λout' na'=>MH LT a b out' na' (nb3+1)/\1<=na'/\na'<=na2/\LT (at' b nb3) (at' a (na'-1))=false) (λH u hu v hv=>?_) ?_
      ·subst hu;subst hv;by_cases e4:¬ ac2>0
       ·rw[if_neg e4];exact H out na2 ⟨M,by lia,aG _,t2 _ (by lia)⟩
       ·rw[if_pos (Decidable.not_not.mp e4)];have M2:=M.takeA W Sa (by lia) k (by lia) λi g1 g2 j' g3=>W.neg _ _ _ (dQ W Sb (show j'<=nb3 by lia) (by lia)) (W.asym _ _ (t3 i g1 g2))
        refine wpI (λe3=>?_) λe3=>?_
        ·exact av ⟨_,rfl,.inl ⟨_,rfl,M2.done W Sa Sb (.inl (by simpa using e3))⟩⟩
        have e3':k≠0:=by simpa using e3
        exact H _ _ ⟨M2,by lia,by lia,t2 _ (by lia)⟩
      rintro out3 na3 ⟨M2,hn1,hn2,q2⟩;obtain⟨na9,rfl⟩:∃n,na3=n+1:=⟨na3-1,by lia⟩
      try dsimp only
      simp only[Nat.add_sub_cancel];refine ar (zh (qo (show nb3<b.size by lia)) ?_);have M3:=M2.pushB W Sa Sb (by lia) (by lia) λ_=>q2
      refine wpI (λe5=>?_) λe5=>?_
      ·exact av ⟨_,rfl,.inl ⟨_,rfl,M3.first W Sa Sb (by simpa using e5) fst⟩⟩
      have e5':nb3≠1:=by simpa using e5
      refine ar (zh (qo (show na9<a.size by lia)) ?_);generalize out3.push (at' b nb3)=out5 at M3 ⊢;refine ar (iq C hk (Da _ (by lia)) (λi=>at' b i) (λi hi=>⟨by rw[Nat.zero_add];exact qo (by lia),Db _ (by lia)⟩) (by lia) (tP W Sb (by lia)) λk' l1' l2' l3'=>?_);dsimp only;generalize hbc:nb3-k'=bc2;generalize hu:out5=u;generalize hv:nb3=v;revert u v;refine kU (λout' nb'=>MH LT a b out' (na9+1) nb'/\2<=nb'/\nb'<=nb3/\LT (at' b (nb'-1)) (at' a na9)=true) (λH u hu v hv=>?_) ?_
      ·subst hu;subst hv;by_cases e6:¬ bc2>0
       ·rw[if_neg e6];exact H out5 nb3 ⟨M3,by lia,aG _,l2' (nb3-1) (by lia)⟩
       ·rw[if_pos (Decidable.not_not.mp e6)];have M4:=M3.takeB W Sb (by lia) k' (by lia) λi g1 g2 j' g3=>by
         have z:LT (at' b i) (at' a na9)=false:=l3' i g1 g2;exact W.neg _ _ _ (dQ W Sa (show j'<=na9 by lia) (by lia)) z
        refine wpI (λe8=>?_) λe8=>?_
        ·exact av ⟨_,rfl,.inl ⟨_,rfl,M4.first W Sa Sb (by simpa using e8) fst⟩⟩
        have e8':k'≠1:=by simpa using e8
        refine wpI (λe9=>?_) λe9=>?_
        ·exact av ⟨_,rfl,.inl ⟨_,rfl,M4.done W Sa Sb (.inr (by simpa using e9))⟩⟩
        have e9':k'≠0:=by simpa using e9
        exact H _ _ ⟨M4,by lia,by lia,l2' (k'-1) (by lia)⟩
      rintro out4 nb4 ⟨M4,hb2,hb3,q5⟩
      try dsimp only
      refine ar (zh (qo (show na9<a.size by lia)) ?_);have M5:=M4.pushA W Sa Sb (by lia) (by lia) λ_=>q5
      refine wpI (λe7=>?_) λe7=>?_
      ·exact av ⟨_,rfl,.inl ⟨_,rfl,M5.done W Sa Sb (.inl (by simpa using e7))⟩⟩
      have e7':na9≠0:=by simpa using e7
      split
      ·exact av ⟨_,rfl,.inr ⟨rfl,M5,by show 1<=na9/\na9<a.size;lia,by show 2<=nb4/\nb4<=b.size;lia,by show na9+nb4+1<=na+nb;lia⟩⟩
      ·exact av ⟨_,rfl,rfl,M5,by show 1<=na9/\na9<a.size;lia,by show 2<=nb4/\nb4<=b.size;lia,by show na9+nb4+1+(j+1)<=na+nb;lia⟩
     ·clear M g1 g2 g3;rintro⟨c0,na2,nb2,out,mg2,ac,bc⟩ st' ⟨g,rfl,rfl,M,g1,g2,g3⟩;dsimp only at M g1 g2 g3;exact absurd g3 (by lia)
    ·refine pr7 λc0 na2 nb2 out mg2 ac bc st' x=>exE (λg y=>stE y.1 ?_) x
     clear x;have hc:=y.2;clear y;dsimp only at hc ⊢;rcases hc with ⟨r,rfl,hm⟩|⟨rfl,M,g1,g2,g3⟩
     ·exact av ⟨r,g,rfl,hm,rfl⟩
     dsimp only;refine ar (wpS_modify ?_);exact av ⟨mg2+1,rfl,rfl,M,g1,g2,by show na2+nb2+(i+1)<=a.size+b.size;lia⟩
  ·rintro⟨c0,na,nb,out,mg⟩ st' ⟨g,rfl,rfl,M,h1,h2,h3⟩;dsimp only at M h1 h2 h3;exact absurd h3 (by lia)
 ·rintro⟨c0,na,nb,out,mg⟩ st' ⟨r,g,hr,hm,rfl⟩;dsimp only at hr ⊢;subst hr;exact av (h r g hm)
end
structure Rk(D:ak->Prop)(LT:ak->ak->Bool)(R:ak->Int):Prop where
 rk:∀x y,D x->D y->LT x y=decide (R x<R y)
structure SB(κ:SortKind)(p:Array (Nat×Nat×Nat))(a₁:Array ak)(lo:Nat)(st:aN):Prop where
 kd:kindOf st=κ
 fl:failedOf st=none
 pn:a9 st=p
 pm:(ag st).Perm a₁
 lw:∀i,i<lo->at' (ag st) i=at' a₁ i
noncomputable def Kr(R:ak->Int)(xs:Array ak)(i:Nat):Int:=R (at' xs i)
noncomputable def Seg(R:ak->Int)(xs:Array ak)(lo n:Nat):Prop:=∀i j,i<=j->j<n->Kr R xs (lo+i)<=Kr R xs (lo+j)
noncomputable def Dsc(R:ak->Int)(xs:Array ak)(lo n:Nat):Prop:=∀i j,i<=j->j<n->Kr R xs (lo+j)<=Kr R xs (lo+i)
theorem g9{xs ys:Array ak}{i j:Nat}(h:xs[i]? = ys[j]?):at' xs i=at' ys j:=by
 unfold at';rw[Array.getD_eq_getD_getElem?,Array.getD_eq_getD_getElem?,h]
theorem p6{xs:Array ak}{src d:Nat}(hs:src<xs.size)(hd:d<=src)(k:Nat) :
  at' (bubble xs src d) k=if k=src-d then at' xs src else if src-d<k/\k<=src then at' xs (k-1)else at' xs k:=by
 have e:=getElem?_bubble hs d hd k;by_cases h1:k=src-d
 ·rw[if_pos h1]at e ⊢;exact g9 e
 ·rw[if_neg h1]at e ⊢;by_cases h2:src-d<k/\k<=src
  ·rw[if_pos h2]at e ⊢;exact g9 e
  ·rw[if_neg h2]at e ⊢;exact g9 e
theorem pe{xs:Array ak}{i j:Nat}(hj:j<=xs.size)(k:Nat) :
  at' (aZ xs i j ((j-i)/2)) k=if i<=k/\k<j then at' xs (i+j-1-k)else at' xs k:=by
 have e:=getElem?_mirror_all (i:=i) hj k;by_cases h1:i<=k/\k<j
 ·rw[if_pos h1]at e ⊢;exact g9 e
 ·rw[if_neg h1]at e ⊢;exact g9 e
section
variable{prog:aA}{w:au}{A:aB}{E:ae->af->Prop}{s:af}{κ:SortKind}{D:ak->Prop}{LT:ak->ak->Bool}{R:ak->Int}{p:Array (Nat×Nat×Nat)}{a₁:Array ak}{lo:Nat}
theorem tG{xs:Array ak}{src d:Nat}(hs:src<xs.size)(hd:d<=src)(k:Nat) :
  Kr R (bubble xs src d) k=if k=src-d then Kr R xs src else if src-d<k/\k<=src then Kr R xs (k-1)else Kr R xs k:=by
 unfold Kr;rw[p6 hs hd];repeat' split
 all_goals rfl
theorem nK{xs:Array ak}{i j:Nat}(hj:j<=xs.size)(k:Nat) :
  Kr R (aZ xs i j ((j-i)/2)) k=if i<=k/\k<j then Kr R xs (i+j-1-k)else Kr R xs k:=by
 unfold Kr;rw[pe hj];split
 all_goals rfl
theorem kj{xs:Array ak}{i j:Nat}(hj:j<=xs.size)(heq:∀k,i<=k->k<j->Kr R xs k=Kr R xs (j-1))(k:Nat) :
  Kr R (aZ xs i j ((j-i)/2)) k=Kr R xs k:=by
 rw[nK hj];split
 ·rw[heq _ (by lia) (by lia),heq k (by lia) (by lia)]
 ·rfl
theorem SB.size{st:aN}(h:SB κ p a₁ lo st):(ag st).size=a₁.size:=h.pm.size_eq
theorem SB.dom{st:aN}(h:SB κ p a₁ lo st)(Da:∀x∈a₁.toList,D x){i:Nat}(hi:i<a₁.size):D (at' (ag st) i):=
 Da _ ((Array.perm_iff_toList_perm.mp h.pm).mem_iff.mp (kH (by rw[h.size];exact hi)))
theorem SB.setArr{st:aN}(h:SB κ p a₁ lo st){xs:Array ak}(hp:xs.Perm (ag st))(hl:∀i,i<lo->at' xs i=at' (ag st) i):SB κ p a₁ lo (setArr st xs):=
 ⟨h.kd,h.fl,h.pn,hp.trans h.pm,λi hi=>(hl i hi).trans (h.lw i hi)⟩
theorem SB.mir{st:aN}(h:SB κ p a₁ lo st){i j:Nat}(hi:lo<=i)(hj:j<=a₁.size):SB κ p a₁ lo (PyProof.Rows.setArr st (aZ (ag st) i j ((j-i)/2))):=
 h.setArr (mirror_perm _ _ _ _) λk hk=>by
  rw[pe (by rw[h.size];exact hj),if_neg (by lia)]
theorem eW{st:aN}{i j:Nat}{Q:Option Bool->aN->Prop}(C:Cmp prog w A s κ D LT)(K:Rk D LT R)(Da:∀x∈a₁.toList,D x)(hB:SB κ p a₁ lo st)(hi:i<a₁.size)(hj:j<a₁.size)
  (h:Q (some (decide (Kr R (ag st) i<Kr R (ag st) j))) st):wpS (ao prog w) A E s (ltAt' i j) Q st:=by
 rw[ltAt'_eq];refine ar (wpS_get ?_);refine ar (zh (qo (by rw[hB.size];exact hi)) ?_);refine ar (zh (qo (by rw[hB.size];exact hj)) ?_);refine iS C (hB.dom Da hi) (hB.dom Da hj) hB.kd ?_;rw[K.rk _ _ (hB.dom Da hi) (hB.dom Da hj)];exact h
structure Hf(R:ak->Int)(xs:Array ak)(lo k x l r:Nat):Prop where
 lr:l<=r
 rk:r<=k
 fu:r-l+x<=k
 low:∀i,lo<=i->i<lo+l->Kr R xs i<=Kr R xs (lo+k)
 upp:∀i,lo+r<=i->i<lo+k->Kr R xs (lo+k)<Kr R xs i
theorem Seg.at{xs:Array ak}{n:Nat}(S:Seg R xs lo n){i j:Nat}(a:lo<=i)(b:i<=j)(c:j<lo+n):Kr R xs i<=Kr R xs j:=by
 have z:=S (i-lo) (j-lo) (by lia) (by lia)
 rwa[Nat.add_sub_cancel' a,Nat.add_sub_cancel' (bB a b)]at z
theorem Hf.go{xs:Array ak}{k x l r:Nat}(h:Hf R xs lo k x l r)(S:Seg R xs lo k)(hl:l<r) :
  (Kr R xs (lo+k)<Kr R xs (lo+(l+r)/2)->Hf R xs lo k (x+1) l ((l+r)/2))/\(¬ Kr R xs (lo+k)<Kr R xs (lo+(l+r)/2)->Hf R xs lo k (x+1) ((l+r)/2+1) r):=by
 have:=h.rk;have:=h.fu;refine⟨λz=>⟨by lia,by lia,by lia,h.low,λi a b=>Int.lt_of_lt_of_le z (S.at (by lia) a (by lia))⟩,λz=>⟨by lia,h.rk,by lia,λi a b=>?_,h.upp⟩⟩;have:=S.at (i:=i) (j:=lo+(l+r)/2) a (by lia) (by lia);lia
theorem Hf.put{xs:Array ak}{k x l:Nat}(h:Hf R xs lo k x l l)(hk:lo+k<xs.size)(S:Seg R xs lo k) :
  Seg R (bubble xs (lo+k) (lo+k-(lo+l))) lo (k+1)/\∀i,i<lo->at' (bubble xs (lo+k) (lo+k-(lo+l))) i=at' xs i:=by
 have:=h.rk;have e:lo+k-(lo+k-(lo+l))=lo+l:=by lia
 refine⟨λi j hij hj=>?_,λi hi=>by rw[p6 hk (by lia),if_neg (by lia),if_neg (by lia)]⟩;rw[tG hk (by lia),tG hk (by lia),e];by_cases ai:lo+i=lo+l<;>by_cases aj:lo+j=lo+l<;>by_cases bi:lo+l<lo+i/\lo+i<=lo+k<;>by_cases bj:lo+l<lo+j/\lo+j<=lo+k<;>simp only[ai,aj,bi,bj,if_true,if_false,and_self]<;>first
  | (exfalso;lia)
  |lia
  |exact h.low _ (by lia) (by lia)
  |exact Int.le_of_lt (h.upp _ (by lia) (by lia))
  |exact S.at (by lia) (by lia) (by lia)
theorem FK(C:Cmp prog w A s κ D LT)(K:Rk D LT R)(Da:∀x∈a₁.toList,D x){st:aN}{n ok:Nat}{Q:Bool->aN->Prop}(hn:lo+n<=a₁.size)(hok:ok<=n)(hB:SB κ p a₁ lo st)(hs:Seg R (ag st) lo ok)
  (h:∀st',SB κ p a₁ lo st'->Seg R (ag st') lo n->Q true st'):wpS (ao prog w) A E s (binarySort' lo n ok) Q st:=by
 rw[binarySort'_eq];have seg1:Seg R (ag st) lo (min (max ok 1) n):=λi j a b=>by
  by_cases z:ok=0
  ·rw[show i=j by lia];exact Int.le_refl _
  ·exact hs i j a (by lia)
 refine ar (wpS_mono (wpS_forRange (λk c t=>c=(none,())/\SB κ p a₁ lo t/\Seg R (ag t) lo (min k n)) (Q:=λc t=>c=(none,())/\SB κ p a₁ lo t/\Seg R (ag t) lo n) ?_ ?_ ⟨rfl,hB,seg1⟩) λc t ⟨e,b,z⟩=>by rw[e];exact av (h t b z))
 ·rintro k c t k1 k2 ⟨rfl,B,S⟩;rw[Nat.min_eq_left (Nat.le_of_lt k2)]at S;have kz:lo+k<a₁.size:=by lia
  have kz':lo+k<(ag t).size:=by rw[B.size];exact kz
  refine ar (wpS_mono (wpS_forRange (λx c u=>u=t/\∃l r,c=(none,l,r)/\Hf R (ag t) lo k x l r) (Q:=λc u=>u=t/\∃x l,c=(none,l,l)/\Hf R (ag t) lo k x l l) ?_ ?_ ⟨rfl,0,k,rfl,bx _,aG _,by lia,λi a b=>by lia,λi a b=>by lia⟩) ?_)
  ·rintro x c u _ x2 ⟨rfl,l,r,rfl,f⟩;dsimp only;have:=f.lr;by_cases z:l >= r
   ·rw[if_pos z];obtain rfl:l=r:=by lia
    exact av ⟨rfl,x,l,rfl,f⟩
   rw[if_neg z];have:=f.rk;refine ar (eW C K Da B kz (by lia) ?_);obtain⟨g1,g2⟩:=f.go S (by lia);cases q:decide (Kr R (ag u) (lo+k)<Kr R (ag u) (lo+(l+r)/2))with
   |true=>exact av ⟨rfl,_,_,rfl,g1 (of_decide_eq_true q)⟩
   |false=>exact av ⟨rfl,_,_,rfl,g2 (of_decide_eq_false q)⟩
  ·rintro c u ⟨rfl,l,r,rfl,f⟩;have:=f.lr;have:=f.fu;obtain rfl:l=r:=by lia
   exact⟨rfl,_,l,rfl,f⟩
  ·rintro c u ⟨rfl,x,l,rfl,f⟩;obtain⟨g1,g2⟩:=f.put kz' S;dsimp only;rw[moveDown'_eq];refine ar (wpS_modify (av ⟨rfl,B.setArr (bubble_perm _ _ _) g2,?_⟩));rw[Nat.min_eq_left k2];exact g1
 ·rintro c t ⟨e,b,z⟩;rw[show min (max (max ok 1) n) n=n by lia]at z;exact⟨e,b,z⟩
end
section
variable{prog:aA}{w:au}{A:aB}{E:ae->af->Prop}{s:af}{κ:SortKind}{D:ak->Prop}{LT:ak->ak->Bool}{R:ak->Int}{p:Array (Nat×Nat×Nat)}{a₁:Array ak}{lo:Nat}{xs:Array ak}
theorem Seg.one:Seg R xs lo 1:=λi j a b=>by rw[show i=j by lia];exact Int.le_refl _
theorem Seg.more{n:Nat}(S:Seg R xs lo n)(z:1<=n->Kr R xs (lo+n-1)<=Kr R xs (lo+n)):Seg R xs lo (n+1):=λi j a b=>by
 by_cases c:j=n
 ·subst c;by_cases d:i=j
  ·rw[d];exact Int.le_refl _
  ·have y:=S i (j-1) (by lia) (by lia);rw[show lo+(j-1)=lo+j-1 by lia]at y;exact Int.le_trans y (z (by lia))
 ·exact S i j a (by lia)
theorem Dsc.one:Dsc R xs lo 1:=λi j a b=>by rw[show i=j by lia];exact Int.le_refl _
theorem Dsc.more{n:Nat}(S:Dsc R xs lo n)(z:1<=n->Kr R xs (lo+n)<=Kr R xs (lo+n-1)):Dsc R xs lo (n+1):=λi j a b=>by
 by_cases c:j=n
 ·subst c;by_cases d:i=j
  ·rw[d];exact Int.le_refl _
  ·have y:=S i (j-1) (by lia) (by lia);rw[show lo+(j-1)=lo+j-1 by lia]at y;exact Int.le_trans (z (by lia)) y
 ·exact S i j a (by lia)
theorem Dsc.alike{ys:Array ak}{n:Nat}(S:Dsc R xs lo n)(e:∀k,Kr R ys k=Kr R xs k):Dsc R ys lo n:=λi j a b=>by rw[e,e];exact S i j a b
theorem iR{st:aN}{a nrem:Nat}{β:Type}{mk:Nat->β}{Q:β->aN->Prop}(hn:lo+nrem<=a₁.size)(ha:1<=a)(han:a<=nrem)(S0:Seg R (ag st) lo a)
  {body:Nat->β->StateT aN Sem (ForInStep β)}
  (hb:∀x n (Q':ForInStep β->aN->Prop),lo+n<a₁.size->1<=n->(Kr R (ag st) (lo+n)<Kr R (ag st) (lo+n-1)->Q' (.done (mk n)) st)->(¬ Kr R (ag st) (lo+n)<Kr R (ag st) (lo+n-1)->Q' (.yield (mk (n+1))) st)->wpS (ao prog w) A E s (body x (mk n)) Q' st)
  (h:∀n,a<=n->n<=nrem->Seg R (ag st) lo n->(n≠nrem->Kr R (ag st) (lo+n)<Kr R (ag st) (lo+n-1))->Q (mk n) st) :
  wpS (ao prog w) A E s (forIn [a:nrem] (mk a) body) Q st:=
 wpS_forRange (λx c t=>t=st/\c=mk x/\Seg R (ag st) lo x) (λx c t x1 x2 ⟨e1,e2,S⟩=>by
   subst e1 e2;exact hb x x _ (by lia) (by lia) (λz=>h x x1 (by lia) S λ_=>z) λz=>⟨rfl,rfl,S.more λ_=>by lia⟩)
  (λc t ⟨e1,e2,S⟩=>by
   subst e1 e2;rw[Nat.max_eq_right han]at S ⊢;exact h nrem han (aG _) S λz=>absurd rfl z) ⟨rfl,rfl,S0⟩
theorem Dsc.turn{n:Nat}(S:Dsc R xs lo n)(hz:lo+n<=xs.size):Seg R (aZ xs lo (lo+n) ((lo+n-lo)/2)) lo n:=λi j a b=>by
 have y:=S (n-1-j) (n-1-i) (by lia) (by lia);rw[show lo+(n-1-j)=lo+(lo+n)-1-(lo+j)by lia,show lo+(n-1-i)=lo+(lo+n)-1-(lo+i)by lia]at y
 rwa[nK hz,nK hz,if_pos ⟨by lia,by lia⟩,if_pos ⟨by lia,by lia⟩]
noncomputable def Flat(R:ak->Int)(xs:Array ak)(lo m neq:Nat):Prop:=∀i,lo+m-(neq+1)<=i->i<lo+m->Kr R xs i=Kr R xs (lo+m-1)
theorem Flat.zero{m:Nat}:Flat R xs lo m 0:=λi a b=>by rw[show i=lo+m-1 by lia]
theorem Flat.more{m neq:Nat}(f:Flat R xs lo m neq)(z:Kr R xs (lo+m)=Kr R xs (lo+m-1)):Flat R xs lo (m+1) (neq+1):=λi a b=>by
 rw[show lo+(m+1)-1=lo+m by lia];by_cases c:i=lo+m
 ·rw[c]
 ·rw[z];exact f i (by lia) (by lia)
theorem vg{st:aN}{n nrem:Nat}{β:Type}{mk:Nat->Nat->β}{Q:β->aN->Prop}(hn:lo+nrem<=a₁.size)(h1:1<=n)(hnn:n<=nrem)(B0:SB κ p a₁ lo st)(S0:Dsc R (ag st) lo n)
  {body:Nat->β->StateT aN Sem (ForInStep β)}
  (hb:∀x n neq t (Q':ForInStep β->aN->Prop),SB κ p a₁ lo t->lo+n<a₁.size->1<=n ->
   (Kr R (ag t) (lo+n)<Kr R (ag t) (lo+n-1)->neq>0->Q' (.yield (mk (n+1) 0)) (setArr t (aZ (ag t) (lo+n-(neq+1)) (lo+n) ((lo+n-(lo+n-(neq+1)))/2)))) ->
   (Kr R (ag t) (lo+n)<Kr R (ag t) (lo+n-1)->¬ neq>0->Q' (.yield (mk (n+1) 0)) t) ->
   (Kr R (ag t) (lo+n-1)<Kr R (ag t) (lo+n)->Q' (.done (mk n neq)) t) ->
   (Kr R (ag t) (lo+n)=Kr R (ag t) (lo+n-1)->Q' (.yield (mk (n+1) (neq+1))) t) ->
   wpS (ao prog w) A E s (body x (mk n neq)) Q' t)
  (h:∀m neq t,SB κ p a₁ lo t->n<=m->m<=nrem->Dsc R (ag t) lo m->neq+1<=m->Flat R (ag t) lo m neq->Q (mk m neq) t) :
  wpS (ao prog w) A E s (forIn [n:nrem] (mk n 0) body) Q st:=
 wpS_forRange (λx c t=>∃neq,c=mk x neq/\SB κ p a₁ lo t/\Dsc R (ag t) lo x/\neq+1<=x/\Flat R (ag t) lo x neq) (λx c t x1 x2 ⟨neq,e,B,S,q,f⟩=>by
   subst e;have hz:lo+x<=(ag t).size:=by rw[B.size];lia
   refine hb x x neq t _ B (by lia) (by lia) (λz _=>?_) (λz _=>?_) (λ_=>h x neq t B x1 (by lia) S q f) λz=>⟨neq+1,rfl,B,S.more λ_=>Int.le_of_eq z,by lia,f.more z⟩
   ·exact⟨0,rfl,B.mir (by lia) (by lia),(S.more λ_=>Int.le_of_lt z).alike (kj hz f),by lia,Flat.zero⟩
   ·exact⟨0,rfl,B,S.more λ_=>Int.le_of_lt z,by lia,Flat.zero⟩)
  (λc t ⟨neq,e,B,S,q,f⟩=>by
   subst e;rw[Nat.max_eq_right hnn]at S q f ⊢;exact h nrem neq t B hnn (aG _) S q f) ⟨0,rfl,B0,S0,by lia,Flat.zero⟩
theorem Gp(C:Cmp prog w A s κ D LT)(K:Rk D LT R)(Da:∀x∈a₁.toList,D x){st:aN}{nrem:Nat}{Q:Option Nat->aN->Prop}(hn:lo+nrem<=a₁.size)(h1:1<=nrem)(hB:SB κ p a₁ lo st)
  (h:∀m st',SB κ p a₁ lo st'->1<=m->m<=nrem->Seg R (ag st') lo m->Q (some m) st') :
  wpS (ao prog w) A E s (countRun' lo nrem) Q st:=by
 rw[countRun'_eq];refine ar (iR (R:=R) (mk:=λn=>(none,n)) hn (aG 1) h1 Seg.one ?_ ?_)
 ·intro x n Q' hl n1 q1 q2;dsimp only;refine ar (eW C K Da (hB) hl (by lia) ?_);cases z:decide (Kr R (ag st) (lo+n)<Kr R (ag st) (lo+n-1))with
  |true=>exact av (q1 (of_decide_eq_true z))
  |false=>exact av (q2 (of_decide_eq_false z))
 intro n n1 n2 S z;dsimp only;by_cases e:(n==nrem)=true
 ·rw[if_pos e];exact av (h n st hB n1 n2 S)
 rw[if_neg e];have e':n≠nrem:=by simpa using e
 have lt:=z e';have hz:lo+n<=(ag st).size:=by rw[hB.size];lia
 by_cases g:n>1
 ·rw[if_pos g];refine ar (eW C K Da hB (by lia) (by lia) ?_);cases y:decide (Kr R (ag st) lo<Kr R (ag st) (lo+n-1))with
  |true=>exact av (h n st hB n1 n2 S)
  |false=>
   have y':=of_decide_eq_false y;have f:∀k,lo<=k->k<lo+n->Kr R (ag st) k=Kr R (ag st) (lo+n-1):=λk a b=>by
    have b1:=S.at (i:=lo) (j:=k) (aG _) a b;have b2:=S.at (i:=k) (j:=lo+n-1) a (by lia) (by lia);lia
   dsimp only;rw[if_neg b9];refine ar (wpS_reverse ?_);have dB:SB κ p a₁ lo (setArr st (aZ (ag st) lo (lo+n) ((lo+n-lo)/2))):=hB.mir (aG _) (by lia);have dS:Dsc R (ag (setArr st (aZ (ag st) lo (lo+n) ((lo+n-lo)/2)))) lo (n+1):=Dsc.alike (xs:=ag st) (Dsc.more (λi j a b=>by rw[f (lo+i) (by lia) (by lia),f (lo+j) (by lia) (by lia)];exact Int.le_refl _) λ_=>Int.le_of_lt lt) (kj hz f);refine ar (wpS_lift (wpAny_rule ⟨rfl,?_⟩));refine ar (vg (mk:=λn q=>(none,n,q)) hn (by lia) (by lia) (dB) dS ?_ ?_)
   ·intro x n neq t Q' tB hl n1 q1 q2 q3 q4;dsimp only;refine ar (eW C K Da tB hl (by lia) ?_);cases z:decide (Kr R (ag t) (lo+n)<Kr R (ag t) (lo+n-1))with
    |true=>
     by_cases y:neq>0
     ·dsimp only;rw[if_pos rfl,if_pos y];exact ar (wpS_reverse (av (q1 (of_decide_eq_true z) y)))
     ·dsimp only;rw[if_pos rfl,if_neg y];exact av (q2 (of_decide_eq_true z) y)
    |false=>
     have z':=of_decide_eq_false z;refine ar (eW C K Da tB (by lia) hl ?_);cases y:decide (Kr R (ag t) (lo+n-1)<Kr R (ag t) (lo+n))with
     |true=>exact av (q3 (of_decide_eq_true y))
     |false=>
      have y':=of_decide_eq_false y;exact av (q4 (by lia))
   ·intro m neq t tB m1 m2 tS nm f;have hz:lo+m<=(ag t).size:=by rw[tB.size];lia
    dsimp only;by_cases y:neq>0
    ·rw[if_pos y];refine ar (wpS_reverse ?_);have MB:SB κ p a₁ lo (setArr t (aZ (ag t) (lo+m-(neq+1)) (lo+m) ((lo+m-(lo+m-(neq+1)))/2))):=tB.mir (by lia) (by lia);have MS:Dsc R (ag (setArr t (aZ (ag t) (lo+m-(neq+1)) (lo+m) ((lo+m-(lo+m-(neq+1)))/2)))) lo m:=tS.alike (kj hz f);refine ar (wpS_reverse ?_);have TB:SB κ p a₁ lo (setArr (setArr t (aZ (ag t) (lo+m-(neq+1)) (lo+m) ((lo+m-(lo+m-(neq+1)))/2))) (aZ (ag (setArr t (aZ (ag t) (lo+m-(neq+1)) (lo+m) ((lo+m-(lo+m-(neq+1)))/2)))) lo (lo+m) ((lo+m-lo)/2))):=(MB).mir (aG _) (by lia);refine ar (iR (R:=R) (mk:=λn=>(none,n)) hn (by lia) m2 (Dsc.turn (MS) (by show lo+m<=(ag (setArr t (aZ (ag t) (lo+m-(neq+1)) (lo+m) ((lo+m-(lo+m-(neq+1)))/2)))).size;rw[(MB).size];lia)) ?_ ?_)
     ·intro x n Q' hl n1 q1 q2;dsimp only;refine ar (eW C K Da (TB) hl (by lia) ?_);cases z:decide (Kr R (ag (setArr (setArr t (aZ (ag t) (lo+m-(neq+1)) (lo+m) ((lo+m-(lo+m-(neq+1)))/2))) (aZ (ag (setArr t (aZ (ag t) (lo+m-(neq+1)) (lo+m) ((lo+m-(lo+m-(neq+1)))/2)))) lo (lo+m) ((lo+m-lo)/2)))) (lo+n)<Kr R (ag (setArr (setArr t (aZ (ag t) (lo+m-(neq+1)) (lo+m) ((lo+m-(lo+m-(neq+1)))/2))) (aZ (ag (setArr t (aZ (ag t) (lo+m-(neq+1)) (lo+m) ((lo+m-(lo+m-(neq+1)))/2)))) lo (lo+m) ((lo+m-lo)/2)))) (lo+n-1))with
      |true=>exact av (q1 (of_decide_eq_true z))
      |false=>exact av (q2 (of_decide_eq_false z))
     ·intro j j1 j2 j3 _;exact av (h j _ TB (by lia) j2 j3)
    ·rw[if_neg y];refine ar (wpS_reverse ?_);have TB:SB κ p a₁ lo (setArr t (aZ (ag t) lo (lo+m) ((lo+m-lo)/2))):=(tB).mir (aG _) (by lia);refine ar (iR (R:=R) (mk:=λn=>(none,n)) hn (by lia) m2 (Dsc.turn (tS) (by show lo+m<=(ag t).size;rw[(tB).size];lia)) ?_ ?_)
     ·intro x n Q' hl n1 q1 q2;dsimp only;refine ar (eW C K Da (TB) hl (by lia) ?_);cases z:decide (Kr R (ag (setArr t (aZ (ag t) lo (lo+m) ((lo+m-lo)/2)))) (lo+n)<Kr R (ag (setArr t (aZ (ag t) lo (lo+m) ((lo+m-lo)/2)))) (lo+n-1))with
      |true=>exact av (q1 (of_decide_eq_true z))
      |false=>exact av (q2 (of_decide_eq_false z))
     ·intro j j1 j2 j3 _;exact av (h j _ TB (by lia) j2 j3)
 ·rw[if_neg g];obtain rfl:n=1:=by lia
  have dS:Dsc R (ag st) lo (1+1):=Dsc.one.more λ_=>Int.le_of_lt lt
  refine ar (wpS_lift (wpAny_rule ⟨rfl,?_⟩));refine ar (vg (mk:=λn q=>(none,n,q)) hn (by lia) (by lia) (hB) dS ?_ ?_)
  ·intro x n neq t Q' tB hl n1 q1 q2 q3 q4;dsimp only;refine ar (eW C K Da tB hl (by lia) ?_);cases z:decide (Kr R (ag t) (lo+n)<Kr R (ag t) (lo+n-1))with
   |true=>
    by_cases y:neq>0
    ·dsimp only;rw[if_pos rfl,if_pos y];exact ar (wpS_reverse (av (q1 (of_decide_eq_true z) y)))
    ·dsimp only;rw[if_pos rfl,if_neg y];exact av (q2 (of_decide_eq_true z) y)
   |false=>
    have z':=of_decide_eq_false z;refine ar (eW C K Da tB (by lia) hl ?_);cases y:decide (Kr R (ag t) (lo+n-1)<Kr R (ag t) (lo+n))with
    |true=>exact av (q3 (of_decide_eq_true y))
    |false=>
     have y':=of_decide_eq_false y;exact av (q4 (by lia))
  ·intro m neq t tB m1 m2 tS nm f;have hz:lo+m<=(ag t).size:=by rw[tB.size];lia
   dsimp only;by_cases y:neq>0
   ·rw[if_pos y];refine ar (wpS_reverse ?_);have MB:SB κ p a₁ lo (setArr t (aZ (ag t) (lo+m-(neq+1)) (lo+m) ((lo+m-(lo+m-(neq+1)))/2))):=tB.mir (by lia) (by lia);have MS:Dsc R (ag (setArr t (aZ (ag t) (lo+m-(neq+1)) (lo+m) ((lo+m-(lo+m-(neq+1)))/2)))) lo m:=tS.alike (kj hz f);refine ar (wpS_reverse ?_);have TB:SB κ p a₁ lo (setArr (setArr t (aZ (ag t) (lo+m-(neq+1)) (lo+m) ((lo+m-(lo+m-(neq+1)))/2))) (aZ (ag (setArr t (aZ (ag t) (lo+m-(neq+1)) (lo+m) ((lo+m-(lo+m-(neq+1)))/2)))) lo (lo+m) ((lo+m-lo)/2))):=(MB).mir (aG _) (by lia);refine ar (iR (R:=R) (mk:=λn=>(none,n)) hn (by lia) m2 (Dsc.turn (MS) (by show lo+m<=(ag (setArr t (aZ (ag t) (lo+m-(neq+1)) (lo+m) ((lo+m-(lo+m-(neq+1)))/2)))).size;rw[(MB).size];lia)) ?_ ?_)
    ·intro x n Q' hl n1 q1 q2;dsimp only;refine ar (eW C K Da (TB) hl (by lia) ?_);cases z:decide (Kr R (ag (setArr (setArr t (aZ (ag t) (lo+m-(neq+1)) (lo+m) ((lo+m-(lo+m-(neq+1)))/2))) (aZ (ag (setArr t (aZ (ag t) (lo+m-(neq+1)) (lo+m) ((lo+m-(lo+m-(neq+1)))/2)))) lo (lo+m) ((lo+m-lo)/2)))) (lo+n)<Kr R (ag (setArr (setArr t (aZ (ag t) (lo+m-(neq+1)) (lo+m) ((lo+m-(lo+m-(neq+1)))/2))) (aZ (ag (setArr t (aZ (ag t) (lo+m-(neq+1)) (lo+m) ((lo+m-(lo+m-(neq+1)))/2)))) lo (lo+m) ((lo+m-lo)/2)))) (lo+n-1))with
     |true=>exact av (q1 (of_decide_eq_true z))
     |false=>exact av (q2 (of_decide_eq_false z))
    ·intro j j1 j2 j3 _;exact av (h j _ TB (by lia) j2 j3)
   ·rw[if_neg y];refine ar (wpS_reverse ?_);have TB:SB κ p a₁ lo (setArr t (aZ (ag t) lo (lo+m) ((lo+m-lo)/2))):=(tB).mir (aG _) (by lia);refine ar (iR (R:=R) (mk:=λn=>(none,n)) hn (by lia) m2 (Dsc.turn (tS) (by show lo+m<=(ag t).size;rw[(tB).size];lia)) ?_ ?_)
    ·intro x n Q' hl n1 q1 q2;dsimp only;refine ar (eW C K Da (TB) hl (by lia) ?_);cases z:decide (Kr R (ag (setArr t (aZ (ag t) lo (lo+m) ((lo+m-lo)/2)))) (lo+n)<Kr R (ag (setArr t (aZ (ag t) lo (lo+m) ((lo+m-lo)/2)))) (lo+n-1))with
     |true=>exact av (q1 (of_decide_eq_true z))
     |false=>exact av (q2 (of_decide_eq_false z))
    ·intro j j1 j2 j3 _;exact av (h j _ TB (by lia) j2 j3)
end
theorem jL(a:Array ak)(i:Nat):at' a i=(a.toList[i]?).getD df:=by
 unfold at';rw[Array.getD_eq_getD_getElem?,Array.getElem?_toList]
theorem o9{a:Array ak}{i j m:Nat}(hj:j<=a.size)(hm:i+m<j):at' (a.extract i j) m=at' a (i+m):=by
 refine g9 ?_;rw[Array.getElem?_extract,if_pos (by lia)]
noncomputable def putAll(s:Nat)(l:List ak)(n:Nat)(a:Array ak):Array Keyed:=(l.zipIdx n).foldl (λa (p:ak×Nat)=>a.setIfInBounds (s+p.2) p.1) a
theorem ni(s:Nat):∀(l:List ak) (n:Nat) (a:Array ak),s+n+l.length<=a.size->(putAll s l n a).toList=a.toList.take (s+n)++l++a.toList.drop (s+n+l.length)
 | [],n,a,_=>by
  show a.toList=_;simp
 |x::l,n,a,h=>by
  show (putAll s l (n+1) (a.setIfInBounds (s+n) x)).toList=_;rw[bg]at h;rw[ni s l (n+1) _ (by rw[Array.size_setIfInBounds];lia)];have hl:s+n<a.toList.length:=by rw[a8];lia
  rw[Array.toList_setIfInBounds,show s+(n+1)=s+n+1 by lia,List.take_set,List.drop_set,if_pos (by lia),bg,
   show s+n+1+l.length=s+n+(l.length+1)by lia]
  congr 1
  rw[show (x::l)=[x]++l from rfl,<-bA]
  congr 1
  rw[List.take_succ_eq_append_getElem hl,List.set_append_right _ _ (by rw[cP];lia),cP,Nat.min_eq_left (by lia),Nat.sub_self]
  rfl
theorem nI{s:Nat}{r a:Array ak}(h:s+r.size<=a.size)(t:Nat):at' (putAll s r.toList 0 a) t=if s<=t/\t<s+r.size then at' r (t-s)else at' a t:=by
 rw[jL,ni s _ _ _ (by rw[a8];lia),Nat.add_zero,a8];have h1:(a.toList.take s).length=s:=by rw[cP,a8];lia
 by_cases e1:t<s
 ·rw[if_neg (by lia),bA,List.getElem?_append_left (by lia),List.getElem?_take,if_pos e1,jL]
 ·rw[bA,List.getElem?_append_right (by lia),h1];by_cases e2:t<s+r.size
  ·rw[if_pos (by lia),List.getElem?_append_left (by rw[a8];lia),jL]
  ·rw[if_neg (by lia),List.getElem?_append_right (by rw[a8];lia),List.getElem?_drop,a8,jL]
   congr 2;lia
theorem pK{s e:Nat}{r x y a:Array ak}{m:Nat}(h1:s<=m)(h2:m<=e)(h3:e<=a.size)(hx:x=a.extract s m)(hy:y=a.extract m e)(hr:r.toList.Perm (x.toList++y.toList)):r.size=e-s/\(putAll s r.toList 0 a).Perm a:=by
 have hl:r.size=e-s:=by
  have:=hr.length_eq;rw[bH,a8,a8,a8,hx,hy,Array.size_extract,Array.size_extract]at this;lia
 refine⟨hl,Array.perm_iff_toList_perm.mpr ?_⟩;rw[ni s _ _ _ (by rw[a8];lia),Nat.add_zero,a8,hl];have hxy:x.toList++y.toList=(a.toList.drop s).take (e-s):=by
  rw[hx,hy,eG,eG,show e-s=(m-s)+(e-m)by lia,List.take_add,List.drop_drop,show s+(m-s)=m by lia]
 have e0:a.toList=a.toList.take s++(a.toList.drop s).take (e-s)++a.toList.drop (s+(e-s)):=by
  rw[bA,<-List.drop_drop,bL,bL]
 conv=>rhs;rw[e0]
 rw[hxy]at hr;exact(hr.append_left _).append_right _
section
variable{prog:aA}{w:au}{A:aB}{E:ae->af->Prop}{s:af}{κ:SortKind}{D:ak->Prop}{LT:ak->ak->Bool}{R:ak->Int}
theorem xC{a r x y:Array ak}{sa s' sb e' en:Nat}(h1:sa<=s')(h2:s'<sb)(h3:sb<=e')(h4:e'<=en)(h5:en<=a.size)
  (SX:∀i j,sa<=i->i<=j->j<sb->Kr R a i<=Kr R a j) (SY:∀i j,sb<=i->i<=j->j<en->Kr R a i<=Kr R a j)
  (F1:∀i,sa<=i->i<s'->Kr R a i<=Kr R a sb) (hbn:sb<en) (F2:∀i,e'<=i->i<en->Kr R a (sb-1)<=Kr R a i)
  (hx:x=a.extract s' sb) (hy:y=a.extract sb e') (hr:r.toList.Perm (x.toList++y.toList)) (hs:∀i j,i<=j->j<r.size->Kr R r i<=Kr R r j) :
  ∀i j,sa<=i->i<=j->j<en->Kr R (putAll s' r.toList 0 a) i<=Kr R (putAll s' r.toList 0 a) j:=by
 have hp:=pK (by lia) h3 (by lia) hx hy hr;have mid:∀v,v<r.size->∃z,s'<=z/\z<e'/\at' r v=at' a z:=λv hv=>by
  have:=hr.mem_iff.mp (kH hv);rw[List.mem_append,hx,hy]at this;rcases this with q|q
  ·obtain⟨z,z1,z2,z3,z4⟩:=qA q;exact⟨z,z1,by lia,z4⟩
  ·obtain⟨z,z1,z2,z3,z4⟩:=qA q;exact⟨z,by lia,z2,z4⟩
 intro i j hi hij hj;unfold Kr;rw[nI (by lia),nI (by lia)];by_cases ci:s'<=i/\i<s'+r.size
 ·rw[if_pos ci];by_cases cj:s'<=j/\j<s'+r.size
  ·rw[if_pos cj];exact hs _ _ (by lia) (by lia)
  ·rw[if_neg cj];obtain⟨z,z1,z2,z3⟩:=mid (i-s') (by lia);rw[z3];by_cases hz:z<sb
   ·exact Int.le_trans (SX z (sb-1) (by lia) (by lia) (by lia)) (F2 j (by lia) hj)
   ·exact SY z j (by lia) (by lia) hj
 ·rw[if_neg ci];by_cases cj:s'<=j/\j<s'+r.size
  ·rw[if_pos cj];obtain⟨z,z1,z2,z3⟩:=mid (j-s') (by lia);rw[z3];by_cases hz:z<sb
   ·exact SX i z hi (by lia) hz
   ·exact Int.le_trans (F1 i hi (by lia)) (SY sb z (by lia) (by lia) (by lia))
  ·rw[if_neg cj];by_cases c1:i<s'
   ·by_cases c2:j<s'
    ·exact SX i j hi hij (by lia)
    ·exact Int.le_trans (F1 i hi c1) (SY sb j (by lia) (by lia) hj)
   ·exact SY i j (by lia) hij hj
end
theorem xN{σ:Type}{M:Model}{A:aB}{E:ae->af->Prop}{s:af}{x:σ}{Q:PUnit->σ->Prop}{st:σ}(h:Q ⟨⟩ x):wpS M A E s (set x:StateT σ Sem PUnit) Q st:=by
 unfold wpS;exact aE ⟨rfl,h⟩
section
variable{prog:aA}{w:au}{A:aB}{E:ae->af->Prop}{s:af}{κ:SortKind}{D:ak->Prop}{LT:ak->ak->Bool}{R:ak->Int}
noncomputable def iF(p:Array (Nat×Nat×Nat))(i sa na nb pw:Nat):Array (Nat×Nat×Nat):=(p.setIfInBounds i (sa,na+nb,pw)).eraseIdxIfInBounds (i+1)
theorem GN(C:Cmp prog w A s κ D LT)(K:Rk D LT R){st:aN}{i sa na pw sb nb pw2:Nat}{Q:Bool->aN->Prop}(hk:kindOf st=κ)(hf:failedOf st=none)(Da:∀x∈(ag st).toList,D x)
  (h1:(a9 st)[i]? = some (sa,na,pw)) (h2:(a9 st)[i+1]? = some (sb,nb,pw2)) (hsb:sb=sa+na) (hna:1<=na) (hnb:1<=nb) (hen:sb+nb<=(ag st).size)
  (SX:Seg R (ag st) sa na) (SY:Seg R (ag st) sb nb)
  (h:∀st',kindOf st'=κ->failedOf st'=none->a9 st'=iF (a9 st) i sa na nb pw->(ag st').Perm (ag st)->(∀j,(j<sa\/sb+nb<=j)->at' (ag st') j=at' (ag st) j)->Seg R (ag st') sa (na+nb)->Q true st') :
  wpS (ao prog w) A E s (mergeAt' i) Q st:=by
 have dm:∀j,j<(ag st).size->D (at' (ag st) j):=λj hj=>Da _ (kH hj)
 have rk:∀x y,x<(ag st).size->y<(ag st).size->LT (at' (ag st) x) (at' (ag st) y)=decide (Kr R (ag st) x<Kr R (ag st) y):=λx y hx hy=>K.rk _ _ (dm x hx) (dm y hy)
 have SX':∀i j,sa<=i->i<=j->j<sb->Kr R (ag st) i<=Kr R (ag st) j:=λi j a b c=>by
  have:=SX (i-sa) (j-sa) (by lia) (by lia)
  rwa[show sa+(i-sa)=i by lia,show sa+(j-sa)=j by lia]at this
 have SY':∀i j,sb<=i->i<=j->j<sb+nb->Kr R (ag st) i<=Kr R (ag st) j:=λi j a b c=>by
  have:=SY (i-sb) (j-sb) (by lia) (by lia)
  rwa[show sb+(i-sb)=i by lia,show sb+(j-sb)=j by lia]at this
 have W:=C.wo;unfold mergeAt';refine ar (wpS_get ?_);rw[h1,h2];dsimp only;refine ar (xN ?_);refine ar (zh (qo (show sb<(ag st).size by lia)) ?_);refine ar (iq C (by exact hk) (dm sb (by lia)) (λj=>at' (ag st) (sa+j)) (λj hj=>⟨qo (show sa+j<(ag st).size by lia),dm _ (by lia)⟩) (by lia) ?_ ?_)
 ·intro i j hij hj hb;unfold bey at hb ⊢;simp only[bD,if_false]at hb ⊢;rw[rk _ _ (by lia) (by lia)]at hb ⊢;have:=SX' (sa+i) (sa+j) (by lia) (by lia) (by lia);simp only[bN,decide_eq_false_iff_not]at hb ⊢;lia
 intro k hk1 hk2 hk3;dsimp only;have F1:∀j,sa<=j->j<sa+k->Kr R (ag st) j<=Kr R (ag st) sb:=λj a b=>by
  have:=hk2 (j-sa) (by lia);unfold bey at this;simp only[bD,if_false]at this;rw[show sa+(j-sa)=j by lia,rk _ _ (by lia) (by lia)]at this;simp only[bN,decide_eq_false_iff_not]at this;lia
 have F1':∀j,sa+k<=j->j<sb->Kr R (ag st) sb<Kr R (ag st) j:=λj a b=>by
  have:=hk3 (j-sa) (by lia) (by lia);unfold bey at this;simp only[bD,if_false]at this;rw[show sa+(j-sa)=j by lia,rk _ _ (by lia) (by lia)]at this;simp only[Bool.not_eq_false',decide_eq_true_eq]at this;lia
 by_cases e1:(na-k==0)=true
 ·rw[if_pos e1];have e1':na-k=0:=by simpa using e1
  refine av (h _ hk hf rfl (Array.Perm.refl _) (λ_ _=>rfl) ?_);intro x y hxy hy;show Kr R (ag st) (sa+x)<=Kr R (ag st) (sa+y);by_cases c:y<na
  ·exact SX x y hxy c
  ·by_cases c2:x<na
   ·exact Int.le_trans (F1 _ (by lia) (by lia)) (SY' sb _ (by lia) (by lia) (by lia))
   ·exact SY' _ _ (by lia) (by lia) (by lia)
 rw[if_neg e1];have e1':na-k≠0:=by simpa using e1
 rw[show sa+k+(na-k)-1=sb-1 by lia];refine ar (zh (qo (show sb-1<(ag st).size by lia)) ?_);refine ar (iq C (by exact hk) (dm (sb-1) (by lia)) (λj=>at' (ag st) (sb+j)) (λj hj=>⟨qo (show sb+j<(ag st).size by lia),dm _ (by lia)⟩) (by lia) ?_ ?_)
 ·intro i j hij hj hb;unfold bey at hb ⊢;simp only[if_true]at hb ⊢;rw[rk _ _ (by lia) (by lia)]at hb ⊢;have:=SY' (sb+i) (sb+j) (by lia) (by lia) (by lia);simp only[decide_eq_true_eq]at hb ⊢;lia
 intro m hm1 hm2 hm3;dsimp only;have F2:∀j,sb<=j->j<sb+m->Kr R (ag st) j<Kr R (ag st) (sb-1):=λj a b=>by
  have:=hm2 (j-sb) (by lia);unfold bey at this;simp only[if_true]at this;rw[show sb+(j-sb)=j by lia,rk _ _ (by lia) (by lia)]at this
  simpa using this
 have F2':∀j,sb+m<=j->j<sb+nb->Kr R (ag st) (sb-1)<=Kr R (ag st) j:=λj a b=>by
  have:=hm3 (j-sb) (by lia) (by lia);unfold bey at this;simp only[if_true]at this;rw[show sb+(j-sb)=j by lia,rk _ _ (by lia) (by lia)]at this;simp only[decide_eq_false_iff_not]at this;lia
 by_cases e2:(m==0)=true
 ·exfalso;have e2':m=0:=by simpa using e2
  have a1:=F1' (sb-1) (by lia) (by lia);have a2:=F2' sb (by lia) (by lia);lia
 rw[if_neg e2];have e2':m≠0:=by simpa using e2
 have sx:((ag st).extract (sa+k) sb).size=na-k:=by rw[Array.size_extract];lia
 have sy:((ag st).extract sb (sb+m)).size=m:=by rw[Array.size_extract];lia
 have ax:∀j,j<na-k->at' ((ag st).extract (sa+k) sb) j=at' (ag st) (sa+k+j):=λj hj=>o9 (by lia) (by lia)
 have ay:∀j,j<m->at' ((ag st).extract sb (sb+m)) j=at' (ag st) (sb+j):=λj hj=>o9 (by lia) (by lia)
 have srt:∀(z:Array ak) (o:Nat),(∀j,j<z.size->o+j<(ag st).size/\at' z j=at' (ag st) (o+j))->(∀i j,i<=j->j<z.size->Kr R (ag st) (o+i)<=Kr R (ag st) (o+j))->Srt LT z.toList:=λz o hz hs=>by
  unfold Srt;rw[List.pairwise_iff_getElem];intro i j hi hj hij;rw[a8]at hi hj;have b1:=qo hi;have b2:=qo hj;rw[Array.getElem?_eq_getElem hi]at b1;rw[Array.getElem?_eq_getElem hj]at b2;injection b1 with b1
  injection b2 with b2
  rw[Array.getElem_toList,Array.getElem_toList,b1,b2,(hz i hi).2,(hz j hj).2,rk _ _ (hz j hj).1 (hz i hi).1];have:=hs i j (by lia) hj;simp only[decide_eq_false_iff_not];lia
 have Sx:Srt LT ((ag st).extract (sa+k) sb).toList:=srt _ (sa+k) (λj hj=>⟨by lia,ax j (by lia)⟩) (λi j hij hj=>SX' _ _ (by lia) (by lia) (by lia));have Sy:Srt LT ((ag st).extract sb (sb+m)).toList:=srt _ sb (λj hj=>⟨by lia,ay j (by lia)⟩) (λi j hij hj=>SY' _ _ (by lia) (by lia) (by lia));have h0:LT (at' ((ag st).extract sb (sb+m)) 0) (at' ((ag st).extract (sa+k) sb) 0)=true:=by
  rw[ax 0 (by lia),ay 0 (by lia),rk _ _ (by lia) (by lia)];exact decide_eq_true (F1' _ (by lia) (by lia))
 have hl:∀j,j<((ag st).extract sb (sb+m)).size->LT (at' ((ag st).extract sb (sb+m)) j) (at' ((ag st).extract (sa+k) sb) (((ag st).extract (sa+k) sb).size-1))=true:=λj hj=>by
  rw[ax _ (by lia),ay j (by lia),sx,rk _ _ (by lia) (by lia),show sa+k+(na-k-1)=sb-1 by lia];exact decide_eq_true (F2 _ (by lia) (by lia))
 have Dx:∀j,j<((ag st).extract (sa+k) sb).size->D (at' ((ag st).extract (sa+k) sb) j):=λj hj=>by
  rw[ax j (by lia)];exact dm _ (by lia)
 have Dy:∀j,j<((ag st).extract sb (sb+m)).size->D (at' ((ag st).extract sb (sb+m)) j):=λj hj=>by
  rw[ay j (by lia)];exact dm _ (by lia)
 have fin:∀r g,Mg LT ((ag st).extract (sa+k) sb) ((ag st).extract sb (sb+m)) r->wpS (ao prog w) A E s (do
   modify λs=>setArr s (putAll (sa+k) r.toList 0 (ag s))
   return (failedOf (<-get)).isNone) Q (setG (setPending st (iF (a9 st) i sa na nb pw)) g):=λr g M=>by
  refine ar (wpS_modify ?_);refine ar (wpS_get ?_);refine av ?_;have hp:=pK (by lia) (by lia) (by lia) rfl rfl M.1;have e3:(failedOf (setArr (setG (setPending st (iF (a9 st) i sa na nb pw)) g) (putAll (sa+k) r.toList 0 (ag st)))).isNone=true:=by
   show (failedOf st).isNone=true;rw[hf];rfl
  show Q (failedOf (setArr (setG (setPending st (iF (a9 st) i sa na nb pw)) g) (putAll (sa+k) r.toList 0 (ag st)))).isNone _;rw[e3];refine h _ hk hf rfl hp.2 (λj hj=>?_) ?_
  ·show at' (putAll (sa+k) r.toList 0 (ag st)) j=_;rw[nI (by lia),if_neg (by lia)]
  ·have dr:∀j,j<r.size->D (at' r j):=λj hj=>by
    have:=M.1.mem_iff.mp (kH hj);rw[List.mem_append]at this;rcases this with q|q
    ·obtain⟨z,z1,z2,z3,z4⟩:=qA q;rw[z4];exact dm z z3
    ·obtain⟨z,z1,z2,z3,z4⟩:=qA q;rw[z4];exact dm z z3
   have:=xC (R:=R) (a:=ag st) (sa:=sa) (s':=sa+k) (sb:=sb) (e':=sb+m) (en:=sb+nb) (by lia) (by lia) (by lia) (by lia) hen SX' SY' F1 (by lia) F2' rfl rfl M.1 (λx y hxy hy=>by
    have:=dQ W M.2 hxy hy;rw[K.rk _ _ (dr _ hy) (dr _ (by lia))]at this;simp only[decide_eq_false_iff_not]at this;unfold Kr;lia)
   intro x y hxy hy;exact this _ _ (by lia) (by lia) (by lia)
 by_cases e4:na-k<=m
 ·rw[if_pos e4];exact ar (GZ C (by exact hk) Dx Dy Sx Sy (show 0<((ag st).extract (sa+k) sb).size by lia) (show 0<((ag st).extract sb (sb+m)).size by lia) h0 hl fin)
 ·rw[if_neg e4];exact ar (Dz C (by exact hk) Dx Dy Sx Sy (show 0<((ag st).extract (sa+k) sb).size by lia) (show 0<((ag st).extract sb (sb+m)).size by lia) h0 hl fin)
end
noncomputable def pr(x:Nat×Nat×Nat):Nat×Nat:=(x.1,x.2.1)
noncomputable def Runs(R:ak->Int)(a:Array ak):Nat->List (Nat×Nat)->Nat->Prop
 |b,[],e=>b=e
 |b,x::l,e=>x.1=b/\1<=x.2/\Seg R a b x.2/\Runs R a (b+x.2) l e
section
variable{R:ak->Int}{a a':Array ak}
theorem Runs.le:∀{l:List (Nat×Nat)}{b e:Nat},Runs R a b l e->b+l.length<=e
 | [],b,e,h=>by simp only[List.length_nil];exact Nat.le_of_eq h
 |x::l,b,e,h=>by
  have:=h.2.2.2.le;have:=h.2.1;simp only[bg];lia
theorem Seg.congr{b n:Nat}(h:Seg R a b n)(hc:∀j,b<=j->j<b+n->at' a' j=at' a j):Seg R a' b n:=λi j hij hj=>by
 unfold Kr;rw[hc _ (by lia) (by lia),hc _ (by lia) (by lia)];exact h i j hij hj
theorem Runs.congr:∀{l:List (Nat×Nat)}{b e:Nat},Runs R a b l e->(∀j,b<=j->j<e->at' a' j=at' a j)->Runs R a' b l e
 | [],b,e,h,_=>h
 |x::l,b,e,h,hc=>by
  have:=h.2.2.2.le;exact⟨h.1,h.2.1,h.2.2.1.congr λj h1 h2=>hc j h1 (by lia),h.2.2.2.congr λj h1 h2=>hc j (by lia) h2⟩
theorem Runs.append:∀{l l':List (Nat×Nat)}{b e:Nat},Runs R a b (l++l') e↔∃m,Runs R a b l m/\Runs R a m l' e
 | [],l',b,e=>⟨λh=>⟨b,rfl,h⟩,λ⟨m,h1,h2⟩=>by cases h1;exact h2⟩
 |x::l,l',b,e=>by
  constructor
  ·rintro⟨h1,h2,h3,h4⟩;obtain⟨m,h5,h6⟩:=Runs.append.mp h4;exact⟨m,⟨h1,h2,h3,h5⟩,h6⟩
  ·rintro⟨m,⟨h1,h2,h3,h4⟩,h5⟩;exact⟨h1,h2,h3,Runs.append.mpr ⟨m,h4,h5⟩⟩
theorem Ar{α:Type}{l:List α}{i:Nat}{x y:α}(h1:l[i]? = some x)(h2:l[i+1]? = some y):∃u v,l=u++x::y::v/\u.length=i:=by
 obtain⟨hl,e2⟩:=List.getElem?_eq_some_iff.mp h2;obtain⟨hl1,e1⟩:=List.getElem?_eq_some_iff.mp h1;refine⟨l.take i,l.drop (i+2),?_,by rw[cP];lia⟩
 conv=>lhs;rw[<-bL i l]
 rw[fU hl1,fU hl,e1,e2]
theorem F0{p:Array (Nat×Nat×Nat)}{u v:List (Nat×Nat×Nat)}{x y:Nat×Nat×Nat}{sa na nb pw:Nat}(h:p.toList=u++x::y::v):(iF p u.length sa na nb pw).toList=u++(sa,na+nb,pw)::v:=by
 unfold iF;have hs:p.size=u.length+v.length+2:=by rw[<-a8,h];simp;lia
 rw[Array.eraseIdxIfInBounds_eq,dif_pos (by rw[Array.size_setIfInBounds];lia),Array.toList_eraseIdx,Array.toList_setIfInBounds,h];rw[List.set_append_right _ _ (aG _),Nat.sub_self];rw[List.eraseIdx_append_of_length_le (by lia)];rw[show u.length+1-u.length=1 by lia]
 rfl
end
structure SR(κ:SortKind)(R:ak->Int)(a₁:Array ak)(lo:Nat)(st:aN):Prop where
 kd:kindOf st=κ
 fl:failedOf st=none
 pm:(ag st).Perm a₁
 rn:Runs R (ag st) 0 ((a9 st).toList.map pr) lo
 le:lo<=a₁.size
section
variable{prog:aA}{w:au}{A:aB}{E:ae->af->Prop}{s:af}{κ:SortKind}{D:ak->Prop}{LT:ak->ak->Bool}{R:ak->Int}{a₁:Array ak}{lo:Nat}
theorem SR.sz{st:aN}(h:SR κ R a₁ lo st):(ag st).size=a₁.size:=h.pm.size_eq
theorem SR.dom{st:aN}(h:SR κ R a₁ lo st)(Da:∀x∈a₁.toList,D x):∀x∈(ag st).toList,D x:=λx hx=>Da x ((Array.perm_iff_toList_perm.mp h.pm).mem_iff.mp hx)
theorem SR.merge(C:Cmp prog w A s κ D LT)(K:Rk D LT R)(Da:∀x∈a₁.toList,D x){st:aN}{i:Nat}{Q:Bool->aN->Prop}(H:SR κ R a₁ lo st)(hi:i+1<(a9 st).size)
  (h:∀st',SR κ R a₁ lo st'->(∀j,lo<=j->at' (ag st') j=at' (ag st) j)->(a9 st').size+1=(a9 st).size->Q true st') :
  wpS (ao prog w) A E s (mergeAt' i) Q st:=by
 obtain⟨⟨sa,na,pw⟩,hx⟩:∃x,(a9 st)[i]? = some x:=⟨_,Array.getElem?_eq_getElem (by lia)⟩
 obtain⟨⟨sb,nb,pw2⟩,hy⟩:∃x,(a9 st)[i+1]? = some x:=⟨_,Array.getElem?_eq_getElem hi⟩
 obtain⟨u,v,hl,hu⟩:=Ar (l:=(a9 st).toList) (by rw[Array.getElem?_toList];exact hx) (by rw[Array.getElem?_toList];exact hy);have rn:=H.rn;rw[hl,List.map_append]at rn;obtain⟨m,r1,r2⟩:=Runs.append.mp rn;obtain⟨q1,q2,q3,q4,q5,q6,q7⟩:=r2;have q1:sa=m:=q1;have q2:1<=na:=q2;have q3:Seg R (ag st) m na:=q3;have q4:sb=m+na:=q4;have q5:1<=nb:=q5;have q6:Seg R (ag st) (m+na) nb:=q6;have q7:Runs R (ag st) (m+na+nb) (v.map pr) lo:=q7;have hle:=q7.le;have hle2:=r1.le;have hlo:=H.le;have hz:=H.sz;subst q1;refine GN C K H.kd H.fl (H.dom Da) hx hy q4 q2 q5 (by lia) q3 (by rw[q4];exact q6) λst' k1 k2 k3 k4 k5 k6=>?_
 have hp:(a9 st').toList=u++(sa,na+nb,pw)::v:=by rw[k3,<-hu];exact F0 hl
 refine h st' ⟨k1,k2,k4.trans H.pm,?_,H.le⟩ (λj hj=>k5 j (.inr (by lia))) ?_
 ·rw[hp,List.map_append];refine Runs.append.mpr ⟨sa,r1.congr λj _ hj=>k5 j (.inl hj),rfl,show 1<=na+nb by lia,k6,?_⟩;show Runs R (ag st') (sa+(na+nb)) (v.map pr) lo;rw[<-Nat.add_assoc];exact q7.congr λj hj _=>k5 j (.inr (by lia))
 ·rw[<-a8,hp,<-a8,hl];simp;lia
end
section
variable{prog:aA}{w:au}{A:aB}{E:ae->af->Prop}{s:af}{κ:SortKind}{D:ak->Prop}{LT:ak->ak->Bool}{R:ak->Int}{a₁:Array ak}{lo:Nat}
theorem sh{p:Array (Nat×Nat×Nat)}{i pw:Nat}:(p.modify i λx=>(x.1,x.2.1,pw)).toList.map pr=p.toList.map pr:=by
 apply List.ext_getElem?;intro k;rw[List.getElem?_map,List.getElem?_map,Array.getElem?_toList,Array.getElem?_toList,Array.getElem?_modify];split
 ·rename_i e
  subst e;cases p[i]? <;> rfl
 ·rfl
theorem SR.pend{st:aN}{p:Array (Nat×Nat×Nat)}(H:SR κ R a₁ lo st)(hp:p.toList.map pr=(a9 st).toList.map pr):SR κ R a₁ lo (setPending st p):=
 ⟨H.kd,H.fl,H.pm,by show Runs R (ag st) 0 (p.toList.map pr) lo;rw[hp];exact H.rn,H.le⟩
theorem SR.push{st:aN}{n:Nat}(H:SR κ R a₁ lo st)(h1:1<=n)(h2:lo+n<=a₁.size)(hs:Seg R (ag st) lo n):SR κ R a₁ (lo+n) (setPending st ((a9 st).push (lo,n,0))):=
 ⟨H.kd,H.fl,H.pm,by
  show Runs R (ag st) 0 (((a9 st).push (lo,n,0)).toList.map pr) (lo+n);rw[Array.toList_push,List.map_append];exact Runs.append.mpr ⟨lo,H.rn,rfl,h1,hs,rfl⟩,h2⟩
theorem SR.base{st:aN}(H:SR κ R a₁ lo st):SB κ (a9 st) (ag st) lo st:=⟨H.kd,H.fl,rfl,Array.Perm.refl _,λ_ _=>rfl⟩
theorem SR.back{st st':aN}(H:SR κ R a₁ lo st)(B:SB κ (a9 st) (ag st) lo st'):SR κ R a₁ lo st':=
 ⟨B.kd,B.fl,B.pm.trans H.pm,by rw[B.pn];exact H.rn.congr λj _ hj=>B.lw j hj,H.le⟩
theorem yC(C:Cmp prog w A s κ D LT)(K:Rk D LT R)(Da:∀x∈a₁.toList,D x){st:aN}{Q:Unit->aN->Prop}(hk:kindOf st=κ)(hf:failedOf st=none)(hp:a9 st = #[])(ha:ag st=a₁)(h2:2<=a₁.size)
  (h:∀st',(ag st').Perm a₁->failedOf st'=none->Seg R (ag st') 0 a₁.size->Q () st'):wpS (ao prog w) A E s sortRuns' Q st:=by
 have H0:SR κ R a₁ 0 st:=⟨hk,hf,by rw[ha],by rw[hp];rfl,by lia⟩
 rw[sortRuns'_eq];refine ar (wpS_get ?_);dsimp only;rw[ha];generalize minRun' a₁.size a₁.size 0=mr;refine ar (wpS_mono (wpS_forRange
  (I:=λx c st'=>∃lo,c=(none,lo)/\SR κ R a₁ lo st'/\x<=lo)
  (Q:=λc st'=>c=(none,a₁.size)/\SR κ R a₁ a₁.size st') ?step ?fin ⟨0,rfl,H0,aG _⟩) ?post)
 case fin=>
  rintro c st' ⟨lo,rfl,H,hx⟩;have:=H.le;have:lo=a₁.size:=by lia
  subst this;exact⟨rfl,H⟩
 case step=>
  rintro x c st' _ hx ⟨lo,rfl,H,hxl⟩;dsimp only;have hle:=H.le;by_cases e:lo >= a₁.size
  ·rw[if_pos e];have:lo=a₁.size:=by lia
   subst this;exact av ⟨rfl,H⟩
  rw[if_neg e];have hz:=H.sz;refine ar (Gp C K (H.dom Da) (by lia) (by lia) H.base λm st2 B2 m1 m2 S2=>?_);dsimp only;by_cases e3:m<mr
  ·rw[if_pos e3];refine ar (wpS_lift (wpAny_rule ⟨rfl,?_⟩));by_cases e4:m<=min (a₁.size-lo) mr
   ·refine ar (FK C K (H.dom Da) (by lia) e4 B2 S2 λst3 B3 S3=>?_);simp only[Bool.not_true,bD,if_false];have Hn:=H.back B3;refine ar (wpS_get ?_);cases hb:(a9 st3).back? with
    |none=>
     dsimp only;exact ar (wpS_modify (av ⟨_,rfl,Hn.push (by lia) (by lia) S3,by lia⟩))
    |some q=>
     obtain⟨s1,k1,w1⟩:=q;dsimp only;generalize power' _ _ _ _=pw;refine ar (wpS_mono (wpS_forRange (I:=λ_ c st'=>c=(none,())/\SR κ R a₁ lo st'/\∀j,lo<=j->at' (ag st') j=at' (ag st3) j)
      (Q:=λc st'=>c=(none,())/\SR κ R a₁ lo st'/\∀j,lo<=j->at' (ag st') j=at' (ag st3) j) ?_ (λ_ _ h=>h) ⟨rfl,Hn,λ_ _=>rfl⟩) ?_)
     ·rintro y c st8 _ _ ⟨rfl,H8,c8⟩;refine ar (wpS_get ?_);by_cases e1:(a9 st8).size>1
      ·rw[if_pos e1];obtain⟨⟨u1,u2,older⟩,hy⟩:∃x,(a9 st8)[(a9 st8).size-2]? = some x:=⟨_,Array.getElem?_eq_getElem (by lia)⟩
       rw[hy];dsimp only;by_cases e2:older<=pw
       ·rw[if_pos e2];exact av ⟨rfl,H8,c8⟩
       ·rw[if_neg e2];refine ar (H8.merge C K Da (by lia) λst9 H9 c9 _=>?_);exact av ⟨rfl,H9,λj hj=>(c9 j hj).trans (c8 j hj)⟩
      ·rw[if_neg e1];exact av ⟨rfl,H8,c8⟩
     ·rintro c st8 ⟨rfl,H8,c8⟩;dsimp only;refine ar (wpS_modify ?_);exact ar (wpS_modify (av ⟨_,rfl,(H8.pend sh).push (by lia) (by lia) (S3.congr λj hj _=>c8 j hj),by lia⟩))
   ·exfalso;lia
  ·rw[if_neg e3];have Hn:=H.back B2;refine ar (wpS_get ?_);cases hb:(a9 st2).back? with
   |none=>
    dsimp only;exact ar (wpS_modify (av ⟨_,rfl,Hn.push (m1) (by lia) S2,by lia⟩))
   |some q=>
    obtain⟨s1,k1,w1⟩:=q;dsimp only;generalize power' _ _ _ _=pw;refine ar (wpS_mono (wpS_forRange (I:=λ_ c st'=>c=(none,())/\SR κ R a₁ lo st'/\∀j,lo<=j->at' (ag st') j=at' (ag st2) j)
     (Q:=λc st'=>c=(none,())/\SR κ R a₁ lo st'/\∀j,lo<=j->at' (ag st') j=at' (ag st2) j) ?_ (λ_ _ h=>h) ⟨rfl,Hn,λ_ _=>rfl⟩) ?_)
    ·rintro y c st8 _ _ ⟨rfl,H8,c8⟩;refine ar (wpS_get ?_);by_cases e1:(a9 st8).size>1
     ·rw[if_pos e1];obtain⟨⟨u1,u2,older⟩,hy⟩:∃x,(a9 st8)[(a9 st8).size-2]? = some x:=⟨_,Array.getElem?_eq_getElem (by lia)⟩
      rw[hy];dsimp only;by_cases e2:older<=pw
      ·rw[if_pos e2];exact av ⟨rfl,H8,c8⟩
      ·rw[if_neg e2];refine ar (H8.merge C K Da (by lia) λst9 H9 c9 _=>?_);exact av ⟨rfl,H9,λj hj=>(c9 j hj).trans (c8 j hj)⟩
     ·rw[if_neg e1];exact av ⟨rfl,H8,c8⟩
    ·rintro c st8 ⟨rfl,H8,c8⟩;dsimp only;refine ar (wpS_modify ?_);exact ar (wpS_modify (av ⟨_,rfl,(H8.pend sh).push (m1) (by lia) (S2.congr λj hj _=>c8 j hj),by lia⟩))
 case post=>
  rintro c st' ⟨rfl,H⟩;dsimp only;have hl:=H.rn.le;rw[aJ,a8]at hl;refine ar (wpS_mono (wpS_forRange (I:=λx c st''=>c=(none,())/\SR κ R a₁ a₁.size st''/\((a9 st'').size<=1\/(a9 st'').size+x<=a₁.size))
   (Q:=λc st''=>c=(none,())/\SR κ R a₁ a₁.size st''/\(a9 st'').size<=1) ?_ ?_ ⟨rfl,H,.inr (by lia)⟩) ?_)
  ·rintro x c st3 _ hx ⟨rfl,H3,c3⟩;refine ar (wpS_get ?_);by_cases e1:(a9 st3).size<=1
   ·rw[if_pos e1];exact av ⟨rfl,H3,e1⟩
   rw[if_neg e1];refine ar (H3.merge C K Da ?_ λst4 H4 c4 z4=>?_)
   ·(repeat' split)<;>lia
   ·exact av ⟨rfl,H4,by lia⟩
  ·rintro c st3 ⟨rfl,H3,c3⟩;exact⟨rfl,H3,by lia⟩
  ·rintro c st3 ⟨rfl,H3,c3⟩;refine av (h st3 H3.pm H3.fl ?_);have rn:=H3.rn;generalize hq:(a9 st3).toList.map pr=q at rn;have hql:q.length<=1:=by rw[<-hq,aJ,a8];exact c3
   match q,rn,hql with
   | [],rn,_=>exact absurd rn (by show ¬ (0=a₁.size);lia)
   | [x],rn,_=>
    obtain⟨_,_,r3,r4⟩:=rn;have r4:0+x.2=a₁.size:=r4;rw[<-r4,Nat.zero_add];exact r3
end
theorem pD{α:Type}{p q:α->Bool}{a:α}:∀{l:List α},(∀x∈l,p x=true->q x=true)->a∈l->p a=false->q a=true->l.countP p<l.countP q
 | [],_,h,_,_=>nomatch h
 |x::l,hi,h,h1,h2=>by
  rw[List.countP_cons,List.countP_cons];have le:=List.countP_mono_left (l:=l) (p:=p) (q:=q) λy hy=>hi y (aO _ hy)
  rcases aF.mp h with e|h
  ·subst e;rw[h1,h2];simp only[bD,if_false,if_true];lia
  ·have:=pD (λy hy=>hi y (aO _ hy)) h h1 h2;have:=hi x aK;cases e:p x with
   |true=>rw[this e];simp only[if_true];lia
   |false=>simp only[bD,if_false];split<;>lia
noncomputable def jJ(LT:ak->ak->Bool)(l:List ak)(x:ak):Int:=(l.countP λz=>LT z x:Nat)
theorem Wo.rank{LT:ak->ak->Bool}(W:Wo LT)(l:List ak):Rk (·∈l) LT (jJ LT l):=⟨λx y hx hy=>by
 unfold jJ;cases e:LT x y with
 |true=>
  have:=pD (p:=λz=>LT z x) (q:=λz=>LT z y) (a:=x) (λz _ q=>W.lt_le (x:=z) (y:=x) (z:=y) q (W.asym x y e)) hx (W.irr x) e;exact(decide_eq_true (by lia)).symm
 |false=>
  have:=List.countP_mono_left (l:=l) (p:=λz=>LT z y) (q:=λz=>LT z x) λz _ q=>W.lt_le (x:=z) (y:=y) (z:=x) q e
  exact(decide_eq_false (by lia)).symm⟩
noncomputable def ltL:List Int->List Int->Bool
 | [],[]=>false
 | [],_::_=>true
 |_::_,[]=>false
 |a::x,b::y=>if a=b then ltL x y else decide (a<b)
theorem iM:∀{x y:List Int},ltL x y=true->ltL y x=false
 | [],[],h=>nomatch h
 | [],_::_,_=>rfl
 |_::_,[],h=>nomatch h
 |a::x,b::y,h=>by
  unfold ltL at h ⊢;by_cases e:a=b
  ·rw[if_pos e]at h;rw[if_pos e.symm];exact iM h
  ·rw[if_neg e]at h;have:=of_decide_eq_true h;rw[if_neg (λz=>e z.symm)];exact decide_eq_false (by lia)
theorem jD:∀{x y z:List Int},ltL y x=false->ltL z y=false->ltL z x=false
 | [],_,[],_,_=>rfl
 |_::_,[],[],h,_=>nomatch h
 |_::_,_::_,[],_,h=>nomatch h
 | [],_,_::_,_,_=>rfl
 |_::_,[],_::_,h,_=>nomatch h
 |a::x,b::y,c::z,h1,h2=>by
  unfold ltL at h1 h2 ⊢;by_cases e1:b=a
  ·rw[if_pos e1]at h1;by_cases e2:c=b
   ·rw[if_pos e2]at h2;rw[if_pos (e2.trans e1)];exact jD h1 h2
   ·rw[if_neg e2]at h2;have:=of_decide_eq_false h2;rw[if_neg (λq=>e2 (q.trans e1.symm))];exact decide_eq_false (by lia)
  ·rw[if_neg e1]at h1;have q1:=of_decide_eq_false h1;by_cases e2:c=b
   ·rw[if_neg (λq=>e1 (e2.symm.trans q))];exact decide_eq_false (by lia)
   ·rw[if_neg e2]at h2;have q2:=of_decide_eq_false h2;rw[if_neg (by lia)];exact decide_eq_false (by lia)
theorem EC(f:ak->List Int):Wo λx y=>ltL (f x) (f y):=⟨λ_ _ h=>iM h,λ_ _ _ h1 h2=>jD h1 h2⟩
theorem uk:∀{x y:List Int},ltL x y=false->ltL y x=false->x=y
 | [],[],_,_=>rfl
 | [],_::_,h,_=>nomatch h
 |_::_,[],_,h=>nomatch h
 |a::x,b::y,h1,h2=>by
  unfold ltL at h1 h2;by_cases e:a=b
  ·rw[if_pos e]at h1;rw[if_pos e.symm]at h2;rw[e,uk h1 h2]
  ·rw[if_neg e]at h1;rw[if_neg (λz=>e z.symm)]at h2;have:=of_decide_eq_false h1;have:=of_decide_eq_false h2;lia
theorem oI:∀x y:List Int,ltL x y=HT.lexLt x y
 | [],[]=>(HT.u9).symm
 | [],_::_=>(HT.pL ..).symm
 |_::_,[]=>(HT.pX ..).symm
 |a::x,b::y=>by
  rw[HT.o7,<-oI x y]
  rfl
section
variable{prog:aA}{w:au}{A:aB}{E:ae->af->Prop}{s:af}
theorem xa{l b:Addr}{items items2:Array ae}{ns ms:List Int}{Q:Bool->af->Prop}(hl:IsTup s.heap l items)(hb:IsTup s.heap b items2)(hi:ba items.toList ns)(hj:ba items2.toList ms)
  (hu:A.units<cLine) (h:Q (ltL ns ms) s):aq (ao prog w) A (oneLt' true (.ref l) (.ref b)) Q E s:=by
 obtain⟨⟨c1,d1,a1,s1⟩,ho,hc,n,hd⟩:=id hl;obtain⟨⟨c2,d2,a2,s2⟩,ho2,hc2,n2,hd2⟩:=id hb;simp only at hc hd hc2 hd2;subst hc hd hc2 hd2;rw[oI]at h;rw[oneLt'_eq];simp only[if_true];refine ah (wpAny_cRoomFor hu ?_);refine ah (wpAny_callSpecialIfBound?_slot ⟨_,ho,rfl⟩ PySem.F.slot_tuple_lt (call_meets PySem.F.slot_tuple_lt ⟨_,ho,rfl⟩ PySem.F.entry_tuple_lt (PySem.F.args_tuple_lt_2 _ _) (HT.o4 l b items items2 n n2 d1 d2 s1 s2 ns ms hi hj) ⟨ho,ho2,?_⟩));exact bR h
end
end TS
namespace TS
open PySem PySem.W PyProof.Rows
noncomputable def TupAt(h:Heap)(v:ae)(ns:List Int):Prop:=∃a o items n,v=.ref a/\h.get? a=some o/\o.cls=.type "tuple"/\o.data=.seq items n/\ba items.toList ns
inductive cm(h:Heap):List ae->List (List Int)->Prop
 |nil:cm h [] []
 |cons {v:ae}{vs:List ae}{k:List Int}{ks:List (List Int)}:TupAt h v k->cm h vs ks->cm h (v::vs) (k::ks)
theorem cm.mem{h:Heap}{vs:List ae}{ks:List (List Int)}(t:cm h vs ks):∀v∈vs,∃k,TupAt h v k:=by
 induction t with
 |nil=>intro v hv;cases hv
 |cons a t ih=>
  intro v hv;rcases aF.mp hv with e|hv
  ·subst e;exact⟨_,a⟩
  ·exact ih v hv
section
variable{M:Model}{A:aB}{E:ae->af->Prop}{s:af}
theorem nW{h:Heap}{v:ae}{k:List Int}(t:TupAt h v k):Looks M h (typeOf v) (.type "tuple"):=by
 obtain⟨a,o,items,n,rfl,ho,hc,_⟩:=t;have:Looks M h (typeOf (.ref a)) o.cls:=(Looks.ld ho).andThen .now
 rwa[hc]at this
theorem GJ{vs:List ae}{ks:List (List Int)}(t:cm s.heap vs ks):∀{Q:List (Option ae)->af->Prop},(∀os:List (Option ae),os.map Option.isSome=ks.map (λk=>!k.isEmpty)->Q os s)->aq M A (vs.mapM firstOfTuple') Q E s:=by
 induction t with
 |nil=>intro Q h;rw[List.mapM_nil];exact aE (h [] rfl)
 | @cons v vs k ks a t ih=>
  intro Q h;rw[List.mapM_cons];refine ah ?_;rw[kas_first_eq];refine ah ((nW a).here ?_);rw[if_neg (by first|decide|simp)];obtain⟨b,o,items,n,rfl,ho,hc,hd,hi⟩:=a;refine ah (listItems_at ho hd (aE (ah (ih λos e=>aE (h _ ?_)))));rw[aR,e,aR]
  congr 1
  obtain⟨l⟩:=items;cases hi with
  |nil=>rfl
  |cons _ _ _=>rfl
theorem vZ{vs:List ae}{ks:List (List Int)}{Q:SortKind->af->Prop}(t:cm s.heap vs ([]::ks))(h:Q oneType' s):aq M A (keyKind' vs.toArray) Q E s:=by
 rw[keyKind'_eq,List.mapM_toArray,map_eq_pure_bind];refine ah (ah (GJ t λos e=>aE ?_));obtain⟨o,os',rfl,eo⟩:∃o os',os=o::os'/\o.isSome=false:=by
  cases os with
  |nil=>cases e
  |cons o os'=>rw[aR,aR]at e;exact⟨o,os',rfl,(List.cons.inj e).1⟩
 obtain rfl:o=none:=by cases o with
  |none=>rfl
  |some _=>cases eo
 rw[if_neg (by simp),if_neg (by simp),oneTypeOnly'_eq,List.mapM_toArray,map_eq_pure_bind];refine ah (ah (ah (kas_mapM (r:=bV "tuple") _ (λv hv Q' hq=>by obtain⟨k,a⟩:=t.mem v hv;exact(nW a).here hq) (aE ?_))));have e0:(List.map (λ_=>bV "tuple") vs).toArray[0]? = some (bV "tuple"):=by
  cases t with
  |cons a t=>simp
 have e1:((List.map (λ_=>bV "tuple") vs).toArray.all λx=>x==bV "tuple")=true:=by
  simp only[List.all_toArray,List.all_map,b_];intro _ _
  rfl
 rw[e0];simp only[e1,if_true];exact aE (aE h)
end
section
variable{M:Model}{A:aB}{E:ae->af->Prop}{s:af}
theorem cm.firsts{h:Heap}{vs:List ae}{ks:List (List Int)}(t:cm h vs ks)(hne:∀k∈ks,k≠[]):∃fs,KatTups h vs fs/\fs.length=vs.length/\∀v∈fs,∃i t,v=ae.int i t:=by
 induction t with
 |nil=>exact⟨[],trivial,rfl,λ_ h=>nomatch h⟩
 | @cons v vs k ks a t ih=>
  obtain⟨fs,k1,k2,k3⟩:=ih λk hk=>hne k (aO _ hk)
  obtain⟨b,o,items,n,rfl,ho,hc,hd,hi⟩:=a;obtain⟨l⟩:=items;cases hi with
  |nil=>exact absurd rfl (hne [] aK)
  |cons i t _=>exact⟨.int i t::fs,KatTups.cons ho hc hd rfl k1,by simp[k2],λw hw=>(aF.mp hw).elim (λz=>⟨i,t,z⟩) (k3 w)⟩
theorem kind_all{vs:List ae}{ks:List (List Int)}{Q:SortKind->af->Prop}(t:cm s.heap vs ks)(h1:0<vs.length)(hne:∀k∈ks,k≠[])(h:Q (tuples' true) s):aq M A (keyKind' vs.toArray) Q E s:=by
 obtain⟨fs,k1,k2,k3⟩:=t.firsts hne;refine kat_kind (T:=.type "int") (fs:=fs) k1 (by lia) (λv hv=>?_) (by decide) ?_
 ·obtain⟨i,t,rfl⟩:=k3 v hv;exact Looks.of_pure rfl
 ·have hb:((bV "int") != bV "tuple")=true:=by decide
  rw[hb];exact h
theorem rC{prog:aA}{w:au}{Q:Bool->af->Prop}{fin:Bool}:∀{xs ys:List ae}{ns ms:List Int} (i:Nat),ba xs ns->ba ys ms->fin=decide (xs.length<ys.length)->Q (ltL ns ms) s->KatLex prog w A true fin Q (xs.zip ys) i s
 |_,_,_,_,i,.nil,.nil,hf,h=>kat_nil (by rw[hf];exact h)
 |_,_,_,_,i,.nil,.cons _ _ _,hf,h=>kat_nil (by rw[hf];exact h)
 |_,_,_,_,i,.cons _ _ _,.nil,hf,h=>kat_nil (by rw[hf];exact h)
 |_,_,_,_,i,.cons (vs:=xs) (ns:=ns) a t hx,.cons (vs:=ys) (ns:=ms) b u hy,hf,h=>by
  rw[List.zip_cons_cons];refine kat_cons (SeqAt.EqAt.int_int _ _ _ _ prog w _ _ ?_);unfold ltL at h;by_cases hc:a=b
  ·rw[if_pos hc]at h;rw[show (a==b)=true by simp[hc]];exact kat_yes (rC (i+1) hx hy (by rw[hf];simp) h)
  ·rw[if_neg hc]at h;rw[show (a==b)=false by simp[hc]];refine kat_no ?_;cases i with
   |zero=>exact oneLt_int h
   |succ i=>exact kat_one _ _ (lt_int h)
end
noncomputable def dO(h:Heap)(x:ak):List Int:=open Classical in if z:∃k,TupAt h x.1 k then z.choose else []
theorem TupAt.keep{h h':Heap}(k:∀b o,h.get? b=some o->h'.get? b=some o){v:ae}{ns:List Int}(t:TupAt h v ns):TupAt h' v ns:=by
 obtain⟨a,o,its,n,e1,e2,e3⟩:=t;exact⟨a,o,its,n,e1,k _ _ e2,e3⟩
theorem cm.keep{h h':Heap}(k:∀b o,h.get? b=some o->h'.get? b=some o){vs:List ae}{ks:List (List Int)}(t:cm h vs ks):cm h' vs ks:=by
 induction t with
 |nil=>exact .nil
 |cons a _ ih=>exact .cons (a.keep k) ih
theorem jn{h:Heap}{x:ak}(z:∃k,TupAt h x.1 k):TupAt h x.1 (dO h x):=by
 unfold dO;rw[dif_pos z];exact z.choose_spec
theorem wJ{prog:aA}{w:au}{A:aB}{s:af}{h0:Heap}{l:List ak}(hk:∀b o,h0.get? b=some o->s.heap.get? b=some o)(hl:∀x∈l,∃k,TupAt h0 x.1 k)(hu:A.units<cLine):Cmp prog w A s oneType' (·∈l) (λx y=>ltL (dO h0 x) (dO h0 y)):=
 ⟨λx y hx hy Q h=>by
  obtain⟨a,o,its,n,e1,e2,e3,e4,e5⟩:=(jn (hl x hx)).keep hk;obtain⟨a',o',its',n',f1,f2,f3,f4,f5⟩:=(jn (hl y hy)).keep hk;rw[keyLt'_oneType,e1,f1];exact xa ⟨o,e2,e3,n,e4⟩ ⟨o',f2,f3,n',f4⟩ e5 f5 hu h,
  λ_ _ h=>iM h,λ_ _ _ h1 h2=>jD h1 h2⟩
theorem Cg{prog:aA}{w:au}{A:aB}{s:af}{h0:Heap}{l:List ak}(hk:∀b o,h0.get? b=some o->s.heap.get? b=some o)(hl:∀x∈l,∃k,TupAt h0 x.1 k):Cmp prog w A s (tuples' true) (·∈l) (λx y=>ltL (dO h0 x) (dO h0 y)):=
 ⟨λx y hx hy Q h=>by
  obtain⟨a,o,its,n,e1,e2,e3,e4,e5⟩:=(jn (hl x hx)).keep hk;obtain⟨a',o',its',n',f1,f2,f3,f4,f5⟩:=(jn (hl y hy)).keep hk;rw[e1,f1];refine kat_lt e2 e4 f2 f4 (rC 0 e5 f5 ?_ h);rw[a8,a8],
  λ_ _ h=>iM h,λ_ _ _ h1 h2=>jD h1 h2⟩
theorem u7{h:Heap}:∀(l:List ak),(∀x∈l,x.1=x.2/\∃k,TupAt h x.1 k)->cm h (l.map (·.2)) (l.map (dO h))
 | [],_=>.nil
 |x::l,z=>.cons (by have:=z x aK;show TupAt h x.2 _;rw[<-this.1];exact jn this.2) (u7 l λy hy=>z y (aO _ hy))
theorem vH{LT:ak->ak->Bool}{R:ak->Int}{a:Array ak}(S:Seg R a 0 a.size)(K:∀x∈a.toList,∀y∈a.toList,LT x y=decide (R x<R y)):a.toList.Pairwise λx y=>LT y x=false:=by
 rw[List.pairwise_iff_getElem];intro i j hi hj hij;rw[K _ (cz hj) _ (cz hi)];rw[a8]at hi hj;have:=S i j (by lia) hj;unfold Kr at this;have e1:=qo hi;have e2:=qo hj;rw[Array.getElem?_eq_getElem hi]at e1;rw[Array.getElem?_eq_getElem hj]at e2;injection e1 with e1
 injection e2 with e2
 rw[Nat.zero_add,Nat.zero_add,<-e1,<-e2]at this;rw[Array.getElem_toList,Array.getElem_toList];exact decide_eq_false (by lia)
section
variable{prog:aA}{w:au}{A:aB}{E:ae->af->Prop}{s:af}
theorem D6{h0:Heap}{a:Addr}{vs:List ae}{ks:List (List Int)}{P:Fin->af->Prop}(hoL:s.heap.get? a=some (aU "list" vs.toArray 0))(keep:∀b o,h0.get? b=some o->s.heap.get? b=some o)(hap:∀b o,h0.get? b=some o->b≠a)(h2:2<=vs.length)(hz:vs.length<=aP)(t:cm h0 vs ks)(hed:ks.head? = some []\/∀k∈ks,k≠[])(hu:A.units<cLine)
  (h:∀(out:List ae) (ks':List (List Int)),out.Perm vs->cm h0 out ks'->ks'.Pairwise (λa b=>ltL b a=false)->P (.done (.ret .none)) {s with heap:=sortedHeap s.heap a vs out.toArray}) :
  aq (ao prog w) A (Builtin.«list.sort» ⟨[.ref a],[]⟩) P E s:=by
 rw[list_sort_plain];refine ah (listItems_at  hoL rfl ?_);refine ah (listUpdate_at  hoL rfl ?_ (by rw[aV];exact hz) (bx _));obtain⟨e1,ho1⟩:∃e1,(s.heap.update a (bt λ_=>#[])).get? a=some (aU "list" #[] e1):=⟨_,get?_update_seq hoL (λ_=>#[])⟩
 refine ah (seqEpoch_at ho1 rfl ?_);refine ah (wpAny_newTuple ?_ (by show vs.length<=_;exact hz));refine ah (wpAny_newList ?_ (bx _));refine cc ?_;have hlt:a<s.heap.objs.size:=aM hoL;have k6:∀b o,h0.get? b=some o->(((s.heap.update a (bt λ_=>#[])).push (aU "tuple" vs.toArray 0)).push (aU "list" #[] 0)).get? b=some o:=λb o q=>
  Heap.get?_push_of_some _ (Heap.get?_push_of_some _ (by rw[Heap.get?_update_ne _ _ _ _ (hap b o q)];exact keep b o q))
 have ho6:(((s.heap.update a (bt λ_=>#[])).push (aU "tuple" vs.toArray 0)).push (aU "list" #[] 0)).get? a=some (aU "list" #[] e1):=Heap.get?_push_of_some _ (Heap.get?_push_of_some _ ho1);show aq (ao prog w) _ _ _ _ {s with heap:=((s.heap.update a (bt λ_=>#[])).push (aU "tuple" vs.toArray 0)).push (aU "list" #[] 0)};dsimp only;have h2':¬ vs.toArray.size<2:=by rw[aV];lia
 rw[if_neg h2',if_neg h2'];have pz:(vs.toArray.zip vs.toArray)=pairsOf vs:=rfl;have hx:∀x∈(pairsOf vs).toList,x.1=x.2/\∃k,TupAt h0 x.1 k:=λx hx=>by
  rw[pairsOf_toList]at hx;obtain⟨b1,b2⟩:=mem_zip_self hx;exact⟨b1,t.mem _ b2⟩
 obtain⟨κ,kk,C⟩:∃κ,(∀Q:SortKind->af->Prop,Q κ {s with heap:=((s.heap.update a (bt λ_=>#[])).push (aU "tuple" vs.toArray 0)).push (aU "list" #[] 0)}->aq (ao prog w) A (keyKind' vs.toArray) Q E {s with heap:=((s.heap.update a (bt λ_=>#[])).push (aU "tuple" vs.toArray 0)).push (aU "list" #[] 0)})/\Cmp prog w A {s with heap:=((s.heap.update a (bt λ_=>#[])).push (aU "tuple" vs.toArray 0)).push (aU "list" #[] 0)} κ (·∈(pairsOf vs).toList) (λx y=>ltL (dO h0 x) (dO h0 y)):=by
  rcases hed with hh|hh
  ·refine⟨oneType',λQ q=>?_,wJ k6 (λx z=>(hx x z).2) hu⟩;cases ks with
   |nil=>cases hh
   |cons k ks=>
    cases hh;exact vZ (t.keep k6) q
  ·exact⟨tuples' true,λQ q=>kind_all (t.keep k6) (by lia) hh q,Cg k6 λx z=>(hx x z).2⟩
 refine ah (kk _ ?_);have K:=(EC (dO h0)).rank (pairsOf vs).toList;refine ah (b5 (yC (Q:=λ_ st'=>(ag st').Perm (pairsOf vs)/\failedOf st'=none/\Seg (jJ (λx y=>ltL (dO h0 x) (dO h0 y)) (pairsOf vs).toList) (ag st') 0 (pairsOf vs).size) C K (λ_ z=>z) rfl rfl rfl rfl (by rw[pairsOf_size];exact h2) λst' z1 z2 z3=>⟨z1,z2,z3⟩) ?_ λ_ _ e=>e);rintro⟨⟨⟩,st'⟩ s' ⟨rfl,pm,fl,sg⟩;dsimp only;have pl:=Array.perm_iff_toList_perm.mp pm;have om:((ag st').map (·.2))=((ag st').toList.map (·.2)).toArray:=by
  generalize ag st'=z;apply Array.toList_inj.mp;rw[Array.toList_map]
 have op:((ag st').toList.map (·.2)).Perm vs:=by
  have:=pl.map (·.2)
  rwa[pairsOf_toList,List.map_snd_zip (aG _)]at this
 have ht:=u7 (ag st').toList λx z=>hx x (pl.mem_iff.mp z)
 have hs:=vH (LT:=λx y=>ltL (dO h0 x) (dO h0 y)) (R:=jJ (λx y=>ltL (dO h0 x) (dO h0 y)) (pairsOf vs).toList) (a:=ag st') (by rw[pm.size_eq];exact sg) λx z1 y z2=>K.rk x y (pl.mem_iff.mp z1) (pl.mem_iff.mp z2)
 have fin:=h _ _ op ht (by rw[List.pairwise_map];exact hs);refine ah (seqEpoch_at ho6 rfl ?_);refine ah (listUpdate_at ho6 rfl ?_ (bx _) (by rw[om,aV,op.length_eq];lia));rw[fl];simp only[bne_self_eq_false,bD,if_false];refine aE ?_;rw[om];exact fin
theorem D1{l:Addr}{vs:List ae}{ks:List (List Int)}{Q:ae->af->Prop}(hl:s.heap.IsList l vs.toArray)(h2:2<=vs.length)(hz:vs.length<=aP)(t:cm s.heap vs ks)(hed:ks.head? = some []\/∀k∈ks,k≠[])(hu:A.in1.in1.units<cLine)
  (h:∀(out:List ae) (ks':List (List Int)),out.Perm vs->cm s.heap out ks'->ks'.Pairwise (λa b=>ltL b a=false)->Q (.ref (s.heap.objs.size+1)) {s with heap:=sortedAll s.heap vs out.toArray}) :
  aq (ao prog w) A (call (.builtin "sorted") [.ref l]) Q E s:=by
 refine Calls.call_function_entry kind_sorted plain_sorted entry_sorted (args_sorted1 _) ?_;unfold Builtin.«sorted»;refine ah (m:=checkCount "sorted" 1 1 _) (aE ?_);refine ah (collect_list hl ?_ hz);refine ah (wpAny_newList ?_ hz);have hsz:((s.heap.push (aU "list" #[] 0)).update s.heap.objs.size (bt (· ++ vs.toArray))).objs.size=s.heap.objs.size+1:=by rw[Heap.size_update,size_push']
 have hoL:(((s.heap.push (aU "list" #[] 0)).update s.heap.objs.size (bt (· ++ vs.toArray))).push (aU "list" vs.toArray 0)).get? (s.heap.objs.size+1)=some (aU "list" vs.toArray 0):=by rw[<-hsz];exact Heap.get?_push_size _ rfl
 have keep:∀b o,s.heap.get? b=some o->(((s.heap.push (aU "list" #[] 0)).update s.heap.objs.size (bt (· ++ vs.toArray))).push (aU "list" vs.toArray 0)).get? b=some o:=λb o q=>by
  have hlt:b<s.heap.objs.size:=aM q;rw[Heap.get?_push_ne _ _ _ (by rw[hsz];exact a_ (cx hlt)),Heap.get?_update_ne _ _ _ _ (a_ hlt),Heap.get?_push_ne _ _ _ (a_ hlt)];exact q
 show aq _ _ _ _ _ {s with heap:=((s.heap.push (aU "list" #[] 0)).update s.heap.objs.size (bt (· ++ vs.toArray))).push (aU "list" vs.toArray 0)};rw[hsz];refine ah (cc (dG slot_list_sort ⟨_,hoL,rfl⟩ entry_list_sort ?body (args_list_sort _)))
 case body=>
  have hap:∀b o,s.heap.get? b=some o->b≠s.heap.objs.size+1:=λb o q=>a_ (cx (aM q))
  refine D6 (h0:=s.heap) hoL keep hap h2 hz t hed hu λout ks' a1 a2 a3=>⟨_,rfl,aE ⟨_,rfl,h out ks' a1 a2 a3⟩⟩
end
end TS
namespace L2
open PySem PySem.Spec PyProof.Rows TS
theorem sE:∀{vs:List ae}{a b:List Int},ba vs a->ba vs b->a=b
 |_,_,_,.nil,.nil=>rfl
 |_,_,_,.cons n t h,h'=>by
  cases h' with
  |cons n' t' h''=>rw[sE h h'']
theorem oS{h:Heap}{v:ae}{a b:List Int}(x:TupAt h v a)(y:TupAt h v b):a=b:=by
 obtain⟨p,o,its,n,rfl,e2,_,e4,e5⟩:=x;obtain⟨p',o',its',n',f1,f2,_,f4,f5⟩:=y;cases f1;rw[e2]at f2;cases f2;rw[e4]at f4;cases f4;exact sE e5 f5
theorem mN{h:Heap}{f:Addr->List Int}:∀(ps:List Addr),(∀p∈ps,TupAt h (.ref p) (f p))->cm h (ps.map bq) (ps.map f)
 | [],_=>.nil
 |p::ps,z=>.cons (z p aK) (mN ps λq hq=>z q (aO _ hq))
theorem HA{h:Heap}{vs:List ae}{a b:List (List Int)}(x:cm h vs a)(y:cm h vs b):a=b:=by
 induction x generalizing b with
 |nil=>cases y;rfl
 |cons t _ ih=>
  cases y with
  |cons t' y'=>rw[oS t t',ih y']
theorem EN{ps:List Addr}:∀{us:List ae},Vals (ps.map V.ref) us->us=ps.map ae.ref:=by
 induction ps with
 |nil=>intro us r;cases r;rfl
 |cons p ps ih=>
  intro us r;cases r with
  |cons h t=>rw[ih t,show _=bq p from h];rfl
theorem oH:∀(ps:List Addr),Vals (ps.map V.ref) (ps.map bq)
 | []=>.nil
 |p::ps=>.cons rfl (oH ps)
noncomputable def gK:ae->Addr
 | .ref a=>a
 |_=>0
noncomputable def GR(K:aC):List V->Hp->VK->Prop:=λvs H Q=>∃(l:Addr) (p:Addr) (ps:List Addr) (f:Addr->List Int),vs=[.ref l]/\SqL K H l ((p::ps).map V.ref)/\ps≠[]/\(f p=[]\/∀q∈p::ps,f q≠[]) /\
 (∀q∈p::ps,SqT K H q ((f q).map V.int))/\∀(D:Addr) (qs:List Addr),H D=none->qs.Perm (p::ps)->(qs.map f).Pairwise (λa b=>ltL b a=false)->Q (.ref D) (upd H D (.lst (qs.map V.ref)))
theorem GY{X:Cx}(hu:X.A.in1.in1.units<cLine):zg X (.builtin "sorted") (GR X.K):=by
 intro pins s σ H xs us Q I r h;obtain⟨l,p,ps,f,rfl,hl,hne,hf,hp,q⟩:=h;obtain⟨u,rfl,ru⟩:=r.one;cases ru;obtain⟨its,rv,pl,hz⟩:=I.list hl;have ei:=EN rv;subst ei;have tp:∀z∈p::ps,TupAt s.heap (.ref z) (f z):=λz hz=>by
  obtain⟨its,r2,⟨o,e1,e2,n,e3⟩,_⟩:=I.tuple (hp z hz);exact⟨z,o,its.toArray,n,rfl,e1,e2,e3,by simpa using intsAre_of r2⟩
 have t:=mN (p::ps) tp;have hz':((p::ps).map bq).length<=sizeLine:=by simpa using hz
 refine D1 pl.isList (by cases ps with
  |nil=>exact absurd rfl hne
  |cons _ _=>simp) hz' t (by
   rcases hf with hf|hf
   ·left;rw[aR,hf];rfl
   ·right;intro k hk;obtain⟨q,hq,rfl⟩:=aI.mp hk;exact hf q hq) hu λout ks' op ot os=>?_
 have eo:out=(out.map gK).map ae.ref:=by
  rw[cg]
  conv=>lhs;rw[<-List.map_id out]
  refine List.map_congr_left λv hv=>?_
  obtain⟨a,_,rfl⟩:=aI.mp (op.mem_iff.mp hv)
  rfl
 have qp:(out.map gK).Perm (p::ps):=by
  have:=op.map gK
  rwa[cg,show (gK∘bq)=id from rfl,List.map_id]at this
 have ek:ks'=(out.map gK).map f:=by
  rw[eo]at ot;exact HA ot (mN _ λz hz=>tp z (qp.mem_iff.mp hz))
 subst ek;obtain⟨c,hc⟩:=sortedAll_at s.heap ((p::ps).map bq) out.toArray;have hD0:s.heap.get? (s.heap.objs.size+1)=none:=Heap.get?_none_of_le (Nat.le_succ _);have q':=q (s.heap.objs.size+1) (out.map gK) (I.hok.free_of hD0) qp os;refine⟨.ref (s.heap.objs.size+1),_,I.newList (s':={s with heap:=sortedAll s.heap ((p::ps).map bq) out.toArray}) (c:=c) (its:=out) rfl rfl (λb o _ e=>sortedAll_old e) (λm hm=>hm.keeps λb o e=>sortedAll_old e) hD0 (Nat.ne_of_gt (cx I.lt)) hc (by have:=oH (out.map gK);rwa[<-eo]at this) (by rw[aJ,aJ,op.length_eq];exact hz'),rfl,q'⟩
noncomputable def tL(K:aC):List V->Hp->VK->Prop:=λvs H Q=>∃(l:Addr) (as:List Addr) (ts:List (List Int)),vs=[.ref l]/\SqL K H l (as.map V.ref)/\as.length=ts.length/\2<=ts.length/\(ts[0]? = some []\/∀t∈ts,t≠[]) /\
 (∀(i:Nat) a t,as[i]? = some a->ts[i]? = some t->SqT K H a (t.map V.int)) /\
 ∀(D:Addr) (qs:List Addr) (f:Addr->List Int),H D=none->qs.Perm as->(∀(i:Nat) a t,as[i]? = some a->ts[i]? = some t->f a=t)->(qs.map f).Pairwise (λa b=>ltL b a=false)->Q (.ref D) (upd H D (.lst (qs.map V.ref)))
theorem EZ{X:Cx}(hu:X.A.in1.in1.units<cLine):zg X (.builtin "sorted") (tL X.K):=by
 intro pins s σ H xs us Q I r h;obtain⟨l,as,ts,rfl,hl,hlen,h2,h0,ht,q⟩:=h;have tp:∀(i:Nat) a t,as[i]? = some a->ts[i]? = some t->TupAt s.heap (.ref a) t:=λi a t ha hb=>by
  obtain⟨its,r2,⟨o,e1,e2,n,e3⟩,_⟩:=I.tuple (ht i a t ha hb);exact⟨a,o,its.toArray,n,rfl,e1,e2,e3,by simpa using intsAre_of r2⟩
 let f:Addr->List Int:=λa=>ts.getD (as.idxOf a) []
 have hf:∀(i:Nat) a t,as[i]? = some a->ts[i]? = some t->f a=t:=λi a t ha hb=>by
  have hm:a∈as:=List.mem_of_getElem? ha;have hi:=List.idxOf_lt_length_of_mem hm;have e1:as[as.idxOf a]? = some a:=by rw[List.getElem?_eq_getElem hi];simp
  have e2:ts[as.idxOf a]? = some (f a):=by
   have:as.idxOf a<ts.length:=by lia
   simp[f,this]
  exact oS (tp _ _ _ e1 e2) (tp _ _ _ ha hb)
 match as,hlen with
 | [],hlen=>simp at hlen;lia
 |p::ps,hlen=>
  have hne:ps≠[]:=λz=>by subst z;simp at hlen;lia
  refine GY hu pins s σ H _ us Q I r ⟨l,p,ps,f,rfl,hl,hne,?_,λa ha=>?_,λD qs hD hp hs=>q D qs f hD hp hf hs⟩
  ·rcases h0 with h0|h0
   ·exact .inl (hf 0 p [] (by simp) h0)
   ·refine .inr λa ha=>?_
    obtain⟨i,hi,rfl⟩:=List.getElem_of_mem ha;have hi':i<ts.length:=by lia
    rw[hf i (p::ps)[i] ts[i] (by simp) (by simp)];exact h0 _ (cz hi')
  obtain⟨i,hi,rfl⟩:=List.getElem_of_mem ha;have hi':i<ts.length:=by lia
  have e:=ht i (p::ps)[i] ts[i] (by simp) (by simp)
  rwa[<-hf i (p::ps)[i] ts[i] (by simp) (by simp)]at e
noncomputable def z_(K:aC):List V->Hp->VK->Prop:=λvs H Q=>∃(l:Addr) (xs:List V),vs=[.ref l]/\SqL K H l xs/\xs.length<2/\∀D,H D=none->Q (.ref D) (upd H D (.lst xs))
theorem Fh{X:Cx}:zg X (.builtin "sorted") (z_ X.K):=by
 intro pins s σ H xs us Q I r h;obtain⟨l,ys,rfl,hl,h2,q⟩:=h;obtain⟨u,rfl,ru⟩:=r.one;cases ru;obtain⟨its,rv,pl,hz⟩:=I.list hl;have hl':=rv.length;refine EM pl.isList (by lia) ?_;obtain⟨c,hc⟩:=sortedAll_at s.heap its its.toArray;have hD0:s.heap.get? (s.heap.objs.size+1)=none:=Heap.get?_none_of_le (Nat.le_succ _);exact⟨.ref (s.heap.objs.size+1),_,I.newList (s':={s with heap:=sortedAll s.heap its its.toArray}) (c:=c) rfl rfl (λb o _ e=>sortedAll_old e) (λm hm=>hm.keeps λb o e=>sortedAll_old e) hD0 (Nat.ne_of_gt (cx I.lt)) hc rv (by rw[bu];lia),rfl,q _ (I.hok.free_of hD0)⟩
end L2
namespace L2
open PySem PySem.Spec PyProof.Rows
section
variable{X:Cx}
end
theorem Hj{its:List ae}{ns:List Int}(hi:ba its ns):∃ps:Array (Int×Tok),its.toArray=intItems ps/\ns=ps.toList.map Prod.fst:=by
 rcases hi.allInts.items with ⟨ps,hx⟩
 refine⟨ps,hx,?_⟩;have z:numsOf its.toArray.toList=ns:=hi.numsOf;rw[hx,nums_intItems]at z;exact z.symm
section
variable{X:Cx}
noncomputable def lX(mx:Bool)(ns:List Int)(n:Int):Prop:=n∈ns/\∀m∈ns,if mx then m<=n else n<=m
theorem t4(hc:X.calm=true)(mx:Bool):zg X (.builtin (if mx then "max" else "min")) (λxs H Q=>∃(l:Addr) (ns:List Int),xs=[.ref l]/\SqL X.K H l (ns.map V.int)/\ns≠[]/\∀n,lX mx ns n->Q (.int n) H):=by
 intro pins s σ H xs us Q I r h;obtain⟨l,ns,rfl,hl,hne,q⟩:=h;obtain⟨u,rfl,ru⟩:=r.one;cases ru;obtain⟨its,rv,pl,hz⟩:=I.list hl;obtain⟨xs,hx,e1⟩:=Hj (intsAre_of rv);have hl':s.heap.IsList l (intItems xs):=by rw[<-hx];exact pl.isList
 have hsz:0<xs.size:=by
  cases ns with
  |nil=>exact absurd rfl hne
  |cons a r=>
   have:=congrArg List.length e1;simp at this;lia
 have atN:∀i,i<xs.size->∃h:i<ns.length,numAt xs i=ns[i]:=λi hi'=>by
  subst e1;refine⟨by simpa using hi',?_⟩;simp[numAt,hi']
 cases mx with
 |true=>
  refine max_intList (I.ok.hd hc) hl' hsz λv h' tk hv hk=>?_
  obtain⟨t,rfl⟩:=intItems_at hv;refine⟨.int _,H,I.kept hk,⟨_,rfl⟩,q _ ?_⟩;obtain⟨b1,b2⟩:=argBest_gt (numAt xs) (xs.size-1);obtain⟨z1,z2⟩:=atN _ (show argBest (λi j=>decide (numAt xs i>numAt xs j)) (xs.size-1)<xs.size by lia);refine⟨by rw[z2];exact cz _,λm hm=>?_⟩;obtain⟨j,hj,rfl⟩:=List.getElem_of_mem hm;have hj':j<xs.size:=by rw[e1]at hj;simpa using hj
  obtain⟨_,y2⟩:=atN j hj';rw[<-y2];exact b2 j (by lia)
 |false=>
  refine min_intList (I.ok.hd hc) hl' hsz λv h' tk hv hk=>?_
  obtain⟨t,rfl⟩:=intItems_at hv;refine⟨.int _,H,I.kept hk,⟨_,rfl⟩,q _ ?_⟩;obtain⟨b1,b2⟩:=argBest_lt (numAt xs) (xs.size-1);obtain⟨z1,z2⟩:=atN _ (show argBest (λi j=>decide (numAt xs i<numAt xs j)) (xs.size-1)<xs.size by lia);refine⟨by rw[z2];exact cz _,λm hm=>?_⟩;obtain⟨j,hj,rfl⟩:=List.getElem_of_mem hm;have hj':j<xs.size:=by rw[e1]at hj;simpa using hj
  obtain⟨_,y2⟩:=atN j hj';rw[<-y2];exact b2 j (by lia)
end
end L2
namespace EV
open PySem PySem.Spec PySem.P PyProof.Rows L2
theorem insI_perm(i:Int):∀l,(insI i l).Perm (i::l)
 | []=>.refl _
 |j::r=>by
  unfold insI;split
  ·exact .refl _
  ·exact((insI_perm i r).cons j).trans (.swap ..)
theorem sortI_perm:∀l,(sortI l).Perm l
 | []=>.refl _
 |i::r=>(insI_perm i _).trans ((sortI_perm r).cons i)
theorem nV(i:Int):∀{l:List Int},l.Pairwise (·<=·)->(insI i l).Pairwise (·<=·)
 | [],_=>by simp[insI]
 |j::r,h=>by
  unfold insI;obtain⟨h1,h2⟩:=List.pairwise_cons.mp h;split
  ·rename_i hij
   refine List.pairwise_cons.mpr ⟨λx hx=>?_,h⟩;rcases aF.mp hx with rfl|hx
   ·exact hij
   ·exact Int.le_trans hij (h1 x hx)
  ·rename_i hij
   refine List.pairwise_cons.mpr ⟨λx hx=>?_,nV i h2⟩;rcases aF.mp ((insI_perm i r).mem_iff.mp hx)with rfl|hx
   ·lia
   ·exact h1 x hx
theorem m5:∀l:List Int,(sortI l).Pairwise (·<=·)
 | []=>.nil
 |i::r=>nV i (m5 r)
theorem kO{l m:List Int}(h1:m.Perm l)(h2:m.Pairwise (·<=·)):m=sortI l:=PySem.W.ksm_same (h1.trans (sortI_perm l).symm) h2 (m5 l)
theorem nE(p:Int×Int):∀l,(fH p l).Perm (p::l)
 | []=>.refl _
 |j::r=>by
  unfold fH;split
  ·exact((nE p r).cons j).trans (.swap ..)
  ·exact .refl _
theorem iC:∀l,(zj l).Perm l
 | []=>.refl _
 |i::r=>(nE i _).trans ((iC r).cons i)
theorem p7{a b:Int×Int}:ltP a b=true↔a.1<b.1\/(a.1=b.1/\a.2<b.2):=by
 unfold ltP;by_cases h:a.1=b.1
 ·simp[h]
 ·simp[h]
theorem l_{a b:Int×Int}:ltP a b=false↔b.1<a.1\/(a.1=b.1/\b.2<=a.2):=by
 rw[<-Bool.not_eq_true,p7];lia
theorem pP(p:Int×Int):∀{l:List (Int×Int)},l.Pairwise (λa b=>ltP b a=false)->(fH p l).Pairwise (λa b=>ltP b a=false)
 | [],_=>by simp[fH]
 |j::r,h=>by
  unfold fH;obtain⟨h1,h2⟩:=List.pairwise_cons.mp h;split
  ·rename_i hij
   rw[p7]at hij;refine List.pairwise_cons.mpr ⟨λx hx=>?_,pP p h2⟩;rcases aF.mp ((nE p r).mem_iff.mp hx)with rfl|hx
   ·rw[l_];lia
   ·exact h1 x hx
  ·rename_i hij
   have hij':ltP j p=false:=by simpa using hij
   refine List.pairwise_cons.mpr ⟨λx hx=>?_,h⟩;rcases aF.mp hx with rfl|hx
   ·exact hij'
   ·have:=h1 x hx;rw[l_]at this hij' ⊢;lia
theorem m8:∀l:List (Int×Int),(zj l).Pairwise (λa b=>ltP b a=false)
 | []=>.nil
 |i::r=>pP i (m8 r)
theorem Gj{l m:List (Int×Int)}(h1:m.Perm l)(h2:m.Pairwise (λa b=>ltP b a=false)):m=zj l:=
 (h1.trans (iC l).symm).eq_of_pairwise (λa b _ _ z1 z2=>by rw[l_]at z1 z2;exact Prod.ext (by lia) (by lia)) h2 (m8 l)
theorem pN:∀(a b:List Int),eD a b=TS.ltL a b
 | [],[]=>rfl
 | [],_::_=>rfl
 |_::_,[]=>rfl
 |a::r,b::t=>by
  unfold eD TS.ltL;rw[pN r t]
theorem mi(p:List Int):∀l,(eO p l).Perm (p::l)
 | []=>.refl _
 |j::r=>by
  unfold eO;split
  ·exact((mi p r).cons j).trans (.swap ..)
  ·exact .refl _
theorem jq:∀l,(zT l).Perm l
 | []=>.refl _
 |i::r=>(mi i _).trans ((jq r).cons i)
theorem uI(p:List Int):∀{l:List (List Int)},l.Pairwise (λa b=>TS.ltL b a=false)->(eO p l).Pairwise (λa b=>TS.ltL b a=false)
 | [],_=>by simp[eO]
 |j::r,h=>by
  unfold eO;obtain⟨h1,h2⟩:=List.pairwise_cons.mp h;rw[pN];split
  ·rename_i hij
   refine List.pairwise_cons.mpr ⟨λx hx=>?_,uI p h2⟩;rcases aF.mp ((mi p r).mem_iff.mp hx)with rfl|hx
   ·exact TS.iM hij
   ·exact h1 x hx
  ·rename_i hij
   have hij':TS.ltL j p=false:=by simpa using hij
   refine List.pairwise_cons.mpr ⟨λx hx=>?_,h⟩;rcases aF.mp hx with rfl|hx
   ·exact hij'
   ·exact TS.jD hij' (h1 x hx)
theorem pE:∀l:List (List Int),(zT l).Pairwise (λa b=>TS.ltL b a=false)
 | []=>.nil
 |i::r=>uI i (pE r)
theorem wq{l m:List (List Int)}(h1:m.Perm l)(h2:m.Pairwise (λa b=>TS.ltL b a=false)):m=zT l:=
 (h1.trans (jq l).symm).eq_of_pairwise (λa b _ _ z1 z2=>TS.uk z2 z1) h2 (pE l)
theorem k_(mx:Bool):∀(i:Int) (r:List Int) (n:Int),lX mx (i::r) n->n=zW mx i r
 |i,[],n,h=>by
  obtain⟨h1,_⟩:=h
  simpa[zW]using h1
 |i,j::r,n,h=>by
  obtain⟨h1,h2⟩:=h;unfold zW;refine k_ mx _ r n ⟨?_,?_⟩
  ·have hi:=h2 i (by simp);have hj:=h2 j (by simp);rcases aF.mp h1 with rfl|h1
   ·cases mx<;>simp at hi hj ⊢ <;> left<;>first|lia|(intro _;lia)
   ·rcases aF.mp h1 with rfl|h1
    ·cases mx<;>simp at hi hj ⊢ <;> left<;>first|lia|(intro _;lia)
    ·exact aO _ h1
  ·intro m hm;rcases aF.mp hm with rfl|hm
   ·have hi:=h2 i (by simp);have hj:=h2 j (by simp);cases mx<;>simp at hi hj ⊢ <;> split<;>assumption
   ·exact h2 m (by simp[hm])
section
variable{X:Cx}{g:Gc}
theorem qw.tups{H:Hp}{ds:List D}:∀{vs:List V}{ts:List (List Int)},qw g H ds vs->tups? ds=some ts->ds=ts.map iy/\∃as:List Addr,vs=as.map V.ref/\as.length=ts.length/\∀(i:Nat) a t,as[i]? = some a->ts[i]? = some t->SqT g.K H a (t.map V.int)/\Rep g H (iy t) (.ref a):=by
 induction ds with
 |nil=>intro vs ts h e;cases h;cases e;exact⟨rfl,[],rfl,rfl,λi a p h=>by cases h⟩
 |cons d ds ih=>
  intro vs ts h e;cases h with
  |cons h t=>cases d with
   |tup xs=>
    obtain⟨n,e0,e⟩:=aQ.mp (show (ints? xs).bind (λn=>(tups? ds).map (n :: ·))=some ts from e);obtain⟨ms,e1,rfl⟩:=bF.mp e;obtain⟨h1,as,h2,h3,h4⟩:=ih t e1;have hh:=h;cases h with
    | @tup a _ _ q r=>
     obtain⟨rfl,e2⟩:=r.ints e0;refine⟨by rw[h1,e2];rfl,a::as,by rw[h2];rfl,congrArg (· + 1) h3,λi b p hb hp=>?_⟩;cases i with
     |zero=>cases hb;cases hp;exact⟨q,by rw[e2]at hh;exact hh⟩
     |succ i=>exact h4 i b p hb hp
   |_=>cases (show none=some ts from e)
theorem qw.pairs{H:Hp}{ds:List D}:∀{vs:List V}{ps:List (Int×Int)},qw g H ds vs->pairs? ds=some ps->ds=ps.map pairD/\∃as:List Addr,vs=as.map V.ref/\as.length=ps.length/\∀(i:Nat) a p,as[i]? = some a->ps[i]? = some p->SqT g.K H a [.int p.1,.int p.2]:=by
 induction ds with
 |nil=>intro vs ps h e;cases h;cases e;exact⟨rfl,[],rfl,rfl,λi a p h=>by cases h⟩
 |cons d ds ih=>
  intro vs ps h e;have no:∀{P:Prop},pairs? (d::ds)=none->P:=λz=>by rw[z]at e;cases e
  cases h with
  |cons h t=>cases d with
   |tup xs=>cases xs with
    |nil=>exact no rfl
    |cons a xs=>cases a with
     |int x=>cases xs with
      |nil=>exact no rfl
      |cons b xs=>cases b with
       |int y=>cases xs with
        |cons _ _=>exact no rfl
        |nil=>
         obtain⟨ms,e1,rfl⟩:=bF.mp (show (pairs? ds).map ((x,y) :: ·)=some ps from e);obtain⟨h1,as,h2,h3,h4⟩:=ih t e1;cases h with
         | @tup a xs _ q r=>
          obtain⟨rfl,_⟩:=r.ints (ns:=[x,y]) rfl;refine⟨by rw[h1];rfl,a::as,by rw[h2];rfl,congrArg (· + 1) h3,λi b p hb hp=>?_⟩;cases i with
          |zero=>cases hb;cases hp;exact q
          |succ i=>exact h4 i b p hb hp
       |_=>exact no rfl
     |_=>exact no rfl
   |_=>exact no rfl
theorem n_{H:Hp}:∀{ts:List (List Int)}{as:List Addr},as.length=ts.length->(∀(i:Nat) a t,as[i]? = some a->ts[i]? = some t->Rep g H (iy t) (.ref a))->qw g H (ts.map iy) (as.map V.ref)
 | [],[],_,_=>.nil
 |t::ts,a::as,e,h=>.cons (h 0 a t rfl rfl) (n_ (by simpa using e) λi b u hb hu=>h (i+1) b u (by simpa using hb) (by simpa using hu))
theorem pM:∀{xs:List D}{ps:List (Int×Int)},pairs? xs=some ps->tups? xs=some (ps.map λp=>[p.1,p.2])
 | [],_,h=>by cases h;rfl
 | .tup [.int i,.int j]::r,ps,h=>by
  simp only[pairs?,bF]at h;obtain⟨qs,h1,rfl⟩:=h;show (some [i,j]).bind (λn=>(tups? r).map (n :: ·))=_;rw[pM h1];rfl
theorem sk(p:Int×Int):∀qs:List (Int×Int),eO [p.1,p.2] (qs.map λp=>[p.1,p.2])=(fH p qs).map λp=>[p.1,p.2]
 | []=>rfl
 |q::r=>by
  have e:eD [q.1,q.2] [p.1,p.2]=ltP q p:=by
   simp only[eD,ltP];by_cases h:q.1=p.1
   ·rw[if_pos h,if_pos h];by_cases h':q.2=p.2
    ·rw[if_pos h',h'];simp
    ·rw[if_neg h']
   ·rw[if_neg h,if_neg h]
  rw[aR,eO,fH,e,sk p r];cases ltP q p<;>rfl
theorem vj:∀qs:List (Int×Int),zT (qs.map λp=>[p.1,p.2])=(zj qs).map λp=>[p.1,p.2]
 | []=>rfl
 |q::r=>by rw[aR,zT,zj,vj r,sk]
theorem AL{xs:List D}{ps:List (Int×Int)}(h:pairs? xs=some ps)(h2:2<=ps.length):eB xs=.ok (.lst ((zj ps).map pairD)):=by
 rw[eB,pM h];have e:gE (ps.map λp=>[p.1,p.2])=true:=by
  match ps,h2 with
  |p::q::r,_=>simp[gE]
 show (if gE _=true then _ else _)=_;rw[e,if_pos rfl,vj,cg]
 rfl
theorem xJ(hK:X.K=g.K)(hu:X.A.units+64<cLine)(hc:X.calm=true):zg X (.builtin "sorted") (rB1 g .sorted):=gD (((vA.or (Fh.or (EZ (show X.A.units+1+1<cLine by lia)))).or Ao).or (CC hc)) λS ds d vs H Q hs rs h q=>by
 obtain⟨x,rfl,h'⟩:=l5 (λ_ _=>rfl) h;by_cases htu:∃xs,x=.tup xs
 ·obtain⟨xs,rfl⟩:=htu;have h':(if xs.length<64 then bX (ints? xs) λns=>.ok (.lst ((sortI ns).map D.int))else .no)=R.ok d:=h';split at h'
  ·rename_i hz
   obtain⟨ns,e,h2⟩:=iu h';cases h2;cases rs with
   |cons r rs=>
    cases rs;obtain⟨a,us,rfl,h1,r1⟩:=r.tup;obtain⟨rfl,rfl⟩:=r1.ints e;refine .inl (.inr ⟨a,ns,rfl,by rw[hK];exact h1,by simpa using hz,λp ms hp pm pw=>?_⟩);rw[kO pm pw];exact q _ _ (zi hp) (fM hs hp (qw.ofInts _)) λ_=>gb (qe.refl _) hp (qw.ofInts _)
  ·cases h'
 by_cases hdi:∃kvs,x=.dic kvs
 ·obtain⟨kvs,rfl⟩:=hdi;have h':(if kvs.length<64 then R.ok (D.lst ((sortI (kvs.map (·.1))).map D.int))else .no)=R.ok d:=h';split at h'
  ·rename_i hz
   cases h';cases rs with
   |cons r rs=>
    cases rs;obtain⟨a,rfl,h1⟩:=r.dic;refine .inr ⟨a,kvs,rfl,h1,hz,λp ms hp pm pw=>?_⟩;rw[kO pm pw];exact q _ _ (zi hp) (fM hs hp (qw.ofInts _)) λ_=>gb (qe.refl _) hp (qw.ofInts _)
  ·cases h'
 refine .inl (.inl ?_);have h':(dE x λxs=>if xs.length<64 then (match ints? xs with
   |some ns=>.ok (.lst ((sortI ns).map D.int))
   |none=>match pairs? xs with
    |some ps=>.ok (.lst ((zj ps).map pairD))
    |none=>eB xs)else eB xs)=.ok d:=by cases x<;>first|exact absurd ⟨_,rfl⟩ htu|exact absurd ⟨_,rfl⟩ hdi|exact h'
 obtain⟨xs,rfl,h2⟩:=jw h'
 replace h:=h2
 cases rs with
 |cons r rs=>
  cases rs;obtain⟨a,us,rfl,h1,r1⟩:=r.lst;have big:eB xs=.ok d->tL X.K [.ref a] H Q:=λh=>by
   obtain⟨ts,e,h⟩:=iu h;split at h
   ·rename_i hh
    cases h;obtain⟨rfl,as,rfl,hl,hp⟩:=r1.tups e;have hh':2<=ts.length/\(ts[0]? = some []\/∀t∈ts,t≠[]):=by
     match ts,hh with
     |p::q::r,hh=>
      refine⟨by simp,?_⟩;rw[gE,bW]at hh;rcases hh with hh|hh
      ·exact .inl (by simpa using hh)
      ·exact .inr λt ht=>by simpa using b_.mp hh t ht
    refine⟨a,as,ts,rfl,by rw[hK];exact h1,hl,hh'.1,hh'.2,λi b t hb ht=>by rw[hK];exact zE zH (hp i b t hb ht).1,λD qs f hn pm hf ps=>?_⟩;have e1:as.map f=ts:=by
     refine List.ext_getElem (by simp[hl]) λi h1 h2=>?_
     rw[List.getElem_map];have:i<as.length:=by simpa using h1
     exact hf i as[i] ts[i] (by simp[this]) (by simp[h2])
    have e2:qs.map f=zT ts:=wq (by have:=pm.map f;rwa[e1]at this) ps;have hR:qw g (hid H S) ((zT ts).map iy) (qs.map V.ref):=by
     rw[<-e2];refine n_ (by simp) λi b t hb ht=>?_
     have hm:b∈as:=pm.mem_iff.mp (List.mem_of_getElem? hb);obtain⟨j,hj,rfl⟩:=List.getElem_of_mem hm;have hj':j<ts.length:=by lia
     have e3:t=ts[j]:=by
      have e4:=hf j as[j] ts[j] (by simp[hj]) (by simp[hj']);rw[List.getElem?_map,hb]at ht;simp at ht;rw[<-ht,e4]
     rw[e3];exact(hp j as[j] ts[j] (by simp[hj]) (by simp[hj'])).2
    exact q _ _ (zi hn) (fM hs hn hR) λ_=>gb (qe.refl _) hn hR
   ·cases h
  by_cases hz:xs.length<64
  ·rw[if_pos hz]at h;cases e:ints? xs with
   |some ns=>
    rw[e]at h;cases h;obtain⟨rfl,rfl⟩:=r1.ints e;refine .inl ⟨a,ns,rfl,by rw[hK];exact h1,by simpa using hz,λp ms hp pm pw=>?_⟩;rw[kO pm pw];exact q _ _ (zi hp) (fM hs hp (qw.ofInts _)) λ_=>gb (qe.refl _) hp (qw.ofInts _)
   |none=>
    rw[e]at h;cases e2:pairs? xs with
    |none=>rw[e2]at h;exact .inr (.inr (big h))
    |some ps=>
     rw[e2]at h;cases h;obtain⟨rfl,as,rfl,hl,hp⟩:=r1.pairs e2;by_cases h2:2<=ps.length
     ·exact .inr (.inr (big (AL e2 h2)))
     ·have e3:zj ps=ps:=by
       match ps,h2 with
       | [],_=>rfl
       | [_],_=>rfl
       |_::_::r,h=>exact absurd (show 2<=r.length+1+1 by lia) h
      refine .inr (.inl ⟨a,as.map V.ref,rfl,by rw[hK];exact h1,by rw[aJ];lia,λp hn=>?_⟩);rw[e3]at q;exact q _ _ (zi hn) (fM hs hn r1) λ_=>gb (qe.refl _) hn r1
  ·rw[if_neg hz]at h;exact .inr (.inr (big h))
theorem tf(hK:X.K=g.K)(hc:X.calm=true)(mx:Bool):zg X (.builtin (if mx then "max" else "min")) (rB1 g (if mx then .max else .min)):=by
 have two:∀{S:Sh}{H:Hp}{x y:D}{vs:List V}{i j:Int},x=.int i->y=.int j->gF g H S [x,y] vs->vs=[.int i,.int j]:=by
  intro S H x y vs i j hx hy rs;subst hx hy;cases rs with
  |cons r1 rs=>
   cases rs with
   |cons r2 rs=>cases rs;rw[r1.int,r2.int]
 have one:∀{S:Sh}{H:Hp}{x d:D}{vs:List V},gF g H S [x] vs->(dE x λxs=>bX (ints? xs) λns=>jv mx ns)=.ok d->∃(l:Addr) (ns:List Int),vs=[.ref l]/\SqL X.K H l (ns.map V.int)/\ns≠[]/\∀n,lX mx ns n->d=.int n:=by
  intro S H x d vs rs hA;obtain⟨xs,rfl,hB⟩:=jw hA;obtain⟨ns,e,hC⟩:=iu hB;clear hA hB;have h:jv mx ns=.ok d:=hC;clear hC;cases rs with
  |cons r rs=>
   cases rs;obtain⟨a,us,rfl,h1,r1⟩:=r.lst;obtain⟨rfl,rfl⟩:=r1.ints e
   match ns,h with
   |i::r,h=>
    cases h;exact⟨a,i::r,rfl,by rw[hK];exact h1,by simp,λn hb=>by rw[k_ _ _ _ _ hb]⟩
 have inv:∀{b:B1}{ds:List D}{d:D},b1 b ds=.ok d->(∃x,ds=[x]/\b11 b x=.ok d)\/∃x y,ds=[x,y]/\b12 b x y=.ok d:=by
  intro b ds d h
  match ds,h with
  | [x],h=>exact .inl ⟨x,rfl,h⟩
  | [x,y],h=>exact .inr ⟨x,y,rfl,h⟩
  | [],h=>cases h
  |_::_::_::_,h=>cases h
 cases mx
 ·exact gD ((yL hc).or (t4 hc false)) λS ds d vs H Q hs rs h q=>by
   rcases inv h with ⟨x,rfl,h'⟩|⟨x,y,rfl,h'⟩
   ·obtain⟨l,ns,e1,e2,e3,e4⟩:=one rs h';exact .inr ⟨l,ns,e1,e2,e3,λn hb=>q _ _ (qe.refl _) (by rw[e4 n hb];exact .int _) (by simp)⟩
   ·obtain⟨i,j,hx,hy,h'⟩:=pV h';cases h';exact .inl ⟨i,j,two hx hy rs,q _ _ (qe.refl _) (.int _) (by simp)⟩
 ·exact gD ((Gk hc).or (t4 hc true)) λS ds d vs H Q hs rs h q=>by
   rcases inv h with ⟨x,rfl,h'⟩|⟨x,y,rfl,h'⟩
   ·obtain⟨l,ns,e1,e2,e3,e4⟩:=one rs h';exact .inr ⟨l,ns,e1,e2,e3,λn hb=>q _ _ (qe.refl _) (by rw[e4 n hb];exact .int _) (by simp)⟩
   ·obtain⟨i,j,hx,hy,h'⟩:=pV h';cases h';exact .inl ⟨i,j,two hx hy rs,q _ _ (qe.refl _) (.int _) (by simp)⟩
theorem xQ:zg X (.builtin "abs") (rB1 g .abs):=ko (λ_=>rfl) λ_ _=>rfl
theorem BE:zg X (.type "int") (rB1 g .int):=ko (λ_=>rfl) λ_ _=>rfl
theorem Fy:zg X (.type "bool") (rB1 g .bool):=ko (λ_=>rfl) λ_ _=>rfl
theorem vJ(hK:X.K=g.K)(hc:X.calm=true):zg X (.builtin "sum") (rB1 g .sum):=ko (λ_=>rfl) λ_ _=>rfl
theorem oQ(hK:X.K=g.K)(hu:X.A.units+64<cLine):∀b,(X.calm=true\/b=.len\/b=.abs\/b=.tuple\/b=.list\/b=.int\/b=.bool)->zg X (b1V b) (rB1 g b)
 | .len,_=>B9 hK
 | .tuple,_=>G3 hK
 | .list,_=>F9 hK
 | .sorted,h=>xJ hK hu (by simpa using h)
 | .all,h=>pv hK (by simpa using h) true
 | .any,h=>pv hK (by simpa using h) false
 | .sum,h=>vJ hK (by simpa using h)
 | .min,h=>tf hK (by simpa using h) false
 | .max,h=>tf hK (by simpa using h) true
 | .abs,_=>xQ
 | .int,_=>BE
 | .bool,_=>Fy
theorem ux{H:Hp}{ds:List D}{vs:List V}(r:qw g H ds vs):ds.isEmpty=vs.isEmpty:=by cases r<;>rfl
theorem xt(hK:X.K=g.K){S:Sh}{H:Hp}{d:D}{v:V}{b:Bool}(r:zN g H S d v)(e:truth d=.ok b):l0 X.K v H b:=by
 cases d with
 |non=>cases r.rep;cases e;exact rfl
 |bl c=>cases r.rep;cases e;exact rfl
 |int i=>cases r.rep;cases e;exact rfl
 |tup xs=>
  cases e;obtain⟨a,vs,rfl,h1,r1⟩:=r.tup;exact .inr (.inl ⟨vs,by rw[hK];exact h1,by rw[ux r1]⟩)
 |lst xs=>
  cases e;obtain⟨a,vs,rfl,h1,r1⟩:=r.lst;exact .inl ⟨vs,by rw[hK];exact h1,by rw[ux r1]⟩
 |_=>cases e
theorem DH(hK:X.K=g.K):zg X (.builtin "isinstance") (λxs H Q=>∃S d v n t,xs=[v,.ty n]/\zN g H S d v/\tyD d=some t/\n∈["int","bool","str","list","tuple"]/\Q (.bl (hX t n)) H):=by
 intro pins s σ H xs us Q I r h;obtain⟨S,d,v,n,t,rfl,rd,ht,hn,q⟩:=h;obtain⟨u,cu,rfl,rx,rc⟩:=r.two;cases rc;have fin:∀tk,EP X pins σ Q (.bool (hX t n)) {s with toks:=tk}:=λtk=>⟨.bl _,H,I.tok tk,rfl,q⟩
 have kb:t∈["NoneType","bool","int","str","list","tuple","dict"]->cR X.K (.type t) (.type n)=some (hX t n):=λh=>w8 h hn
 cases d with
 |non=>cases ht;cases rd.rep;exact jc I rx .non (kb (by simp)) fin
 |bl c=>cases ht;cases rd.rep;exact jc I rx (.bl c) (kb (by simp)) fin
 |int i=>cases ht;cases rd.rep;exact jc I rx (.int i) (kb (by simp)) fin
 |str i=>cases ht;cases rd.rep;exact jc I rx (.str i) (kb (by simp)) fin
 |tup xs=>
  cases ht;obtain⟨a,vs,rfl,h1,_⟩:=rd.tup;cases rx;obtain⟨its,_,⟨o,e1,e2,_⟩,_⟩:=I.tuple (by rw[hK];exact h1);exact bY PySem.W.kitx_tuple I.kIn ⟨o,e1,e2⟩ (kb (by simp)) (λz=>nomatch z) fin
 |lst xs=>
  cases ht;obtain⟨a,vs,rfl,h1,_⟩:=rd.lst;cases rx;obtain⟨its,_,pl,_⟩:=I.list (by rw[hK];exact h1);obtain⟨o,e1,e2,_⟩:=pl.isList;exact bY PySem.W.kitx_list I.kIn ⟨o,e1,e2⟩ (kb (by simp)) (λz=>nomatch z) fin
 |dic=>
  cases ht;cases rd.rep with
  |dic h1=>exact jc I rx (.dK h1) (kb (by simp)) fin
 |_=>cases ht
end
theorem yT{o:O2}{a b:Int}{c:Str}:opI o a b≠.ex c:=by
 cases o<;>simp only[opI]<;>(try split)<;>intro h<;>cases h
theorem xV{o:O2}{a b:D}{c:Str}:op2 o a b≠.ex c:=by
 unfold op2;split
 ·exact yT
 all_goals ((try split)<;>intro h<;>cases h)
theorem FO{n:Bool}{a b:D}{c:Str}:isB n a b≠.ex c:=by
 unfold isB;split<;>intro h<;>cases h
theorem oy{a b:D}{c:Str}:eE a b≠.ex c:=by
 unfold eE;split<;>(try split)<;>intro h<;>cases h
theorem Gg{a b:D}{c:Str}:((eE a b).bind λr=>R.ok !r)≠.ex c:=by
 intro h;cases e:eE a b with
 |ok r=>rw[e]at h;cases h
 |ex z=>exact oy e
 |no=>rw[e]at h;cases h
theorem Cv{o:C2}{a b:D}{c:Str}:qg o a b≠.ex c:=by
 unfold qg;split<;>(try split)<;>(try split)<;>intro h<;>first|(cases h;done)|exact FO h|exact oy h|exact Gg h
theorem DS{a:D}{c:Str}:truth a≠.ex c:=by
 unfold truth;split<;>intro h<;>cases h
theorem Ge{a b:D}{c:Str}:ixD a b≠.ex c:=by
 unfold ixD;split<;>(try split)<;>intro h<;>cases h
theorem DA{a:D}{l h:Option Int}{c:Str}:slD a l h≠.ex c:=by
 unfold slD;split<;>(try split)<;>intro h<;>cases h
theorem g_{x:D}{k:List D->R D}{c:Str}(h:∀xs,k xs≠.ex c):dE x k≠.ex c:=by
 cases x with
 |lst xs=>exact h xs
 |_=>intro z;cases z
theorem rL{x y:D}{k:Int->Int->R D}{c:Str}(h:∀i j,k i j≠.ex c):iiR x y k≠.ex c:=by
 cases x with
 |int i=>
  cases y with
  |int j=>exact h i j
  |_=>intro z;cases z
 |_=>intro z;cases z
theorem fg{α β:Type}{o:Option α}{k:α->R β}{c:Str}(h:∀a,k a≠.ex c):bX o k≠.ex c:=by
 cases o with
 |some a=>exact h a
 |none=>intro z;cases z
theorem eC{α:Type}{a:α}{c:Str}:R.ok a≠.ex c:=by intro z;cases z
theorem dX{α:Type}{c:Str}:(R.no:R α)≠.ex c:=by intro z;cases z
theorem tZ{xs:List D}{c:Str}:eB xs≠.ex c:=fg λ_=>by
 split
 ·exact eC
 ·exact dX
theorem u4{mx:Bool}{ns:List Int}{c:Str}:jv mx ns≠.ex c:=by
 cases ns
 ·exact dX
 ·exact eC
theorem EF{b:B1}{d:D}{c:Str}:b11 b d≠.ex c:=by
 cases b with
 |len=>exact fg λ_=>eC
 |tuple=>exact fg λ_=>eC
 |list=>exact fg λ_=>eC
 |all=>exact g_ λ_=>fg λ_=>eC
 |any=>exact g_ λ_=>fg λ_=>eC
 |sorted=>
  by_cases h:∃xs,d=.tup xs
  ·obtain⟨xs,rfl⟩:=h;show (if xs.length<64 then bX (ints? xs) λns=>R.ok (D.lst ((sortI ns).map D.int))else R.no)≠R.ex c;split
   ·exact fg λ_=>eC
   ·exact dX
  by_cases h':∃kvs,d=.dic kvs
  ·obtain⟨kvs,rfl⟩:=h';show (if kvs.length<64 then R.ok (D.lst ((sortI (kvs.map (·.1))).map D.int))else R.no)≠R.ex c;split
   ·exact eC
   ·exact dX
  have e:b11 .sorted d=dE d λxs=>if xs.length<64 then (match ints? xs with
    |some ns=>.ok (.lst ((sortI ns).map D.int))
    |none=>match pairs? xs with
     |some ps=>.ok (.lst ((zj ps).map pairD))
     |none=>eB xs)else eB xs:=by cases d<;>first|exact absurd ⟨_,rfl⟩ h|exact absurd ⟨_,rfl⟩ h'|rfl
  rw[e];refine g_ λ_=>?_
  split
  ·split
   ·exact eC
   ·split
    ·exact eC
    ·exact tZ
  ·exact tZ
 |abs=>exact dX
 |int=>exact dX
 |bool=>exact dX
 |sum=>exact dX
 |min=>exact g_ λ_=>fg λ_=>u4
 |max=>exact g_ λ_=>fg λ_=>u4
theorem Hr{b:B1}{ds:List D}{c:Str}:b1 b ds≠.ex c:=by
 match ds with
 | []=>exact dX
 | [_]=>exact EF
 | [x,y]=>
  cases b with
  |min=>exact rL λ_ _=>eC
  |max=>exact rL λ_ _=>eC
  |_=>exact dX
 |_::_::_::_=>exact dX
structure bI(g:Gc)(c:Cc)(e:E)(S:Sh)(H:Hp)(d:D)(v:V)(H':Hp):Prop where
 same:qe H H'
 rb:zN g H' S d v
 st:esc e=true->Rep g (hid H' S) d v
 fr:fresh c e=true->Fr g H S H' d v
structure SE(g:Gc)(c:Cc)(τ:Env)(σ:L2.St)(H:Hp)(S:Sh):Prop where
 len:τ.length=σ.length
 val:∀(i:Nat) (d:D),τ[i]? = some (some d)->∃v,σ[i]? = some (some v)/\zN g H S d v/\∀x,c.N[i]? = some x->c.own.contains x=false->Rep g (hid H S) d v
 sub:Sub S H
theorem SE.up{g:Gc}{c:Cc}{τ:Env}{σ:L2.St}{H H':Hp}{S:Sh}(s:SE g c τ σ H S)(e:qe H H'):SE g c τ σ H' S:=
 ⟨s.len,λi d h=>let ⟨v,h1,h2,h3⟩:=s.val i d h;⟨v,h1,h2.mono e,λx a b=>(h3 x a b).mono (qh e)⟩,s.sub.same e⟩
noncomputable def tR{α:Type}(g:Gc)(E:XK)(H:Hp)(r:R α)(k:α->Prop):Prop:=match r with
 | .ok a=>k a
 | .ex c=>∀H' C,qe H H'->g.clA c=some C->E (.ref C) none H'
 | .no=>False
theorem tR.up{α:Type}{g:Gc}{E:XK}{H H':Hp}{r:R α}{k:α->Prop}(h:tR g E H r k)(e:qe H H'):tR g E H' r k:=by
 cases r with
 |ok a=>exact h
 |ex c=>exact λH2 C e2 hc=>h H2 C (e.trans e2) hc
 |no=>exact h
theorem tR.imp{α:Type}{g:Gc}{E:XK}{H:Hp}{r:R α}{k k':α->Prop}(h:tR g E H r k)(i:∀a,k a->k' a):tR g E H r k':=by
 cases r with
 |ok a=>exact i a h
 |ex c=>exact h
 |no=>exact h
section
variable(w:W)(g:Gc)(c:Cc)(E:XK)
noncomputable def tE(e:EV.E):TE:=λσ H Q=>∃τ S,SE g c τ σ H S/\tR g E H (evE w e τ) λd=>∀v H',bI g c e S H d v H'->Q v H'
noncomputable def tT(t:T):TT:=λσ H Q=>∃τ S,SE g c τ σ H S/\tR g E H (evT w t τ) λb=>∀H',qe H H'->Q b H'
noncomputable def tA(es:Es):TA:=λσ H Q=>∃τ S,SE g c τ σ H S/\tR g E H (zM w es τ) λds=>∀vs H',qe H H'->gF g H' S ds vs->(fz es=true->qw g (hid H' S) ds vs)->Q vs H'
noncomputable def tOe(o:OE):TO:=λσ H Q=>∃τ S,SE g c τ σ H S/\tR g E H (evO w o τ) λi=>∀H',qe H H'->Q i H'
noncomputable def Goes(g:Gc)(J:L2.It)(ds:List D)(H:Hp)(S:Sh):Prop:=
 (∀i,ds.length<=i->J.stop i H)/\∀i d,ds[i]? = some d->J.go i H/\∀x H',J.yld i H x H'->qe H H'/\Rep g (hid H' S) d x
noncomputable def tIt(it:It):TI:=λσ H R=>∃τ S,SE g c τ σ H S/\tR g E H (evI w it τ) λds=>∀J H',qe H H' ->
 (∀H2 S2,qe H' H2->qe (hid H' S) (hid H2 S2)->Sub S2 H2->Goes g J ds H2 S2)->(owned it=false->∀H2 S2,qe (hid H' S) (hid H2 S2)->Sub S2 H2->Goes g J ds H2 S2)->R J H'
end
theorem PE.imp{X:Cx}{e:Expr}{t t':TE}(h:PE X e t)(i:∀σ H Q,t' σ H Q->t σ H Q):PE X e t':=λpins s σ H Q I q=>h pins s σ H Q I (i _ _ _ q)
theorem PT.imp{X:Cx}{e:Expr}{t t':TT}(h:PT X e t)(i:∀σ H Q,t' σ H Q->t σ H Q):PT X e t':=λpins s σ H Q I q=>h pins s σ H Q I (i _ _ _ q)
theorem PW.imp{X:Cx}{e:Expr}{t t':TT}(h:PW X e t)(i:∀σ H Q,t' σ H Q->t σ H Q):PW X e t':=λwh pins s σ H Q I q=>h wh pins s σ H Q I (i _ _ _ q)
theorem PA.imp{X:Cx}{e:List Expr}{t t':TA}(h:PA X e t)(i:∀σ H Q,t' σ H Q->t σ H Q):PA X e t':=λpos pins s σ H Q I q=>h pos pins s σ H Q I (i _ _ _ q)
theorem PO.imp{X:Cx}{e:Option Expr}{t t':TO}(h:PO X e t)(i:∀σ H Q,t' σ H Q->t σ H Q):PO X e t':=λpins s σ H Q I q=>h pins s σ H Q I (i _ _ _ q)
theorem PI.imp{X:Cx}{tg e:Expr}{t t':TI}(h:PI X tg e t)(i:∀σ H Q,t' σ H Q->t σ H Q):PI X tg e t':=λpins s σ H Q I q=>h pins s σ H Q I (i _ _ _ q)
theorem PS.imp{X:Cx}{e:Stmt}{t t':TS}(h:PS X e t)(i:∀D σ H,t' D σ H->t D σ H):PS X e t':=λpins s σ H Q I q=>h pins s σ H Q I (i _ _ _ q)
theorem PSs.imp{X:Cx}{e:List Stmt}{t t':TS}(h:PSs X e t)(i:∀D σ H,t' D σ H->t D σ H):PSs X e t':=λpins s σ H Q I q=>h pins s σ H Q I (i _ _ _ q)
section
variable{w:W}{g:Gc}{c:Cc}{E:XK}{τ:Env}{σ:L2.St}{H H0:Hp}{S:Sh}
theorem zp{α:Type}{e:EV.E}{f:D->R α}{P:α->Prop}{Q:VK}(se:SE g c τ σ H S)(h:tR g E H ((evE w e τ).bind f) P)(k:∀d v H',evE w e τ=.ok d->bI g c e S H d v H'->tR g E H' (f d) P->Q v H'):tE w g c E e σ H Q:=by
 refine⟨τ,S,se,?_⟩;cases q:evE w e τ with
 |ok d=>rw[q]at h;exact λv H' p=>k d v H' q p (tR.up h p.same)
 |ex x=>rw[q]at h;exact h
 |no=>rw[q]at h;exact h
theorem jQ{α:Type}{t:T}{f:Bool->R α}{P:α->Prop}{Q:Bool->Hp->Prop}(se:SE g c τ σ H S)(h:tR g E H ((evT w t τ).bind f) P)(k:∀b H',evT w t τ=.ok b->qe H H'->tR g E H' (f b) P->Q b H'):tT w g c E t σ H Q:=by
 refine⟨τ,S,se,?_⟩;cases q:evT w t τ with
 |ok d=>rw[q]at h;exact λH' p=>k d H' q p (tR.up h p)
 |ex x=>rw[q]at h;exact h
 |no=>rw[q]at h;exact h
theorem iA{α:Type}{es:Es}{f:List D->R α}{P:α->Prop}{Q:List V->Hp->Prop}(se:SE g c τ σ H S)(h:tR g E H ((zM w es τ).bind f) P)
  (k:∀ds vs H',zM w es τ=.ok ds->qe H H'->gF g H' S ds vs->(fz es=true->qw g (hid H' S) ds vs)->tR g E H' (f ds) P->Q vs H'):tA w g c E es σ H Q:=by
 refine⟨τ,S,se,?_⟩;cases q:zM w es τ with
 |ok d=>rw[q]at h;exact λvs H' p r r'=>k d vs H' q p r r' (tR.up h p)
 |ex x=>rw[q]at h;exact h
 |no=>rw[q]at h;exact h
theorem su{α:Type}{o:OE}{f:Option Int->R α}{P:α->Prop}{Q:Option Int->Hp->Prop}(se:SE g c τ σ H S)(h:tR g E H ((evO w o τ).bind f) P)(k:∀b H',evO w o τ=.ok b->qe H H'->tR g E H' (f b) P->Q b H'):tOe w g c E o σ H Q:=by
 refine⟨τ,S,se,?_⟩;cases q:evO w o τ with
 |ok d=>rw[q]at h;exact λH' p=>k d H' q p (tR.up h p)
 |ex x=>rw[q]at h;exact h
 |no=>rw[q]at h;exact h
theorem bI.of{e:EV.E}{d:D}{v:V}{H':Hp}(s:qe H H')(r:Rep g (hid H' S) d v)(f:fresh c e=false):bI g c e S H d v H':=⟨s,.inl r,λ_=>r,λz=>by rw[f]at z;cases z⟩
theorem bI.new{e:EV.E}{d:D}{v:V}{H':Hp}(s:qe H H')(r:Rep g (hid H' S) d v)(f:Fr g H S H' d v):bI g c e S H d v H':=⟨s,.inl r,λ_=>r,λ_=>f⟩
theorem Fr.low{d:D}{v:V}{H1 H':Hp}(f:Fr g H1 S H' d v)(e:qe H H1):Fr g H S H' d v:=by
 obtain⟨a,o,h1,h3,h4,h5⟩:=f;exact⟨a,o,h1,e.free h3,h4,h5⟩
end
noncomputable def b1N:B1->Str
 | .len=>"len"
 | .tuple=>"tuple"
 | .list=>"list"
 | .sorted=>"sorted"
 | .all=>"all"
 | .any=>"any"
 | .sum=>"sum"
 | .min=>"min"
 | .max=>"max"
 | .abs=>"abs"
 | .int=>"int"
 | .bool=>"bool"
theorem jU:∀b,bU (b1N b)=some (b1V b)
 | .len | .tuple | .list | .sorted | .all | .any | .sum | .min | .max | .abs | .int | .bool=>by decide +kernel
noncomputable def spF(w:W)(g:Gc)(x:Str)(fr:Bool):Sp:=λvs H Q E=>∃S ds,Sub S H/\qw g (hid H S) ds vs /\
 tR g E H (w.call x ds) λd=>∀v H',qe H H'->Rep g (hid H' S) d v->(fr=true->Fr g H S H' d v)->Q v H'
structure ka(w:W)(g:Gc)(P:aA)(wl:au)(mg:Str->Option ae)(base:Heap)(A:aB)(calm:Bool)(x:Str)(f:Addr)(fr:Bool):Prop where
 at_:mg x=some (.ref f)
 kp:dI g.K (.ref f)=true
 fn:∃k fd ps,Binds g.K fd ps []/\((calm=true/\gq P wl g.K mg base (CX1 P wl) k f fd ps (spF w g x fr)/\dw k A)\/(calm=false/\nC P wl g.K mg base (CX1 P wl) k f fd ps (spF w g x fr)/\jm k A))
noncomputable def GM(w:W)(g:Gc)(P:aA)(wl:au)(mg:Str->Option ae)(base:Heap)(A:aB)(calm:Bool)(x:Str):GK->Prop
 | .fn fr=>∃f,g.fnA x=some f/\ka w g P wl mg base A calm x f fr
 | .val=>∃u v d,mg x=some u/\RelV v u/\w.glb x=some d/\∀H,Rep g H d v
 | .bi b=>mg x=none/\x=b1N b/\∃id,b1V b=.builtin id
 | .rng=>mg x=none/\x = "range"
 | .enum=>mg x=none/\x = "enumerate"
 | .zip=>mg x=none/\x = "zip"
 | .isi=>mg x=none/\x = "isinstance"
 | .ty n b=>mg x=none/\bU x=some (.type n)/\(n∈["int","bool","str","list","tuple"]\/n = "ValueError")/\∀b',b=some b'->x=b1N b'/\b1V b'=.type n
 | .exc=>∃C,mg x=some (.ref C)/\g.clA x=some C
 | .exk=>∃C,mg x=some (.ref C)/\g.clA x=some C
 | .set=>mg x=none/\bU x=some (.type "set")
 | .rvd=>mg x=none/\x = "reversed"
structure XO(w:W)(g:Gc)(c:Cc)(E:XK)(X:Cx):Prop where
 K:X.K=g.K
 nm:X.env.scope.names=c.nm
 N:X.N=c.N
 nd:c.N.Nodup
 calm:c.calm=true->X.calm=true
 units:X.A.units+64<cLine
 fn:∀x,(c.fnc=true\/c.oc.contains x=true)->X.fn x=true
 kind:X.env.scope.kind=.function
 pass:Passes (CX1 X.prog X.w) X E
 gok:∀x k,c.G.lookup x=some k->GM w g X.prog X.w X.mg X.base X.A X.calm x k
 fns:X.calm=true->∀x f,g.fnA x=some f->∃fr,ka w g X.prog X.w X.mg X.base X.A X.calm x f fr
 -- what isinstance says of a caught error
 sub:∀k cl b,w.sub k cl=some b->∃C cv,g.clA k=some C/\mQ g.K C/\cR g.K (.ref C) cv=some b/\match cl with
  | .ty n=>n = "ValueError"/\cv=.type n
  | .ex x=>∃D,g.clA x=some D/\cv=.ref D
section
variable{w:W}{g:Gc}{c:Cc}{E:XK}{X:Cx}
theorem dY{x:Str}{i:Nat}(h:loc c x=some i):c.N[i]? = some x/\(c.nm.lookup x=some .local\/c.nm.lookup x=some .cell\/c.nm.lookup x=some .free)/\(x==("__debug__" : Str))=false/\(x==("__classdict__" : Str))=false:=by
 unfold loc at h;split at h
 ·cases h
 ·rename_i hd
  have hd':(x==("__debug__" : Str))=false/\(x==("__classdict__" : Str))=false:=by simpa using hd
  have fin:∀{j},(if c.N[j]? = some x then some j else none)=some i->c.N[i]? = some x:=λ{j} z=>by
   split at z
   ·cases z;assumption
   ·cases z
  split at h
  ·rename_i q;exact⟨fin h,.inl q,hd'⟩
  ·rename_i q;exact⟨fin h,.inr (.inl q),hd'⟩
  ·rename_i q;exact⟨fin h,.inr (.inr q),hd'⟩
  ·cases h
theorem zq{x:Str}{k:GK}(h:glob c x=some k):c.nm.lookup x=some .globalImplicit/\c.G.lookup x=some k/\(x==("__debug__" : Str))=false/\x≠"__name__":=by
 unfold glob at h;split at h
 ·cases h
 ·rename_i hd
  have hd':(x==("__debug__" : Str))=false/\(x==("__name__" : Str))=false:=by simpa using hd
  split at h
  ·rename_i q;exact⟨q,h,hd'.1,by simpa using hd'.2⟩
  ·cases h
theorem XO.gl(O:XO w g c E X){x:Str}{k:GK}(h:glob c x=some k):Gl X x:=by
 show X.env.scope.names.lookup x=_;rw[O.nm];exact(zq h).1
theorem XO.gm(O:XO w g c E X){x:Str}{k:GK}(h:glob c x=some k):GM w g X.prog X.w X.mg X.base X.A X.calm x k:=O.gok x k (zq h).2.1
theorem qm{e:Expr}{es:List Expr}{env:PySem.Env}(h:isStar e=false):aY (e::es) env=(false,eval e env)::aY es env:=by
 cases e<;>first|rfl|(simp[isStar]at h)
theorem lG{es:List Expr}{env:PySem.Env}{pos:Pos}:(∀e∈es,isStar e=false)->(backTo pos (aY es env)).any (·.1)=false:=by
 induction es with
 |nil=>intro _;rfl
 |cons e es ih=>
  intro h;rw[qm (h e aK)];show (false||(backTo pos (aY es env)).any (·.1))=false;rw[ih λe he=>h e (aO _ he)]
  rfl
theorem gP:∀{n:Nat}{es:List Expr}{ir:Es},cEs n c es=some ir->∀e∈es,isStar e=false
 | 0,_,_,h=>by simp[cEs]at h
 |n+1,[],_,_=>by simp
 |n+1,e::es,ir,h=>by
  simp only[cEs]at h;cases hs:isStar e with
  |true=>simp[hs]at h
  |false=>
   simp only[hs,bD,if_false,aS,aQ]at h;obtain⟨_,_,r,hr,_⟩:=h;intro x hx;rcases aF.mp hx with rfl|hx
   ·exact hs
   ·exact gP hr x hx
theorem Aa{x:Str}{f:Addr}{fr:Bool}{e:Expr}{es:List Expr}{p pos:Pos}{t:TA}(O:XO w g c E X)(C:ka w g X.prog X.w X.mg X.base X.A X.calm x f fr)(hg:Gl X x)(hd:(x==("__debug__" : Str))=false)(ha:PA X (e::es) t)
  (hs:∀z∈e::es,isStar z=false):PE X (.Call (.Name x p) (e::es) [] pos) (mE (spF w g x fr) [] E t):=by
 obtain⟨k,fd,ps,hb,h⟩:=C.fn;have he:=qm (es:=es) (env:=X.env) (hs e aK);have hp:=lG (env:=X.env) (pos:=pos) λz hz=>hs z (aO _ hz)
 rw[<-O.K]at hb h;rcases h with ⟨_,F,r⟩|⟨_,F,r⟩
 ·exact FZ F r hg C.at_ (by rw[O.K];exact C.kp) hb .nil O.pass ha hd he hp
 ·exact A0 F r hg C.at_ (by rw[O.K];exact C.kp) hb .nil O.pass ha hd he hp
end
end EV
namespace L2
open PySem PySem.Spec PyProof.Rows
theorem Inv.nsKept{X:Cx}{pins:List (Addr×Obj)}{σ:St}{H:Hp}{s s':af}(I:Inv X pins σ H s)(hos:s'.os=s.os)(hg:s'.gens=s.gens)
  (k:∀b o,b≠X.env.locals->s.heap.get? b=some o->s'.heap.get? b=some o) (ns:∀m,s.heap.Ns X.env.locals m->s'.heap.Ns X.env.locals m):Inv X pins σ H s':=by
 obtain⟨h',g',d',t',o'⟩:=s';have eo:o'=s.os:=hos;have eg:g'=s.gens:=hg;subst eo eg;obtain⟨m0,n0,_⟩:=id I.loc;obtain⟨oL',es',ep',hoL',_⟩:=ns _ n0;refine I.step (g':=s.gens) (d':=d') (ch:=[]) (λb hb=>absurd hb (by simp)) (λb o hL _ _ e _=>k b o hL e) (λb o hL _ _ e _=>⟨o.slots,k b o hL e⟩) (λb o _ e n=>n) (λb o _ e=>?_)
  (λb xs e=>e) (λb o u e=>e) (λb ps e=>⟨#[],by rw[e];simp⟩) ns (λb u e=>?_) I.bare
 ·by_cases hL:b=X.env.locals
  ·exact⟨oL',by rw[hL];exact hoL'⟩
  ·exact⟨o,k b o hL e⟩
 ·have nl:∀c,(∃u,H c=some u)->c≠X.env.locals:=λc ⟨u,e⟩ z=>by rw[z,I.free]at e;cases e
  refine(I.hok b u e).stay (λc v hc q=>k c v (nl c ?_) q) (λc q=>q) λc xs q=>q
  rcases hc with z|z
  ·exact⟨u,by rw[z];exact e⟩
  ·exact⟨_,z⟩
section
variable{X:Cx}
noncomputable def uj(mx:Bool)(ns:List Int)(i:Nat):Prop:=∀(n:Int),ns[i]? = some n->∀(j:Nat) (m:Int),ns[j]? = some m->if mx then m<=n/\(j<i->m<n)else n<=m/\(j<i->n<m)
theorem ED(hc:X.calm=true)(mx:Bool){pins:List (Addr×Obj)}{s:af}{σ:St}{H:Hp}{Q:VK}(I:Inv X pins σ H s){l:Addr}{ps:List Addr}{ns:List Int}(hl:SqL X.K H l (ps.map V.ref))(hn:ns.length=ps.length)(h0:ps≠[])
  (hp:∀(i:Nat) p n,ps[i]? = some p->ns[i]? = some n->∃ys,(SqL X.K H p ys\/SqT X.K H p ys)/\(ys.length:Int)=n)
  (q:∀(i:Nat) p,ps[i]? = some p->uj mx ns i->Q (.ref p) H) :
  aq (ao X.prog X.w) X.A (call (.builtin (if mx then "max" else "min")) [.ref l] [(aL "key",.builtin "len")]) (EP X pins σ Q) X.xe s:=by
 obtain⟨its,rv,pl,hz⟩:=I.list hl;have hits:its.length=ps.length:=by rw[<-rv.length,aJ]
 obtain⟨m,F⟩:=I.fr;have N:=uF (g:=X.base) (h:=s.heap) (L:=X.env.locals);have keep:∀(h':Heap),PyProof.Rows.Fr X.base X.env.locals h' m->News X.base X.env.locals h' (eY X.base s.heap X.env.locals)->∀b o,b≠X.env.locals->s.heap.get? b=some o->h'.get? b=some o:=λh' F' N' b o hb e=>by
  cases qb:X.base.get? b with
  |some ob=>have:=I.bk b ob qb;rw[e]at this;cases this;exact F'.keep b _ qb
  |none=>exact(N' (b,o) (lK hb qb e)).1
 have notL:∀b o vs n,s.heap.get? b=some o->o.data=.seq vs n->b≠X.env.locals:=λb o vs n e1 e3 z=>by
  obtain⟨_,⟨oL,es,ep,hoL,hdL,_⟩,_⟩:=I.loc;rw[z,hoL]at e1;cases e1;rw[hdL]at e3;cases e3
 have lst:∀(h':Heap) b vs,PyProof.Rows.Fr X.base X.env.locals h' m->News X.base X.env.locals h' (eY X.base s.heap X.env.locals)->s.heap.IsList b vs->h'.IsList b vs:=λh' b vs F' N' hh=>by
  obtain⟨o,e1,e2,n,e3⟩:=hh;exact⟨o,keep h' F' N' b o (notL _ _ _ _ e1 e3) e1,e2,n,e3⟩
 have tup:∀(h':Heap) b vs,PyProof.Rows.Fr X.base X.env.locals h' m->News X.base X.env.locals h' (eY X.base s.heap X.env.locals)->s.heap.IsTuple b vs->h'.IsTuple b vs:=λh' b vs F' N' hh=>by
  obtain⟨o,e1,e2,n,e3⟩:=hh;exact⟨o,keep h' F' N' b o (notL _ _ _ _ e1 e3) e1,e2,n,e3⟩
 have h63:=h9;have turn:∀(i:Nat) (v:ae),its[i]? = some v->∀(h:Heap) (tk:Nat) (own:List (Addr×Obj)),PyProof.Rows.Fr X.base X.env.locals h m->News X.base X.env.locals h (eY X.base s.heap X.env.locals++own) ->
   aq (ao X.prog X.w) X.A.in1 (call (.builtin "len") [v]) (KskEnd X.base X.env.locals m (eY X.base s.heap X.env.locals++own) (ns.getD i 0) {s with heap:=h,toks:=tk}) (λ_ _=>False) {s with heap:=h,toks:=tk}:=by
  intro i v hv h tk own F' N';have hi:i<ps.length:=by rw[<-hits];exact(List.getElem?_eq_some_iff.mp hv).1
  obtain⟨v',hv',rvv⟩:=rv.get (i:=i) (x:=.ref ps[i]) (by simp[hi]);rw[hv]at hv';cases hv';cases rvv;have hni:ns[i]? = some (ns.getD i 0):=by simp[show i<ns.length by lia]
  have N'':News X.base X.env.locals h (eY X.base s.heap X.env.locals):=λp hp=>N' p (List.mem_append_left _ hp)
  obtain⟨ys,hy,hlen⟩:=hp i ps[i] _ (by simp[hi]) hni;rcases hy with hy|hy
  ·obtain⟨i2,r2,p2,z2⟩:=I.list hy;have e:=r2.length;refine Calls.call_len_list (lst h _ _ F' N'' p2.isList) (by simp only[aV]<;>lia) ?_;rw[show ((i2.toArray.size:Nat):Int)=ns.getD i 0 by rw[aV,<-e];exact hlen];exact .intro F' N' λp hp=>hp
  ·obtain⟨i2,r2,p2,z2⟩:=I.tuple hy;have e:=r2.length;refine len_tuple (tup h _ _ F' N'' p2) (by simp only[aV]<;>lia) ?_;rw[show ((i2.toArray.size:Nat):Int)=ns.getD i 0 by rw[aV,<-e];exact hlen];exact .intro F' N' λp hp=>hp
 have hne:0<its.length:=by
  rw[hits];cases ps with
  |nil=>exact absurd rfl h0
  |cons _ _=>simp
 have fin:∀i v h' tk',its[i]? = some v->(∀j,j<its.length->if mx then ns.getD i 0 >= ns.getD j 0/\(j<i->ns.getD i 0>ns.getD j 0)else ns.getD i 0<=ns.getD j 0/\(j<i->ns.getD i 0<ns.getD j 0))->PyProof.Rows.Fr X.base X.env.locals h' m->News X.base X.env.locals h' (eY X.base s.heap X.env.locals)->EP X pins σ Q v {s with heap:=h',toks:=tk'}:=by
  intro i v h' tk' hv hb F' N';have hi:i<ps.length:=by rw[<-hits];exact(List.getElem?_eq_some_iff.mp hv).1
  obtain⟨v',hv',rvv⟩:=rv.get (i:=i) (x:=.ref ps[i]) (by simp[hi]);rw[hv]at hv';cases hv';cases rvv;refine⟨.ref ps[i],H,I.nsKept (s':={s with heap:=h',toks:=tk'}) rfl rfl (keep h' F' N') (λm' hm'=>by rw[sH hm' F.ns];exact F'.ns),rfl,q i _ (by simp[hi]) λn en j m' em=>?_⟩;have hj:=(List.getElem?_eq_some_iff.mp em).1;have:=hb j (by rw[hits];lia);rw[List.getD_eq_getElem?_getD,List.getD_eq_getElem?_getD,en,em]at this;exact this
 cases mx with
 |true=>exact kmb_max (λi=>ns.getD i 0) (I.ok.hd hc) F N (λh' F' N'=>lst h' _ _ F' N' pl.isList) hne turn λi v h' tk' hv hb F' N'=>fin i v h' tk' hv hb F' N'
 |false=>exact kmb_min (λi=>ns.getD i 0) (I.ok.hd hc) F N (λh' F' N'=>lst h' _ _ F' N' pl.isList) hne turn λi v h' tk' hv hb F' N'=>fin i v h' tk' hv hb F' N'
end
end L2
namespace EV
open PySem PySem.Spec PySem.P PyProof.Rows L2
section
variable{w:W}{g:Gc}{c:Cc}{E:XK}{X:Cx}{a b d f:Expr}{ia ib id' if':EV.E}{pos p2:Pos}{ta tb:T}
theorem jW{e:Expr}{v:V}{dd:D}(h:PE X e (tC v))(r:∀H,Rep g H dd v):PE X e (tE w g c E (.con dd)):=PE.imp h λσ H Q ⟨τ,S,se,k⟩=>k v H (bI.of (qe.refl _) (r _) rfl)
theorem Cr{x:Str}{i:Nat}(O:XO w g c E X)(h:loc c x=some i):PE X (.Name x pos) (tE w g c E (if c.own.contains x then .own i else .var i)):=by
 obtain⟨h1,h2,h3,h4⟩:=dY h;refine PE.imp (fV (i:=i) (by rw[O.N];exact h1) (by unfold fk;rw[O.nm];exact h2) h3 h4) λσ H Q ⟨τ,S,se,k⟩=>?_
 have key:∀e,evE w e τ=zD τ i->fresh c e=false->(esc e=true->c.own.contains x=false)->tR g E H (evE w e τ) (λd=>∀v H',bI g c e S H d v H'->Q v H')->fL i σ H Q:=λe e1 e2 e3 k=>by
  rw[e1]at k;unfold zD at k;cases q:τ[i]? with
  |none=>rw[q]at k;exact k.elim
  |some o=>
   cases o with
   |none=>rw[q]at k;exact k.elim
   |some d=>
    rw[q]at k;obtain⟨v,z1,z2,z3⟩:=se.val i d q;exact⟨v,z1,k v H ⟨qe.refl _,z2,λz=>z3 x h1 (e3 z),λz=>by rw[e2]at z;cases z⟩⟩
 cases ho:c.own.contains x with
 |true=>rw[ho]at k;exact key (.own i) (by simp[qO,zw,zv,zu,zx,zm,zk,zA,zy,qI,qM,qL,qE,qH,qy,qK,qJ,qG,qC,qx,qT,qr,qF,qW,qD,qt,ze,qY,qN,qU,qS,qZ,qR,qB,qX,qQ,qP,qV,zc]) rfl (by intro z;cases z) k
 |false=>rw[ho]at k;exact key (.var i) (by simp[qO,zw,zv,zu,zx,zm,zk,zA,zy,qI,qM,qL,qE,qH,qy,qK,qJ,qG,qC,qx,qT,qr,qF,qW,qD,qt,ze,qY,qN,qU,qS,qZ,qR,qB,qX,qQ,qP,qV,zc]) rfl (λ_=>ho) k
theorem vN{x:Str}(O:XO w g c E X)(h:glob c x=some .val):PE X (.Name x pos) (tE w g c E (.glb x)):=by
 obtain⟨u,v,d,h1,h2,h3,h4⟩:=O.gm h;refine PE.imp (lj (O.gl h) h1 h2 (zq h).2.2.1) λσ H Q ⟨τ,S,se,k⟩=>?_
 simp only[qO,zw,zv,zu,zx,zm,zk,zA,zy,qI,qM,qL,qE,qH,qy,qK,qJ,qG,qC,qx,qT,qr,qF,qW,qD,qt,ze,qY,qN,qU,qS,qZ,qR,qB,qX,qQ,qP,qV,zc,h3]at k;exact k v H (bI.of (qe.refl _) (h4 _) rfl)
theorem Bj{x:Str}{fr:Bool}(O:XO w g c E X)(h:glob c x=some (.fn fr)):PE X (.Name x pos) (tE w g c E (.fnv x)):=λpins s σ H Q I ⟨τ,S,se,kk⟩=>by
 simp only[qO,zw,zv,zu,zx,zm,zk,zA,zy,qI,qM,qL,qE,qH,qy,qK,qJ,qG,qC,qx,qT,qr,qF,qW,qD,qt,ze,qY,qN,qU,qS,qZ,qR,qB,qX,qQ,qP,qV,zc]at kk;exact bC kk
theorem uf{τ:EV.Env}{e:EV.E}{d:D}(h:isL e=true)(he:evE w e τ=.ok d):t7 d=true:=by
 cases e<;>first|(cases h;done)|skip
 ·simp only[qO,zw,zv,zu,zx,zm,zk,zA,zy,qI,qM,qL,qE,qH,qy,qK,qJ,qG,qC,qx,qT,qr,qF,qW,qD,qt,ze,qY,qN,qU,qS,qZ,qR,qB,qX,qQ,qP,qV,zc]at he;cases q:zM w ‹_› τ with
  |ok ds=>rw[q]at he;cases he;rfl
  |ex z=>rw[q]at he;cases he
  |no=>rw[q]at he;cases he
 ·simp only[qO,zw,zv,zu,zx,zm,zk,zA,zy,qI,qM,qL,qE,qH,qy,qK,qJ,qG,qC,qx,qT,qr,qF,qW,qD,qt,ze,qY,qN,qU,qS,qZ,qR,qB,qX,qQ,qP,qV,zc]at he;cases he
 ·simp only[qO,zw,zv,zu,zx,zm,zk,zA,zy,qI,qM,qL,qE,qH,qy,qK,qJ,qG,qC,qx,qT,qr,qF,qW,qD,qt,ze,qY,qN,qU,qS,qZ,qR,qB,qX,qQ,qP,qV,zc]at he;cases q:evI w ‹_› τ with
  |ok ds=>
   rw[q]at he;simp only[R.bind_ok]at he;split at he
   ·cases he
   ·generalize zG _ _ _ _=r at he;cases r with
    |ok o=>cases he;rfl
    |ex z=>cases he
    |no=>cases he
  |ex z=>rw[q]at he;cases he
  |no=>rw[q]at he;cases he
theorem ET(O:XO w g c E X){op:Operator}{o:O2}(ho:o2 op=some o)(ha:PE X a (tE w g c E ia))(hb:PE X b (tE w g c E ib)):PE X (.BinOp a op b pos) (tE w g c E (.op o ia ib)):=
 PE.imp (w_ (yE O.K ho) ha hb) λσ H Q ⟨τ,S,se,k⟩=>by
  simp only[qO,zw,zv,zu,zx,zm,zk,zA,zy,qI,qM,qL,qE,qH,qy,qK,qJ,qG,qC,qx,qT,qr,qF,qW,qD,qt,ze,qY,qN,qU,qS,qZ,qR,qB,qX,qQ,qP,qV,zc]at k;refine zp se k λda va H1 e1 p1 k1=>zp (se.up p1.same) k1 λdb vb H2 e2 p2 k2=>⟨S,da,db,(se.up (p1.same.trans p2.same)).sub,p1.rb.mono p2.same,p2.rb,?_⟩
  cases q:op2 o da db with
  |ok r=>
   rw[q]at k2;exact λv H' s r f=>k2 v H' ⟨(p1.same.trans p2.same).trans s,.inl r,λ_=>r,λz=>by
    simp only[fresh,bW,aW,beq_iff_eq]at z;refine(f ?_).low (p1.same.trans p2.same);rcases z with z|⟨rfl,z⟩
    ·exact uf z.2 e1
    ·have:=uf z e2;cases db<;>first|(cases this;done)|skip
     cases da<;>first|rfl|(cases q;done)⟩
  |ex z=>exact xV q
  |no=>rw[q]at k2;exact k2
theorem yW(ha:PE X a (tE w g c E ia)):PE X (.UnaryOp .USub a pos) (tE w g c E (.neg ia)):=
 PE.imp (EB En ha) λσ H Q ⟨τ,S,se,k⟩=>by
  simp only[qO,zw,zv,zu,zx,zm,zk,zA,zy,qI,qM,qL,qE,qH,qy,qK,qJ,qG,qC,qx,qT,qr,qF,qW,qD,qt,ze,qY,qN,qU,qS,qZ,qR,qB,qX,qQ,qP,qV,zc]at k;refine zp se k λda va H1 e1 p1 k1=>?_
  cases da with
  |int i=>exact⟨i,p1.rb.int,k1 _ _ (bI.of p1.same (.int _) rfl)⟩
  |_=>exact k1.elim
theorem Cs(ha:PE X a (tE w g c E ia)):PE X (.UnaryOp .Invert a pos) (tE w g c E (.inv ia)):=λpins s σ H Q I ⟨τ,S,se,kk⟩=>by
 simp only[qO,zw,zv,zu,zx,zm,zk,zA,zy,qI,qM,qL,qE,qH,qy,qK,qJ,qG,qC,qx,qT,qr,qF,qW,qD,qt,ze,qY,qN,qU,qS,qZ,qR,qB,qX,qQ,qP,qV,zc]at kk;exact bC kk
theorem A_(ha:PE X a (tE w g c E ia)):PE X (.UnaryOp .Not a pos) (tE w g c E (.not ia)):=
 PE.imp (BO ha) λσ H Q ⟨τ,S,se,k⟩=>by
  simp only[qO,zw,zv,zu,zx,zm,zk,zA,zy,qI,qM,qL,qE,qH,qy,qK,qJ,qG,qC,qx,qT,qr,qF,qW,qD,qt,ze,qY,qN,qU,qS,qZ,qR,qB,qX,qQ,qP,qV,zc]at k;refine zp se k λda va H1 e1 p1 k1=>?_
  cases da with
  |bl i=>exact⟨i,p1.rb.bl,k1 _ _ (bI.of p1.same (.bl _) rfl)⟩
  |_=>exact k1.elim
theorem bI.pass{e e':EV.E}{S:Sh}{H H1 H':Hp}{dd:D}{v:V}(s:qe H H1)(p:bI g c e S H1 dd v H')(h:esc e=true)(f:fresh c e'=false):bI g c e' S H dd v H':=bI.of (s.trans p.same) (p.st h) f
theorem GV{rest:List Expr}{ir:EV.E}(ha:PE X a (tE w g c E ia))(hb:PE X (.BoolOp .And (b::rest) pos) (tE w g c E ir))(he:esc ir=true):PE X (.BoolOp .And (a::b::rest) pos) (tE w g c E (.and ia ir)):=
 PE.imp (EI ha hb) λσ H Q ⟨τ,S,se,k⟩=>by
  simp only[qO,zw,zv,zu,zx,zm,zk,zA,zy,qI,qM,qL,qE,qH,qy,qK,qJ,qG,qC,qx,qT,qr,qF,qW,qD,qt,ze,qY,qN,qU,qS,qZ,qR,qB,qX,qQ,qP,qV,zc]at k;refine zp se k λda va H1 e1 p1 k1=>?_
  cases da with
  |bl i=>
   refine⟨i,p1.rb.bl,?_⟩;cases i with
   |true=>
    refine⟨τ,S,se.up p1.same,tR.imp k1 λd hk v H' p=>hk v H' (p.pass p1.same he rfl)⟩
   |false=>exact k1 _ _ (bI.of p1.same (.bl _) rfl)
  |_=>exact k1.elim
theorem wC{rest:List Expr}{ir:EV.E}(ha:PE X a (tE w g c E ia))(hb:PE X (.BoolOp .Or (b::rest) pos) (tE w g c E ir))(he:esc ir=true):PE X (.BoolOp .Or (a::b::rest) pos) (tE w g c E (.or ia ir)):=
 PE.imp (xu ha hb) λσ H Q ⟨τ,S,se,k⟩=>by
  simp only[qO,zw,zv,zu,zx,zm,zk,zA,zy,qI,qM,qL,qE,qH,qy,qK,qJ,qG,qC,qx,qT,qr,qF,qW,qD,qt,ze,qY,qN,qU,qS,qZ,qR,qB,qX,qQ,qP,qV,zc]at k;refine zp se k λda va H1 e1 p1 k1=>?_
  cases da with
  |bl i=>
   refine⟨i,p1.rb.bl,?_⟩;cases i with
   |false=>
    refine⟨τ,S,se.up p1.same,tR.imp k1 λd hk v H' p=>hk v H' (p.pass p1.same he rfl)⟩
   |true=>exact k1 _ _ (bI.of p1.same (.bl _) rfl)
  |_=>exact k1.elim
theorem gZ{op:CmpOp}{b:Expr}(h:zI b=true):behindInMarks op b=false:=by cases b<;>first|rfl|(simp[zI]at h)
theorem eK{o:C2}{S:Sh}{H:Hp}{da db:D}{va vb:V}{r:R Bool}{P:Bool->Prop}{Q:VK}(ra:zN g H S da va)(rb:zN g H S db vb)(q:tR g E H (qg o da db) P)(k:∀z,qg o da db=.ok z->P z->Q (.bl z) H):rCm g o va vb H Q:=by
 refine⟨S,da,db,ra,rb,?_⟩;cases e:qg o da db with
 |ok z=>rw[e]at q;exact k z e q
 |ex z=>exact Cv e
 |no=>rw[e]at q;exact q
theorem tR.bnd{α β:Type}{H:Hp}{r:R α}{f:α->R β}{P:β->Prop}(h:tR g E H (r.bind f) P):tR g E H r λa=>tR g E H (f a) P:=by
 cases r with
 |ok a=>exact h
 |ex z=>exact h
 |no=>exact h
theorem FR(O:XO w g c E X){op:CmpOp}(ha:PE X a (tE w g c E ia))(hb:PE X b (tE w g c E ib))(hs:zI b=true):PE X (.Compare a [op] [b] pos) (tE w g c E (.cmp (c2 op) ia ib)):=
 PE.imp (AY (eN O.K O.units op) ha hb (gZ hs)) λσ H Q ⟨τ,S,se,k⟩=>by
  simp only[qO,zw,zv,zu,zx,zm,zk,zA,zy,qI,qM,qL,qE,qH,qy,qK,qJ,qG,qC,qx,qT,qr,qF,qW,qD,qt,ze,qY,qN,qU,qS,qZ,qR,qB,qX,qQ,qP,qV,zc]at k;refine zp se k λda va H1 e1 p1 k1=>zp (se.up p1.same) k1 λdb vb H2 e2 p2 k2=>?_
  exact eK (r:=.no) (p1.rb.mono p2.same) p2.rb (tR.bnd k2) λz _ q=>q _ _ (bI.of (p1.same.trans p2.same) (.bl _) rfl)
theorem Bp(O:XO w g c E X){op:CmpOp}(ha:PE X a (tE w g c E ia))(hb:PE X b (tE w g c E ib))(hs:zI b=true):PT X (.Compare a [op] [b] pos) (tT w g c E (.cmp (c2 op) ia ib)):=
 PT.imp (wm (eN O.K O.units op) ha hb (gZ hs)) λσ H Q ⟨τ,S,se,k⟩=>by
  simp only[fW,fI,fS,fZ,gp,gk,gx]at k;refine zp se k λda va H1 e1 p1 k1=>zp (se.up p1.same) k1 λdb vb H2 e2 p2 k2=>?_
  exact eK (r:=.no) (p1.rb.mono p2.same) p2.rb k2 λz _ q=>⟨z,rfl,q _ (p1.same.trans p2.same)⟩
theorem yk(O:XO w g c E X){op op':CmpOp}(ha:PE X a (tE w g c E ia))(hb:PE X b (tE w g c E ib))(hd:PE X d (tE w g c E id'))(hs':zI d=true):PE X (.Compare a [op,op'] [b,d] pos) (tE w g c E (.cmp2 (c2 op) (c2 op') ia ib id')):=
 PE.imp (vx (eN O.K O.units op) (eN O.K O.units op') ha hb hd (gZ hs')) λσ H Q ⟨τ,S,se,k⟩=>by
  simp only[qO,zw,zv,zu,zx,zm,zk,zA,zy,qI,qM,qL,qE,qH,qy,qK,qJ,qG,qC,qx,qT,qr,qF,qW,qD,qt,ze,qY,qN,qU,qS,qZ,qR,qB,qX,qQ,qP,qV,zc]at k;refine zp se k λda va H1 e1 p1 k1=>zp (se.up p1.same) k1 λdb vb H2 e2 p2 k2=>?_
  have s2:=p1.same.trans p2.same;refine eK (r:=.no) (p1.rb.mono p2.same) p2.rb (tR.bnd k2) λz _ q=>⟨z,rfl,?_⟩
  cases z with
  |true=>
   exact zp (se.up s2) q λdd vd H3 e3 p3 k3=>eK (r:=.no) (p2.rb.mono p3.same) p3.rb (tR.bnd k3) λz _ q=>q _ _ (bI.of (s2.trans p3.same) (.bl _) rfl)
  |false=>exact q _ _ (bI.of s2 (.bl _) rfl)
theorem AZ(O:XO w g c E X){op op':CmpOp}(ha:PE X a (tE w g c E ia))(hb:PE X b (tE w g c E ib))(hd:PE X d (tE w g c E id'))(hs':zI d=true):PT X (.Compare a [op,op'] [b,d] pos) (tT w g c E (.cmp2 (c2 op) (c2 op') ia ib id')):=
 PT.imp (Gm (eN O.K O.units op) (eN O.K O.units op') ha hb hd (gZ hs')) λσ H Q ⟨τ,S,se,k⟩=>by
  simp only[fW,fI,fS,fZ,gp,gk,gx]at k;refine zp se k λda va H1 e1 p1 k1=>zp (se.up p1.same) k1 λdb vb H2 e2 p2 k2=>?_
  have s2:=p1.same.trans p2.same;refine eK (r:=.no) (p1.rb.mono p2.same) p2.rb (tR.bnd k2) λz _ q=>⟨z,rfl,?_⟩
  cases z with
  |true=>
   exact zp (se.up s2) q λdd vd H3 e3 p3 k3=>eK (r:=.no) (p2.rb.mono p3.same) p3.rb k3 λz _ q=>⟨z,rfl,q _ (s2.trans p3.same)⟩
  |false=>exact⟨false,rfl,q _ s2⟩
theorem B4(O:XO w g c E X){op op' op'':CmpOp}(ha:PE X a (tE w g c E ia))(hb:PE X b (tE w g c E ib))(hd:PE X d (tE w g c E id'))(hf:PE X f (tE w g c E if'))(hs':zI f=true):PE X (.Compare a [op,op',op''] [b,d,f] pos) (tE w g c E (.cmp3 (c2 op) (c2 op') (c2 op'') ia ib id' if')):=
 PE.imp (xk (eN O.K O.units op) (eN O.K O.units op') (eN O.K O.units op'') ha hb hd hf (gZ hs')) λσ H Q ⟨τ,S,se,k⟩=>by
  simp only[qO,zw,zv,zu,zx,zm,zk,zA,zy,qI,qM,qL,qE,qH,qy,qK,qJ,qG,qC,qx,qT,qr,qF,qW,qD,qt,ze,qY,qN,qU,qS,qZ,qR,qB,qX,qQ,qP,qV,zc]at k;refine zp se k λda va H1 e1 p1 k1=>zp (se.up p1.same) k1 λdb vb H2 e2 p2 k2=>?_
  have s2:=p1.same.trans p2.same;refine eK (r:=.no) (p1.rb.mono p2.same) p2.rb (tR.bnd k2) λz _ q=>⟨z,rfl,?_⟩
  cases z with
  |true=>
   refine zp (se.up s2) q λdd vd H3 e3 p3 k3=>eK (r:=.no) (p2.rb.mono p3.same) p3.rb (tR.bnd k3) λz _ q=>⟨z,rfl,?_⟩
   have s3:=s2.trans p3.same;cases z with
   |true=>exact zp (se.up s3) q λdf vf H4 e4 p4 k4=>eK (r:=.no) (p3.rb.mono p4.same) p4.rb (tR.bnd k4) λz _ q=>q _ _ (bI.of (s3.trans p4.same) (.bl _) rfl)
   |false=>exact q _ _ (bI.of s3 (.bl _) rfl)
  |false=>exact q _ _ (bI.of s2 (.bl _) rfl)
theorem yQ{a b c d:Expr}{ta tb tc td:TE}{pos:Pos}{op op' op'':CmpOp}{r r' r'':R2}(ho:OpR X (bh op) r)(ho':OpR X (bh op') r')(ho'':OpR X (bh op'') r'')(ha:PE X a ta)(hb:PE X b tb)(hc:PE X c tc)(hd:PE X d td)
  (hm:lastMarks [op,op',op''] [b,c,d]=false):PT X (.Compare a [op,op',op''] [b,c,d] pos) (mL (sM r r' r'' ta tb tc td)):=by
 intro pins s σ H Q I h;refine isTrue_chain (thn (ha pins s σ H _ I h) λv s1 ⟨x,H1,I1,r1,q1⟩=>test_link (thn (hb pins s1 σ H1 _ I1 q1) λu s2 ⟨y,H2,I2,r2,q2⟩=>
  thn (ho pins s2 σ H2 x y v u _ I2 r1 r2 q2) λd s3 ⟨z,H3,I3,r3,k,e,q3⟩=>?_)) hm
 subst e;cases r3;refine bR ?_;cases k with
 |false=>
  obtain⟨k',e',q'⟩:=q3;cases e';exact ite_ff ⟨H3,I3,q'⟩
 |true=>
  refine ite_tt (test_link (thn (hc pins s3 σ H3 _ I3 q3) λw' s4 ⟨z',H4,I4,r4,q4⟩=>thn (ho' pins s4 σ H4 y z' u w' _ I4 r2 r4 q4) λd' s5 ⟨z2,H5,I5,r5,k2,e2,q5⟩=>?_));subst e2;cases r5;refine bR ?_;cases k2 with
  |false=>
   obtain⟨k',e',q'⟩:=q5;cases e';exact ite_ff ⟨H5,I5,q'⟩
  |true=>
   refine ite_tt (test_last (thn (hd pins s5 σ H5 _ I5 q5) λw'' s6 ⟨z3,H6,I6,r6,q6⟩=>thn (ho'' pins s6 σ H6 z' z3 w' w'' _ I6 r4 r6 q6) λd'' s7 ⟨z4,H7,I7,r7,k4,e4,q7⟩=>?_));subst e4;cases r7;exact bR ⟨H7,I7,q7⟩
theorem R.bind_assoc{α β γ:Type}(r:R α)(f:α->R β)(h:β->R γ):(r.bind f).bind h=r.bind λa=>(f a).bind h:=by cases r<;>rfl
theorem Ee(O:XO w g c E X){op op' op'':CmpOp}(ha:PE X a (tE w g c E ia))(hb:PE X b (tE w g c E ib))(hd:PE X d (tE w g c E id'))(hf:PE X f (tE w g c E if'))(hs':zI f=true):PT X (.Compare a [op,op',op''] [b,d,f] pos) (tT w g c E (.val (.cmp3 (c2 op) (c2 op') (c2 op'') ia ib id' if'))):=
 PT.imp (yQ (eN O.K O.units op) (eN O.K O.units op') (eN O.K O.units op'') ha hb hd hf (gZ hs')) λσ H Q ⟨τ,S,se,k⟩=>by
  simp only[fW,fI,fS,fZ,gp,gk,gx,qO,zw,zv,zu,zx,zm,zk,zA,zy,qI,qM,qL,qE,qH,qy,qK,qJ,qG,qC,qx,qT,qr,qF,qW,qD,qt,ze,qY,qN,qU,qS,qZ,qR,qB,qX,qQ,qP,qV,zc,R.bind_assoc]at k;refine zp se k λda va H1 e1 p1 k1=>zp (se.up p1.same) k1 λdb vb H2 e2 p2 k2=>?_
  have s2:=p1.same.trans p2.same;refine eK (r:=.no) (p1.rb.mono p2.same) p2.rb (tR.bnd k2) λz _ q=>⟨z,rfl,?_⟩
  cases z with
  |true=>
   simp only[if_true,R.bind_assoc]at q;refine zp (se.up s2) q λdd vd H3 e3 p3 k3=>eK (r:=.no) (p2.rb.mono p3.same) p3.rb (tR.bnd k3) λz _ q=>⟨z,rfl,?_⟩
   have s3:=s2.trans p3.same;cases z with
   |true=>
    simp only[if_true,R.bind_assoc]at q;exact zp (se.up s3) q λdf vf H4 e4 p4 k4=>eK (r:=.no) (p3.rb.mono p4.same) p4.rb (tR.bnd k4) λz _ q=>⟨z,rfl,q _ (s3.trans p4.same)⟩
   |false=>exact⟨false,rfl,q _ s3⟩
  |false=>exact⟨false,rfl,q _ s2⟩
theorem G8(ht:PT X d (tT w g c E ta))(ha:PE X a (tE w g c E ia))(hb:PE X b (tE w g c E ib))(h1:esc ia=true)(h2:esc ib=true):PE X (.IfExp d a b pos) (tE w g c E (.ite ta ia ib)):=
 PE.imp (D0 ht ha hb) λσ H Q ⟨τ,S,se,k⟩=>by
  simp only[qO,zw,zv,zu,zx,zm,zk,zA,zy,qI,qM,qL,qE,qH,qy,qK,qJ,qG,qC,qx,qT,qr,qF,qW,qD,qt,ze,qY,qN,qU,qS,qZ,qR,qB,qX,qQ,qP,qV,zc]at k;refine jQ se k λz H1 e1 s1 k1=>?_
  cases z with
  |true=>exact⟨τ,S,se.up s1,tR.imp k1 λdd hk v H' p=>hk v H' (p.pass s1 h1 rfl)⟩
  |false=>exact⟨τ,S,se.up s1,tR.imp k1 λdd hk v H' p=>hk v H' (p.pass s1 h2 rfl)⟩
theorem yA:PA X [] (tA w g c E .nil):=PA.imp d_ λσ H Q ⟨τ,S,se,k⟩=>k [] H (qe.refl _) .nil λ_=>.nil
theorem Ez{es:List Expr}{ies:Es}(ha:PE X a (tE w g c E ia))(hr:PA X es (tA w g c E ies))(hs:isStar a=false):PA X (a::es) (tA w g c E (.cons ia ies)):=
 PA.imp (zP ha hr (qm hs)) λσ H Q ⟨τ,S,se,k⟩=>by
  simp only[zM]at k;refine zp se k λda va H1 e1 p1 k1=>iA (se.up p1.same) k1 λds vs H2 e2 s2 r2 r2' k2=>k2 _ _ (p1.same.trans s2) (.cons (p1.rb.mono s2) r2) λz=>?_
  simp only[fz,aW]at z;exact .cons ((p1.st z.1).mono (qh s2)) (r2' z.2)
theorem mV:∀{es:Es}{τ:Env}{ds:List D}{l:List Expr}{n:Nat},cEs n c l=some es->zM w es τ=.ok ds->ds.length=l.length
 |_,_,_,l,0,h,_=>by simp[cEs]at h
 |es,τ,ds,[],n+1,h,e=>by
  simp only[cEs,cN]at h;subst h;simp only[zM,R.ok.injEq]at e;subst e;rfl
 |es,τ,ds,x::l,n+1,h,e=>by
  simp only[cEs]at h;cases hs:isStar x with
  |true=>simp[hs]at h
  |false=>
   simp only[hs,bD,if_false,aS,aQ]at h;obtain⟨i1,_,r,hr,h⟩:=h;cases h;simp only[zM]at e;cases q:evE w i1 τ with
   |ok z=>
    rw[q]at e;simp only[R.bind_ok]at e;cases q2:zM w r τ with
    |ok zs=>
     rw[q2]at e;cases e;simp[mV hr q2]
    |ex z=>rw[q2]at e;cases e
    |no=>rw[q2]at e;cases e
   |ex z=>rw[q]at e;cases e
   |no=>rw[q]at e;cases e
theorem oz{n:Nat}(h:n<=100000):n<=sizeLine:=bB h (by rw[bu];decide)
theorem C_{es:List Expr}{ies:Es}{k:Nat}(ha:PA X es (tA w g c E ies))(he:fz ies=true)(hl:∀τ ds,zM w ies τ=.ok ds->ds.length<=100000):PE X (.Tuple es k pos) (tE w g c E (.tup ies)):=
 PE.imp (wK ha) λσ H Q ⟨τ,S,se,k⟩=>by
  simp only[qO,zw,zv,zu,zx,zm,zk,zA,zy,qI,qM,qL,qE,qH,qy,qK,qJ,qG,qC,qx,qT,qr,qF,qW,qD,qt,ze,qY,qN,qU,qS,qZ,qR,qB,qX,qQ,qP,qV,zc]at k;refine iA se k λds vs H1 e1 s1 r1 r1' k1=>?_
  have r:=r1' he;exact⟨by rw[<-r.length];exact oz (hl _ _ e1),λp hp=>k1 _ _ (bI.of (s1.trans (zi hp)) (iB (se.sub.same s1) hp r) rfl)⟩
theorem yz{es:List Expr}{ies:Es}(ha:PA X es (tA w g c E ies))(he:fz ies=true)(hl:∀τ ds,zM w ies τ=.ok ds->ds.length<=100000):PE X (.List es pos) (tE w g c E (.lst ies)):=
 PE.imp (Ho ha) λσ H Q ⟨τ,S,se,k⟩=>by
  simp only[qO,zw,zv,zu,zx,zm,zk,zA,zy,qI,qM,qL,qE,qH,qy,qK,qJ,qG,qC,qx,qT,qr,qF,qW,qD,qt,ze,qY,qN,qU,qS,qZ,qR,qB,qX,qQ,qP,qV,zc]at k;refine iA se k λds vs H1 e1 s1 r1 r1' k1=>?_
  have r:=r1' he;exact⟨by rw[<-r.length];exact oz (hl _ _ e1),λp hp=>k1 _ _ (bI.new (s1.trans (zi hp)) (fM (se.sub.same s1) hp r) (gb s1 hp r))⟩
theorem Hs{b:Expr}(h:isSlice b=false):sU b:=λo i=>by cases b<;>first|rfl|(simp[isSlice]at h)
theorem Hq(O:XO w g c E X)(ha:PE X a (tE w g c E ia))(hb:PE X b (tE w g c E ib))(hs:isSlice b=false):PE X (.Subscript a b pos) (tE w g c E (.ix ia ib)):=
 PE.imp (Fq (Cb O.K O.units) ha hb (Hs hs)) λσ H Q ⟨τ,S,se,k⟩=>by
  simp only[qO,zw,zv,zu,zx,zm,zk,zA,zy,qI,qM,qL,qE,qH,qy,qK,qJ,qG,qC,qx,qT,qr,qF,qW,qD,qt,ze,qY,qN,qU,qS,qZ,qR,qB,qX,qQ,qP,qV,zc]at k;refine zp se k λda va H1 e1 p1 k1=>zp (se.up p1.same) k1 λdb vb H2 e2 p2 k2=>⟨S,da,db,p1.rb.mono p2.same,p2.rb,?_⟩
  cases q:ixD da db with
  |ok r=>rw[q]at k2;exact λv r=>k2 v H2 (bI.of (p1.same.trans p2.same) r rfl)
  |ex z=>exact Ge q
  |no=>rw[q]at k2;exact k2
theorem Fe(O:XO w g c E X){lo hi:Option Expr}{il ih:OE}(ha:PE X a (tE w g c E ia))(hl:PO X lo (tOe w g c E il))(hh:PO X hi (tOe w g c E ih)):PE X (.Subscript a (.Slice lo hi none p2) pos) (tE w g c E (.sl ia il ih)):=
 PE.imp (By (Du O.K) ha hl hh) λσ H Q ⟨τ,S,se,k⟩=>by
  simp only[qO,zw,zv,zu,zx,zm,zk,zA,zy,qI,qM,qL,qE,qH,qy,qK,qJ,qG,qC,qx,qT,qr,qF,qW,qD,qt,ze,qY,qN,qU,qS,qZ,qR,qB,qX,qQ,qP,qV,zc]at k;refine zp se k λda va H1 e1 p1 k1=>su (se.up p1.same) k1 λl H2 e2 s2 k2=>su (se.up (p1.same.trans s2)) k2 λh H3 e3 s3 k3=>?_
  have s:=(p1.same.trans s2).trans s3;refine⟨S,da,se.sub.same s,p1.rb.mono (s2.trans s3),?_⟩;cases q:slD da l h with
  |ok r=>rw[q]at k3;exact λv H' s' r=>k3 v H' (bI.of (s.trans s') r rfl)
  |ex z=>exact DA q
  |no=>rw[q]at k3;exact k3
theorem yR:PO X none (tOe w g c E .none):=PO.imp CO λσ H Q ⟨τ,S,se,k⟩=>k H (qe.refl _)
theorem CQ(ha:PE X a (tE w g c E ia)):PO X (some a) (tOe w g c E (.some ia)):=PO.imp (Cf ha) λσ H Q ⟨τ,S,se,k⟩=>by
 simp only[evO]at k;refine zp se k λda va H1 e1 p1 k1=>?_
 cases da with
 |int i=>exact⟨i,p1.rb.int,k1 _ p1.same⟩
 |_=>exact k1.elim
theorem Aj(O:XO w g c E X){x:Str}{fr:Bool}{e:Expr}{es:List Expr}{ies:Es}(h:glob c x=some (.fn fr))(ha:PA X (e::es) (tA w g c E ies))(he:fz ies=true)(hs:∀z∈e::es,isStar z=false):PE X (.Call (.Name x p2) (e::es) [] pos) (tE w g c E (.call x ies)):=by
 obtain⟨f,h1,h2⟩:=O.gm h;refine PE.imp (Aa O h2 (O.gl h) (zq h).2.2.1 ha hs) λσ H Q ⟨τ,S,se,k⟩=>?_
 simp only[qO,zw,zv,zu,zx,zm,zk,zA,zy,qI,qM,qL,qE,qH,qy,qK,qJ,qG,qC,qx,qT,qr,qF,qW,qD,qt,ze,qY,qN,qU,qS,qZ,qR,qB,qX,qQ,qP,qV,zc]at k;refine iA se k λds vs H1 e1 s1 r1 r1' k1=>⟨S,ds,se.sub.same s1,by rw[cQ];exact r1' he,tR.imp k1 λdd hk v H' s' r f=>hk v H' ⟨s1.trans s',.inl r,λ_=>r,λz=>?_⟩⟩
 simp only[fresh,(zq h).2.1,beq_iff_eq,cN,GK.fn.injEq]at z;exact(f z).low s1
theorem Ac(O:XO w g c E X){x:Str}{fr:Bool}{e:Expr}{es:List Expr}{ies:Es}(h:glob c x=some (.fn fr))(ha:PA X (e::es) (tA w g c E ies))(hs:∀z∈e::es,isStar z=false):PE X (.Call (.Name x p2) (e::es) [] pos) (tE w g c E (.callo x ies)):=λpins s σ H Q I ⟨τ,S,se,kk⟩=>by
 simp only[qO,zw,zv,zu,zx,zm,zk,zA,zy,qI,qM,qL,qE,qH,qy,qK,qJ,qG,qC,qx,qT,qr,qF,qW,qD,qt,ze,qY,qN,qU,qS,qZ,qR,qB,qX,qQ,qP,qV,zc]at kk;exact bC kk
theorem vY(ha:PE X a (tE w g c E ia))(hb:PE X b (tE w g c E ib)):PE X (.Dict [some a] [b] pos) (tE w g c E (.dic1 ia ib)):=by
 refine PE.imp (Cm (wU ha hb xw) rfl rfl (by simp) (by simp)) λσ H Q ⟨τ,S,se,k⟩ p hp=>?_
 simp only[qO,zw,zv,zu,zx,zm,zk,zA,zy,qI,qM,qL,qE,qH,qy,qK,qJ,qG,qC,qx,qT,qr,qF,qW,qD,qt,ze,qY,qN,qU,qS,qZ,qR,qB,qX,qQ,qP,qV,zc]at k;have s0:qe H (upd H p (.dK [])):=zi hp;show tE w g c E ia σ (upd H p (.dK [])) λx H1=>tE w g c E ib σ H1 λy H2=>_
 refine zp (se.up s0) (tR.up k s0) λda va H1 e1 p1 k1=>?_
 refine zp ((se.up s0).up p1.same) k1 λdb vb H2 e2 p2 k2=>?_
 cases da with
 |int i=>cases db with
  |int j=>
   have h1:=p1.rb.int;have h2:=p2.rb.int;subst h1 h2;refine⟨p2.same _ _ (p1.same _ _ zF),[(Sum.inl i,.int j)],rfl,by simp,k2 _ _ ?_⟩;have sm:qe H (upd H2 p (.dK (bM [(i,j)]))):=λb o hb=>by
    rw[qi (λz=>by rw[z,hp]at hb;cases hb)];exact p2.same _ _ (p1.same _ _ (s0 _ _ hb))
   exact bI.new (d:=.dic [(i,j)]) sm (.dic (b7.mpr ⟨se.sub.free hp,zF⟩)) ⟨p,_,rfl,hp,zF,.dic [(i,j)]⟩
  |_=>exact k2.elim
 |_=>exact k2.elim
theorem GG:PE X (.Dict [] [] pos) (tE w g c E .dic):=PE.imp Fl λσ H Q ⟨τ,S,se,k⟩ p hp=>by
 simp only[qO,zw,zv,zu,zx,zm,zk,zA,zy,qI,qM,qL,qE,qH,qy,qK,qJ,qG,qC,qx,qT,qr,qF,qW,qD,qt,ze,qY,qN,qU,qS,qZ,qR,qB,qX,qQ,qP,qV,zc]at k;exact k _ _ (bI.new (zi hp) (GX (kvs:=[]) se.sub hp) (Hd (kvs:=[]) (qe.refl _) hp))
theorem sZ{b:B1}{S:Sh}{H0 H:Hp}{ds:List D}{vs:List V}{Q:VK}{ies:Es}(s:qe H0 H)(hS:Sub S H)(r:gF g H S ds vs)(k:tR g E H (b1 b ds) λd=>∀v H',bI g c (.bi b ies) S H0 d v H'->Q v H'):rB1 g b vs H Q:=by
 refine⟨S,ds,hS,r,?_⟩;cases q:b1 b ds with
 |ok d=>
  rw[q]at k;exact λv H' s' r' f=>k v H' ⟨s.trans s',.inl r',λ_=>r',λz=>by
   have:b=.list\/b=.sorted:=by cases b<;>simp[fresh]at z ⊢
   exact(f this).low s⟩
 |ex z=>exact Hr q
 |no=>rw[q]at k;exact k
theorem xT(O:XO w g c E X){x:Str}{b:B1}{e:Expr}{es:List Expr}{ies:Es}(h:glob c x=some (.bi b))(hc:X.calm=true\/b=.len\/b=.abs)(ha:PA X (e::es) (tA w g c E ies))(hs:∀z∈e::es,isStar z=false):PE X (.Call (.Name x p2) (e::es) [] pos) (tE w g c E (.bi b ies)):=by
 obtain⟨h1,h2,id,h3⟩:=O.gm h;have hb:=jU b;rw[<-h2,h3]at hb;have hcall:=oQ (X:=X) (g:=g) O.K O.units b (by rcases hc with z|z|z;exact .inl z;exact .inr (.inl z);exact .inr (.inr (.inl z)));rw[h3]at hcall;refine PE.imp (lH hcall (O.gl h) h1 hb ha (zq h).2.2.2 (zq h).2.2.1 (qm (hs e aK)) (lG λz hz=>hs z (aO _ hz))) λσ H Q ⟨τ,S,se,k⟩=>?_
 simp only[qO,zw,zv,zu,zx,zm,zk,zA,zy,qI,qM,qL,qE,qH,qy,qK,qJ,qG,qC,qx,qT,qr,qF,qW,qD,qt,ze,qY,qN,qU,qS,qZ,qR,qB,qX,qQ,qP,qV,zc]at k;exact iA se k λds vs H1 e1 s1 r1 r1' k1=>sZ (ies:=ies) s1 (se.sub.same s1) r1 k1
theorem qw.lens{H:Hp}:∀{ds:List D}{vs:List V}{ns:List Int},qw g H ds vs->lens? ds=some ns->ds.length=ns.length/\∃ps:List Addr,vs=ps.map V.ref/\ns.length=ps.length/\∀(i:Nat) p n,ps[i]? = some p->ns[i]? = some n->∃ys,(SqL g.K H p ys\/SqT g.K H p ys)/\(ys.length:Int)=n
 | [],_,ns,.nil,e=>by simp[lens?]at e;subst e;exact⟨rfl,[],rfl,rfl,λi a p h=>by simp at h⟩
 |x::r,_,ns,.cons h t,e=>by
  simp only[lens?,bF,aQ]at e;obtain⟨xs,e0,ms,e1,rfl⟩:=e;obtain⟨h0,ps,h2,h3,h4⟩:=qw.lens t e1
  rename_i v0 vs0
  have key:∃p ys,v0=V.ref p/\(SqL g.K H p ys\/SqT g.K H p ys)/\(ys.length:Int)=xs.length:=by
   cases x with
   |tup zs=>
    cases e0;cases h with
    |tup q r=>exact⟨_,_,rfl,.inr q,by rw[r.length]⟩
   |lst zs=>
    cases e0;cases h with
    |lst q r=>exact⟨_,_,rfl,.inl q,by rw[r.length]⟩
   |_=>cases e0
  obtain⟨p,ys,rfl,k1,k2⟩:=key;refine⟨by simp[h0],p::ps,by rw[h2];rfl,by simp[h3],λi b n hb hn=>?_⟩;cases i with
  |zero=>simp at hb hn;subst hb hn;exact⟨ys,k1,k2⟩
  |succ i=>exact h4 i b n (by simpa using hb) (by simpa using hn)
theorem uJ(n:Int):∀(ds:List D) (ns:List Int) (i:Nat),ds.length=ns.length->ns[i]? = some n->(∀(j:Nat) m,j<i->ns[j]? = some m->m≠n)->∃d,ds[i]? = some d/\pickK n ds ns=.ok d
 | [],[],_,_,h,_=>by simp at h
 |d::ds,m::ms,0,_,h,_=>by
  simp at h;exact⟨d,rfl,by rw[pickK,if_pos h]⟩
 |d::ds,m::ms,i+1,e,h,k=>by
  obtain⟨d',h1,h2⟩:=uJ n ds ms i (by simpa using e) (by simpa using h) λj m' hj hm=>k (j+1) m' (by lia) (by simpa using hm)
  exact⟨d',by simpa using h1,by rw[pickK,if_neg (k 0 m (by lia) rfl)];exact h2⟩
theorem we{mx:Bool}{ds:List D}{ns:List Int}{i:Nat}{d:D}(hl:ds.length=ns.length)(hi:i<ns.length)(h:uj mx ns i)(hm:fK mx (.lst ds)=.ok d)(he:lens? ds=some ns):ds[i]? = some d:=by
 simp only[fK,dE,bX]at hm;rw[he]at hm
 match ns,hi,h,hl,he,hm with
 |a::r,hi,h,hl,he,hm=>
  have hm:pickK (zW mx a r) ds (a::r)=.ok d:=hm;have e:(a::r)[i]? = some (a::r)[i]:=by simp[hi]
  have hb:(a::r)[i]=zW mx a r:=k_ mx a r _ ⟨cz _,λm hmm=>by
   obtain⟨j,hj,rfl⟩:=List.getElem_of_mem hmm;have:=h _ e j (a::r)[j] (List.getElem?_eq_getElem hj);cases mx<;>exact this.1⟩
  rw[hb]at e;obtain⟨d',h1,h2⟩:=uJ _ ds (a::r) i hl e λj m hj hmj z=>by
   have:=h _ e j m hmj;cases mx
   ·exact absurd (this.2 hj) (by rw[z];exact Int.lt_irrefl _)
   ·exact absurd (this.2 hj) (by rw[z];exact Int.lt_irrefl _)
  rw[h2]at hm;cases hm;exact h1
theorem v8{mx:Bool}{x:D}{z:Str}:fK mx x≠.ex z:=by
 have pk:∀n ds ns,pickK n ds ns≠.ex z:=by
  intro n ds
  induction ds with
  |nil=>intro ns;exact dX
  |cons d ds ih=>
   intro ns;cases ns with
   |nil=>exact dX
   |cons m ms=>
    rw[pickK];split
    ·exact eC
    ·exact ih ms
 refine g_ λxs=>fg λns=>?_
 split
 ·exact dX
 ·exact pk _ _ _
theorem uV(O:XO w g c E X)(hc:X.calm=true)(mx:Bool){x y:Str}{p3 kp:Pos}(h:glob c x=some (.bi (if mx then .max else .min)))(hy:glob c y=some (.bi .len))(ha:PE X a (tE w g c E ia))(hs:isStar a=false) :
  PE X (.Call (.Name x p2) [a] [⟨some "key",.Name y p3,kp⟩] pos) (tE w g c E (.mxk mx ia)):=by
 obtain⟨h1,h2,id,h3⟩:=O.gm h;obtain⟨y1,y2,idy,y3⟩:=O.gm hy;have hb:=jU (if mx then .max else .min);rw[<-h2]at hb;have hby:=jU .len;rw[<-y2]at hby;have ev:b1V (if mx then .max else .min)=.builtin (if mx then "max" else "min"):=by cases mx<;>rfl
 rw[ev]at hb;have hst:=qm (es:=[]) (env:=X.env) hs;have hst':backTo pos (aY [a] X.env)=(false,eval a X.env)::backTo pos (aY [] X.env):=by rw[hst];rfl
 intro pins s σ H Q I hq;refine wpAny_Call_Name_kw (fC I (O.gl h) h1 hb ?_ (zq h).2.2.2 (zq h).2.2.1);refine callWith_kw ?_ hst' (by rw[hst'];rfl);obtain⟨τ,S,se,k⟩:=hq;simp only[qO,zw,zv,zu,zx,zm,zk,zA,zy,qI,qM,qL,qE,qH,qy,qK,qJ,qG,qC,qx,qT,qr,qF,qW,qD,qt,ze,qY,qN,qU,qS,qZ,qR,qB,qX,qQ,qP,qV,zc]at k;have hA:=zP ha (d_ (X:=X)) hst;refine thn (hA pos pins s σ H (λvs H2=>∃da v,vs=[v]/\zN g H2 S da v/\qe H H2/\tR g E H2 (fK mx da) λd=>∀v H',bI g c (.mxk mx ia) S H d v H'->Q v H') I (zp se k λda va H1 e1 p1 k1=>⟨da,va,rfl,p1.rb,p1.same,k1⟩)) λus s1 ⟨vs,H1,I1,r1,da,va,q0,q1,q2,q3⟩=>?_
 subst q0;obtain⟨u,rfl,ru⟩:=r1.one;refine kws_cons (fC I1 (O.gl hy) y1 hby ?_ (zq hy).2.2.2 (zq hy).2.2.1);refine kws_nil ?_;cases hm:fK mx da with
 |ex z=>exact absurd hm v8
 |no=>rw[hm]at q3;exact q3.elim
 |ok d=>
  rw[hm]at q3;obtain⟨xs,rfl,hm1⟩:=jw hm;obtain⟨ns,e,hm2⟩:=iu hm1;obtain⟨l,vs,rfl,z1,z2⟩:=q1.lst;cases ru;obtain⟨hl,ps,rfl,hn,hp⟩:=z2.lens e;have hne:ps≠[]:=λz=>by
   subst z;cases ns with
   |nil=>cases hm2
   |cons _ _=>simp at hn
  refine ED hc mx I1 (by rw[O.K];exact z1) hn hne (λi p n a1 a2=>?_) λi p a1 hb=>?_
  ·obtain⟨ys,b1,b2⟩:=hp i p n a1 a2;refine⟨ys,?_,b2⟩;rw[O.K];rcases b1 with b1|b1
   ·exact .inl (zH.seq b1)
   ·exact .inr (zE zH b1)
  ·have hi:i<ns.length:=by rw[hn];exact(List.getElem?_eq_some_iff.mp a1).1
   have hd:=we hl hi hb hm e;obtain⟨v',w1,w2⟩:=z2.get hd;rw[List.getElem?_map,a1]at w1;cases w1;exact q3 _ _ (bI.of q2 w2 rfl)
theorem DR(O:XO w g c E X){x:Str}{n:String}{b:B1}{e:Expr}{es:List Expr}{ies:Es}(h:glob c x=some (.ty n (some b)))(ha:PA X (e::es) (tA w g c E ies))(hs:∀z∈e::es,isStar z=false):PE X (.Call (.Name x p2) (e::es) [] pos) (tE w g c E (.bi b ies)):=by
 obtain⟨h1,h2,_,h3⟩:=O.gm h;obtain⟨_,h4⟩:=h3 b rfl;have hcall:=oQ (X:=X) (g:=g) O.K O.units b (by cases b<;>simp[b1V]at h4 ⊢);rw[h4]at hcall;refine PE.imp (sO hcall (O.gl h) h1 h2 ha (zq h).2.2.2 (zq h).2.2.1 (qm (hs e aK)) (lG λz hz=>hs z (aO _ hz))) λσ H Q ⟨τ,S,se,k⟩=>?_
 simp only[qO,zw,zv,zu,zx,zm,zk,zA,zy,qI,qM,qL,qE,qH,qy,qK,qJ,qG,qC,qx,qT,qr,qF,qW,qD,qt,ze,qY,qN,qU,qS,qZ,qR,qB,qX,qQ,qP,qV,zc]at k;exact iA se k λds vs H1 e1 s1 r1 r1' k1=>sZ (ies:=ies) s1 (se.sub.same s1) r1 k1
end
end EV
namespace L2
open PySem PySem.Spec PyProof.Rows
open AutoSeq1 (wpAny_loadPart')
noncomputable def mU(K:aC)(l:Addr):It:=
 ⟨λi H=>∃xs x,SqT K H l xs/\xs[i]? = some x,
  λi H v H'=>∃p x,H p=none/\v=.ref p/\H'=upd H p (.tup [.int i,x])/\∀xs,SqT K H l xs->xs[i]? = some x,
  λi H=>∃xs,SqT K H l xs/\xs.length<=i⟩
theorem BZ{prog:aA}{w:au}{A:aB}(hh:A.handled=none)(it l:Addr)(hne:l≠it)(items:Array ae) :
  Draws prog w A it [it,l] items.size (λi v=>items[i]? = some v) (λi h=>h.IsTupleIter it l i/\h.IsTuple l items) where
 live:=λ_ _ st=>let ⟨o,ho,_⟩:=st.1;⟨o,ho⟩
 frame:=λ_ _ _ st hk=>⟨st.1.at λo e=>hk it (by simp) o e,let ⟨o,e,r⟩:=st.2;⟨o,hk l (by simp) o e,r⟩⟩
 item:=λi s Q E hi st hQ=>nZ st.1 st.2 (x:=items[i]) (by simp[hi]) λh' hit' hs'=>hQ _ h' s.toks (by simp[hi]) ⟨hit',st.2.extBut hs'.extBut hne⟩ hs'
 done:=λs Q E st hE=>l7 hh st.1 st.2 (by simp) hE
abbrev ej1(h:Heap)(l:Addr):Heap:=h.push {cls:=.type "tuple_iterator",data:=.fields #[.ref l,.int 0 0]}
abbrev ej2(h:Heap)(l:Addr):Heap:=(ej1 h l).push {cls:=.type "enumerate",data:=.fields #[.none,.bool false,.ref h.objs.size,rawInt 0,.none,.none]}
theorem Cw(l:Addr)(xs:Array ae) :
  Meets (Builtin.«enumerate.__new__» ⟨[.type "enumerate",.ref l],[]⟩) (λ_ R s=>s.heap.IsTuple l xs/\R (.ok (.ret (.ref (ej1 s.heap l).objs.size))) {s with heap:=ej2 s.heap l}):=
 .of_wp λprog w A R s h=>by
  obtain⟨hp,g,d,tk,os⟩:=s;obtain⟨hl,h⟩:=h;have hsub:=sub_enumerate;have hL:Heap.IsTuple (af.heap ⟨hp,g,d,tk,os⟩) l xs:=hl;obtain⟨⟨c,dct,dt,sl⟩,hl,hc,n,hd⟩:=hl
  replace hc:c=.type "tuple":=hc
  replace hd:dt=.seq xs n:=hd
  subst hc hd
  wp_walk using wpAny_loadPart' hl
  refine wpAny_stack_any λst=>aE ?_
  split
  ·rename_i c _ _ _ _ _
   cases (c==bV "enumerate")
   ·wp_walk using wpAny_loadPart' hl,wpAny_pyIter_tuple hL
    exact⟨_,rfl,h⟩
   ·wp_walk using wpAny_loadPart' hl,wpAny_pyIter_tuple hL
    exact⟨_,rfl,h⟩
  ·wp_walk using wpAny_loadPart' hl,wpAny_pyIter_tuple hL
   exact⟨_,rfl,h⟩
theorem AA{prog:aA}{w:au}{A:aB}{E:ae->af->Prop}{s:af}{l:Addr}{xs:Array ae}{Q:ae->af->Prop}(hl:s.heap.IsTuple l xs)
  (h:∀h',IsEnum h' (s.heap.objs.size+1) s.heap.objs.size 0 .none->h'.IsTupleIter s.heap.objs.size l 0->h'.objs.size=s.heap.objs.size+2->(∀b o,s.heap.get? b=some o->h'.get? b=some o)->Q (.ref (s.heap.objs.size+1)) {s with heap:=h'}) :
  aq (ao prog w) A (call (.type "enumerate") [.ref l]) Q E s:=by
 refine callType_new F.called_enumerate (by decide) (F.typeCall_enumerate_1 _) (F.newCall_enumerate_1 _) (λobj=>F.args_object_init_2 obj _) F.entry_enumerate_new (Cw l xs) ⟨hl,?_⟩;have z1:(ej1 s.heap l).objs.size=s.heap.objs.size+1:=bK ..;have g2:(ej2 s.heap l).get? (ej1 s.heap l).objs.size=some _:=Heap.get?_push_size _ rfl;show _/\_;rw[z1]at g2;rw[z1];exact⟨⟨_,g2,rfl⟩,h _ g2 ⟨_,Heap.get?_push_of_some _ (Heap.get?_push_size _ rfl),rfl,rfl⟩ (by rw[bK,z1]) λb o x=>Heap.get?_push_of_some _ (Heap.get?_push_of_some _ x)⟩
theorem Dh{P:aA}{w:au}{K:aC}{es:List Expr}{ek:Nat}{epos:Pos}{e it l:Addr}(n1:e≠it)(n2:l≠e)(n3:l≠it) :
  Turn P w K (.Tuple es ek epos) (mU K l) [e,it] e (λi h=>(∃old,IsEnum h e it ((i:Nat):Int) old)/\h.IsTupleIter it l i) where
 mem:=by simp
 obj:=λi h st b hb=>by
  obtain⟨⟨old,hz⟩,o1,e1,_,d1⟩:=st;have hb':b=e\/b=it:=by simpa using hb
  rcases hb' with q|q
  ·subst q;exact⟨_,hz,λv q=>by cases q⟩
  ·subst q;exact⟨o1,e1,λv q=>by rw[d1]at q;cases q⟩
 keep:=λi h h' st k=>by
  obtain⟨⟨old,hz⟩,h1⟩:=st;exact⟨⟨old,k e (by simp) _ hz⟩,h1.at λo q=>k it (by simp) o q⟩
 item:=by
  intro X hP hw hK hc i pins s σ H E I hf st hg;subst hP hw hK;obtain⟨⟨old,hz⟩,h1⟩:=st;obtain⟨xs,x,q1,hx⟩:=hg;obtain⟨its,r1,p1,z1⟩:=I.tuple q1;have p1:s.heap.IsTuple l its.toArray:=p1;obtain⟨u1,hu1,ru1⟩:=r1.get hx;have hi:i<its.toArray.size:=by
   have:=(List.getElem?_eq_some_iff.mp hu1).1;simpa using this
  refine wpAny_pyNext_enum_itemD (BZ (A:=X.A.in1) (show X.A.in1.handled=none from I.ok.hd hc) it l n3 its.toArray) hz ⟨h1,p1⟩ hi n1 (by simp[n1,Ne.symm n2]) λx' h' tk hx' a1 a2 a3 a4 hk=>?_
  have ex:x'=u1:=by
   have e1:its.toArray[i]? = some u1:=by simpa using hu1
   rw[e1]at hx';exact(bT hx').symm
  subst ex;have hkc:∀b o,b∉[e,it]->s.heap.get? b=some o->h'.get? b=some o:=λb o hb q=>hk b o (λz=>hb (by simp[z])) (λz=>hb (by simp[z])) q
  have I1:Inv X pins σ (upd H s.heap.objs.size (.tup [.int i,x])) {s with heap:=h',toks:=tk+1}:=I.turnNew (tk:=tk+1) (its:=[.int i tk,x']) hf hkc (aG _) ⟨_,a3,rfl,_,rfl⟩ (.cons ⟨_,rfl⟩ (.cons ru1 .nil)) (by show 2<=aP;decide);have hpn:H s.heap.objs.size=none:=I.hok.fresh (aG _);have hfp:∀b∈[e,it],b≠s.heap.objs.size:=λb hb q=>by
   have hb':b=e\/b=it:=by simpa using hb
   obtain⟨o1,e1,_,d1⟩:=h1;have:b<s.heap.objs.size:=by
    rcases hb' with q|q
    ·subst q;exact aM hz
    ·subst q;exact aM e1
   rw[q]at this;exact bQ _ this
  have hnone:∀b∈[e,it],(upd H s.heap.objs.size (.tup [.int i,x])) b=none:=λb hb=>by rw[qi (hfp b hb)];exact(hf b hb).1
  refine⟨_,rfl,?_⟩;refine wpAny_letOwnedTupleGo_enum (s:={s with heap:=h',toks:=tk+1}) a1 λh2' hz' hs'=>?_
  obtain⟨f0,f1,f2,f3,f4,f5⟩:=hf e (by simp);refine⟨.ref s.heap.objs.size,_,I1.turned (t':=tk+1) (it:=e) (λb o hb q=>(hs'.2 b hb).trans q) (hnone e (by simp)) f1 f3 f4 f5,rfl,⟨_,x,hpn,rfl,rfl,λzs hq=>by rw[I.tuple_inj hq q1];exact hx⟩,⟨⟨x',?_⟩,a2.1.at λo q=>(hs'.2 it (Ne.symm n1)).trans q⟩,hnone⟩
  ·have:((i+1:Nat):Int)=(i:Int)+1:=by push_cast;rfl
   rw[this];exact hz'
 done:=by
  intro X hP hw hK hc i pins s σ H E I hf st hg;subst hP hw hK;obtain⟨⟨old,hz⟩,h1⟩:=st;obtain⟨xs,q1,hx⟩:=hg;obtain⟨its,r1,p1,z1⟩:=I.tuple q1;have p1:s.heap.IsTuple l its.toArray:=p1;have hl:=r1.length;have hT:s.TypeIs (.ref e) "enumerate":=⟨_,hz,rfl⟩
  unfold pyNext;refine ah (wpAny_attempt (wpAny_callSpecial?_slot (name:=aL "__next__") hT F.slot_enumerate_next (dG F.slot_enumerate_next hT F.entry_enumerate_next ?_ (F.args_enumerate_next_1 _))));show aq _ _ (field (.ref e) 2>>=_) _ _ _;refine ah (bZ hz rfl (x:=.ref it) rfl ?_);refine ah (l7 (I.ok.hd hc) h1 p1 (by simp;lia) λh' x he' hx'=>?_);obtain⟨o,ho,hc'⟩:=hx';refine ah (wpAny_isInstance (T:="StopIteration") (b:=true) ⟨o,ho,hc'⟩ isSubtype_stop ?_);exact aE ⟨rfl,I.turnAll (tk:=s.toks) hf λb o hb q=>he' b o (λz=>hb (by simp[z])) q⟩
 self:=λ_ _ _ _ _ st h=>by
  obtain⟨⟨old,hz⟩,_⟩:=st;exact wpAny_pyIter_enum hz h
noncomputable def BA(K:aC)(ta:TA):TI:=λσ H R=>ta σ H λvs H1=>∃(l:Addr),vs=[.ref l]/\(((∃xs,SqL K H1 l xs)/\R (Ite K l) H1)\/((∃xs,SqT K H1 l xs)/\R (mU K l) H1))
theorem E8{X:Cx}{es:List Expr}{ek:Nat}{epos p pos:Pos}{a:Expr}{ta:TA}(hg:Gl X "enumerate")(hm:X.mg "enumerate" = none)(hv:bU "enumerate" = some (.type "enumerate"))(ha:PA X [a] ta)
  (hs:aY [a] X.env=[(false,eval a X.env)]:=by rfl):PI X (.Tuple es ek epos) (.Call (.Name "enumerate" p) [a] [] pos) (BA X.K ta):=by
 intro pins s σ H R I h;refine Call_ (fC I hg hm hv (fT (thn (ha pos pins s σ H _ I h) λus s1 ⟨vs,H1,I1,r1,q1⟩=>?_) (by rw[hs];rfl) (by rfl)));obtain⟨l,e,q1⟩:=q1;subst e;have fp:∀b∈[s1.heap.objs.size+1,s1.heap.objs.size],eA X pins H1 b:=λb hb=>by
  have hb':b=s1.heap.objs.size+1\/b=s1.heap.objs.size:=by simpa using hb
  have:s1.heap.objs.size<=b:=by
   rcases hb' with q|q
   ·rw[q];exact Nat.le_succ _
   ·rw[q];exact aG _
  exact I1.fpOk this (I1.hok.fresh this)
 cases r1 with
 |cons r rr=>
  cases rr;cases r;rcases q1 with ⟨⟨xs,q2⟩,q⟩|⟨⟨xs,q2⟩,q⟩
  ·obtain⟨its1,v1,p1,_⟩:=I1.list q2;have lt1:l<s1.heap.objs.size:=by obtain⟨_,e,_⟩:=p1.isList;exact aM e
   refine call_enumerate_list p1.isList λh' hE hI hsz k=>?_
   have I2:Inv X pins σ H1 {s1 with heap:=h'}:=I1.kept (t':=s1.toks) k;refine wpAny_pyIter_enum hE ?_;exact⟨_,_,_,_,H1,rfl,I2,ya (P:=X.prog) (w:=X.w) (K:=X.K) (e:=s1.heap.objs.size+1) (it:=s1.heap.objs.size) (l:=l) (Nat.succ_ne_self _) (a_ (cx lt1)) (a_ lt1),⟨⟨_,hE⟩,hI⟩,fp,q⟩
  ·obtain⟨its1,v1,p1,_⟩:=I1.tuple q2;have p1:s1.heap.IsTuple l its1.toArray:=p1;have lt1:l<s1.heap.objs.size:=by obtain⟨_,e,_⟩:=p1;exact aM e
   refine AA p1 λh' hE hI hsz k=>?_
   have I2:Inv X pins σ H1 {s1 with heap:=h'}:=I1.kept (t':=s1.toks) k;refine wpAny_pyIter_enum hE ?_;exact⟨_,_,_,_,H1,rfl,I2,Dh (P:=X.prog) (w:=X.w) (K:=X.K) (e:=s1.heap.objs.size+1) (it:=s1.heap.objs.size) (l:=l) (Nat.succ_ne_self _) (a_ (cx lt1)) (a_ lt1),⟨⟨_,hE⟩,hI⟩,fp,q⟩
end L2
namespace EV
open PySem PySem.Spec PySem.P PyProof.Rows L2
section
variable{w:W}{g:Gc}{c:Cc}{E:XK}{X:Cx}{a b d f:Expr}{ia ib id' if':EV.E}{pos p2:Pos}{ta tb:T}
noncomputable def clV(g:Gc)(vc:V):Cl->Prop
 | .ty n=>vc=.ty n/\(n∈["int","bool","str","list","tuple"]\/n = "ValueError")
 | .ex x=>∃D,g.clA x=some D/\vc=.ref D
theorem CD{x:D}{cl:Cl}:(∃t n,tyD x=some t/\cl=.ty n/\n≠"ValueError"/\eu w x cl=.ok (.bl (hX t n)))\/eu w x cl=.no:=by
 unfold eu;cases e:tyD x with
 |some t=>
  cases cl with
  |ty n=>
   by_cases hn:n = "ValueError"
   ·exact .inr (by simp[hn])
   ·exact .inl ⟨t,n,rfl,rfl,hn,by simp[hn]⟩
  |ex y=>exact .inr rfl
 |none=>exact .inr (by cases cl<;>rfl)
theorem yK(O:XO w g c E X){x:Str}{k:Expr}{cl:Cl}(h:glob c x=some .isi)(ha:PE X a (tE w g c E ia))(hk:kx c k=some cl)(hs:isStar a=false):PE X (.Call (.Name x p2) [a,k] [] pos) (tE w g c E (.isi ia cl)):=by
 obtain⟨h1,rfl⟩:=O.gm h;obtain⟨y,q,rfl⟩:∃y q,k=.Name y q:=by
  cases k<;>first|exact⟨_,_,rfl⟩|(simp[kx]at hk)
 obtain⟨vc,hv,hc⟩:∃vc,PE X (.Name y q) (tC vc)/\clV g vc cl:=by
  simp only[kx]at hk;split at hk
  ·rename_i n b e
   cases hk;obtain⟨z1,z2,z3,_⟩:=O.gm e;exact⟨.ty n,GI (O.gl e) z1 z2 rfl (zq e).2.2.2 (zq e).2.2.1,rfl,z3⟩
  ·rename_i e
   cases hk;obtain⟨C,z1,z2⟩:=O.gm e;exact⟨.ref C,lj (O.gl e) z1 rfl (zq e).2.2.1,C,z2,rfl⟩
  ·rename_i e
   cases hk;obtain⟨C,z1,z2⟩:=O.gm e;exact⟨.ref C,lj (O.gl e) z1 rfl (zq e).2.2.1,C,z2,rfl⟩
  ·cases hk
 refine PE.imp (lH (DH O.K) (O.gl h) h1 (by decide +kernel) (zP ha (zP hv d_) (qm hs)) (by decide) (by decide) (qm hs) rfl) λσ H Q ⟨τ,S,se,k⟩=>?_
 simp only[qO,zw,zv,zu,zx,zm,zk,zA,zy,qI,qM,qL,qE,qH,qy,qK,qJ,qG,qC,qx,qT,qr,qF,qW,qD,qt,ze,qY,qN,qU,qS,qZ,qR,qB,qX,qQ,qP,qV,zc]at k;refine zp se k λda va H1 e1 p1 k1=>?_
 rcases CD (w:=w) (x:=da) (cl:=cl)with ⟨t,n,z1,rfl,z2,z3⟩|z3
 ·rw[z3]at k1;obtain⟨rfl,hc|hc⟩:=hc
  ·exact⟨S,da,va,n,t,rfl,p1.rb,z1,hc,k1 _ _ (bI.of p1.same (.bl _) rfl)⟩
  ·exact absurd hc z2
 ·rw[z3]at k1;exact k1.elim
theorem Ey(O:XO w g c E X)(ha:PE X a (tE w g c E ia))(he:∀whole,isTrue a X.env whole=(do let v <-whole;standAt a.pos;holding [v] (truthy v))):PT X a (tT w g c E (.val ia)):=
 PT.imp (CY ha he) λσ H Q ⟨τ,S,se,k⟩=>by
  simp only[fW,fI,fS,fZ,gp,gk,gx]at k;refine zp se k λda va H1 e1 p1 k1=>?_
  cases q:truth da with
  |ok z=>rw[q]at k1;exact⟨z,xt O.K p1.rb q,k1 _ p1.same⟩
  |ex z=>exact absurd q DS
  |no=>rw[q]at k1;exact k1.elim
theorem BB(ha:PT X a (tT w g c E ta)):PT X (.UnaryOp .Not a pos) (tT w g c E (.not ta)):=
 PT.imp (Ht ha) λσ H Q ⟨τ,S,se,k⟩=>by
  simp only[fW,fI,fS,fZ,gp,gk,gx]at k;exact jQ se k λz H1 e1 s1 k1=>k1 _ s1
theorem y_{rest:List Expr}(ha:PT X a (tT w g c E ta))(hb:PW X (.BoolOp .And (b::rest) pos) (tT w g c E tb)):PW X (.BoolOp .And (a::b::rest) pos) (tT w g c E (.and ta tb)):=
 PW.imp (AI ha hb) λσ H Q ⟨τ,S,se,k⟩=>by
  simp only[fW,fI,fS,fZ,gp,gk,gx]at k;refine jQ se k λz H1 e1 s1 k1=>?_
  cases z with
  |true=>exact⟨τ,S,se.up s1,tR.imp k1 λb hk H' s=>hk H' (s1.trans s)⟩
  |false=>exact k1 _ s1
theorem Ck{rest:List Expr}(ha:PT X a (tT w g c E ta))(hb:PW X (.BoolOp .Or (b::rest) pos) (tT w g c E tb)):PW X (.BoolOp .Or (a::b::rest) pos) (tT w g c E (.or ta tb)):=
 PW.imp (xf ha hb) λσ H Q ⟨τ,S,se,k⟩=>by
  simp only[fW,fI,fS,fZ,gp,gk,gx]at k;refine jQ se k λz H1 e1 s1 k1=>?_
  cases z with
  |false=>exact⟨τ,S,se.up s1,tR.imp k1 λb hk H' s=>hk H' (s1.trans s)⟩
  |true=>exact k1 _ s1
theorem PI.or{tg e:Expr}{t t':TI}(h:PI X tg e t)(h':PI X tg e t'):PI X tg e (λσ H R=>t σ H R\/t' σ H R):=λpins s σ H R I q=>by
 rcases q with q|q
 ·exact h pins s σ H R I q
 ·exact h' pins s σ H R I q
theorem sT{K:aC}{a:Addr}{vs:List V}{ds:List D}{H:Hp}{S:Sh}(hl:SqL K H a vs)(r:qw g (hid H S) ds vs):Goes g (Itl K a) ds H S:=by
 refine⟨λi hi=>⟨vs,hl,by rw[<-r.length];exact hi⟩,λi d hd=>?_⟩;obtain⟨v,h1,h2⟩:=r.get hd;refine⟨⟨vs,v,hl,h1⟩,λx H' ⟨e,hx⟩=>?_⟩;subst e;have:=hx vs hl;rw[h1]at this;cases this;exact⟨qe.refl _,h2⟩
theorem nX{K:aC}{a:Addr}{vs:List V}{ds:List D}{H:Hp}{S:Sh}(hl:SqT K H a vs)(r:qw g (hid H S) ds vs):Goes g (Itt K a) ds H S:=by
 refine⟨λi hi=>⟨vs,hl,by rw[<-r.length];exact hi⟩,λi d hd=>?_⟩;obtain⟨v,h1,h2⟩:=r.get hd;refine⟨⟨vs,v,hl,h1⟩,λx H' ⟨e,hx⟩=>?_⟩;subst e;have:=hx vs hl;rw[h1]at this;cases this;exact⟨qe.refl _,h2⟩
theorem nF:∀{xs:List D}{k i:Nat}{d:D},(dj k xs)[i]? = some d->∃x,xs[i]? = some x/\d=.tup [.int ((k+i:Nat):Int),x]
 | [],_,_,_,h=>by simp[dj]at h
 |x::r,k,0,d,h=>by simp[dj]at h;exact⟨x,rfl,by rw[<-h];rfl⟩
 |x::r,k,i+1,d,h=>by
  simp only[dj,List.getElem?_cons_succ]at h;obtain⟨y,h1,h2⟩:=nF h;exact⟨y,by simpa using h1,by rw[h2,show k+1+i=k+(i+1)by lia]⟩
theorem mW:∀(xs:List D) (k:Nat),(dj k xs).length=xs.length
 | [],_=>rfl
 |x::r,k=>by simp[dj,mW r]
theorem rS{K:aC}{a:Addr}{vs:List V}{ds:List D}{H:Hp}{S:Sh}(hl:SqL K H a vs)(r:qw g (hid H S) ds vs)(hS:Sub S H):Goes g (Ite K a) (dj 0 ds) H S:=by
 refine⟨λi hi=>⟨vs,hl,by rw[<-r.length,<-mW ds 0];exact hi⟩,λi d hd=>?_⟩;obtain⟨y,h0,rfl⟩:=nF hd;obtain⟨v,h1,h2⟩:=r.get h0;refine⟨⟨vs,v,hl,h1⟩,λx H' ⟨p,z,hp,e1,e2,hx⟩=>?_⟩;subst e1 e2;have:=hx vs hl;rw[h1]at this;cases this;refine⟨zi hp,?_⟩;rw[Nat.zero_add];exact iB hS hp (.cons (.int _) (.cons h2 .nil))
theorem oJ{K:aC}{a:Addr}{vs:List V}{ds:List D}{H:Hp}{S:Sh}(hl:SqT K H a vs)(r:qw g (hid H S) ds vs)(hS:Sub S H):Goes g (mU K a) (dj 0 ds) H S:=by
 refine⟨λi hi=>⟨vs,hl,by rw[<-r.length,<-mW ds 0];exact hi⟩,λi d hd=>?_⟩;obtain⟨y,h0,rfl⟩:=nF hd;obtain⟨v,h1,h2⟩:=r.get h0;refine⟨⟨vs,v,hl,h1⟩,λx H' ⟨p,z,hp,e1,e2,hx⟩=>?_⟩;subst e1 e2;have:=hx vs hl;rw[h1]at this;cases this;refine⟨zi hp,?_⟩;rw[Nat.zero_add];exact iB hS hp (.cons (.int _) (.cons h2 .nil))
theorem uo:∀{xs ys:List D}{i:Nat}{d:D},(dM xs ys)[i]? = some d->∃x y,xs[i]? = some x/\ys[i]? = some y/\d=.tup [x,y]
 | [],_,_,_,h=>by simp[dM]at h
 |_::_,[],_,_,h=>by simp[dM]at h
 |x::r,y::t,0,d,h=>by simp[dM]at h;exact⟨x,y,rfl,rfl,h.symm⟩
 |x::r,y::t,i+1,d,h=>by
  simp only[dM,List.getElem?_cons_succ]at h;obtain⟨x',y',h1,h2,h3⟩:=uo h;exact⟨x',y',by simpa using h1,by simpa using h2,h3⟩
theorem tH:∀(xs ys:List D),(dM xs ys).length=min xs.length ys.length
 | [],_=>by simp[dM]
 |_::_,[]=>by simp[dM]
 |x::r,y::t=>by simp[dM,tH r t]
theorem k8{K:aC}{tup:Bool}{a b:Addr}{vs us:List V}{ds es:List D}{H:Hp}{S:Sh}(hl:Sq2 K tup H a vs)(hl':Sq2 K tup H b us)(r:qw g (hid H S) ds vs)(r':qw g (hid H S) es us)(hn:ds.length=es.length)(hS:Sub S H):Goes g (Itz K tup a b) (dM ds es) H S:=by
 refine⟨λi hi=>⟨vs,us,hl,hl',by rw[tH]at hi;rw[<-r.length];lia⟩,λi d hd=>?_⟩;obtain⟨x,y,h0,h0',rfl⟩:=uo hd;obtain⟨v,h1,h2⟩:=r.get h0;obtain⟨u,h3,h4⟩:=r'.get h0';refine⟨⟨vs,us,v,u,hl,hl',h1,h3⟩,λx H' ⟨p,z,z',hp,e1,e2,hx,hx'⟩=>?_⟩;subst e1 e2;have q:=hx vs hl;rw[h1]at q;cases q;have q:=hx' us hl';rw[h3]at q;cases q;exact⟨zi hp,iB hS hp (.cons h2 (.cons h4 .nil))⟩
theorem ku{lo:Int}{n:Nat}{H:Hp}{S:Sh}:Goes g (Itr lo n) (dR lo n) H S:=by
 refine⟨λi hi=>by show n<=i;simpa[dR]using hi,λi d hd=>?_⟩;unfold dR at hd;rw[List.getElem?_map]at hd;cases q:(bE n)[i]? with
 |none=>rw[q]at hd;cases hd
 |some j=>
  rw[q]at hd;cases hd;have hi:=(List.getElem?_eq_some_iff.mp q)
  obtain⟨h1,h2⟩:=hi;simp at h1 h2;subst h2;exact⟨h1,λx H' ⟨e1,e2⟩=>by subst e1 e2;exact⟨qe.refl _,.int _⟩⟩
theorem x9(O:XO w g c E X){tg:Expr}(ha:PE X a (tE w g c E ia)):PI X tg a (tIt w g c E (.seq ia)):=
 PI.imp (PI.or (C9 ha) (D8 ha)) λσ H R ⟨τ,S,se,k⟩=>by
  have k0:=k;simp only[evI]at k;cases q:evE w ia τ with
  |ex z=>exact .inl ⟨τ,S,se,by rw[q]at k ⊢;exact k⟩
  |no=>rw[q]at k;exact k.elim
  |ok dd=>
   cases dd with
   |lst ds=>
    refine .inl (zp se k λda va H1 e1 p1 k1=>?_);rw[q]at e1;cases e1;obtain⟨ad,vs,rfl,h1,r1⟩:=p1.rb.lst;rw[<-O.K]at h1;refine⟨ad,rfl,⟨vs,h1⟩,k1 _ H1 p1.same (λH2 S2 s1 s2 _=>sT (s1.seq h1) (r1.mono s2)) λho H2 S2 s2 _=>?_⟩;have he:esc ia=true:=by
     cases ia<;>first|rfl|(simp[owned]at ho)
    cases p1.st he with
    |lst h2 r2=>exact sT (by rw[O.K];exact(s2.trans zH).seq h2) (r2.mono s2)
   |tup ds=>
    refine .inr (zp se k λda va H1 e1 p1 k1=>?_);rw[q]at e1;cases e1;cases p1.rb.strong (by intro _ z;cases z)with
    |tup h2 r2=>
     refine⟨_,rfl,⟨_,by rw[O.K];exact zE zH h2⟩,k1 _ H1 p1.same (λH2 S2 s1 s2 _=>nX (by rw[O.K];exact zE (s2.trans zH) h2) (r2.mono s2)) λho H2 S2 s2 _=>nX (by rw[O.K];exact zE (s2.trans zH) h2) (r2.mono s2)⟩
   |_=>rw[q]at k;exact k.elim
theorem nH{j:Int}(h:zo j=true):-1000000<=j/\j<=1000000:=by simpa[zo]using h
theorem CZ(O:XO w g c E X){x:Str}{tg:Expr}(h:glob c x=some .rng)(ha:PE X a (tE w g c E ia))(hs:isStar a=false):PI X tg (.Call (.Name x p2) [a] [] pos) (tIt w g c E (.rng ia)):=by
 obtain⟨h1,rfl⟩:=O.gm h;refine PI.imp (yZ (O.gl h) h1 (zP ha d_ (qm hs)) (qm hs)) λσ H R ⟨τ,S,se,k⟩=>?_
 simp only[evI]at k;refine zp se k λda va H1 e1 p1 k1=>?_
 cases da with
 |int j=>
  simp only at k1;cases q:zo j with
  |true=>
   rw[q,if_pos rfl]at k1;obtain⟨z1,z2⟩:=nH q;exact⟨j,by rw[p1.rb.int],by lia,by lia,k1 _ H1 p1.same (λ_ _ _ _ _=>ku) λ_ _ _ _ _=>ku⟩
  |false=>rw[q]at k1;exact k1.elim
 |_=>exact k1.elim
theorem wL(O:XO w g c E X){x:Str}{tg:Expr}(h:glob c x=some .rng)(ha:PE X a (tE w g c E ia))(hb:PE X b (tE w g c E ib))(hs:isStar a=false)(hs':isStar b=false):PI X tg (.Call (.Name x p2) [a,b] [] pos) (tIt w g c E (.rng2 ia ib)):=by
 obtain⟨h1,rfl⟩:=O.gm h;refine PI.imp (Bc (O.gl h) h1 (zP ha (zP hb d_ (qm hs')) (qm hs)) (by rw[qm hs,qm hs'];rfl) (qm hs')) λσ H R ⟨τ,S,se,k⟩=>?_
 simp only[evI]at k;refine zp se k λda va H1 e1 p1 k1=>zp (se.up p1.same) k1 λdb vb H2 e2 p2 k2=>?_
 cases da with
 |int i=>
  cases db with
  |int j=>
   simp only at k2;cases q:zo i&&zo j with
   |true=>
    rw[q,if_pos rfl]at k2;simp only[aW]at q;obtain⟨z1,z2⟩:=nH q.1;obtain⟨z3,z4⟩:=nH q.2;exact⟨i,j,by rw[p1.rb.int,p2.rb.int],⟨by lia,by lia,by lia,by lia⟩,k2 _ H2 (p1.same.trans p2.same) (λ_ _ _ _ _=>ku) λ_ _ _ _ _=>ku⟩
   |false=>rw[q]at k2;exact k2.elim
  |_=>exact k2.elim
 |_=>exact k2.elim
theorem CB(O:XO w g c E X){x:Str}{es:List Expr}{ek:Nat}{epos:Pos}(h:glob c x=some .enum)(ha:PE X a (tE w g c E ia))(hs:isStar a=false):PI X (.Tuple es ek epos) (.Call (.Name x p2) [a] [] pos) (tIt w g c E (.enum ia)):=by
 obtain⟨h1,rfl⟩:=O.gm h;refine PI.imp (E8 (O.gl h) h1 (by decide +kernel) (zP ha d_ (qm hs)) (qm hs)) λσ H R ⟨τ,S,se,k⟩=>?_
 simp only[evI]at k;refine zp se k λda va H1 e1 p1 k1=>?_
 cases da with
 |lst ds=>
  obtain⟨ad,vs,rfl,h1,r1⟩:=p1.rb.lst;rw[<-O.K]at h1;refine⟨ad,rfl,.inl ⟨⟨vs,h1⟩,k1 _ H1 p1.same (λH2 S2 s1 s2 s3=>rS (s1.seq h1) (r1.mono s2) s3) λho H2 S2 s2 s3=>?_⟩⟩;have he:esc ia=true:=by
   cases ia<;>first|rfl|(simp[owned]at ho)
  cases p1.st he with
  |lst h2 r2=>exact rS (by rw[O.K];exact(s2.trans zH).seq h2) (r2.mono s2) s3
 |tup ds=>
  obtain⟨ad,vs,rfl,h1,r1⟩:=p1.rb.tup;rw[<-O.K]at h1;refine⟨ad,rfl,.inr ⟨⟨vs,h1⟩,k1 _ H1 p1.same (λH2 S2 s1 s2 s3=>oJ (zE s1 h1) (r1.mono s2) s3) λho H2 S2 s2 s3=>?_⟩⟩;have he:esc ia=true:=by
   cases ia<;>first|rfl|(simp[owned]at ho)
  cases p1.st he with
  |tup h2 r2=>exact oJ (by rw[O.K];exact zE (s2.trans zH) h2) (r2.mono s2) s3
 |_=>exact k1.elim
theorem D7(O:XO w g c E X){x:Str}{es:List Expr}{ek:Nat}{epos:Pos}(h:glob c x=some .zip)(ha:PE X a (tE w g c E ia))(hb:PE X b (tE w g c E ib))(hs:isStar a=false)(hs':isStar b=false):PI X (.Tuple es ek epos) (.Call (.Name x p2) [a,b] [] pos) (tIt w g c E (.zip ia ib)):=by
 obtain⟨h1,rfl⟩:=O.gm h;refine PI.imp (vR (O.gl h) h1 (by decide +kernel) (zP ha (zP hb d_ (qm hs')) (qm hs)) (by rw[qm hs,qm hs'];rfl) (qm hs')) λσ H R ⟨τ,S,se,k⟩=>?_
 simp only[evI]at k;refine zp se k λda va H1 e1 p1 k1=>zp (se.up p1.same) k1 λdb vb H2 e2 p2 k2=>?_
 have hown:∀{i1 i2:EV.E},owned (.zip i1 i2)=false->esc i1=true/\esc i2=true:=λ{i1 i2} z=>by
  have a:∀{i:EV.E},esc i=false->∃k,i=.own k:=λ{i} h=>by cases i<;>first|exact⟨_,rfl⟩|cases h
  cases e1:esc i1 with
  |false=>obtain⟨k,rfl⟩:=a e1;cases z
  |true=>
   cases e2:esc i2 with
   |false=>obtain⟨k,rfl⟩:=a e2;cases i1<;>cases z
   |true=>exact⟨rfl,rfl⟩
 have s12:=p1.same.trans p2.same;cases da with
 |lst ds=>
  cases db with
  |lst es=>
   simp only at k2;by_cases hn:ds.length=es.length
   ·rw[if_pos hn]at k2;obtain⟨ad,vs,rfl,h1,r1⟩:=(p1.rb.mono p2.same).lst;obtain⟨bd,us,rfl,h2,r2⟩:=p2.rb.lst;rw[<-O.K]at h1 h2;refine⟨false,ad,bd,rfl,⟨vs,h1⟩,⟨us,h2⟩,k2 _ H2 s12 (λH3 S3 s1 s2 s3=>k8 (tup:=false) (s1.seq h1) (s1.seq h2) (r1.mono s2) (r2.mono s2) hn s3) λho H3 S3 s2 s3=>?_⟩;obtain⟨o1,o2⟩:=hown ho;cases (p1.st o1).mono (qh p2.same)with
    |lst h3 r3=>
     cases p2.st o2 with
     |lst h4 r4=>exact k8 (tup:=false) (by rw[O.K];exact(s2.trans zH).seq h3) (by rw[O.K];exact(s2.trans zH).seq h4) (r3.mono s2) (r4.mono s2) hn s3
   ·rw[if_neg hn]at k2;exact k2.elim
  |_=>exact k2.elim
 |tup ds=>
  cases db with
  |tup es=>
   simp only at k2;by_cases hn:ds.length=es.length
   ·rw[if_pos hn]at k2;cases (p1.rb.mono p2.same).strong (by intro _ z;cases z)with
    |tup h3 r3=>
     cases p2.rb.strong (by intro _ z;cases z)with
     |tup h4 r4=>
      refine⟨true,_,_,rfl,⟨_,by rw[O.K];exact zE zH h3⟩,⟨_,by rw[O.K];exact zE zH h4⟩,k2 _ H2 s12 (λH3 S3 s1 s2 s3=>?_) λho H3 S3 s2 s3=>?_⟩
      ·exact k8 (tup:=true) (by rw[O.K];exact zE (s2.trans zH) h3) (by rw[O.K];exact zE (s2.trans zH) h4) (r3.mono s2) (r4.mono s2) hn s3
      ·exact k8 (tup:=true) (by rw[O.K];exact zE (s2.trans zH) h3) (by rw[O.K];exact zE (s2.trans zH) h4) (r3.mono s2) (r4.mono s2) hn s3
   ·rw[if_neg hn]at k2;exact k2.elim
  |_=>exact k2.elim
 |_=>exact k2.elim
end
noncomputable def jk:List Nat->TGs
 | []=>pY
 |i::is=>nS (fX i) (jk is)
noncomputable def gT(K:aC):Tg->TG
 | .nm i=>fX i
 | .tp is=>vm K is.length (jk is)
section
variable{w:W}{g:Gc}{c:Cc}{E:XK}{X:Cx}
theorem eU{x:Str}{i:Nat}(h:dP c x=some i):loc c x=some i/\(c.nm.lookup x=some .local\/(c.nm.lookup x=some .cell/\(c.fnc=true\/c.oc.contains x=true))):=by
 unfold dP at h;split at h
 ·rename_i q;exact⟨h,.inl q⟩
 ·rename_i q
  split at h
  ·rename_i z;exact⟨h,.inr ⟨q,by simpa using z⟩⟩
  ·cases h
 ·cases h
theorem rW(O:XO w g c E X){x:Str}{i:Nat}{pos:Pos}(h:dP c x=some i):PG X (.Name x pos) (fX i):=by
 obtain⟨h1,h2⟩:=eU h;obtain⟨h3,_⟩:=dY h1;refine vq (by rw[O.N];exact O.nd) (by rw[O.N];exact h3) (by unfold L2.Loc;rw[O.nm];rcases h2 with z|z;exact .inl z;exact .inr z.1) ?_;rcases h2 with z|z
 ·exact .inr (by rw[O.nm];exact z)
 ·exact .inl (O.fn x z.2)
theorem oM:∀{es:List Expr}{xs:List Str},g6 es=some xs->∃ps:List Pos,es=(xs.zip ps).map (λp=>Expr.Name p.1 p.2)/\ps.length=xs.length
 | [],xs,h=>by simp[g6]at h;subst h;exact⟨[],rfl,rfl⟩
 |e::es,xs,h=>by
  cases e with
  |Name y p=>
   simp only[g6,bF]at h;obtain⟨ys,h1,rfl⟩:=h;obtain⟨ps,h2,h3⟩:=oM h1;exact⟨p::ps,by rw[h2];rfl,by simp[h3]⟩
  |_=>simp[g6]at h
theorem sD(O:XO w g c E X):∀{xs:List Str}{ps:List Pos}{is:List Nat},ps.length=xs.length->xs.mapM (dP c)=some is ->
  PGs X ((xs.zip ps).map λp=>Expr.Name p.1 p.2) (jk is)/\(assignEach ((xs.zip ps).map λp=>Expr.Name p.1 p.2) X.env).length=is.length/\(assignEach ((xs.zip ps).map λp=>Expr.Name p.1 p.2) X.env).findIdx? (·.1)=none
 | [],ps,is,_,h=>by
  simp at h;subst h;exact⟨AW,rfl,rfl⟩
 |x::xs,[],_,h,_=>by simp at h
 |x::xs,p::ps,is,hl,h=>by
  simp only[List.mapM_cons,aS,aQ]at h;obtain⟨i,h1,js,h2,h3⟩:=h;cases h3;obtain⟨r1,r2,r3⟩:=sD O (xs:=xs) (ps:=ps) (by simpa using hl) h2;refine⟨DL (rW O h1) r1 rfl,?_,?_⟩
  ·show (assignEach ((xs.zip ps).map λp=>Expr.Name p.1 p.2) X.env).length+1=js.length+1;rw[r2]
  ·show List.findIdx? (·.1) ((false,_)::assignEach ((xs.zip ps).map λp=>Expr.Name p.1 p.2) X.env)=none;rw[List.findIdx?_cons];simp only[bD,if_false];rw[r3];rfl
theorem kZ(O:XO w g c E X){e:Expr}{tg:Tg}(h:cTg c e=some tg):PG X e (gT X.K tg):=by
 cases e with
 |Name x p=>
  simp only[cTg]at h;split at h
  ·cases h
  ·simp only[bF]at h;obtain⟨i,h1,rfl⟩:=h;exact rW O h1
 |Tuple es k p=>
  simp only[cTg]at h;split at h
  ·rename_i hc
   simp only[aS,aQ]at h;obtain⟨xs,h1,h⟩:=h;split at h
   ·cases h
   ·simp only[aQ]at h;obtain⟨is,h2,h⟩:=h;split at h
    ·cases h;obtain⟨ps,rfl,hl⟩:=oM h1;obtain⟨r1,r2,r3⟩:=sD O hl h2;exact CM (O.calm hc) r1 r2 r3
    ·cases h
  ·cases h
 |_=>simp[cTg]at h
noncomputable def iN(c:Cc):Tg->Prop
 | .nm i=>∀x,c.N[i]? = some x->c.own.contains x=false
 | .tp is=>∀i∈is,∀x,c.N[i]? = some x->c.own.contains x=false
theorem rY{α β:Type}{f:α->Option β}:∀{xs:List α}{ys:List β},xs.mapM f=some ys->∀y∈ys,∃x∈xs,f x=some y
 | [],ys,h,y,hy=>by simp at h;subst h;simp at hy
 |x::xs,ys,h,y,hy=>by
  simp only[List.mapM_cons,aS,aQ]at h;obtain⟨z,h1,zs,h2,h3⟩:=h;cases h3;rcases aF.mp hy with rfl|hy
  ·exact⟨x,aK,h1⟩
  ·obtain⟨x',h4,h5⟩:=rY h2 y hy;exact⟨x',aO _ h4,h5⟩
theorem pj{e:Expr}{tg:Tg}(h:cTg c e=some tg):iN c tg:=by
 have one:∀{x:Str}{i:Nat},c.own.contains x=false->dP c x=some i->∀y,c.N[i]? = some y->c.own.contains y=false:=λ{x i} ho hl y hy=>by
  obtain⟨h3,_⟩:=dY (eU hl).1;rw[h3]at hy;cases hy;exact ho
 cases e with
 |Name x p=>
  simp only[cTg]at h;split at h
  ·cases h
  ·rename_i ho
   simp only[bF]at h;obtain⟨i,h1,rfl⟩:=h;exact one (by simpa using ho) h1
 |Tuple es k p=>
  simp only[cTg]at h;split at h
  ·simp only[aS,aQ]at h;obtain⟨xs,h1,h⟩:=h;split at h
   ·cases h
   ·rename_i ho
    simp only[aQ]at h;obtain⟨is,h2,h⟩:=h;split at h
    ·cases h;intro i hi;obtain⟨x,hx,hl⟩:=rY h2 i hi;refine one ?_ hl;cases q:c.own.contains x with
     |false=>rfl
     |true=>exact absurd (bS.mpr ⟨x,hx,q⟩) ho
    ·cases h
  ·cases h
 |_=>simp[cTg]at h
section
variable{τ τ':Env}{σ:L2.St}{H:Hp}{S:Sh}
theorem SE.set{i:Nat}{d:D}{v:V}(se:SE g c τ σ H S)(r:Rep g (hid H S) d v):SE g c (τ.set i (some d)) (σ.set i (some v)) H S:=by
 refine⟨by simp[se.len],λj e h=>?_,se.sub⟩;by_cases hij:i=j
 ·subst hij;by_cases hi:i<τ.length
  ·simp[hi]at h;subst h;have hi':i<σ.length:=by rw[<-se.len];exact hi
   exact⟨v,by simp[hi'],.inl r,λ_ _ _=>r⟩
  ·rw[List.set_eq_of_length_le (by lia)]at h;rw[List.getElem?_eq_none (by lia)]at h;cases h
 ·rw[List.getElem?_set_ne hij]at h ⊢;exact se.val j e h
theorem SE.setAll{is:List Nat}:∀{ds:List D}{vs:List V}{τ:Env}{σ:L2.St}{Q:L2.St->Hp->Prop},SE g c τ σ H S->qw g (hid H S) ds vs->setAll is ds τ=.ok τ'->(∀σ',SE g c τ' σ' H S->Q σ' H)->jk is vs σ H Q:=by
 induction is with
 |nil=>
  intro ds vs τ σ Q se r h k;cases r with
  |nil=>cases (show R.ok τ=R.ok τ' from h);exact⟨rfl,k σ se⟩
  |cons _ _=>cases (show R.no=R.ok τ' from h)
 |cons i is ih=>
  intro ds vs τ σ Q se r h k;cases r with
  |nil=>cases (show R.no=R.ok τ' from h)
  |cons r rs=>exact⟨_,_,rfl,ih (se.set r) rs h k⟩
theorem Gn(O:X.K=g.K){tg:Tg}{d:D}{v:V}{Q:L2.St->Hp->Prop}(se:SE g c τ σ H S)(r:Rep g (hid H S) d v)(h:store tg d τ=.ok τ')(k:∀σ',SE g c τ' σ' H S->Q σ' H):gT X.K tg v σ H Q:=by
 cases tg with
 |nm i=>
  simp only[store,R.ok.injEq]at h;subst h;exact k _ (se.set r)
 |tp is=>
  cases d with
  |tup ds=>
   simp only[store]at h;split at h
   ·rename_i hl
    cases r with
    |tup h1 r1=>exact⟨_,_,rfl,by rw[O];exact zE zH h1,by rw[<-r1.length];exact hl,se.setAll r1 h k⟩
   ·cases h
  |_=>simp[store]at h
end
end
abbrev eF(c:Cc)(sc:bf):Cc:={c with nm:=k7 sc.names c.nm,N:=cq sc.names,fnc:=false,oc:=iT sc.names}
section
variable{w:W}{g:Gc}{c:Cc}{E:XK}{X:Cx}
theorem XO.comp(O:XO w g c E X){sc:bf}(hk:sc.kind=.function)(hnd:(cq sc.names).Nodup)(cl:List (Str×Addr))(C:Addr)(s₀:af)(H₀:Hp)(fp:List Addr):XO w g (eF c sc) E0 (zX X (cq sc.names) sc cl C s₀ H₀ fp) where
 K:=O.K
 nm:=by
  show (relabel sc X.env).names=k7 sc.names c.nm;unfold relabel k7;simp only
  congr 1
  funext p;have h1:(X.env.scope.kind==ScopeKind.function)=true:=by rw[O.kind];rfl
  have h2:X.env.kindOf p.1=c.nm.lookup p.1:=by show X.env.scope.names.lookup p.1=_;rw[O.nm]
  obtain⟨n,k⟩:=p;simp only at h2;simp only[h1,h2,Bool.and_true]
 N:=rfl
 nd:=hnd
 calm:=O.calm
 units:=O.units
 fn:=λx z=>z.elim (λz=>by cases z) λz=>z
 kind:=hk
 pass:=mz rfl rfl
 gok:=O.gok
 fns:=O.fns
 sub:=O.sub
theorem Ft{α:Type}{τ:Env}{σ:L2.St}{H:Hp}{S:Sh}{it:It}{f:List D->R α}{P:α->Prop}{R':L2.It->Hp->Prop}(se:SE g c τ σ H S)(h:tR g E H ((evI w it τ).bind f) P)
  (k:∀ds J H',evI w it τ=.ok ds->qe H H'->(∀H2 S2,qe H' H2->qe (hid H' S) (hid H2 S2)->Sub S2 H2->Goes g J ds H2 S2)->(owned it=false->∀H2 S2,qe (hid H' S) (hid H2 S2)->Sub S2 H2->Goes g J ds H2 S2)->tR g E H' (f ds) P->R' J H'):tIt w g c E it σ H R':=by
 refine⟨τ,S,se,?_⟩;cases q:evI w it τ with
 |ok d=>rw[q]at h;exact λJ H' s k1 k2=>k d J H' q s k1 k2 (tR.up h s)
 |ex x=>rw[q]at h;exact h
 |no=>rw[q]at h;exact h
theorem wz{α:Type}{r:R α}{x:Str}:noEx r≠.ex x:=by cases r<;>intro h<;>cases h
theorem Ad{α:Type}{r:R α}{a:α}(h:noEx r=.ok a):r=.ok a:=by cases r<;>first|exact h|cases h
theorem sY{body:D->Env->R (Env×List D)}(hb:∀d τ x,body d τ≠.ex x):∀{ds:List D}{τ:Env}{acc:List D}{x:Str},zG body ds τ acc≠.ex x
 | [],_,_,_,h=>by cases h
 |d::r,τ,acc,x,h=>by
  simp only[zG]at h;cases q:body d τ with
  |ok p=>rw[q]at h;exact sY hb h
  |ex y=>exact hb _ _ _ q
  |no=>rw[q]at h;cases h
theorem SE.caps{sc:bf}{cap:List (Option Nat)}{τ:Env}{σ:L2.St}{H:Hp}{S:Sh}(O:XO w g c E X)(hc:ui X (cq sc.names) cap sc)(se:SE g c τ σ H S):SE g (eF c sc) (ez cap τ) (L2.caps cap σ) H S:=by
 refine⟨by simp[ez,L2.caps],λi d h=>?_,se.sub⟩;unfold ez at h;rw[List.getElem?_map]at h;cases q:cap[i]? with
 |none=>rw[q]at h;cases h
 |some o=>
  cases o with
  |none=>rw[q]at h;cases h
  |some j=>
   rw[q]at h;simp only[Option.map_some,Option.bind_some,cN]at h;cases q2:τ[j]? with
   |none=>rw[q2]at h;cases h
   |some z=>
    rw[q2]at h;cases z with
    |none=>cases h
    |some d'=>
     have:d'=d:=by simpa using h
     subst this;obtain⟨v,h1,h2,h3⟩:=se.val j d' q2;refine⟨v,?_,h2,λx hx ho=>?_⟩
     ·unfold L2.caps;rw[List.getElem?_map,q];simp[h1]
     ·obtain⟨y,e1,e2,_⟩:=hc.2 i j q;have hx':(cq sc.names)[i]? = some x:=hx;rw[e1]at hx';cases hx';exact h3 _ (by rw[<-O.N];exact e2) ho
theorem i5{H:Hp}{S:Sh}{p:Addr}{o:HO}(h:S.h p=true):hid (upd H p o) S=hid H S:=by
 funext b;unfold hid;by_cases hb:b=p
 ·subst hb;rw[if_pos h,if_pos h]
 ·rw[qi hb]
theorem SE.grow{c:Cc}{τ:Env}{σ:L2.St}{H:Hp}{S:Sh}{p:Addr}{o:HO}(se:SE g c τ σ H S)(h:S.h p=true)(ho:S.o p=false):SE g c τ σ (upd H p o) S:=by
 refine⟨se.len,λi d e=>?_,λa ha n=>?_⟩
 ·obtain⟨v,h1,h2,h3⟩:=se.val i d e;refine⟨v,h1,?_,λx hx hy=>by rw[i5 h];exact h3 x hx hy⟩;rcases h2 with h2|⟨a,o',z1,z2,z4,z5⟩
  ·exact .inl (by rw[i5 h];exact h2)
  ·refine .inr ⟨a,o',z1,z2,?_,by rw[i5 h];exact z5⟩;rw[qi (λz=>by rw[z,ho]at z1;cases z1)];exact z4
 ·by_cases hb:a=p
  ·subst hb;rw[zF]at n;cases n
  ·rw[qi hb]at n;exact se.sub a ha n
theorem SE.hide{c:Cc}{τ:Env}{σ:L2.St}{H:Hp}{S:Sh}{p:Addr}{vs:List V}(se:SE g c τ σ H S)(hp:H p=none):SE g c τ σ (upd H p (.lst vs)) (dz S p):=by
 refine⟨se.len,λi d e=>?_,λa ha n=>?_⟩
 ·obtain⟨v,h1,h2,h3⟩:=se.val i d e;refine⟨v,h1,?_,λx hx hy=>(h3 x hx hy).mono (j_ hp)⟩;rcases h2 with h2|⟨a,o',z1,z2,z4,z5⟩
  ·exact .inl (h2.mono (j_ hp))
  ·exact .inr ⟨a,o',z1,z2,zi hp _ _ z4,z5.mono (j_ hp)⟩
 ·by_cases hb:a=p
  ·subst hb;rw[zF]at n;cases n
  ·rw[qi hb]at n;refine se.sub a ?_ n;rcases ha with ha|ha
   ·refine .inl ?_;have ha:(S.h a||a==p)=true:=ha
    simpa[hb]using ha
   ·exact .inr ha
theorem rO(O:XO w g c E X){sc:bf}{cap:List (Option Nat)}{iit:It}{itg:Tg}{tt:T}{ielt:EV.E}(hS:eS X (cq sc.names) cap sc)(he:esc ielt=true){σ:L2.St}{H:Hp}{Q:VK}(hq:tE w g c E (.comp iit cap itg tt ielt) σ H Q) :
  lV cap (tIt w g c E iit) (gT X.K itg) (tT w g (eF c sc) E0 tt) (λacc=>j6 acc (tE w g (eF c sc) E0 ielt)) σ H Q:=by
 obtain⟨τ,S,se,k⟩:=hq;simp only[qO,zw,zv,zu,zx,zm,zk,zA,zy,qI,qM,qL,qE,qH,qy,qK,qJ,qG,qC,qx,qT,qr,qF,qW,qD,qt,ze,qY,qN,qU,qS,qZ,qR,qB,qX,qQ,qP,qV,zc]at k;refine Ft se k λds J H1 e1 s1 kW _ k1 acc hacc=>?_
 by_cases hz:SZ<ds.length
 ·rw[if_pos hz]at k1;exact k1.elim
 rw[if_neg hz]at k1;generalize hbody:(λx σ=>noEx ((store itg x σ).bind λσ'=>(evT w tt σ').bind λr=>if r=true then (evE w ielt σ').bind λd=>R.ok (σ',[d])else R.ok (σ',[])))=body at k1;have bex:∀d τ x,body d τ≠.ex x:=λd τ x=>by rw[<-hbody];exact wz
 cases hl:zG body ds (ez cap τ) []with
 |ex z=>exact absurd hl (sY bex)
 |no=>rw[hl]at k1;exact k1.elim
 |ok out=>
  rw[hl]at k1;simp only[R.bind_ok]at k1;have k1:∀v H',bI g c (.comp iit cap itg tt ielt) S H (.lst out) v H'->Q v H':=k1;have sub1:=se.sub.same s1;have hoacc:S.o acc=false:=sub1.freeO hacc;have hhacc:(dz S acc).h acc=true:=by show (S.h acc||acc==acc)=true;simp
  -- what holds between two turns
  refine⟨λi m σ' H'=>m=ds.length-i/\i<=ds.length/\∃τ' o,zG body (ds.drop i) τ' o=.ok out/\SE g (eF c sc) τ' σ' H' (dz S acc)/\o.length<=i/\qe H1 H'/\∃vs,H' acc=some (.lst vs)/\qw g (hid H' (dz S acc)) o vs,
   ⟨ds.length,rfl,bx _,ez cap τ,[],hl,(se.up s1).caps O hS.cap |>.hide hacc,aG _,zi hacc,[],zF,.nil⟩,?_⟩
  rintro i m σ' H' ⟨rfl,hi',τ',o,hlo,se',hol,s1',vs,hv,hr⟩;have keep:qe (hid H1 S) (hid H' (dz S acc)):=λb u hb=>by
   obtain⟨z1,z2⟩:=b7.mp hb;refine b7.mpr ⟨?_,s1' _ _ z2⟩;show (S.h b||b==acc)=false;rw[z1]
   simpa using λz:b=acc=>by rw[z,hacc]at z2;cases z2
  obtain⟨g1,g2⟩:=kW H' (dz S acc) s1' keep se'.sub;by_cases hlt:i<ds.length
  ·have hd:ds[i]? = some ds[i]:=List.getElem?_eq_getElem hlt;obtain⟨go1,go2⟩:=g2 i ds[i] hd;refine .inr ⟨go1,λσ'' H''=>∃τ' o,zG body (ds.drop (i+1)) τ' o=.ok out/\SE g (eF c sc) τ' σ'' H'' (dz S acc)/\o.length<=i+1/\qe H1 H''/\∃vs,H'' acc=some (.lst vs)/\qw g (hid H'' (dz S acc)) o vs,
    λσ'' H'' z=>⟨ds.length-(i+1),by lia,rfl,hlt,z⟩,λx H2 hy=>?_⟩
   obtain⟨s2,rx⟩:=go2 x H2 hy;rw[fU hlt]at hlo;simp only[zG]at hlo;cases q:body ds[i] τ' with
   |ex z=>exact absurd q (bex _ _ _)
   |no=>rw[q]at hlo;cases hlo
   |ok p=>
    rw[q]at hlo;simp only[R.bind_ok]at hlo;rw[<-hbody]at q;have q:=Ad q;cases q1:store itg ds[i] τ' with
    |ex z=>rw[q1]at q;cases q
    |no=>rw[q1]at q;cases q
    |ok τ1=>
     rw[q1]at q;simp only[R.bind_ok]at q;refine Gn O.K (se'.up s2) rx q1 λσ1 se1=>?_
     cases q2:evT w tt τ1 with
     |ex z=>rw[q2]at q;cases q
     |no=>rw[q2]at q;cases q
     |ok r=>
      rw[q2]at q;simp only[R.bind_ok]at q;refine⟨τ1,dz S acc,se1,?_⟩;rw[q2];intro H3 s3;have hv3:=s3 _ _ (s2 _ _ hv);have s13:=s1'.trans (s2.trans s3);cases r with
      |false=>
       simp only[bD,if_false,R.ok.injEq]at q;subst q;rw[if_neg b9];exact⟨τ1,o++[],hlo,se1.up s3,by simp;lia,s13,vs,hv3,by rw[cQ];exact hr.mono (qh (s2.trans s3))⟩
      |true=>
       simp only[if_true]at q;rw[if_pos rfl];cases q3:evE w ielt τ1 with
       |ex z=>rw[q3]at q;cases q
       |no=>rw[q3]at q;cases q
       |ok dd=>
        rw[q3]at q;simp only[R.bind_ok,R.ok.injEq]at q;subst q;refine⟨τ1,dz S acc,se1.up s3,?_⟩;rw[q3];intro v H4 p4;have hv4:=p4.same _ _ hv3;have hr4:=hr.mono (qh ((s2.trans s3).trans p4.same));have hz':vs.length<sizeLine:=by
         rw[<-hr.length,bu];have:ds.length<=SZ:=Nat.le_of_not_lt hz;unfold SZ at this;lia
        refine⟨vs,hv4,hz',τ1,o++[dd],hlo,(se1.up (s3.trans p4.same)).grow hhacc hoacc,by simp;lia,λb u hb=>?_,vs++[v],zF,?_⟩
        ·rw[qi (λz=>by rw[z,hacc]at hb;cases hb)];exact p4.same _ _ (s13 _ _ hb)
        ·rw[i5 hhacc];exact hr4.append (.cons (p4.st he) .nil)
  ·have e:i=ds.length:=by lia
   subst e;refine .inl ⟨g1 ds.length (aG _),?_⟩;rw[List.drop_length]at hlo;simp only[zG,R.ok.injEq]at hlo;subst hlo;have rep:Rep g (hid H' S) (.lst o) (.ref acc):=.lst (SqL.of (b7.mpr ⟨sub1.free hacc,hv⟩)) (hr.mono ug);exact k1 _ _ (bI.new (s1.trans s1') rep ⟨acc,_,rfl,s1.free hacc,hv,.lst hr⟩)
theorem wt(O:XO w g c E X)(hcalm:X.calm=true){sc:bf}{cap:List (Option Nat)}{tgt it elt:Expr}{ifs:List Expr}{pos:Pos}{iit:It}{itg:Tg}{tt:T}{ielt:EV.E}(hS:eS X (cq sc.names) cap sc)(hnd:(cq sc.names).Nodup)
  (hi:PI X tgt it (tIt w g c E iit)) (hb:∀cl C s₀ H₀ fp,PG (zX X (cq sc.names) sc cl C s₀ H₀ fp) tgt (gT X.K itg)/\PTs (zX X (cq sc.names) sc cl C s₀ H₀ fp) ifs (tT w g (eF c sc) E0 tt)/\PE (zX X (cq sc.names) sc cl C s₀ H₀ fp) elt (tE w g (eF c sc) E0 ielt))
  (he:esc ielt=true) (hs:zI it=true):PE X (.ListComp elt [⟨tgt,it,ifs,0⟩] sc pos) (tE w g c E (.comp iit cap itg tt ielt)):=by
 exact PE.imp (AK (tb:=λacc=>j6 acc (tE w g (eF c sc) E0 ielt)) hcalm hS hi (λcl C s₀ H₀ fp=>⟨(hb cl C s₀ H₀ fp).1,(hb cl C s₀ H₀ fp).2.1,λacc=>o3 rfl (hb cl C s₀ H₀ fp).2.2⟩) (by simp) (λx=>by cases it<;>first|rfl|(simp[zI]at hs))) λσ H Q q=>rO O hS he q
end
end EV
namespace L2
open PySem PySem.Spec PyProof.Rows
section
variable{prog:aA}{w:au}{A:aB}{E:ae->af->Prop}{s:af}
end
section
variable{X:Cx}{tg:Expr}
theorem Dn(l b:Addr)(items xs:Array ae)(n m:Nat)(dd:Option Addr)(sl:Array (Option ae))(hz:items.size+xs.size<=aP) :
  Meets (Builtin.«list.extend» ⟨[.ref l,.ref b],[]⟩) (λ_ R s=>s.heap.get? l=some ⟨.type "list",none,.seq items n,#[]⟩/\s.heap.get? b=some ⟨.type "tuple",dd,.seq xs m,sl⟩/\R (.ok (.ret ck)) {s with heap:=s.heap.update l (bt λx=>x++xs),toks:=s.toks}):=
 .of_wp λprog w A R s h=>by
  obtain⟨hp,g,d,tk,os⟩:=s;obtain⟨hl,hb,h⟩:=h;have g2:=PySem.AutoSeq1.sub_tuple_tuple;have g3:=PySem.AutoSeq1.sub_list_list;have hz1:items.size<=sizeLine:=by lia
  have hz':(items++xs).size<=aP+1:=by rw[Array.size_append];lia
  have hlong:¬ (!items.isEmpty&&Builtin.List.listTooLong (items.size+xs.size))=true:=by
   rw[Ci hz,Bool.and_false];exact b9
  wp_walk using (wpAny_updateSeq hl rfl (hz:=hz1) (_hz':=hz'))
  exact⟨_,rfl,h⟩
noncomputable def Bh(K:aC):V->List V->Hp->VK->Prop:=λx vs H Q=>∃l b xs zs,x=.ref l/\vs=[.ref b]/\H l=some (.lst xs)/\SqT K H b zs/\xs.length+zs.length<aP/\Q .non (upd H l (.lst (xs++zs)))
theorem yn:MtM X "list.extend" (Bh X.K):=by
 intro pins s σ H x vs v us Q I rx rv h;obtain⟨l,b,xs,zs,rfl,rfl,hH,hB,hz,q⟩:=h;cases rx;obtain⟨u,rfl,ru⟩:=rv.one;cases ru;obtain⟨z,its,n,r,hl,e⟩:=I.lstM hH;obtain⟨its2,r2,⟨⟨c,dd,da,sl⟩,e2,rfl,n2,rfl⟩,hl2⟩:=I.tuple hB;have l2:=r2.length;refine call_meets PySem.F.slot_list_extend ⟨_,e,rfl⟩ PySem.F.entry_list_extend (PySem.F.args_list_extend_2 _ _) (Dn l b its.toArray its2.toArray n n2 dd sl (by rw[aV,aV];lia)) ⟨e,e2,?_⟩;refine⟨.non,_,I.lset (its':=its++its2) hH e (by simp) (r.append r2) ?_,rfl,q⟩;rw[bH];lia
end
end L2
namespace EV
open PySem PySem.Spec PySem.P PyProof.Rows L2
section
variable{prog:aA}{w:au}{A:aB}{E:ae->af->Prop}{s:af}
end
section
variable{X:Cx}
end
section
variable{w:W}{g:Gc}{c:Cc}{E:XK}{X:Cx}{a b:Expr}{ia ib:EV.E}{pos p2 p3 pos3:Pos}
theorem wV(O:XO w g c E X){x y:Str}{tg:Expr}(hx:glob c x=some .rvd)(hy:glob c y=some .rng)(ha:PE X a (tE w g c E ia))(hs:isStar a=false):PI X tg (.Call (.Name x p2) [.Call (.Name y p3) [a] [] pos3] [] pos) (tIt w g c E (.rrev ia)):=λpins s σ H R I ⟨τ,S,se,kk⟩=>by
 simp only[evI]at kk;exact bC kk
end
structure Snd(w:W)(g:Gc)(n:Nat):Prop where
 e:∀{c:Cc}{E:XK}{X:Cx} (O:XO w g c E X) {x:Expr}{ir:EV.E},cE n c x=some ir->PE X x (tE w g c E ir)
 bo:∀{c:Cc}{E:XK}{X:Cx} (O:XO w g c E X) {op:PySem.BoolOp}{vs:List Expr}{pos:Pos}{ir:EV.E},cBo n c op vs=some ir->PE X (.BoolOp op vs pos) (tE w g c E ir)/\esc ir=true
 o:∀{c:Cc}{E:XK}{X:Cx} (O:XO w g c E X) {x:Option Expr}{ir:OE},cO n c x=some ir->PO X x (tOe w g c E ir)
 es:∀{c:Cc}{E:XK}{X:Cx} (O:XO w g c E X) {x:List Expr}{ir:Es},cEs n c x=some ir->PA X x (tA w g c E ir)
 i:∀{c:Cc}{E:XK}{X:Cx} (O:XO w g c E X) {tg x:Expr}{ir:It},cI n c x=some ir->gS ir tg=true->PI X tg x (tIt w g c E ir)
 t:∀{c:Cc}{E:XK}{X:Cx} (O:XO w g c E X) {x:Expr}{ir:T},cT n c x=some ir->PT X x (tT w g c E ir)
 ts:∀{c:Cc}{E:XK}{X:Cx} (O:XO w g c E X) {op:PySem.BoolOp}{vs:List Expr}{pos:Pos}{ir:T},cTs n c op vs=some ir->PW X (.BoolOp op vs pos) (tT w g c E ir)
 ifs:∀{c:Cc}{E:XK}{X:Cx} (O:XO w g c E X) {x:List Expr}{ir:T},gf n c x=some ir->PTs X x (tT w g c E ir)
section
variable{w:W}{g:Gc}{n:Nat}
theorem Snd.ifs_succ(ih:Snd w g n){c:Cc}{E:XK}{X:Cx}(O:XO w g c E X){x:List Expr}{ir:T}(h:gf (n+1) c x=some ir):PTs X x (tT w g c E ir):=by
 match x with
 | []=>
  simp only[gf,cN]at h;subst h;intro pins s σ H Q I ⟨τ,S,se,q⟩;exact DQ pins s σ H Q I (q H (qe.refl _))
 | [t]=>simp only[gf]at h;exact Eb (ih.t O h)
 |_::_::_=>simp[gf]at h
theorem Snd.bo_succ(ih:Snd w g n){c:Cc}{E:XK}{X:Cx}(O:XO w g c E X){op:PySem.BoolOp}{vs:List Expr}{pos:Pos}{ir:EV.E}(h:cBo (n+1) c op vs=some ir):PE X (.BoolOp op vs pos) (tE w g c E ir)/\esc ir=true:=by
 match vs with
 | []=>simp[cBo]at h
 | [a]=>
  simp only[cBo,aS,aQ]at h;obtain⟨ia,h1,h⟩:=h;split at h
  ·rename_i he
   cases h;exact⟨FY (ih.e O h1),he⟩
  ·cases h
 |a::b::r=>
  simp only[cBo,aS,aQ]at h;obtain⟨ia,h1,ir',h2,h⟩:=h;obtain⟨r1,r2⟩:=ih.bo O (pos:=pos) h2;cases op with
  |And=>cases h;exact⟨GV (ih.e O h1) r1 r2,rfl⟩
  |Or=>cases h;exact⟨wC (ih.e O h1) r1 r2,rfl⟩
theorem Snd.o_succ(ih:Snd w g n){c:Cc}{E:XK}{X:Cx}(O:XO w g c E X){x:Option Expr}{ir:OE}(h:cO (n+1) c x=some ir):PO X x (tOe w g c E ir):=by
 cases x with
 |none=>simp only[cO,cN]at h;subst h;exact yR
 |some e=>
  simp only[cO,bF]at h;obtain⟨ie,h1,rfl⟩:=h;exact CQ (ih.e O h1)
theorem Snd.es_succ(ih:Snd w g n){c:Cc}{E:XK}{X:Cx}(O:XO w g c E X){x:List Expr}{ir:Es}(h:cEs (n+1) c x=some ir):PA X x (tA w g c E ir):=by
 match x with
 | []=>simp only[cEs,cN]at h;subst h;exact yA
 |e::r=>
  have hs:=gP h e aK;simp only[cEs,hs,bD,if_false,aS,aQ]at h;obtain⟨ie,h1,ir',h2,h⟩:=h;cases h;exact Ez (ih.e O h1) (ih.es O h2) hs
theorem Snd.ts_succ(ih:Snd w g n){c:Cc}{E:XK}{X:Cx}(O:XO w g c E X){op:PySem.BoolOp}{vs:List Expr}{pos:Pos}{ir:T}(h:cTs (n+1) c op vs=some ir):PW X (.BoolOp op vs pos) (tT w g c E ir):=by
 match vs with
 | []=>simp[cTs]at h
 | [a]=>
  simp only[cTs]at h;cases op with
  |And=>exact xM (ih.t O h)
  |Or=>exact xI (ih.t O h)
 |a::b::r=>
  simp only[cTs,aS,aQ]at h;obtain⟨ia,h1,ir',h2,h⟩:=h;cases op with
  |And=>cases h;exact y_ (ih.t O h1) (ih.ts O h2)
  |Or=>cases h;exact Ck (ih.t O h1) (ih.ts O h2)
theorem Snd.t_succ(ih:Snd w g n){c:Cc}{E:XK}{X:Cx}(O:XO w g c E X){x:Expr}{ir:T}(h:cT (n+1) c x=some ir):PT X x (tT w g c E ir):=by
 unfold cT at h;split at h
 ·simp only[bF]at h;obtain⟨ia,h1,rfl⟩:=h;exact BB (ih.t O h1)
 ·exact(ih.ts O h).pt
 ·cases h
 ·split at h
  ·simp only[aS,aQ]at h;obtain⟨ia,h1,ib,h2,h⟩:=h;split at h
   ·rename_i hs;cases h;exact Bp O (ih.e O h1) (ih.e O h2) hs
   ·cases h
  ·simp only[aS,aQ]at h;obtain⟨ia,h1,ib,h2,id',h3,h⟩:=h;split at h
   ·rename_i hs
    simp only[aW]at hs;cases h;exact AZ O (ih.e O h1) (ih.e O h2) (ih.e O h3) hs.2
   ·cases h
  ·simp only[aS,aQ]at h;obtain⟨ia,h1,ib,h2,id',h3,if',h4,h⟩:=h;split at h
   ·rename_i hs
    simp only[aW]at hs;cases h;exact Ee O (ih.e O h1) (ih.e O h2) (ih.e O h3) (ih.e O h4) hs.2
   ·cases h
  ·cases h
 ·rename_i n1 n2 n3 n4
  simp only[bF]at h;obtain⟨ia,h1,rfl⟩:=h;refine Ey O (ih.e O h1) λwhole=>?_
  cases x with
  |UnaryOp op a p=>cases op<;>first|rfl|exact(n1 _ _ rfl).elim
  |BoolOp op vs p=>exact(n2 _ _ _ rfl).elim
  |IfExp a b d p=>exact(n3 _ _ _ _ rfl).elim
  |Compare a ops bs p=>exact(n4 _ _ _ _ rfl).elim
  |_=>rfl
theorem Snd.i_succ(ih:Snd w g n){c:Cc}{E:XK}{X:Cx}(O:XO w g c E X){tg x:Expr}{ir:It}(h:cI (n+1) c x=some ir)(ht:gS ir tg=true):PI X tg x (tIt w g c E ir):=by
 have sq:∀{x:Expr}{ir:It},(cE n c x).map It.seq=some ir->PI X tg x (tIt w g c E ir):=λ{x ir} h=>by
  simp only[bF]at h;obtain⟨ia,h1,rfl⟩:=h;exact x9 O (ih.e O h1)
 have tup:isTup tg=true->∃es k p,tg=.Tuple es k p:=λh=>by cases tg<;>first|exact⟨_,_,_,rfl⟩|(simp[isTup]at h)
 unfold cI at h;split at h
 ·rename_i f p as q
  split at h
  ·exact sq h
  ·split at h
   ·rename_i hg
    split at h
    ·rename_i a
     split at h
     ·cases h
     ·rename_i hs
      simp only[bF]at h;obtain⟨ia,h1,rfl⟩:=h;exact CZ O hg (ih.e O h1) (by simpa using hs)
    ·rename_i a b
     split at h
     ·cases h
     ·rename_i hs
      have hs:isStar a=false/\isStar b=false:=by simpa using hs
      simp only[aS,aQ]at h;obtain⟨ia,h1,ib,h2,h⟩:=h;cases h;exact wL O hg (ih.e O h1) (ih.e O h2) hs.1 hs.2
    ·cases h
   ·rename_i hg
    split at h
    ·rename_i a
     split at h
     ·cases h
     ·rename_i hs
      simp only[bF]at h;obtain⟨ia,h1,rfl⟩:=h;obtain⟨es,k,p',rfl⟩:=tup ht;exact CB O hg (ih.e O h1) (by simpa using hs)
    ·cases h
   ·rename_i hg
    split at h
    ·rename_i a b
     split at h
     ·cases h
     ·rename_i hs
      have hs:isStar a=false/\isStar b=false:=by simpa using hs
      simp only[aS,aQ]at h;obtain⟨ia,h1,ib,h2,h⟩:=h;cases h;obtain⟨es,k,p',rfl⟩:=tup ht;exact D7 O hg (ih.e O h1) (ih.e O h2) hs.1 hs.2
    ·cases h
   ·rename_i hg
    split at h
    ·split at h
     ·rename_i hs
      simp only[aW,beq_iff_eq,bN]at hs;simp only[bF]at h;obtain⟨ia,h1,rfl⟩:=h;exact wV O hg hs.1.2 (ih.e O h1) hs.2
     ·cases h
    ·cases h
   ·exact sq h
 ·exact sq h
end
end EV
namespace ST
open PySem PySem.SetTable
noncomputable def adv(mask:Nat)(p:Probe):Probe:=
 if p.more>0 then {p with j:=p.j+1,more:=p.more-1}else
 {p with j:=(leap mask p.i p.perturb).1,more:=runEnd mask (leap mask p.i p.perturb).1-(leap mask p.i p.perturb).1,i:=(leap mask p.i p.perturb).1,perturb:=(leap mask p.i p.perturb).2}
theorem oA(t:br)(p:Probe):t.advance p=adv t.mask p:=rfl
noncomputable def RS(mask:Nat)(x:Nat×Nat):Probe:=⟨x.1,runEnd mask x.1-x.1,x.1,x.2,none⟩
noncomputable def pr(mask:Nat)(h:Int):Nat->Probe
 | 0=>RS mask (bits h%(mask+1),bits h)
 |n+1=>adv mask (pr mask h n)
theorem xg(t:br)(h:Int):t.probeStart h=pr t.mask h 0:=rfl
noncomputable def it(mask:Nat):Nat->Probe->Probe
 | 0,p=>p
 |d+1,p=>it mask d (adv mask p)
theorem jI(mask:Nat)(h:Int):∀d n,pr mask h (n+d)=it mask d (pr mask h n)
 | 0,n=>rfl
 |d+1,n=>by rw[it,show n+(d+1)=n+1+d by lia,jI mask h d (n+1)];rfl
theorem mX(mask:Nat):∀d e p,it mask (d+e) p=it mask e (it mask d p)
 | 0,e,p=>by rw[Nat.zero_add];rfl
 |d+1,e,p=>by rw[show d+1+e=d+e+1 by lia,it,it,mX mask d e]
noncomputable def lp(mask:Nat):Nat->Nat×Nat->Nat×Nat
 | 0,x=>x
 |k+1,x=>lp mask k (leap mask x.1 x.2)
theorem oX(mask:Nat):∀d e x,lp mask (d+e) x=lp mask e (lp mask d x)
 | 0,e,x=>by rw[Nat.zero_add];rfl
 |d+1,e,x=>by rw[show d+1+e=d+e+1 by lia,lp,lp,oX mask d e]
structure Ok(mask:Nat)(p:Probe):Prop where
 more:p.more<=9
 le:p.j+p.more<=mask
 pt:p.perturb<2^64
 dm:p.dummy=none
theorem jt{mask i:Nat}(h:i<=mask):runEnd mask i-i<=9/\i+(runEnd mask i-i)<=mask/\i<=runEnd mask i:=by
 unfold runEnd;split<;>lia
theorem EJ{mask:Nat}{x:Nat×Nat}(h:x.1<=mask)(hp:x.2<2^64):Ok mask (RS mask x):=⟨(jt h).1,(jt h).2.1,hp,rfl⟩
theorem hU(mask i p:Nat):(leap mask i p).1<=mask:=Nat.le_of_lt_succ (Nat.mod_lt _ (Nat.succ_pos _))
theorem Fb{mask:Nat}{p:Probe}(h:Ok mask p):Ok mask (adv mask p):=by
 have a:=h.more;have b:=h.le;have c:=h.pt;have d:=h.dm;unfold adv;split
 ·exact⟨by show p.more-1<=9;lia,by show p.j+1+(p.more-1)<=mask;lia,c,d⟩
 ·have:=jt (hU mask p.i p.perturb);exact⟨this.1,this.2.1,by show p.perturb/32<_;lia,d⟩
theorem iV(mask:Nat)(h:Int):∀n,Ok mask (pr mask h n)
 | 0=>EJ (Nat.le_of_lt_succ (Nat.mod_lt _ (Nat.succ_pos _))) (by
   show bits h<2^64;unfold bits;have:=Int.emod_lt_of_pos h (show (0:Int)<2^64 by decide);have:=Int.emod_nonneg h (show (2^64:Int)≠0 by decide);lia)
 |n+1=>Fb (iV mask h n)
theorem lO(mask:Nat)(h:Int)(n:Nat):(pr mask h n).j<=mask:=by have:=(iV mask h n).le;lia
theorem kG(mask:Nat):∀(r:Nat) (p:Probe),p.more=r->p.dummy=none->it mask (r+1) p=RS mask (leap mask p.i p.perturb)/\∀c,c<=r->(it mask c p).j=p.j+c
 | 0,p,h,hd=>by
  refine⟨?_,λc hc=>by rw[Nat.le_zero.mp hc];rfl⟩;rw[it,it,adv,if_neg (by lia)];obtain⟨j,m,i,q,d⟩:=p;cases hd
  rfl
 |r+1,p,h,hd=>by
  have e:adv mask p={p with j:=p.j+1,more:=p.more-1}:=by rw[adv,if_pos (by lia)]
  have g:=kG mask r (adv mask p) (by rw[e];show p.more-1=r;lia) (by rw[e];exact hd);refine⟨?_,λc hc=>?_⟩
  ·rw[it,g.1,e]
  ·cases c with
   |zero=>rfl
   |succ c=>rw[it,g.2 c (by lia),e];show p.j+1+c=_;lia
theorem oq(mask:Nat):∀(k:Nat) (x:Nat×Nat),x.1<=mask->∃d,d<=10 * k/\it mask d (RS mask x)=RS mask (lp mask k x)
 | 0,x,_=>⟨0,by lia,rfl⟩
 |k+1,x,hx=>by
  obtain⟨d,h1,h2⟩:=oq mask k (leap mask x.1 x.2) (hU ..);have r:=(kG mask _ (RS mask x) rfl rfl).1;have:=(jt hx).1;refine⟨(RS mask x).more+1+d,by show runEnd mask x.1-x.1+1+d<=_;lia,?_⟩;rw[mX,r];exact h2
theorem rP(mask:Nat):∀(k:Nat) (x:Nat×Nat),(lp mask k x).2=x.2/32^k
 | 0,x=>by simp[lp]
 |k+1,x=>by rw[lp,rP mask k];show x.2/32/32^k=_;rw[Nat.div_div_eq_div_mul,Nat.pow_succ,Nat.mul_comm]
theorem sv(mask:Nat):∀(k:Nat) (x:Nat×Nat),x.1<=mask->(lp mask k x).1<=mask
 | 0,_,h=>h
 |k+1,_,_=>sv mask k _ (hU ..)
noncomputable def om(mask:Nat):Nat->Nat->Nat
 | 0,_=>0
 |n+1,i=>2^i |||om mask n ((i * 5+1)%(mask+1))
theorem s9(mask:Nat){j:Nat}:∀(n i:Nat),(om mask n i).testBit j=true->∃k,k<n/\lp mask k (i,0)=(j,0)
 | 0,i,h=>by simp[om]at h
 |n+1,i,h=>by
  rw[om,Nat.testBit_or,Nat.testBit_two_pow,bW,decide_eq_true_eq]at h;rcases h with rfl|h
  ·exact⟨0,by lia,rfl⟩
  ·obtain⟨k,h1,h2⟩:=s9 mask n _ h;refine⟨k+1,by lia,?_⟩;rw[lp,<-h2];show lp mask k ((i * 5+1+0/32)%(mask+1),0/32)=_;rw[Nat.zero_div,Nat.add_zero]
noncomputable def Mk(mask:Nat):Prop:=mask=7\/mask=31\/mask=127
theorem Gr{mask:Nat}(h:Mk mask):(bE (mask+1)).all (λi=>om mask (mask+1) i==2^(mask+1)-1)=true:=by
 rcases h with rfl|rfl|rfl<;>decide +kernel
theorem rH{mask:Nat}(hM:Mk mask){x:Nat×Nat}(hp:x.2<2^64)(hx:x.1<=mask){j:Nat}(hj:j<=mask):∃k,k<=mask+13/\(lp mask k x).1=j:=by
 have a:=b_.mp (Gr hM) (lp mask 13 x).1 (List.mem_range.mpr (Nat.lt_succ_of_le (sv mask 13 x hx)));have b:(om mask (mask+1) (lp mask 13 x).1).testBit j=true:=by
  rw[eq_of_beq a,Nat.testBit_two_pow_sub_one,decide_eq_true_eq];lia
 obtain⟨k,h1,h2⟩:=s9 mask _ _ b;have c:lp mask 13 x=((lp mask 13 x).1,0):=by
  refine Prod.ext rfl ?_;rw[rP];exact Nat.div_eq_of_lt (bG hp (by decide))
 exact⟨13+k,by lia,by rw[oX,c,h2]⟩
theorem cover{mask:Nat}(hM:Mk mask)(h:Int)(n:Nat){j:Nat}(hj:j<=mask):∃m,n<=m/\m<n+10 * turns mask/\(pr mask h m).j=j:=by
 have o:=iV mask h n;obtain⟨k,h1,h2⟩:=rH hM (x:=leap mask (pr mask h n).i (pr mask h n).perturb) (by have:=o.pt;show _/32<_;lia) (hU ..) hj;obtain⟨d,h3,h4⟩:=oq mask k (leap mask (pr mask h n).i (pr mask h n).perturb) (hU ..);have r:=(kG mask _ (pr mask h n) rfl o.dm).1;have:=o.more;refine⟨n+((pr mask h n).more+1+d),by lia,by unfold turns;lia,?_⟩;rw[jI,mX,r,h4];exact h2
noncomputable def Ri(xs:Array Nat):Prop:=∀i k x y:Nat,i<k->xs[i]? = some x->xs[k]? = some y->x<y
theorem Ri.of{xs:Array Nat}(h:xs.toList.Pairwise (· < ·)):Ri xs:=by
 intro i k x y hik hx hy;rw[List.pairwise_iff_getElem]at h;obtain⟨a,rfl⟩:=Array.getElem?_eq_some_iff.mp hx;obtain⟨b,rfl⟩:=Array.getElem?_eq_some_iff.mp hy;exact h i k a b hik
theorem lY{xs:Array Nat}(hr:Ri xs)(j:Nat):∀(fuel lo hi:Nat),hi-lo<=fuel->lo<=hi->hi<=xs.size->(∀i x,i<lo->xs[i]? = some x->x<j)->(∀i x,hi<=i->xs[i]? = some x->j<=x) ->
  below.go xs j fuel lo hi<=xs.size/\(∀i x,xs[i]? = some x->(i<below.go xs j fuel lo hi↔x<j))
 | 0,lo,hi,h1,h2,h3,h4,h5=>by
  rw[below.go];refine⟨by lia,λi x e=>⟨λh=>h4 i x h e,λh=>?_⟩⟩;refine Nat.lt_of_not_le λg=>?_
  have:=h5 i x (by lia) e;lia
 |fuel+1,lo,hi,h1,h2,h3,h4,h5=>by
  rw[below.go];split
  ·rename_i hl
   have hm:(lo+hi)/2<xs.size:=by lia
   have e:xs[(lo+hi)/2]? = some xs[(lo+hi)/2]:=Array.getElem?_eq_getElem hm;have g:xs.getD ((lo+hi)/2) j=xs[(lo+hi)/2]:=by rw[Array.getD_eq_getD_getElem?,e];rfl
   dsimp only;rw[g];split
   ·rename_i hq
    refine lY hr j fuel _ hi (by lia) (by lia) h3 (λi x hi' e'=>?_) h5;rcases Nat.lt_trichotomy i ((lo+hi)/2)with q|q|q
    ·exact Nat.lt_trans (hr i _ x _ q e' e) hq
    ·subst q;rw[e]at e';cases e';exact hq
    ·lia
   ·rename_i hq
    refine lY hr j fuel lo _ (by lia) (by lia) (by lia) h4 λi x hi' e'=>?_
    rcases Nat.lt_trichotomy i ((lo+hi)/2)with q|q|q
    ·lia
    ·subst q;rw[e]at e';cases e';lia
    ·have:=hr _ i _ x q e e';lia
  ·refine⟨by lia,λi x e=>⟨λh=>h4 i x h e,λh=>?_⟩⟩;refine Nat.lt_of_not_le λg=>?_
   have:=h5 i x (by lia) e;lia
theorem sW{xs:Array Nat}(hr:Ri xs)(j:Nat):below xs j<=xs.size/\(∀i x,xs[i]? = some x->(i<below xs j↔x<j)):=
 lY hr j xs.size 0 xs.size (by lia) (by lia) (aG _) (λ_ _ h=>absurd h (Nat.not_lt_zero _)) λi x h e=>by
  have:=(Array.getElem?_eq_some_iff.mp e).1;lia
theorem below_at{xs:Array Nat}(hr:Ri xs){i j:Nat}(h:xs[i]? = some j):below xs j=i:=by
 obtain⟨a,b⟩:=sW hr j;have c:=(b i j h)
 rcases Nat.lt_trichotomy (below xs j) i with q|q|q
 ·have hs:i<xs.size:=(Array.getElem?_eq_some_iff.mp h).1;have e:xs[below xs j]? = some xs[below xs j]:=Array.getElem?_eq_getElem (by lia);have:=(b _ _ e).mpr (hr _ _ _ _ q e h);lia
 ·exact q
 ·have:=c.mp q;lia
theorem yo{t:br}(hr:Ri t.place){i j:Nat}(h:t.place[i]? = some j):t.slot j=.live i:=by
 unfold slot;dsimp only;rw[below_at hr h,h];simp
theorem oC(j:Nat):has #[] j=false:=by simp[has]
theorem yd{t:br}(hd:t.dummies = #[]){j:Nat}(h:∀i:Nat,t.place[i]?≠some j):t.slot j=.empty:=by
 unfold slot;dsimp only;rw[if_neg (by simpa using h _),hd,oC];simp
noncomputable def Reach(mask:Nat)(P:Nat->Prop)(h:Int)(j:Nat):Prop:=∃n,(pr mask h n).j=j/\∀m,m<n->P (pr mask h m).j
theorem Reach.mono{mask:Nat}{P Q:Nat->Prop}{h:Int}{j:Nat}(r:Reach mask P h j)(s:∀j,P j->Q j):Reach mask Q h j:=
 let ⟨n,a,b⟩:=r;⟨n,a,λm hm=>s _ (b m hm)⟩
structure Good(t:br)(hs:List Int):Prop where
 ma:Mk t.mask
 dum:t.dummies = #[]
 len:t.place.size=hs.length
 ri:t.place.toList.Pairwise (· < ·)
 le:∀j∈t.place.toList,j<=t.mask
 re:∀jh∈t.place.toList.zip hs,Reach t.mask (·∈t.place.toList) jh.2 jh.1
theorem long:∀(n:Nat) (l:List Nat),(∀j,j<n->j∈l)->n<=l.length
 | 0,_,_=>bx _
 |n+1,l,h=>by
  have a:=long n (l.erase n) λj hj=>(List.mem_erase_of_ne (by lia)).mpr (h j (by lia))
  have b:=List.length_erase_of_mem (h n (by lia));have c:=List.length_pos_of_mem (h n (by lia));lia
section
variable{t:br}{hs:List Int}(G:Good t hs)
include G
theorem Good.free(hf:hs.length<=t.mask)(h:Int)(n:Nat):∃m,n<=m/\m<n+10 * turns t.mask/\(pr t.mask h m).j∉t.place.toList:=by
 have:∃j,j<=t.mask/\j∉t.place.toList:=eI λg=>by
  have:=long (t.mask+1) t.place.toList λj hj=>eI λq=>g ⟨j,by lia,q⟩
  rw[a8,G.len]at this;lia
 obtain⟨j,h1,h2⟩:=this;obtain⟨m,a,b,c⟩:=cover G.ma h n h1;exact⟨m,a,b,by rw[c];exact h2⟩
theorem Good.go(hashAt:Nat->Int)(h:Int):∀(fuel n:Nat),(∃m,n<=m/\m<n+fuel/\(pr t.mask h m).j∉t.place.toList) ->
  ∃m,n<=m/\(∀k,n<=k->k<m->∃i,t.place[i]? = some (pr t.mask h k).j/\hashAt i≠h) /\
   (((pr t.mask h m).j∉t.place.toList/\probe.go t hashAt h fuel (pr t.mask h n)=some (.empty (pr t.mask h m).j none)) \/
    ∃i,t.place[i]? = some (pr t.mask h m).j/\hashAt i=h/\probe.go t hashAt h fuel (pr t.mask h n)=some (.candidate (pr t.mask h m).j i (pr t.mask h (m+1))))
 | 0,n,⟨m,a,b,_⟩=>by lia
 |fuel+1,n,⟨m,a,b,c⟩=>by
  have hr:=Ri.of G.ri;by_cases hin:(pr t.mask h n).j∈t.place.toList
  ·obtain⟨i,hi⟩:=List.mem_iff_getElem?.mp hin;rw[Array.getElem?_toList]at hi;rw[probe.go,yo hr hi];dsimp only;by_cases hq:hashAt i=h
   ·refine⟨n,aG _,λk h1 h2=>by lia,.inr ⟨i,hi,hq,?_⟩⟩;rw[if_pos (beq_iff_eq.mpr hq),oA];rfl
   ·rw[if_neg (by simpa using hq),oA];have hne:m≠n:=λe=>c (e▸hin)
    obtain⟨m',a',b',c'⟩:=Good.go hashAt h fuel (n+1) ⟨m,by lia,by lia,c⟩;refine⟨m',by lia,λk h1 h2=>?_,c'⟩;rcases Nat.eq_or_lt_of_le h1 with rfl|h1
    ·exact⟨i,hi,hq⟩
    ·exact b' k h1 h2
  ·refine⟨n,aG _,λk h1 h2=>by lia,.inl ⟨hin,?_⟩⟩;rw[probe.go,yd G.dum λi e=>hin (by rw[<-Array.getElem?_toList]at e;exact List.mem_of_getElem? e)];dsimp only;rw[(iV t.mask h n).dm]
theorem Good.fits(hf:hs.length<=t.mask):t.fits hs.length=true:=by
 unfold br.fits br.fill;rw[G.dum,G.len]
 simpa using hf
theorem Good.put{h:Int}{j:Nat}(hj:j∉t.place.toList)(hR:Reach t.mask (·∈t.place.toList) h j) :
  t.put j=({t with place:=insertAt t.place (below t.place j) j},below t.place j)/\below t.place j<=hs.length /\
   Good {t with place:=insertAt t.place (below t.place j) j} (hs.take (below t.place j)++h::hs.drop (below t.place j)):=by
 have hr:=Ri.of G.ri;obtain⟨b1,b2⟩:=sW hr j;have hb:below t.place j<=hs.length:=by rw[<-G.len];exact b1
 refine⟨by unfold br.put;dsimp only;rw[G.dum,oC];simp,hb,?_⟩;have ins:(insertAt t.place (below t.place j) j).toList=t.place.toList.take (below t.place j)++j::t.place.toList.drop (below t.place j):=br.toList_insertAt ..;have mem:∀{x},x∈(insertAt t.place (below t.place j) j).toList↔x=j\/x∈t.place.toList:=by
  intro x;rw[ins,List.mem_append,aF];constructor
  ·rintro(h|h|h)
   ·exact .inr (List.mem_of_mem_take h)
   ·exact .inl h
   ·exact .inr (List.mem_of_mem_drop h)
  ·rintro(h|h)
   ·exact .inr (.inl h)
   ·rw[<-bL (below t.place j) t.place.toList,List.mem_append]at h;rcases h with h|h
    ·exact .inl h
    ·exact .inr (.inr h)
 have jle:j<=t.mask:=by obtain⟨n,e,_⟩:=hR;rw[<-e];exact lO ..
 refine⟨G.ma,G.dum,?_,?_,?_,?_⟩
 ·show (insertAt t.place (below t.place j) j).size=_;rw[<-a8,ins];simp only[bH,bg,cP,List.length_drop,a8,G.len]
 ·show (insertAt t.place (below t.place j) j).toList.Pairwise (· < ·);rw[ins];have pw:=G.ri;rw[<-bL (below t.place j) t.place.toList,List.pairwise_append]at pw;have lo:∀x∈t.place.toList.take (below t.place j),x<j:=by
   intro x hx;obtain⟨i,hi⟩:=List.mem_iff_getElem?.mp hx;have il:i<below t.place j:=Nat.lt_of_not_le λq=>by rw[List.getElem?_take,if_neg (by lia)]at hi;cases hi
   rw[List.getElem?_take_of_lt il,Array.getElem?_toList]at hi;exact(b2 i x hi).mp il
  have hi:∀x∈t.place.toList.drop (below t.place j),j<x:=by
   intro x hx;obtain⟨i,hi⟩:=List.mem_iff_getElem?.mp hx;rw[List.getElem?_drop,Array.getElem?_toList]at hi;have:=(b2 _ x hi)
   have ne:x≠j:=λe=>hj (by rw[<-e,<-Array.getElem?_toList]at *;exact List.mem_of_getElem? hi)
   lia
  refine List.pairwise_append.mpr ⟨pw.1,List.pairwise_cons.mpr ⟨hi,pw.2.1⟩,λa ha b hb=>?_⟩;rcases aF.mp hb with rfl|hb
  ·exact lo a ha
  ·exact Nat.lt_trans (lo a ha) (hi b hb)
 ·intro x hx;rcases mem.mp hx with rfl|hx
  ·exact jle
  ·exact G.le x hx
 ·rintro⟨x,g⟩ hx;have up:∀y,y∈t.place.toList->y∈(insertAt t.place (below t.place j) j).toList:=λy hy=>mem.mpr (.inr hy)
  change (x,g)∈(insertAt t.place (below t.place j) j).toList.zip _ at hx;rw[ins,List.zip_append (by simp only[cP,a8,G.len]),List.zip_cons_cons,List.mem_append,aF]at hx;have old:(x,g)∈t.place.toList.zip hs->Reach t.mask (·∈(insertAt t.place (below t.place j) j).toList) g x:=λq=>(G.re _ q).mono up
  have hz:t.place.toList.zip hs=(t.place.toList.take (below t.place j)).zip (hs.take (below t.place j))++(t.place.toList.drop (below t.place j)).zip (hs.drop (below t.place j)):=by
   rw[<-List.zip_append (by simp only[cP,a8,G.len]),bL,bL]
  rcases hx with hx|hx|hx
  ·exact old (by rw[hz];exact List.mem_append_left _ hx)
  ·cases hx;exact hR.mono up
  ·exact old (by rw[hz];exact b8 _ hx)
end
theorem pA{α β:Type}{f:α->Option β}:∀{l:List α},(∀x∈l,(f x).isSome=true)->∀i:Nat,(l.filterMap f)[i]? = (l[i]?).bind f
 | [],_,i=>by simp
 |a::l,h,i=>by
  obtain⟨b,hb⟩:=Option.isSome_iff_exists.mp (h a aK);rw[List.filterMap_cons_some hb];cases i with
  |zero=>simp[hb]
  |succ i=>rw[List.getElem?_cons_succ,List.getElem?_cons_succ];exact pA (λx hx=>h x (aO _ hx)) i
noncomputable def Fa(ow:Array (Option Nat))(j:Nat):Prop:=(ow.getD j (some 0)).isNone=true
theorem mD{ow:Array (Option Nat)}{j:Nat}:Fa ow j↔ow[j]? = some none:=by
 unfold Fa;rw[Array.getD_eq_getD_getElem?];cases h:ow[j]? with
 |none=>simp
 |some x=>cases x<;>simp
theorem rJ{mask:Nat}{h:Int}{ow:Array (Option Nat)}:∀(k fuel n:Nat) (x:Nat×Nat),k<fuel->x.1<=mask->pr mask h n=RS mask x->Fa ow (lp mask k x).1 ->
  ∃m,n<=m/\layClean.free mask ow fuel x.1 x.2=some (pr mask h m).j/\Fa ow (pr mask h m).j/\∀l,n<=l->l<m->¬ Fa ow (pr mask h l).j
 |_,0,_,_,hk,_,_,_=>by lia
 |k,fuel+1,n,x,hk,hx,hn,hf=>by
  have run:=kG mask (runEnd mask x.1-x.1) (RS mask x) rfl rfl;have rl:=jt hx;have at_:∀c,c<=runEnd mask x.1-x.1->(pr mask h (n+c)).j=x.1+c:=λc hc=>by rw[jI,hn];exact run.2 c hc
  have nxt:pr mask h (n+(runEnd mask x.1-x.1+1))=RS mask (leap mask x.1 x.2):=by rw[jI,hn];exact run.1
  rw[layClean.free];cases q:(bE (runEnd mask x.1+1-x.1)).find? λk=>(ow.getD (x.1+k) (some 0)).isNone with
  |some c=>
   obtain⟨h1,h2,h3⟩:=List.find?_range_eq_some.mp q;have hc:c<=runEnd mask x.1-x.1:=by have:=List.mem_range.mp h2;lia
   refine⟨n+c,by lia,by rw[at_ c hc],by rw[at_ c hc];exact h1,λl a b=>?_⟩;have:=h3 (l-n) (by lia);rw[show l=n+(l-n)by lia,at_ (l-n) (by lia)];exact λg=>by rw[show (ow.getD (x.1+(l-n)) (some 0)).isNone=true from g]at this;cases this
  |none=>
   have h3:=List.find?_range_eq_none.mp q;have no:∀c,c<=runEnd mask x.1-x.1->¬ Fa ow (x.1+c):=λc hc=>by
    have:=h3 c (by lia);exact λg=>by rw[show (ow.getD (x.1+c) (some 0)).isNone=true from g]at this;cases this
   dsimp only;cases k with
   |zero=>exact absurd hf (no 0 (by lia))
   |succ k=>
    obtain⟨m,a,b,c,d⟩:=rJ k fuel _ (leap mask x.1 x.2) (by lia) (hU ..) nxt hf;refine⟨m,by lia,b,c,λl l1 l2=>?_⟩;by_cases e:l<n+(runEnd mask x.1-x.1+1)
    ·rw[show l=n+(l-n)by lia,at_ (l-n) (by lia)];exact no _ (by lia)
    ·exact d l (by lia) l2
structure Lay(mask:Nat)(hs:List Int)(ow:Array (Option Nat))(k:Nat):Prop where
 sz:ow.size=mask+1
 lo:∀(j i:Nat),ow[j]? = some (some i)->i<k
 one:∀(j j' i:Nat),ow[j]? = some (some i)->ow[j']? = some (some i)->j=j'
 all:∀i h,i<k->hs[i]? = some h->∃j:Nat,ow[j]? = some (some i)/\Reach mask (λj=>∃i,ow[j]? = some (some i)) h j
theorem wO{mask:Nat}(hM:Mk mask){hs:List Int}{ow:Array (Option Nat)}{k:Nat}(L:Lay mask hs ow k)(hk:k<=mask):∃j,j<=mask/\Fa ow j:=by
 refine eI λg=>?_
 have:∀j,j<mask+1->∃i,ow[j]? = some (some i):=λj hj=>by
  cases q:ow[j]? with
  |none=>have:=Array.getElem?_eq_none_iff.mp q;have:=L.sz;lia
  |some x=>
   cases x with
   |none=>exact absurd ⟨j,by lia,mD.mpr q⟩ g
   |some i=>exact⟨i,rfl⟩
 -- more places than things
 have len:=long k ((bE k)) λj hj=>List.mem_range.mpr hj
 have inj:∀n,n<=mask+1->∃l:List Nat,l.Nodup/\l.length=n/\∀i∈l,∃j,j<n/\ow[j]? = some (some i):=by
  intro n
  induction n with
  |zero=>exact λ_=>⟨[],List.nodup_nil,rfl,by simp⟩
  |succ n ih=>
   intro hn;obtain⟨l,a,b,c⟩:=ih (by lia);obtain⟨i,hi⟩:=this n (by lia);refine⟨i::l,List.nodup_cons.mpr ⟨λhm=>?_,a⟩,by simp[b],λx hx=>?_⟩
   ·obtain⟨j,h1,h2⟩:=c i hm;have:=L.one _ _ _ hi h2;lia
   ·rcases aF.mp hx with rfl|hx
    ·exact⟨n,by lia,hi⟩
    ·obtain⟨j,h1,h2⟩:=c x hx;exact⟨j,by lia,h2⟩
 obtain⟨l,a,b,c⟩:=inj (mask+1) (aG _);have sub:∀i∈l,i<k:=λi hi=>by obtain⟨j,_,h2⟩:=c i hi;exact L.lo _ _ h2
 have:l.length<=(bE k).length:=by
  have:∀(l r:List Nat),l.Nodup->(∀i∈l,i∈r)->l.length<=r.length:=by
   intro l
   induction l with
   |nil=>intro r _ _;exact bx _
   |cons a l ih=>
    intro r hn hs;rw[List.nodup_cons]at hn;have:=ih (r.erase a) hn.2 λi hi=>(List.mem_erase_of_ne (a:=i) (b:=a) (λe=>hn.1 (by rw[<-e];exact hi))).mpr (hs i (aO _ hi))
    have b:=List.length_erase_of_mem (hs a aK);have c:=List.length_pos_of_mem (hs a aK);simp only[bg];lia
  exact this _ _ a λi hi=>List.mem_range.mpr (sub i hi)
 rw[List.length_range]at this;lia
theorem GB{mask:Nat}(hM:Mk mask){hs:List Int}{ow:Array (Option Nat)}{k:Nat}(L:Lay mask hs ow k)(hk:k<=mask){h:Int}(hh:hs[k]? = some h) :
  ∃j,layClean.free mask ow (turns mask) (bits h%(mask+1)) (bits h)=some j/\Lay mask hs (ow.setIfInBounds j (some k)) (k+1):=by
 obtain⟨j0,h1,h2⟩:=wO hM L hk;have o:=iV mask h 0;have hx:bits h%(mask+1)<=mask:=Nat.le_of_lt_succ (Nat.mod_lt _ (Nat.succ_pos _));obtain⟨c,h3,h4⟩:=rH hM (x:=(bits h%(mask+1),bits h)) o.pt hx h1;obtain⟨m,_,a,b,d⟩:=rJ (h:=h) (ow:=ow) c (turns mask) 0 (bits h%(mask+1),bits h) (by unfold turns;lia) hx rfl (by rw[h4];exact h2);have jl:(pr mask h m).j<=mask:=lO ..;have hf:=mD.mp b;have old:∀{x i:Nat},ow[x]? = some (some i)->(ow.setIfInBounds (pr mask h m).j (some k))[x]? = some (some i):=λ{x i} e=>by
  rw[Array.getElem?_setIfInBounds,if_neg];· exact e
  ·intro q;rw[q,e]at hf;cases hf
 have new:(ow.setIfInBounds (pr mask h m).j (some k))[(pr mask h m).j]? = some (some k):=by
  rw[Array.getElem?_setIfInBounds,if_pos rfl,if_pos (by rw[L.sz];lia)]
 have inv:∀{x i:Nat},(ow.setIfInBounds (pr mask h m).j (some k))[x]? = some (some i)->(x=(pr mask h m).j/\i=k)\/ow[x]? = some (some i):=λ{x i} e=>by
  rw[Array.getElem?_setIfInBounds]at e;split at e
  ·rename_i q
   rw[if_pos (by rw[L.sz];lia)]at e;cases e;exact .inl ⟨q.symm,rfl⟩
  ·exact .inr e
 refine⟨_,a,⟨by rw[Array.size_setIfInBounds];exact L.sz,λx i e=>?_,λx y i e e'=>?_,λi g hi hg=>?_⟩⟩
 ·rcases inv e with ⟨_,rfl⟩|e
  ·lia
  ·have:=L.lo _ _ e;lia
 ·rcases inv e with ⟨e1,e0⟩|e1<;>rcases inv e' with ⟨e2,e3⟩|e2
  ·rw[e1,e2]
  ·have:=L.lo _ _ e2;lia
  ·have:=L.lo _ _ e1;lia
  ·exact L.one _ _ _ e1 e2
 ·by_cases hik:i=k
  ·subst hik;rw[hh]at hg;cases hg;refine⟨_,new,m,rfl,λl hl=>?_⟩;have nf:=d l (bx _) hl;cases q:ow[(pr mask h l).j]? with
   |none=>have:=Array.getElem?_eq_none_iff.mp q;have:=L.sz;have:=lO mask h l;lia
   |some y=>
    cases y with
    |none=>exact absurd (mD.mpr q) nf
    |some i=>exact⟨i,old q⟩
  ·obtain⟨j,e,r⟩:=L.all i g (by lia) hg;exact⟨j,old e,r.mono λj ⟨i,e⟩=>⟨i,old e⟩⟩
noncomputable def md(mask:Nat):Option (Array (Option Nat)×Nat)->Int->Option (Array (Option Nat)×Nat):=λacc h=>do
  let (owner,k) <-acc
  let j <-layClean.free mask owner (turns mask) (bits h%(mask+1)) (bits h)
  pure (owner.setIfInBounds j (some k),k+1)
theorem oZ{mask:Nat}(hM:Mk mask):∀(ls dn:List Int) (ow:Array (Option Nat)),(dn++ls).length<=mask+1->Lay mask (dn++ls) ow dn.length ->
  ∃ow',ls.foldl (md mask) (some (ow,dn.length))=some (ow',(dn++ls).length)/\Lay mask (dn++ls) ow' (dn++ls).length
 | [],dn,ow,hl,L=>⟨ow,by simp,by simpa using L⟩
 |h::ls,dn,ow,hl,L=>by
  have hl':=hl;simp only[bH,bg]at hl';obtain⟨j,e,L'⟩:=GB hM L (by lia) (h:=h) (by simp);have e1:dn++h::ls=dn++[h]++ls:=by simp
  have:=oZ hM ls (dn++[h]) (ow.setIfInBounds j (some dn.length)) (by rw[<-e1];exact hl) (by rw[<-e1];simpa using L');obtain⟨ow',a,b⟩:=this;refine⟨ow',?_,by rw[e1];exact b⟩;rw[List.foldl_cons,e1,<-a]
  congr 1
  simp only[md,e,aS,Option.bind_some];simp
theorem FV{mask:Nat}(hM:Mk mask)(hs:List Int)(hl:hs.length<=mask+1):∃ow,layClean mask hs.toArray=some ow/\Lay mask hs ow hs.length:=by
 have L0:Lay mask ([]++hs) (Array.replicate (mask+1) none) ([]:List Int).length:=by
  have no:∀(x i:Nat),(Array.replicate (mask+1) (none:Option Nat))[x]?≠some (some i):=λx i e=>by
   rw[Array.getElem?_replicate]at e;split at e<;>cases e
  exact⟨by simp,λj i e=>absurd e (no j i),λj _ i e=>absurd e (no j i),λi g hi=>by simp at hi⟩
 obtain⟨ow,a,b⟩:=oZ hM hs [] _ (by simpa using hl) L0;refine⟨ow,?_,by simpa using b⟩;show (Array.foldl (md mask) (some (Array.replicate (mask+1) none,0)) hs.toArray).map (·.1)=some ow;rw[<-Array.foldl_toList];rw[show hs.toArray.toList=hs from rfl];rw[show (some (Array.replicate (mask+1) (none:Option Nat),0))=some (Array.replicate (mask+1) none,([]:List Int).length)from rfl,a]
 rfl
theorem mf(ow:Array (Option Nat)):∀l:List Nat,(l.filterMap λj=>(ow.getD j none).map (j,·)).map (·.1)=l.filter λj=>(ow.getD j none).isSome
 | []=>rfl
 |j::l=>by
  cases q:ow.getD j none with
  |none=>rw[List.filterMap_cons_none (by rw[q];rfl),List.filter_cons_of_neg (by rw[q];simp)];exact mf ow l
  |some i=>rw[List.filterMap_cons_some (by rw[q];rfl),List.filter_cons_of_pos (by rw[q];simp),aR,mf ow l]
theorem DD{ow:Array (Option Nat)}{mask:Nat}(hz:ow.size=mask+1){j i:Nat}:(j,i)∈((bE (mask+1)).filterMap λj=>(ow.getD j none).map (j,·))↔ow[j]? = some (some i):=by
 rw[List.mem_filterMap];constructor
 ·rintro⟨x,_,e⟩;rw[bF]at e;obtain⟨y,e1,e2⟩:=e;cases e2;rw[Array.getD_eq_getD_getElem?]at e1;cases q:ow[j]? with
  |none=>rw[q]at e1;cases e1
  |some z=>rw[q]at e1;rw[show z=some i from e1]
 ·intro e;have:=(Array.getElem?_eq_some_iff.mp e).1;exact⟨j,List.mem_range.mpr (by lia),by rw[Array.getD_eq_getD_getElem?,e];rfl⟩
theorem relaid{mask:Nat}(hM:Mk mask)(hs:List Int)(hl:hs.length<=mask+1)(fi mo:Nat)(le pl:Bool) :
  ∃t' order,laid mask fi mo le pl hs.toArray=some (t',order)/\order.toList.Perm (bE hs.length)/\Good t' (order.toList.filterMap (hs[·]?))/\t'.mask=mask/\t'.led=le/\t'.plain=pl/\t'.moves=mo:=by
 obtain⟨ow,a,L⟩:=FV hM hs hl;generalize hv:((bE (mask+1)).filterMap λj=>(ow.getD j none).map (j,·))=live;have mem:∀{j i:Nat},(j,i)∈live↔ow[j]? = some (some i):=λ{j i}=>by rw[<-hv];exact DD L.sz
 have fst:live.map (·.1)=(bE (mask+1)).filter λj=>(ow.getD j none).isSome:=by rw[<-hv];exact mf ow _
 have ri:(live.map (·.1)).Pairwise (· < ·):=by rw[fst];exact List.pairwise_lt_range.filter _
 have nd:(live.map (·.2)).Nodup:=by
  have:live.Pairwise λx y=>x.1<y.1:=List.pairwise_map.mp ri
  unfold List.Nodup;rw[List.pairwise_map];refine(List.Pairwise.and_mem.mp this).imp λ{x y} ⟨hx,hy,hlt⟩ e=>?_
  have e1:=mem.mp (show (x.1,x.2)∈live from hx);have e2:=mem.mp (show (y.1,y.2)∈live from hy);rw[<-e]at e2;have:=L.one _ _ _ e1 e2;lia
 have pm:(live.map (·.2)).Perm (bE hs.length):=by
  refine(List.perm_ext_iff_of_nodup nd List.nodup_range).mpr λi=>?_
  rw[aI,List.mem_range];constructor
  ·rintro⟨⟨j,x⟩,h1,rfl⟩;exact L.lo _ _ (mem.mp h1)
  ·intro hi;obtain⟨j,e,_⟩:=L.all i (hs[i]) hi (List.getElem?_eq_getElem hi);exact⟨(j,i),mem.mpr e,rfl⟩
 refine⟨{mask,place:=(live.map (·.1)).toArray,dummies:=#[],finger:=fi,led:=le,moves:=mo,plain:=pl},(live.map (·.2)).toArray,?_,?_⟩
 ·unfold laid;rw[a];simp only[aS,Option.bind_some];rw[hv];rfl
 ·refine⟨pm,?_,rfl,rfl,rfl,rfl⟩;have okk:∀x∈live.map (·.2),(hs[x]?).isSome=true:=λx hx=>by
   have:=List.mem_range.mp (pm.mem_iff.mp hx);rw[List.getElem?_eq_getElem this];rfl
  have ln:((live.map (·.2)).filterMap (hs[·]?)).length=live.length:=by
   have:((live.map (·.2)).filterMap (hs[·]?)).Perm hs:=by
    refine(pm.filterMap _).trans ?_;rw[List.filterMap_getElem?_range_length]
   have p2:=pm.length_eq;rw[this.length_eq];simp at p2;lia
  refine⟨hM,rfl,?_,ri,λj hj=>?_,?_⟩
  ·show (live.map (·.1)).toArray.size=((live.map (·.2)).filterMap (hs[·]?)).length;rw[ln];simp
  ·rw[show (live.map (·.1)).toArray.toList=live.map (·.1)from rfl,fst,aX,List.mem_range]at hj;exact Nat.le_of_lt_succ hj.1
  ·rintro⟨j,g⟩ hx;obtain⟨i,hi⟩:=List.mem_iff_getElem?.mp hx;have hz:=List.getElem?_zip_eq_some.mp hi;have h1:=hz.1;have h2:=hz.2;rw[show (live.map (·.1)).toArray.toList=live.map (·.1)from rfl,List.getElem?_map]at h1;rw[show (live.map (·.2)).toArray.toList=live.map (·.2)from rfl,pA okk,List.getElem?_map]at h2;cases q:live[i]? with
   |none=>rw[q]at h1;cases h1
   |some y=>
    rw[q]at h1 h2;cases h1;obtain⟨j',e,r⟩:=L.all y.2 g (by have:=okk y.2 (aI.mpr ⟨y,List.mem_of_getElem? q,rfl⟩);rw[Option.isSome_iff_exists]at this;obtain⟨_,this⟩:=this;exact(List.getElem?_eq_some_iff.mp this).1) h2;have e2:=mem.mp (show (y.1,y.2)∈live from List.mem_of_getElem? q);have:=L.one _ _ _ e e2;subst this;exact r.mono λj ⟨i,e⟩=>by
     rw[show (live.map (·.1)).toArray.toList=live.map (·.1)from rfl];exact aI.mpr ⟨(j,i),mem.mpr e,rfl⟩
end ST
namespace ST
open PySem PySem.Spec PySem.SetTable
section
variable{K:Type} [DecidableEq K]
noncomputable def ent(hash:K->Int)(x:K×ae):Int×Value:=(hash x.1,x.2)
noncomputable def iX(es:List (Int×ae))(ep:Nat)(t:br):Obj:={cls:=.type "set",dict:=none,data:=.set es.toArray ep t,slots:=#[]}
structure Tb(w:au)(hash:K->Int)(xs:List (K×ae))(t:br):Prop where
 good:Good t (xs.map λx=>hash x.1)
 few:xs.length * 5<t.mask * 3
 led:t.led = !w.params.followText "set-order"
 plain:t.plain=true
 nd:(xs.map (·.1)).Nodup
noncomputable def gN(w:au)(hash:K->Int)(xs:List (K×ae))(o:Obj):Prop:=∃ep t,o=iX (xs.map (ent hash)) ep t/\Tb w hash xs t
variable{w:au}{hash:K->Int}{xs:List (K×ae)}{t:br}
theorem Tb.fits(T:Tb w hash xs t):t.fits (xs.map (ent hash)).toArray.size=true:=by
 have:=T.good.fits (by rw[aJ];have:=T.few;rcases T.good.ma with h|h|h<;>rw[h]at this ⊢ <;> lia)
 simpa using this
theorem Tb.nil(fi mo:Nat):Tb w hash [] (.fresh fi mo (!w.params.followText "set-order")):=by
 refine⟨⟨.inl rfl,rfl,rfl,.nil,(λj h=>absurd h (by simp[br.fresh])),(λjh h=>absurd h (by simp[br.fresh]))⟩,by show 0 * 5<7 * 3;lia,rfl,rfl,.nil⟩
theorem xG(hash:K->Int)(es:List (K×ae))(p:Nat)(x:K×ae):insertAt (es.map (ent hash)).toArray p (hash x.1,x.2)=((es.take p++x::es.drop p).map (ent hash)).toArray:=by
 apply Array.toList_inj.mp;rw[br.toList_insertAt];simp[ent]
theorem Tb.put(T:Tb w hash xs t){k:K}{v:ae}{j:Nat}(hj:j∉t.place.toList)(hR:Reach t.mask (·∈t.place.toList) (hash k) j)(hk:k∉xs.map (·.1)) :
  ∃p,t.put j=({t with place:=insertAt t.place p j},p)/\Good {t with place:=insertAt t.place p j} ((xs.take p++(k,v)::xs.drop p).map λx=>hash x.1) /\
   (xs.take p++(k,v)::xs.drop p).Perm (xs++[(k,v)])/\((xs.take p++(k,v)::xs.drop p).map (·.1)).Nodup:=by
 obtain⟨a,b,c⟩:=T.good.put hj hR;have pm:(xs.take (below t.place j)++(k,v)::xs.drop (below t.place j)).Perm (xs++[(k,v)]):=by
  refine List.perm_middle.trans ?_;rw[bL];exact(List.perm_append_singleton _ _).symm
 refine⟨below t.place j,a,?_,pm,?_⟩
 ·simpa[List.map_append,List.map_take,List.map_drop]using c
 ·refine((pm.map (·.1)).nodup_iff).mpr ?_;rw[List.map_append,List.nodup_append];exact⟨T.nd,by simp,λa ha b hb=>by simp at hb;subst hb;exact λe=>hk (e▸ha)⟩
theorem EG{n:Nat}(hn:n+1<64)(hm:Mk t.mask)(hd:t.dummies = #[])(hl:t.place.size=n+1)(hf:n * 5<t.mask * 3) :
  (t.tooFull=false/\(n+1) * 5<t.mask * 3)\/(t.tooFull=true/\∃m,Mk m/\sizeAbove (grown (n+1))-1=m/\sizeAbove (grown (n+1))<=128/\n+1<=m+1/\(n+1) * 5<m * 3):=by
 have e:t.tooFull=decide ((n+1) * 5 >= t.mask * 3):=by unfold tooFull fill;rw[hd,hl];rfl
 rw[e];by_cases q:(n+1) * 5 >= t.mask * 3
 ·refine .inr ⟨by simpa using q,?_⟩;rcases hm with h|h|h<;>rw[h]at q hf
  ·obtain rfl:n=4:=by lia
   exact⟨31,.inr (.inl rfl),by decide,by decide,by lia,by lia⟩
  ·obtain rfl:n=18:=by lia
   exact⟨127,.inr (.inr rfl),by decide,by decide,by lia,by lia⟩
  ·lia
 ·exact .inl ⟨by simpa using q,by lia⟩
theorem Fg{t:br}{ys:List (K×ae)}{n m:Nat}(hM:Mk m)(hs:sizeAbove (grown (n+1))-1=m)(hl:n+1<=m+1)(hq:(n+1) * 5<m * 3)(hn:ys.length=n+1)(led:t.led = !w.params.followText "set-order")(plain:t.plain=true)(nd:(ys.map (·.1)).Nodup) :
  ∃t' order zs,t.relaid ((ys.map (ent hash)).toArray.map (·.1)) (grown (n+1))=some (t',order)/\order.filterMap ((ys.map (ent hash)).toArray[·]?)=(zs.map (ent hash)).toArray/\order.toList.Perm (bE (n+1))/\zs.Perm ys/\Tb w hash zs t':=by
 have e0:(ys.map (ent hash)).toArray.map (·.1)=(ys.map λx=>hash x.1).toArray:=by
  apply Array.toList_inj.mp;simp[ent,Function.comp_def]
 obtain⟨t',order,h1,h2,h3,h4,h5,h6,h7⟩:=relaid hM (ys.map λx=>hash x.1) (by rw[aJ,hn];exact hl) t.finger (t.movedTo m) t.led t.plain;rw[aJ,hn]at h2;have pz:(order.toList.filterMap (ys[·]?)).Perm ys:=by
  refine(h2.filterMap _).trans ?_;rw[<-hn,List.filterMap_getElem?_range_length]
 refine⟨t',order,order.toList.filterMap (ys[·]?),?_,?_,h2,pz,⟨?_,?_,h5.trans led,h6.trans plain,?_⟩⟩
 ·unfold br.relaid;rw[hs,e0];exact h1
 ·apply Array.toList_inj.mp;rw[Array.toList_filterMap,List.map_filterMap];refine congrArg (λf=>List.filterMap f order.toList) (funext λi=>?_);simp
 ·rw[List.map_filterMap];refine(congrArg (Good t') (congrArg (λf=>List.filterMap f order.toList) (funext λi=>?_))).mp h3;simp
 ·rw[pz.length_eq,hn,h4];exact hq
 ·exact((pz.map (·.1)).nodup_iff).mpr nd
end
section
variable{prog:aA}{w:au}{A:aB}{E:ae->af->Prop}{s:af}{K:Type} [DecidableEq K]{hash:K->Int}
theorem store{a:Addr}{es:List (Int×ae)}{ep:Nat}{t t':br}{es':Array (Int×ae)}{Q:Unit->af->Prop}(ho:s.heap.get? a=some (iX es ep t))(hz:es'.size<=aP)
  (h:∀h',Heap.SameBut a s.heap h'->h'.get? a=some (iX es'.toList (ep+1) t')->Q () {s with heap:=h'}):aq (ao prog w) A (storeSet a es' t') Q E s:=by
 refine wpAny_storeSet_of ho rfl (h _ (Heap.SameBut.update _ _ _) ?_) hz;have:=Heap.get?_update_self (Obj.putSet es' t') ho (by rw[putSet_of es' t' rfl];rfl);rw[putSet_of es' t' rfl]at this;rw[this];simp[iX]
end
section
variable{prog:aA}{w:au}{A:aB}{E:ae->af->Prop}{s:af}
theorem yX{t:br}{hs:List Int}(G:Good t hs)(hf:hs.length<=t.mask)(h:Int):∃m,m<10 * turns t.mask/\(pr t.mask h m).j∉t.place.toList/\∀k,k<m->(pr t.mask h k).j∈t.place.toList:=by
 obtain⟨m0,_,b0,c0⟩:=G.free hf h 0;obtain⟨m,_,b,c⟩:=G.go (λ_=>h+1) h (10 * turns t.mask) 0 ⟨m0,bx _,b0,c0⟩;have occ:∀k,k<m->(pr t.mask h k).j∈t.place.toList:=λk hk=>by
  obtain⟨i,hi,_⟩:=b k (bx _) hk;rw[<-Array.getElem?_toList]at hi;exact List.mem_of_getElem? hi
 rcases c with ⟨c,_⟩|⟨i,_,c,_⟩
 ·refine⟨m,?_,c,occ⟩;have:m<=m0:=Nat.le_of_not_lt λq=>c0 (occ m0 q)
  lia
 ·lia
end
section
variable{prog:aA}{w:au}{A:aB}{E:ae->af->Prop}{s:af}
end
section
variable{prog:aA}{w:au}{A:aB}{E:ae->af->Prop}{s:af}
theorem xl{K:Type} [DecidableEq K]{hash:K->Int}{xs:List (K×ae)}{t:br}(T:Tb w hash xs t):(xs.map λx=>hash x.1).length<=t.mask:=by
 rw[aJ];have:=T.few;rcases T.good.ma with h|h|h<;>rw[h]at this ⊢ <;> lia
noncomputable def More{K:Type} [DecidableEq K](xs:List (K×ae))(k:K)(v:ae):List (K×ae):=if k∈xs.map (·.1)then xs else xs++[(k,v)]
noncomputable def m_(h:Heap)(k:Int)(v:ae):Prop:=∃t,v=.int k t
theorem elems{xs:List (Int×ae)}{h:Heap}(hel:∀x∈xs,m_ h x.1 x.2):ElemsOf (intKind prog w) (xs.map (ent hashInt)):=by
 intro e he;obtain⟨x,hx,rfl⟩:=aI.mp he;obtain⟨t,e⟩:=hel x hx;have e2:(ent hashInt x).2=.int x.1 t:=e;rw[e2];exact⟨⟨x.1,intKind_is _ _ _ _,rfl⟩,rfl⟩
theorem Hz{a:Addr}{xs:List (Int×ae)}{k:Int}{tk:Tok}{o:Obj}(ho:s.heap.get? a=some o)(hS:gN w hashInt xs o)
  (hel:∀x∈xs,m_ s.heap x.1 x.2) (hn:xs.length+1<64) {Q:Bool->af->Prop}
  (h:∀b h' ys,Heap.SameBut a s.heap h'->(∃o,h'.get? a=some o/\gN w hashInt ys o)->ys.Perm (More xs k (.int k tk))->Q b {s with heap:=h'}) :
  aq (ao prog w) A (setAddHashed a (.int k tk) (hashInt k)) Q E s:=by
 obtain⟨ep,t,rfl,T⟩:=hS;have EL:ElemsOf (intKind prog w) (xs.map (ent hashInt)).toArray.toList:=elems hel;obtain⟨ms,m1,m2,m3⟩:=yX T.good (xl T) (hashInt k);have e:s={s with heap:=s.heap}:=by cases s;rfl
 have hb:(xs.map (ent hashInt)).toArray.size<scanBound:=by simp[scanBound];lia
 unfold setAddHashed;refine cc ?_;unfold setAddHashedIn;refine ah (wpAny_setState_of ho rfl T.fits ?_);dsimp only;rw[byScan_of (knd:=intKind prog w) rfl hb EL];simp only[↓reduceIte];unfold setAddByScan;refine ah ?_;refine ah (wpAny_rule ?_);refine ah (wpAny_setScan_of (knd:=intKind prog w) (k:=k) (intKind_is _ _ _ _) ho rfl T.fits EL ?_);have is_:∀(x:Int×ae),x∈xs->((intKind prog w).is k (ent hashInt x).2=true↔x.1=k):=λx hx=>by
  obtain⟨t,e⟩:=hel x hx;have e2:(ent hashInt x).2=.int x.1 t:=e;rw[e2];constructor
  ·intro q;exact((intKind prog w).inj _ _ _ q (intKind_is _ _ _ _)).symm
  ·intro q;rw[q];exact intKind_is _ _ _ _
 cases hr:List.findIdx? (λe=>(intKind prog w).is k e.2) (xs.map (ent hashInt)).toArray.toList with
 |some j=>
  dsimp only;obtain⟨hj,hpj,_⟩:=List.findIdx?_eq_some_iff_getElem.mp hr;have hm:k∈xs.map (·.1):=by
   have hj':j<xs.length:=by simpa using hj
   have q:(intKind prog w).is k (ent hashInt xs[j]).2=true:=by simpa using hpj
   exact aI.mpr ⟨xs[j],cz _,(is_ _ (cz _)).mp q⟩
  refine aE (aE ?_);have:=h false s.heap xs (Heap.SameBut.refl a s.heap) ⟨_,ho,ep,t,rfl,T⟩ (by rw[More,if_pos hm]);rw[e];exact this
 |none=>
  dsimp only;have hm:k∉xs.map (·.1):=λhm=>by
   obtain⟨x,hx,e⟩:=aI.mp hm;have:=List.findIdx?_eq_none_iff.mp hr (ent hashInt x) (aI.mpr ⟨x,hx,rfl⟩);rw[(is_ x hx).mpr e]at this;cases this
  obtain⟨p,e1,g,pm,nd⟩:=T.put (k:=k) (v:=.int k tk) m2 ⟨ms,rfl,m3⟩ hm;have e2:insertAt (xs.map (ent hashInt)).toArray p (hashInt k,.int k tk)=((xs.take p++(k,.int k tk)::xs.drop p).map (ent hashInt)).toArray:=xG hashInt xs p (k,.int k tk);have fr:t.freeSlot (hashInt k)=some ((pr t.mask (hashInt k) ms).j,false):=by
   obtain⟨m,a1,a2,a3⟩:=T.good.go (λ_=>hashInt k+1) (hashInt k) (10 * turns t.mask) 0 ⟨ms,bx _,by lia,m2⟩;have occ:∀l,l<m->(pr t.mask (hashInt k) l).j∈t.place.toList:=λl hl=>by
    obtain⟨i,hi,_⟩:=a2 l (bx _) hl;rw[<-Array.getElem?_toList]at hi;exact List.mem_of_getElem? hi
   rcases a3 with ⟨b1,b2⟩|⟨i,_,b,_⟩
   ·have:m=ms:=Nat.le_antisymm (Nat.le_of_not_lt λq=>m2 (occ ms q)) (Nat.le_of_not_lt λq=>b1 (m3 m q));subst this;unfold freeSlot probe;rw[xg,b2];rfl
   ·lia
  generalize hy:xs.take p++(k,.int k tk)::xs.drop p=ys at *;have hl:ys.length=xs.length+1:=by rw[pm.length_eq];simp
  have zl:ys.length<=sizeLine:=by rw[hl,bu];lia
  have ft:({t with place:=insertAt t.place p (pr t.mask (hashInt k) ms).j}:br).fits (ys.map (ent hashInt)).toArray.size=true:=by
   have:=g.fits (by rw[aJ,hl];have:=T.few;show _<=t.mask;rcases T.good.ma with h|h|h<;>rw[h]at this ⊢ <;> lia)
   simpa using this
  have ly:layNew t (xs.map (ent hashInt)).toArray (hashInt k) (.int k tk)=((ys.map (ent hashInt)).toArray,{t with place:=insertAt t.place p (pr t.mask (hashInt k) ms).j},false,false):=by
   unfold layNew;rw[fr];dsimp only;rw[e1];dsimp only;rw[e2];unfold orStandIn;rw[ft];rfl
  have hr':(intKind prog w).hash k=hashInt k:=rfl;rw[ly];dsimp only;refine ah (aE ?_);rw[show ({t with place:=insertAt t.place p (pr t.mask (hashInt k) ms).j}:br).plain=true from T.plain];simp only[if_true];rw[hashByValue_scannable 8 rfl];refine ah (aE ?_);simp only[plainKind,if_true];have len:=g.len;rw[aJ,hl]at len;have gt:∀{tt:br},tt={t with place:=insertAt t.place p (pr t.mask (hashInt k) ms).j}->aq (ao prog w) A (do
    storeSet a (ys.map (ent hashInt)).toArray tt
    if (!false&&tt.tooFull)=true then do
      (match (relayAll tt (ys.map (ent hashInt)).toArray (br.grown (ys.map (ent hashInt)).toArray.size)).2.2 with|true=>rule "set.scan.the-table-gave-way" |false=>pure ())
      storeSet a (relayAll tt (ys.map (ent hashInt)).toArray (br.grown (ys.map (ent hashInt)).toArray.size)).1 (relayAll tt (ys.map (ent hashInt)).toArray (br.grown (ys.map (ent hashInt)).toArray.size)).2.1
      pure (some true)
     else pure (some true)) (λx s'=>aq (ao prog w) A (match x with|some added=>pure added|none=>setAddHashedIn a (.int k tk) (hashInt k) 99999) Q E s') E s:=by
   rintro _ rfl;refine ah (store ho (by simpa using zl) λh1 sb1 o1=>?_);rcases EG (t:={t with place:=insertAt t.place p (pr t.mask (hashInt k) ms).j}) hn T.good.ma T.good.dum len T.few with ⟨f,few⟩|⟨f,m,hM,hs,hsl,hl',hq⟩
   ·rw[f];simp only[Bool.not_false,Bool.and_false,bD,if_false];exact aE (aE (h true h1 ys sb1 ⟨_,o1,ep+1,_,rfl,⟨g,by rw[hl];exact few,T.led,T.plain,nd⟩⟩ (by rw[More,if_neg hm];exact pm)))
   ·rw[f];simp only[Bool.not_false,Bool.and_self,if_true];obtain⟨t',order,zs,r1,r2,r3,r4,r5⟩:=Fg (w:=w) (hash:=hashInt) (t:={t with place:=insertAt t.place p (pr t.mask (hashInt k) ms).j}) hM hs hl' hq hl T.led T.plain nd;have zs_l:zs.length=ys.length:=r4.length_eq;have ra:relayAll {t with place:=insertAt t.place p (pr t.mask (hashInt k) ms).j} (ys.map (ent hashInt)).toArray (br.grown (ys.map (ent hashInt)).toArray.size)=((zs.map (ent hashInt)).toArray,t',false):=by
     unfold relayAll;rw[show (ys.map (ent hashInt)).toArray.size=xs.length+1 by simp[hl],r1];dsimp only;rw[r2];have ca:coversAll order (xs.length+1)=true:=List.isPerm_iff.mpr r3;rw[ca,r5.fits];rfl
    rw[ra];dsimp only;refine ah (aE ?_);refine ah (store (es:=ys.map (ent hashInt)) (ep:=ep+1) o1 (by simp[zs_l];exact zl) λh2 sb2 o2=>?_);exact aE (aE (h true h2 zs (sb1.trans sb2) ⟨_,o2,ep+1+1,t',rfl,r5⟩ (by rw[More,if_neg hm];exact r4.trans pm)))
  refine gt ?_;rw[<-T.plain]
end
structure Kd(prog:aA)(w:au)(K:Type) [DecidableEq K] where
 hash:K->Int
 el:Heap->K->ae->Prop
 grow:∀{h h':Heap}{k:K}{v:ae},el h k v->(∀b o,h.get? b=some o->h'.get? b=some o)->el h' k v
 room:aB->Prop
 pyHash:∀{A:aB}{E:ae->af->Prop}{s:af}{k:K}{v:ae}{Q:Int->af->Prop},room A->el s.heap k v->(∀tk,s.toks<=tk->Q (hash k) {s with toks:=tk})->aq (ao prog w) A (pyHash v) Q E s
 add:∀{A:aB}{E:ae->af->Prop}{s:af}{a:Addr}{xs:List (K×ae)}{k:K}{v:ae}{o:Obj}{Q:Bool->af->Prop},room A->s.heap.get? a=some o->gN w hash xs o ->
  (∀x∈xs,el s.heap x.1 x.2)->el s.heap k v->xs.length+1<64 ->
  (∀b h' ys,Heap.SameBut a s.heap h'->(∃o,h'.get? a=some o/\gN w hash ys o)->ys.Perm (More xs k v)->Q b {s with heap:=h'})->aq (ao prog w) A (setAddHashed a v (hash k)) Q E s
noncomputable def inK(prog:aA)(w:au):Kd prog w Int where
 hash:=hashInt
 el:=m_
 grow:=λh _=>h
 room:=λ_=>True
 pyHash:=λ_ ⟨t,e⟩ h=>by subst e;exact wpAny_pyHash_int (h _ (Nat.le_succ _))
 add:=λ_ ho hS hel ⟨t,e⟩ hn h=>by subst e;exact Hz ho hS hel hn h
section
variable{prog:aA}{w:au}{K:Type} [DecidableEq K](D:Kd prog w K)
noncomputable def Holds(h0 h:Heap)(a:Addr)(keys:Nat->K)(i:Nat):Prop:=∃o xs,h.get? a=some o/\gN w D.hash xs o/\(∀x∈xs,D.el h0 x.1 x.2)/\(∀k,k∈xs.map (·.1)↔∃j,j<i/\keys j=k)/\xs.length<=i
variable{D}
variable{A:aB}{R:Result->af->Prop}{I:Addr}{fp wr:List Addr}{G:Array GenState->Array GenState->Prop}{n:Nat}{P:Nat->ae->Prop}{St:Nat->af->Prop}
theorem loop(W:WalksS prog w A.in1 I fp wr G n P St)(hu:D.room A.in1)(S:Addr)(hSf:S∉fp){h0:Heap}(hS0:h0.get? S=none)(hwr:∀b∈wr,h0.get? b=none)
  (keys:Nat->K) (hval:∀i v,P i v->D.el h0 (keys i) v) (hb:n<64) :
  ∀(k i:Nat) (s:af),n-i=k->i<=n->St i s->(∀b o,h0.get? b=some o->s.heap.get? b=some o)->Holds D h0 s.heap S keys i ->
   (∀s',Moved (S::wr) G s s'->Holds D h0 s'.heap S keys n->R (.ok (.ret .none)) s') ->
   codeAny (ao prog w) A (.builtin "set.update.loop" ⟨[.ref S,.ref I],[]⟩) R s:=by
 have hSw:S∉wr:=λh=>hSf (W.sub _ h)
 have hsub:∀b∈wr,b∈S::wr:=λb hb=>aO _ hb
 intro k
 induction k with
 |zero=>
  intro i s hk hi hst hk0 hS hR;have hin:i=n:=by lia
  subst hin;refine dH PyProof.Rows.F.entry_set_update_loop ?_;rw[aB.under_plainId PyProof.Rows.F.plain_set_update_loop _];show aq _ A.in1 (pyNext (.ref I)>>=_) _ _ s;refine ah (W.done s _ _ hst λs' hm=>?_);show aq _ A.in1 (ret ck) _ _ s';obtain⟨o,xs,ho,r⟩:=hS;exact aE (hR s' (hm.mono hsub) ⟨o,xs,hm.heap S _ hSw ho,r⟩)
 |succ k ih=>
  intro i s hk hi hst hk0 hS hR;have hlt:i<n:=by lia
  refine dH PyProof.Rows.F.entry_set_update_loop ?_;rw[aB.under_plainId PyProof.Rows.F.plain_set_update_loop _];show aq _ A.in1 (pyNext (.ref I)>>=_) _ _ s;refine ah (W.item i s _ _ hlt hst λv s' hP hst' hm=>?_);have hel:=hval i v hP;obtain⟨o,xs,ho,r1,r2,r3,r4⟩:=hS;have hk1:∀b o,h0.get? b=some o->s'.heap.get? b=some o:=λb o e=>hm.heap b o (λq=>by rw[hwr b q]at e;cases e) (hk0 b o e)
  have ho':=hm.heap S _ hSw ho;show aq _ A.in1 (holding [v] (setAdd S v)>>=_) _ _ s';refine ah (cc ?_);unfold setAdd;refine cc ?_;refine ah (D.pyHash hu (D.grow hel hk1) λtk htk=>?_);refine D.add (s:={s' with toks:=tk}) hu ho' r1 (λx hx=>D.grow (r2 x hx) hk1) (D.grow hel hk1) (by lia) λb h' ys sb hS2 pm=>?_
  have hk2:∀b o,h0.get? b=some o->h'.get? b=some o:=λb o e=>by
   rw[sb.2 b (λh:b=S=>by rw[h,hS0]at e;cases e)];exact hk1 b o e
  have hS3:Holds D h0 h' S keys (i+1):=by
   obtain⟨o2,ho2,si⟩:=hS2;refine⟨o2,ys,ho2,si,λx hx=>?_,λk'=>?_,?_⟩
   ·have:=pm.mem_iff.mp hx;unfold More at this;split at this
    ·exact r2 x this
    ·rcases List.mem_append.mp this with q|q
     ·exact r2 x q
     ·rw[List.mem_singleton.mp q];exact hel
   ·rw[(pm.map (·.1)).mem_iff];have:(∃j,j<i+1/\keys j=k')↔(∃j,j<i/\keys j=k')\/keys i=k':=by
     constructor
     ·rintro⟨j,a,b⟩;rcases Nat.lt_succ_iff_lt_or_eq.mp a with q|q
      ·exact .inl ⟨j,q,b⟩
      ·subst q;exact .inr b
     ·rintro(⟨j,a,b⟩|b)
      ·exact⟨j,by lia,b⟩
      ·exact⟨i,by lia,b⟩
    rw[this,<-r3 k'];unfold More;split
    ·rename_i q
     exact⟨.inl,λh=>h.elim id λe=>e▸q⟩
    ·rw[List.map_append,List.mem_append];simp only[aR,List.map_nil,List.mem_singleton];exact⟨λh=>h.imp id Eq.symm,λh=>h.imp id Eq.symm⟩
   ·rw[pm.length_eq];unfold More;split
    ·lia
    ·simp;lia
  refine aE ⟨plainId_quiet PyProof.Rows.F.plain_set_update_loop _,ih (i+1) _ (by lia) hlt (W.frame _ s' _ _ hst' htk λb hb o e=>?_) hk2 hS3 λs'' hm'' hS''=>?_⟩
  ·rw[sb.2 b (λh:b=S=>hSf (by rw[<-h];exact hb))];exact e
  ·refine hR s'' (Moved.trans W.gtrans ((hm.mono hsub).then_heap htk λb o hb e=>?_) hm'') hS'';rw[sb.2 b (λh:b=S=>hb (by rw[h];exact aK))];exact e
end
abbrev cL(w:au):Obj:={cls:=.type "set",dict:=none,data:=.set #[] 0 (.fresh 0 0 (!w.params.followText "set-order"))}
section
variable{prog:aA}{w:au}{A:aB}{E:ae->af->Prop}{s:af}{K:Type} [DecidableEq K]{D:Kd prog w K}
theorem uM(a:ae){Q₁:ae->af->Prop}(h:Q₁ (.ref s.heap.objs.size) {s with heap:=s.heap.push (cL w)}) :
  codeAny (ao prog w) A (.call (.builtin "set.__new__") ⟨[.type "set",a],[]⟩) (wants Q₁ E) s:=by
 refine codeAny_of_tree ?_;show aq _ A.in1 (do checkBuiltinCall "set.__new__" ⟨[.type "set",a],[]⟩;again (.builtin "set.__new__" ⟨[.type "set",a],[]⟩)) _ _ s;refine ah (wpAny_of_eq (F.newCall_set_1 a) (aE ⟨plainId_quiet F.plain_set_new _,dH F.entry_set_new ?_⟩));rw[aB.under_plainId F.plain_set_new _];unfold Builtin.«set.__new__» Builtin.Frozenset.newClass;have hsub:=sub_set_self;obtain⟨hp,g,d,tk,os⟩:=s;dsimp only
 wp_walk
 refine wpAny_askSetting (aE ?_);dsimp only;simp only[newObj];refine ah (wpAny_alloc (aE ?_));exact aE h
theorem DZ:gN w D.hash [] (cL w):=⟨0,_,rfl,Tb.nil 0 0⟩
theorem tK(hu:D.room A.in1.in1.in1){I:Addr}{fp wr:List Addr}{items:Array ae}{St:Nat->Heap->Prop}(W:Walks prog w A.in1.in1.in1 I fp wr items.size (λi v=>items[i]? = some v) St){h1:Heap}
  (keys:Nat->K) (hval:∀(i:Nat) v,items[i]? = some v->D.el s.heap (keys i) v) (hb:items.size<64) (hst:St 0 h1) (hS:h1.get? s.heap.objs.size=some (cL w)) (hold:∀b o,s.heap.get? b=some o->h1.get? b=some o)
  (hSf:s.heap.objs.size∉fp) (hwr:∀b∈wr,s.heap.objs.size<=b) {R:Result->af->Prop}
  (h:∀(h':Heap) (tk:Nat),Holds D s.heap h' s.heap.objs.size keys items.size->(∀b o,b<s.heap.objs.size->s.heap.get? b=some o->h'.get? b=some o)->R (.ok (.ret .none)) {s with heap:=h',toks:=tk}) :
  codeAny (ao prog w) A.in1.in1 (.builtin "set.update.loop" ⟨[.ref s.heap.objs.size,.ref I],[]⟩) R {s with heap:=h1}:=by
 have out:∀b,s.heap.objs.size<=b->s.heap.get? b=none:=λb hb=>by
  cases q:s.heap.get? b with
  |none=>rfl
  |some o=>exact absurd (aM q) (Nat.not_lt.mpr hb)
 refine loop W.toS hu s.heap.objs.size hSf (h0:=s.heap) (out _ (aG _)) (λb hb=>out b (hwr b hb)) keys hval hb (items.size-0) 0 _ (by lia) (bx _) hst hold ?_ λs' hm hS'=>?_
 ·exact⟨_,[],hS,DZ,(λx hx=>absurd hx (cy)),(λk=>by simp),aG _⟩
 ·obtain⟨h',g',d',tk',os'⟩:=s';have eg:g'=s.gens:=hm.gens;have ed:d'=s.drawn:=hm.drawn;have eo:os'=s.os:=hm.os;subst eg;subst ed;subst eo;refine h h' tk' hS' λb o hb e=>hm.heap b o (λq=>?_) (hold b o e)
  rcases aF.mp q with q|q
  ·rw[q]at hb;exact bQ _ hb
  ·exact absurd hb (Nat.not_lt.mpr (hwr b q))
theorem sub_list_set:isSubtype (.type "list") (.type "set")=pure false:=by rw[isSubtype_type];kernel_rfl
theorem sub_list_frozenset:isSubtype (.type "list") (.type "frozenset")=pure false:=by rw[isSubtype_type];kernel_rfl
theorem call_set_list{l:Addr}{items:Array ae}{Q:ae->af->Prop}(hh:A.handled=none)(hu:D.room A.in1.in1.in1)(hl:s.heap.IsList l items)(keys:Nat->K)(hval:∀(i:Nat) v,items[i]? = some v->D.el s.heap (keys i) v)(hb:items.size<64)
  (h:∀(h':Heap) (tk:Nat),Holds D s.heap h' s.heap.objs.size keys items.size->(∀b o,b<s.heap.objs.size->s.heap.get? b=some o->h'.get? b=some o)->Q (.ref s.heap.objs.size) {s with heap:=h',toks:=tk}) :
  aq (ao prog w) A (call (.type "set") [.ref l]) Q E s:=by
 obtain⟨c,tl,hmro⟩:=F.called_set.mro;have hmade:=F.called_set.made;have hsub:=F.called_set.sub;refine wpAny_call (codeAny_of_tree ?_);show aq _ _ (callAny (.type "set") _) _ _ _;refine aE ⟨Code.quiet_builtin _ (by decide +kernel),dH F.entry_type_call ?_⟩;rw[aB.under_plain (weight_type_call_type "set" [.ref l] []) rfl];have h1:=F.called_set.notType;have h2:=F.called_set.canCreate;have hct:=F.typeCall_set_1 (.ref l)
 repeat (any_goals (first|assumption|wp_step))
 refine cW (uM (.ref l) (E:=E) (Q₁:=λobj s₁=>obj=.ref s.heap.objs.size/\s₁={s with heap:=s.heap.push (cL w)}) ⟨rfl,rfl⟩) λr s₁ hr=>?_
 cases r with
 |error e=>exact hr
 |ok fl=>
  cases fl with
  |ret obj=>
   obtain⟨rfl,rfl⟩:=hr;have hS:(s.heap.push (cL w)).get? s.heap.objs.size=some (cL w):=Heap.get?_push_size _ rfl;have hT:af.TypeIs {s with heap:=s.heap.push (cL w)} (.ref s.heap.objs.size) "set":=⟨_,hS,rfl⟩
   have hli:=F.called_set.init.lookup;have hbi:=F.called_set.init.bind (.ref s.heap.objs.size)
   repeat (any_goals (first|assumption|wp_step))
   refine cW (codeAny_call_builtin (R:=wants (λr s₂=>r=.none/\∃h' tk,s₂={s with heap:=h',toks:=tk}/\Holds D s.heap h' s.heap.objs.size keys items.size /\
     (∀b o,b<s.heap.objs.size->s.heap.get? b=some o->h'.get? b=some o)) E) F.called_set.init.plain F.entry_set_init (check_set_init_1 hT ?_)) λr₂ s₂ hr₂=>?_
   ·obtain⟨ol,hol,hcl,nl,hdl⟩:=hl;obtain⟨ocls,odict,odata,oslots⟩:=ol;simp only at hcl hdl;subst hcl;subst hdl;have hol':(s.heap.push (cL w)).get? l=some {cls:=.type "list",dict:=odict,data:=.seq items nl,slots:=oslots}:=Heap.get?_push_of_some _ hol;have hsls:=sub_list_set;have hslf:=sub_list_frozenset;have hne:(bV "list" == bV "dict")=false:=by decide
    have hl1:(s.heap.push (cL w)).IsList l items:=⟨_,hol',rfl,nl,rfl⟩
    unfold Builtin.«set.__init__» noKeywords Builtin.Frozenset.updateFrom;generalize hPI:pyIter=PI
    wp_walk
    subst hPI;refine wpAny_pyIter_list hl1 ?_;refine ah (wpAny_runValue ?_);have hlS:l<s.heap.objs.size:=aM hol;have hh3:A.in1.in1.in1.handled=none:=by simp[hh]
    have hneI:l≠(s.heap.push (cL w)).objs.size:=by
     rw[bK];exact a_ (cx hlS)
    have hSf:s.heap.objs.size∉[(s.heap.push (cL w)).objs.size,l]:=by
     rw[bK];simp only[aF,List.mem_singleton,cy,or_false,not_or];exact⟨a_ (Nat.lt_succ_self _),Nat.ne_of_gt hlS⟩
    refine tK hu (Walks.list hh3 _ l hneI items) keys hval hb ⟨⟨_,Heap.get?_push_size _ rfl,rfl,rfl⟩,(hl1.push _)⟩ (Heap.get?_push_of_some _ hS) (λb o e=>Heap.get?_push_of_some _ (Heap.get?_push_of_some _ e)) hSf (λb hb=>by rw[List.mem_singleton.mp hb,bK];exact Nat.le_succ _) λh' tk hH hk=>?_
    show aq _ _ _ _ _ _;refine aE ?_;show aq _ _ (ret ck) _ _ _;exact aE ⟨rfl,h',tk,rfl,hH,hk⟩
   ·cases r₂ with
    |error e=>exact hr₂
    |ok fl₂=>
     cases fl₂ with
     |ret r=>
      obtain⟨rfl,h',tk,rfl,hS',hk'⟩:=hr₂
      repeat (any_goals (first|assumption|wp_step))
      exact h _ _ hS' hk'
     |_=>exact hr₂.elim
  |_=>exact hr.elim
theorem sub_tuple_set:isSubtype (.type "tuple") (.type "set")=pure false:=by rw[isSubtype_type];kernel_rfl
theorem sub_tuple_frozenset:isSubtype (.type "tuple") (.type "frozenset")=pure false:=by rw[isSubtype_type];kernel_rfl
theorem xn{l:Addr}{items:Array ae}{Q:ae->af->Prop}(hh:A.handled=none)(hu:D.room A.in1.in1.in1)(hl:s.heap.IsTuple l items)(keys:Nat->K)(hval:∀(i:Nat) v,items[i]? = some v->D.el s.heap (keys i) v)(hb:items.size<64)
  (h:∀(h':Heap) (tk:Nat),Holds D s.heap h' s.heap.objs.size keys items.size->(∀b o,b<s.heap.objs.size->s.heap.get? b=some o->h'.get? b=some o)->Q (.ref s.heap.objs.size) {s with heap:=h',toks:=tk}) :
  aq (ao prog w) A (call (.type "set") [.ref l]) Q E s:=by
 obtain⟨c,tl,hmro⟩:=F.called_set.mro;have hmade:=F.called_set.made;have hsub:=F.called_set.sub;refine wpAny_call (codeAny_of_tree ?_);show aq _ _ (callAny (.type "set") _) _ _ _;refine aE ⟨Code.quiet_builtin _ (by decide +kernel),dH F.entry_type_call ?_⟩;rw[aB.under_plain (weight_type_call_type "set" [.ref l] []) rfl];have h1:=F.called_set.notType;have h2:=F.called_set.canCreate;have hct:=F.typeCall_set_1 (.ref l)
 repeat (any_goals (first|assumption|wp_step))
 refine cW (uM (.ref l) (E:=E) (Q₁:=λobj s₁=>obj=.ref s.heap.objs.size/\s₁={s with heap:=s.heap.push (cL w)}) ⟨rfl,rfl⟩) λr s₁ hr=>?_
 cases r with
 |error e=>exact hr
 |ok fl=>
  cases fl with
  |ret obj=>
   obtain⟨rfl,rfl⟩:=hr;have hS:(s.heap.push (cL w)).get? s.heap.objs.size=some (cL w):=Heap.get?_push_size _ rfl;have hT:af.TypeIs {s with heap:=s.heap.push (cL w)} (.ref s.heap.objs.size) "set":=⟨_,hS,rfl⟩
   have hli:=F.called_set.init.lookup;have hbi:=F.called_set.init.bind (.ref s.heap.objs.size)
   repeat (any_goals (first|assumption|wp_step))
   refine cW (codeAny_call_builtin (R:=wants (λr s₂=>r=.none/\∃h' tk,s₂={s with heap:=h',toks:=tk}/\Holds D s.heap h' s.heap.objs.size keys items.size /\
     (∀b o,b<s.heap.objs.size->s.heap.get? b=some o->h'.get? b=some o)) E) F.called_set.init.plain F.entry_set_init (check_set_init_1 hT ?_)) λr₂ s₂ hr₂=>?_
   ·obtain⟨ol,hol,hcl,nl,hdl⟩:=hl;obtain⟨ocls,odict,odata,oslots⟩:=ol;simp only at hcl hdl;subst hcl;subst hdl;have hol':(s.heap.push (cL w)).get? l=some {cls:=.type "tuple",dict:=odict,data:=.seq items nl,slots:=oslots}:=Heap.get?_push_of_some _ hol;have hsls:=sub_tuple_set;have hslf:=sub_tuple_frozenset;have hne:(bV "tuple" == bV "dict")=false:=by decide
    have hl1:(s.heap.push (cL w)).IsTuple l items:=⟨_,hol',rfl,nl,rfl⟩
    unfold Builtin.«set.__init__» noKeywords Builtin.Frozenset.updateFrom;generalize hPI:pyIter=PI
    wp_walk
    subst hPI;refine wpAny_pyIter_tuple hl1 ?_;refine ah (wpAny_runValue ?_);have hlS:l<s.heap.objs.size:=aM hol;have hh3:A.in1.in1.in1.handled=none:=by simp[hh]
    have hneI:l≠(s.heap.push (cL w)).objs.size:=by
     rw[bK];exact a_ (cx hlS)
    have hSf:s.heap.objs.size∉[(s.heap.push (cL w)).objs.size,l]:=by
     rw[bK];simp only[aF,List.mem_singleton,cy,or_false,not_or];exact⟨a_ (Nat.lt_succ_self _),Nat.ne_of_gt hlS⟩
    refine tK hu (Walks.tuple hh3 _ l hneI items) keys hval hb ⟨⟨_,Heap.get?_push_size _ rfl,rfl,rfl⟩,(hl1.push _)⟩ (Heap.get?_push_of_some _ hS) (λb o e=>Heap.get?_push_of_some _ (Heap.get?_push_of_some _ e)) hSf (λb hb=>by rw[List.mem_singleton.mp hb,bK];exact Nat.le_succ _) λh' tk hH hk=>?_
    show aq _ _ _ _ _ _;refine aE ?_;show aq _ _ (ret ck) _ _ _;exact aE ⟨rfl,h',tk,rfl,hH,hk⟩
   ·cases r₂ with
    |error e=>exact hr₂
    |ok fl₂=>
     cases fl₂ with
     |ret r=>
      obtain⟨rfl,h',tk,rfl,hS',hk'⟩:=hr₂
      repeat (any_goals (first|assumption|wp_step))
      exact h _ _ hS' hk'
     |_=>exact hr₂.elim
  |_=>exact hr.elim
end
section
variable{prog:aA}{w:au}{A:aB}{E:ae->af->Prop}{s:af}{K:Type} [DecidableEq K]{hash:K->Int}
end
section
variable{prog:aA}{w:au}{A:aB}{E:ae->af->Prop}{s:af}{K:Type} [DecidableEq K]{hash:K->Int}
end
section
variable{prog:aA}{w:au}{A:aB}{E:ae->af->Prop}{s:af}{K:Type} [DecidableEq K]{hash:K->Int}
end
end ST
namespace ST
open PySem PySem.Spec PySem.SetTable PyProof.Rows
section
variable{prog:aA}{w:au}{A:aB}{E:ae->af->Prop}{s:af}
end
end ST
namespace L2
open PySem PySem.Spec PyProof.Rows
variable{X:Cx}
noncomputable def uH(w:au)(p:Addr)(ns:List Int):Heap->Prop:=λh=>∃o xs,h.get? p=some o/\ST.gN w hashInt xs o/\(∀x∈xs,∃t,x.2=.int x.1 t)/\(∀k,k∈xs.map (·.1)↔k∈ns)/\xs.length<64
noncomputable def o6(X:Cx):List V->Hp->VK->Prop:=λvs H Q=>∃(l:Addr) (ns:List Int),vs=[.ref l]/\(SqL X.K H l (ns.map V.int)\/SqT X.K H l (ns.map V.int))/\ns.length<64/\∀p,H p=none->Q (.ref p) (upd H p (.ext (uH X.w p ns)))
theorem getD_mem{α:Type} [DecidableEq α](l:List α)(d:α)(k:α):(∃j,j<l.length/\l.getD j d=k)↔k∈l:=by
 constructor
 ·rintro⟨j,hj,rfl⟩;rw[List.getD_eq_getElem?_getD,List.getElem?_eq_getElem hj];exact cz hj
 ·intro h;obtain⟨i,hi,rfl⟩:=List.getElem_of_mem h;exact⟨i,hi,by rw[List.getD_eq_getElem?_getD,List.getElem?_eq_getElem hi];rfl⟩
theorem EO(hc:X.calm=true):zg X (.type "set") (o6 X):=by
 intro pins s σ H xs us Q I r ⟨l,ns,e,hl,h64,q⟩;subst e;obtain⟨u,rfl,ru⟩:=r.one;cases ru;have fin:∀{its:List ae} (h':Heap) (tk:Nat),its.length=ns.length->ST.Holds (ST.inK X.prog X.w) s.heap h' s.heap.objs.size (λi=>ns.getD i 0) its.toArray.size->(∀b o,b<s.heap.objs.size->s.heap.get? b=some o->h'.get? b=some o)->EP X pins σ Q (.ref s.heap.objs.size) {s with heap:=h',toks:=tk}:=by
  intro its h' tk hle ⟨o,ys,e1,e2,e3,e4,e5⟩ hk;rw[aV,hle]at e4 e5;refine⟨.ref _,_,I.laid (t':=tk) (o:=.ext (uH X.w s.heap.objs.size ns)) (λb o e=>hk b o (aM e) e) (aG _) ⟨⟨o,ys,e1,e2,e3,λk=>(e4 k).trans (getD_mem ns 0 k),by lia⟩,⟨_,e1⟩,λh1 h2 ⟨o,ys,a1,a2⟩ k=>⟨o,ys,k _ a1,a2⟩⟩,rfl,q _ I.fresh⟩
 rcases hl with hl|hl
 ·obtain⟨its,rv,pl,hz⟩:=I.list hl;have hI:=intsAre_of rv;have hle:=ba.length hI;exact ST.call_set_list (D:=ST.inK X.prog X.w) (I.ok.hd hc) trivial pl.isList (λi=>ns.getD i 0) (λi v hv=>ba.int_at hI i v (by simpa using hv)) (by rw[aV,hle];exact h64) λh' tk hH hk=>fin h' tk hle hH hk
 ·obtain⟨its,rv,pl,hz⟩:=I.tuple hl;have hI:=intsAre_of rv;have hle:=ba.length hI;exact ST.xn (D:=ST.inK X.prog X.w) (I.ok.hd hc) trivial pl (λi=>ns.getD i 0) (λi v hv=>ba.int_at hI i v (by simpa using hv)) (by rw[aV,hle];exact h64) λh' tk hH hk=>fin h' tk hle hH hk
theorem yi:zg X (.builtin "len") (λvs H Q=>∃(p:Addr) (φ:Heap->Prop) (n:Nat),vs=[.ref p]/\H p=some (.ext φ)/\(∀h,φ h->∃es ep t,h.get? p=some (ST.iX es ep t)/\t.fits es.toArray.size=true/\es.length=n/\n<64)/\Q (.int n) H):=by
 intro pins s σ H xs us Q I r ⟨p,φ,n,e,hp,hφ,q⟩;subst e;obtain⟨u,rfl,ru⟩:=r.one;cases ru;obtain⟨h1,_⟩:=I.hok p _ hp;obtain⟨es,ep,t,e1,e2,e3,e4⟩:=hφ _ h1;refine call_len_set e1 ⟨rfl,rfl,rfl⟩ rfl e2 (by simp;lia) ?_;rw[show es.toArray.size=n by simpa using e3];exact⟨.int n,H,I.tok _,⟨_,rfl⟩,q⟩
end L2
namespace ST
open PySem PySem.Spec PySem.SetTable PyProof.Rows TS L2
section
variable{prog:aA}{w:au}{A:aB}{E:ae->af->Prop}{s:af}
end
end ST
namespace L2
open PySem PySem.Spec PyProof.Rows TS
variable{X:Cx}
end L2
namespace EV
open PySem PySem.Spec PySem.P PyProof.Rows L2
theorem kR{α:Type} [DecidableEq α]{x:α}:∀{l:List α},x∈uq l↔x∈l
 | []=>.rfl
 |a::l=>by
  rw[uq];split
  ·rename_i h
   rw[kR,aF];exact⟨.inr,λz=>z.elim (λe=>e▸h) id⟩
  ·rw[aF,aF,kR]
theorem mO{α:Type} [DecidableEq α]:∀(l:List α),(uq l).Nodup
 | []=>.nil
 |a::l=>by
  rw[uq];split
  ·exact mO l
  ·rename_i h
   exact List.nodup_cons.mpr ⟨λz=>h (kR.mp z),mO l⟩
theorem oR{α:Type} [DecidableEq α]{l m:List α}(h1:m.Nodup)(h2:∀k,k∈m↔k∈l):m.Perm (uq l):=
 (List.perm_ext_iff_of_nodup h1 (mO l)).mpr λk=>(h2 k).trans kR.symm
theorem BD{c:Cc}{b:B1}{as:List Expr}{a:Expr}(h:nR c b as=some a):∃y p3 pos3,as=[.Call (.Name y p3) [a] [] pos3]/\b=.len/\glob c y=some .set/\isStar a=false/\c.calm=true:=by
 unfold nR at h;split at h
 ·split at h
  ·rename_i hq
   cases h;simp only[aW,bW,beq_iff_eq,bN]at hq;exact⟨_,_,_,rfl,hq.1.1.1.1,hq.1.1.2,hq.1.2,hq.2⟩
  ·cases h
 ·cases h
section
variable{w:W}{g:Gc}{c:Cc}{E:XK}{X:Cx}{a:Expr}{ia:EV.E}{pos p2 p3 pos3:Pos}
theorem xA(O:XO w g c E X)(hc:X.calm=true){x y:Str}{b:B1}(hb:b=.len)(hx:glob c x=some (.bi b))(hy:glob c y=some .set)(ha:PE X a (tE w g c E ia))(hs:isStar a=false) :
  PE X (.Call (.Name x p2) [.Call (.Name y p3) [a] [] pos3] [] pos) (tE w g c E (.sset (b==.len) ia)):=by
 obtain⟨h1,h2,id,h3⟩:=O.gm hx;have hbt:=jU b;rw[<-h2,h3]at hbt;obtain⟨r1,r2⟩:=O.gm hy;have hK:=O.K;have hr:=sO (p:=p3) (pos:=pos3) (EO hc) (O.gl hy) r1 r2 (zP ha d_ (qm hs)) (zq hy).2.2.2 (zq hy).2.2.1 (qm hs);have arg:∀{S:Sh}{H:Hp}{da:D}{va:V}{xs:List D},zN g H S da va->seq? da=some xs->∃l vs,va=.ref l/\(SqL g.K H l vs\/SqT g.K H l vs)/\qw g (hid H S) xs vs:=λ{S H da va xs} r e=>by
  cases da with
  |tup ys=>cases e;obtain⟨l,vs,rfl,q1,q2⟩:=r.tup;exact⟨l,vs,rfl,.inr q1,q2⟩
  |lst ys=>cases e;obtain⟨l,vs,rfl,q1,q2⟩:=r.lst;exact⟨l,vs,rfl,.inl q1,q2⟩
  |_=>cases e
 have hbc:∀(r:List V->Hp->VK->Prop),zg X (b1V b) r->PE X (.Call (.Name x p2) [.Call (.Name y p3) [a] [] pos3] [] pos) (tCB r (lW (tCB (o6 X) (lW (tE w g c E ia) lZ)) lZ)):=λr hcall=>by
  rw[h3]at hcall;exact lH hcall (O.gl hx) h1 hbt (zP hr d_) (zq hx).2.2.2 (zq hx).2.2.1
 subst hb
 ·refine PE.imp (hbc _ yi) λσ H Q ⟨τ,S,se,q⟩=>?_
  simp only[qO,zw,zv,zu,zx,zm,zk,zA,zy,qI,qM,qL,qE,qH,qy,qK,qJ,qG,qC,qx,qT,qr,qF,qW,qD,qt,ze,qY,qN,qU,qS,qZ,qR,qB,qX,qQ,qP,qV,zc]at q;refine zp se q λda va H1 e1 p1 k1=>?_
  unfold gC at k1;cases e2:seq? da with
  |none=>rw[e2]at k1;exact k1.elim
  |some xs=>
   rw[e2]at k1;simp only[bX]at k1;by_cases h64:xs.length<64
   ·rw[if_pos h64]at k1;obtain⟨l,vs,rfl,hl,rr⟩:=arg p1.rb e2;cases e3:ints? xs with
    |some ns=>
     rw[e3]at k1;obtain⟨rfl,rfl⟩:=rr.ints e3;refine⟨l,ns,rfl,by rw[hK];exact hl,by simpa using h64,λp hp0=>⟨p,_,(uq ns).length,rfl,zF,λh ⟨o,ys,a1,⟨ep,t,a2,T⟩,a3,a4,a5⟩=>⟨_,ep,t,by rw[<-a2];exact a1,T.fits,?_,?_⟩,?_⟩⟩
     ·rw[aJ];have:=(oR T.nd a4).length_eq;rw[aJ]at this;exact this
     ·have:=(oR T.nd a4).length_eq;rw[aJ]at this;lia
     ·exact k1 _ _ (bI.of (p1.same.trans (zi hp0)) (.int _) rfl)
    |none=>
     rw[e3]at k1;exact bC k1
   ·rw[if_neg h64]at k1;exact k1.elim
end
section
variable{w:W}{g:Gc}{n:Nat}
theorem Snd.call_name(ih:Snd w g n){c:Cc}{E:XK}{X:Cx}(O:XO w g c E X){f:Str}{p pos:Pos}{as:List Expr}{ir:EV.E}(h:cE (n+1) c (.Call (.Name f p) as [] pos)=some ir):PE X (.Call (.Name f p) as [] pos) (tE w g c E ir):=by
 unfold cE at h;dsimp only at h;split at h
 ·cases h
 ·split at h
  ·rename_i fr hg
   simp only[aS,aQ]at h;obtain⟨ies,h1,h⟩:=h;split at h
   ·rename_i hc
    simp only[aW,bN]at hc;cases h
    match as with
    | []=>simp at hc
    |e::es=>exact Aj O hg (ih.es O h1) hc.1 (gP h1)
   ·split at h
    ·rename_i hc
     simp only[bN]at hc;cases h
     match as with
     | []=>simp at hc
     |e::es=>exact Ac O hg (ih.es O h1) (gP h1)
    ·cases h
  ·rename_i b hg
   split at h
   ·rename_i a hs
    obtain⟨y,p3,pos3,rfl,hb,hy,hst,hc⟩:=BD hs;rw[bF]at h;obtain⟨ia,h1,rfl⟩:=h;exact xA O (O.calm hc) hb hg hy (ih.e O h1) hst
   simp only[aS,aQ]at h;obtain⟨ies,h1,h⟩:=h;split at h
   ·rename_i hc
    simp only[aW,bN,bW,beq_iff_eq]at hc;cases h
    match as with
    | []=>simp at hc
    |e::es=>exact xT O hg (by rcases hc.2 with (z|z)|z;exact .inl (O.calm z);exact .inr (.inl z);exact .inr (.inr z)) (ih.es O h1) (gP h1)
   ·cases h
  ·rename_i t b hg
   have plain:∀{ies:Es},cEs n c as=some ies->as.isEmpty=false->PE X (.Call (.Name f p) as [] pos) (tE w g c E (.bi b ies)):=λ{ies} h1 he=>by
    match as with
    | []=>simp at he
    |e::es=>exact DR O hg (ih.es O h1) (gP h1)
   simp only[aS,aQ]at h;obtain⟨ies,h1,h⟩:=h;split at h
   ·rename_i hc
    cases h;exact plain h1 (by simpa using hc)
   ·cases h
  ·rename_i hg
   split at h
   ·rename_i a k
    split at h
    ·cases h
    ·rename_i hs
     simp only[aS,aQ]at h;obtain⟨ia,h1,cl,h2,h⟩:=h;cases h;exact yK O hg (ih.e O h1) h2 (by simpa using hs)
   ·cases h
  ·cases h
theorem kF:∀{n:Nat}{c:Cc}{l:List Expr}{es:Es},cEs n c l=some es->l.length<=n
 | 0,_,_,_,h=>by simp[cEs]at h
 |n+1,_,[],_,_=>by simp
 |n+1,c,x::l,es,h=>by
  have hs:=gP h x aK;simp only[cEs,hs,bD,if_false,aS,aQ]at h;obtain⟨_,_,r,hr,_⟩:=h;have:=kF hr
  simpa using this
theorem rM{c:Cc}{elt:Expr}{gs:List cU}{sc:bf}{p:Pos}{ir:EV.E}(h:cE (n+1) c (.ListComp elt gs sc p)=some ir) :
  ∃tgt it ifs iit itg it' ie,gs=[⟨tgt,it,ifs,0⟩]/\(c.calm=true/\zI it=true)/\(i_ (λx=>c.nm.lookup x) c.N (cq sc.names) (hZ c sc.names) sc=true/\(cq sc.names).Nodup)/\cI n c it=some iit/\cTg (eF c sc) tgt=some itg/\gf n (eF c sc) ifs=some it'/\cE n (eF c sc) elt=some ie/\(esc ie=true/\gS iit tgt=true)/\ir=.comp iit (hZ c sc.names) itg it' ie:=by
 unfold cE at h;dsimp only at h;split at h
 ·rename_i tgt it ifs asy
  split at h
  ·cases h
  ·rename_i hs
   have hs:(asy=0/\c.calm=true)/\zI it=true:=by simpa using hs
   obtain⟨⟨rfl,hs1⟩,hs2⟩:=hs;split at h
   ·cases h
   ·rename_i hk
    have hk:i_ (λx=>c.nm.lookup x) c.N (cq sc.names) (hZ c sc.names) sc=true/\(cq sc.names).Nodup:=by simpa using hk
    simp only[aS,aQ]at h;obtain⟨iit,h1,itg,h2,it',h3,ie,h4,h⟩:=h;split at h
    ·rename_i he
     simp only[aW]at he;cases h;exact⟨tgt,it,ifs,iit,itg,it',ie,rfl,⟨hs1,hs2⟩,hk,h1,h2,h3,h4,he,rfl⟩
    ·cases h
 ·cases h
theorem Snd.e_succ(ih:Snd w g n)(hn:n<=100000){c:Cc}{E:XK}{X:Cx}(O:XO w g c E X){x:Expr}{ir:EV.E}(h:cE (n+1) c x=some ir):PE X x (tE w g c E ir):=by
 have h0:=h;unfold cE at h;split at h
 ·-- Name
  rename_i y p
  split at h
  ·rename_i i hl
   have:=Cr (w:=w) (E:=E) (pos:=p) O hl;cases ho:c.own.contains y with
   |true=>rw[ho]at h this;cases h;exact this
   |false=>rw[ho]at h this;cases h;exact this
  ·split at h
   ·rename_i hg;cases h;exact vN O hg
   ·rename_i fr hg;cases h;exact Bj O hg
   ·cases h
 ·split at h
  ·cases h;exact jW rB λ_=>.int _
  ·cases h;exact jW BK λ_=>.bl _
  ·cases h;exact jW BX λ_=>.non
  ·cases h;exact jW E7 λ_=>.str _
  ·cases h
 ·simp only[aS,aQ]at h;obtain⟨o,ho,ia,h1,ib,h2,h⟩:=h;cases h;exact ET O ho (ih.e O h1) (ih.e O h2)
 ·rename_i op a p
  simp only[aS,aQ]at h;obtain⟨ia,h1,h⟩:=h;cases op with
  |USub=>cases h;exact yW (ih.e O h1)
  |Invert=>cases h;exact Cs (ih.e O h1)
  |Not=>cases h;exact A_ (ih.e O h1)
  |UAdd=>cases h
 ·exact(ih.bo O h).1
 ·split at h
  ·simp only[aS,aQ]at h;obtain⟨ia,h1,ib,h2,h⟩:=h;split at h
   ·rename_i hs;cases h;exact FR O (ih.e O h1) (ih.e O h2) hs
   ·cases h
  ·simp only[aS,aQ]at h;obtain⟨ia,h1,ib,h2,id',h3,h⟩:=h;split at h
   ·rename_i hs
    simp only[aW]at hs;cases h;exact yk O (ih.e O h1) (ih.e O h2) (ih.e O h3) hs.2
   ·cases h
  ·simp only[aS,aQ]at h;obtain⟨ia,h1,ib,h2,id',h3,if',h4,h⟩:=h;split at h
   ·rename_i hs
    simp only[aW]at hs;cases h;exact B4 O (ih.e O h1) (ih.e O h2) (ih.e O h3) (ih.e O h4) hs.2
   ·cases h
  ·cases h
 ·split at h
  ·split at h
   ·rename_i hk
    rw[List.isEmpty_iff]at hk;subst hk;cases h;exact GG
   ·cases h
  ·split at h
   ·split at h
    ·split at h
     ·rename_i hk
      simp only[aW,List.isEmpty_iff]at hk;obtain⟨rfl,rfl⟩:=hk;simp only[aS,aQ]at h;obtain⟨ik,h1,iv,h2,h⟩:=h;cases h;exact vY (ih.e O h1) (ih.e O h2)
     ·cases h
    ·cases h
   ·cases h
 ·simp only[aS,aQ]at h;obtain⟨it,h1,ia,h2,ib,h3,h⟩:=h;split at h
  ·rename_i hs
   simp only[aW]at hs;cases h;exact G8 (ih.t O h1) (ih.e O h2) (ih.e O h3) hs.1 hs.2
  ·cases h
 ·simp only[aS,aQ]at h;obtain⟨ies,h1,h⟩:=h;split at h
  ·rename_i hs;cases h
   exact C_ (ih.es O h1) hs λτ ds e=>by rw[mV h1 e];exact bB (kF h1) hn
  ·cases h
 ·simp only[aS,aQ]at h;obtain⟨ies,h1,h⟩:=h;split at h
  ·rename_i hs;cases h
   exact yz (ih.es O h1) hs λτ ds e=>by rw[mV h1 e];exact bB (kF h1) hn
  ·cases h
 ·split at h
  ·rename_i lo hi st' sp
   split at h
   ·cases h
   ·simp only[aS,aQ]at h;obtain⟨ia,h1,il,h2,ih',h3,h⟩:=h;cases h;exact Fe O (ih.e O h1) (ih.o O h2) (ih.o O h3)
  ·split at h
   ·cases h
   ·rename_i hs
    simp only[aS,aQ]at h;obtain⟨ia,h1,ib,h2,h⟩:=h;cases h;exact Hq O (ih.e O h1) (ih.e O h2) (by simpa using hs)
 ·-- ListComp
  rename_i elt gs sc p
  obtain⟨tgt,it,ifs,iit,itg,it',ie,rfl,hs,hk,h1,h2,h3,h4,he,rfl⟩:=rM h0;have hS:eS X (cq sc.names) (hZ c sc.names) sc:=eS.of (by
   have e1:(λx=>c.nm.lookup x)=X.env.kindOf:=by funext x;show _=X.env.scope.names.lookup x;rw[O.nm]
   rw[<-e1,O.N];exact hk.1)
  refine wt O (O.calm hs.1) hS hk.2 (ih.i O h1 he.2) (λcl C s₀ H₀ fp=>?_) he.1 hs.2;have OY:=O.comp hS.kind hk.2 cl C s₀ H₀ fp;exact⟨kZ OY h2,ih.ifs OY h3,ih.e OY h4⟩
 ·split at h
  ·split at h
   ·exact ih.call_name O h0
   ·cases h
  ·split at h
   ·split at h
    ·split at h
     ·split at h
      ·cases h
      ·rename_i hc
       simp only[bW,bN,not_or,Bool.not_eq_true,Bool.not_eq_false]at hc;simp only[aS,aQ]at h;obtain⟨ia,h1,h⟩:=h;obtain⟨⟨⟨⟨⟨c1,c2⟩,c3⟩,c4⟩,c5⟩,c6⟩:=hc;have c3:=eq_of_beq c3;subst c3;split at h
       ·rename_i hg
        cases h;exact uV O (O.calm c2) true (eq_of_beq hg) (eq_of_beq c5) (ih.e O h1) c1
       ·split at h
        ·rename_i hg
         cases h;exact uV O (O.calm c2) false (eq_of_beq hg) (eq_of_beq c5) (ih.e O h1) c1
        ·cases h
     ·cases h
    ·cases h
   ·cases h
  ·cases h
 ·cases h
theorem Ei:Snd w g 0:=⟨λ_ _ _ h=>(by cases h),λ_ _ _ _ _ h=>by simp[cBo]at h,λ_ _ _ h=>by simp[cO]at h,λ_ _ _ h=>by simp[cEs]at h,λ_ _ _ _ h=>by simp[cI]at h,λ_ _ _ h=>by simp[cT]at h,λ_ _ _ _ _ h=>by simp[cTs]at h,λ_ _ _ h=>by simp[gf]at h⟩
theorem snd:∀n,n<=100000->Snd w g n
 | 0,_=>Ei
 |n+1,h=>
  have ih:=snd n (Nat.le_of_succ_le h)
  ⟨λO _ _ q=>ih.e_succ (Nat.le_of_succ_le h) O q,λO _ _ _ _ q=>ih.bo_succ O q,λO _ _ q=>ih.o_succ O q,λO _ _ q=>ih.es_succ O q,λO _ _ _ q t=>ih.i_succ O q t,λO _ _ q=>ih.t_succ O q,λO _ _ _ _ q=>ih.ts_succ O q,λO _ _ q=>ih.ifs_succ O q⟩
end
noncomputable def zJ(c:Cc)(i:Nat):Prop:=∃x,c.N[i]? = some x/\c.own.contains x=true
structure SS(g:Gc)(c:Cc)(H0:Hp)(B:Sh)(τ:Env)(σ:L2.St)(H:Hp)(S:Sh):Prop where
 se:SE g c τ σ H S
 lenN:τ.length=c.N.length
 same:qe H0 H
 sub0:Sub B H0
 hd:∀a,S.h a=(B.h a||S.o a)
 new:∀a,S.o a=true->H0 a=none
 own:∀i d,zJ c i->τ[i]? = some (some d)->∃a o,σ[i]? = some (some (.ref a))/\S.o a=true/\H a=some o/\ee g (hid H S) d o
 inj:∀i j d e a,zJ c i->zJ c j->τ[i]? = some (some d)->τ[j]? = some (some e)->σ[i]? = some (some (.ref a))->σ[j]? = some (some (.ref a))->i=j
 frz:c.frz=true->(∀i,zJ c i->σ[i]? = B.z[i]?)/\qe B.y H
section
variable{g:Gc}{c:Cc}{H0:Hp}{B:Sh}{τ:Env}{σ:L2.St}{H H':Hp}{S:Sh}
theorem SS.up(s:SS g c H0 B τ σ H S)(e:qe H H'):SS g c H0 B τ σ H' S:=
 ⟨s.se.up e,s.lenN,s.same.trans e,s.sub0,s.hd,s.new,λi d hi h=>let ⟨a,o,h1,h2,h4,h5⟩:=s.own i d hi h;⟨a,o,h1,h2,e _ _ h4,h5.mono (qh e)⟩,s.inj,λz=>⟨(s.frz z).1,(s.frz z).2.trans e⟩⟩
theorem SS.set{i:Nat}{d:D}{v:V}(s:SS g c H0 B τ σ H S)(hi:¬ zJ c i)(r:Rep g (hid H S) d v):SS g c H0 B (τ.set i (some d)) (σ.set i (some v)) H S:=by
 refine⟨s.se.set r,by simp[s.lenN],s.same,s.sub0,s.hd,s.new,λj e hj h=>?_,λj k e f a hj hk h1 h2 h3 h4=>?_,λz=>⟨λj hj=>?_,(s.frz z).2⟩⟩
 ·have hij:i≠j:=λz=>hi (z▸hj)
  rw[List.getElem?_set_ne hij]at h ⊢;exact s.own j e hj h
 ·have hij:i≠j:=λz=>hi (z▸hj)
  have hik:i≠k:=λz=>hi (z▸hk)
  rw[List.getElem?_set_ne hij]at h1 h3;rw[List.getElem?_set_ne hik]at h2 h4;exact s.inj j k e f a hj hk h1 h2 h3 h4
 ·rw[List.getElem?_set_ne (λz:i=j=>hi (z▸hj))];exact(s.frz z).1 j hj
theorem SS.setAll{is:List Nat}:∀{ds:List D}{vs:List V}{τ τ':Env}{σ:L2.St}{Q:L2.St->Hp->Prop},SS g c H0 B τ σ H S->(∀i∈is,¬ zJ c i)->qw g (hid H S) ds vs->EV.setAll is ds τ=.ok τ'->(∀σ',SS g c H0 B τ' σ' H S->Q σ' H)->jk is vs σ H Q:=by
 induction is with
 |nil=>
  intro ds vs τ τ' σ Q se _ r h k;cases r with
  |nil=>cases (show R.ok τ=R.ok τ' from h);exact⟨rfl,k σ se⟩
  |cons _ _=>cases (show R.no=R.ok τ' from h)
 |cons i is ih=>
  intro ds vs τ τ' σ Q se ho r h k;cases r with
  |nil=>cases (show R.no=R.ok τ' from h)
  |cons r rs=>exact⟨_,_,rfl,ih (se.set (ho i aK) r) (λj hj=>ho j (aO _ hj)) rs h k⟩
theorem wI{tg:Tg}(h:iN c tg):match tg with | .nm i=>¬ zJ c i | .tp is=>∀i∈is,¬ zJ c i:=by
 cases tg with
 |nm i=>rintro⟨x,h1,h2⟩;rw[h x h1]at h2;cases h2
 |tp is=>rintro i hi ⟨x,h1,h2⟩;rw[h i hi x h1]at h2;cases h2
theorem SS.store{X:Cx}(O:X.K=g.K){tg:Tg}{d:D}{v:V}{τ':Env}{Q:L2.St->Hp->Prop}(s:SS g c H0 B τ σ H S)(hf:iN c tg)(r:Rep g (hid H S) d v)(h:EV.store tg d τ=.ok τ')(k:∀σ',SS g c H0 B τ' σ' H S->Q σ' H):gT X.K tg v σ H Q:=by
 have ho:=wI hf;cases tg with
 |nm i=>
  simp only[EV.store,R.ok.injEq]at h;subst h;exact k _ (s.set ho r)
 |tp is=>
  cases d with
  |tup ds=>
   simp only[EV.store]at h;split at h
   ·rename_i hl
    cases r with
    |tup h1 r1=>exact⟨_,_,rfl,by rw[O];exact zE zH h1,by rw[<-r1.length];exact hl,s.setAll ho r1 h k⟩
   ·cases h
  |_=>simp[EV.store]at h
noncomputable def oW(S:Sh)(a:Addr):Sh:=⟨λb=>S.o b||b==a,λb=>S.h b||b==a,S.z,S.y⟩
theorem SS.setOwn{i:Nat}{d:D}{v:V}(s:SS g c H0 B τ σ H S)(hz:c.frz=false)(hi:zJ c i)(hlt:i<τ.length)(e:qe H H')(f:Fr g H S H' d v):∃S',SS g c H0 B (τ.set i (some d)) (σ.set i (some v)) H' S'/\qe (hid H S) (hid H' S'):=by
 obtain⟨a,oo,rfl,h1,h2,h3⟩:=f;have up:qe (hid H S) (hid H' (oW S a)):=λb o hb=>by
  obtain⟨z1,z2⟩:=b7.mp hb;refine b7.mpr ⟨?_,e _ _ z2⟩;show (S.h b||b==a)=false;rw[z1]
  simpa using λz:b=a=>by rw[z,h1]at z2;cases z2
 have hlt':i<σ.length:=by rw[<-s.se.len];exact hlt
 refine⟨oW S a,⟨⟨by simp[s.se.len],λj e' hj=>?_,λb hb n=>?_⟩,by simp[s.lenN],s.same.trans e,s.sub0,λb=>?_,λb hb=>?_,λj e' hj h=>?_,λj k e1 e2 b hj hk q1 q2 q3 q4=>?_,λz=>by rw[hz]at z;cases z⟩,up⟩
 ·by_cases hij:i=j
  ·subst hij;simp[hlt]at hj;subst hj;refine⟨.ref a,by simp[hlt'],.inr ⟨a,oo,by show (S.o a||a==a)=true;simp,rfl,h2,h3⟩,λx hx hn=>?_⟩;obtain⟨y,hy1,hy2⟩:=hi;rw[hy1]at hx;cases hx;rw[hn]at hy2;cases hy2
  ·rw[List.getElem?_set_ne hij]at hj ⊢;obtain⟨u,z1,z2,z3⟩:=s.se.val j e' hj;refine⟨u,z1,?_,λx hx hn=>(z3 x hx hn).mono up⟩;rcases z2 with z2|⟨a',o',y1,y2,y4,y5⟩
   ·exact .inl (z2.mono up)
   ·exact .inr ⟨a',o',by show (S.o a'||a'==a)=true;rw[y1];rfl,y2,e _ _ y4,y5.mono up⟩
 ·have hb:(S.h b||b==a)=true\/(S.o b||b==a)=true:=hb;by_cases hba:b=a
  ·rw[hba,h2]at n;cases n
  ·have:S.h b=true\/S.o b=true:=by
    rcases hb with z|z
    ·exact .inl (by simpa[hba]using z)
    ·exact .inr (by simpa[hba]using z)
   exact(s.se.sub.same e) b this n
 ·show (S.h b||b==a)=(B.h b||(S.o b||b==a))
  rw[s.hd b,Bool.or_assoc]
 ·have hb:(S.o b||b==a)=true:=hb;by_cases hba:b=a
  ·rw[hba];exact s.same.free h1
  ·exact s.new b (by simpa[hba]using hb)
 ·by_cases hij:i=j
  ·subst hij;simp[hlt]at h;subst h;exact⟨a,oo,by simp[hlt'],by show (S.o a||a==a)=true;simp,h2,h3⟩
  ·rw[List.getElem?_set_ne hij]at h ⊢;obtain⟨a',o',y1,y2,y4,y5⟩:=s.own j e' hj h;exact⟨a',o',y1,by show (S.o a'||a'==a)=true;rw[y2];rfl,e _ _ y4,y5.mono up⟩
 ·have other:∀j e1 b,i≠j->zJ c j->τ[j]? = some (some e1)->σ[j]? = some (some (.ref b))->b≠a:=λj e1 b hij hj q1 q3 z=>by
   obtain⟨a',o',y1,y2,y4,y5⟩:=s.own j e1 hj q1;rw[q3]at y1;cases y1;rw[z,h1]at y4;cases y4
  by_cases hij:i=j
  ·by_cases hik:i=k
   ·rw[<-hij,<-hik]
   ·subst hij;rw[List.getElem?_set_ne hik]at q2 q4;have q3':b=a:=by
     have:(σ.set i (some (.ref a)))[i]? = some (some (.ref a)):=by simp[hlt']
     rw[this]at q3;cases q3;rfl
    exact absurd q3' (other k e2 b hik hk q2 q4)
  ·by_cases hik:i=k
   ·subst hik;rw[List.getElem?_set_ne hij]at q1 q3;have q4':b=a:=by
     have:(σ.set i (some (.ref a)))[i]? = some (some (.ref a)):=by simp[hlt']
     rw[this]at q4;cases q4;rfl
    exact absurd q4' (other j e1 b hij hj q1 q3)
   ·rw[List.getElem?_set_ne hij]at q1 q3;rw[List.getElem?_set_ne hik]at q2 q4;exact s.inj j k e1 e2 b hj hk q1 q2 q3 q4
theorem SS.changeO{i:Nat}{a:Addr}{d0 d1:D}{o1:HO}(s:SS g c H0 B τ σ H S)(hz:c.frz=false)(hi:zJ c i)(h0:τ[i]? = some (some d0))(ha:σ[i]? = some (some (.ref a)))(r:ee g (hid H S) d1 o1):SS g c H0 B (τ.set i (some d1)) σ (upd H a o1) S/\qe (hid H S) (hid (upd H a o1) S):=by
 have hlt:i<τ.length:=(List.getElem?_eq_some_iff.mp h0).1;obtain⟨a',o0,y1,y2,y4,y5⟩:=s.own i d0 hi h0;rw[ha]at y1;cases y1;have hh:S.h a=true:=by rw[s.hd,y2,Bool.or_true]
 have he:hid (upd H a o1) S=hid H S:=i5 hh;have other:∀j e,i≠j->zJ c j->τ[j]? = some (some e)->∀b,σ[j]? = some (some (.ref b))->b≠a:=λj e hij hj h b hb z=>by
  subst z;exact hij (s.inj i j d0 e b hi hj h0 h ha hb)
 refine⟨⟨⟨by simp[s.se.len],λj e hj=>?_,λb hb n=>?_⟩,by simp[s.lenN],λb o hb=>?_,s.sub0,s.hd,s.new,λj e hj h=>?_,λj k e1 e2 b hj hk q1 q2 q3 q4=>?_,λz=>by rw[hz]at z;cases z⟩,by rw[he];exact qe.refl _⟩
 ·by_cases hij:i=j
  ·subst hij;simp[hlt]at hj;subst hj;refine⟨.ref a,ha,.inr ⟨a,o1,y2,rfl,zF,by rw[he];exact r⟩,λx hx hn=>?_⟩;obtain⟨y,hy1,hy2⟩:=hi;rw[hy1]at hx;cases hx;rw[hn]at hy2;cases hy2
  ·rw[List.getElem?_set_ne hij]at hj;obtain⟨u,z1,z2,z3⟩:=s.se.val j e hj;by_cases ho:zJ c j
   ·obtain⟨b,ob,w1,w2,w4,w5⟩:=s.own j e ho hj;rw[z1]at w1;cases w1;refine⟨_,z1,.inr ⟨b,ob,w2,rfl,by rw[qi (other j e hij ho hj b z1)];exact w4,by rw[he];exact w5⟩,λx hx hn=>?_⟩;obtain⟨y,hy1,hy2⟩:=ho;rw[hy1]at hx;cases hx;rw[hn]at hy2;cases hy2
   ·have st:Rep g (hid H S) e u:=by
     cases q:c.N[j]? with
     |some x=>
      refine z3 x q ?_;cases q2:c.own.contains x with
      |false=>rfl
      |true=>exact absurd ⟨x,q,q2⟩ ho
     |none=>
      have h1:=(List.getElem?_eq_some_iff.mp hj).1;have h2:=List.getElem?_eq_none_iff.mp q;have h3:=s.lenN;lia
    exact⟨u,z1,.inl (by rw[he];exact st),λ_ _ _=>by rw[he];exact st⟩
 ·by_cases hba:b=a
  ·subst hba;rw[zF]at n;cases n
  ·rw[qi hba]at n;exact s.se.sub b hb n
 ·by_cases hba:b=a
  ·subst hba;rw[s.new b y2]at hb;cases hb
  ·rw[qi hba];exact s.same _ _ hb
 ·by_cases hij:i=j
  ·subst hij;simp[hlt]at h;subst h;exact⟨a,o1,ha,y2,zF,by rw[he];exact r⟩
  ·rw[List.getElem?_set_ne hij]at h;obtain⟨b,ob,w1,w2,w4,w5⟩:=s.own j e hj h;exact⟨b,ob,w1,w2,by rw[qi (other j e hij hj h b w1)];exact w4,by rw[he];exact w5⟩
 ·have f:∀k e,(τ.set i (some d1))[k]? = some (some e)->∃e',τ[k]? = some (some e'):=λk e h=>by
   by_cases hik:i=k
   ·subst hik;exact⟨d0,h0⟩
   ·rw[List.getElem?_set_ne hik]at h;exact⟨e,h⟩
  obtain⟨e1',q1'⟩:=f j e1 q1;obtain⟨e2',q2'⟩:=f k e2 q2;exact s.inj j k e1' e2' b hj hk q1' q2' q3 q4
theorem SS.change{i:Nat}{a:Addr}{d0:D}{vs:List V}{ds:List D}(s:SS g c H0 B τ σ H S)(hz:c.frz=false)(hi:zJ c i)(h0:τ[i]? = some (some d0))(ha:σ[i]? = some (some (.ref a)))(r:qw g (hid H S) ds vs):SS g c H0 B (τ.set i (some (.lst ds))) σ (upd H a (.lst vs)) S/\qe (hid H S) (hid (upd H a (.lst vs)) S):=s.changeO hz hi h0 ha (.lst r)
end
noncomputable def dD(g:Gc)(c:Cc)(E:XK)(fr:Bool)(H0:Hp)(B:Sh)(H:Hp)(S:Sh)(D:Ends):O->Prop
 | .nx τ'=>∀σ' H' S',SS g c H0 B τ' σ' H' S'->qe (hid H S) (hid H' S')->D.nx σ' H'
 | .bk τ'=>∀σ' H' S',SS g c H0 B τ' σ' H' S'->qe (hid H S) (hid H' S')->D.bk σ' H'
 | .ct τ'=>∀σ' H' S',SS g c H0 B τ' σ' H' S'->qe (hid H S) (hid H' S')->D.ct σ' H'
 | .rt d=>∀v H',qe H0 H'->Rep g (hid H' B) d v->(fr=true->Fr g H0 B H' d v)->D.rt v H'
 | .ex k=>∀H' C,qe H0 H'->g.clA k=some C->E (.ref C) none H'
 | .no=>False
section
variable(w:W)(g:Gc)(c:Cc)(E:XK)(fr:Bool)
noncomputable def tS(s:EV.S):TS:=λD σ H=>∃H0 B τ S,SS g c H0 B τ σ H S/\dD g c E fr H0 B H S D (evS w s τ)
noncomputable def tSs(s:Ss):TS:=λD σ H=>∃H0 B τ S,SS g c H0 B τ σ H S/\dD g c E fr H0 B H S D (qc w s τ)
end
structure XS(w:W)(g:Gc)(c:Cc)(E:XK)(X:Cx):Prop extends XO w g c E X where
 thr:c.thr=true->Throws X E
 exc:∀x C,c.G.lookup x=some .exc->g.clA x=some C->sA g.K C
 cat:∀k x,w.cat k x=true->∀C D,g.clA k=some C->g.clA x=some D->PySem.W.exmOne g.K (.ref C) (.ref D)=some true
 frm:X.ex=[]/\X.stack=X.env::X.outer/\X.env.frame=some X.env.locals
 gh:∀x k,c.GH.lookup x=some k->k≠.exc/\∀v,GM w g X.prog X.w X.mg X.base (X.A.mark v) false x k
section
variable{w:W}{g:Gc}{c:Cc}{E:XK}{fr:Bool}{X:Cx}{H0:Hp}{B:Sh}{τ:Env}{σ:L2.St}{H H':Hp}{S:Sh}{Ed:Ends}
theorem dD.up{o:O}{S':Sh}(h:dD g c E fr H0 B H S Ed o)(e:qe (hid H S) (hid H' S')):dD g c E fr H0 B H' S' Ed o:=by
 cases o with
 |nx t=>exact λσ' H2 S2 s e2=>h σ' H2 S2 s (e.trans e2)
 |bk t=>exact λσ' H2 S2 s e2=>h σ' H2 S2 s (e.trans e2)
 |ct t=>exact λσ' H2 S2 s e2=>h σ' H2 S2 s (e.trans e2)
 |rt d=>exact h
 |ex k=>exact h
 |no=>exact h
theorem s_e{e:EV.E}{f:D->O}{Q:VK}(ss:SS g c H0 B τ σ H S)(h:dD g c E fr H0 B H S Ed ((evE w e τ).out f))(k:∀d v H',evE w e τ=.ok d->bI g c e S H d v H'->dD g c E fr H0 B H S Ed (f d)->Q v H'):tE w g c E e σ H Q:=by
 refine⟨τ,S,ss.se,?_⟩;cases q:evE w e τ with
 |ok d=>rw[q]at h;exact λv H' p=>k d v H' q p h
 |ex x=>rw[q]at h;exact λH' C s hc=>h H' C (ss.same.trans s) hc
 |no=>rw[q]at h;exact h
theorem s_t{t:T}{f:Bool->O}{Q:Bool->Hp->Prop}(ss:SS g c H0 B τ σ H S)(h:dD g c E fr H0 B H S Ed ((evT w t τ).out f))(k:∀b H',evT w t τ=.ok b->qe H H'->dD g c E fr H0 B H S Ed (f b)->Q b H'):tT w g c E t σ H Q:=by
 refine⟨τ,S,ss.se,?_⟩;cases q:evT w t τ with
 |ok d=>rw[q]at h;exact λH' p=>k d H' q p h
 |ex x=>rw[q]at h;exact λH' C s hc=>h H' C (ss.same.trans s) hc
 |no=>rw[q]at h;exact h
theorem vh(ss:SS g c H0 B τ σ H S){b:Addr}(h:S.h b=false):B.h b=false:=by
 have:=ss.hd b;rw[h]at this;cases q:B.h b with
 |false=>rfl
 |true=>rw[q]at this;cases this
theorem E5(ss:SS g c H0 B τ σ H S):qe (hid H' S) (hid H' B):=λb o h=>by
 obtain⟨z1,z2⟩:=b7.mp h;exact b7.mpr ⟨vh ss z1,z2⟩
theorem oa:∀{is:List Nat}{ds:List EV.D}{τ:Env}{x:Str},setAll is ds τ≠.ex x
 | [],[],_,_,h=>by cases h
 | [],_::_,_,_,h=>by cases h
 |_::_,[],_,_,h=>by cases h
 |i::is,d::ds,τ,x,h=>by simp only[setAll]at h;exact oa h
theorem yj{pos:Pos}:PS X (.Pass pos) (tS w g c E fr .pass):=PS.imp DV λD σ H ⟨H0,B,τ,S,ss,h⟩=>h σ H S ss (qe.refl _)
theorem C5{pos:Pos}:PS X (.Break pos) (tS w g c E fr .brk):=PS.imp wF λD σ H ⟨H0,B,τ,S,ss,h⟩=>h σ H S ss (qe.refl _)
theorem v_{pos:Pos}:PS X (.Continue pos) (tS w g c E fr .cnt):=PS.imp Fu λD σ H ⟨H0,B,τ,S,ss,h⟩=>h σ H S ss (qe.refl _)
theorem i0{e:Expr}{t:Option Expr}{l:Nat}{env:PySem.Env}(h:fN e=false):swapsWith e t l env=pure false:=by
 cases e<;>first|rfl|(simp[fN]at h)
theorem xv{e:Expr}{ie:EV.E}{pos:Pos}(he:PE X e (tE w g c E ie))(hc:fN e=false):PS X (.Expr e pos) (tS w g c E fr (.exp ie)):=
 PS.imp (jE he (i0 hc)) λD σ H ⟨H0,B,τ,S,ss,h⟩=>by
  simp only[zR,cA,cK,cJ,zL,cF,zV,cB,cH,cG,c_,zY,dk,cY,dq,dh,dg,cZ,cX,de,zZ]at h;exact s_e ss h λd v H' _ p k=>k σ H' S (ss.up p.same) (qh p.same)
theorem xK{pos:Pos}(hf:fr=false):PS X (.Return none pos) (tS w g c E fr .retN):=PS.imp Hu λD σ H ⟨H0,B,τ,S,ss,h⟩=>h _ _ ss.same .non (by rw[hf];intro z;cases z)
theorem lM(ss:SS g c H0 B τ σ H S){a:Addr}{d:EV.D}{o:HO}(h1:H0 a=none)(h2:H' a=some o)(h3:ee g (hid H' (dz S a)) d o):Rep g (hid H' B) d (.ref a)/\Fr g H0 B H' d (.ref a):=by
 have up:qe (hid H' (dz S a)) (hid H' (dz B a)):=λb o hb=>by
  obtain⟨z1,z2⟩:=b7.mp hb;refine b7.mpr ⟨?_,z2⟩;have z1:(S.h b||b==a)=false:=z1;simp only[Bool.or_eq_false_iff]at z1;show (B.h b||b==a)=false;rw[vh ss z1.1,z1.2];rfl
 exact⟨h3.rep (up.trans ug) (b7.mpr ⟨ss.sub0.free h1,h2⟩),⟨a,o,rfl,h1,h2,h3.mono up⟩⟩
theorem tO(ss:SS g c H0 B τ σ H S){a:Addr}{d:EV.D}{o1:HO}(y1:S.o a=true)(y3:ee g (hid H' S) d o1):ee g (hid H' (dz S a)) d o1:=y3.mono λb o hb=>by
 have hh:S.h a=true:=by rw[ss.hd,y1,Bool.or_true]
 obtain⟨z1,z2⟩:=b7.mp hb;refine b7.mpr ⟨?_,z2⟩;show (S.h b||b==a)=false;rw[z1]
 simpa using λz:b=a=>by rw[z,hh]at z1;cases z1
theorem oF{e:Expr}{ie:EV.E}{pos:Pos}(he:PE X e (tE w g c E ie))(hf:fr=true->fresh c ie=true):PS X (.Return (some e) pos) (tS w g c E fr (.ret ie)):=
 PS.imp (rz he) λD σ H ⟨H0,B,τ,S,ss,h⟩=>by
  simp only[zR,cA,cK,cJ,zL,cF,zV,cB,cH,cG,c_,zY,dk,cY,dq,dh,dg,cZ,cX,de,zZ]at h;refine s_e ss h λd v H' _ p k=>?_
  have k:∀v H',qe H0 H'->Rep g (hid H' B) d v->(fr=true->Fr g H0 B H' d v)->D.rt v H':=k;have s1:=ss.up p.same;by_cases hz:fr=true
  ·obtain⟨a,o,rfl,h1,h2,h3⟩:=p.fr (hf hz);obtain⟨r1,r2⟩:=lM (H':=H') ss (ss.same.free h1) h2 h3;exact k _ H' s1.same r1 λ_=>r2
  ·rcases p.rb with r|⟨a,o,y1,rfl,y2,y3⟩
   ·exact k v H' s1.same (r.mono (E5 ss)) λz=>absurd z hz
   ·obtain⟨r1,r2⟩:=lM (H':=H') ss (ss.new a y1) y2 (tO ss y1 y3);exact k _ H' s1.same r1 λ_=>r2
theorem Cy(O:XO w g c E X){x:Str}{i:Nat}{p pos:Pos}(h:loc c x=some i)(ho:c.own.contains x=true):PS X (.Return (some (.Name x p)) pos) (tS w g c E fr (.ret (.own i))):=by
 obtain⟨h1,h2,h3,h4⟩:=dY h;refine PS.imp (rz (fV (i:=i) (by rw[O.N];exact h1) (by unfold fk;rw[O.nm];exact h2) h3 h4)) λD σ H ⟨H0,B,τ,S,ss,h⟩=>?_
 simp only[zR,cA,cK,cJ,zL,cF,zV,cB,cH,cG,c_,zY,dk,cY,dq,dh,dg,cZ,cX,de,zZ,qO,zw,zv,zu,zx,zm,zk,zA,zy,qI,qM,qL,qE,qH,qy,qK,qJ,qG,qC,qx,qT,qr,qF,qW,qD,qt,ze,qY,qN,qU,qS,qZ,qR,qB,qX,qQ,qP,qV,zc,zD]at h;cases q:τ[i]? with
 |none=>rw[q]at h;exact h.elim
 |some o=>
  cases o with
  |none=>rw[q]at h;exact h.elim
  |some d=>
   rw[q]at h;obtain⟨a,o,z1,y1,y2,y3⟩:=ss.own i d ⟨x,h1,ho⟩ q;obtain⟨r1,r2⟩:=lM (H':=H) ss (ss.new a y1) y2 (tO ss y1 y3);exact⟨_,z1,h _ H ss.same r1 λ_=>r2⟩
theorem nj{e:Expr}{ie:EV.E}{i:Nat}{st:Stmt}{te:TE}(hp:PS X st (kf te (fX i)))(hr:∀σ H Q,tE w g c E ie σ H Q->te σ H Q)(hlt:i<c.N.length)(hk:(zJ c i/\fresh c ie=true/\c.frz=false)\/(¬ zJ c i/\esc ie=true)):PS X st (tS w g c E fr (.set (.nm i) ie)):=
 PS.imp hp λD σ H ⟨H0,B,τ,S,ss,h⟩=>by
  simp only[zR,cA,cK,cJ,zL,cF,zV,cB,cH,cG,c_,zY,dk,cY,dq,dh,dg,cZ,cX,de,zZ,store]at h;refine hr σ H _ (s_e ss h λd v H' _ p k=>?_);have k:∀σ' H2 S2,SS g c H0 B (τ.set i (some d)) σ' H2 S2->qe (hid H S) (hid H2 S2)->D.nx σ' H2:=k;rcases hk with ⟨ho,hf,hfz⟩|⟨ho,he⟩
  ·obtain⟨S',s1,s2⟩:=ss.setOwn hfz ho (by rw[ss.lenN];exact hlt) p.same (p.fr hf);exact k _ _ S' s1 s2
  ·exact k _ _ S ((ss.up p.same).set ho (p.st he)) (qh p.same)
theorem vz(O:XO w g c E X){tg e:Expr}{itg:Tg}{ie:EV.E}{pos:Pos}(he:PE X e (tE w g c E ie))(hg:PG X tg (gT X.K itg))(hf:iN c itg)(hes:esc ie=true)(hs:swapsWithSole [tg] e pos.line X.env=pure false)(hw:swappedStores [tg] e X.env=pure none)(h1:(assignEach [tg] X.env).map (·.2)=[assign tg X.env]) :
  PS X (.Assign [tg] e pos) (tS w g c E fr (.set itg ie)):=
 PS.imp (rN he hg hs hw h1) λD σ H ⟨H0,B,τ,S,ss,h⟩=>by
  simp only[zR,cA,cK,cJ,zL,cF,zV,cB,cH,cG,c_,zY,dk,cY,dq,dh,dg,cZ,cX,de,zZ]at h;refine s_e ss h λd v H' _ p k=>?_
  cases q:store itg d τ with
  |ok τ'=>
   rw[q]at k;exact(ss.up p.same).store O.K hf (p.st hes) q λσ' s1=>k σ' H' S s1 (qh p.same)
  |ex z=>cases itg<;>simp only[store]at q<;>first|cases q|(split at q<;>first|cases q|(split at q<;>first|(exact absurd q (oa))|cases q))
  |no=>rw[q]at k;exact k.elim
end
section
variable{w:W}{g:Gc}{c:Cc}{E:XK}{fr:Bool}{X:Cx}{H0:Hp}{B:Sh}{τ:Env}{σ:L2.St}{H H':Hp}{S:Sh}{Ed:Ends}
theorem gR{i:Nat}{d:EV.D}(h:zD τ i=.ok d):τ[i]? = some (some d):=by
 unfold zD at h;split at h
 ·rename_i q;cases h;exact q
 ·cases h
theorem yI(O:XO w g c E X)(hfz:c.frz=false){x:Str}{i:Nat}{a:Expr}{ia:EV.E}{p ap cp pos:Pos}(h:loc c x=some i)(ho:c.own.contains x=true)(ha:PE X a (tE w g c E ia))(hes:esc ia=true)(hs:isStar a=false)(hl:(ap.endLine==cp.line)=true) :
  PS X (.Expr (.Call (.Attribute (.Name x p) "append" ap) [a] [] cp) pos) (tS w g c E fr (.app i ia)):=by
 obtain⟨h1,h2,h3,h4⟩:=dY h;have hv:PE X (.Name x p) (fL i):=fV (i:=i) (by rw[O.N];exact h1) (by unfold fk;rw[O.nm];exact h2) h3 h4;have hst:=qm (es:=[]) (env:=X.env) hs;have hb:=jz (X:=X) (apos:=ap) (cpos:=cp) PySem.F.plainAttrs_list PySem.F.slot_list_append PySem.F.type_list_append uL hv (zP ha d_ hst) rfl (by rw[hst];rfl) hl hst rfl;refine PS.imp (jE hb rfl) λD σ H ⟨H0,B,τ,S,ss,k⟩=>?_
 simp only[zR,cA,cK,cJ,zL,cF,zV,cB,cH,cG,c_,zY,dk,cY,dq,dh,dg,cZ,cX,de,zZ]at k;cases q:zD τ i with
 |ex z=>unfold zD at q;split at q<;>cases q
 |no=>rw[q]at k;exact k.elim
 |ok d0=>
  rw[q]at k;have q':=gR q;have hi:zJ c i:=⟨x,h1,ho⟩
  obtain⟨ad,oo,z1,y1,y2,y3⟩:=ss.own i d0 hi q';cases y3 with
  |dic kvs=>exact k.elim
  | @lst ds vs y3=>
  refine⟨_,z1,.inl ⟨rfl,vs,SqL.of y2⟩,s_e ss k λd v H1 _ p1 k1=>?_⟩
  try simp only at k1
  by_cases hz:ds.length<SZ
  ·rw[if_pos hz]at k1;have s1:=ss.up p1.same;have y2':=p1.same _ _ y2;obtain⟨s2,s3⟩:=s1.change (vs:=vs++[v]) (ds:=ds++[d]) hfz hi q' z1 ((y3.mono (qh p1.same)).append (.cons (p1.st hes) .nil));exact⟨ad,vs,v,rfl,rfl,y2',by rw[<-y3.length,bu];unfold SZ at hz;lia,k1 _ _ S s2 ((qh p1.same).trans s3)⟩
  ·rw[if_neg hz]at k1;exact k1.elim
theorem xW(O:XO w g c E X)(hfz:c.frz=false){x:Str}{i:Nat}{a:Expr}{ia:EV.E}{p ap cp pos:Pos}(h:loc c x=some i)(ho:c.own.contains x=true)(ha:PE X a (tE w g c E ia))(hes:esc ia=true)(hs:isStar a=false)(hl:(ap.endLine==cp.line)=true) :
  PS X (.Expr (.Call (.Attribute (.Name x p) "update" ap) [a] [] cp) pos) (tS w g c E fr (.dupd i ia)):=by
 obtain⟨h1,h2,h3,h4⟩:=dY h;have hv:PE X (.Name x p) (fL i):=fV (i:=i) (by rw[O.N];exact h1) (by unfold fk;rw[O.nm];exact h2) h3 h4;have hst:=qm (es:=[]) (env:=X.env) hs;have hb:=jz (X:=X) (apos:=ap) (cpos:=cp) PySem.F.plainAttrs_dict PySem.F.slot_dict_update PySem.F.type_dict_update yp hv (zP ha d_ hst) rfl (by rw[hst];rfl) hl hst rfl;refine PS.imp (jE hb rfl) λD σ H ⟨H0,B,τ,S,ss,k⟩=>?_
 simp only[zR,cA,cK,cJ,zL,cF,zV,cB,cH,cG,c_,zY,dk,cY,dq,dh,dg,cZ,cX,de,zZ]at k;cases q:zD τ i with
 |ex z=>unfold zD at q;split at q<;>cases q
 |no=>rw[q]at k;exact k.elim
 |ok d0=>
  rw[q]at k;have q':=gR q;have hi:zJ c i:=⟨x,h1,ho⟩
  obtain⟨ad,oo,z1,y1,y2,y3⟩:=ss.own i d0 hi q';cases y3 with
  |lst r=>exact k.elim
  |dic kvs=>
   refine⟨_,z1,.inr (.inr (.inl ⟨rfl,.inl ⟨_,y2⟩⟩)),s_e ss k λd v H1 _ p1 k1=>?_⟩;cases d with
   |dic ms=>
    simp only at k1;by_cases hz:kvs.length+ms.length<SZ
    ·rw[if_pos hz]at k1;have s1:=ss.up p1.same;have y2':=p1.same _ _ y2;have hr:=p1.st hes;cases hr with
     | @dic b _ hb'=>
      obtain⟨b1,b2⟩:=b7.mp hb';obtain⟨s2,s3⟩:=s1.changeO (d1:=.dic (dA kvs ms)) (o1:=.dK (bM (dA kvs ms))) hfz hi q' z1 (.dic _);have hab:ad≠b:=λz=>by
       have:S.h ad=true:=by rw[ss.hd,y1,Bool.or_true]
       rw[z,b1]at this;cases this
      refine⟨ad,b,bM kvs,bM ms,rfl,rfl,hab,y2',b2,?_,?_⟩
      ·rw[lC,lC,bu];unfold SZ at hz;lia
      ·rw[vi];exact k1 _ _ S s2 ((qh p1.same).trans s3)
    ·rw[if_neg hz]at k1;exact k1.elim
   |_=>exact k1.elim
theorem BS(O:XO w g c E X)(hfz:c.frz=false){x:Str}{i:Nat}{a:Expr}{ia:EV.E}{p ap cp pos:Pos}(h:loc c x=some i)(ho:c.own.contains x=true)(ha:PE X a (tE w g c E ia))(hes:esc ia=true)(hs:isStar a=false)(hl:(ap.endLine==cp.line)=true) :
  PS X (.Expr (.Call (.Attribute (.Name x p) "extend" ap) [a] [] cp) pos) (tS w g c E fr (.ext i ia)):=by
 obtain⟨h1,h2,h3,h4⟩:=dY h;have hv:PE X (.Name x p) (fL i):=fV (i:=i) (by rw[O.N];exact h1) (by unfold fk;rw[O.nm];exact h2) h3 h4;have hst:=qm (es:=[]) (env:=X.env) hs;have hb:=jz (X:=X) (apos:=ap) (cpos:=cp) PySem.F.plainAttrs_list PySem.F.slot_list_extend PySem.F.type_list_extend yn hv (zP ha d_ hst) rfl (by rw[hst];rfl) hl hst rfl;refine PS.imp (jE hb rfl) λD σ H ⟨H0,B,τ,S,ss,k⟩=>?_
 simp only[zR,cA,cK,cJ,zL,cF,zV,cB,cH,cG,c_,zY,dk,cY,dq,dh,dg,cZ,cX,de,zZ]at k;cases q:zD τ i with
 |ex z=>unfold zD at q;split at q<;>cases q
 |no=>rw[q]at k;exact k.elim
 |ok d0=>
  rw[q]at k;have q':=gR q;have hi:zJ c i:=⟨x,h1,ho⟩
  obtain⟨ad,oo,z1,y1,y2,y3⟩:=ss.own i d0 hi q';cases y3 with
  |dic kvs=>exact k.elim
  | @lst ds vs y3=>
  refine⟨_,z1,.inl ⟨rfl,vs,SqL.of y2⟩,s_e ss k λd v H1 _ p1 k1=>?_⟩;cases d with
  |tup ys=>
   simp only at k1;by_cases hz:ds.length+ys.length<SZ
   ·rw[if_pos hz]at k1;have s1:=ss.up p1.same;have y2':=p1.same _ _ y2;obtain⟨b,ws,rfl,hb,rw'⟩:∃b ws,v=.ref b/\SqT g.K (hid H1 S) b ws/\qw g (hid H1 S) ys ws:=by
     cases p1.st hes with
     |tup q r=>exact⟨_,_,rfl,q,r⟩
    obtain⟨s2,s3⟩:=s1.change (vs:=vs++ws) (ds:=ds++ys) hfz hi q' z1 ((y3.mono (qh p1.same)).append rw');exact⟨ad,b,vs,ws,rfl,rfl,y2',by rw[O.K];exact zE zH hb,by rw[<-y3.length,<-rw'.length,bu];unfold SZ at hz;lia,k1 _ _ S s2 ((qh p1.same).trans s3)⟩
   ·rw[if_neg hz]at k1;exact k1.elim
  |_=>exact k1.elim
theorem Hm(O:XO w g c E X)(hfz:c.frz=false){x y:Str}{i j:Nat}{p ap cp px q1 pos:Pos}{k0}(hx:dP c x=some i)(hy:loc c y=some j)(hox:c.own.contains x=false)(hoy:c.own.contains y=true)(hl:(ap.endLine==cp.line)=true) :
  PS X (.Assign [.Name x px] (.Call (.Attribute (.Name y p) "pop" ap) [.Constant (.int 0) k0 q1] [] cp) pos) (tS w g c E fr (.pop0 i j)):=by
 obtain⟨h1,h2,h3,h4⟩:=dY hy;obtain⟨l1,l2⟩:=eU hx;obtain⟨l3,_⟩:=dY l1;have hv:PE X (.Name y p) (fL j):=fV (i:=j) (by rw[O.N];exact h1) (by unfold fk;rw[O.nm];exact h2) h3 h4;have hst:aY [Expr.Constant (.int 0) k0 q1] X.env=(false,eval (Expr.Constant (.int 0) k0 q1) X.env)::aY [] X.env:=rfl;have hb:=jz (X:=X) (apos:=ap) (cpos:=cp) PySem.F.plainAttrs_list PySem.F.slot_list_pop PySem.F.type_list_pop Fs hv (zP rB d_ hst) rfl rfl hl hst rfl;refine PS.imp (k9 (i:=i) (by rw[O.N];exact O.nd) (by rw[O.N];exact l3) (by unfold L2.Loc;rw[O.nm];rcases l2 with z|z;exact .inl z;exact .inr z.1) hb (i0 rfl) (by
  rcases l2 with z|z
  ·exact .inr (by rw[O.nm];exact z)
  ·exact .inl (O.fn x z.2))) λD σ H ⟨H0,B,τ,S,ss,k⟩=>?_
 simp only[zR,cA,cK,cJ,zL,cF,zV,cB,cH,cG,c_,zY,dk,cY,dq,dh,dg,cZ,cX,de,zZ]at k;cases q:zD τ j with
 |ex z=>unfold zD at q;split at q<;>cases q
 |no=>rw[q]at k;exact k.elim
 |ok d0=>
  rw[q]at k;have q':=gR q;have hi:zJ c j:=⟨y,h1,hoy⟩
  obtain⟨ad,oo,z1,y1,y2,y3⟩:=ss.own j d0 hi q';cases y3 with
  |dic kvs=>exact k.elim
  | @lst ds vs y3=>
   cases ds with
   |nil=>exact k.elim
   |cons d ds=>
    cases y3 with
    | @cons _ _ v vs r rs=>
     obtain⟨s2,s3⟩:=ss.change (vs:=vs) (ds:=ds) hfz hi q' z1 rs;have hni:¬ zJ c i:=λ⟨z,z1,z2⟩=>by rw[l3]at z1;cases z1;rw[hox]at z2;cases z2
     have s4:=s2.set hni (r.mono s3);exact⟨_,z1,.inl ⟨rfl,_,SqL.of y2⟩,ad,v::vs,0,0,v,rfl,rfl,y2,by decide,by decide,by simp[seqIndex?],rfl,k _ _ S s4 s3⟩
theorem Aq(O:XO w g c E X)(hfz:c.frz=false){x:Str}{i:Nat}{k e:Expr}{ik ie:EV.E}{p sp pos:Pos}(h:loc c x=some i)(ho:c.own.contains x=true)(hk:PE X k (tE w g c E ik))(he:PE X e (tE w g c E ie))(hes:esc ie=true)(hsl:isSlice k=false)(hc:fN e=false) :
  PS X (.Assign [.Subscript (.Name x p) k sp] e pos) (tS w g c E fr (.seti i ik ie)):=by
 obtain⟨h1,h2,h3,h4⟩:=dY h;have hv:PE X (.Name x p) (fL i):=fV (i:=i) (by rw[O.N];exact h1) (by unfold fk;rw[O.nm];exact h2) h3 h4;have hg:PG X (.Subscript (.Name x p) k sp) (nU (fL i) (tE w g c E ik) (λx y v H Q=>p9 x y v H Q\/uU x y v H Q)):=yx hv hk (set_list.or (vW O.units)) (by intro v;cases k<;>first|rfl|(simp[isSlice]at hsl));refine PS.imp (rN he hg (by simp only[swapsWithSole];exact i0 hc) rfl rfl) λD σ H ⟨H0,B,τ,S,ss,k⟩=>?_
 simp only[zR,cA,cK,cJ,zL,cF,zV,cB,cH,cG,c_,zY,dk,cY,dq,dh,dg,cZ,cX,de,zZ]at k;refine s_e ss k λd v H1 _ p1 k1=>?_
 cases q:zD τ i with
 |ex z=>unfold zD at q;split at q<;>cases q
 |no=>rw[q]at k1;exact k1.elim
 |ok d0=>
  rw[q]at k1;have q':=gR q;have hi:zJ c i:=⟨x,h1,ho⟩
  have s1:=ss.up p1.same;obtain⟨ad,oo,z1,y1,y2,y3⟩:=s1.own i d0 hi q';refine⟨_,z1,s_e s1 (dD.up k1 (qh p1.same)) λn vn H2 _ p2 k2=>?_⟩;cases y3 with
  | @lst ds vs y3=>
   cases n with
   |int j=>
    simp only at k2;cases qj:ixN ds.length j with
    |none=>rw[qj]at k2;exact k2.elim
    |some m=>
     rw[qj]at k2;have s2:=s1.up p2.same;have y2':=p2.same _ _ y2;obtain⟨s3,s4⟩:=s2.change (vs:=vs.set m v) (ds:=ds.set m d) hfz hi q' z1 ((y3.mono (qh p2.same)).set ((p1.st hes).mono (qh p2.same)) m);exact .inl ⟨ad,vs,j,m,rfl,p2.rb.int,y2',by rw[<-y3.length];exact qj,k2 _ _ S s3 ((qh p2.same).trans s4)⟩
   |_=>exact k2.elim
  |dic kvs=>
   cases n with
   |int j=>
    cases d with
    |int z=>
     simp only at k2;by_cases hz:kvs.length<SZ
     ·rw[if_pos hz]at k2;have s2:=s1.up p2.same;have y2':=p2.same _ _ y2;obtain⟨s3,s4⟩:=s2.changeO (d1:=.dic (cD kvs j z)) (o1:=.dK (bM (cD kvs j z))) hfz hi q' z1 (.dic _);have hv:=p1.rb.int;subst hv;refine .inr ⟨ad,kvs,j,z,rfl,p2.rb.int,rfl,y2',?_,k2 _ _ S s3 ((qh p2.same).trans s4)⟩;rw[bu];unfold SZ at hz;lia
     ·rw[if_neg hz]at k2;exact k2.elim
    |_=>exact k2.elim
   |_=>exact k2.elim
theorem Ga:PSs X [] (tSs w g c E fr .nil):=PSs.imp vS λD σ H ⟨H0,B,τ,S,ss,h⟩=>by
 simp only[qc]at h;exact h σ H S ss (qe.refl _)
theorem uy{s:Stmt}{r:List Stmt}{is:EV.S}{ir:Ss}(h1:PS X s (tS w g c E fr is))(h2:PSs X r (tSs w g c E fr ir)):PSs X (s::r) (tSs w g c E fr (.cons is ir)):=
 PSs.imp (Ab h1 h2) λD σ H ⟨H0,B,τ,S,ss,h⟩=>by
  simp only[qc]at h;refine⟨H0,B,τ,S,ss,?_⟩;cases q:evS w is τ with
  |nx τ'=>rw[q]at h;exact λσ' H' S' s' e=>⟨H0,B,τ',S',s',dD.up h e⟩
  |bk τ'=>rw[q]at h;exact h
  |ct τ'=>rw[q]at h;exact h
  |rt d=>rw[q]at h;exact h
  |ex k=>rw[q]at h;exact h
  |no=>rw[q]at h;exact h
theorem Gv{t:Expr}{a b:List Stmt}{it:T}{ia ib:Ss}{pos:Pos}(ht:PT X t (tT w g c E it))(ha:PSs X a (tSs w g c E fr ia))(hb:PSs X b (tSs w g c E fr ib)):PS X (.If t a b pos) (tS w g c E fr (.ite it ia ib)):=
 PS.imp (Eu ht ha hb) λD σ H ⟨H0,B,τ,S,ss,h⟩=>by
  simp only[zR,cA,cK,cJ,zL,cF,zV,cB,cH,cG,c_,zY,dk,cY,dq,dh,dg,cZ,cX,de,zZ]at h;refine s_t ss h λz H1 _ s1 k1=>?_
  cases z with
  |true=>exact⟨H0,B,τ,S,ss.up s1,dD.up k1 (qh s1)⟩
  |false=>exact⟨H0,B,τ,S,ss.up s1,dD.up k1 (qh s1)⟩
theorem PS.nox'{st:Stmt}{t:TS}(h:PS X.nox st t):PS X st t:=λpins s σ H D I hw=>
 b5 (h pins s σ H D (I.wish _) hw) (λ_ _ q=>q.unwish) λ_ _ z=>bC z
theorem XO.nox(O:XO w g c E X):XO w g c E0 X.nox:=⟨O.K,O.nm,O.N,O.nd,O.calm,O.units,O.fn,O.kind,mz rfl rfl,O.gok,O.fns,O.sub⟩
theorem XS.nox(O:XS w g c E X):XS w g c E0 X.nox:=⟨O.toXO.nox,λ_ _ _ _ _ _ _ _ _ _ _ z=>bC z,O.exc,O.cat,O.frm,O.gh⟩
theorem oB{o:O}(h:dD g c E fr H0 B H S Ed o.noEx):dD g c E0 fr H0 B H S Ed o/\(∀k,o≠.ex k)/\o≠.no:=by
 cases o with
 |ex k=>exact h.elim
 |no=>exact h.elim
 |nx t=>exact⟨h,(λ_ z=>by cases z),(λz=>by cases z)⟩
 |bk t=>exact⟨h,(λ_ z=>by cases z),(λz=>by cases z)⟩
 |ct t=>exact⟨h,(λ_ z=>by cases z),(λz=>by cases z)⟩
 |rt t=>exact⟨h,(λ_ z=>by cases z),(λz=>by cases z)⟩
noncomputable def frozen(c:Cc)(b:Bool):Cc:={c with frz:=c.frz||b}
theorem XS.froze(O:XS w g c E X){b:Bool}:XS w g (frozen c b) E X:=
 ⟨⟨O.K,O.nm,O.N,O.nd,O.calm,O.units,O.fn,O.kind,O.pass,O.gok,O.fns,O.sub⟩,O.thr,O.exc,O.cat,O.frm,O.gh⟩
noncomputable def fo(B:Sh)(b:Bool)(σ:L2.St)(H:Hp):Sh:=if b=true then ⟨B.o,B.h,σ,H⟩else B
theorem nB{b:Bool}:(fo B b σ H).h=B.h:=by unfold fo;split<;>rfl
theorem DN{b:Bool}{H1:Hp}:hid H1 (fo B b σ H)=hid H1 B:=by funext a;unfold hid;rw[nB]
theorem SS.froze(b:Bool)(ss:SS g c H0 B τ σ H S):SS g (frozen c b) H0 (fo B b σ H) τ σ H S:=by
 refine⟨⟨ss.se.len,ss.se.val,ss.se.sub⟩,ss.lenN,ss.same,?_,?_,ss.new,ss.own,ss.inj,λz=>?_⟩
 ·unfold fo;split
  ·exact ss.sub0
  ·exact ss.sub0
 ·rw[nB];exact ss.hd
 ·cases b with
  |true=>exact⟨λi _=>rfl,qe.refl _⟩
  |false=>
   have z:(c.frz||false)=true:=z;rw[Bool.or_false]at z;exact ss.frz z
theorem SS.thaw{b:Bool}{σ1:L2.St}{H1:Hp}{τ1:Env}{S1:Sh}(s0:SS g c H0 B τ1 σ1 H1 S1)(ss:SS g (frozen c b) H0 (fo B b σ1 H1) τ σ H S):SS g c H0 B τ σ H S:=by
 refine⟨⟨ss.se.len,ss.se.val,ss.se.sub⟩,ss.lenN,ss.same,s0.sub0,?_,ss.new,ss.own,ss.inj,λz=>?_⟩
 ·have:=ss.hd;rw[nB]at this;exact this
 ·have f:=ss.frz (by show (c.frz||b)=true;rw[z];rfl);cases b with
  |true=>exact⟨λi hi=>(f.1 i hi).trans ((s0.frz z).1 i hi),(s0.frz z).2.trans f.2⟩
  |false=>exact f
theorem SS.iced{b:Bool}{σ1:L2.St}{H1:Hp}(hb:b=true)(ss:SS g (frozen c b) H0 (fo B b σ1 H1) τ σ H S):qe H1 H:=by
 subst hb;exact(ss.frz (by show (c.frz||true)=true;rw[Bool.or_true])).2
theorem He(O:XO w g c E X)(hc:X.calm=true){tg it:Expr}{b:List Stmt}{itg:Tg}{iit:It}{ib:Ss}{pos:Pos}(hi:PI X.nox tg it (tIt w g c E0 iit))(hg:PG X.nox tg (gT X.K itg))(hf:iN c itg)(hb:PSs X.nox b (tSs w g (frozen c (owned iit)) E0 fr ib))(hs:zI it=true) :
  PS X (.For tg it b [] pos) (tS w g c E fr (.for itg iit ib)):=by
 refine PS.nox' (PS.imp (BG (X:=X.nox) PassesOwn.never hc hi hg hb (λx=>by cases it<;>first|rfl|(simp[zI]at hs))) λD σ H ⟨H0,B,τ,S,ss,h⟩=>?_);simp only[zR,cA,cK,cJ,zL,cF,zV,cB,cH,cG,c_,zY,dk,cY,dq,dh,dg,cZ,cX,de,zZ]at h;obtain⟨h,nex,nno⟩:=oB h;cases q:evI w iit τ with
 |ex z=>rw[q]at nex;exact absurd rfl (nex z)
 |no=>rw[q]at nno;exact absurd rfl nno
 |ok ds=>
  rw[q]at h nex nno;simp only[R.out_ok]at h nex nno;refine⟨τ,S,ss.se,?_⟩;rw[q];intro J H1 s1 kW kS;generalize hr:dZ itg (λσ=>qc w ib σ) ds τ=r at h nex nno;refine⟨λi m σ' H'=>m=ds.length-i/\i<=ds.length/\∃τ' S',SS g (frozen c (owned iit)) H0 (fo B (owned iit) σ H1) τ' σ' H' S'/\qe (hid H1 S) (hid H' S')/\dZ itg (λσ=>qc w ib σ) (ds.drop i) τ'=r,⟨ds.length,rfl,bx _,τ,S,(ss.up s1).froze _,qe.refl _,hr⟩,?_⟩;rintro i m σ' H' ⟨rfl,hi',τ',S',ss',e',hl⟩;have gg:Goes g J ds H' S':=by
   cases hw:owned iit with
   |false=>exact kS hw H' S' e' ss'.se.sub
   |true=>exact kW H' S' (ss'.iced hw) e' ss'.se.sub
  obtain⟨g1,g2⟩:=gg;have eH:qe (hid H S) (hid H' S'):=(qh s1).trans e';by_cases hlt:i<ds.length
  ·have hd:ds[i]? = some ds[i]:=List.getElem?_eq_getElem hlt;obtain⟨go1,go2⟩:=g2 i ds[i] hd;refine .inr ⟨go1,λσ2 H2=>∃τ' S',SS g (frozen c (owned iit)) H0 (fo B (owned iit) σ H1) τ' σ2 H2 S'/\qe (hid H1 S) (hid H2 S')/\dZ itg (λσ=>qc w ib σ) (ds.drop (i+1)) τ'=r,λσ2 H2 z=>⟨ds.length-(i+1),by lia,rfl,hlt,z⟩,λx H2 hy=>?_⟩;obtain⟨s2,rx⟩:=go2 x H2 hy;rw[fU hlt]at hl;simp only[dZ]at hl;cases q1:store itg ds[i] τ' with
   |ex z=>rw[q1]at hl;exact absurd hl.symm (nex z)
   |no=>rw[q1]at hl;exact absurd hl.symm nno
   |ok τ1=>
    rw[q1]at hl;simp only[R.out_ok]at hl;refine(ss'.up s2).store O.K hf rx q1 λσ1 ss1=>⟨H0,_,τ1,S',ss1,?_⟩
    cases q2:qc w ib τ1 with
    |nx τ2=>rw[q2]at hl;exact λσ2 H3 S3 s3 e3=>⟨τ2,S3,s3,(e'.trans (qh s2)).trans e3,hl⟩
    |ct τ2=>rw[q2]at hl;exact λσ2 H3 S3 s3 e3=>⟨τ2,S3,s3,(e'.trans (qh s2)).trans e3,hl⟩
    |bk τ2=>
     rw[q2]at hl;simp only at hl;rw[<-hl]at h;exact λσ2 H3 S3 s3 e3=>h σ2 H3 S3 ((ss.up s1).thaw s3) ((eH.trans (qh s2)).trans e3)
    |rt d=>
     rw[q2]at hl;simp only at hl;rw[<-hl]at h;refine λv H3 s3 r3 f3=>h v H3 s3 (by rw[DN]at r3;exact r3) λz=>?_
     have f3:=f3 z;unfold fo at f3;split at f3
     ·exact f3
     ·exact f3
    |ex z=>rw[q2]at hl;exact absurd hl.symm (nex z)
    |no=>rw[q2]at hl;exact absurd hl.symm nno
  ·have e:i=ds.length:=by lia
   subst e;rw[List.drop_length]at hl;simp only[dZ]at hl;rw[<-hl]at h;exact .inl ⟨g1 ds.length (aG _),h σ' H' S' ((ss.up s1).thaw ss') eH⟩
theorem GF{t:Expr}{b:List Stmt}{it:T}{ib:Ss}{pos:Pos}(ht:PT X.nox t (tT w g c E0 it))(hb:PSs X.nox b (tSs w g c E0 fr ib)):PS X (.While t b [] pos) (tS w g c E fr (.while it ib)):=by
 refine PS.nox' (PS.imp (wR (X:=X.nox) PassesOwn.never ht hb) λD σ H ⟨H0,B,τ,S,ss,h⟩=>?_);simp only[zR,cA,cK,cJ,zL,cF,zV,cB,cH,cG,c_,zY,dk,cY,dq,dh,dg,cZ,cX,de,zZ]at h;obtain⟨h,nex,nno⟩:=oB h;generalize hr:eQ (λσ=>evT w it σ) (λσ=>qc w ib σ) f_ τ=r at h nex nno;refine⟨λm σ' H'=>∃τ' S',SS g c H0 B τ' σ' H' S'/\qe (hid H S) (hid H' S')/\eQ (λσ=>evT w it σ) (λσ=>qc w ib σ) m τ'=r,⟨f_,τ,S,ss,qe.refl _,hr⟩,?_⟩;rintro m σ' H' ⟨τ',S',ss',e',hl⟩;cases m with
 |zero=>simp only[eQ]at hl;exact absurd hl.symm nno
 |succ m=>
  simp only[eQ]at hl;cases q:evT w it τ' with
  |ex z=>rw[q]at hl;exact absurd hl.symm (nex z)
  |no=>rw[q]at hl;exact absurd hl.symm nno
  |ok z=>
   rw[q]at hl;simp only[R.out_ok]at hl;refine⟨τ',S',ss'.se,?_⟩;rw[q];intro H1 s1;cases z with
   |false=>
    simp only[bD,if_false]at hl;rw[if_neg b9];rw[<-hl]at h;exact h σ' H1 S' (ss'.up s1) (e'.trans (qh s1))
   |true=>
    simp only[if_true]at hl;rw[if_pos rfl];refine⟨λσ2 H2=>∃τ' S',SS g c H0 B τ' σ2 H2 S'/\qe (hid H S) (hid H2 S')/\eQ (λσ=>evT w it σ) (λσ=>qc w ib σ) m τ'=r,λσ2 H2 z=>⟨m,Nat.lt_succ_self m,z⟩,H0,B,τ',S',ss'.up s1,?_⟩;have e1:=e'.trans (qh (S:=S') s1);cases q2:qc w ib τ' with
    |nx τ2=>rw[q2]at hl;exact λσ2 H3 S3 s3 e3=>⟨τ2,S3,s3,e1.trans e3,hl⟩
    |ct τ2=>rw[q2]at hl;exact λσ2 H3 S3 s3 e3=>⟨τ2,S3,s3,e1.trans e3,hl⟩
    |bk τ2=>
     rw[q2]at hl;simp only at hl;rw[<-hl]at h;exact λσ2 H3 S3 s3 e3=>h σ2 H3 S3 s3 (e1.trans e3)
    |rt d=>rw[q2]at hl;simp only at hl;rw[<-hl]at h;exact h
    |ex z=>rw[q2]at hl;exact absurd hl.symm (nex z)
    |no=>rw[q2]at hl;exact absurd hl.symm nno
theorem CF(O:XS w g c E X)(hc:X.calm=true)(ht:c.thr=true){x:Str}{a:Expr}{as:List Expr}{ies:Es}{np cp pos:Pos}{n:Nat}(h:glob c x=some .exc)(ha:PA X (a::as) (tA w g c E ies))(hes:cEs n c (a::as)=some ies)(hn:(a::as).length<=100000) :
  PS X (.Raise (some (.Call (.Name x np) (a::as) [] cp)) none pos) (tS w g c E fr (.raise x ies)):=λpins s σ H D I ⟨H0,B,τ,S,ss,h⟩=>by
 simp only[zR,cA,cK,cJ,zL,cF,zV,cB,cH,cG,c_,zY,dk,cY,dq,dh,dg,cZ,cX,de,zZ]at h;exact bC h
end
section
variable{w:W}{g:Gc}{c:Cc}{E:XK}{fr:Bool}{X:Cx}{H0:Hp}{B:Sh}{τ:Env}{σ:L2.St}{H H':Hp}{S:Sh}{Ed:Ends}
theorem Fp{s:Stmt}:PS X s (tS w g c E fr .unk):=λpins s σ H D I ⟨H0,B,τ,S,ss,h⟩=>by
 simp only[zR,cA,cK,cJ,zL,cF,zV,cB,cH,cG,c_,zY,dk,cY,dq,dh,dg,cZ,cX,de,zZ]at h;exact h.elim
theorem BL(O:XO w g c E X)(hfz:c.frz=false){x:Str}{i:Nat}{k a:Expr}{ik ia:EV.E}{p ap cp pos:Pos}(h:loc c x=some i)(ho:c.own.contains x=true)(hk:PE X k (tE w g c E ik))(ha:PE X a (tE w g c E ia))(hes:esc ia=true)(hsk:isStar k=false)(hs:isStar a=false)(hl:(ap.endLine==cp.line)=true) :
  PS X (.Expr (.Call (.Attribute (.Name x p) "insert" ap) [k,a] [] cp) pos) (tS w g c E fr (.ins i ik ia)):=by
 obtain⟨h1,h2,h3,h4⟩:=dY h;have hv:PE X (.Name x p) (fL i):=fV (i:=i) (by rw[O.N];exact h1) (by unfold fk;rw[O.nm];exact h2) h3 h4;have hst:=qm (es:=[]) (env:=X.env) hs;have hst2:=qm (es:=[a]) (env:=X.env) hsk;have hb:=jz (X:=X) (apos:=ap) (cpos:=cp) PySem.F.plainAttrs_list PySem.F.slot_list_insert PySem.F.type_list_insert Dt hv (zP hk (zP ha d_ hst) hst2) rfl (by rw[hst2,hst];rfl) hl hst2 (by rw[hst];rfl);refine PS.imp (jE hb rfl) λD σ H ⟨H0,B,τ,S,ss,z⟩=>?_
 simp only[zR,cA,cK,cJ,zL,cF,zV,cB,cH,cG,c_,zY,dk,cY,dq,dh,dg,cZ,cX,de,zZ]at z;cases q:zD τ i with
 |ex y=>unfold zD at q;split at q<;>cases q
 |no=>rw[q]at z;exact z.elim
 |ok d0=>
  rw[q]at z;have q':=gR q;have hi:zJ c i:=⟨x,h1,ho⟩
  obtain⟨ad,oo,z1,y1,y2,y3⟩:=ss.own i d0 hi q';cases y3 with
  |dic kvs=>exact z.elim
  | @lst ds vs y3=>
  refine⟨_,z1,.inl ⟨rfl,vs,SqL.of y2⟩,s_e ss z λn vn H1 _ p1 k1=>?_⟩;have s1:=ss.up p1.same;refine s_e s1 (dD.up k1 (qh p1.same)) λd v H2 _ p2 k2=>?_
  simp only[i6]at k2;cases n with
  |int j=>
   simp only at k2;split at k2
   ·rename_i hj
    have s2:=s1.up p2.same;have y2':=p2.same _ _ (p1.same _ _ y2);have y3':=(y3.mono (qh p1.same)).mono (qh p2.same);obtain⟨s3,s4⟩:=s2.change (vs:=vs.take j.toNat++v::vs.drop j.toNat) (ds:=ds.take j.toNat++d::ds.drop j.toNat) hfz hi q' z1 ((y3'.take _).append (.cons (p2.st hes) (y3'.drop _)));have hn:=y3.length;exact⟨ad,vs,j,v,rfl,by rw[p1.rb.int],y2',by rw[<-hn,bu];have:=hj.2.2;unfold SZ at this;lia,hj.1,by rw[<-hn];exact hj.2.1,k2 _ _ S s3 ((qh p2.same).trans s4)⟩
   ·exact k2.elim
  |_=>exact k2.elim
theorem XS.held(O:XS w g c E X)(x:Addr):XS w g (kL c) E0 (X.held x):=
 ⟨⟨O.K,O.nm,O.N,O.nd,(λz=>by cases z),O.units,O.fn,O.kind,mz rfl rfl,(λy k z=>(O.gh y k z).2 _),(λz=>by cases z),O.sub⟩,(λz=>by cases z),(λy C z _=>absurd rfl (O.gh y .exc z).1),O.cat,O.frm,(λy k z=>by cases z)⟩
theorem Gz(O:XS w g c E X){x:Str}{b:List Stmt}{b₀:Stmt}{suite:List Stmt}{ib ih:Ss}{np hpos pos:Pos}(hfz:c.frz=false)(he:c.own=[])(hg:glob c x=some .exc\/glob c x=some .exk)
  (hb:∀(Eh:XK) pn Et,XS w g {c with thr:=false} Eh (X.inTry pn Et)->PSs (X.inTry pn Et) b (tSs w g {c with thr:=false} Eh false ib)) (hs:∀y,PSs (X.held y) (b₀::suite) (tSs w g (kL c) E0 false ih)) :
  PS X (.Try b [.ExceptHandler (some (.Name x np)) none (b₀::suite) hpos] [] [] pos) (tS w g c E false (.try ib x none ih)):=λpins s σ H D I ⟨H0,B,τ,S,ss,h⟩=>by
 simp only[zR,cA,cK,cJ,zL,cF,zV,cB,cH,cG,c_,zY,dk,cY,dq,dh,dg,cZ,cX,de,zZ]at h;exact bC h
theorem yf(O:XS w g c E X){x n:Str}{i:Nat}{b:List Stmt}{b₀:Stmt}{suite:List Stmt}{ib ih:Ss}{np hpos pos:Pos}(hfz:c.frz=false)(he:c.own=[])(hg:glob c x=some .exc\/glob c x=some .exk)(hi:c.N[i]? = some n)(hn:c.nm.lookup n=some .local)
  (hb:∀(Eh:XK) pn Et,XS w g {c with thr:=false} Eh (X.inTry pn Et)->PSs (X.inTry pn Et) b (tSs w g {c with thr:=false} Eh false ib)) (hs:∀y,PSs (X.held y) (b₀::suite) (tSs w g (kL c) E0 false ih)) :
  PS X (.Try b [.ExceptHandler (some (.Name x np)) (some n) (b₀::suite) hpos] [] [] pos) (tS w g c E false (.try ib x (some i) ih)):=λpins s σ H D I ⟨H0,B,τ,S,ss,h⟩=>by
 simp only[zR,cA,cK,cJ,zL,cF,zV,cB,cH,cG,c_,zY,dk,cY,dq,dh,dg,cZ,cX,de,zZ]at h;exact bC h
end
theorem Gi{e:Expr}{x:Str}{ap cp:Pos}{k a:Expr}(h:lF e=some (x,ap,k,a,cp)):∃p,e=.Call (.Attribute (.Name x p) "insert" ap) [k,a] [] cp:=by
 unfold lF at h;split at h
 ·split at h
  ·split at h
   ·split at h
    ·split at h
     ·rename_i hk
      simp only[aW,List.isEmpty_iff,beq_iff_eq]at hk;obtain⟨rfl,rfl⟩:=hk;cases h;exact⟨_,rfl⟩
     ·cases h
    ·cases h
   ·cases h
  ·cases h
 ·cases h
theorem xy{ts:List Expr}{k:Nat}{p:Pos}{e:Expr}{env:PySem.Env}(h:isTup e=true->nQ e=true):swappedStores [.Tuple ts k p] e env=pure none:=by
 cases e<;>first|rfl|skip
 rename_i vs k2 p2
 have h:vs.all (foldedForSure 8)=true:=h rfl;unfold swappedStores;simp only[h,if_true];split
 ·rfl
 ·split
  ·rfl
  ·split
   ·rfl
   ·rfl
section
variable{w:W}{g:Gc}{c:Cc}{E:XK}{fr:Bool}{X:Cx}
theorem DF(O:XO w g c E X){n:Nat}(hn:n<=100000){x:Str}{i:Nat}{elt:Expr}{gs:List cU}{sc:bf}{p p' pos:Pos}{ie:EV.E}(hl:dP c x=some i)(h:cE n c (.ListComp elt gs sc p)=some ie)(htw:lN (.ListComp elt gs sc p)=false)(hk:(zJ c i/\fresh c ie=true/\c.frz=false)\/(¬ zJ c i/\esc ie=true)) :
  PS X (.Assign [.Name x p'] (.ListComp elt gs sc p) pos) (tS w g c E fr (.set (.nm i) ie)):=by
 obtain⟨l1,l2⟩:=eU hl;obtain⟨l3,_⟩:=dY l1;have hlt:i<c.N.length:=(List.getElem?_eq_some_iff.mp l3).1;have hN:X.N.Nodup:=by rw[O.N];exact O.nd
 have hix:X.N[i]? = some x:=by rw[O.N];exact l3
 have hx:L2.Loc X.env.scope x:=by unfold L2.Loc;rw[O.nm];rcases l2 with z|z;exact .inl z;exact .inr z.1
 have hf:X.fn x=true\/X.env.scope.names.lookup x=some .local:=by
  rcases l2 with z|z
  ·exact .inr (by rw[O.nm];exact z)
  ·exact .inl (O.fn x z.2)
 cases hb:(X.env.blockKind==.function&&X.env.kindOf x==some .local&&p'.line==p.line && !(sc.names.any λ(n,k)=>n==x&&(k==.local||k==.cell)))with
 |false=>
  have hs:swapsWith (.ListComp elt gs sc p) (some (.Name x p')) pos.line X.env=pure false:=by rw[<-hb];rfl
  exact nj (e:=.ListComp elt gs sc p) (k9 hN hix hx ((snd n hn).e O h) hs hf) (λ_ _ _ z=>z) hlt hk
 |true=>
  have hs:swapsWith (.ListComp elt gs sc p) (some (.Name x p')) pos.line X.env=pure true:=by rw[<-hb];rfl
  match n,h with
  | 0,h=>cases h
  |m+1,h=>
   have ih:=snd (w:=w) (g:=g) m (Nat.le_of_succ_le hn);obtain⟨tgt,it,ifs,iit,itg,it',ie',rfl,hs1,hk1,h1,h2,h3,h4,he,rfl⟩:=rM h;have hS:eS X (cq sc.names) (hZ c sc.names) sc:=eS.of (by
    have e1:(λx=>c.nm.lookup x)=X.env.kindOf:=by funext x;show _=X.env.scope.names.lookup x;rw[O.nm]
    rw[<-e1,O.N];exact hk1.1)
   refine nj (e:=.ListComp elt [⟨tgt,it,ifs,0⟩] sc p) (Gq (tb:=λacc=>j6 acc (tE w g (eF c sc) E0 ie')) hN hix hx (O.calm hs1.1) hS (ih.i O h1 he.2) (λcl C s₀ H₀ fp=>?_) (by simp) hs hf (λx=>by
    have q:=hs1.2;cases it<;>first|rfl|cases q)) (λσ H Q q=>rO O hS he.1 q) hlt hk
   have OY:=O.comp hS.kind hk1.2 cl C s₀ H₀ fp;exact⟨kZ OY h2,ih.ifs OY h3,λacc=>o3 rfl (ih.e OY h4)⟩
end
structure iO(w:W)(g:Gc)(n:Nat):Prop where
 s:∀{c:Cc}{E:XK}{X:Cx} (O:XS w g c E X) {fr:Bool}{x:Stmt}{ir:EV.S},cS n c fr x=some ir->PS X x (tS w g c E fr ir)
 ss:∀{c:Cc}{E:XK}{X:Cx} (O:XS w g c E X) {fr:Bool}{x:List Stmt}{ir:Ss},cSs n c fr x=some ir->PSs X x (tSs w g c E fr ir)
section
variable{w:W}{g:Gc}{n:Nat}
theorem iO.ss_succ(ih:iO w g n){c:Cc}{E:XK}{X:Cx}(O:XS w g c E X){fr:Bool}{x:List Stmt}{ir:Ss}(h:cSs (n+1) c fr x=some ir):PSs X x (tSs w g c E fr ir):=by
 match x with
 | []=>simp only[cSs,cN]at h;subst h;exact Ga
 |s::r=>
  simp only[cSs,aS,aQ]at h;obtain⟨ir',h2,h⟩:=h;cases h;cases h1:cS n c fr s with
  |none=>exact uy Fp (ih.ss O h2)
  |some is=>exact uy (ih.s O h1) (ih.ss O h2)
theorem Bw{c:Cc}{x:Str}{i:Nat}(h:c.N[i]? = some x):zJ c i↔c.own.contains x=true:=⟨λ⟨y,h1,h2⟩=>by rw[h]at h1;cases h1;exact h2,λh2=>⟨x,h,h2⟩⟩
theorem yg{e:Expr}{x m:Str}{ap cp:Pos}{a:Expr}(h:mY e=some (x,m,ap,a,cp)):∃p,e=.Call (.Attribute (.Name x p) m ap) [a] [] cp:=by
 unfold mY at h;split at h
 ·split at h
  ·split at h
   ·split at h
    ·split at h
     ·rename_i hk;cases h;rw[List.isEmpty_iff]at hk;subst hk;exact⟨_,rfl⟩
     ·cases h
    ·cases h
   ·cases h
  ·cases h
 ·cases h
theorem AD{e:Expr}{x:Str}{ap cp:Pos}(h:mH e=some (x,ap,cp)):∃p k q,e=.Call (.Attribute (.Name x p) "pop" ap) [.Constant (.int 0) k q] [] cp:=by
 unfold mH at h;split at h
 ·split at h
  ·split at h
   ·split at h
    ·split at h
     ·split at h
      ·split at h
       ·rename_i hk
        simp only[aW,List.isEmpty_iff,beq_iff_eq,decide_eq_true_eq]at hk;obtain⟨⟨rfl,rfl⟩,rfl⟩:=hk;cases h;exact⟨_,_,_,rfl⟩
       ·cases h
      ·cases h
     ·cases h
    ·cases h
   ·cases h
  ·cases h
 ·cases h
theorem F3{e:Expr}{x:Str}{a:Expr}{as:List Expr}(h:raiseOf e=some (x,a,as)):∃p q,e=.Call (.Name x p) (a::as) [] q:=by
 unfold raiseOf at h;split at h
 ·split at h
  ·split at h
   ·split at h
    ·rename_i hk;cases h;rw[List.isEmpty_iff]at hk;subst hk;exact⟨_,_,rfl⟩
    ·cases h
   ·cases h
  ·cases h
 ·cases h
theorem iO.s_succ(ih:iO w g n)(hn:n<=100000){c:Cc}{E:XK}{X:Cx}(O:XS w g c E X){fr:Bool}{x:Stmt}{ir:EV.S}(h:cS (n+1) c fr x=some ir):PS X x (tS w g c E fr ir):=by
 have K:=snd (w:=w) (g:=g) n hn;unfold cS at h;split at h
 ·rename_i ts0 e pos
  split at h
  ·rename_i t0
   split at h
   ·-- x = e
    rename_i y p
    split at h
    ·rename_i hp
     obtain⟨p0,k0,q0,rfl⟩:=AD hp;simp only[aS,aQ]at h;obtain⟨i,hl,j,hj,h⟩:=h;split at h
     ·rename_i hc
      simp only[aW,bN]at hc;cases h;obtain⟨⟨⟨c1,c2⟩,c3⟩,c4⟩:=hc;exact Hm O.toXO c4 hl hj c2 c1 (by simpa using c3)
     ·cases h
    split at h
    ·cases h
    rename_i htw
    have htw:lN e=false:=by simpa using htw
    simp only[aS,aQ]at h;obtain⟨i,hl,ie,h1,h⟩:=h;obtain⟨l1,l2⟩:=eU hl;obtain⟨l3,_⟩:=dY l1;have ho:=Bw l3;have hk:((zJ c i/\fresh c ie=true/\c.frz=false)\/(¬ zJ c i/\esc ie=true))/\ir=.set (.nm i) ie:=by
     split at h
     ·rename_i hy
      split at h
      ·rename_i hf;cases h;exact⟨.inl ⟨ho.mpr hy,by simpa using hf⟩,rfl⟩
      ·cases h
     ·rename_i hy
      split at h
      ·rename_i hf;cases h;exact⟨.inr ⟨λz=>hy (ho.mp z),hf⟩,rfl⟩
      ·cases h
    obtain⟨hk,rfl⟩:=hk;cases hc:fN e with
    |false=>
     refine nj (e:=e) (k9 (i:=i) (by rw[O.N];exact O.nd) (by rw[O.N];exact l3) (by unfold L2.Loc;rw[O.nm];rcases l2 with z|z;exact .inl z;exact .inr z.1) (K.e O.toXO h1) (i0 hc) ?_) (λ_ _ _ z=>z) (List.getElem?_eq_some_iff.mp l3).1 hk;rcases l2 with z|z
     ·exact .inr (by rw[O.nm];exact z)
     ·exact .inl (O.fn y z.2)
    |true=>
     cases e with
     |ListComp elt gs sc p=>exact DF O.toXO hn hl h1 htw hk
     |SetComp elt gs sc p=>match n,h1 with
      | 0,h1=>cases h1
      |m+1,h1=>cases h1
     |DictComp a b gs sc p=>match n,h1 with
      | 0,h1=>cases h1
      |m+1,h1=>cases h1
     |_=>cases hc
   ·-- (a, b) = e
    rename_i ts k p
    simp only[aS,aQ]at h;obtain⟨tg,h1,ie,h2,h⟩:=h;split at h
    ·cases h
    ·rename_i hc
     have hc:((isTup e=true->nQ e=true)/\fN e=false)/\esc ie=true:=by simpa using hc
     cases h;refine vz O.toXO (K.e O.toXO h2) (kZ O.toXO h1) (pj h1) hc.2 (by simp only[swapsWithSole];exact i0 hc.1.2) ?_ rfl;exact xy hc.1.1
   ·-- x[k] = e
    split at h
    ·simp only[aS,aQ]at h;obtain⟨i,hl,ie,h1,ik,h2,h⟩:=h;split at h
     ·rename_i hc
      simp only[aW,bN]at hc;cases h;exact Aq O.toXO hc.2 (eU hl).1 hc.1.1.1.1 (K.e O.toXO h2) (K.e O.toXO h1) hc.1.1.1.2 hc.1.1.2 hc.1.2
     ·cases h
    ·cases h
   ·cases h
  ·cases h
 ·split at h
  ·-- x.insert(k, a)
   rename_i he
   obtain⟨p,rfl⟩:=Gi he;simp only[aS,aQ]at h;obtain⟨i,hl,ik,h0,ia,h1,h⟩:=h;split at h
   ·rename_i hc
    simp only[aW,bN,beq_iff_eq]at hc;cases h;obtain⟨⟨⟨⟨⟨c2,c3⟩,c4⟩,c5⟩,c6⟩,c7⟩:=hc;exact BL O.toXO c7 (eU hl).1 c2 (K.e O.toXO h0) (K.e O.toXO h1) c3 c4 c5 (by simpa using c6)
   ·cases h
  split at h
  ·-- x.append(a)
   rename_i he
   obtain⟨p,rfl⟩:=yg he;simp only[aS,aQ]at h;obtain⟨i,hl,ia,h1,h⟩:=h;split at h
   ·rename_i hm
    have hm:=eq_of_beq hm;subst hm;split at h
    ·rename_i hc
     simp only[aW,bN]at hc;cases h;obtain⟨⟨⟨⟨c2,c3⟩,c4⟩,c5⟩,c6⟩:=hc;exact xW O.toXO c6 (eU hl).1 c2 (K.e O.toXO h1) c3 c4 (by simpa using c5)
    ·cases h
   split at h
   ·rename_i hm
    have hm:=eq_of_beq hm;subst hm;split at h
    ·rename_i hc
     simp only[aW,bN]at hc;cases h;obtain⟨⟨⟨⟨c2,c3⟩,c4⟩,c5⟩,c6⟩:=hc;exact BS O.toXO c6 (eU hl).1 c2 (K.e O.toXO h1) c3 c4 (by simpa using c5)
    ·cases h
   split at h
   ·rename_i hc
    simp only[aW,bN,beq_iff_eq]at hc;cases h;obtain⟨⟨⟨⟨⟨rfl,c2⟩,c3⟩,c4⟩,c5⟩,c6⟩:=hc;exact yI O.toXO c6 (eU hl).1 c2 (K.e O.toXO h1) c3 c4 (by simpa using c5)
   ·cases h
  ·split at h
   ·cases h
   ·rename_i hc
    simp only[aS,aQ]at h;obtain⟨ie,h1,h⟩:=h;cases h;exact xv (K.e O.toXO h1) (by simpa using hc)
 ·split at h
  ·-- return e
   rename_i e
   simp only[aS,aQ]at h;obtain⟨ie,h1,h⟩:=h;split at h
   ·rename_i hf
    split at h
    ·rename_i y p
     split at h
     ·rename_i ho
      simp only[bF]at h;obtain⟨i,hl,rfl⟩:=h;exact Cy O.toXO hl ho
     ·cases h
    ·split at h
     ·rename_i hfr
      cases h;exact oF (K.e O.toXO h1) λ_=>hfr
     ·cases h
   ·rename_i hf
    cases h;exact oF (K.e O.toXO h1) λz=>absurd z hf
  ·split at h
   ·cases h
   ·rename_i hf
    cases h;exact xK (by simpa using hf)
 ·simp only[aS,aQ]at h;obtain⟨it,h1,ia,h2,ib,h3,h⟩:=h;cases h;exact Gv (K.t O.toXO h1) (ih.ss O h2) (ih.ss O h3)
 ·split at h
  ·cases h
  ·rename_i tg0 it0 b0 els0 pos0 hc
   have hc:(els0=[]/\c.calm=true)/\zI it0=true:=by simpa using hc
   obtain⟨⟨rfl,hc1⟩,hc2⟩:=hc;simp only[aS,aQ]at h;obtain⟨tg,h1,it,h2,h⟩:=h;split at h
   ·cases h
   ·rename_i ho
    have ho:gS it tg0=true:=by simpa using ho
    simp only[aQ]at h;obtain⟨ib,h3,h⟩:=h;cases h;exact He O.toXO (O.calm hc1) (K.i O.toXO.nox h2 ho) (kZ O.toXO.nox h1) (pj h1) (ih.ss O.nox.froze h3) hc2
 ·split at h
  ·cases h
  ·rename_i els0 _ hc
   have hc:els0=[]/\c.calm=true:=by simpa using hc
   obtain⟨rfl,hc⟩:=hc;simp only[aS,aQ]at h;obtain⟨it,h1,ib,h2,h⟩:=h;cases h;exact GF (K.t O.toXO.nox h1) (ih.ss O.nox h2)
 ·split at h
  ·split at h
   ·rename_i hr
    obtain⟨p0,q0,rfl⟩:=F3 hr;split at h
    ·cases h
    ·rename_i hc
     simp only[bW,bN,not_or,Bool.not_eq_false,Option.isNone_iff_eq_none]at hc;obtain⟨⟨rfl,hc1⟩,hc2⟩:=hc;split at h
     ·rename_i hg
      simp only[aS,aQ]at h;obtain⟨ies,h1,h⟩:=h;cases h;exact CF O (O.calm hc1) hc2 hg (K.es O.toXO h1) h1 (bB (kF h1) hn)
     ·cases h
   ·cases h
  ·cases h
 ·-- try
  split at h
  ·split at h
   ·rename_i b0 els0 fin0 pos0 hs0 y0 h0 hp0 ty0 x0 np0
    split at h
    ·cases h
    ·rename_i hc
     have hc:(((((((els0=[]/\fin0=[])/\c.calm=true)/\c.fnc=true)/\fr=false)/\h0≠[])/\c.own=[])/\c.frz=false):=by simpa using hc
     obtain⟨⟨⟨⟨⟨⟨⟨rfl,rfl⟩,hc1⟩,hc2⟩,rfl⟩,hc3⟩,hc4⟩,hc5⟩:=hc;simp only[aS,aQ]at h;obtain⟨ib,h1,ihd,h2,h⟩:=h;split at h
     ·cases h
     ·rename_i hg
      have hg:glob c x0=some .exc\/glob c x0=some .exk:=by
       by_cases z:glob c x0=some .exc
       ·exact .inl z
       ·exact .inr (by simpa[z]using hg)
      match h0,hc3,h2 with
      | [],hc3,_=>exact absurd rfl hc3
      |b₀::suite,_,h2=>
       split at h
       ·cases h;exact Gz O hc5 hc4 hg (λEh pn Et O'=>ih.ss O' h1) (λy=>ih.ss (O.held y) h2)
       ·simp only[aQ]at h;obtain⟨i,hl,h⟩:=h;split at h
        ·rename_i hn
         cases h;exact yf O hc5 hc4 hg (dY (eU hl).1).1 (by simpa using hn) (λEh pn Et O'=>ih.ss O' h1) (λy=>ih.ss (O.held y) h2)
        ·cases h
   ·cases h
  ·cases h
 ·cases h;exact yj
 ·cases h;exact C5
 ·cases h;exact v_
 ·cases h
theorem rj:∀n,n<=100000->iO w g n
 | 0,_=>⟨λ_ _ _ _ h=>(by cases h),λ_ _ _ _ h=>by simp[cSs]at h⟩
 |n+1,h=>
  have ih:=rj n (Nat.le_of_succ_le h)
  ⟨λO _ _ _ q=>ih.s_succ (Nat.le_of_succ_le h) O q,λO _ _ _ q=>ih.ss_succ O q⟩
end
section
variable{w:W}{g:Gc}{c:Cc}{E:XK}{fr:Bool}{X:Cx}{H0:Hp}{B:Sh}{τ:Env}{σ:L2.St}{H H':Hp}{S:Sh}{n:Nat}
noncomputable def lS(g:Gc)(E:XK)(fr:Bool)(H0:Hp)(B:Sh)(D:Ends):O->Prop
 | .nx _=>∀σ' H',qe H0 H'->D.nx σ' H'
 | .rt d=>∀v H',qe H0 H'->Rep g (hid H' B) d v->(fr=true->Fr g H0 B H' d v)->D.rt v H'
 | .ex k=>∀H' C,qe H0 H'->g.clA k=some C->E (.ref C) none H'
 |_=>False
theorem lS.out{D:Ends}{o:O}(h:lS g E fr H0 B D o):dD g c E fr H0 B H S D o:=by
 cases o with
 |nx t=>exact λσ' H' S' ss _=>h σ' H' ss.same
 |rt d=>exact h
 |ex k=>exact h
 |bk t=>exact h.elim
 |ct t=>exact h.elim
 |no=>exact h.elim
noncomputable def Bq(w:W)(g:Gc)(c:Cc)(E:XK)(fr:Bool)(s:Ss):TS:=λD σ H=>∃H0 B τ S,SS g c H0 B τ σ H S/\lS g E fr H0 B D (qc w s τ)
theorem BY(hn:n<=100000)(O:XS w g c E X){x:List Stmt}{ir:Ss}(h:jO n c fr x=some ir):PSs X x (Bq w g c E fr ir):=
 PSs.imp ((rj n hn).ss O h) λD σ H ⟨H0,B,τ,S,ss,z⟩=>⟨H0,B,τ,S,ss,z.out⟩
end
noncomputable def GM0(p:Pr)(g:Gc)(mg:Str->Option ae)(x:Str):GK->Prop
 | .fn _=>∃f,g.fnA x=some f
 | .val=>∃u v d,mg x=some u/\RelV v u/\p.glb x=some d/\∀H,Rep g H d v
 | .bi b=>mg x=none/\x=b1N b/\∃id,b1V b=.builtin id
 | .rng=>mg x=none/\x = "range"
 | .enum=>mg x=none/\x = "enumerate"
 | .zip=>mg x=none/\x = "zip"
 | .isi=>mg x=none/\x = "isinstance"
 | .ty n b=>mg x=none/\bU x=some (.type n)/\(n∈["int","bool","str","list","tuple"]\/n = "ValueError")/\∀b',b=some b'->x=b1N b'/\b1V b'=.type n
 | .exc=>∃C,mg x=some (.ref C)/\g.clA x=some C/\sA g.K C
 | .exk=>∃C,mg x=some (.ref C)/\g.clA x=some C
 | .set=>mg x=none/\bU x=some (.type "set")
 | .rvd=>mg x=none/\x = "reversed"
structure Ground(p:Pr)(g:Gc)(G GH GU:List (Str×GK))(mg:Str->Option ae):Prop where
 fn:∀x f,g.fnA x=some f->∃st own fr fd fnn,p.fns x=some fnn/\cFn G GH own fr st=some fnn/\Fun g.K x x st f fd/\Binds g.K fd (argNames (zC st)) []/\dI g.K (.ref f)=true/\mg x=some (.ref f)/\G.lookup x=some (.fn fr)
 gl:∀x k,G.lookup x=some k->GM0 p g mg x k
 gu:∀x k,GU.lookup x=some k->(∀fr,k≠.fn fr)/\k≠.exc/\GM0 p g mg x k
 gh:∀x k,GH.lookup x=some k->GU.lookup x=some k
 sub:∀k cl b,p.sub k cl=some b->∃C cv,g.clA k=some C/\mQ g.K C/\cR g.K (.ref C) cv=some b/\match cl with
  | .ty n=>n = "ValueError"/\cv=.type n
  | .ex x=>∃D,g.clA x=some D/\cv=.ref D
 cat:∀k x,p.cat k x=true->∀C D,g.clA k=some C->g.clA x=some D->PySem.W.exmOne g.K (.ref C) (.ref D)=some true
abbrev wAt(p:Pr)(k:Nat):W:=⟨qa p k,p.glb,p.sub,p.cat⟩
theorem wg{N ps:List Str}{sc:bf}(h:kE N ps sc=true):iZ N ps sc:=by
 unfold kE at h;simp only[aW,beq_iff_eq,bN,decide_eq_true_eq,b_,bW,bne_iff_ne,ne_eq]at h;obtain⟨⟨⟨⟨⟨⟨h1,h2⟩,h3⟩,h4⟩,h5⟩,h6⟩,h7⟩:=h;exact⟨h1,h2,h3,h4,h5,h6,h7⟩
theorem DU{G GH:List (Str×GK)}{own:List Str}{fr:Bool}{st:Stmt}{fnn:Fn}(h:cFn G GH own fr st=some fnn):kE (iL (zC st) (zt st)) (argNames (zC st)) (zt st)=true/\(argNames (zC st)).any own.contains=false /\
  ∃b,jO nA ⟨(zt st).names,iL (zC st) (zt st),own,G,true,true,false,GH,[],false⟩ fr (eV st)=some b/\fnn=⟨(argNames (zC st)).length,(iL (zC st) (zt st)).length,fr,b⟩:=by
 unfold cFn at h;dsimp only at h;split at h
 ·cases h
 ·rename_i hc
  simp only[bW,bN,not_or,Bool.not_eq_false,Bool.not_eq_true]at hc;simp only[aS,aQ,cN]at h;obtain⟨b,h1,h2⟩:=h;exact⟨hc.1,hc.2,b,h1,h2.symm⟩
section
variable{P:aA}{w:au}{K:aC}{mg:Str->Option ae}{base:Heap}{N:List Str}{qual:Str}{scope:bf}{f:Addr}{cd:ae}{A:aB}{outer:List PySem.Env}{s₀:af}{H₀:Hp}{E:XK}
end
theorem GM0.gm{p:Pr}{g:Gc}{mg:Str->Option ae}{x:Str}{k:GK}{P:aA}{wl:au}{base:Heap}{A:aB}{calm:Bool}{n:Nat}(h:GM0 p g mg x k)(hf:∀fr,k≠.fn fr):GM (wAt p n) g P wl mg base A calm x k:=by
 cases k with
 |fn fr'=>exact absurd rfl (hf fr')
 |exc=>obtain⟨C,h1,h2,_⟩:=h;exact⟨C,h1,h2⟩
 |val=>exact h
 |bi b=>exact h
 |rng=>exact h
 |enum=>exact h
 |zip=>exact h
 |isi=>exact h
 |ty n b=>exact h
 |exk=>exact h
 |set=>exact h
 |rvd=>exact h
theorem yc{w:W}{g:Gc}{c:Cc}{E:XK}{X:Cx}{N ps own:List Str}{sc:bf}{fr:Bool}{body:List Stmt}{b:Ss}(hcN:c.N=N)(hco:c.own=own)(hcz:c.frz=false)(FS:iZ N ps sc)(c2:ps.any own.contains=false)(c3:jO nA c fr body=some b)
  (O:XS w g c E X) {vs:List V}{ds:List D}{B:Sh}{H:Hp}{Q:VK} (hB:Sub B H) (rv:qw g (hid H B) ds vs) (hl:ds.length=ps.length)
  (h:tR g E H (match qc w b (ds.map some++cb (N.length-ps.length) none)with
   | .nx _=>if fr then .no else .ok .non
   | .rt d=>.ok d
   | .ex c=>.ex c
   |_=>.no) (λd=>∀v H',qe H H'->Rep g (hid H' B) d v->(fr=true->Fr g H B H' d v)->Q v H')) :
  ∃t,PSs X body t/\t {nx:=λ_ H'=>Q .non H',rt:=Q} (start N vs) H:=by
 have hNl:ps.length<=N.length:=by have:=congrArg List.length FS.pre;rw[cP]at this;lia
 refine⟨_,BY (by decide) O c3,H,B,ds.map some++cb (N.length-ps.length) none,⟨λ_=>false,B.h,B.z,B.y⟩,?_,?_⟩
 ·-- at the start
  have hh:hid H ⟨λ_=>false,B.h,B.z,B.y⟩=hid H B:=rfl;have hvl:=rv.length;have par:∀i d,(ds.map some++cb (N.length-ps.length) none)[i]? = some (some d)->i<ps.length/\ds[i]? = some d:=λi d hi=>by
   by_cases hlt:i<ds.length
   ·rw[List.getElem?_append_left (by simpa using hlt),List.getElem?_map]at hi;refine⟨by lia,?_⟩;cases q:ds[i]? with
    |none=>rw[q]at hi;cases hi
    |some e=>rw[q]at hi;simpa using hi
   ·rw[List.getElem?_append_right (by simpa using hlt)]at hi;rw[List.getElem?_replicate]at hi;split at hi<;>cases hi
  have noOwn:∀i d,zJ c i->(ds.map some++cb (N.length-ps.length) none)[i]? = some (some d)->False:=λi d ⟨y,h1,h2⟩ hi=>by
   obtain⟨hlt,_⟩:=par i d hi;rw[hcN]at h1;rw[hco]at h2;have:N.take ps.length=ps:=FS.pre;have hy:ps[i]? = some y:=by
    rw[<-this,List.getElem?_take,if_pos hlt];exact h1
   have:=List.any_eq_false.mp c2 y (List.mem_of_getElem? hy);exact this h2
  refine⟨⟨by simp[L2.start];lia,λi d hi=>?_,λa ha=>?_⟩,by simp[hcN];lia,qe.refl _,hB,(λa=>by simp),(λa ha=>by cases ha),(λi d ho hi=>(noOwn i d ho hi).elim),λi j d e a ho _ hi _ _ _=>(noOwn i d ho hi).elim,λz=>by rw[hcz]at z;cases z⟩
  ·obtain⟨hlt,hd⟩:=par i d hi;obtain⟨v,h1,h2⟩:=rv.get hd;have hlt':i<vs.length:=by lia
   refine⟨v,?_,.inl h2,λ_ _ _=>h2⟩;unfold L2.start;rw[List.getElem?_append_left (by simpa using hlt'),List.getElem?_map,h1]
   rfl
  ·refine hB a ?_;rcases ha with ha|ha
   ·exact .inl ha
   ·cases ha
 ·-- at the end
  cases q:qc w b (ds.map some++cb (N.length-ps.length) none)with
  |nx τ'=>
   rw[q]at h;simp only at h;cases fr with
   |true=>exact h.elim
   |false=>exact λσ' H' hs=>h .non H' hs .non (by intro z;cases z)
  |rt d=>rw[q]at h;exact h
  |ex z=>rw[q]at h;exact h
  |bk z=>rw[q]at h;exact h.elim
  |ct z=>rw[q]at h;exact h.elim
  |no=>rw[q]at h;exact h.elim
section
variable{p:Pr}{g:Gc}{G GH GU:List (Str×GK)}{mg:Str->Option ae}{P:aA}{wl:au}{base:Heap}
theorem Ground.ok(T:Ground p g G GH GU mg):∀(k:Nat) (x:Str) (f:Addr) (st:Stmt) (own:List Str) (fr:Bool) (fd:FuncData) (fnn:Fn),p.fns x=some fnn->cFn G GH own fr st=some fnn->Fun g.K x x st f fd ->
  gq P wl g.K mg base (CX1 P wl) k f fd (argNames (zC st)) (spF (wAt p k) g x fr)
 | 0,x,f,st,own,fr,fd,fnn,_,_,_=>⟨λvs H Q E ⟨S,ds,_,_,h⟩=>h.elim,λA outer s H args us vs Q E _ _ _ _ ⟨S,ds,_,_,h⟩=>h.elim⟩
 |k+1,x,f,st,own,fr,fd,fnn,hf,hc,F=>by
  obtain⟨c1,c2,b,c3,rfl⟩:=DU hc;have FS:=wg c1;generalize hN:iL (zC st) (zt st)=N at *;generalize hps:argNames (zC st)=ps at *;have call:∀ds,qa p (k+1) x ds=dC (wAt p k) ⟨ps.length,N.length,fr,b⟩ ds:=λds=>by simp only[qa,hf]
  have lenOf:∀vs H Q E,spF (wAt p (k+1)) g x fr vs H Q E->vs.length=ps.length:=λvs H Q E ⟨S,ds,_,r,h⟩=>by
   have h:tR g E H (qa p (k+1) x ds) _:=h;rw[call]at h;unfold dC at h;by_cases hl:ds.length=ps.length
   ·rw[<-r.length];exact hl
   ·rw[if_neg hl]at h;exact h.elim
  refine F.ok1 FS lenOf λcdv A outer s H vs Q E hr hsp=>?_
  obtain⟨B,ds,hB,rv,h⟩:=hsp;have h:tR g E H (qa p (k+1) x ds) (λd=>∀v H',qe H H'->Rep g (hid H' B) d v->(fr=true->Fr g H B H' d v)->Q v H'):=h;rw[call]at h;unfold dC at h;by_cases hl:ds.length=ps.length
  ·rw[if_pos hl]at h
   -- the ground of the body
   have calls:∀y fy,g.fnA y=some fy->∃fry,G.lookup y=some (.fn fry)/\ka (wAt p k) g P wl mg base (A.deeper (envOfC x (zt st) s.heap.objs.size f cdv)) true y fy fry:=λy fy hy=>by
    obtain⟨sty,owny,fry,fdy,fny,z1,z2,z3,z4,z5,z6,z7⟩:=T.fn y fy hy;exact⟨fry,z7,z6,z5,k,fdy,_,z4,.inl ⟨rfl,Ground.ok T k y fy sty owny fry fdy fny z1 z2 z3,hr⟩⟩
   have O:XS (wAt p k) g ⟨(zt st).names,N,own,G,true,true,false,GH,[],false⟩ E (fR (CX1 P wl) P wl g.K mg base N x (zt st) f cdv A outer s H E):=by
    refine⟨⟨rfl,rfl,rfl,FS.nd,λ_=>rfl,hr.units,λ_ _=>rfl,FS.kind,BJ,λy ky hy=>?_,λ_ y fy hy=>?_,T.sub⟩,(λz=>by cases z),λy C hy hC=>?_,T.cat,⟨rfl,rfl,rfl⟩,λy ky hy=>?_⟩
    ·have:=T.gl y ky hy;by_cases hf:∃fr,ky=.fn fr
     ·obtain⟨fr',rfl⟩:=hf;obtain⟨fy,h1⟩:=this;obtain⟨fry,h2,h3⟩:=calls y fy h1;have hy:G.lookup y=some (.fn fr'):=hy;rw[hy]at h2;cases h2;exact⟨fy,h1,h3⟩
     ·exact this.gm λfr z=>hf ⟨fr,z⟩
    ·obtain⟨fry,_,h3⟩:=calls y fy hy;exact⟨fry,h3⟩
    ·obtain⟨C',_,h2,h3⟩:=T.gl y .exc hy;rw[h2]at hC;cases hC;exact h3
    ·obtain⟨u1,u2,u3⟩:=T.gu y ky (T.gh y ky hy);exact⟨u2,λv=>u3.gm u1⟩
   exact yc rfl rfl rfl FS c2 c3 O hB rv hl h
  ·rw[if_neg hl]at h;exact h.elim
end
end EV
namespace WB
open PySem PySem.Spec PyProof.Rows L2
structure Dd(K:aC)(n:Str)(st:Stmt)(f:Addr):Prop where
 a:aH K aD n=some (some (.ref f))
 l:∃oc od an sl kV dc pm cd ct,K.lookup f=some ⟨oc,od,.func (cV n n (zC st) (eV st) (zt st) .none kV dc pm an cd ct),sl⟩/\PySem.W.codeIn K cd n=true
 k:dI K (.ref f)=true
theorem qq{K:aC}{n:Str}{st:Stmt}{f:Addr}{od an:Option Addr}{sl:Array (Option ae)}{oc kV dc pm cd ct:ae}(a:aH K aD n=some (some (.ref f)))
  (l:K.lookup f=some ⟨oc,od,.func (cV n n (zC st) (eV st) (zt st) .none kV dc pm an cd ct),sl⟩) (c:PySem.W.codeIn K cd n=true) (k:dI K (.ref f)=true):Dd K n st f:=
 ⟨a,⟨oc,od,an,sl,kV,dc,pm,cd,ct,l,c⟩,k⟩
theorem Dd.fn{K:aC}{n:Str}{st:Stmt}{f:Addr}(d:Dd K n st f):∃fd,Fun K n n st f fd:=by
 obtain⟨oc,od,an,sl,kV,dc,pm,cd,ct,l,c⟩:=d.l;exact⟨_,u_ (st:=st) l c d.k⟩
theorem ur{us:List ae}(h:us.length=1):∃a,us=[a]:=List.length_eq_one_iff.mp h
theorem tW{n:Nat}{us:List ae}(h:us.length=n+1):∃a r,us=a::r/\r.length=n:=by
 cases us with
 |nil=>cases h
 |cons a r=>exact⟨a,r,rfl,Nat.succ.inj h⟩
theorem tM{us:List ae}(h:us.length=2):∃a b,us=[a,b]:=by
 obtain⟨a,r,e,h⟩:=tW h;obtain⟨b,q⟩:=ur h;subst q;exact⟨a,b,e⟩
theorem FH{us:List ae}(h:us.length=3):∃a b c,us=[a,b,c]:=by
 obtain⟨a,r,e,h⟩:=tW h;obtain⟨b,c,q⟩:=tM h;subst q;exact⟨a,b,c,e⟩
structure Dk(K:aC)(n:Str)(D:Addr):Prop where
 a:aH K aD n=some (some (.ref D))
 c:∃x,PySem.W.clsIn K D=some x
 t:PySem.W.typeIn K (.ref D)=some (.type "type")
end WB
namespace EV
open PySem PySem.Spec PySem.P PyProof.Rows L2
structure Ent where
 x:Str
 st:Stmt
 own:List Str
 fr:Bool
 fn:Fn
noncomputable def prT(tab:List Ent)(vals:List (Str×D))(dN:List (Str×Str))(subs:List ((Str×Cl)×Bool):=[]):Pr:=⟨λx=>(tab.find? (·.x==x)).map (·.fn),λx=>vals.lookup x,λk c=>subs.lookup (k,c),λk x=>dN.contains (k,x)⟩
noncomputable def unx:GK->GK
 | .exc=>.exk
 |k=>k
noncomputable def fF(oth:List (Str×GK)):List (Str×GK):=oth.map λy=>(y.1,unx y.2)
noncomputable def gI(us:List Ent)(oth:List (Str×GK)):List (Str×GK):=us.map (λe=>(e.x,GK.fn e.fr))++fF oth
theorem rE{x:Str}{k:GK}:∀{oth:List (Str×GK)},(fF oth).lookup x=some k->∃k0,oth.lookup x=some k0/\k=unx k0
 | [],h=>by cases h
 | (y,k1)::r,h=>by
  have h:List.lookup x ((y,unx k1)::fF r)=some k:=h;rw[bJ]at h;split at h
  ·rename_i q;cases h;exact⟨k1,by rw[bJ,q],rfl⟩
  ·rename_i q
   obtain⟨k0,h1,h2⟩:=rE h;exact⟨k0,by rw[bJ,q];exact h1,h2⟩
theorem sI{x:Str}{k:GK}{oth:List (Str×GK)}:∀{us:List Ent},(gI us oth).lookup x=some k->(∃e∈us,e.x=x/\k=.fn e.fr)\/(fF oth).lookup x=some k
 | [],h=>.inr h
 |a::r,h=>by
  have h:List.lookup x ((a.x,GK.fn a.fr)::gI r oth)=some k:=h;rw[bJ]at h;split at h
  ·rename_i q;cases h;exact .inl ⟨a,aK,(eq_of_beq q).symm,rfl⟩
  ·rcases sI h with ⟨e,h1,h2⟩|h1
   ·exact .inl ⟨e,aO _ h1,h2⟩
   ·exact .inr h1
noncomputable def eZ(K:aC)(ns:List Str)(x:Str):Option Addr:=if ns.contains x then (match aH K aD x with
 |some (some (.ref f))=>some f
 |_=>none)else none
noncomputable def gOf(K:aC)(fns cls:List Str):Gc:=⟨K,eZ K fns,eZ K cls⟩
theorem jB{K:aC}{ns:List Str}{x:Str}{f:Addr}(h:aH K aD x=some (some (.ref f)))(hx:ns.contains x=true):eZ K ns x=some f:=by
 unfold eZ;rw[if_pos hx,h]
theorem nP{K:aC}{ns:List Str}{x:Str}{f:Addr}(h:eZ K ns x=some f):ns.contains x=true/\aH K aD x=some (some (.ref f)):=by
 unfold eZ at h;split at h
 ·rename_i hx
  split at h
  ·rename_i q;cases h;exact⟨hx,q⟩
  ·cases h
 ·cases h
noncomputable def Bnd(e:Ent):Prop:=∀(kV doc pm:ae) (an:Option Addr) (cdv ct:ae) (us:List ae),us.length=(argNames (zC e.st)).length->bindArgs (cV e.x e.x (zC e.st) (eV e.st) (zt e.st) .none kV doc pm an cdv ct) ⟨us,[]⟩=pure ((argNames (zC e.st)).zip us)
structure ji(K:aC)(G:List (Str×GK))(e:Ent):Prop where
 dd:∃f,WB.Dd K e.x e.st f
 bnd:Bnd e
noncomputable def nT(K:aC)(vals:List (Str×D))(x:Str):GK->Prop
 | .fn _=>True
 | .val=>∃u v d,aH K aD x=some (some u)/\RelV v u/\vals.lookup x=some d/\∀g H,g.K=K->Rep g H d v
 | .bi b=>aH K aD x=some none/\x=b1N b/\∃id,b1V b=.builtin id
 | .rng=>aH K aD x=some none/\x = "range"
 | .enum=>aH K aD x=some none/\x = "enumerate"
 | .zip=>aH K aD x=some none/\x = "zip"
 | .isi=>aH K aD x=some none/\x = "isinstance"
 | .ty n b=>aH K aD x=some none/\bU x=some (.type n)/\(n∈["int","bool","str","list","tuple"]\/n = "ValueError")/\∀b',b=some b'->x=b1N b'/\b1V b'=.type n
 | .exc=>∃C,aH K aD x=some (some (.ref C))/\PySem.W.excIn K C e_ "ValueError.__new__" = true
 | .exk=>∃C,aH K aD x=some (some (.ref C))
 | .set=>aH K aD x=some none/\bU x=some (.type "set")
 | .rvd=>aH K aD x=some none/\x = "reversed"
noncomputable def pF(K:aC)(cls:List Str)(y:(Str×Cl)×Bool):Prop:=∃C cv,cls.contains y.1.1=true/\aH K aD y.1.1=some (some (.ref C))/\mQ K C/\cR K (.ref C) cv=some y.2/\match y.1.2 with
 | .ty n=>n = "ValueError"/\cv=.type n
 | .ex x=>∃D,cls.contains x=true/\aH K aD x=some (some (.ref D))/\cv=.ref D
theorem o5{α β:Type} [BEq α] [LawfulBEq α]{a:α}{b:β}:∀{l:List (α×β)},l.lookup a=some b->(a,b)∈l
 | (c,d)::r,h=>by
  rw[bJ]at h;split at h
  ·rename_i q;cases h;rw[eq_of_beq q];exact aK
  ·exact aO _ (o5 h)
theorem uh{tab:List Ent}{e:Ent}(hn:(tab.map (·.x)).Nodup)(he:e∈tab):tab.find? (·.x==e.x)=some e:=by
 induction tab with
 |nil=>simp at he
 |cons a r ih=>
  simp only[aR,List.nodup_cons]at hn;rw[List.find?_cons];rcases aF.mp he with rfl|h
  ·simp
  ·have:(a.x==e.x)=false:=by
    cases q:a.x==e.x with
    |false=>rfl
    |true=>
     have:=eq_of_beq q;exact absurd (this▸aI.mpr ⟨e,h,rfl⟩) hn.1
   rw[this];exact ih hn.2 h
theorem xh{K:aC}{h:Heap}{mg:Str->Option ae}(X:K.In h)(N:h.Ns aD mg){tab:List Ent}{oth G:List (Str×GK)}{vals:List (Str×D)}(hG:G=tab.map (λe=>(e.x,GK.fn e.fr))++oth)
  (hnd:(tab.map (·.x)).Nodup) (ho:∀x k,oth.lookup x=some k->nT K vals x k) (hof:∀x fr,oth.lookup x≠some (.fn fr)) {us:List Ent} (hus:∀e∈us,e∈tab) (hcu:∀e∈us,rG (fF oth) e.own e.fr e.st=some e.fn) (hc:∀e∈tab,cFn G (gI us oth) e.own e.fr e.st=some e.fn) (he:∀e∈tab,ji K G e) (cls:List Str) {dN:List (Str×Str)} (hcat:∀y∈dN,∃C D,aH K aD y.1=some (some (.ref C))/\aH K aD y.2=some (some (.ref D))/\PySem.W.exmOne K (.ref C) (.ref D)=some true) (hcl:∀x,(oth.lookup x=some .exc\/oth.lookup x=some .exk)->cls.contains x=true)
  {subs:List ((Str×Cl)×Bool)} (hsub:∀y∈subs,pF K cls y) :
  Ground (prT tab vals dN subs) (gOf K (tab.map (·.x)) cls) G (gI us oth) (fF oth) mg:=by
 have lk:∀x k,G.lookup x=some k->(∃e∈tab,e.x=x/\k=.fn e.fr)\/oth.lookup x=some k:=by
  subst hG;clear hnd hc he hus
  induction tab with
  |nil=>intro x k hx;exact .inr hx
  |cons a r ih=>
   intro x k hx;simp only[aR,List.cons_append,bJ]at hx;split at hx
   ·rename_i q;cases hx;exact .inl ⟨a,aK,(eq_of_beq q).symm,rfl⟩
   ·rcases ih x k hx with ⟨e,h1,h2⟩|h1
    ·exact .inl ⟨e,aO _ h1,h2⟩
    ·exact .inr h1
 have lkE:∀e∈tab,G.lookup e.x=some (.fn e.fr):=by
  subst hG;clear hc he lk hus
  induction tab with
  |nil=>intro e h;simp at h
  |cons a r ih=>
   intro e hm;simp only[aR,List.nodup_cons]at hnd;simp only[aR,List.cons_append,bJ];rcases aF.mp hm with rfl|hm
   ·rw[beq_self_eq_true]
   ·have:(e.x==a.x)=false:=by
     cases q:e.x==a.x with
     |false=>rfl
     |true=>exact absurd ((eq_of_beq q)▸aI.mpr ⟨e,hm,rfl⟩) hnd.1
    rw[this];exact ih hnd.2 e hm
 have hca:∀k x,dN.contains (k,x)=true->∀C D,eZ K cls k=some C->eZ K cls x=some D->PySem.W.exmOne K (.ref C) (.ref D)=some true:=λk x z C D h1 h2=>by
  obtain⟨C',D',e1,e2,e3⟩:=hcat (k,x) (by simpa using z);have a1:=(nP h1).2;have a2:=(nP h2).2;rw[e1]at a1;rw[e2]at a2;cases a1;cases a2;exact e3
 have fnd:∀e∈tab,∃f fd,eZ K (tab.map (·.x)) e.x=some f/\Fun K e.x e.x e.st f fd/\Binds K fd (argNames (zC e.st)) []/\dI K (.ref f)=true/\mg e.x=some (.ref f):=λe hm=>by
  obtain⟨⟨f',d⟩,hb⟩:=he e hm;obtain⟨fd,F⟩:=d.fn;exact⟨f',fd,jB d.a (by simpa using aI.mpr ⟨e,hm,rfl⟩),F,F.binds hb,d.k,PySem.W.mg_of X N d.a⟩
 have fne:∀e∈tab,(prT tab vals dN subs).fns e.x=some e.fn:=λe hm=>by show (tab.find? (·.x==e.x)).map (·.fn)=_;rw[uh hnd hm];rfl
 have gl:∀x k,oth.lookup x=some k->GM0 (prT tab vals dN subs) (gOf K (tab.map (·.x)) cls) mg x k:=λx k hk=>by
  have:=ho x k hk;cases k with
  |fn fr=>exact absurd hk (hof x fr)
  |val=>obtain⟨u,v,d,h1,h2,h3,h4⟩:=this;exact⟨u,v,d,PySem.W.mg_of X N h1,h2,h3,λH=>h4 _ H rfl⟩
  |bi b=>exact⟨dU X N this.1,this.2⟩
  |rng=>exact⟨dU X N this.1,this.2⟩
  |enum=>exact⟨dU X N this.1,this.2⟩
  |zip=>exact⟨dU X N this.1,this.2⟩
  |isi=>exact⟨dU X N this.1,this.2⟩
  |ty n b=>exact⟨dU X N this.1,this.2⟩
  |exc=>obtain⟨C,h1,h2⟩:=this;exact⟨C,PySem.W.mg_of X N h1,jB h1 (hcl x (.inl hk)),h2⟩
  |exk=>obtain⟨C,h1⟩:=this;exact⟨C,PySem.W.mg_of X N h1,jB h1 (hcl x (.inr hk))⟩
  |set=>exact⟨dU X N this.1,this.2⟩
  |rvd=>exact⟨dU X N this.1,this.2⟩
 refine⟨λx f hf=>?_,λx k hx=>?_,λx k hx=>?_,λx k hx=>?_,λk cl b z=>?_,hca⟩
 ·obtain⟨h1,h2⟩:=nP hf;obtain⟨e,hm,rfl⟩:=aI.mp (by simpa using h1:x∈tab.map (·.x));obtain⟨f',fd,z1,z2,z3,z4,z5⟩:=fnd e hm;have hf:eZ K (tab.map (·.x)) e.x=some f:=hf;rw[hf]at z1;cases z1;exact⟨e.st,e.own,e.fr,fd,e.fn,fne e hm,hc e hm,z2,z3,z4,z5,lkE e hm⟩
 ·rcases lk x k hx with ⟨e,hm,rfl,rfl⟩|hk
  ·obtain⟨f',fd,z1,_⟩:=fnd e hm;exact⟨f',z1⟩
  ·exact gl x k hk
 ·obtain⟨k0,h1,rfl⟩:=rE hx;have:=gl x k0 h1;cases k0 with
  |fn fr=>exact absurd h1 (hof x fr)
  |exc=>obtain⟨C,z1,z2,_⟩:=this;exact⟨by simp[unx],by simp[unx],⟨C,z1,z2⟩⟩
  |_=>exact⟨by simp[unx],by simp[unx],this⟩
 ·rcases sI hx with ⟨e,hm,rfl,rfl⟩|hk
  ·have:=hcu e hm;cases this
  ·exact hk
 ·have z:subs.lookup (k,cl)=some b:=z;obtain⟨C,cv,h0,h1,h2,h3,h4⟩:=hsub _ (o5 z);refine⟨C,cv,jB h1 h0,h2,h3,?_⟩;cases cl with
  |ty n=>exact h4
  |ex x=>obtain⟨D,d0,d1,d2⟩:=h4;exact⟨D,jB d1 d0,d2⟩
theorem Ej{l:PySem.W.OpenLaw}{q:aA}{loose:List Str}{XP:(Str->Option ae)->Heap->Prop}{YP:au->Heap->Prop}{d:DefRec}{K:Params->aC}{tab:List Ent}{G:List (Str×GK)}{vals:List (Str×D)}{cls:List Str}{dN:List (Str×Str)}{subs:List ((Str×Cl)×Bool)}{GH GU:List (Str×GK)}{e:Ent}{k:Nat}
  (hn:l.most=some 63) (hdf:d.params.defaults=[]) (hd:d.name=e.x) (hr:dw k callerA) (hY:∀(w:au) (h:Heap),YP w h->(K w.params).In h) (hm:e∈tab) (hnd:(tab.map (·.x)).Nodup) (hx:e.x = "law") (hfr:e.fr=false) (hp:argNames (zC e.st)=[("_law_script" : Str)])
  (hG:∀(w:au) (mg:Str->Option ae) (h:Heap),(K w.params).In h->h.Ns aD mg->Ground (prT tab vals dN subs) (gOf (K w.params) (tab.map (·.x)) cls) G GH GU mg/\ji (K w.params) G e) (hc:cFn G GH e.own e.fr e.st=some e.fn)
  (hlaw:∀ns:List Int,ns.length<=63->qa (prT tab vals dN subs) k "law" [.lst (ns.map D.int)]=.ok (.bl true)) :
  PySem.W.WalkO q loose XP YP l.row.toRowW d [] (λf vs=>PySem.call f vs):=by
 refine L2.Bs (n:=63) (k:=k) (x:="_law_script") (CX:=λw=>CX1 l.prog w) (sp:=λw=>spF (wAt (prT tab vals dN subs) k) (gOf (K w.params) (tab.map (·.x)) cls) "law" false) hn (by decide) hdf hr hY (λw mg fa h KX N hfa=>?_) (λw H a ns hl _ hS=>?_) λw H s e s' z=>?_
 ·obtain⟨T,⟨f,dd⟩,hb⟩:=hG w mg h KX N;have e1:=hfa.symm.trans (hd▸PySem.W.mg_of KX N dd.a);cases e1;obtain⟨oc,od,an,sl,kV,dc,pm,cd,ct,lk,hcd⟩:=dd.l;refine⟨cV e.x e.x (zC e.st) (eV e.st) (zt e.st) .none kV dc pm an cd ct,λs u=>.of_eq ?_,λbase _ _=>?_⟩
  ·have:=hb kV dc pm an cd ct [u] (by rw[hp];rfl);rw[hp]at this;exact this
  ·have:=T.ok (P:=l.prog) (wl:=w) (base:=base) k e.x fa e.st e.own e.fr _ e.fn (by show (tab.find? (·.x==e.x)).map (·.fn)=_;rw[uh hnd hm];rfl) hc (u_ (st:=e.st) lk hcd dd.k);rw[hp,hx,hfr]at this;rw[hx];exact this
 ·refine⟨⟨λ_=>false,λ_=>false,[],λ_=>none⟩,[.lst (ns.map D.int)],(λa z=>by rcases z with z|z<;>cases z),.cons (.lst (xs:=ns.map V.int) ?_ (qw.ofInts _)) .nil,?_⟩
  ·have:hid H ⟨λ_=>false,λ_=>false,[],λ_=>none⟩=H:=by funext b;unfold hid;rw[if_neg (by simp)]
   rw[this];exact hS
  ·show tR _ _ _ (qa (prT tab vals dN subs) k "law" [.lst (ns.map D.int)]) _;rw[hlaw ns hl];intro v H' _ r _;cases r;rfl
 ·obtain⟨_,_,_,_,_,_,_,_,_,z⟩:=z;exact z
end EV
namespace KG
open EV
open PySem (Str)
open L2 (atI ixN ltP)
abbrev prD:Int×Int->D:=EV.pairD
theorem qu{w:W}{f:Fn}{ds:List D}{d:D}{τ:Env}(hl:ds.length=f.ps)(hτ:ds.map some++cb (f.N-f.ps) none=τ)(h:qc w f.body τ=.rt d):dC w f ds=.ok d:=by
 rw[dC,if_pos hl,hτ,h]
theorem zz{w:W}{s:S}{r:Ss}{τ σ:Env}{o:O}(h:evS w s τ=.nx σ)(h':qc w r σ=o):qc w (.cons s r) τ=o:=by rw[qc,h];exact h'
theorem lP{w:W}{tg:Tg}{it:It}{b r:Ss}{τ:Env}{o:O}{ds:List D}(I:List D->Env->Prop)(h:evI w it τ=.ok ds)(h0:I ds τ)
  (hs:∀x t σ,I (x::t) σ->∃σ1 σ2,store tg x σ=.ok σ1/\qc w b σ1=.nx σ2/\I t σ2) (hn:∀σ,I [] σ->qc w r σ=o):qc w (.cons (.for tg it b) r) τ=o:=by
 have key:∀(l:List D) (σ:Env),I l σ->∃σ',dZ tg (λσ=>qc w b σ) l σ=.nx σ'/\I [] σ':=by
  intro l
  induction l with
  |nil=>intro σ q;exact⟨σ,rfl,q⟩
  |cons x t ih=>
   intro σ q;obtain⟨σ1,σ2,a,b',c⟩:=hs x t σ q;obtain⟨σ',d,e⟩:=ih σ2 c;exact⟨σ',by rw[dZ,a];simp only[R.out_ok];rw[b'];exact d,e⟩
 obtain⟨σ',a,b'⟩:=key ds τ h0;rw[qc,cB,h];simp only[R.out_ok];rw[a];exact hn σ' b'
theorem fB{w:W}{it:It}{cap:List (Option Nat)}{t:T}{elt:E}{τ c:Env}{ds:List D}{g:D->List D}(h:evI w it τ=.ok ds)(hz:ds.length<=SZ)(hc:ez cap τ=none::none::c)
  (hb:∀x∈ds,((evT w t (none::some x::c)).bind λr=>if r then (evE w elt (none::some x::c)).bind λd=>.ok [d]else .ok [])=.ok (g x)):evE w (.comp it cap (.nm 1) t elt) τ=.ok (.lst (ds.flatMap g)):=by
 have key:∀(l:List D) (v:Option D) (acc:List D),(∀x∈l,x∈ds)->zG (λx σ=>noEx ((store (.nm 1) x σ).bind λσ'=>(evT w t σ').bind λr=>if r then (evE w elt σ').bind λd=>.ok (σ',[d])else .ok (σ',[]))) l (none::v::c) acc=.ok (acc++l.flatMap g):=by
  intro l
  induction l with
  |nil=>intro v acc _;simp[zG]
  |cons x r ih=>
   intro v acc hm;have q:=hb x (hm x aK);rw[zG];have e:noEx ((store (.nm 1) x (none::v::c)).bind λσ'=>(evT w t σ').bind λr=>if r then (evE w elt σ').bind λd=>.ok (σ',[d])else .ok (σ',[]))=.ok (none::some x::c,g x):=by
    simp only[store,R.bind_ok,List.set_cons_succ,List.set_cons_zero];cases ht:evT w t (none::some x::c)with
    |ok b=>
     rw[ht]at q;simp only[R.bind_ok]at q ⊢;cases b
     ·simp at q ⊢;rw[<-q];rfl
     ·simp only[if_true]at q ⊢;cases he:evE w elt (none::some x::c)with
      |ok d=>rw[he]at q;simp only[R.bind_ok,R.ok.injEq]at q ⊢;rw[<-q];rfl
      |ex=>rw[he]at q;cases q
      |no=>rw[he]at q;cases q
    |ex=>rw[ht]at q;cases q
    |no=>rw[ht]at q;cases q
   rw[e];simp only[R.bind_ok];rw[ih (some x) _ λy hy=>hm y (aO _ hy),cw,bA]
 rw[qt,h];simp only[R.bind_ok];rw[if_neg (by lia),hc,key ds none [] λ_ h=>h]
 rfl
theorem comp2{w:W}{it:It}{cap:List (Option Nat)}{t:T}{elt:E}{τ c:Env}{ds:List D}{g:D->List D}(h:evI w it τ=.ok ds)(hz:ds.length<=SZ)(hc:ez cap τ=none::none::none::c)
  (hb:∀x∈ds,∃a b,x=.tup [a,b]/\((evT w t (none::some a::some b::c)).bind λr=>if r then (evE w elt (none::some a::some b::c)).bind λd=>.ok [d]else .ok [])=.ok (g x)):evE w (.comp it cap (.tp [1,2]) t elt) τ=.ok (.lst (ds.flatMap g)):=by
 have key:∀(l:List D) (v u:Option D) (acc:List D),(∀x∈l,x∈ds)->zG (λx σ=>noEx ((store (.tp [1,2]) x σ).bind λσ'=>(evT w t σ').bind λr=>if r then (evE w elt σ').bind λd=>.ok (σ',[d])else .ok (σ',[]))) l (none::v::u::c) acc=.ok (acc++l.flatMap g):=by
  intro l
  induction l with
  |nil=>intro v u acc _;simp[zG]
  |cons x r ih=>
   intro v u acc hm;obtain⟨a,b,rfl,q⟩:=hb x (hm x aK);rw[zG];have e:noEx ((store (.tp [1,2]) (.tup [a,b]) (none::v::u::c)).bind λσ'=>(evT w t σ').bind λr=>if r then (evE w elt σ').bind λd=>.ok (σ',[d])else .ok (σ',[]))=.ok (none::some a::some b::c,g (.tup [a,b])):=by
    simp only[store,setAll,bg,List.length_nil,if_true,R.bind_ok,List.set_cons_succ,List.set_cons_zero];cases ht:evT w t (none::some a::some b::c)with
    |ok b'=>
     rw[ht]at q;simp only[R.bind_ok]at q ⊢;cases b'
     ·simp at q ⊢;rw[q];rfl
     ·simp only[if_true]at q ⊢;cases he:evE w elt (none::some a::some b::c)with
      |ok d=>rw[he]at q;simp only[R.bind_ok,R.ok.injEq]at q ⊢;rw[<-q];rfl
      |ex=>rw[he]at q;cases q
      |no=>rw[he]at q;cases q
    |ex=>rw[ht]at q;cases q
    |no=>rw[ht]at q;cases q
   rw[e];simp only[R.bind_ok];rw[ih (some a) (some b) _ λy hy=>hm y (aO _ hy),cw,bA]
 rw[qt,h];simp only[R.bind_ok];rw[if_neg (by lia),hc,key ds none none [] λ_ h=>h]
 rfl
theorem wM{w:W}{i:Int}:eu w (.int i) (.ty "int")=.ok (.bl true):=rfl
theorem F5{w:W}{i:Int}:eu w (.int i) (.ty "bool")=.ok (.bl false):=rfl
theorem DP{w:W}{i:List D}:eu w (.tup i) (.ty "tuple")=.ok (.bl true):=rfl
theorem AN{w:W}{i:List D}:eu w (.tup i) (.ty "bool")=.ok (.bl false)/\eu w (.tup i) (.ty "int")=.ok (.bl false)/\eu w (.tup i) (.ty "str")=.ok (.bl false)/\eu w (.tup i) (.ty "list")=.ok (.bl false):=⟨rfl,rfl,rfl,rfl⟩
theorem yG{w:W}{i:Bool}:eu w (.bl i) (.ty "bool")=.ok (.bl true):=rfl
theorem uP(i:Int):(D.int i).asks=true:=rfl
theorem Ca(t:Int×Int):(prD t).asks=true:=rfl
theorem uS:∀ns:List Int,plainAll (ns.map D.int)=true
 | []=>rfl
 |_::r=>uS r
theorem tj:∀ns:List Int,gj (ns.map D.int)=0
 | []=>rfl
 |_::r=>by show max 0 (gj _)=0;rw[tj r];rfl
theorem mZ(ns:List Int):(D.tup (ns.map D.int)).asks=true:=by
 simp[D.asks,D.plain,D.deep,uS,tj]
theorem uY:∀ns ms:List Int,eqvAll (ns.map D.int) (ms.map D.int)=decide (ns=ms)
 | [],[]=>rfl
 | [],_::_=>rfl
 |_::_,[]=>rfl
 |a::r,b::t=>by
  show (a==b&&eqvAll (r.map D.int) (t.map D.int))=_;rw[uY r t];simp[Bool.decide_and]
  rfl
noncomputable def mn(a b:Int):Int:=if b<a then b else a
noncomputable def mx(a b:Int):Int:=if a<b then b else a
noncomputable def cC(ts:List (Int×Int))(a b:Int):Bool:=ts.any λt=>t.1==mn a b&&t.2==mx a b
theorem FW(ts:List (Int×Int))(u v:Int):qg .isin (.tup [.int u,.int v]) (.tup (ts.map prD))=.ok (ts.any λt=>t.1==u&&t.2==v):=by
 rw[qg];simp only[seq?];rw[if_pos (by simp only[aW,b_,aI];exact⟨rfl,λx ⟨t,_,e⟩=>e▸Ca t⟩),inD,List.any_map]
 congr 2;funext t;show ((t.1==u)&&((t.2==v)&&true))=_;rw[Bool.and_true]
theorem mP(ns:List Int)(a:Int):qg .isin (.int a) (.tup (ns.map D.int))=.ok (ns.any λt=>t==a):=by
 rw[qg];simp only[seq?];rw[if_pos (by simp only[aW,b_,aI];exact⟨rfl,λx ⟨t,_,e⟩=>e▸uP t⟩),inD,List.any_map]
 rfl
theorem mj(ns ms:List Int):qg .eq (.tup (ns.map D.int)) (.tup (ms.map D.int))=.ok (decide (ns=ms)):=by
 rw[qg]
 ·rw[if_pos (by simp only[aW];exact⟨mZ _,mZ _⟩)];show R.ok (eqvAll _ _)=_;rw[uY]
 all_goals (intros;rintro⟨⟩)
structure GW(m:Int)(ts:List (Int×Int)):Prop where
 lo:1<=m
 hi:m<=8
 lt:ts.Pairwise λs t=>ltP s t=true
 ok:∀t∈ts,0<=t.1/\t.1<t.2/\t.2<m
 len:ts.length<=28
structure GS(m:Int)(s:List Int):Prop where
 lt:s.Pairwise (· < ·)
 ok:∀i∈s,0<=i/\i<m
 len:s.length<=8
abbrev wb(m:Int)(ts:List (Int×Int)):D:=.tup [.int m,.tup (ts.map prD)]
abbrev tu(s:List Int):D:=.tup (s.map D.int)
theorem je{xs:List D}{i:Nat}(h:i<xs.length):atI xs (i:Int)=some xs[i]:=by
 rw[atI,ixN,if_pos (by lia),if_pos (by lia)];simp[h]
theorem all_true(xs:List D):bools? (xs.flatMap λ_=>[.bl true])=some (cb xs.length true):=by
 induction xs with
 |nil=>rfl
 |cons x r ih=>show (bools? (r.flatMap λ_=>[.bl true])).map (true :: ·)=_;rw[ih];rfl
theorem Fi(n:Nat):(cb n true).all id=true:=by simp
theorem Cd{s t:Int×Int}(h:ltP s t=true):qg .lt (prD s) (prD t)=.ok true:=by
 show R.ok (eD [s.1,s.2] [t.1,t.2])=_;rw[ltP]at h;simp only[eD];by_cases e:s.1=t.1
 ·rw[if_pos e]at h ⊢;by_cases e2:s.2=t.2
  ·rw[e2]at h;simp at h
  ·rw[if_neg e2,h]
 ·rw[if_neg e]at h ⊢;rw[h]
noncomputable def rng(m:Int):List Int:=(bE m.toNat).map λ(i:Nat)=>(i:Int)
theorem zS(m:Int):dR 0 m.toNat=(rng m).map D.int:=by
 rw[dR,rng,cg];simp
theorem zf(m:Int):(rng m).length=m.toNat:=by simp[rng]
theorem bP{m i:Int}:i∈rng m↔0<=i/\i<m:=by
 simp only[rng,aI,List.mem_range];constructor
 ·rintro⟨a,h,rfl⟩;lia
 ·intro h;exact⟨i.toNat,by lia,by lia⟩
theorem eM(m:Int):(rng m).Pairwise (· < ·):=by
 rw[rng,List.pairwise_map];exact List.pairwise_lt_range.imp λh=>by lia
theorem jS(c:Int->Bool)(ns:List Int):(ns.map D.int).flatMap (λx=>match x with | .int i=>if c i then [D.int i]else []|_=>[])=(ns.filter c).map D.int:=by
 induction ns with
 |nil=>rfl
 |cons a r ih=>
  rw[aR,cw,ih,List.filter_cons];show (if c a=true then [D.int a]else [])++_=_;cases c a<;>rfl
theorem vp(x y:Int)(h:0<y)(h':y<=2^64):small (x%y)=true:=by
 have a:=Int.emod_nonneg x (show y≠0 by lia);have b:=Int.emod_lt_of_pos x h;simp only[small,aW,decide_eq_true_eq];lia
noncomputable def st(c j:Int):Int:=
 ((((c%2147483647+977 * j+1) * 48271%2147483647) * ((c%2147483647+977 * j+1) * 48271%2147483647)%2147483629+40692 * (j+3)) * 69621%2147483647)/8
theorem GW.sub{m:Int}{ts ps:List (Int×Int)}(h:GW m ps)(s:ts.Sublist ps):GW m ts:=
 ⟨h.lo,h.hi,h.lt.sublist s,λt ht=>h.ok t (s.subset ht),bB s.length_le h.len⟩
theorem eq_int(a b:Int):qg .eq (.int a) (.int b)=.ok (decide (a=b)):=by
 show R.ok (a==b)=_;congr 1
theorem lt_int(a b:Int):qg .lt (.int a) (.int b)=.ok (decide (a<b)):=rfl
theorem ints_map(ns:List Int):ints? (ns.map D.int)=some ns:=by
 induction ns with
 |nil=>rfl
 |cons a r ih=>show (ints? (r.map D.int)).map (a :: ·)=_;rw[ih];rfl
theorem w9{f:Int->D}(ns:List Int):(ns.map D.int).flatMap (λx=>match x with | .int i=>[f i]|_=>[])=ns.map f:=by
 induction ns with
 |nil=>rfl
 |cons a r ih=>rw[aR,cw,ih];rfl
noncomputable instance (m:Int) (ts:List (Int×Int)):Decidable (GW m ts):=
 decidable_of_iff (1<=m/\m<=8/\ts.Pairwise (λs t=>ltP s t=true)/\(∀t∈ts,0<=t.1/\t.1<t.2/\t.2<m)/\ts.length<=28) ⟨λ⟨a,b,c,d,e⟩=>⟨a,b,c,d,e⟩,λ⟨a,b,c,d,e⟩=>⟨a,b,c,d,e⟩⟩
noncomputable def Ends(J:Env->Prop)(Q:D->Prop):O->Prop
 | .nx σ=>J σ
 | .rt d=>Q d
 |_=>False
section
variable{w:W}{J K:Env->Prop}{Q:D->Prop}{s:S}{r:Ss}{τ σ:Env}
theorem eT(h:J τ):Ends J Q (qc w .nil τ):=by rw[qc];exact h
theorem zQ(h:evS w s τ=.nx σ)(h':Ends J Q (qc w r σ)):Ends J Q (qc w (.cons s r) τ):=by rw[qc,h];exact h'
theorem pT(h:Ends K Q (evS w s τ))(h':∀σ,K σ->Ends J Q (qc w r σ)):Ends J Q (qc w (.cons s r) τ):=by
 rw[qc];cases q:evS w s τ with
 |nx σ=>rw[q]at h;exact h' σ h
 |rt d=>rw[q]at h;exact h
 |_=>rw[q]at h;exact h.elim
theorem ip{e:E}{d:D}(h:evE w e τ=.ok d)(hq:Q d):Ends J Q (qc w (.cons (.ret e) r) τ):=by
 rw[qc,zL,h];exact hq
theorem gM{tg:Tg}{it:It}{b:Ss}{ds:List D}(I:List D->Env->Prop)(h:evI w it τ=.ok ds)(h0:I ds τ)(hs:∀x t σ,I (x::t) σ->∃σ1,store tg x σ=.ok σ1/\Ends (I t) Q (qc w b σ1))(hn:∀σ,I [] σ->Ends J Q (qc w r σ)):Ends J Q (qc w (.cons (.for tg it b) r) τ):=by
 have key:∀(l:List D) (σ:Env),I l σ->Ends (I []) Q (dZ tg (λσ=>qc w b σ) l σ):=by
  intro l
  induction l with
  |nil=>intro σ q;exact q
  |cons x t ih=>
   intro σ q;obtain⟨σ1,a,b'⟩:=hs x t σ q;rw[dZ,a];simp only[R.out_ok];cases z:qc w b σ1 with
   |nx σ2=>rw[z]at b';exact ih σ2 b'
   |rt d=>rw[z]at b';exact b'
   |_=>rw[z]at b';exact b'.elim
 have hk:=key ds τ h0;refine pT (K:=I []) ?_ hn;rw[cB,h];simp only[R.out_ok];cases z:dZ tg (λσ=>qc w b σ) ds τ with
 |nx σ2=>rw[z]at hk;exact hk
 |rt d=>rw[z]at hk;exact hk
 |_=>rw[z]at hk;exact hk.elim
end
theorem Hc{s t:Int×Int}(h:ltP t s=false)(hn:s≠t):ltP s t=true:=by
 simp only[ltP]at h ⊢;by_cases e:s.1=t.1
 ·rw[if_pos e.symm]at h;rw[if_pos e];have:s.2≠t.2:=λz=>hn (Prod.ext e z)
  simp at h ⊢;lia
 ·rw[if_neg (λz=>e z.symm)]at h;rw[if_neg e];simp at h ⊢;lia
theorem vK{l:List (Int×Int)}(h:l.Pairwise λa b=>ltP b a=false)(hn:l.Nodup):l.Pairwise λs t=>ltP s t=true:=
 List.Pairwise.imp₂ (λa b h1 h2=>Hc h1 h2) h hn
theorem ue:∀ts:List (Int×Int),pairs? (ts.map prD)=some ts
 | []=>rfl
 |t::r=>by show (pairs? (r.map prD)).map (t :: ·)=_;rw[ue r];rfl
theorem jP(xs:List D):b1 .sorted [.lst xs]=(if xs.length<64 then (match ints? xs with
  |some ns=>.ok (.lst ((sortI ns).map D.int))
  |none=>match pairs? xs with
   |some ps=>.ok (.lst ((zj ps).map pairD))
   |none=>eB xs)else eB xs):=rfl
theorem pC(ts:List (Int×Int))(h:ts.length<64):b1 .sorted [.lst (ts.map prD)]=.ok (.lst ((zj ts).map prD)):=by
 rw[jP,if_pos (by simpa using h)];cases ts with
 |nil=>rfl
 |cons t r=>
  have e:ints? ((t::r).map prD)=none:=rfl;rw[e];simp only;rw[ue]
noncomputable def hd(m:Int)(ts:List (Int×Int))(a:Int):List Int:=(rng m).filter λb=>b==a||cC ts a b
noncomputable def mk(m:Int)(ts:List (Int×Int))(s:List Int)(a:Int):List Int:=s.filter λx=>(hd m ts a).any λt=>t==x
end KG
noncomputable def KG.Z:=aw @EV.qc.eq_1 (aw @EV.qc.eq_2 (aw @EV.zR (aw @EV.cA (aw @EV.cJ (aw @EV.zL (aw @EV.cF (aw @EV.zV (aw @EV.cG (aw @EV.qO (aw @EV.zw (aw @EV.zv (aw @EV.zu (aw @EV.zx (aw @EV.zm (aw @EV.zy (aw @EV.qI (aw @EV.qM (aw @EV.qL (aw @EV.qE (aw @EV.qH (aw @EV.qK (aw @EV.qJ (aw @EV.qG (aw @EV.qC (aw @EV.qx (aw @EV.qr (aw @EV.qF (aw @EV.qD (aw @EV.zM.eq_1 (aw @EV.zM.eq_2 (aw @EV.fW (aw @EV.fI (aw @EV.fS (aw @EV.fZ (aw @EV.gp (aw @EV.gk (aw @EV.gx (aw @EV.evI.eq_1 (aw @EV.evI.eq_2 (aw @EV.evI.eq_3 (aw @EV.evI.eq_4 (aw @EV.evI.eq_5 (aw @EV.evI.eq_6 (aw @EV.evI.eq_7 (aw @EV.evO.eq_1 (aw @EV.evO.eq_2 (aw @EV.opI.eq_1 (aw @EV.opI.eq_2 (aw @EV.opI.eq_3 (aw @EV.opI.eq_4 (aw @EV.opI.eq_5 (aw @EV.opI.eq_6 (aw @EV.opI.eq_7 (aw @EV.opI.eq_8 (aw @EV.opI.eq_9 (aw @EV.opI.eq_10 (aw @EV.opI.eq_11 (aw @EV.b11.eq_1 (aw @EV.b11.eq_2 (aw @EV.b11.eq_3 (aw @EV.b11.eq_4 (aw @EV.b11.eq_5 (aw @EV.b11.eq_6 (aw @EV.b11.eq_7 (aw @EV.b11.eq_8 (aw @EV.b11.eq_9 (aw @EV.b11.eq_10 (aw @EV.b11.eq_11 (aw @EV.b11.eq_12 (aw @EV.b11.eq_13 (aw @EV.b11.eq_14 (aw @EV.b12.eq_1 (aw @EV.b12.eq_2 (aw @EV.b12.eq_3 (aw @EV.bX.eq_1 (aw @EV.bX.eq_2 (aw @EV.dE.eq_1 (aw @EV.dE.eq_2 (aw @EV.iiR.eq_1 (aw @EV.iiR.eq_2 (aw @EV.zD.eq_1 (aw @EV.store.eq_1 (aw @EV.store.eq_2 (aw @EV.store.eq_3 (aw @EV.setAll.eq_1 (aw @EV.setAll.eq_2 (aw @EV.setAll.eq_3 (aw @EV.truth.eq_1 (aw @EV.truth.eq_2 (aw @EV.truth.eq_3 (aw @EV.truth.eq_4 (aw @EV.truth.eq_5 (aw @EV.truth.eq_6 (aw @KG.wM (aw @KG.F5 (aw @KG.DP (aw @KG.AN (@KG.yG))))))))))))))))))))))))))))))))))))))))))))))))))))))))))))))))))))))))))))))))))))))))))))))))))
namespace KG
open EV
open PySem (Str)
open L2 (atI ixN ltP)
noncomputable def kN:Fn:=⟨1,1,false,(.cons (.ret (.and (.isi (.var 0) (.ty "int")) (.not (.isi (.var 0) (.ty "bool"))))) .nil)⟩
noncomputable def jx:Fn:=⟨3,3,false,(.cons (.ret (.and (.call "is_whole" (.cons (.var 0) .nil)) (.cmp2 .le .le (.var 1) (.var 0) (.var 2)))) .nil)⟩
noncomputable def iH:Fn:=⟨1,1,false,(.cons (.ret (.and (.isi (.var 0) (.ty "tuple")) (.cmp .eq (.bi .len (.cons (.var 0) .nil)) (.con (.int 2))))) .nil)⟩
noncomputable def i4:Fn:=⟨1,1,false,(.cons (.ret (.bi .all (.cons (.comp (.rng (.op .sub (.bi .len (.cons (.var 0) .nil)) (.con (.int 1)))) [none,none,some 0] (.nm 1) .yes (.cmp .lt (.ix (.var 2) (.var 1)) (.ix (.var 2) (.op .add (.var 1) (.con (.int 1)))))) .nil))) .nil)⟩
noncomputable def jb:Fn:=⟨1,3,false,(.cons (.ite (.not (.val (.call "is_pair" (.cons (.var 0) .nil)))) (.cons (.ret (.con (.bl false))) .nil) .nil) (.cons (.set (.tp [1,2]) (.var 0)) (.cons (.ite (.or (.not (.val (.call "is_between" (.cons (.var 1) (.cons (.con (.int 1)) (.cons (.glb "MOST") .nil)))))) (.not (.val (.isi (.var 2) (.ty "tuple"))))) (.cons (.ret (.con (.bl false))) .nil) .nil) (.cons (.ret (.and (.bi .all (.cons (.comp (.seq (.var 2)) [none,none,some 1] (.nm 1) .yes (.call "is_tie" (.cons (.var 1) (.cons (.var 2) .nil)))) .nil)) (.call "rises" (.cons (.var 2) .nil)))) .nil))))⟩
noncomputable def iI:Fn:=⟨2,4,false,(.cons (.ite (.not (.val (.call "is_pair" (.cons (.var 0) .nil)))) (.cons (.ret (.con (.bl false))) .nil) .nil) (.cons (.set (.tp [2,3]) (.var 0)) (.cons (.ret (.and (.call "is_whole" (.cons (.var 2) .nil)) (.and (.call "is_whole" (.cons (.var 3) .nil)) (.cmp3 .le .lt .lt (.con (.int 0)) (.var 2) (.var 3) (.var 1))))) .nil)))⟩
noncomputable def jC:Fn:=⟨1,1,false,(.cons (.ite (.not (.val (.call "is_web" (.cons (.var 0) .nil)))) (.cons .unk .nil) .nil) .nil)⟩
noncomputable def gU:Fn:=⟨1,1,false,(.cons (.exp (.call "need_web" (.cons (.var 0) .nil))) (.cons (.ret (.bi .tuple (.cons (.comp (.rng (.ix (.var 0) (.con (.int 0)))) [none,none,some 0] (.nm 1) .yes (.call "hood_of" (.cons (.var 2) (.cons (.var 1) .nil)))) .nil))) .nil))⟩
noncomputable def gz:Fn:=⟨2,4,false,(.cons (.set (.tp [2,3]) (.var 0)) (.cons (.ret (.bi .tuple (.cons (.comp (.rng (.var 2)) [none,none,some 1,some 3] (.nm 1) (.or (.cmp .eq (.var 1) (.var 2)) (.val (.call "are_tied" (.cons (.var 3) (.cons (.var 2) (.cons (.var 1) .nil)))))) (.var 1)) .nil))) .nil))⟩
noncomputable def fO:Fn:=⟨3,3,false,(.cons (.ret (.cmp .isin (.tup (.cons (.bi .min (.cons (.var 1) (.cons (.var 2) .nil))) (.cons (.bi .max (.cons (.var 1) (.cons (.var 2) .nil))) .nil))) (.var 0))) .nil)⟩
noncomputable def iW:Fn:=⟨2,2,false,(.cons (.ret (.bi .tuple (.cons (.comp (.seq (.var 1)) [none,none,some 0] (.nm 1) (.cmp .isin (.var 1) (.var 2)) (.var 1)) .nil))) .nil)⟩
noncomputable def jf:Fn:=⟨2,2,false,(.cons (.ret (.comp (.seq (.var 0)) [none,none,some 1] (.nm 1) .yes (.call "mark_of" (.cons (.var 1) (.cons (.var 2) .nil))))) .nil)⟩
noncomputable def fD:Fn:=⟨1,3,false,(.cons (.set (.nm 1) (.lst (.cons (.tup .nil) .nil))) (.cons (.for (.nm 2) (.rng (.ix (.var 0) (.con (.int 0)))) (.cons (.set (.nm 1) (.op .add (.var 1) (.comp (.seq (.var 1)) [none,none,some 2] (.nm 1) .yes (.op .add (.var 1) (.tup (.cons (.var 2) .nil)))))) .nil)) (.cons (.ret (.bi .sorted (.cons (.var 1) .nil))) .nil)))⟩
noncomputable def iz:Fn:=⟨1,2,false,(.cons (.set (.nm 1) (.call "hoods" (.cons (.var 0) .nil))) (.cons (.ret (.comp (.seq (.call "all_some" (.cons (.var 0) .nil))) [none,none,some 1] (.nm 1) (.cmp .notin (.tup .nil) (.call "marks_of" (.cons (.var 2) (.cons (.var 1) .nil)))) (.var 1))) .nil))⟩
noncomputable def iP:Fn:=⟨1,1,false,(.cons (.ret (.bi .len (.cons (.call "first_fewest" (.cons (.var 0) .nil)) .nil))) .nil)⟩
noncomputable def i7:Fn:=⟨1,1,false,(.cons (.ret (.ix (.call "all_fewest" (.cons (.var 0) .nil)) (.con (.int 0)))) .nil)⟩
noncomputable def jX:Fn:=⟨1,3,true,(.cons (.exp (.call "need_web" (.cons (.var 0) .nil))) (.cons (.set (.nm 1) (.call "all_holding" (.cons (.var 0) .nil))) (.cons (.set (.nm 2) (.bi .min (.cons (.comp (.seq (.var 1)) [none,none] (.nm 1) .yes (.bi .len (.cons (.var 1) .nil))) .nil))) (.cons (.ret (.comp (.seq (.var 1)) [none,none,some 2] (.nm 1) (.cmp .eq (.bi .len (.cons (.var 1) .nil)) (.var 2)) (.var 1))) .nil))))⟩
noncomputable def tD:Fn:=⟨2,2,false,(.cons (.ite (.cmp .lt (.var 1) (.bi .len (.cons (.var 0) .nil))) (.cons (.ret (.ix (.var 0) (.var 1))) .nil) .nil) (.cons (.ret (.con (.int 0))) .nil))⟩
noncomputable def zU:Fn:=⟨2,3,false,(.cons (.set (.nm 2) (.op .mod (.op .mul (.op .add (.op .add (.op .mod (.var 0) (.con (.int 2147483647))) (.op .mul (.con (.int 977)) (.var 1))) (.con (.int 1))) (.con (.int 48271))) (.con (.int 2147483647)))) (.cons (.set (.nm 2) (.op .mod (.op .mul (.var 2) (.var 2)) (.con (.int 2147483629)))) (.cons (.set (.nm 2) (.op .mod (.op .mul (.op .add (.var 2) (.op .mul (.con (.int 40692)) (.op .add (.var 1) (.con (.int 3))))) (.con (.int 69621))) (.con (.int 2147483647)))) (.cons (.ret (.op .fdiv (.var 2) (.con (.int 8)))) .nil))))⟩
noncomputable def uO:Fn:=⟨2,10,false,(.cons (.set (.nm 2) (.op .add (.con (.int 1)) (.op .mod (.var 0) (.var 1)))) (.cons (.set (.nm 3) (.op .fdiv (.var 0) (.var 1))) (.cons (.set (.nm 4) (.op .mod (.var 3) (.con (.int 6)))) (.cons (.set (.nm 5) (.lst .nil)) (.cons (.for (.nm 6) (.rng2 (.con (.int 1)) (.var 2)) (.cons (.for (.nm 7) (.rng (.var 6)) (.cons (.set (.nm 8) (.op .band (.op .shr (.op .fdiv (.var 3) (.con (.int 6))) (.op .add (.op .fdiv (.op .mul (.var 6) (.op .sub (.var 6) (.con (.int 1)))) (.con (.int 2))) (.var 7))) (.con (.int 1)))) (.cons (.ite (.cmp .eq (.var 4) (.con (.int 3))) (.cons (.set (.nm 8) (.op .fdiv (.op .mod (.call "_law_stir" (.cons (.var 0) (.cons (.op .add (.op .mul (.con (.int 8)) (.var 7)) (.var 6)) .nil))) (.con (.int 3))) (.con (.int 2)))) .nil) .nil) (.cons (.ite (.cmp .eq (.var 4) (.con (.int 4))) (.cons (.set (.nm 8) (.op .fdiv (.op .add (.op .mod (.call "_law_stir" (.cons (.var 0) (.cons (.op .add (.op .mul (.con (.int 8)) (.var 7)) (.var 6)) .nil))) (.con (.int 4))) (.con (.int 2))) (.con (.int 3)))) .nil) .nil) (.cons (.ite (.cmp .eq (.var 4) (.con (.int 5))) (.cons (.set (.nm 9) (.lst (.cons (.cmp .eq (.var 6) (.op .add (.var 7) (.con (.int 1)))) (.cons (.or (.cmp .eq (.var 6) (.op .add (.var 7) (.con (.int 1)))) (.cmp .eq (.op .sub (.var 6) (.var 7)) (.op .sub (.var 2) (.con (.int 1))))) (.cons (.cmp .eq (.var 7) (.con (.int 0))) (.cons (.con (.bl true)) (.cons (.and (.cmp .eq (.var 6) (.op .add (.var 7) (.con (.int 1)))) (.cmp .lt (.op .mod (.var 7) (.con (.int 3))) (.con (.int 2)))) .nil))))))) (.cons (.set (.nm 8) (.bi .int (.cons (.ix (.var 9) (.op .mod (.op .fdiv (.var 3) (.con (.int 6))) (.con (.int 5)))) .nil))) .nil)) .nil) (.cons (.ite (.cmp .eq (.var 8) (.con (.int 1))) (.cons (.app 5 (.tup (.cons (.var 7) (.cons (.var 6) .nil)))) .nil) .nil) .nil)))))) .nil)) (.cons (.ret (.tup (.cons (.var 2) (.cons (.bi .tuple (.cons (.bi .sorted (.cons (.own 5) .nil)) .nil)) .nil)))) .nil))))))⟩
noncomputable def AX:Fn:=⟨1,4,false,(.cons (.set (.nm 1) (.comp (.rng (.ix (.var 0) (.con (.int 0)))) [none,none] (.nm 1) .yes (.op .shl (.con (.int 1)) (.var 1)))) (.cons (.for (.tp [2,3]) (.seq (.ix (.var 0) (.con (.int 1)))) (.cons (.seti 1 (.var 2) (.op .bor (.ix (.own 1) (.var 2)) (.op .shl (.con (.int 1)) (.var 3)))) (.cons (.seti 1 (.var 3) (.op .bor (.ix (.own 1) (.var 3)) (.op .shl (.con (.int 1)) (.var 2)))) .nil))) (.cons (.ret (.own 1)) .nil)))⟩
noncomputable def wX:Fn:=⟨2,2,false,(.cons (.ret (.bi .tuple (.cons (.comp (.rng (.var 0)) [none,none,some 1] (.nm 1) (.cmp .eq (.op .band (.op .shr (.var 2) (.var 1)) (.con (.int 1))) (.con (.int 1))) (.var 1)) .nil))) .nil)⟩
noncomputable def gv:Fn:=⟨2,2,false,(.cons (.ret (.call "is_between" (.cons (.var 1) (.cons (.con (.int 0)) (.cons (.op .sub (.ix (.var 0) (.con (.int 0))) (.con (.int 1))) .nil))))) .nil)⟩
noncomputable def iD:Fn:=⟨2,2,false,(.cons (.ite (.not (.val (.isi (.var 1) (.ty "tuple")))) (.cons (.ret (.con (.bl false))) .nil) .nil) (.cons (.ret (.and (.bi .all (.cons (.comp (.seq (.var 1)) [none,none,some 0] (.nm 1) .yes (.call "is_place" (.cons (.var 2) (.cons (.var 1) .nil)))) .nil)) (.call "rises" (.cons (.var 1) .nil)))) .nil))⟩
noncomputable def jg:Fn:=⟨2,2,false,(.cons (.ite (.not (.val (.call "is_some" (.cons (.var 0) (.cons (.var 1) .nil))))) (.cons .unk .nil) .nil) .nil)⟩
noncomputable def i8:Fn:=⟨2,2,false,(.cons (.exp (.call "need_web" (.cons (.var 0) .nil))) (.cons (.exp (.call "need_some" (.cons (.var 0) (.cons (.var 1) .nil)))) (.cons (.ret (.call "is_apart_by" (.cons (.call "marks_of" (.cons (.call "hoods" (.cons (.var 0) .nil)) (.cons (.var 1) .nil))) .nil))) .nil)))⟩
noncomputable def i9:Fn:=⟨1,1,false,(.cons (.ret (.bi .len (.cons (.call "first_apart" (.cons (.var 0) .nil)) .nil))) .nil)⟩
noncomputable def jK:Fn:=⟨1,3,false,(.cons (.exp (.call "need_web" (.cons (.var 0) .nil))) (.cons (.set (.nm 1) (.call "hoods" (.cons (.var 0) .nil))) (.cons (.set (.nm 2) (.comp (.seq (.call "all_some" (.cons (.var 0) .nil))) [none,none,some 1] (.nm 1) (.val (.call "is_apart_by" (.cons (.call "marks_of" (.cons (.var 2) (.cons (.var 1) .nil))) .nil))) (.var 1))) (.cons (.ret (.mxk true (.var 2))) .nil))))⟩
noncomputable def kT:Fn:=⟨1,1,false,(.cons (.ret (.bi .all (.cons (.comp (.seq (.var 0)) [none,none] (.nm 1) .yes (.cmp .le (.bi .len (.cons (.var 1) .nil)) (.con (.int 1)))) .nil))) .nil)⟩
structure Web(p:Pr):Prop where
 is_whole:p.fns "is_whole" = some kN
 is_between:p.fns "is_between" = some jx
 is_pair:p.fns "is_pair" = some iH
 rises:p.fns "rises" = some i4
 is_web:p.fns "is_web" = some jb
 is_tie:p.fns "is_tie" = some iI
 need_web:p.fns "need_web" = some jC
 MOST:p.glb "MOST" = some (.int 8)
structure Base(p:Pr):Prop extends Web p where
 all_some:p.fns "all_some" = some fD
 _law_cell_at:p.fns "_law_cell_at" = some tD
 _law_stir:p.fns "_law_stir" = some zU
 _law_web:p.fns "_law_web" = some uO
 _law_some:p.fns "_law_some" = some wX
structure tX(p:Pr):Prop where
 _law_cell_at:p.fns "_law_cell_at" = some tD
 _law_stir:p.fns "_law_stir" = some zU
 _law_web:p.fns "_law_web" = some uO
theorem Base.draw{p:Pr}(B:Base p):tX p:=⟨B._law_cell_at,B._law_stir,B._law_web⟩
structure Hds(p:Pr):Prop where
 hoods:p.fns "hoods" = some gU
 hood_of:p.fns "hood_of" = some gz
 are_tied:p.fns "are_tied" = some fO
structure Nbr(p:Pr):Prop where
 hoods:p.fns "hoods" = some gU
 hood_of:p.fns "hood_of" = some gz
 are_tied:p.fns "are_tied" = some fO
 mark_of:p.fns "mark_of" = some iW
 marks_of:p.fns "marks_of" = some jf
structure uA(p:Pr):Prop extends Nbr p where
 _law_masks:p.fns "_law_masks" = some AX
noncomputable instance {p:Pr}:CoeOut (Base p) (Web p):=⟨λb=>b.toWeb⟩
theorem Nbr.hds{p:Pr}(O:Nbr p):Hds p:=⟨O.hoods,O.hood_of,O.are_tied⟩
noncomputable instance {p:Pr}:CoeOut (Base p) (tX p):=⟨λb=>b.draw⟩
noncomputable instance {p:Pr}:CoeOut (Nbr p) (Hds p):=⟨λb=>b.hds⟩
noncomputable instance {p:Pr}:CoeOut (uA p) (Nbr p):=⟨λb=>b.toNbr⟩
structure nJ(p:Pr):Prop where
 is_place:p.fns "is_place" = some gv
 is_some:p.fns "is_some" = some iD
structure fm(p:Pr):Prop where
 is_place:p.fns "is_place" = some gv
 is_some:p.fns "is_some" = some iD
 need_some:p.fns "need_some" = some jg
theorem fm.a{p:Pr}(b:fm p):nJ p:=⟨b.is_place,b.is_some⟩
noncomputable instance {p:Pr}:CoeOut (fm p) (nJ p):=⟨λb=>b.a⟩
section
variable{p:Pr}
theorem qf{k:Nat}{x:Str}{f:Fn}{ds:List D}(h:p.fns x=some f):qa p (k+1) x ds=dC ⟨qa p k,p.glb,p.sub,p.cat⟩ f ds:=by
 rw[qa,h]
theorem lx{k:Nat}{x:Str}{f:Fn}{ds:List D}{τ:Env}{Q:D->Prop}(hf:p.fns x=some f)(hl:ds.length=f.ps)(hτ:ds.map some++cb (f.N-f.ps) none=τ)(h:Ends (λ_=>False) Q (qc (wAt p k) f.body τ)):∃d,qa p (k+1) x ds=.ok d/\Q d:=by
 rw[qf hf,dC,if_pos hl,hτ];cases z:qc ⟨qa p k,p.glb,p.sub,p.cat⟩ f.body τ with
 |rt d=>rw[z]at h;exact⟨d,rfl,h⟩
 |nx _=>rw[z]at h;exact h.elim
 |_=>rw[z]at h;exact h.elim
section
variable(B:Web p)
include B
theorem is_whole{k:Nat}(i:Int):qa p (k+1) "is_whole" [.int i]=.ok (.bl true):=by rw[qf B.is_whole];rfl
theorem is_between{k:Nat}(i a b:Int)(h:a<=i/\i<=b):qa p (k+2) "is_between" [.int i,.int a,.int b]=.ok (.bl true):=by
 rw[qf B.is_between];refine qu rfl rfl ?_;simp[KG.Z,jx,is_whole B,qg,kC,h.1,h.2]
theorem is_pair{k:Nat}(a b:D):qa p (k+1) "is_pair" [.tup [a,b]]=.ok (.bl true):=by
 rw[qf B.is_pair];refine qu rfl rfl ?_;simp[KG.Z,iH,b1,seq?,qg,D.asks,D.plain,D.deep,D.eqv]
theorem is_tie{k:Nat}(a b m:Int)(h:0<=a/\a<b/\b<m):qa p (k+2) "is_tie" [.tup [.int a,.int b],.int m]=.ok (.bl true):=by
 rw[qf B.is_tie];refine qu rfl rfl ?_;simp[KG.Z,iI,is_pair B,is_whole B,qg,kC,h.1,h.2.1,h.2.2]
theorem rises{k:Nat}(xs:List D)(hz:xs.length<=28)(h:∀(i:Nat) (q:i+1<xs.length),qg .lt xs[i] xs[i+1]=.ok true):qa p (k+1) "rises" [.tup xs]=.ok (.bl true):=by
 rw[qf B.rises];refine qu rfl rfl ?_;have hr:zo ((xs.length:Int)-1)=true:=by simp[zo];lia
 have hc:evE ⟨qa p k,p.glb,p.sub,p.cat⟩ (.comp (.rng (.op .sub (.bi .len (.cons (.var 0) .nil)) (.con (.int 1)))) [none,none,some 0] (.nm 1) .yes (.cmp .lt (.ix (.var 2) (.var 1)) (.ix (.var 2) (.op .add (.var 1) (.con (.int 1)))))) [some (.tup xs)]=.ok (.lst ((dR 0 ((xs.length:Int)-1).toNat).flatMap λ_=>[.bl true])):=by
  refine fB (c:=[some (.tup xs)]) ?_ ?_ rfl ?_
  ·simp[KG.Z,b1,seq?,op2,hr]
  ·simp[dR,SZ];lia
  ·intro x hx;simp only[dR,aI,List.mem_range]at hx;obtain⟨i,hi,rfl⟩:=hx;have e1:atI xs ((0:Int)+(i:Int))=some xs[i]:=by rw[Int.zero_add];exact je (by lia)
   have e2:atI xs ((0:Int)+(i:Int)+1)=some xs[i+1]:=by rw[Int.zero_add];exact je (i:=i+1) (by lia)
   have e3:=h i (by lia);simp only[Int.zero_add]at e1 e2;simp[KG.Z,ixD,op2,e1,e2,e3]
 simp[KG.Z,i4,hc,b1,all_true,Fi]
theorem is_web{k:Nat}{m:Int}{ts:List (Int×Int)}(h:GW m ts):qa p (k+3) "is_web" [wb m ts]=.ok (.bl true):=by
 rw[qf B.is_web];refine qu rfl rfl ?_;have hr:=rises B (k:=k+1) (ts.map prD) (by simpa using h.len) (λi q=>by
  rw[List.getElem_map,List.getElem_map];exact Cd (List.pairwise_iff_getElem.mp h.lt i (i+1) (by simp at q;lia) (by simpa using q) (by lia)))
 have hc:evE ⟨qa p (k+2),p.glb,p.sub,p.cat⟩ (.comp (.seq (.var 2)) [none,none,some 1] (.nm 1) .yes (.call "is_tie" (.cons (.var 1) (.cons (.var 2) .nil)))) [some (wb m ts),some (.int m),some (.tup (ts.map prD))]=.ok (.lst ((ts.map prD).flatMap λ_=>[.bl true])):=by
  refine fB (c:=[some (.int m)]) ?_ ?_ rfl ?_
  ·simp[KG.Z,seq?]
  ·simp[SZ];have:=h.len;lia
  ·intro x hx;rw[aI]at hx;obtain⟨t,ht,rfl⟩:=hx;have e:=is_tie B (k:=k) t.1 t.2 m (h.ok t ht);have e':qa p (k+2) "is_tie" [prD t,.int m]=.ok (.bl true):=e;simp[KG.Z,e']
 simp[KG.Z,jb,is_pair B,is_between B m 1 8 ⟨h.lo,h.hi⟩,B.MOST,hc,b1,all_true,hr]
theorem need_web{k:Nat}{m:Int}{ts:List (Int×Int)}(h:GW m ts):qa p (k+4) "need_web" [wb m ts]=.ok .non:=by
 rw[qf B.need_web];simp only[dC];simp[KG.Z,jC,is_web B h]
end
theorem tI(hf:p.fns "_law_stir" = some zU){k:Nat}(c j:Int):qa p (k+1) "_law_stir" [.int c,.int j]=.ok (.int (st c j)):=by
 have s1:small 977=true:=by decide
 have s2:small 48271=true:=by decide
 have s3:small 40692=true:=by decide
 have s4:small 69621=true:=by decide
 have s5:=vp ((c%2147483647+977 * j+1) * 48271) 2147483647 (by decide) (by decide);rw[qf hf];refine qu rfl rfl ?_;simp[KG.Z,zU,op2,s1,s2,s3,s4,s5,st]
section
variable(B:Base p)
include B
end
section
variable(B:Web p)(S:nJ p)
include B S
theorem is_place{k:Nat}(i m:Int)(t:D)(h:0<=i/\i<m):qa p (k+3) "is_place" [.tup [.int m,t],.int i]=.ok (.bl true):=by
 rw[qf S.is_place];refine qu rfl rfl ?_;simp[KG.Z,gv,ixD,atI,ixN,op2,is_between B i 0 (m-1) (by lia)]
theorem is_some{k:Nat}{m:Int}{t:D}{s:List Int}(h:GS m s):qa p (k+4) "is_some" [.tup [.int m,t],tu s]=.ok (.bl true):=by
 rw[qf S.is_some];refine qu rfl rfl ?_;have hr:=rises B (k:=k+2) (s.map D.int) (by simp;have:=h.len;lia) (λi q=>by
  rw[List.getElem_map,List.getElem_map];have:=List.pairwise_iff_getElem.mp h.lt i (i+1) (by simp at q;lia) (by simpa using q) (by lia);simp[qg,kC,this])
 have hc:evE ⟨qa p (k+3),p.glb,p.sub,p.cat⟩ (.comp (.seq (.var 1)) [none,none,some 0] (.nm 1) .yes (.call "is_place" (.cons (.var 2) (.cons (.var 1) .nil)))) [some (.tup [.int m,t]),some (tu s)]=.ok (.lst ((s.map D.int).flatMap λ_=>[.bl true])):=by
  refine fB (c:=[some (.tup [.int m,t])]) ?_ ?_ rfl ?_
  ·simp[KG.Z,seq?]
  ·simp[SZ];have:=h.len;lia
  ·intro x hx;rw[aI]at hx;obtain⟨i,hi,rfl⟩:=hx;simp[KG.Z,is_place B S i m t (h.ok i hi)]
 simp[KG.Z,iD,hc,b1,all_true,hr]
omit S in
theorem need_some(S:fm p){k:Nat}{m:Int}{t:D}{s:List Int}(h:GS m s):qa p (k+5) "need_some" [.tup [.int m,t],tu s]=.ok .non:=by
 rw[qf S.need_some];simp only[dC];simp[KG.Z,jg,is_some B S h]
end
theorem pR(hA:p.fns "are_tied" = some fO){k:Nat}(ts:List (Int×Int))(a b:Int):qa p (k+1) "are_tied" [.tup (ts.map prD),.int a,.int b]=.ok (.bl (cC ts a b)):=by
 rw[qf hA];refine qu rfl rfl ?_;simp[KG.Z,fO,b1,FW,cC,mn,mx]
theorem nq(hH:p.fns "hood_of" = some gz)(hA:p.fns "are_tied" = some fO){k:Nat}{m:Int}{ts:List (Int×Int)}(h:GW m ts)(a:Int):qa p (k+2) "hood_of" [wb m ts,.int a]=.ok (tu (hd m ts a)):=by
 rw[qf hH];refine qu rfl rfl ?_;have h1:=h.lo;have h2:=h.hi;have hc:evE ⟨qa p (k+1),p.glb,p.sub,p.cat⟩ (.comp (.rng (.var 2)) [none,none,some 1,some 3] (.nm 1) (.or (.cmp .eq (.var 1) (.var 2)) (.val (.call "are_tied" (.cons (.var 3) (.cons (.var 2) (.cons (.var 1) .nil)))))) (.var 1)) [some (wb m ts),some (.int a),some (.int m),some (.tup (ts.map prD))]=.ok (.lst ((hd m ts a).map D.int)):=by
  rw[hd,<-jS,<-zS];refine fB (c:=[some (.int a),some (.tup (ts.map prD))]) ?_ ?_ rfl ?_
  ·have:zo m=true:=by simp[zo];lia
   simp[KG.Z,this]
  ·simp[dR,SZ];lia
  ·intro x hx;rw[zS,aI]at hx;obtain⟨b,hb,rfl⟩:=hx;have e:qg .eq (.int b) (.int a)=.ok (b==a):=rfl;simp[KG.Z,e,pR hA];by_cases q:b=a
   ·simp[q]
   ·simp[q];cases cC ts a b<;>simp
 simp[KG.Z,gz,hc,b1,seq?]
section
variable(B:Web p)(O:Hds p)
include O
theorem are_tied{k:Nat}(ts:List (Int×Int))(a b:Int):qa p (k+1) "are_tied" [.tup (ts.map prD),.int a,.int b]=.ok (.bl (cC ts a b)):=pR O.are_tied ts a b
theorem hood_of{k:Nat}{m:Int}{ts:List (Int×Int)}(h:GW m ts)(a:Int):qa p (k+2) "hood_of" [wb m ts,.int a]=.ok (tu (hd m ts a)):=nq O.hood_of O.are_tied h a
include B
theorem hoods{k:Nat}{m:Int}{ts:List (Int×Int)}(h:GW m ts):qa p (k+5) "hoods" [wb m ts]=.ok (.tup ((rng m).map λa=>tu (hd m ts a))):=by
 rw[qf O.hoods];refine qu rfl rfl ?_;have h1:=h.lo;have h2:=h.hi;have hc:evE ⟨qa p (k+4),p.glb,p.sub,p.cat⟩ (.comp (.rng (.ix (.var 0) (.con (.int 0)))) [none,none,some 0] (.nm 1) .yes (.call "hood_of" (.cons (.var 2) (.cons (.var 1) .nil)))) [some (wb m ts)]=.ok (.lst ((rng m).map λa=>tu (hd m ts a))):=by
  rw[<-w9,<-zS];refine fB (c:=[some (wb m ts)]) ?_ ?_ rfl ?_
  ·have:zo m=true:=by simp[zo];lia
   simp[KG.Z,this,ixD,atI,ixN]
  ·simp[dR,SZ];lia
  ·intro x hx;rw[zS,aI]at hx;obtain⟨b,hb,rfl⟩:=hx;simp[KG.Z,hood_of O h]
 simp[KG.Z,gU,need_web B h,hc,b1,seq?]
end
section
variable(O:Nbr p)
include O
theorem mark_of{k:Nat}(n s:List Int)(hz:s.length<=8):qa p (k+1) "mark_of" [tu n,tu s]=.ok (tu (s.filter λx=>n.any λt=>t==x)):=by
 rw[qf O.mark_of];refine qu rfl rfl ?_;have hc:evE ⟨qa p k,p.glb,p.sub,p.cat⟩ (.comp (.seq (.var 1)) [none,none,some 0] (.nm 1) (.cmp .isin (.var 1) (.var 2)) (.var 1)) [some (tu n),some (tu s)]=.ok (.lst ((s.filter λx=>n.any λt=>t==x).map D.int)):=by
  rw[<-jS];refine fB (c:=[some (tu n)]) ?_ ?_ rfl ?_
  ·simp[KG.Z,seq?]
  ·simp[SZ];lia
  ·intro x hx;rw[aI]at hx;obtain⟨b,hb,rfl⟩:=hx;simp[KG.Z,mP];by_cases q:b∈n<;>simp[q]
 simp[KG.Z,iW,hc,b1,seq?]
theorem marks_of{k:Nat}(ns:List Int)(f:Int->List Int)(s:List Int)(hz:s.length<=8)(hn:ns.length<=8):qa p (k+2) "marks_of" [.tup (ns.map λa=>tu (f a)),tu s]=.ok (.lst (ns.map λa=>tu (s.filter λx=>(f a).any λt=>t==x))):=by
 rw[qf O.marks_of];refine qu rfl rfl ?_;have hc:evE ⟨qa p (k+1),p.glb,p.sub,p.cat⟩ (.comp (.seq (.var 0)) [none,none,some 1] (.nm 1) .yes (.call "mark_of" (.cons (.var 1) (.cons (.var 2) .nil)))) [some (.tup (ns.map λa=>tu (f a))),some (tu s)]=.ok (.lst ((ns.map λa=>tu (f a)).flatMap λx=>match qa p (k+1) "mark_of" [x,tu s]with | .ok d=>[d]|_=>[])):=by
  refine fB (c:=[some (tu s)]) ?_ ?_ rfl ?_
  ·simp[KG.Z,seq?]
  ·simp[SZ];lia
  ·intro x hx;rw[aI]at hx;obtain⟨b,hb,rfl⟩:=hx;simp[KG.Z,mark_of O (f b) s hz]
 have he:((ns.map λa=>tu (f a)).flatMap λx=>match qa p (k+1) "mark_of" [x,tu s]with | .ok d=>[d]|_=>[])=ns.map λa=>tu (s.filter λx=>(f a).any λt=>t==x):=by
  clear hc hn
  induction ns with
  |nil=>rfl
  |cons a r ih=>rw[aR,cw,ih,mark_of O (f a) s hz];rfl
 simp[KG.Z,jf,hc,he]
end
end
theorem jH{α:Type}{w:W}{it:It}{cap:List (Option Nat)}{t:T}{elt:E}{τ c:Env}{l:List α}{f:α->D}(q:α->Bool)(g:α->D)(h:evI w it τ=.ok (l.map f))(hz:l.length<=SZ)(hc:ez cap τ=none::none::c)
  (hb:∀a∈l,evT w t (none::some (f a)::c)=.ok (q a)/\(q a=true->evE w elt (none::some (f a)::c)=.ok (g a))):evE w (.comp it cap (.nm 1) t elt) τ=.ok (.lst ((l.filter q).map g)):=by
 have key:∀(r:List α) (v:Option D) (acc:List D),(∀x∈r,x∈l)->zG (λx σ=>noEx ((store (.nm 1) x σ).bind λσ'=>(evT w t σ').bind λr=>if r then (evE w elt σ').bind λd=>.ok (σ',[d])else .ok (σ',[]))) (r.map f) (none::v::c) acc=.ok (acc++(r.filter q).map g):=by
  intro r
  induction r with
  |nil=>intro v acc _;simp[zG]
  |cons x r ih=>
   intro v acc hm;obtain⟨h1,h2⟩:=hb x (hm x aK);rw[aR,zG];have e:noEx ((store (.nm 1) (f x) (none::v::c)).bind λσ'=>(evT w t σ').bind λr=>if r then (evE w elt σ').bind λd=>.ok (σ',[d])else .ok (σ',[]))=.ok (none::some (f x)::c,if q x then [g x]else []):=by
    simp only[store,R.bind_ok,List.set_cons_succ,List.set_cons_zero,h1];cases hq:q x with
    |false=>rfl
    |true=>simp only[if_true,h2 hq,R.bind_ok];rfl
   rw[e];simp only[R.bind_ok];rw[ih (some (f x)) _ λy hy=>hm y (aO _ hy),List.filter_cons,bA];cases q x<;>simp
 rw[qt,h];simp only[R.bind_ok];rw[if_neg (by simp;lia),hc,key l none [] λ_ h=>h]
 rfl
theorem iQ{α:Type}{w:W}{it:It}{cap:List (Option Nat)}{elt:E}{τ c:Env}{l:List α}{f:α->D}(g:α->D)(h:evI w it τ=.ok (l.map f))(hz:l.length<=SZ)(hc:ez cap τ=none::none::c)
  (hb:∀a∈l,evE w elt (none::some (f a)::c)=.ok (g a)):evE w (.comp it cap (.nm 1) .yes elt) τ=.ok (.lst (l.map g)):=by
 have:=jH (t:=.yes) (elt:=elt) (f:=f) (λ_=>true) g h hz hc λa ha=>⟨rfl,λ_=>hb a ha⟩
 rwa[List.filter_eq_self.mpr (λ_ _=>rfl)]at this
theorem gA{w:W}{e:E}{τ:Env}{xs:List D}(h:evE w e τ=.ok (.lst xs)):evI w (.seq e) τ=.ok xs:=by rw[evI.eq_1,h];rfl
theorem EY{w:W}{e:E}{τ:Env}{xs:List D}(h:evE w e τ=.ok (.tup xs)):evI w (.seq e) τ=.ok xs:=by rw[evI.eq_1,h];rfl
theorem G7{α:Type}(l:List α)(f:α->Bool):bools? (l.map λa=>D.bl (f a))=some (l.map f):=by
 induction l with
 |nil=>rfl
 |cons a r ih=>rw[aR,bools?,ih];rfl
theorem u6{α:Type}(l:List α)(f:α->Bool):b1 .all [.lst (l.map λa=>D.bl (f a))]=.ok (.bl (l.all f)):=by
 rw[b1,b11];simp only[dE];rw[G7];simp only[bX];rw[List.all_map];rfl
theorem fA(s:List Int):b1 .len [tu s]=.ok (.int s.length):=by
 show R.ok (D.int ((s.map D.int).length:Nat))=_;rw[aJ]
theorem FX(xs:List D):b1 .len [.tup xs]=.ok (.int xs.length):=rfl
theorem B8{x:Int}{r:List Int}:b1 .min [.lst ((x::r).map D.int)]=.ok (.int (zW false x r)):=by
 rw[b1,b11];simp only[dE];rw[ints_map];rfl
theorem ne_int(a b:Int):qg .ne (.int a) (.int b)=.ok (!decide (a=b)):=by
 show R.ok (!(a==b))=_
 congr 1
theorem E6(a b:Bool):qg .ne (.bl a) (.bl b)=.ok (!decide (a=b)):=by
 cases a<;>cases b<;>rfl
theorem Ef(l:List Int)(f:Int->List Int):qg .notin (.tup []) (.lst (l.map λa=>tu (f a)))=.ok (l.all λa=>!(f a).isEmpty):=by
 rw[qg];simp only[seq?];rw[if_pos (by simp only[aW,b_,aI];exact⟨rfl,λx ⟨t,_,e⟩=>e▸mZ _⟩),inD,List.any_map]
 congr 1
 rw[List.not_any_eq_all_not]
 congr 1;funext a
 show (!D.eqv (tu (f a)) (.tup []))=_;rw[show D.eqv (tu (f a)) (.tup [])=eqvAll ((f a).map D.int) []from by simp[D.eqv]];cases f a<;>rfl
theorem ix0{α:Type}(f:α->D)(a:α)(r:List α):ixD (.lst ((a::r).map f)) (.int 0)=.ok (f a):=by
 have:=je (xs:=(a::r).map f) (i:=0) (by simp);simp only[ixD];rw[show (0:Int)=((0:Nat):Int)from rfl,this];rfl
theorem DY(ns:List Int)(lo hi:Option Int):∃cs:List Int,cutD (ns.map D.int) lo hi=cs.map D.int/\cs.length<=ns.length:=by
 refine⟨(ns.drop _).take _,by rw[cutD,<-List.map_drop,<-List.map_take],by simp;lia⟩
theorem fx{α:Type}{f:α->D}{r:List D}{x:D}{l:List α}(e:x::r=l.map f):∃a l',l=a::l'/\x=f a/\r=l'.map f:=by
 cases l with
 |nil=>cases e
 |cons a l'=>rw[aR]at e;injection e with e1 e2;exact⟨a,l',rfl,e1,e2⟩
theorem lg{w:W}{f:Fn}{ds:List D}{τ:Env}{Q:D->Prop}(hl:ds.length=f.ps)(hτ:ds.map some++cb (f.N-f.ps) none=τ)(h:Ends (λ_=>False) Q (qc w f.body τ)):∃d,dC w f ds=.ok d/\Q d:=by
 rw[dC,if_pos hl,hτ];cases z:qc w f.body τ with
 |rt d=>rw[z]at h;exact⟨d,rfl,h⟩
 |nx _=>rw[z]at h;exact h.elim
 |_=>rw[z]at h;exact h.elim
noncomputable def g7:Fn:=⟨2,2,false,(.cons (.ite (.not (.val (.call "is_place" (.cons (.var 0) (.cons (.var 1) .nil))))) (.cons .unk .nil) .nil) .nil)⟩
noncomputable def jr:Fn:=⟨2,2,false,(.cons (.exp (.call "need_web" (.cons (.var 0) .nil))) (.cons (.exp (.call "need_some" (.cons (.var 0) (.cons (.var 1) .nil)))) (.cons (.ret (.call "places_marked" (.cons (.call "marks_of" (.cons (.call "hoods" (.cons (.var 0) .nil)) (.cons (.var 1) .nil))) (.cons (.tup .nil) .nil)))) .nil)))⟩
noncomputable def gQ:Fn:=⟨2,2,false,(.cons (.ret (.bi .tuple (.cons (.comp (.enum (.var 0)) [none,none,none,some 1] (.tp [1,2]) (.cmp .eq (.var 2) (.var 3)) (.var 1)) .nil))) .nil)⟩
noncomputable def D3:Fn:=⟨2,2,false,(.cons (.exp (.call "need_web" (.cons (.var 0) .nil))) (.cons (.exp (.call "need_some" (.cons (.var 0) (.cons (.var 1) .nil)))) (.cons (.ret (.call "spare_by" (.cons (.call "marks_of" (.cons (.call "hoods" (.cons (.var 0) .nil)) (.cons (.var 1) .nil))) (.cons (.var 1) .nil)))) .nil)))⟩
noncomputable def Af:Fn:=⟨2,2,false,(.cons (.ret (.bi .tuple (.cons (.comp (.seq (.var 1)) [none,none,some 0] (.nm 1) (.cmp .notin (.tup (.cons (.var 1) .nil)) (.var 2)) (.var 1)) .nil))) .nil)⟩
noncomputable def gn:Fn:=⟨2,5,false,(.cons (.set (.nm 2) (.lst (.cons (.var 1) .nil))) (.cons (.for (.tp [3,4]) (.seq (.ix (.var 0) (.con (.int 1)))) (.cons (.ite (.cmp .isin (.var 1) (.tup (.cons (.var 3) (.cons (.var 4) .nil)))) (.cons (.app 2 (.op .sub (.op .add (.var 3) (.var 4)) (.var 1))) .nil) .nil) .nil)) (.cons (.ret (.bi .tuple (.cons (.bi .sorted (.cons (.own 2) .nil)) .nil))) .nil)))⟩
noncomputable def ij:Fn:=⟨3,3,false,(.cons (.ret (.bi .tuple (.cons (.comp (.seq (.call "_law_hood" (.cons (.var 0) (.cons (.var 2) .nil)))) [none,none,some 1] (.nm 1) (.cmp .isin (.var 1) (.var 2)) (.var 1)) .nil))) .nil)⟩
noncomputable def gH:Fn:=⟨2,4,false,(.cons (.ite (.cmp .is (.var 1) (.con .non)) (.cons (.ret (.cmp .is (.var 0) (.con .non))) .nil) .nil) (.cons (.ite (.val (.isi (.var 1) (.ty "bool"))) (.cons (.ret (.and (.isi (.var 0) (.ty "bool")) (.cmp .eq (.var 0) (.var 1)))) .nil) .nil) (.cons (.ite (.val (.isi (.var 1) (.ty "int"))) (.cons (.ret (.and (.isi (.var 0) (.ty "int")) (.and (.not (.isi (.var 0) (.ty "bool"))) (.cmp .eq (.var 0) (.var 1))))) .nil) .nil) (.cons (.ite (.val (.isi (.var 1) (.ty "str"))) (.cons (.ret (.and (.isi (.var 0) (.ty "str")) (.cmp .eq (.var 0) (.var 1)))) .nil) .nil) (.cons (.ite (.or (.cmp .ne (.isi (.var 1) (.ty "list")) (.isi (.var 0) (.ty "list"))) (.cmp .ne (.isi (.var 1) (.ty "tuple")) (.isi (.var 0) (.ty "tuple")))) (.cons (.ret (.con (.bl false))) .nil) .nil) (.cons (.ite (.cmp .ne (.bi .len (.cons (.var 0) .nil)) (.bi .len (.cons (.var 1) .nil))) (.cons (.ret (.con (.bl false))) .nil) .nil) (.cons (.for (.tp [2,3]) (.zip (.var 0) (.var 1)) (.cons (.ite (.not (.val (.call "_law_same" (.cons (.var 2) (.cons (.var 3) .nil))))) (.cons (.ret (.con (.bl false))) .nil) .nil) .nil)) (.cons (.ret (.con (.bl true))) .nil))))))))⟩
noncomputable def wQ:Fn:=⟨1,3,false,(.cons (.set (.nm 1) (.lst .nil)) (.cons (.for (.nm 2) (.rng (.var 0)) (.cons (.set (.nm 1) (.op .add (.var 1) (.comp (.rng2 (.op .add (.var 2) (.con (.int 1))) (.var 0)) [none,none,some 2] (.nm 1) .yes (.tup (.cons (.var 2) (.cons (.var 1) .nil)))))) .nil)) (.cons (.ret (.var 1)) .nil)))⟩
noncomputable def DG:Fn:=⟨2,5,false,(.cons (.set (.nm 2) (.lst .nil)) (.cons (.for (.tp [3,4]) (.enum (.call "_law_pairs" (.cons (.var 0) .nil))) (.cons (.ite (.and (.cmp .eq (.op .mod (.var 1) (.con (.int 2))) (.con (.int 0))) (.cmp .eq (.op .mod (.op .shr (.op .fdiv (.var 1) (.con (.int 2))) (.var 3)) (.con (.int 2))) (.con (.int 1)))) (.cons (.app 2 (.var 4)) .nil) .nil) (.cons (.ite (.and (.cmp .eq (.op .mod (.var 1) (.con (.int 2))) (.con (.int 1))) (.cmp .lt (.op .mod (.call "_law_stir" (.cons (.var 1) (.cons (.var 3) .nil))) (.con (.int 5))) (.op .add (.con (.int 1)) (.op .mod (.op .fdiv (.var 1) (.con (.int 2))) (.con (.int 3)))))) (.cons (.app 2 (.var 4)) .nil) .nil) .nil))) (.cons (.ret (.tup (.cons (.var 0) (.cons (.bi .tuple (.cons (.own 2) .nil)) .nil)))) .nil)))⟩
noncomputable def BN:Fn:=⟨2,2,false,(.cons (.ite (.cmp .eq (.op .mod (.var 1) (.con (.int 2))) (.con (.int 0))) (.cons (.ret (.bi .tuple (.cons (.comp (.rng (.var 0)) [none,none,some 1] (.nm 1) (.cmp .eq (.op .mod (.op .shr (.op .fdiv (.var 2) (.con (.int 2))) (.var 1)) (.con (.int 2))) (.con (.int 1))) (.var 1)) .nil))) .nil) .nil) (.cons (.ret (.bi .tuple (.cons (.comp (.rng (.var 0)) [none,none,some 1] (.nm 1) (.cmp .lt (.op .mod (.call "_law_stir" (.cons (.var 2) (.cons (.op .add (.var 1) (.con (.int 60))) .nil))) (.con (.int 4))) (.op .add (.con (.int 1)) (.op .mod (.op .fdiv (.var 2) (.con (.int 2))) (.con (.int 3))))) (.var 1)) .nil))) .nil))⟩
noncomputable def hV:Fn:=⟨2,2,false,(.cons (.ret (.bi .tuple (.cons (.comp (.rng (.ix (.var 0) (.con (.int 0)))) [none,none,some 1,some 0] (.nm 1) (.cmp .eq (.call "_law_holders" (.cons (.var 3) (.cons (.var 2) (.cons (.var 1) .nil)))) (.tup .nil)) (.var 1)) .nil))) .nil)⟩
structure Un(p:Pr):Prop where
 places_marked:p.fns "places_marked" = some gQ
 unheld:p.fns "unheld" = some jr
structure Lw(p:Pr):Prop where
 _law_stir:p.fns "_law_stir" = some zU
 _law_pairs:p.fns "_law_pairs" = some wQ
 _law_web_by:p.fns "_law_web_by" = some DG
 _law_some_by:p.fns "_law_some_by" = some BN
structure Lh(p:Pr):Prop where
 _law_hood:p.fns "_law_hood" = some gn
 _law_holders:p.fns "_law_holders" = some ij
section
variable{p:Pr}
theorem Di{xs:List D}:∀{k:Nat}{x:D},x∈dj k xs->∃(i:Nat) (d:D),d∈xs/\x=.tup [.int i,d]:=by
 induction xs with
 |nil=>intro k x h;cases h
 |cons a r ih=>
  intro k x h;rw[dj,aF]at h;rcases h with rfl|h
  ·exact⟨k,a,aK,rfl⟩
  ·obtain⟨i,d,h1,h2⟩:=ih h;exact⟨i,d,aO _ h1,h2⟩
theorem E9{xs:List D}:∀{k:Nat},(dj k xs).length=xs.length:=by
 induction xs with
 |nil=>intro k;rfl
 |cons a r ih=>intro k;rw[dj,bg,ih,bg]
theorem places_marked(hf:p.fns "places_marked" = some gQ){k:Nat}(m:Int)(hm:m<=8)(f:Int->List Int)(z:List Int):qa p (k+1) "places_marked" [.lst ((rng m).map λa=>tu (f a)),(tu z)]=.ok (tu ((rng m).filter λa=>decide (f a=z))):=by
 rw[qf hf];refine qu rfl rfl ?_;have hc:evE ⟨qa p k,p.glb,p.sub,p.cat⟩ (.comp (.enum (.var 0)) [none,none,none,some 1] (.tp [1,2]) (.cmp .eq (.var 2) (.var 3)) (.var 1)) [some (.lst ((rng m).map λa=>tu (f a))),some ((tu z))]=.ok (.lst ((dj 0 ((rng m).map λa=>tu (f a))).flatMap λx=>match x with | .tup [i,d]=>(match qg .eq d ((tu z))with | .ok true=>[i]|_=>[])|_=>[])):=by
  refine comp2 (c:=[some ((tu z))]) ?_ ?_ rfl ?_
  ·simp[KG.Z]
  ·rw[E9];simp[SZ,zf];lia
  ·intro x hx;obtain⟨i,d,hd,rfl⟩:=Di hx;rw[aI]at hd;obtain⟨b,hb,rfl⟩:=hd;refine⟨_,_,rfl,?_⟩;have e:qg .eq (tu (f b)) (tu z)=.ok (decide (f b=z)):=mj (f b) z;simp[KG.Z,e];by_cases q:f b=z
   ·simp[q]
   ·simp[q]
 have he:∀(n j:Nat),((dj j (((List.range' j n).map λ(i:Nat)=>(i:Int)).map λa=>tu (f a))).flatMap λx=>match x with | .tup [i,d]=>(match qg .eq d ((tu z))with | .ok true=>[i]|_=>[])|_=>[])=((((List.range' j n).map λ(i:Nat)=>(i:Int)).filter λa=>decide (f a=z)).map D.int):=by
  intro n
  induction n with
  |zero=>intro j;rfl
  |succ n ih=>
   intro j;rw[List.range'_succ,aR,aR,dj,cw,ih (j+1),List.filter_cons];have e:qg .eq (tu (f j)) (tu z)=.ok (decide (f j=z)):=mj (f j) z;simp only[e];by_cases q:f j=z
   ·simp[q]
   ·simp[q]
 have he':=he m.toNat 0;rw[<-List.range_eq_range']at he';rw[show (bE m.toNat).map (λ(i:Nat)=>(i:Int))=rng m from rfl]at he';simp[KG.Z,gQ,hc,he',b1,seq?]
noncomputable def un(m:Int)(ts:List (Int×Int))(s:List Int):List Int:=(rng m).filter λa=>decide (mk m ts s a=[])
theorem unheld(B:Web p)(S:fm p)(O:Nbr p)(U:Un p){k:Nat}{m:Int}{ts:List (Int×Int)}(h:GW m ts){s:List Int}(g:GS m s):qa p (k+6) "unheld" [wb m ts,tu s]=.ok (tu (un m ts s)):=by
 have e1:=marks_of O (k:=k+3) (rng m) (hd m ts) s g.len (by rw[zf];have:=h.hi;lia);have e2:=places_marked U.places_marked (k:=k+4) m h.hi (λa=>s.filter λx=>(hd m ts a).any λt=>t==x) [];have e2:qa p (k+5) "places_marked" [.lst ((rng m).map λa=>tu (s.filter λx=>(hd m ts a).any λt=>t==x)),.tup []]=_:=e2;rw[qf U.unheld];refine qu rfl rfl ?_;simp[KG.Z,jr,need_web B h,need_some B S g,hoods B O h,e1,e2];simp[un,mk]
theorem pJ(a:D):qg .is a .non=.ok (gy a):=by cases a<;>rfl
theorem same_int(hf:p.fns "_law_same" = some gH){k:Nat}(i:Int):qa p (k+1) "_law_same" [.int i,.int i]=.ok (.bl true):=by
 rw[qf hf];refine qu rfl rfl ?_;simp[KG.Z,gH,pJ,gy,eq_int]
theorem same_ints(hf:p.fns "_law_same" = some gH){k:Nat}(ns:List Int):qa p (k+2) "_law_same" [tu ns,tu ns]=.ok (.bl true):=by
 rw[qf hf];refine qu (τ:=[some (tu ns),some (tu ns),none,none]) rfl rfl ?_;refine zz (σ:=[some (tu ns),some (tu ns),none,none]) (by simp[KG.Z,pJ,gy]) ?_;refine zz (σ:=[some (tu ns),some (tu ns),none,none]) (by simp[KG.Z]) ?_;refine zz (σ:=[some (tu ns),some (tu ns),none,none]) (by simp[KG.Z]) ?_;refine zz (σ:=[some (tu ns),some (tu ns),none,none]) (by simp[KG.Z]) ?_;refine zz (σ:=[some (tu ns),some (tu ns),none,none]) (by simp[KG.Z,E6]) ?_;refine zz (σ:=[some (tu ns),some (tu ns),none,none]) (by simp[KG.Z,ne_int,b1,seq?]) ?_;refine lP (ds:=dM (ns.map D.int) (ns.map D.int)) (λr σ=>∃(ms:List Int) (v u:Option D),r=dM (ms.map D.int) (ms.map D.int)/\σ=[some (tu ns),some (tu ns),v,u]) (by simp[KG.Z]) ⟨ns,none,none,rfl,rfl⟩ ?_ ?_
 ·rintro x t σ ⟨ms,v,u,e,rfl⟩;cases ms with
  |nil=>cases e
  |cons y ms=>
   rw[aR,dM]at e;injection e with e1 e2
   subst e1 e2;exact⟨[some (tu ns),some (tu ns),some (.int y),some (.int y)],[some (tu ns),some (tu ns),some (.int y),some (.int y)],by simp[KG.Z],by simp[KG.Z,same_int hf],ms,_,_,rfl,rfl⟩
 ·rintro σ ⟨ms,v,u,e,rfl⟩;simp[KG.Z]
theorem sG{i x:Int}{l:List Int}:x∈insI i l↔x=i\/x∈l:=by
 induction l with
 |nil=>simp[insI]
 |cons a r ih=>
  rw[insI];split
  ·simp
  ·simp only[aF,ih];constructor<;>rintro(h|h|h)<;>simp[h]
theorem sQ{x:Int}{l:List Int}:x∈sortI l↔x∈l:=by
 induction l with
 |nil=>simp[sortI]
 |cons a r ih=>rw[sortI,sG,ih,aF]
theorem Ak{i:Int}{l:List Int}(h:l.Pairwise (· < ·))(hn:i∉l):(insI i l).Pairwise (· < ·):=by
 induction l with
 |nil=>simp[insI]
 |cons a r ih=>
  rw[List.pairwise_cons]at h;have h0:i≠a:=λe=>hn (e▸aK)
  rw[insI];split
  ·rename_i q
   rw[List.pairwise_cons];refine⟨λb hb=>?_,List.pairwise_cons.mpr h⟩;rcases aF.mp hb with rfl|hb
   ·lia
   ·have:=h.1 b hb;lia
  ·rename_i q
   rw[List.pairwise_cons];refine⟨λb hb=>?_,ih h.2 λe=>hn (aO _ e)⟩;rcases sG.mp hb with rfl|hb
   ·lia
   ·exact h.1 b hb
theorem pZ{l:List Int}(h:l.Nodup):(sortI l).Pairwise (· < ·):=by
 induction l with
 |nil=>simp[sortI]
 |cons a r ih=>
  rw[List.nodup_cons]at h;rw[sortI];exact Ak (ih h.2) λe=>h.1 (sQ.mp e)
theorem mB:∀{a b:List Int},a.Pairwise (· < ·)->b.Pairwise (· < ·)->(∀x,x∈a↔x∈b)->a=b
 | [],[],_,_,_=>rfl
 | [],y::_,_,_,h=>absurd ((h y).mpr aK) (by simp)
 |x::_,[],_,_,h=>absurd ((h x).mp aK) (by simp)
 |x::r,y::t,ha,hb,h=>by
  rw[List.pairwise_cons]at ha hb;have e:x=y:=by
   rcases aF.mp ((h x).mp aK)with q|q
   ·exact q
   ·rcases aF.mp ((h y).mpr aK)with q'|q'
    ·exact q'.symm
    ·have:=hb.1 x q;have:=ha.1 y q';lia
  subst e;rw[mB ha.2 hb.2 λz=>⟨λq=>by
   rcases aF.mp ((h z).mp (aO _ q))with e|e
   ·subst e;have:=ha.1 z q;lia
   ·exact e,λq=>by
   rcases aF.mp ((h z).mpr (aO _ q))with e|e
   ·subst e;have:=hb.1 z q;lia
   ·exact e⟩]
noncomputable def nbf(a:Int)(t:Int×Int):List Int:=if t.1=a\/t.2=a then [t.1+t.2-a]else []
theorem Hw{m:Int}{ts:List (Int×Int)}(h:GW m ts){a:Int}(ha:0<=a/\a<m):sortI (a::ts.flatMap (nbf a))=hd m ts a:=by
 have nb_mem:∀x t,t∈ts->x∈nbf a t->(t.1=a/\t.2=x/\a<x\/t.2=a/\t.1=x/\x<a):=by
  intro x t ht hx;have:=h.ok t ht;rw[nbf]at hx;split at hx
  ·simp only[List.mem_singleton]at hx;lia
  ·cases hx
 apply mB
 ·apply pZ;rw[List.nodup_cons];constructor
  ·intro q;obtain⟨t,ht,q⟩:=List.mem_flatMap.mp q;have:=nb_mem a t ht q;lia
  ·rw[List.Nodup,List.pairwise_flatMap];constructor
   ·intro t ht;rw[nbf];split<;>simp
   ·refine List.Pairwise.imp_of_mem ?_ h.lt;intro s t hs ht q x hx y hy e;subst e;have h1:=nb_mem _ s hs hx;have h2:=nb_mem _ t ht hy;have:s=t:=Prod.ext (by lia) (by lia);subst this;rw[ltP]at q;simp at q
 ·exact(eM m).sublist eJ
 ·intro x;rw[sQ,aF,List.mem_flatMap,hd,aX,bP];simp only[bW,beq_iff_eq,cC,bS,aW];constructor
  ·rintro(rfl|⟨t,ht,q⟩)
   ·exact⟨ha,.inl rfl⟩
   ·have h1:=nb_mem x t ht q;have h2:=h.ok t ht;refine⟨by lia,.inr ⟨t,ht,?_⟩⟩;rw[mn,mx];split<;>split<;>lia
  ·rintro⟨hx,rfl|⟨t,ht,q1,q2⟩⟩
   ·exact .inl rfl
   ·by_cases e:x=a
    ·exact .inl e
    ·refine .inr ⟨t,ht,?_⟩;rw[mn]at q1;rw[mx]at q2;rw[nbf];split at q1<;>split at q2<;>first|lia|(rw[if_pos (by lia),List.mem_singleton];lia)
theorem mk_eq{m:Int}{ts:List (Int×Int)}{s:List Int}(g:GS m s)(a:Int):((hd m ts a).filter λx=>s.any λt=>t==x)=mk m ts s a:=by
 apply mB
 ·exact((eM m).sublist eJ).sublist eJ
 ·exact g.lt.sublist eJ
 ·intro x;rw[mk,aX,aX];simp only[bS,beq_iff_eq];constructor
  ·rintro⟨p,y,hy,rfl⟩;exact⟨hy,y,p,rfl⟩
  ·rintro⟨p,y,hy,rfl⟩;exact⟨hy,y,p,rfl⟩
theorem jZ{w:W}{i:Nat}{e:E}{τ:Env}{xs:List D}{d:D}(h:zD τ i=.ok (.lst xs))(he:evE w e τ=.ok d)(hz:xs.length<SZ):evS w (.app i e) τ=.nx (τ.set i (some (.lst (xs++[d])))):=by
 rw[cA,h];simp only[R.out_ok];rw[he];simp only[R.out_ok,hz,if_true]
theorem uN(hf:p.fns "_law_hood" = some gn){k:Nat}{m:Int}{ts:List (Int×Int)}(h:GW m ts){a:Int}(ha:0<=a/\a<m):qa p (k+1) "_law_hood" [wb m ts,.int a]=.ok (tu (hd m ts a)):=by
 rw[qf hf];have hl:=h.len;refine qu (τ:=[some (wb m ts),some (.int a),none,none,none]) rfl rfl ?_;refine zz (σ:=[some (wb m ts),some (.int a),some (.lst [.int a]),none,none]) (by simp[KG.Z]) ?_;refine lP (ds:=ts.map prD) (λr σ=>∃(ps:List (Int×Int)) (ns:List Int) (v u:Option D),r=ps.map prD/\ns++ps.flatMap (nbf a)=a::ts.flatMap (nbf a)/\ns.length+ps.length<=29/\σ=[some (wb m ts),some (.int a),some (.lst (ns.map D.int)),v,u]) ?_ ⟨ts,[a],none,none,rfl,rfl,by simp;lia,rfl⟩ ?_ ?_
 ·have e:ixD (wb m ts) (.int 1)=.ok (.tup (ts.map prD)):=rfl;simp[KG.Z,e,seq?]
 ·rintro x t σ ⟨ps,ns,v,u,e,e',hz,rfl⟩;cases ps with
  |nil=>cases e
  |cons y ps=>
   rw[aR]at e;injection e with e1 e2
   subst e1 e2;have hin:=mP [y.1,y.2] a;have hin':qg .isin (.int a) (.tup [.int y.1,.int y.2])=.ok (y.1==a||(y.2==a||false)):=hin;have hs:ns.length<SZ:=by simp at hz;simp[SZ];lia
   by_cases q:y.1=a\/y.2=a
   ·refine⟨[some (wb m ts),some (.int a),some (.lst (ns.map D.int)),some (.int y.1),some (.int y.2)],[some (wb m ts),some (.int a),some (.lst ((ns++[y.1+y.2-a]).map D.int)),some (.int y.1),some (.int y.2)],rfl,?_,ps,ns++[y.1+y.2-a],_,_,rfl,?_,?_,rfl⟩
    ·simp[KG.Z,hin',op2,hs];rw[if_pos q]
    ·rw[<-e',cw,nbf,if_pos q];simp
    ·simp at hz ⊢;lia
   ·refine⟨[some (wb m ts),some (.int a),some (.lst (ns.map D.int)),some (.int y.1),some (.int y.2)],[some (wb m ts),some (.int a),some (.lst (ns.map D.int)),some (.int y.1),some (.int y.2)],rfl,?_,ps,ns,_,_,rfl,?_,?_,rfl⟩
    ·have q1:¬ y.1=a:=λe=>q (.inl e)
     have q2:¬ y.2=a:=λe=>q (.inr e)
     simp[KG.Z,hin',q1,q2]
    ·rw[<-e',cw,nbf,if_neg q];rfl
    ·simp at hz ⊢;lia
 ·rintro σ ⟨ps,ns,v,u,e,e',hz,rfl⟩;cases ps with
  |cons y ps=>cases e
  |nil=>
   simp only[List.flatMap_nil,cQ]at e';subst e';have e1:=ints_map (a::ts.flatMap (nbf a));have e2:=Hw h ha;have e3:b1 .sorted [.lst ((a::ts.flatMap (nbf a)).map D.int)]=.ok (.lst ((hd m ts a).map D.int)):=by
    rw[jP,if_pos (by simp at hz ⊢;lia),e1];simp only;rw[e2]
   have e4:b1 .tuple [.lst ((hd m ts a).map D.int)]=.ok (tu (hd m ts a)):=rfl;simp only[aR]at e3;simp[KG.Z,e3,e4]
theorem vO(H:Lh p){k:Nat}{m:Int}{ts:List (Int×Int)}(h:GW m ts){a:Int}(ha:0<=a/\a<m):qa p (k+1) "_law_hood" [wb m ts,.int a]=.ok (tu (hd m ts a)):=uN H._law_hood h ha
theorem wH(H:Lh p){k:Nat}{m:Int}{ts:List (Int×Int)}(h:GW m ts){s:List Int}(g:GS m s){a:Int}(ha:0<=a/\a<m):qa p (k+2) "_law_holders" [wb m ts,tu s,.int a]=.ok (tu (mk m ts s a)):=by
 rw[qf H._law_holders];refine qu rfl rfl ?_;have hz:(hd m ts a).length<=8:=bB (List.length_filter_le _ _) (by rw[zf];have:=h.hi;lia);have hc:evE ⟨qa p (k+1),p.glb,p.sub,p.cat⟩ (.comp (.seq (.call "_law_hood" (.cons (.var 0) (.cons (.var 2) .nil)))) [none,none,some 1] (.nm 1) (.cmp .isin (.var 1) (.var 2)) (.var 1)) [some (wb m ts),some (tu s),some (.int a)]=.ok (.lst ((mk m ts s a).map D.int)):=by
  rw[<-mk_eq g,<-jS];refine fB (c:=[some (tu s)]) ?_ ?_ rfl ?_
  ·simp[KG.Z,vO H h ha,seq?]
  ·simp[SZ];lia
  ·intro x hx;rw[aI]at hx;obtain⟨b,hb,rfl⟩:=hx;simp[KG.Z,mP];by_cases q:b∈s<;>simp[q]
 simp[KG.Z,ij,hc,b1,seq?]
theorem Fd(H:Lh p)(hf:p.fns "_law_unheld" = some hV){k:Nat}{m:Int}{ts:List (Int×Int)}(h:GW m ts){s:List Int}(g:GS m s):qa p (k+3) "_law_unheld" [wb m ts,tu s]=.ok (tu (un m ts s)):=by
 rw[qf hf];refine qu rfl rfl ?_;have h1:=h.lo;have h2:=h.hi;have hm:zo m=true:=by simp[zo];lia
 have hx:ixD (wb m ts) (.int 0)=.ok (.int m):=rfl;have hc:evE ⟨qa p (k+2),p.glb,p.sub,p.cat⟩ (.comp (.rng (.ix (.var 0) (.con (.int 0)))) [none,none,some 1,some 0] (.nm 1) (.cmp .eq (.call "_law_holders" (.cons (.var 3) (.cons (.var 2) (.cons (.var 1) .nil)))) (.tup .nil)) (.var 1)) [some (wb m ts),some (tu s)]=.ok (.lst ((un m ts s).map D.int)):=by
  rw[un,<-jS,<-zS];refine fB (c:=[some (tu s),some (wb m ts)]) ?_ ?_ rfl ?_
  ·simp[KG.Z,hm,hx]
  ·simp[dR,SZ];lia
  ·intro x hx;rw[zS,aI]at hx;obtain⟨b,hb,rfl⟩:=hx;have e:qg .eq (tu (mk m ts s b)) (.tup [])=.ok (decide (mk m ts s b=[])):=mj (mk m ts s b) [];simp[KG.Z,wH H h g (bP.mp hb),e];by_cases q:mk m ts s b=[]<;>simp[q]
 simp[KG.Z,hV,hc,b1,seq?]
theorem GS.none{m:Int}:GS m []:=⟨List.Pairwise.nil,by simp,by simp⟩
end
section
variable{p:Pr}{k:Nat}{M c:Int}{n:Int}{ts:List (Int×Int)}{a b:Int}{i:Int}{v3 v4:Option D}{Q:D->Prop}
end
end KG
namespace KG
open EV
open PySem (Str Builtin.bitAnd Builtin.bitOr)
open L2 (atI ixN ltP)
noncomputable def bs(m:Int)(n:Nat):List Int:=(rng m).filter λi=>n.testBit i.toNat
theorem kA{m:Int}(h:m<=8)(n:Nat):GS m (bs m n):=
 ⟨(eM m).sublist eJ,λi hi=>bP.mp (aX.mp hi).1,bB (List.length_filter_le _ _) (by rw[zf];lia)⟩
theorem C6{m:Int}{n:Nat}{i:Int}:i∈bs m n↔(0<=i/\i<m)/\n.testBit i.toNat=true:=by
 rw[bs,aX,bP]
noncomputable def subs:Nat->List (List Int)
 | 0=>[[]]
 |j+1=>subs j++(subs j).map (· ++ [(j:Int)])
theorem sj(m:Int)(h1:1<=m)(h2:m<=8):subs m.toNat=(bE (2^m.toNat)).map (bs m):=by
 have:m=1\/m=2\/m=3\/m=4\/m=5\/m=6\/m=7\/m=8:=by lia
 rcases this with rfl|rfl|rfl|rfl|rfl|rfl|rfl|rfl<;>decide +kernel
theorem mG:∀j,(subs j).length=2^j
 | 0=>rfl
 |j+1=>by rw[subs,bH,aJ,mG j,Nat.pow_succ];lia
theorem tJ:∀ts:List (List Int),tups? (ts.map tu)=some ts
 | []=>rfl
 |t::r=>by
  show (ints? (t.map D.int)).bind (λn=>(tups? (r.map tu)).map (n :: ·))=_;rw[ints_map,tJ r];rfl
theorem lU:∀j,1<=j->∃b r,subs j=[]::b::r
 | 1,_=>⟨_,_,rfl⟩
 |j+2,_=>by
  obtain⟨b,r,e⟩:=lU (j+1) (by lia);rw[subs,e];exact⟨_,_,rfl⟩
theorem FL(j:Nat)(h:1<=j):gE (subs j)=true:=by
 obtain⟨b,r,e⟩:=lU j h;rw[e];rfl
theorem um{m:Nat}(h:m<=8):2^m<=256:=Nat.pow_le_pow_right (by decide) h
theorem AB{j:Nat}(h1:1<=j):b1 .sorted [.lst ((subs j).map tu)]=.ok (.lst ((zT (subs j)).map tu)):=by
 have hT:eB ((subs j).map tu)=.ok (.lst ((zT (subs j)).map tu)):=by
  rw[eB,tJ];show (if gE (subs j)=true then _ else _)=_;rw[FL j h1];rfl
 rw[jP];obtain⟨b,r,e⟩:=lU j h1;have hi:ints? ((subs j).map tu)=none:=by rw[e];rfl
 have hp:pairs? ((subs j).map tu)=none:=by rw[e];rfl
 rw[hi,hp];simp only;rw[hT];split<;>rfl
theorem lB{p:Pr}(hf:p.fns "all_some" = some fD){k:Nat}{m:Int}{t:D}(h1:1<=m)(h2:m<=8):qa p (k+1) "all_some" [.tup [.int m,t]]=.ok (.lst ((zT (subs m.toNat)).map tu)):=by
 obtain⟨d,e,rfl⟩:∃d,qa p (k+1) "all_some" [.tup [.int m,t]]=.ok d/\d=.lst ((zT (subs m.toNat)).map tu):=by
  refine lx (k:=k) (τ:=[some (.tup [.int m,t]),none,none]) hf rfl rfl ?_;refine zQ (σ:=[some (.tup [.int m,t]),some (.lst ((subs 0).map tu)),none]) (by simp[KG.Z];rfl) ?_;have hm:zo m=true:=by simp[zo];lia
  have hx:ixD (.tup [.int m,t]) (.int 0)=.ok (.int m):=rfl;refine gM (ds:=(rng m).map D.int) (λr σ=>∃(j:Nat) (v2:Option D),j<=m.toNat/\r=((List.range' j (m.toNat-j)).map λ(i:Nat)=>(i:Int)).map D.int/\σ=[some (.tup [.int m,t]),some (.lst ((subs j).map tu)),v2]) (by rw[<-zS];simp[KG.Z,hm,hx]) ⟨0,none,by lia,by rw[rng,List.range_eq_range'];rfl,rfl⟩ ?_ ?_
  ·rintro x r σ ⟨j,v2,hj,e,rfl⟩;by_cases hjm:j=m.toNat
   ·subst hjm;simp at e
   ·have ej:m.toNat-j=(m.toNat-(j+1))+1:=by lia
    rw[ej,List.range'_succ,aR,aR]at e;injection e with e1 e2
    subst e1 e2;refine⟨[some (.tup [.int m,t]),some (.lst ((subs j).map tu)),some (.int j)],rfl,?_⟩;have hl:=mG j;have hp:=um (m:=j) (by lia);have hc:evE (wAt p k) (.comp (.seq (.var 1)) [none,none,some 2] (.nm 1) .yes (.op .add (.var 1) (.tup (.cons (.var 2) .nil)))) [some (.tup [.int m,t]),some (.lst ((subs j).map tu)),some (.int j)]=.ok (.lst (((subs j).map (· ++ [(j:Int)])).map tu)):=by
     have he:((subs j).map tu).flatMap (λx=>match x with | .tup xs=>[D.tup (xs++[.int j])]|_=>[])=((subs j).map (· ++ [(j:Int)])).map tu:=by
      generalize subs j=l
      induction l with
      |nil=>rfl
      |cons a r ih=>rw[aR,cw,ih];simp[tu]
     rw[<-he];refine fB (c:=[some (.int j)]) ?_ ?_ rfl ?_
     ·simp[KG.Z,seq?]
     ·simp[SZ];lia
     ·intro x hx;rw[aI]at hx;obtain⟨s,hs,rfl⟩:=hx;have hsl:s.length<=j:=by
       have:∀(n:Nat) (s:List Int),s∈subs n->s.length<=n:=by
        intro n
        induction n with
        |zero=>intro s hs;simp[subs]at hs;subst hs;simp
        |succ n ih=>
         intro s hs;rw[subs,List.mem_append,aI]at hs;rcases hs with hs|⟨u,hu,rfl⟩
         ·have:=ih s hs;lia
         ·have:=ih u hu;simp;lia
       exact this j s hs
      have e:op2 .add (tu s) (.tup [.int j])=.ok (.tup (s.map D.int++[.int j])):=by
       rw[op2,if_pos (by simp[SZ];lia)]
      simp[KG.Z,e]
    have e3:op2 .add (.lst ((subs j).map tu)) (.lst (((subs j).map (· ++ [(j:Int)])).map tu))=.ok (.lst ((subs (j+1)).map tu)):=by
     rw[op2,if_pos (by simp[SZ];lia),subs,List.map_append]
    refine zQ (σ:=[some (.tup [.int m,t]),some (.lst ((subs (j+1)).map tu)),some (.int j)]) (by rw[zR,zm,hc,qO];simp only[zD,List.getElem?_cons_succ,List.getElem?_cons_zero,R.bind_ok];rw[e3];rfl) (eT ⟨j+1,_,by lia,rfl,rfl⟩)
  ·rintro σ ⟨j,v2,hj,e,rfl⟩;have:j=m.toNat:=by
    have:=congrArg List.length e;simp at this;lia
   subst this;exact ip (d:=.lst ((zT (subs m.toNat)).map tu)) (by simp[KG.Z,AB (j:=m.toNat) (by lia)]) rfl
 exact e
section
variable{p:Pr}(B:Base p)
include B
theorem all_some{k:Nat}{m:Int}{t:D}(h1:1<=m)(h2:m<=8):qa p (k+1) "all_some" [.tup [.int m,t]]=.ok (.lst ((zT (subs m.toNat)).map tu)):=lB B.all_some h1 h2
end
end KG
namespace KG
open EV
open PySem (Str)
open L2 (atI ixN ltP)
section
variable{p:Pr}(B:Base p)
include B
end
abbrev ln(N:List Nat):D:=.lst (N.map λ(x:Nat)=>D.int (x:Int))
theorem vo(a b:Int)(t:Int×Int)(ht:t.1<t.2):(t.1==mn a b&&t.2==mx a b)=((t.1==a&&t.2==b)||(t.1==b&&t.2==a)):=by
 rw[Bool.eq_iff_iff];simp only[mn,mx,aW,bW,beq_iff_eq];split<;>split<;>lia
theorem mC(ts:List (Int×Int))(a b:Int):cC ts a b=cC ts b a:=by
 rw[cC,cC]
 congr 1;funext t
 rw[Bool.eq_iff_iff];simp only[mn,mx,aW,beq_iff_eq];split<;>split<;>lia
theorem gX{m:Int}{ts:List (Int×Int)}{a b:Int}:b∈hd m ts a↔(0<=b/\b<m)/\(b=a\/cC ts a b=true):=by
 rw[hd,aX,bP];simp
theorem kD{m:Int}(h1:1<=m)(h2:m<=8){s:List Int}(hs:s∈zT (subs m.toNat)):∃n,n<2^m.toNat/\s=bs m n:=by
 have:=(jq _).mem_iff.mp hs;rw[sj m h1 h2,aI]at this;obtain⟨n,hn,rfl⟩:=this;exact⟨n,List.mem_range.mp hn,rfl⟩
theorem yq{m:Int}(h1:1<=m)(h2:m<=8){n:Nat}(hn:n<2^m.toNat):bs m n∈zT (subs m.toNat):=by
 refine(jq _).mem_iff.mpr ?_;rw[sj m h1 h2,aI];exact⟨n,List.mem_range.mpr hn,rfl⟩
theorem sub_len{m:Int}(h2:m<=8):(zT (subs m.toNat)).length<=256:=by
 rw[(jq _).length_eq,mG];exact um (by lia)
noncomputable def hz(m:Int)(ts:List (Int×Int))(s:List Int):Bool:=(rng m).all λa=>!(mk m ts s a).isEmpty
noncomputable def hl(m:Int)(ts:List (Int×Int)):List (List Int):=(zT (subs m.toNat)).filter (hz m ts)
theorem r_{p:Pr}(B:Web p)(O:Nbr p)(ha:p.fns "all_some" = some fD)(hf:p.fns "all_holding" = some iz){k:Nat}{m:Int}{ts:List (Int×Int)}(h:GW m ts):qa p (k+6) "all_holding" [wb m ts]=.ok (.lst ((hl m ts).map tu)):=by
 have h1:=h.lo;have h2:=h.hi;rw[qf hf];refine qu (τ:=[some (wb m ts),none]) rfl rfl ?_;have e0:=hoods B O (k:=k) h;have hc:evE ⟨qa p (k+5),p.glb,p.sub,p.cat⟩ (.comp (.seq (.call "all_some" (.cons (.var 0) .nil))) [none,none,some 1] (.nm 1) (.cmp .notin (.tup .nil) (.call "marks_of" (.cons (.var 2) (.cons (.var 1) .nil)))) (.var 1)) [some (wb m ts),some (.tup ((rng m).map λa=>tu (hd m ts a)))]=.ok (.lst ((hl m ts).map tu)):=by
  refine jH (f:=tu) (c:=[some (.tup ((rng m).map λa=>tu (hd m ts a)))]) (hz m ts) tu (gA ?_) ?_ rfl ?_
  ·simp[KG.Z,lB ha (k:=k+4) (t:=.tup (ts.map prD)) h1 h2]
  ·have:=sub_len h2;simp[SZ];lia
  ·intro s hs;obtain⟨n,hn,rfl⟩:=kD h1 h2 hs;have e1:=marks_of O (k:=k+3) (rng m) (hd m ts) (bs m n) (kA h2 n).len (by rw[zf];lia);have e2:=Ef (rng m) (λa=>(bs m n).filter λx=>(hd m ts a).any λt=>t==x);refine⟨?_,λ_=>rfl⟩;rw[fS];have a1:evE ⟨qa p (k+5),p.glb,p.sub,p.cat⟩ (.call "marks_of" (.cons (.var 2) (.cons (.var 1) .nil))) [none,some (tu (bs m n)),some (.tup ((rng m).map λa=>tu (hd m ts a)))]=.ok (.lst ((rng m).map λa=>tu ((bs m n).filter λx=>(hd m ts a).any λt=>t==x))):=by
    rw[qx];show qa p (k+5) "marks_of" [.tup ((rng m).map λa=>tu (hd m ts a)),tu (bs m n)]=_;exact e1
   have a0:evE ⟨qa p (k+5),p.glb,p.sub,p.cat⟩ (.tup .nil) [none,some (tu (bs m n)),some (.tup ((rng m).map λa=>tu (hd m ts a)))]=.ok (.tup []):=by simp[KG.Z]
   rw[a1,a0];simp only[R.bind_ok];rw[e2]
   rfl
 show qc _ (.cons (.set (.nm 1) (.call "hoods" (.cons (.var 0) .nil))) (.cons (.ret _) .nil)) _=_;refine zz (σ:=[some (wb m ts),some (.tup ((rng m).map λa=>tu (hd m ts a)))]) (by simp[KG.Z,e0]) ?_;rw[qc,zL,hc]
 rfl
theorem all_holding{p:Pr}(B:Base p)(O:uA p)(hf:p.fns "all_holding" = some iz){k:Nat}{m:Int}{ts:List (Int×Int)}(h:GW m ts):qa p (k+6) "all_holding" [wb m ts]=.ok (.lst ((hl m ts).map tu)):=r_ B.toWeb O.toNbr B.all_some hf h
theorem lD{m:Int}{ts:List (Int×Int)}(h:GW m ts):∃s r,hl m ts=s::r:=by
 have h1:=h.lo;have h2:=h.hi;have hm:bs m (2^m.toNat-1)∈hl m ts:=by
  rw[hl,aX];refine⟨yq h1 h2 (by have:=Nat.two_pow_pos m.toNat;lia),?_⟩;rw[hz,b_];intro a ha;obtain⟨a0,am⟩:=bP.mp ha;have:a∈mk m ts (bs m (2^m.toNat-1)) a:=by
   rw[mk,aX];refine⟨C6.mpr ⟨⟨a0,am⟩,by rw[Nat.testBit_two_pow_sub_one];simp;lia⟩,?_⟩;simp only[bS,beq_iff_eq,exists_eq_right,gX];exact⟨⟨a0,am⟩,by simp⟩
  cases q:mk m ts (bs m (2^m.toNat-1)) a with
  |nil=>rw[q]at this;cases this
  |cons _ _=>rfl
 cases q:hl m ts with
 |nil=>rw[q]at hm;cases hm
 |cons s r=>exact⟨s,r,rfl⟩
theorem wd{m:Int}{ts:List (Int×Int)}(h:GW m ts){s:List Int}(hs:s∈hl m ts):GS m s:=by
 obtain⟨n,_,rfl⟩:=kD h.lo h.hi (aX.mp hs).1;exact kA h.hi n
theorem wB{m:Int}{ts:List (Int×Int)}(h:GW m ts):(hl m ts).length<=256:=bB (List.length_filter_le _ _) (sub_len h.hi)
structure Fw(p:Pr):Prop where
 all_some:p.fns "all_some" = some fD
 all_holding:p.fns "all_holding" = some iz
 all_fewest:p.fns "all_fewest" = some jX
 first_fewest:p.fns "first_fewest" = some i7
 fewest:p.fns "fewest" = some iP
structure Sp(p:Pr):Prop where
 spare:p.fns "spare" = some D3
 spare_by:p.fns "spare_by" = some Af
noncomputable def ow(m:Int)(ts:List (Int×Int))(s:List Int)(x:Int):List Int:=(rng m).filter λa=>decide (mk m ts s a=[x])
noncomputable def sp(m:Int)(ts:List (Int×Int))(s:List Int):List Int:=s.filter λx=>decide (ow m ts s x=[])
section
variable{p:Pr}(B:Web p)(O:Nbr p)(S:fm p)
include B O S
end
noncomputable def lsm(L:List (List Int)):Int:=match L.map (λs=>(s.length:Int))with
 | []=>0
 |x::r=>zW false x r
noncomputable def few(L:List (List Int)):List (List Int):=L.filter λs=>decide ((s.length:Int)=lsm L)
theorem Ct(i:Int)(r:List Int):zW false i r∈i::r:=by
 induction r generalizing i with
 |nil=>simp[zW]
 |cons j r ih=>
  rw[zW];have:=ih (if j<i then j else i);simp only[bD,if_false];rcases aF.mp this with e|e
  ·rw[e];split<;>simp
  ·exact aO _ (aO _ e)
theorem pU{L:List (List Int)}(h:L≠[]):∃s r,few L=s::r/\(s.length:Int)=lsm L:=by
 obtain⟨a,r,rfl⟩:∃a r,L=a::r:=by cases L with|nil=>exact absurd rfl h|cons a r=>exact⟨a,r,rfl⟩
 have hm:lsm (a::r)∈(a::r).map λs=>(s.length:Int):=by
  rw[lsm,aR];exact Ct _ _
 obtain⟨s,hs,e⟩:=aI.mp hm;have:s∈few (a::r):=aX.mpr ⟨hs,by simpa using e⟩;cases q:few (a::r)with
 |nil=>rw[q]at this;cases this
 |cons t u=>
  have ht:t∈few (a::r):=by rw[q];exact aK
  exact⟨t,u,rfl,by simpa using (aX.mp ht).2⟩
section
variable{w:W}{τ:Env}{L:List (List Int)}
theorem v9(hL:L≠[])(hz:L.length<=256)(h:τ[1]? = some (some (.lst (L.map tu)))):evE w (.bi .min (.cons (.comp (.seq (.var 1)) [none,none] (.nm 1) .yes (.bi .len (.cons (.var 1) .nil))) .nil)) τ=.ok (.int (lsm L)):=by
 have h1:evE w (.comp (.seq (.var 1)) [none,none] (.nm 1) .yes (.bi .len (.cons (.var 1) .nil))) τ=.ok (.lst ((L.map λs=>(s.length:Int)).map D.int)):=by
  rw[cg];refine iQ (f:=tu) (c:=[]) (λs=>.int s.length) (gA (by rw[qO,zD,h])) (by simp[SZ];lia) rfl λs _=>?_
  simp[KG.Z,fA]
 have h2:b1 .min [.lst ((L.map λs=>(s.length:Int)).map D.int)]=.ok (.int (lsm L)):=by
  cases L with
  |nil=>exact absurd rfl hL
  |cons a r=>rw[lsm,aR];exact B8
 rw[qr,zM,h1];simp only[R.bind_ok,zM,h2]
theorem GD(hz:L.length<=256)(h:τ[1]? = some (some (.lst (L.map tu))))(h2:τ[2]? = some (some (.int (lsm L)))):evE w (.comp (.seq (.var 1)) [none,none,some 2] (.nm 1) (.cmp .eq (.bi .len (.cons (.var 1) .nil)) (.var 2)) (.var 1)) τ=.ok (.lst ((few L).map tu)):=by
 refine jH (f:=tu) (c:=[some (.int (lsm L))]) (λs=>decide ((s.length:Int)=lsm L)) tu (gA (by rw[qO,zD,h])) (by simp[SZ];lia) (by simp[ez,h2]) λs _=>⟨?_,λ_=>rfl⟩
 simp[KG.Z,fA,eq_int]
end
theorem all_fewest{p:Pr}(B:Web p)(O:Nbr p)(F:Fw p){k:Nat}{m:Int}{ts:List (Int×Int)}(h:GW m ts):qa p (k+7) "all_fewest" [wb m ts]=.ok (.lst ((few (hl m ts)).map tu)):=by
 obtain⟨a,r,hL⟩:=lD h;have hn:hl m ts≠[]:=by rw[hL];simp
 have hz:=wB h;have e0:=r_ B O F.all_some F.all_holding (k:=k) h;have e1:=need_web B (k:=k+2) h;rw[qf F.all_fewest];refine qu (τ:=[some (wb m ts),none,none]) rfl rfl ?_;show qc _ (.cons (.exp _) (.cons (.set (.nm 1) _) (.cons (.set (.nm 2) _) (.cons (.ret _) .nil)))) _=_;refine zz (σ:=[some (wb m ts),none,none]) (by simp[KG.Z,e1]) ?_;refine zz (σ:=[some (wb m ts),some (.lst ((hl m ts).map tu)),none]) (by simp[KG.Z,e0]) ?_;refine zz (σ:=[some (wb m ts),some (.lst ((hl m ts).map tu)),some (.int (lsm (hl m ts)))]) (by rw[zR,v9 hn hz rfl];rfl) ?_;rw[qc,zL,GD hz rfl rfl];rfl
theorem first_fewest{p:Pr}(B:Web p)(O:Nbr p)(F:Fw p){k:Nat}{m:Int}{ts:List (Int×Int)}(h:GW m ts){s:List Int}{r:List (List Int)}(e:few (hl m ts)=s::r):qa p (k+8) "first_fewest" [wb m ts]=.ok (tu s):=by
 have e1:=all_fewest B O F (k:=k) h;rw[e]at e1;have e2:=ix0 tu s r;rw[aR]at e1 e2;rw[qf F.first_fewest];refine qu rfl rfl ?_;simp[KG.Z,i7,e1,e2]
theorem fewest{p:Pr}(B:Web p)(O:Nbr p)(F:Fw p){k:Nat}{m:Int}{ts:List (Int×Int)}(h:GW m ts){s:List Int}{r:List (List Int)}(e:few (hl m ts)=s::r):qa p (k+9) "fewest" [wb m ts]=.ok (.int s.length):=by
 rw[qf F.fewest];refine qu rfl rfl ?_;simp[KG.Z,iP,first_fewest B O F (k:=k) h e,fA]
theorem mm:∀(i:Int) (r:List Int),∀x∈i::r,zW false i r<=x
 |i,[],x,h=>by simp at h;subst h;simp[zW]
 |i,j::r,x,h=>by
  rw[zW];simp only[bD,if_false];have a:=mm (if j<i then j else i) r (if j<i then j else i) aK;have b:(if j<i then j else i)<=i/\(if j<i then j else i)<=j:=by split<;>lia
  rcases aF.mp h with rfl|h
  ·exact Int.le_trans a b.1
  ·rcases aF.mp h with rfl|h
   ·exact Int.le_trans a b.2
   ·exact mm _ r x (aO _ h)
theorem Df{L:List (List Int)}{s:List Int}(h:s∈L):lsm L<=(s.length:Int):=by
 cases L with
 |nil=>cases h
 |cons a r=>rw[lsm,aR];exact mm _ _ _ (by rw[<-aR (f:=λs:List Int=>(s.length:Int))];exact aI.mpr ⟨s,h,rfl⟩)
theorem kK:∀(j:Nat) (s:List Int),s.Pairwise (· < ·)->(∀i∈s,0<=i/\i<(j:Int))->s∈subs j
 | 0,s,_,h=>by
  cases s with
  |nil=>simp[subs]
  |cons a r=>have:=h a aK;lia
 |j+1,s,hp,h=>by
  rw[subs,List.mem_append,aI];rcases List.eq_nil_or_concat s with rfl|⟨t,x,rfl⟩
  ·exact .inl (kK j [] .nil (by simp))
  ·rw[List.concat_eq_append]at *;have hp':=List.pairwise_append.mp hp;have hx:=h x (by simp);by_cases e:x=(j:Int)
   ·subst e;exact .inr ⟨t,kK j t hp'.1 λi hi=>⟨(h i (by simp[hi])).1,hp'.2.2 i hi _ (by simp)⟩,rfl⟩
   ·refine .inl (kK j _ hp λi hi=>⟨(h i hi).1,?_⟩);rcases List.mem_append.mp hi with hi|hi
    ·have:=hp'.2.2 i hi x (by simp);lia
    ·rw[List.mem_singleton.mp hi];lia
theorem tw{p x:List Int}:∀{l:List (List Int)},x∈eO p l↔x=p\/x∈l
 | []=>by simp[eO]
 |q::r=>by
  rw[eO];split
  ·rw[aF,tw,aF];constructor
   ·rintro(h|h|h)
    ·exact .inr (.inl h)
    ·exact .inl h
    ·exact .inr (.inr h)
   ·rintro(h|h|h)
    ·exact .inr (.inl h)
    ·exact .inl h
    ·exact .inr (.inr h)
  ·simp
theorem pH{x:List Int}:∀{l:List (List Int)},x∈zT l↔x∈l
 | []=>by simp[zT]
 |q::r=>by rw[zT,tw,pH,aF]
theorem r8{m:Int}(h1:1<=m){s:List Int}(g:GS m s):s∈zT (subs m.toNat):=pH.mpr (kK _ s g.lt λi hi=>by have:=g.ok i hi;lia)
theorem tN{m:Int}{ts:List (Int×Int)}{s:List Int}:hz m ts s=decide (un m ts s=[]):=by
 rw[Bool.eq_iff_iff,decide_eq_true_eq,un,List.filter_eq_nil_iff,hz,b_];refine forall_congr' λa=>forall_congr' λ_=>?_
 cases mk m ts s a<;>simp
theorem xH{m:Int}{ts:List (Int×Int)}(h1:1<=m){s:List Int}(g:GS m s)(hu:un m ts s=[]):s∈hl m ts:=by
 rw[hl,aX];exact⟨r8 h1 g,by rw[tN,hu];rfl⟩
theorem DB{m:Int}{ts:List (Int×Int)}{s:List Int}(hs:s∈hl m ts):un m ts s=[]:=by
 rw[hl,aX]at hs;have:=hs.2;rw[tN]at this
 simpa using this
section
variable{p:Pr}(B:Web p)
include B
end
end KG
namespace K42
open PySem PySem.Spec PyProof.Rows L2 EV
noncomputable def top(i:Nat):Stmt:=PySem.Challenge.pw_holdplaces_k42_whole_trees_hold_as_many.main.body.getD i (.Pass ⟨0,0,0,0⟩)
abbrev kN:Fn:=KG.kN
abbrev jx:Fn:=KG.jx
abbrev iH:Fn:=KG.iH
abbrev i4:Fn:=KG.i4
abbrev jb:Fn:=KG.jb
abbrev iI:Fn:=KG.iI
abbrev jC:Fn:=KG.jC
abbrev gv:Fn:=KG.gv
abbrev g7:Fn:=KG.g7
abbrev gU:Fn:=KG.gU
abbrev gz:Fn:=KG.gz
abbrev fO:Fn:=KG.fO
noncomputable def gW:Fn:=⟨2,6,false,(.cons (.set (.nm 2) (.dic1 (.var 1) (.con (.int 0)))) (.cons (.set (.nm 3) (.lst (.cons (.var 1) .nil))) (.cons (.while (.val (.own 3)) (.cons (.pop0 4 3) (.cons (.for (.nm 5) (.seq (.call "hood_of" (.cons (.var 0) (.cons (.var 4) .nil)))) (.cons (.ite (.cmp .notin (.var 5) (.own 2)) (.cons (.seti 2 (.var 5) (.op .add (.ix (.own 2) (.var 4)) (.con (.int 1)))) (.cons (.app 3 (.var 5)) .nil)) .nil) .nil)) .nil))) (.cons (.ret (.own 2)) .nil))))⟩
noncomputable def iE:Fn:=⟨1,5,true,(.cons (.exp (.call "need_web" (.cons (.var 0) .nil))) (.cons (.set (.nm 1) (.lst .nil)) (.cons (.set (.nm 2) .dic) (.cons (.for (.nm 3) (.rng (.ix (.var 0) (.con (.int 0)))) (.cons (.ite (.cmp .notin (.var 3) (.own 2)) (.cons (.set (.nm 4) (.call "ways_from" (.cons (.var 0) (.cons (.var 3) .nil)))) (.cons (.dupd 2 (.var 4)) (.cons (.app 1 (.bi .tuple (.cons (.bi .sorted (.cons (.var 4) .nil)) .nil))) .nil))) .nil) .nil)) (.cons (.ret (.own 1)) .nil)))))⟩
noncomputable def mh:Fn:=⟨1,3,false,(.cons (.exp (.call "need_web" (.cons (.var 0) .nil))) (.cons (.set (.tp [1,2]) (.var 0)) (.cons (.ret (.and (.cmp .eq (.bi .len (.cons (.call "pieces" (.cons (.var 0) .nil)) .nil)) (.con (.int 1))) (.cmp .eq (.bi .len (.cons (.var 2) .nil)) (.op .sub (.var 1) (.con (.int 1)))))) .nil)))⟩
noncomputable def jT:Fn:=⟨1,1,false,(.cons (.ite (.not (.val (.call "is_tree" (.cons (.var 0) .nil)))) (.cons .unk .nil) .nil) .nil)⟩
noncomputable def mJ:Fn:=⟨2,3,false,(.cons (.exp (.call "need_tree" (.cons (.var 0) .nil))) (.cons (.exp (.call "need_place" (.cons (.var 0) (.cons (.var 1) .nil)))) (.cons (.set (.nm 2) (.call "ways_from" (.cons (.var 0) (.cons (.var 1) .nil)))) (.cons (.ret (.bi .tuple (.cons (.comp (.rng (.ix (.var 0) (.con (.int 0)))) [none,none,some 2,some 0] (.nm 1) .yes (.call "upper" (.cons (.var 3) (.cons (.var 2) (.cons (.var 1) .nil))))) .nil))) .nil))))⟩
noncomputable def lJ:Fn:=⟨3,4,false,(.cons (.set (.nm 3) (.comp (.seq (.call "hood_of" (.cons (.var 0) (.cons (.var 2) .nil)))) [none,none,some 2,some 1] (.nm 1) (.cmp .lt (.ix (.var 3) (.var 1)) (.ix (.var 3) (.var 2))) (.var 1))) (.cons (.ret (.ite (.val (.var 3)) (.ix (.var 3) (.con (.int 0))) (.neg (.con (.int 1))))) .nil))⟩
noncomputable def lR:Fn:=⟨2,3,false,(.cons (.exp (.call "need_tree" (.cons (.var 0) .nil))) (.cons (.exp (.call "need_place" (.cons (.var 0) (.cons (.var 1) .nil)))) (.cons (.set (.nm 2) (.call "ways_from" (.cons (.var 0) (.cons (.var 1) .nil)))) (.cons (.ret (.comp (.seq (.bi .sorted (.cons (.comp (.rng (.ix (.var 0) (.con (.int 0)))) [none,none,some 2] (.nm 1) .yes (.tup (.cons (.neg (.ix (.var 2) (.var 1))) (.cons (.var 1) .nil)))) .nil))) [none,none,none] (.tp [1,2]) .yes (.var 2))) .nil))))⟩
noncomputable def kM:Fn:=⟨2,8,true,(.cons (.set (.nm 2) (.call "above" (.cons (.var 0) (.cons (.var 1) .nil)))) (.cons (.set (.nm 3) (.call "hoods" (.cons (.var 0) .nil))) (.cons (.set (.nm 4) (.lst .nil)) (.cons (.set (.nm 5) (.lst .nil)) (.cons (.for (.nm 6) (.seq (.call "from_far" (.cons (.var 0) (.cons (.var 1) .nil)))) (.cons (.ite (.cmp .notin (.var 6) (.own 4)) (.cons (.set (.nm 7) (.ite (.cmp .eq (.var 6) (.var 1)) (.var 1) (.ix (.var 2) (.var 6)))) (.cons (.app 5 (.tup (.cons (.var 6) (.cons (.var 7) .nil)))) (.cons (.ext 4 (.ix (.var 3) (.var 7))) .nil))) .nil) .nil)) (.cons (.ret (.own 5)) .nil))))))⟩
noncomputable def ou:Fn:=⟨2,5,false,(.cons (.set (.nm 2) (.call "steps" (.cons (.var 0) (.cons (.var 1) .nil)))) (.cons (.set (.nm 3) (.bi .sorted (.cons (.comp (.seq (.var 2)) [none,none,none] (.tp [1,2]) .yes (.var 2)) .nil))) (.cons (.set (.nm 4) (.bi .sorted (.cons (.comp (.seq (.var 2)) [none,none,none] (.tp [1,2]) .yes (.var 1)) .nil))) (.cons (.ret (.tup (.cons (.bi .tuple (.cons (.var 3) .nil)) (.cons (.bi .tuple (.cons (.var 4) .nil)) .nil)))) .nil))))⟩
abbrev iD:Fn:=KG.iD
abbrev jg:Fn:=KG.jg
noncomputable def gY:Fn:=⟨2,3,false,(.cons (.set (.nm 2) (.call "unheld" (.cons (.var 0) (.cons (.var 1) .nil)))) (.cons (.ite (.val (.var 2)) (.cons .unk .nil) .nil) .nil))⟩
abbrev jr:Fn:=KG.jr
abbrev iW:Fn:=KG.iW
abbrev jf:Fn:=KG.jf
abbrev gQ:Fn:=KG.gQ
abbrev fD:Fn:=KG.fD
abbrev iz:Fn:=KG.iz
abbrev iP:Fn:=KG.iP
abbrev i7:Fn:=KG.i7
abbrev jX:Fn:=KG.jX
abbrev i8:Fn:=KG.i8
abbrev i9:Fn:=KG.i9
abbrev jK:Fn:=KG.jK
noncomputable def jo:Fn:=⟨3,3,false,(.cons (.exp (.call "need_web" (.cons (.var 0) .nil))) (.cons (.exp (.call "need_some" (.cons (.var 0) (.cons (.var 1) .nil)))) (.cons (.exp (.call "need_all" (.cons (.var 0) (.cons (.var 1) .nil)))) (.cons (.ret (.and (.call "is_some" (.cons (.var 0) (.cons (.var 2) .nil))) (.and (.cmp .eq (.bi .len (.cons (.var 2) .nil)) (.bi .len (.cons (.var 1) .nil))) (.call "is_apart" (.cons (.var 0) (.cons (.var 2) .nil)))))) .nil))))⟩
noncomputable def nL:Fn:=⟨1,2,false,(.cons (.set (.nm 1) (.call "first_apart" (.cons (.var 0) .nil))) (.cons (.ret (.ite (.cmp .eq (.bi .len (.cons (.var 1) .nil)) (.call "fewest" (.cons (.var 0) .nil))) (.var 1) (.con .non))) .nil))⟩
abbrev kT:Fn:=KG.kT
abbrev gn:Fn:=KG.gn
abbrev gH:Fn:=KG.gH
abbrev ij:Fn:=KG.ij
abbrev hV:Fn:=KG.hV
abbrev zU:Fn:=KG.zU
noncomputable def kJ:Fn:=⟨2,6,false,(.cons (.set (.nm 2) (.lst .nil)) (.cons (.for (.nm 3) (.rng (.var 0)) (.cons (.ins 2 (.op .mod (.call "_law_stir" (.cons (.var 1) (.cons (.op .add (.var 3) (.con (.int 40))) .nil))) (.op .add (.var 3) (.con (.int 1)))) (.var 3)) .nil)) (.cons (.set (.nm 4) (.lst .nil)) (.cons (.for (.nm 5) (.rng2 (.con (.int 1)) (.var 0)) (.cons (.app 4 (.bi .tuple (.cons (.bi .sorted (.cons (.lst (.cons (.ix (.own 2) (.var 5)) (.cons (.ix (.own 2) (.op .mod (.call "_law_stir" (.cons (.var 1) (.cons (.var 5) .nil))) (.var 5))) .nil))) .nil)) .nil))) .nil)) (.cons (.ret (.tup (.cons (.var 0) (.cons (.bi .tuple (.cons (.bi .sorted (.cons (.own 4) .nil)) .nil)) .nil)))) .nil)))))⟩
noncomputable def sf:Fn:=⟨2,4,false,(.cons (.set (.nm 2) (.lst .nil)) (.cons (.for (.nm 3) (.seq (.var 1)) (.cons (.set (.nm 2) (.op .add (.var 2) (.bi .list (.cons (.call "_law_hood" (.cons (.var 0) (.cons (.var 3) .nil))) .nil)))) .nil)) (.cons (.ret (.cmp .eq (.bi .len (.cons (.var 2) .nil)) (.sset true (.var 2)))) .nil)))⟩
noncomputable def sL:Fn:=⟨2,6,false,(.cons (.set (.nm 2) (.call "tree_pair" (.cons (.var 0) (.cons (.var 1) .nil)))) (.cons (.ite (.or (.not (.val (.isi (.var 2) (.ty "tuple")))) (.cmp .ne (.bi .len (.cons (.var 2) .nil)) (.con (.int 2)))) (.cons (.ret (.con (.bl false))) .nil) .nil) (.cons (.set (.tp [3,4]) (.var 2)) (.cons (.set (.nm 5) (.call "steps" (.cons (.var 0) (.cons (.var 1) .nil)))) (.cons (.ite (.not (.val (.call "_law_same" (.cons (.var 3) (.cons (.bi .tuple (.cons (.bi .sorted (.cons (.comp (.seq (.var 5)) [none,none,none] (.tp [1,2]) .yes (.var 2)) .nil)) .nil)) .nil))))) (.cons (.ret (.con (.bl false))) .nil) .nil) (.cons (.ite (.or (.not (.val (.call "_law_same" (.cons (.var 4) (.cons (.bi .tuple (.cons (.bi .sorted (.cons (.comp (.seq (.var 5)) [none,none,none] (.tp [1,2]) .yes (.var 1)) .nil)) .nil)) .nil))))) (.cmp .ne (.sset true (.var 3)) (.bi .len (.cons (.var 3) .nil)))) (.cons (.ret (.con (.bl false))) .nil) .nil) (.cons (.ite (.or (.cmp .ne (.call "_law_unheld" (.cons (.var 0) (.cons (.var 3) .nil))) (.tup .nil)) (.or (.not (.val (.call "_law_clear" (.cons (.var 0) (.cons (.var 4) .nil))))) (.cmp .isnot (.call "is_paper" (.cons (.var 0) (.cons (.var 3) (.cons (.var 4) .nil)))) (.con (.bl true))))) (.cons (.ret (.con (.bl false))) .nil) .nil) (.cons (.ret (.and (.cmp .eq (.bi .len (.cons (.var 3) .nil)) (.call "fewest" (.cons (.var 0) .nil))) (.and (.cmp .eq (.bi .len (.cons (.var 4) .nil)) (.call "most_apart" (.cons (.var 0) .nil))) (.cmp .eq (.bi .len (.cons (.var 4) .nil)) (.bi .len (.cons (.var 3) .nil)))))) .nil))))))))⟩
noncomputable def gB:Fn:=⟨1,4,false,(.cons (.for (.nm 1) (.seq (.op .add (.sl (.var 0) .none (.some (.con (.int 4)))) (.lst (.cons (.con (.int 0)) (.cons (.con (.int 3)) (.cons (.con (.int 129)) .nil)))))) (.cons (.set (.nm 2) (.op .add (.con (.int 1)) (.op .mod (.op .fdiv (.var 1) (.con (.int 64))) (.con (.int 8))))) (.cons (.set (.nm 3) (.call "_law_tree_by" (.cons (.var 2) (.cons (.op .fdiv (.var 1) (.con (.int 512))) .nil)))) (.cons (.ite (.or (.not (.val (.bi .all (.cons (.comp (.rng (.var 2)) [none,none,some 3] (.nm 1) .yes (.call "_law_right" (.cons (.var 2) (.cons (.var 1) .nil)))) .nil)))) (.cmp .is (.call "paper_for" (.cons (.var 3) .nil)) (.con .non))) (.cons (.ret (.con (.bl false))) .nil) .nil) .nil)))) (.cons (.ret (.con (.bl true))) .nil))⟩
abbrev wG:Ent:=⟨"is_whole",top 8,[],false,kN⟩
abbrev DM:Ent:=⟨"is_between",top 9,[],false,jx⟩
abbrev A9:Ent:=⟨"is_pair",top 10,[],false,iH⟩
abbrev yl:Ent:=⟨"rises",top 11,[],false,i4⟩
abbrev vB:Ent:=⟨"is_web",top 14,[],false,jb⟩
abbrev BI:Ent:=⟨"is_tie",top 15,[],false,iI⟩
abbrev Cn:Ent:=⟨"need_web",top 16,[],false,jC⟩
abbrev Fx:Ent:=⟨"is_place",top 17,[],false,gv⟩
abbrev Bf:Ent:=⟨"need_place",top 18,[],false,g7⟩
abbrev Br:Ent:=⟨"hoods",top 19,[],false,gU⟩
abbrev D9:Ent:=⟨"hood_of",top 20,[],false,gz⟩
abbrev yu:Ent:=⟨"are_tied",top 21,[],false,fO⟩
abbrev Hy:Ent:=⟨"ways_from",top 22,[aL "ways",aL "waiting"],false,gW⟩
abbrev FD:Ent:=⟨"pieces",top 23,[aL "seen",aL "found"],true,iE⟩
abbrev Gs:Ent:=⟨"is_tree",top 24,[],false,mh⟩
abbrev Ha:Ent:=⟨"need_tree",top 26,[],false,jT⟩
abbrev A8:Ent:=⟨"above",top 27,[],false,mJ⟩
abbrev yV:Ent:=⟨"upper",top 28,[],false,lJ⟩
abbrev AS:Ent:=⟨"from_far",top 29,[],false,lR⟩
abbrev Ec:Ent:=⟨"steps",top 30,[aL "told",aL "held"],true,kM⟩
abbrev F8:Ent:=⟨"tree_pair",top 31,[],false,ou⟩
abbrev AR:Ent:=⟨"is_some",top 33,[],false,iD⟩
abbrev FE:Ent:=⟨"need_some",top 34,[],false,jg⟩
abbrev GA:Ent:=⟨"need_all",top 35,[],false,gY⟩
abbrev xY:Ent:=⟨"unheld",top 36,[],false,jr⟩
abbrev Fj:Ent:=⟨"mark_of",top 37,[],false,iW⟩
abbrev Bt:Ent:=⟨"marks_of",top 38,[],false,jf⟩
abbrev D5:Ent:=⟨"places_marked",top 39,[],false,gQ⟩
abbrev Hh:Ent:=⟨"all_some",top 40,[],false,fD⟩
abbrev Dl:Ent:=⟨"all_holding",top 41,[],false,iz⟩
abbrev BU:Ent:=⟨"fewest",top 43,[],false,iP⟩
abbrev GP:Ent:=⟨"first_fewest",top 44,[],false,i7⟩
abbrev B5:Ent:=⟨"all_fewest",top 45,[],true,jX⟩
abbrev Ba:Ent:=⟨"is_apart",top 46,[],false,i8⟩
abbrev FU:Ent:=⟨"most_apart",top 47,[],false,i9⟩
abbrev GO:Ent:=⟨"first_apart",top 48,[],false,jK⟩
abbrev FI:Ent:=⟨"is_paper",top 49,[],false,jo⟩
abbrev y9:Ent:=⟨"paper_for",top 50,[],false,nL⟩
abbrev Ew:Ent:=⟨"is_apart_by",top 51,[],false,kT⟩
abbrev EK:Ent:=⟨"_law_hood",top 53,[aL "_law_found"],false,gn⟩
abbrev G_:Ent:=⟨"_law_same",top 54,[],false,gH⟩
abbrev HB:Ent:=⟨"_law_holders",top 55,[],false,ij⟩
abbrev Eo:Ent:=⟨"_law_unheld",top 56,[],false,hV⟩
abbrev xq:Ent:=⟨"_law_stir",top 57,[],false,zU⟩
abbrev Ce:Ent:=⟨"_law_tree_by",top 58,[aL "_law_order",aL "_law_ties"],false,kJ⟩
abbrev xp:Ent:=⟨"_law_clear",top 59,[],false,sf⟩
abbrev x8:Ent:=⟨"_law_right",top 60,[],false,sL⟩
abbrev h_:Ent:=⟨"law",top 61,[],false,gB⟩
abbrev tab:List Ent:=[wG,DM,A9,yl,vB,BI,Cn,Fx,Bf,Br,D9,yu,Hy,FD,Gs,Ha,A8,yV,AS,Ec,F8,AR,FE,GA,xY,Fj,Bt,D5,Hh,Dl,BU,GP,B5,Ba,FU,GO,FI,y9,Ew,EK,G_,HB,Eo,xq,Ce,xp,x8,h_]
abbrev oth:List (Str×GK):=[(aL "NoWeb",GK.exc),(aL "NoPlaces",GK.exc),(aL "NoPlace",GK.exc),(aL "NotAll",GK.exk),(aL "NotTree",GK.exc),(aL "MOST",GK.val),(aL "len",GK.bi .len),(aL "tuple",GK.ty "tuple" (some .tuple)),(aL "list",GK.ty "list" (some .list)),(aL "int",GK.ty "int" (some .int)),(aL "bool",GK.ty "bool" (some .bool)),(aL "str",GK.ty "str" none),(aL "set",GK.set),(aL "sorted",GK.bi .sorted),(aL "all",GK.bi .all),(aL "min",GK.bi .min),(aL "max",GK.bi .max),(aL "range",GK.rng),(aL "enumerate",GK.enum),(aL "zip",GK.zip),(aL "isinstance",GK.isi)]
abbrev vals:List (Str×D):=[(aL "MOST",(.int 8))]
abbrev G:List (Str×GK):=tab.map (λe=>(e.x,GK.fn e.fr))++oth
abbrev dN:List (Str×Str):=[]
abbrev us:List Ent:=[]
abbrev subs:List ((Str×Cl)×Bool):=[]
abbrev p:Pr:=prT tab vals dN subs
theorem Hv:p.fns "tree_pair" = some ou:=by kernel_rfl
theorem wW:p.fns "paper_for" = some nL:=by kernel_rfl
theorem xF:p.fns "_law_clear" = some sf:=by kernel_rfl
theorem Dr:p.fns "_law_right" = some sL:=by kernel_rfl
theorem Bm:p.fns "law" = some gB:=by kernel_rfl
end K42
namespace KG
open EV
open PySem (Str)
open L2 (atI ixN ltP)
section
variable(m:Int)(ts:List (Int×Int))
noncomputable def grow:Nat->List Int->List Int
 | 0,s=>s
 |n+1,s=>match un m ts s with
  | []=>s
  |a::_=>grow n (sortI (s++[a]))
noncomputable def fr(h:List Int)(a:Int):Bool:=decide (((hd m ts a).filter λx=>h.any λt=>t==x)=[])
end
section
variable{m:Int}{ts:List (Int×Int)}
theorem nN{h:List Int}{a:Int}:fr m ts h a=true↔∀x∈h,x∉hd m ts a:=by
 rw[fr,decide_eq_true_eq,List.filter_eq_nil_iff];constructor
 ·intro q x hx hd;exact q x hd (by simp[hx])
 ·intro q x hx z;simp only[bS,beq_iff_eq]at z;obtain⟨y,hy,rfl⟩:=z;exact q y hy hx
theorem ye{h:List Int}{a:Int}:(mk m ts h a=[])↔fr m ts h a=true:=by
 rw[nN,mk,List.filter_eq_nil_iff];constructor
 ·intro q x hx hd;exact q x hx (by simp[hd])
 ·intro q x hx z;simp only[bS,beq_iff_eq]at z;obtain⟨y,hy,rfl⟩:=z;exact q _ hx hy
theorem xZ(h:List Int):un m ts h=(rng m).filter λa=>fr m ts h a:=by
 rw[un];refine List.filter_congr λa _=>?_
 rw[Bool.eq_iff_iff,decide_eq_true_eq];exact ye
end
noncomputable def both(s:List Int)(t:Int×Int):Bool:=(s.any λx=>x==t.1)&&(s.any λx=>x==t.2)
noncomputable def ls(L:List (List Int)):Int:=match L.map (λs=>(s.length:Int))with
 | []=>0
 |x::r=>zW true x r
noncomputable def gr(L:List (List Int)):List (List Int):=L.filter λs=>decide ((s.length:Int)=ls L)
theorem B7(i:Int)(r:List Int):zW true i r∈i::r:=by
 induction r generalizing i with
 |nil=>simp[zW]
 |cons j r ih=>
  rw[zW];have:=ih (if i<j then j else i);simp only[if_true];rcases aF.mp this with e|e
  ·rw[e];split<;>simp
  ·exact aO _ (aO _ e)
theorem uz{L:List (List Int)}(h:L≠[]):∃s r,gr L=s::r/\s∈L:=by
 obtain⟨a,r,rfl⟩:∃a r,L=a::r:=by cases L with|nil=>exact absurd rfl h|cons a r=>exact⟨a,r,rfl⟩
 have hm:ls (a::r)∈(a::r).map λs=>(s.length:Int):=by
  rw[ls,aR];exact B7 _ _
 obtain⟨s,hs,e⟩:=aI.mp hm;have:s∈gr (a::r):=aX.mpr ⟨hs,by simpa using e⟩;cases q:gr (a::r)with
 |nil=>rw[q]at this;cases this
 |cons t u=>
  have ht:t∈gr (a::r):=by rw[q];exact aK
  exact⟨t,u,rfl,(aX.mp ht).1⟩
theorem rA:∀L:List (List Int),lens? (L.map tu)=some (L.map λs=>(s.length:Int))
 | []=>rfl
 |s::r=>by
  show (seq? (tu s)).bind (λxs=>(lens? (r.map tu)).map ((xs.length:Int) :: ·))=_;rw[rA r];show some (((s.map D.int).length:Int)::_)=_;rw[aJ];rfl
theorem rD(n:Int):∀(L:List (List Int)) {s:List Int}{r:List (List Int)},(L.filter λs=>decide ((s.length:Int)=n))=s::r->pickK n (L.map tu) (L.map λs=>(s.length:Int))=.ok (tu s)
 | [],_,_,h=>by cases h
 |t::L,s,r,h=>by
  rw[aR,aR,pickK];rw[List.filter_cons]at h;by_cases e:(t.length:Int)=n
  ·rw[if_pos e];rw[if_pos (by simpa using e)]at h;cases h;rfl
  ·rw[if_neg e];rw[if_neg (by simpa using e)]at h;exact rD n L h
theorem xS{L:List (List Int)}{s:List Int}{r:List (List Int)}(h:gr L=s::r):fK true (.lst (L.map tu))=.ok (tu s):=by
 simp only[fK,dE];rw[rA];simp only[bX];cases L with
 |nil=>cases h
 |cons a L=>
  have:=rD (ls (a::L)) (a::L) h;rw[<-this];rfl
section
variable{m:Int}{ts:List (Int×Int)}
theorem DE{s:List Int}{x:Int}:(s.any λt=>t==x)=true↔x∈s:=by
 simp only[bS,beq_iff_eq,exists_eq_right]
theorem og(h:GW m ts){t:Int×Int}(ht:t∈ts):cC ts t.1 t.2=true/\cC ts t.2 t.1=true:=by
 have e:cC ts t.1 t.2=true:=by
  rw[cC,bS];refine⟨t,ht,?_⟩;rw[vo _ _ _ (h.ok t ht).2.1];simp
 exact⟨e,by rw[mC];exact e⟩
theorem Ae(h:GW m ts){a b:Int}(e:cC ts a b=true):∃t∈ts,(t.1=a/\t.2=b)\/(t.1=b/\t.2=a):=by
 rw[cC,bS]at e;obtain⟨t,ht,e⟩:=e;rw[vo _ _ _ (h.ok t ht).2.1]at e;simp only[bW,aW,beq_iff_eq]at e;exact⟨t,ht,e⟩
theorem my:∀(i:Int) (r:List Int),∀x∈i::r,x<=zW true i r
 |i,[],x,h=>by simp at h;subst h;simp[zW]
 |i,j::r,x,h=>by
  rw[zW];simp only[if_true];have a:=my (if i<j then j else i) r (if i<j then j else i) aK;have b:i<=(if i<j then j else i)/\j<=(if i<j then j else i):=by split<;>lia
  rcases aF.mp h with rfl|h
  ·exact Int.le_trans b.1 a
  ·rcases aF.mp h with rfl|h
   ·exact Int.le_trans b.2 a
   ·exact my _ r x (aO _ h)
theorem vI{L:List (List Int)}{s:List Int}(h:s∈L):(s.length:Int)<=ls L:=by
 cases L with
 |nil=>cases h
 |cons a r=>rw[ls,aR];exact my _ _ _ (by rw[<-aR (f:=λs:List Int=>(s.length:Int))];exact aI.mpr ⟨s,h,rfl⟩)
end
noncomputable def yY:Fn:=⟨3,3,false,(.cons (.exp (.call "need_web" (.cons (.var 0) .nil))) (.cons (.exp (.call "need_some" (.cons (.var 0) (.cons (.var 1) .nil)))) (.cons (.exp (.call "need_place" (.cons (.var 0) (.cons (.var 2) .nil)))) (.cons (.ite (.cmp .notin (.var 2) (.var 1)) (.cons .unk .nil) .nil) (.cons (.ret (.call "places_marked" (.cons (.call "marks_of" (.cons (.call "hoods" (.cons (.var 0) .nil)) (.cons (.var 1) .nil))) (.cons (.tup (.cons (.var 2) .nil)) .nil)))) .nil)))))⟩
noncomputable def yh:Fn:=⟨2,4,false,(.cons (.exp (.call "need_web" (.cons (.var 0) .nil))) (.cons (.exp (.call "need_some" (.cons (.var 0) (.cons (.var 1) .nil)))) (.cons (.exp (.call "need_all" (.cons (.var 0) (.cons (.var 1) .nil)))) (.cons (.set (.nm 2) (.var 1)) (.cons (.set (.nm 3) (.call "spare" (.cons (.var 0) (.cons (.var 2) .nil)))) (.cons (.while (.val (.var 3)) (.cons (.set (.nm 2) (.call "without" (.cons (.var 2) (.cons (.ix (.var 3) (.neg (.con (.int 1)))) .nil)))) (.cons (.set (.nm 3) (.call "spare" (.cons (.var 0) (.cons (.var 2) .nil)))) .nil))) (.cons (.ret (.var 2)) .nil)))))))⟩
noncomputable def vw:Fn:=⟨2,2,false,(.cons (.ret (.bi .tuple (.cons (.comp (.seq (.var 0)) [none,none,some 1] (.nm 1) (.cmp .ne (.var 1) (.var 2)) (.var 1)) .nil))) .nil)⟩
noncomputable def gY:Fn:=⟨2,3,false,(.cons (.set (.nm 2) (.call "unheld" (.cons (.var 0) (.cons (.var 1) .nil)))) (.cons (.ite (.val (.var 2)) (.cons .unk .nil) .nil) .nil))⟩
structure Ld(p:Pr):Prop where
 leaned:p.fns "leaned" = some yh
 without:p.fns "without" = some vw
structure Ln(p:Pr):Prop extends Ld p where
 own:p.fns "own" = some yY
 need_place:p.fns "need_place" = some g7
section
variable{m:Int}{ts:List (Int×Int)}
end
section
variable{p:Pr}(B:Web p)(O:Nbr p)(S:fm p)
include B O S
theorem Dv(U:Un p)(hf:p.fns "need_all" = some gY){k:Nat}{m:Int}{ts:List (Int×Int)}(h:GW m ts){s:List Int}(g:GS m s)(hu:un m ts s=[]):qa p (k+7) "need_all" [wb m ts,tu s]=.ok .non:=by
 have e:=unheld B S O U (k:=k) h g;rw[hu]at e;have e6:tu []=.tup []:=rfl;rw[e6]at e;rw[qf hf];simp only[dC];generalize wb m ts=WB at *;generalize tu s=TS at *;simp[KG.Z,gY,e]
end
end KG
namespace KG
open EV
open PySem (Str)
open L2 (atI ixN ltP atK cD dA)
noncomputable def inR(m:Int)(ts:List (Int×Int))(r:Int):Nat->Int->Prop
 | 0,v=>v=r
 |k+1,v=>inR m ts r k v\/∃u,inR m ts r k u/\v∈hd m ts u
noncomputable def b6(m:Int)(ts:List (Int×Int))(r v d:Int):Prop:=∃k:Nat,d=k/\inR m ts r k v/\∀j,j<k->¬ inR m ts r j v
noncomputable def Key(kvs:List (Int×Int))(v:Int):Prop:=∃d,(v,d)∈kvs
section
variable{m:Int}{ts:List (Int×Int)}{r:Int}
theorem b6.uniq{v d e:Int}(h:b6 m ts r v d)(h':b6 m ts r v e):d=e:=by
 obtain⟨j,rfl,a1,a2⟩:=h;obtain⟨k,rfl,b1,b2⟩:=h';rcases Nat.lt_trichotomy j k with z|z|z
 ·exact absurd a1 (b2 j z)
 ·rw[z]
 ·exact absurd b1 (a2 k z)
theorem b6.le{v d:Int}(h:b6 m ts r v d){k:Nat}(q:inR m ts r k v):d<=k:=by
 obtain⟨j,rfl,a1,a2⟩:=h;by_cases z:j<=k
 ·lia
 ·exact absurd q (a2 k (by lia))
theorem ff{u w:Int}(h:w∈hd m ts u):0<=w/\w<m:=bP.mp (aX.mp h).1
structure Bfs(m:Int)(ts:List (Int×Int))(r:Int)(kvs:List (Int×Int))(q:List Int):Prop where
 nd:(kvs.map (·.1)).Nodup
 ok:∀p∈kvs,b6 m ts r p.1 p.2/\0<=p.1/\p.1<m
 rt:Key kvs r
 qk:∀u∈q,Key kvs u
 dn:∀p∈kvs,p.1∉q->∀w∈hd m ts p.1,Key kvs w
 so:∀v rr,q=v::rr->∃dv,(v,dv)∈kvs/\(∀u∈rr,∀du,(u,du)∈kvs->du<=dv+1)/\∀(k:Nat) w,(k:Int)<=dv->inR m ts r k w->Key kvs w
 sr:q.Pairwise λa b=>∀da db,(a,da)∈kvs->(b,db)∈kvs->da<=db
structure Bin(m:Int)(ts:List (Int×Int))(r v dv:Int)(kvs:List (Int×Int))(q l:List Int):Prop where
 nd:(kvs.map (·.1)).Nodup
 ok:∀p∈kvs,b6 m ts r p.1 p.2/\0<=p.1/\p.1<m
 rt:Key kvs r
 vk:(v,dv)∈kvs
 qk:∀u∈q,Key kvs u
 dn:∀p∈kvs,p.1∉q->p.1≠v->∀w∈hd m ts p.1,Key kvs w
 pr:∀u∈hd m ts v,u∈l\/Key kvs u
 lh:∀u∈l,u∈hd m ts v
 bd:∀u∈q,∀du,(u,du)∈kvs->dv<=du/\du<=dv+1
 ev:∀(k:Nat) w,(k:Int)<=dv->inR m ts r k w->Key kvs w
 sr:q.Pairwise λa b=>∀da db,(a,da)∈kvs->(b,db)∈kvs->da<=db
theorem Bfs.start(h0:0<=r)(h:r<m):Bfs m ts r [(r,0)] [r]:=by
 have d0:b6 m ts r r 0:=⟨0,rfl,rfl,λj z=>by lia⟩
 refine⟨by simp,λp hp=>?_,⟨0,by simp⟩,λu hu=>?_,λp hp hn=>?_,λv rr e=>?_,by simp⟩
 ·simp at hp;subst hp;exact⟨d0,h0,h⟩
 ·simp at hu;subst hu;exact⟨0,by simp⟩
 ·simp at hp;subst hp;simp at hn
 ·cases e;refine⟨0,by simp,λu hu=>by simp at hu,λk w hk q=>?_⟩;have:k=0:=by lia
  subst this;have q:w=r:=q;subst q;exact⟨0,by simp⟩
theorem Bfs.take{kvs:List (Int×Int)}{v:Int}{q:List Int}(b:Bfs m ts r kvs (v::q)):∃dv,Bin m ts r v dv kvs q (hd m ts v):=by
 obtain⟨dv,h1,h2,h3⟩:=b.so v q rfl;have sr:=List.pairwise_cons.mp b.sr;refine⟨dv,b.nd,b.ok,b.rt,h1,λu hu=>b.qk u (by simp[hu]),λp hp hn hv=>b.dn p hp (by simp[hn,hv]),λu hu=>.inl hu,λu hu=>hu,λu hu du hd'=>⟨sr.1 u hu dv du h1 hd',h2 u hu du hd'⟩,h3,sr.2⟩
theorem jG{kvs:List (Int×Int)}{u d w:Int}(h:Key kvs w):Key (kvs++[(u,d)]) w:=by
 obtain⟨e,h⟩:=h;exact⟨e,by simp[h]⟩
theorem Bin.old{v dv u:Int}{kvs:List (Int×Int)}{q l:List Int}(b:Bin m ts r v dv kvs q (u::l))(h:Key kvs u):Bin m ts r v dv kvs q l:=
 ⟨b.nd,b.ok,b.rt,b.vk,b.qk,b.dn,λw hw=>by
  rcases b.pr w hw with z|z
  ·rcases aF.mp z with rfl|z
   ·exact .inr h
   ·exact .inl z
  ·exact .inr z,λw hw=>b.lh w (by simp[hw]),b.bd,b.ev,b.sr⟩
theorem Bin.new{v dv u:Int}{kvs:List (Int×Int)}{q l:List Int}(b:Bin m ts r v dv kvs q (u::l))(h:¬ Key kvs u):Bin m ts r v dv (kvs++[(u,dv+1)]) (q++[u]) l:=by
 have hu:=b.lh u aK;obtain⟨u0,u1⟩:=ff hu;have dvd:=(b.ok _ b.vk).1;obtain⟨kv,rfl,k1,k2⟩:=dvd;have du:b6 m ts r u ((kv:Int)+1):=⟨kv+1,by lia,.inr ⟨v,k1,hu⟩,λj hj y=>h (b.ev j u (by lia) y)⟩
 have nu:u∉kvs.map (·.1):=λz=>by
  obtain⟨p,hp,e⟩:=aI.mp z;exact h ⟨p.2,by rw[<-e];exact hp⟩
 have old:∀{w d:Int},(w,d)∈kvs++[(u,(kv:Int)+1)]->w≠u->(w,d)∈kvs:=λ{w d} hw hn=>by
  rcases List.mem_append.mp hw with z|z
  ·exact z
  ·simp at z;exact absurd z.1 hn
 have new:∀{d:Int},(u,d)∈kvs++[(u,(kv:Int)+1)]->d=kv+1:=λ{d} hw=>by
  rcases List.mem_append.mp hw with z|z
  ·exact absurd ⟨d,z⟩ h
  ·simp at z;exact z
 refine⟨?_,λp hp=>?_,jG b.rt,by simp[b.vk],λw hw=>?_,λp hp hn hv w hw=>?_,λw hw=>?_,λw hw=>b.lh w (by simp[hw]),λw hw d hd'=>?_,λk w hk y=>jG (b.ev k w hk y),?_⟩
 ·rw[List.map_append];refine List.nodup_append.mpr ⟨b.nd,by simp,λa ha c hc e=>?_⟩;simp at hc;subst hc e;exact nu ha
 ·rcases List.mem_append.mp hp with z|z
  ·exact b.ok p z
  ·simp at z;subst z;exact⟨du,u0,u1⟩
 ·rcases List.mem_append.mp hw with z|z
  ·exact jG (b.qk w z)
  ·simp at z;subst z;exact⟨(kv:Int)+1,by simp⟩
 ·have hpu:p.1≠u:=λe=>hn (by simp[e])
  have hp':=old (w:=p.1) (d:=p.2) hp hpu;exact jG (b.dn p hp' (λz=>hn (by simp[z])) hv w hw)
 ·rcases b.pr w hw with z|z
  ·rcases aF.mp z with rfl|z
   ·exact .inr ⟨(kv:Int)+1,by simp⟩
   ·exact .inl z
  ·exact .inr (jG z)
 ·by_cases e:w=u
  ·subst e;have:=new hd';lia
  ·rcases List.mem_append.mp hw with z|z
   ·exact b.bd w z d (old hd' e)
   ·simp at z;exact absurd z e
 ·refine List.pairwise_append.mpr ⟨?_,by simp,?_⟩
  ·refine(List.Pairwise.and_mem.mp b.sr).imp λ{x y} ⟨hx,hy,z⟩ dx dy h1 h2=>?_
   have nx:x≠u:=λe=>h (e▸b.qk x hx)
   have ny:y≠u:=λe=>h (e▸b.qk y hy)
   exact z dx dy (old h1 nx) (old h2 ny)
  ·intro x hx y hy dx dy h1 h2;simp at hy;subst hy;have nx:x≠y:=λe=>h (e▸b.qk x hx)
   have:=(b.bd x hx dx (old h1 nx)).2;have:=new h2;lia
theorem Bin.done{v dv:Int}{kvs:List (Int×Int)}{q:List Int}(b:Bin m ts r v dv kvs q []):Bfs m ts r kvs q:=by
 have dn:∀p∈kvs,p.1∉q->∀w∈hd m ts p.1,Key kvs w:=λp hp hn w hw=>by
  by_cases e:p.1=v
  ·rw[e]at hw;rcases b.pr w hw with z|z
   ·cases z
   ·exact z
  ·exact b.dn p hp hn e w hw
 refine⟨b.nd,b.ok,b.rt,b.qk,dn,λv2 rr e=>?_,b.sr⟩;subst e;obtain⟨d2,h2⟩:=b.qk v2 aK;have b2:=b.bd v2 aK d2 h2;have sr:=List.pairwise_cons.mp b.sr;refine⟨d2,h2,λu hu du hd'=>by have:=(b.bd u (by simp[hu]) du hd').2;lia,λk w hk y=>?_⟩;by_cases z:(k:Int)<=dv
 ·exact b.ev k w z y
 ·have dvd:=(b.ok _ b.vk).1;obtain⟨kv,rfl,k1,k2⟩:=dvd;have:k=kv+1:=by lia
  subst this;rcases y with y|⟨u,y,hw⟩
  ·exact b.ev kv w (by lia) y
  ·obtain⟨du,hdu⟩:=b.ev kv u (by lia) y;have le:=(b.ok _ hdu).1.le y;have le:du<=kv:=le;refine dn (u,du) hdu (λhq=>?_) w hw;rcases aF.mp hq with e|hq
   ·have e:u=v2:=e;subst e;have:=((b.ok _ hdu).1).uniq (b.ok _ h2).1;have:du=d2:=this;lia
   ·have:=sr.1 u hq d2 du h2 hdu;lia
structure bO(m:Int)(ts:List (Int×Int))(r:Int)(kvs:List (Int×Int)):Prop where
 nd:(kvs.map (·.1)).Nodup
 ok:∀p∈kvs,b6 m ts r p.1 p.2/\0<=p.1/\p.1<m
 all:∀k w,inR m ts r k w->Key kvs w
theorem Bfs.ways{kvs:List (Int×Int)}(b:Bfs m ts r kvs []):bO m ts r kvs:=by
 refine⟨b.nd,b.ok,λk=>?_⟩
 induction k with
 |zero=>intro w h;have h:w=r:=h;subst h;exact b.rt
 |succ k ih=>
  rintro w (h|⟨u,h,hw⟩)
  ·exact ih w h
  ·obtain⟨d,hu⟩:=ih u h;exact b.dn (u,d) hu (by simp) w hw
theorem ke{kvs:List (Int×Int)}(nd:(kvs.map (·.1)).Nodup){v d:Int}:atK kvs v=some d↔(v,d)∈kvs:=by
 rw[atK]
 induction kvs with
 |nil=>simp
 |cons p l ih=>
  rw[aR,List.nodup_cons]at nd;rw[List.find?_cons];by_cases e:p.1=v
  ·rw[decide_eq_true e];constructor
   ·intro h;cases h;rw[<-e];exact aK
   ·intro h;rcases aF.mp h with z|z
    ·rw[<-z];rfl
    ·exact absurd (aI.mpr ⟨(v,d),z,e.symm⟩) nd.1
  ·rw[decide_eq_false e];rw[ih nd.2];constructor
   ·intro h;exact aO _ h
   ·intro h;rcases aF.mp h with z|z
    ·exact absurd (by rw[<-z]) e
    ·exact z
theorem ja(kvs:List (Int×Int))(v:Int):(kvs.any λp=>decide (p.1=v))=true↔Key kvs v:=by
 rw[bS];constructor
 ·rintro⟨p,hp,e⟩;exact⟨p.2,by rw[<-of_decide_eq_true e];exact hp⟩
 ·rintro⟨d,h⟩;exact⟨(v,d),h,by simp⟩
theorem bO.get{kvs kvs':List (Int×Int)}(a:bO m ts r kvs)(b:bO m ts r kvs')(v:Int):atK kvs v=atK kvs' v:=by
 have key:∀{x y:List (Int×Int)},bO m ts r x->bO m ts r y->∀d,atK x v=some d->atK y v=some d:=λ{x y} a b d h=>by
  rw[ke a.nd]at h;rw[ke b.nd];have h1:=(a.ok _ h).1;obtain⟨k,_,i,_⟩:=h1;obtain⟨e,he⟩:=b.all k v i;have:=b6.uniq (a.ok _ h).1 (b.ok _ he).1;have:d=e:=this;rw[this];exact he
 cases h:atK kvs v with
 |some d=>exact(key a b d h).symm
 |none=>
  cases h':atK kvs' v with
  |none=>rfl
  |some d=>rw[key b a d h']at h;cases h
theorem bO.mem{kvs:List (Int×Int)}(a:bO m ts r kvs){v:Int}:v∈kvs.map (·.1)↔∃k,inR m ts r k v:=by
 constructor
 ·intro h;obtain⟨p,hp,rfl⟩:=aI.mp h;obtain⟨k,_,i,_⟩:=(a.ok p hp).1;exact⟨k,i⟩
 ·rintro⟨k,h⟩;obtain⟨d,hd'⟩:=a.all k v h;exact aI.mpr ⟨(v,d),hd',rfl⟩
end
theorem DI{w:W}{τ:Env}{J K:Env->Prop}{Q:D->Prop}{t:T}{b r:Ss}(I:Nat->Env->Prop){n:Nat}(h0:I n τ)(hn:n<f_)
  (ht:∀n σ,I n σ->∃v,evT w t σ=.ok v/\(v=true->∃k,n=k+1/\Ends (I k) Q (qc w b σ))/\(v=false->K σ)) (hr:∀σ,K σ->Ends J Q (qc w r σ)):Ends J Q (qc w (.cons (.while t b) r) τ):=by
 have key:∀(f n:Nat) (σ:Env),I n σ->n<f->Ends K Q (eQ (λσ=>evT w t σ) (λσ=>qc w b σ) f σ):=by
  intro f
  induction f with
  |zero=>intro n σ _ h;lia
  |succ f ih=>
   intro n σ hi hf;obtain⟨v,e,a1,a2⟩:=ht n σ hi;rw[eQ,e];simp only[R.out_ok];cases v with
   |false=>simp only[bD,if_false];exact a2 rfl
   |true=>
    obtain⟨k,rfl,hb⟩:=a1 rfl;simp only[if_true];cases z:qc w b σ with
    |nx σ2=>rw[z]at hb;exact ih k σ2 hb (by lia)
    |rt d=>rw[z]at hb;exact hb
    |_=>rw[z]at hb;exact hb.elim
 refine pT (K:=K) ?_ hr;have hk:=key f_ n τ h0 hn;rw[cH];cases z:eQ (λσ=>evT w t σ) (λσ=>qc w b σ) f_ τ with
 |nx σ2=>rw[z]at hk;exact hk
 |rt d=>rw[z]at hk;exact hk
 |_=>rw[z]at hk;exact hk.elim
noncomputable def gW:Fn:=⟨2,6,false,(.cons (.set (.nm 2) (.dic1 (.var 1) (.con (.int 0)))) (.cons (.set (.nm 3) (.lst (.cons (.var 1) .nil))) (.cons (.while (.val (.own 3)) (.cons (.pop0 4 3) (.cons (.for (.nm 5) (.seq (.call "hood_of" (.cons (.var 0) (.cons (.var 4) .nil)))) (.cons (.ite (.cmp .notin (.var 5) (.own 2)) (.cons (.seti 2 (.var 5) (.op .add (.ix (.own 2) (.var 4)) (.con (.int 1)))) (.cons (.app 3 (.var 5)) .nil)) .nil) .nil)) .nil))) (.cons (.ret (.own 2)) .nil))))⟩
theorem iU{m:Int}{l:List Int}(nd:l.Nodup)(h:∀x∈l,0<=x/\x<m):l.length<=m.toNat:=by
 have s:∀x∈l,x∈rng m:=λx hx=>bP.mpr (h x hx)
 have key:∀{L M:List Int},L.Nodup->(∀x∈L,x∈M)->L.length<=M.length:=by
  intro L
  induction L with
  |nil=>intros;exact bx _
  |cons x L ih=>
   intro M h s;have hx:=s x aK;have h1:=List.nodup_cons.mp h;have:=ih (M:=M.erase x) h1.2 λy hy=>(List.mem_erase_of_ne (a:=y) (b:=x) (λe=>h1.1 (by rw[<-e];exact hy))).mpr (s y (aO _ hy))
   rw[List.length_erase_of_mem hx]at this;have:0<M.length:=List.length_pos_of_mem hx;rw[bg];lia
 have:=key nd s
 rwa[zf]at this
theorem vX{kvs:List (Int×Int)}{u d:Int}(h:¬ Key kvs u):cD kvs u d=kvs++[(u,d)]:=by
 rw[cD,if_neg (λz=>h ((ja kvs u).mp z))]
section
variable{p:Pr}(hHo:p.fns "hood_of" = some gz)(hAt:p.fns "are_tied" = some fO)(hf:p.fns "ways_from" = some gW)
include hHo hAt hf
theorem ways_from{k:Nat}{m:Int}{ts:List (Int×Int)}(h:GW m ts){r:Int}(h0:0<=r)(h1:r<m):∃kvs,bO m ts r kvs/\qa p (k+3) "ways_from" [wb m ts,.int r]=.ok (.dic kvs):=by
 have h8:=h.hi;have hood:∀a:Int,0<=a->a<m->qa p (k+2) "hood_of" [wb m ts,.int a]=.ok (tu (hd m ts a)):=λa _ _=>nq hHo hAt (k:=k) h a
 rw[qf hf];have main:Ends (λ_=>False) (λd=>∃kvs,bO m ts r kvs/\d=.dic kvs) (qc (wAt p (k+2)) gW.body [some (wb m ts),some (.int r),none,none,none,none]):=by
  refine zQ (σ:=[some (wb m ts),some (.int r),some (.dic [(r,0)]),none,none,none]) rfl ?_;refine zQ (σ:=[some (wb m ts),some (.int r),some (.dic [(r,0)]),some (.lst ([r].map D.int)),none,none]) rfl ?_;refine DI (K:=λσ=>∃kvs v5 v6,bO m ts r kvs/\σ=[some (wb m ts),some (.int r),some (.dic kvs),some (.lst []),v5,v6])
   (λn σ=>∃kvs q v5 v6,Bfs m ts r kvs q/\n=q.length+(m.toNat-kvs.length)/\n<=8/\σ=[some (wb m ts),some (.int r),some (.dic kvs),some (.lst (q.map D.int)),v5,v6]) ⟨[(r,0)],[r],none,none,.start h0 h1,rfl,by simp;lia,rfl⟩ (by simp[f_];lia) ?_ ?_
  ·rintro n σ ⟨kvs,q,v5,v6,b,rfl,hn8,rfl⟩;cases q with
   |nil=>exact⟨false,rfl,λz=>(by cases z),λ_=>⟨kvs,v5,v6,b.ways,rfl⟩⟩
   |cons v q=>
    refine⟨true,rfl,λ_=>⟨q.length+(m.toNat-kvs.length),by rw[bg];lia,?_⟩,λz=>(by cases z)⟩;obtain⟨dv,hv⟩:=b.qk v aK;obtain⟨dv',bin⟩:=b.take;obtain⟨_,v0,v1⟩:=b.ok _ hv;refine zQ (σ:=[some (wb m ts),some (.int r),some (.dic kvs),some (.lst (q.map D.int)),some (.int v),v6]) rfl ?_;have hh:=hood v v0 v1;refine gM (ds:=(hd m ts v).map D.int) (λl σ=>∃(us:List Int) (kvs':List (Int×Int)) (q':List Int) (v6:Option D),l=us.map D.int/\Bin m ts r v dv' kvs' q' us/\q'.length+(m.toNat-kvs'.length)=q.length+(m.toNat-kvs.length)/\σ=[some (wb m ts),some (.int r),some (.dic kvs'),some (.lst (q'.map D.int)),some (.int v),v6]) ?_ ⟨_,kvs,q,v6,rfl,bin,rfl,rfl⟩ ?_ ?_
    ·generalize wb m ts=WB at *;have e:seq? (tu (hd m ts v))=some ((hd m ts v).map D.int):=rfl;generalize tu (hd m ts v)=TH at *;simp[KG.Z,hh,e]
    ·rintro x t σ ⟨us,kvs',q',v6',e,bn,hm,rfl⟩;obtain⟨u,us,rfl,rfl,rfl⟩:=fx e;refine⟨[some (wb m ts),some (.int r),some (.dic kvs'),some (.lst (q'.map D.int)),some (.int v),some (.int u)],rfl,?_⟩;have kl:=iU bn.nd λy hy=>by
      obtain⟨p,hp,rfl⟩:=aI.mp hy;exact(bn.ok p hp).2
     rw[aJ]at kl;have at1:ixD (.dic kvs') (.int v)=.ok (.int dv'):=by
      simp only[ixD,(ke bn.nd).mpr bn.vk]
     by_cases z:Key kvs' u
     ·have c1:qg .notin (.int u) (.dic kvs')=.ok false:=by
       simp only[qg,seq?,eE,R.bind_ok,(ja kvs' u).mpr z];rfl
      refine zQ (σ:=[some (wb m ts),some (.int r),some (.dic kvs'),some (.lst (q'.map D.int)),some (.int v),some (.int u)]) ?_ (eT ⟨us,kvs',q',_,rfl,bn.old z,hm,rfl⟩);generalize wb m ts=WB at *;generalize D.dic kvs'=DK at *;generalize D.lst (q'.map D.int)=LQ at *;simp[KG.Z,c1]
     ·have c1:qg .notin (.int u) (.dic kvs')=.ok true:=by
       have:(kvs'.any λp=>decide (p.1=u))=false:=by
        cases q:(kvs'.any λp=>decide (p.1=u))with
        |false=>rfl
        |true=>exact absurd ((ja kvs' u).mp q) z
       simp only[qg,seq?,eE,R.bind_ok,this];rfl
      have bw:=bn.new z;have kl2:=iU bw.nd λy hy=>by
       obtain⟨p,hp,rfl⟩:=aI.mp hy;exact(bw.ok p hp).2
      rw[aJ,bH]at kl2;simp only[bg,List.length_nil]at kl2;have ql:q'.length<=8:=by rw[bg]at hn8;lia
      have qz:(q'.map D.int).length<SZ:=by rw[aJ];simp[SZ];lia
      have kz:kvs'.length<SZ:=by simp[SZ];lia
      have pn:=vX (d:=dv'+1) z;have a1:op2 .add (.int dv') (.int 1)=.ok (.int (dv'+1)):=rfl;refine zQ (σ:=[some (wb m ts),some (.int r),some (.dic (kvs'++[(u,dv'+1)])),some (.lst ((q'++[u]).map D.int)),some (.int v),some (.int u)]) ?_ (eT ⟨us,_,_,_,rfl,bw,by rw[bH,bH];simp only[bg,List.length_nil];lia,rfl⟩);rw[List.map_append];have st1:evS (wAt p (k+2)) (.seti 2 (.var 5) (.op .add (.ix (.own 2) (.var 4)) (.con (.int 1)))) [some (wb m ts),some (.int r),some (.dic kvs'),some (.lst (q'.map D.int)),some (.int v),some (.int u)]=.nx [some (wb m ts),some (.int r),some (.dic (kvs'++[(u,dv'+1)])),some (.lst (q'.map D.int)),some (.int v),some (.int u)]:=by
       have e1:evE (wAt p (k+2)) (.op .add (.ix (.own 2) (.var 4)) (.con (.int 1))) [some (wb m ts),some (.int r),some (.dic kvs'),some (.lst (q'.map D.int)),some (.int v),some (.int u)]=.ok (.int (dv'+1)):=by
        generalize wb m ts=WB at *;generalize D.dic kvs'=DK at *;generalize D.lst (q'.map D.int)=LQ at *;simp[KG.Z,at1,a1]
       rw[cK,e1];show (if kvs'.length<SZ then EV.O.nx _ else EV.O.no)=_;rw[if_pos kz,pn];rfl
      have st2:evS (wAt p (k+2)) (.app 3 (.var 5)) [some (wb m ts),some (.int r),some (.dic (kvs'++[(u,dv'+1)])),some (.lst (q'.map D.int)),some (.int v),some (.int u)]=.nx [some (wb m ts),some (.int r),some (.dic (kvs'++[(u,dv'+1)])),some (.lst (q'.map D.int++[.int u])),some (.int v),some (.int u)]:=by
       rw[jZ (xs:=q'.map D.int) (d:=.int u) rfl rfl qz];rfl
      have t1:evT (wAt p (k+2)) (.cmp .notin (.var 5) (.own 2)) [some (wb m ts),some (.int r),some (.dic kvs'),some (.lst (q'.map D.int)),some (.int v),some (.int u)]=.ok true:=by
       generalize wb m ts=WB at *;generalize D.dic kvs'=DK at *;generalize D.lst (q'.map D.int)=LQ at *;simp[KG.Z,c1]
      rw[zV,t1];simp only[R.out_ok,if_true];rw[qc,st1];show qc _ (.cons _ .nil) _=_;rw[qc,st2];rfl
    ·rintro σ ⟨us,kvs',q',v6',e,bn,hm,rfl⟩;cases us with
     |nil=>exact eT ⟨kvs',q',_,_,bn.done,hm.symm,by rw[bg]at hn8;lia,rfl⟩
     |cons _ _=>cases e
  ·rintro σ ⟨kvs,v5,v6,wy,rfl⟩;exact ip (d:=.dic kvs) rfl ⟨kvs,wy,rfl⟩
 obtain⟨d,e,kvs,wy,rfl⟩:=lg (w:=wAt p (k+2)) (f:=gW) (ds:=[wb m ts,.int r]) rfl rfl main;exact⟨kvs,wy,e⟩
end
theorem rF{kvs:List (Int×Int)}{u d:Int}:(cD kvs u d).map (·.1)=if (kvs.any λp=>decide (p.1=u))=true then kvs.map (·.1)else kvs.map (·.1)++[u]:=by
 rw[cD];split
 ·rw[cg];refine List.map_congr_left λp _=>?_
  show (if p.1=u then (p.1,d)else p).1=p.1;split<;>rfl
 ·rw[List.map_append];rfl
theorem Fv{kvs:List (Int×Int)}{u d:Int}(h:(kvs.map (·.1)).Nodup):((cD kvs u d).map (·.1)).Nodup:=by
 rw[rF];split
 ·exact h
 ·rename_i z
  refine List.nodup_append.mpr ⟨h,by simp,λa ha c hc e=>?_⟩;simp at hc;subst hc e;obtain⟨p,hp,e⟩:=aI.mp ha;exact z (bS.mpr ⟨p,hp,by simpa using e⟩)
section
variable{m:Int}{ts:List (Int×Int)}{r:Int}
noncomputable def Lss(kvs kvs':List (Int×Int)):Prop:=∀x e,atK kvs x=some e->∃e',atK kvs' x=some e'/\e'<=e
theorem Lss.refl(kvs:List (Int×Int)):Lss kvs kvs:=λx e h=>⟨e,h,Int.le_refl _⟩
theorem D2{v d:Int}(h0:0<=r)(h1:r<m)(h:b6 m ts r v d):d<m:=by
 have key:∀(k:Nat) (v:Int),b6 m ts r v k->0<=v/\v<m:=by
  intro k v h;obtain⟨j,e,i,mn⟩:=h;have:j=k:=by lia
  subst this;cases j with
  |zero=>
   have i:v=r:=i;subst i;exact⟨h0,h1⟩
  |succ j=>
   rcases i with i|⟨u,_,hw⟩
   ·exact absurd i (mn j (by lia))
   ·exact ff hw
 have chain:∀(k:Nat) (v:Int),b6 m ts r v k->∃l:List Int,l.length=k+1/\l.Nodup/\(∀x∈l,0<=x/\x<m)/\∀x∈l,∃j:Nat,j<=k/\b6 m ts r x j:=by
  intro k
  induction k with
  |zero=>intro v h;exact⟨[v],rfl,by simp,(λx hx=>by simp at hx;subst hx;exact key 0 x h),(λx hx=>by simp at hx;subst hx;exact⟨0,aG _,h⟩)⟩
  |succ k ih=>
   intro v h;have hv:=key (k+1) v h;obtain⟨j,e,i,mn⟩:=id h;have:j=k+1:=by lia
   subst this;rcases i with i|⟨u,i,hw⟩
   ·exact absurd i (mn k (by lia))
   ·have du:b6 m ts r u k:=⟨k,rfl,i,λj hj y=>mn (j+1) (by lia) (.inr ⟨u,y,hw⟩)⟩
    obtain⟨l,l1,l2,l3,l4⟩:=ih u du;refine⟨v::l,by simp[l1],List.nodup_cons.mpr ⟨λz=>?_,l2⟩,λx hx=>?_,λx hx=>?_⟩
    ·obtain⟨j,j1,j2⟩:=l4 v z;have:=b6.uniq j2 h;lia
    ·rcases aF.mp hx with rfl|hx
     ·exact hv
     ·exact l3 x hx
    ·rcases aF.mp hx with rfl|hx
     ·exact⟨k+1,aG _,h⟩
     ·obtain⟨j,j1,j2⟩:=l4 x hx;exact⟨j,by lia,j2⟩
 obtain⟨k,rfl,_⟩:=id h;obtain⟨l,l1,l2,l3,_⟩:=chain k v h;have:=iU l2 l3;lia
end
noncomputable def Bk:Fn:=⟨2,6,false,(.cons (.set (.nm 2) (.dic1 (.var 1) (.con (.int 0)))) (.cons (.for (.nm 3) (.rng (.ix (.var 0) (.con (.int 0)))) (.cons (.for (.nm 4) (.seq (.lsd (.own 2))) (.cons (.for (.nm 5) (.seq (.call "_law_hood" (.cons (.var 0) (.cons (.var 4) .nil)))) (.cons (.seti 2 (.var 5) (.ite (.cmp .ne (.var 5) (.var 4)) (.bi .min (.cons (.dget2 (.own 2) (.var 5) (.con (.int 99))) (.cons (.op .add (.ix (.own 2) (.var 4)) (.con (.int 1))) .nil))) (.ix (.own 2) (.var 5)))) .nil)) .nil)) .nil)) (.cons (.ret (.own 2)) .nil)))⟩
section
variable{p:Pr}(hH:p.fns "_law_hood" = some gn)(hf:p.fns "_law_ways" = some Bk)
include hH hf
end
section
variable{m:Int}{ts:List (Int×Int)}
theorem fE{a x:Int}(ha:0<=a/\a<m)(h:x∈hd m ts a):a∈hd m ts x:=by
 rw[gX]at h ⊢;exact⟨ha,h.2.imp Eq.symm λe=>by rw[mC];exact e⟩
noncomputable def Rch(m:Int)(ts:List (Int×Int))(r v:Int):Prop:=∃k,inR m ts r k v
theorem Rch.refl(r:Int):Rch m ts r r:=⟨0,rfl⟩
theorem Rch.step{r u v:Int}(h:Rch m ts r u)(q:v∈hd m ts u):Rch m ts r v:=by
 obtain⟨k,h⟩:=h;exact⟨k+1,.inr ⟨u,h,q⟩⟩
theorem Rch.trans{a b c:Int}(h:Rch m ts a b)(h':Rch m ts b c):Rch m ts a c:=by
 obtain⟨k,h'⟩:=h'
 induction k generalizing c with
 |zero=>
  have e:c=b:=h';rw[e];exact h
 |succ k ih=>
  rcases h' with q|⟨u,q,hw⟩
  ·exact ih q
  ·exact(ih q).step hw
theorem Rch.symm{a b:Int}(ha:0<=a/\a<m)(h:Rch m ts a b):Rch m ts b a/\0<=b/\b<m:=by
 obtain⟨k,h⟩:=h
 induction k generalizing b with
 |zero=>
  have e:b=a:=h;rw[e];exact⟨.refl a,ha⟩
 |succ k ih=>
  rcases h with q|⟨u,q,hw⟩
  ·exact ih q
  ·obtain⟨i1,i2⟩:=ih q;have:=fE (m:=m) (ts:=ts) i2 hw;exact⟨Rch.trans (Rch.step (.refl b) this) i1,ff hw⟩
theorem bO.key{r v:Int}{kvs:List (Int×Int)}(a:bO m ts r kvs):Key kvs v↔Rch m ts r v:=by
 constructor
 ·rintro⟨d,h⟩;obtain⟨k,_,i,_⟩:=(a.ok _ h).1;exact⟨k,i⟩
 ·rintro⟨k,h⟩;exact a.all k v h
noncomputable def ks(kvs:List (Int×Int)):List Int:=sortI (kvs.map (·.1))
theorem uR{kvs:List (Int×Int)}{v:Int}:v∈ks kvs↔Key kvs v:=by
 rw[ks,(sortI_perm _).mem_iff,aI];constructor
 ·rintro⟨p,hp,rfl⟩;exact⟨p.2,hp⟩
 ·rintro⟨d,h⟩;exact⟨(v,d),h,rfl⟩
theorem pI{a b:Int}{x y:List (Int×Int)}(ha:0<=a/\a<m)(hx:bO m ts a x)(hy:bO m ts b y)(h:Rch m ts a b):ks x=ks y:=by
 have hs:=(h.symm ha).1;have pm:(x.map (·.1)).Perm (y.map (·.1)):=(List.perm_ext_iff_of_nodup hx.nd hy.nd).mpr λv=>by
  rw[hx.mem,hy.mem];exact⟨λq=>hs.trans q,λq=>h.trans q⟩
 exact kO ((sortI_perm _).trans pm) (m5 _)
noncomputable def ddp(S:Int->List Int):List Int->List (List Int)->List (List Int)
 | [],acc=>acc
 |a::l,acc=>ddp S l (if S a∈acc then acc else acc++[S a])
theorem yt{kvs:List (Int×Int)}{u d x:Int}:Key (cD kvs u d) x↔Key kvs x\/x=u:=by
 have e:∀l:List (Int×Int),Key l x↔x∈l.map (·.1):=λl=>by
  rw[aI];constructor
  ·rintro⟨d,h⟩;exact⟨(x,d),h,rfl⟩
  ·rintro⟨p,hp,rfl⟩;exact⟨p.2,hp⟩
 rw[e,e,rF];split
 ·rename_i h
  obtain⟨p,hp,f⟩:=bS.mp h;constructor
  ·exact .inl
  ·rintro(h|rfl)
   ·exact h
   ·exact aI.mpr ⟨p,hp,by simpa using f⟩
 ·simp
theorem mS{x:Int}:∀(ms kvs:List (Int×Int)),Key (dA kvs ms) x↔Key kvs x\/Key ms x
 | [],kvs=>by
  show Key kvs x↔_;constructor
  ·exact .inl
  ·rintro(h|⟨d,h⟩)
   ·exact h
   ·cases h
 |p::l,kvs=>by
  show Key (dA (cD kvs p.1 p.2) l) x↔_;rw[mS l,yt];constructor
  ·rintro((h|rfl)|⟨d,h⟩)
   ·exact .inl h
   ·exact .inr ⟨p.2,aK⟩
   ·exact .inr ⟨d,aO _ h⟩
  ·rintro(h|⟨d,h⟩)
   ·exact .inl (.inl h)
   ·rcases aF.mp h with e|h
    ·exact .inl (.inr (by rw[<-e]))
    ·exact .inr ⟨d,h⟩
theorem oP:∀(ms kvs:List (Int×Int)),(kvs.map (·.1)).Nodup->((dA kvs ms).map (·.1)).Nodup
 | [],kvs,h=>h
 |p::l,kvs,h=>oP l (cD kvs p.1 p.2) (Fv h)
end
noncomputable def iE(b:Bool):Fn:=⟨1,5,b,(.cons (.exp (.call "need_web" (.cons (.var 0) .nil))) (.cons (.set (.nm 1) (.lst .nil)) (.cons (.set (.nm 2) .dic) (.cons (.for (.nm 3) (.rng (.ix (.var 0) (.con (.int 0)))) (.cons (.ite (.cmp .notin (.var 3) (.own 2)) (.cons (.set (.nm 4) (.call "ways_from" (.cons (.var 0) (.cons (.var 3) .nil)))) (.cons (.dupd 2 (.var 4)) (.cons (.app 1 (.bi .tuple (.cons (.bi .sorted (.cons (.var 4) .nil)) .nil))) .nil))) .nil) .nil)) (.cons (.ret (.own 1)) .nil)))))⟩
theorem D4{kvs:List (Int×Int)}(h:kvs.length<64):b1 .sorted [.dic kvs]=.ok (.lst ((ks kvs).map D.int)):=by
 show (if kvs.length<64 then R.ok (D.lst ((sortI (kvs.map (·.1))).map D.int))else .no)=_;rw[if_pos h];rfl
section
variable{p:Pr}{b:Bool}(B:Web p)(hf:p.fns "pieces" = some (iE b))
include B hf
theorem pieces{k:Nat}{m:Int}{ts:List (Int×Int)}(h:GW m ts){W:Int->List (Int×Int)}(hW:∀a,0<=a->a<m->bO m ts a (W a)/\qa p (k+4) "ways_from" [wb m ts,.int a]=.ok (.dic (W a))) :
  qa p (k+5) "pieces" [wb m ts]=.ok (.lst ((ddp (λa=>ks (W a)) (rng m) []).map tu)):=by
 have h8:=h.hi;have hl:=h.lo;have hx:ixD (wb m ts) (.int 0)=.ok (.int m):=rfl;have hm:zo m=true:=by simp[zo];lia
 have e1:=need_web B (k:=k) h;have wl:∀a,0<=a->a<m->(W a).length<=8:=λa a0 a1=>by
  have w:=(hW a a0 a1).1;have:=iU w.nd λy hy=>by
   obtain⟨q,hq,rfl⟩:=aI.mp hy;exact(w.ok q hq).2
  rw[aJ]at this;lia
 rw[qf hf];have main:Ends (λ_=>False) (λd=>d=.lst ((ddp (λa=>ks (W a)) (rng m) []).map tu)) (qc (wAt p (k+4)) (iE b).body [some (wb m ts),none,none,none,none]):=by
  refine zQ (σ:=[some (wb m ts),none,none,none,none]) (by generalize wb m ts=WB at *;simp[KG.Z,e1]) ?_;refine zQ (σ:=[some (wb m ts),some (.lst []),none,none,none]) rfl ?_;refine zQ (σ:=[some (wb m ts),some (.lst []),some (.dic []),none,none]) rfl ?_;refine gM (ds:=(rng m).map D.int) (λl σ=>∃(as:List Int) (acc:List (List Int)) (seen:List (Int×Int)) (v3 v4:Option D),l=as.map D.int/\(∀a∈as,0<=a/\a<m)/\ddp (λa=>ks (W a)) as acc=ddp (λa=>ks (W a)) (rng m) []/\acc.length+as.length<=8/\(seen.map (·.1)).Nodup/\(∀x,Key seen x->0<=x/\x<m)/\(∀x,0<=x->x<m->(Key seen x↔ks (W x)∈acc))/\σ=[some (wb m ts),some (.lst (acc.map tu)),some (.dic seen),v3,v4]) ?_ ⟨rng m,[],[],none,none,rfl,λa ha=>bP.mp ha,rfl,by rw[zf];simp;lia,by simp,λx ⟨d,z⟩=>(by cases z),λx _ _=>⟨λ⟨d,z⟩=>(by cases z),λz=>(by cases z)⟩,rfl⟩ ?_ ?_
  ·rw[<-zS];generalize wb m ts=WB at *;simp[KG.Z,hx,hm]
  ·rintro x l σ ⟨as,acc,seen,v3,v4,e,has,hd',hlen,nd,rg,iff,rfl⟩;obtain⟨a,as,rfl,rfl,rfl⟩:=fx e;obtain⟨a0,a1⟩:=has a aK;refine⟨[some (wb m ts),some (.lst (acc.map tu)),some (.dic seen),some (.int a),v4],rfl,?_⟩;rw[ddp]at hd';rw[bg]at hlen;by_cases z:Key seen a
   ·have c1:qg .notin (.int a) (.dic seen)=.ok false:=by
     simp only[qg,seq?,eE,R.bind_ok,(ja seen a).mpr z];rfl
    rw[if_pos ((iff a a0 a1).mp z)]at hd';refine zQ (σ:=[some (wb m ts),some (.lst (acc.map tu)),some (.dic seen),some (.int a),v4]) ?_ (eT ⟨as,acc,seen,_,_,rfl,λy hy=>has y (aO _ hy),hd',by lia,nd,rg,iff,rfl⟩);generalize wb m ts=WB at *;generalize D.dic seen=DK at *;generalize D.lst (acc.map tu)=LQ at *;simp[KG.Z,c1]
   ·have c1:qg .notin (.int a) (.dic seen)=.ok true:=by
     have:(seen.any λp=>decide (p.1=a))=false:=by
      cases q:(seen.any λp=>decide (p.1=a))with
      |false=>rfl
      |true=>exact absurd ((ja seen a).mp q) z
     simp only[qg,seq?,eE,R.bind_ok,this];rfl
    have nz:ks (W a)∉acc:=λq=>z ((iff a a0 a1).mpr q)
    rw[if_neg nz]at hd';obtain⟨wa,ca⟩:=hW a a0 a1;have sl:=iU nd λy hy=>by
     obtain⟨q,hq,rfl⟩:=aI.mp hy;exact rg q.1 ⟨q.2,hq⟩
    rw[aJ]at sl;have wl':=wl a a0 a1;have kz:seen.length+(W a).length<SZ:=by simp[SZ];lia
    have sd:=D4 (kvs:=W a) (by lia);have az:(acc.map tu).length<SZ:=by rw[aJ];simp[SZ];lia
    refine zQ (σ:=[some (wb m ts),some (.lst ((acc++[ks (W a)]).map tu)),some (.dic (dA seen (W a))),some (.int a),some (.dic (W a))]) ?_ (eT ⟨as,_,_,_,_,rfl,λy hy=>has y (aO _ hy),hd',by rw[bH];simp only[bg,List.length_nil];lia,oP _ _ nd,λx hx=>?_,λx x0 x1=>?_,rfl⟩)
    ·have s1:evS (wAt p (k+4)) (.set (.nm 4) (.call "ways_from" (.cons (.var 0) (.cons (.var 3) .nil)))) [some (wb m ts),some (.lst (acc.map tu)),some (.dic seen),some (.int a),v4]=.nx [some (wb m ts),some (.lst (acc.map tu)),some (.dic seen),some (.int a),some (.dic (W a))]:=by
      generalize wb m ts=WB at *;generalize D.dic seen=DK at *;generalize D.dic (W a)=DW at *;generalize D.lst (acc.map tu)=LQ at *;simp[KG.Z,ca]
     have s2:evS (wAt p (k+4)) (.dupd 2 (.var 4)) [some (wb m ts),some (.lst (acc.map tu)),some (.dic seen),some (.int a),some (.dic (W a))]=.nx [some (wb m ts),some (.lst (acc.map tu)),some (.dic (dA seen (W a))),some (.int a),some (.dic (W a))]:=by
      show (if seen.length+(W a).length<SZ then EV.O.nx _ else EV.O.no)=_;rw[if_pos kz];rfl
     have s3:evS (wAt p (k+4)) (.app 1 (.bi .tuple (.cons (.bi .sorted (.cons (.var 4) .nil)) .nil))) [some (wb m ts),some (.lst (acc.map tu)),some (.dic (dA seen (W a))),some (.int a),some (.dic (W a))]=.nx [some (wb m ts),some (.lst (acc.map tu++[tu (ks (W a))])),some (.dic (dA seen (W a))),some (.int a),some (.dic (W a))]:=by
      have t1:evE (wAt p (k+4)) (.bi .tuple (.cons (.bi .sorted (.cons (.var 4) .nil)) .nil)) [some (wb m ts),some (.lst (acc.map tu)),some (.dic (dA seen (W a))),some (.int a),some (.dic (W a))]=.ok (tu (ks (W a))):=by
       have t2:b1 .tuple [.lst ((ks (W a)).map D.int)]=.ok (tu (ks (W a))):=rfl;generalize wb m ts=WB at *;generalize D.dic (dA seen (W a))=DK at *;generalize D.dic (W a)=DW at *;generalize D.lst (acc.map tu)=LQ at *;generalize tu (ks (W a))=TT at *;simp[KG.Z,sd,t2]
      rw[jZ (xs:=acc.map tu) (d:=tu (ks (W a))) rfl t1 az];rfl
     have t1:evT (wAt p (k+4)) (.cmp .notin (.var 3) (.own 2)) [some (wb m ts),some (.lst (acc.map tu)),some (.dic seen),some (.int a),v4]=.ok true:=by
      generalize wb m ts=WB at *;generalize D.dic seen=DK at *;generalize D.lst (acc.map tu)=LQ at *;simp[KG.Z,c1]
     rw[zV,t1];simp only[R.out_ok,if_true];rw[qc,s1];show qc _ (.cons _ (.cons _ .nil)) _=_;rw[qc,s2];show qc _ (.cons _ .nil) _=_;rw[qc,s3,List.map_append];rfl
    ·rcases(mS (W a) seen).mp hx with q|⟨d,q⟩
     ·exact rg x q
     ·exact(wa.ok _ q).2
    ·rw[mS,iff x x0 x1,wa.key,List.mem_append];constructor
     ·rintro(q|q)
      ·exact .inl q
      ·exact .inr (by rw[pI ⟨a0,a1⟩ wa (hW x x0 x1).1 q];simp)
     ·rintro(q|q)
      ·exact .inl q
      ·simp only[aF,cy,or_false]at q;have:x∈ks (W x):=uR.mpr ((hW x x0 x1).1.key.mpr (.refl x));rw[q]at this;exact .inr (wa.key.mp (uR.mp this))
  ·rintro σ ⟨as,acc,seen,v3,v4,e,has,hd',hlen,nd,rg,iff,rfl⟩;cases as with
   |cons _ _=>cases e
   |nil=>
    rw[ddp]at hd';subst hd';exact ip (d:=.lst ((ddp (λa=>ks (W a)) (rng m) []).map tu)) rfl rfl
 obtain⟨d,e,rfl⟩:=lg (w:=wAt p (k+4)) (f:=iE b) (ds:=[wb m ts]) rfl rfl main;exact e
end
end KG
namespace KG
open EV
open PySem (Str)
open L2 (atI ixN ltP)
noncomputable def rg2(lo hi:Int):List Int:=(bE (hi-lo).toNat).map λ(i:Nat)=>lo+(i:Int)
theorem jV{lo hi i:Int}:i∈rg2 lo hi↔lo<=i/\i<hi:=by
 simp only[rg2,aI,List.mem_range];constructor
 ·rintro⟨a,h,rfl⟩;lia
 ·intro h;exact⟨(i-lo).toNat,by lia,by lia⟩
theorem vQ(lo hi:Int):dR lo (hi-lo).toNat=(rg2 lo hi).map D.int:=by
 rw[dR,rg2,cg];rfl
section
variable{p:Pr}
end
noncomputable def srt(t:Int×Int):Int×Int:=if t.1<=t.2 then t else (t.2,t.1)
theorem Cp(a b:Int):sortI [a,b]=[(srt (a,b)).1,(srt (a,b)).2]:=by
 show insI a [b]=_;rw[insI,srt];by_cases h:a<=b
 ·rw[if_pos h,if_pos h]
 ·rw[if_neg h,if_neg h];rfl
theorem C8{a b c d:Int}(h:srt (a,b)=srt (c,d)):(a=c/\b=d)\/(a=d/\b=c):=by
 unfold srt at h;split at h<;>split at h<;>(injection h with h1 h2;lia)
structure Iok(m:Int)(I:List (Int×Int)):Prop where
 ok:∀t∈I,0<=t.1/\t.1<m/\0<=t.2/\t.2<m/\t.1≠t.2
 pw:I.Pairwise λs t=>¬ (s.1=t.1/\s.2=t.2)/\¬ (s.1=t.2/\s.2=t.1)
 len:I.length<=8
noncomputable instance (m:Int) (I:List (Int×Int)):Decidable (Iok m I):=
 decidable_of_iff ((∀t∈I,0<=t.1/\t.1<m/\0<=t.2/\t.2<m/\t.1≠t.2)/\I.Pairwise (λs t=>¬ (s.1=t.1/\s.2=t.2)/\¬ (s.1=t.2/\s.2=t.1))/\I.length<=8) ⟨λ⟨a,b,c⟩=>⟨a,b,c⟩,λ⟨a,b,c⟩=>⟨a,b,c⟩⟩
section
variable{m:Int}{o:List Int}
theorem jM(hp:o.Perm (rng m)){i:Int}(h0:0<=i)(h:i<m):0<=o.getD i.toNat 0/\o.getD i.toNat 0<m:=by
 have hl:i.toNat<o.length:=by rw[hp.length_eq,zf];lia
 have e:o.getD i.toNat 0=o[i.toNat]:=by simp[List.getD,hl]
 rw[e];exact bP.mp (hp.mem_iff.mp (cz hl))
theorem i'(hp:o.Perm (rng m)){i j:Int}(h0:0<=i)(h:i<m)(g0:0<=j)(g:j<m)(e:o.getD i.toNat 0=o.getD j.toNat 0):i=j:=by
 have nd:o.Nodup:=hp.nodup_iff.mpr ((eM m).imp λh=>Int.ne_of_lt h);have hl:i.toNat<o.length:=by rw[hp.length_eq,zf];lia
 have gl:j.toNat<o.length:=by rw[hp.length_eq,zf];lia
 have e1:o.getD i.toNat 0=o[i.toNat]:=by simp[List.getD,hl]
 have e2:o.getD j.toNat 0=o[j.toNat]:=by simp[List.getD,gl]
 rw[e1,e2]at e;have key:=List.pairwise_iff_getElem.mp nd;rcases Nat.lt_trichotomy i.toNat j.toNat with z|z|z
 ·exact absurd e (key _ _ hl gl z)
 ·lia
 ·exact absurd e.symm (key _ _ gl hl z)
noncomputable def zB(o:List Int)(t:Int×Int):Int×Int:=srt (o.getD t.1.toNat 0,o.getD t.2.toNat 0)
theorem Dp(h1:1<=m)(h2:m<=8)(hp:o.Perm (rng m)){I:List (Int×Int)}(hI:Iok m I):GW m (zj (I.map (zB o))):=by
 have pm:=iC (I.map (zB o));have nd:(I.map (zB o)).Nodup:=by
  rw[List.Nodup,List.pairwise_map];refine hI.pw.imp_of_mem λ{s t} hs ht h e=>?_
  obtain⟨a1,a2,a3,a4,_⟩:=hI.ok s hs;obtain⟨b1,b2,b3,b4,_⟩:=hI.ok t ht;rcases C8 e with ⟨e1,e2⟩|⟨e1,e2⟩
  ·exact h.1 ⟨i' hp a1 a2 b1 b2 e1,i' hp a3 a4 b3 b4 e2⟩
  ·exact h.2 ⟨i' hp a1 a2 b3 b4 e1,i' hp a3 a4 b1 b2 e2⟩
 refine⟨h1,h2,vK (m8 _) (pm.nodup_iff.mpr nd),λt ht=>?_,?_⟩
 ·obtain⟨s,hs,rfl⟩:=aI.mp (pm.mem_iff.mp ht);obtain⟨a1,a2,a3,a4,a5⟩:=hI.ok s hs;have b1:=jM hp a1 a2;have b2:=jM hp a3 a4;have b3:o.getD s.1.toNat 0≠o.getD s.2.toNat 0:=λe=>a5 (i' hp a1 a2 a3 a4 e)
  rw[zB,srt];split<;>(simp only;simp only at *;lia)
 ·rw[pm.length_eq,aJ];have:=hI.len;lia
theorem AO(hl:(o.length:Int)=m){i:Int}(h0:0<=i)(h:i<m):ixD (.lst (o.map D.int)) (.int i)=.ok (.int (o.getD i.toNat 0)):=by
 obtain⟨j,rfl⟩:∃j:Nat,i=j:=⟨i.toNat,by lia⟩
 have hj:j<o.length:=by lia
 have:=je (xs:=o.map D.int) (i:=j) (by simpa using hj);simp only[ixD];rw[this];simp[hj]
end
theorem BH(j:Nat):rng ((j:Int)+1)=rng (j:Int)++[(j:Int)]:=by
 rw[rng,rng,show ((j:Int)+1).toNat=j+1 by lia,show ((j:Int)).toNat=j by lia,List.range_succ,List.map_append];rfl
theorem oO(m:Int):rng m=rg2 0 m:=by
 rw[rng,rg2,Int.sub_zero];simp
theorem lz{lo hi:Int}(h:lo<hi):rg2 lo hi=lo::rg2 (lo+1) hi:=by
 rw[rg2,rg2,show (hi-lo).toNat=(hi-(lo+1)).toNat+1 by lia,List.range_succ_eq_map,aR,cg]
 congr 1
 ·simp
 ·refine List.map_congr_left λi _=>?_
  simp only[Function.comp];lia
abbrev TE(m c:Int)(o:List Int)(v3 v4:Option D):Env:=[some (.int m),some (.int c),some (.lst (o.map D.int)),v3,v4]
noncomputable def kJ:Fn:=⟨2,6,false,(.cons (.set (.nm 2) (.lst .nil)) (.cons (.for (.nm 3) (.rng (.var 0)) (.cons (.ins 2 (.op .mod (.call "_law_stir" (.cons (.var 1) (.cons (.op .add (.var 3) (.con (.int 40))) .nil))) (.op .add (.var 3) (.con (.int 1)))) (.var 3)) .nil)) (.cons (.set (.nm 4) (.lst .nil)) (.cons (.for (.nm 5) (.rng2 (.con (.int 1)) (.var 0)) (.cons (.app 4 (.bi .tuple (.cons (.bi .sorted (.cons (.lst (.cons (.ix (.own 2) (.var 5)) (.cons (.ix (.own 2) (.op .mod (.call "_law_stir" (.cons (.var 1) (.cons (.var 5) .nil))) (.var 5))) .nil))) .nil)) .nil))) .nil)) (.cons (.ret (.tup (.cons (.var 0) (.cons (.bi .tuple (.cons (.bi .sorted (.cons (.own 4) .nil)) .nil)) .nil)))) .nil)))))⟩
abbrev TB(m c:Int)(o:List Int)(v3 v4 v5:Option D):Env:=[some (.int m),some (.int c),some (.lst (o.map D.int)),v3,v4,v5]
noncomputable def It(c m:Int):List (Int×Int):=(rg2 1 m).map λi=>(i,st c i%i)
theorem wA(lo hi:Int):(rg2 lo hi).Pairwise (· < ·):=by
 rw[rg2,List.pairwise_map];exact List.pairwise_lt_range.imp λz=>by lia
theorem uu(c m:Int)(h2:m<=8):Iok m (It c m):=by
 have hm:∀i,i∈rg2 1 m->1<=i/\i<m/\0<=st c i%i/\st c i%i<i:=λi hi=>by
  obtain⟨a,b⟩:=jV.mp hi;exact⟨a,b,Int.emod_nonneg _ (by lia),Int.emod_lt_of_pos _ (by lia)⟩
 refine⟨λt ht=>?_,?_,?_⟩
 ·obtain⟨i,hi,rfl⟩:=aI.mp ht;obtain⟨a,b,c1,d⟩:=hm i hi;refine⟨?_,?_,?_,?_,?_⟩<;>(simp only;lia)
 ·rw[It,List.pairwise_map];refine(List.Pairwise.and_mem.mp (wA 1 m)).imp λ{i j} ⟨hi,hj,z⟩=>?_
  obtain⟨a,b,c1,d⟩:=hm i hi;obtain⟨a',b',c',d'⟩:=hm j hj;constructor
  ·rintro⟨e1,e2⟩;simp only at e1 e2;lia
  ·rintro⟨e1,e2⟩;simp only at e1 e2;lia
 ·rw[It,aJ,rg2,aJ,List.length_range];lia
theorem Ai{p:Pr}(hS:p.fns "_law_stir" = some zU)(hf:p.fns "_law_tree_by" = some kJ){k:Nat}(m c:Int)(h1:1<=m)(h2:m<=8):∃o,o.Perm (rng m)/\qa p (k+2) "_law_tree_by" [.int m,.int c]=.ok (wb m (zj ((It c m).map (zB o)))):=by
 suffices hs:∃d,qa p (k+2) "_law_tree_by" [.int m,.int c]=.ok d/\∃o,o.Perm (rng m)/\d=wb m (zj ((It c m).map (zB o)))by
  obtain⟨d,e,o,g,rfl⟩:=hs;exact⟨o,g,e⟩
 refine lx (k:=k+1) (τ:=[some (.int m),some (.int c),none,none,none,none]) hf rfl rfl ?_;refine zQ (σ:=TB m c [] none none none) rfl ?_;have hm:zo m=true:=by simp[zo];lia
 refine gM (ds:=(rng m).map D.int) (λr σ=>∃(j:Nat) (o:List Int) (v3:Option D),(j:Int)<=m/\r=(rg2 (j:Int) m).map D.int/\o.Perm (rng (j:Int))/\σ=TB m c o v3 none none) (by rw[<-zS];simp[KG.Z,hm]) ⟨0,[],none,by lia,by rw[oO];rfl,by simp[rng],rfl⟩ ?_ ?_
 ·rintro x t σ ⟨j,o,v3,hj,e,hp,rfl⟩;have hlt:(j:Int)<m:=by
   by_cases z:(j:Int)<m
   ·exact z
   ·rw[rg2,show (m-(j:Int)).toNat=0 by lia]at e;cases e
  rw[lz hlt,aR]at e;injection e with e1 e2
  subst e1 e2;refine⟨TB m c o (some (.int (j:Nat))) none none,rfl,?_⟩;have e5:=tI hS (k:=k) c ((j:Int)+40);have z1:op2 .add (.int (j:Nat)) (.int 40)=.ok (.int ((j:Int)+40)):=rfl;have z2:op2 .add (.int (j:Nat)) (.int 1)=.ok (.int ((j:Int)+1)):=rfl;have z3:op2 .mod (.int (st c ((j:Int)+40))) (.int ((j:Int)+1))=.ok (.int (st c ((j:Int)+40)%((j:Int)+1))):=by
   show opI .mod _ _=_;rw[opI,if_pos (by lia)]
  have q0:=Int.emod_nonneg (st c ((j:Int)+40)) (show ((j:Int)+1)≠0 by lia);have q1:=Int.emod_lt_of_pos (st c ((j:Int)+40)) (show (0:Int)<(j:Int)+1 by lia);have hl:o.length=j:=by rw[hp.length_eq,zf];lia
  generalize st c ((j:Int)+40)%((j:Int)+1)=q at *;have hk:evE (wAt p (k+1)) (.op .mod (.call "_law_stir" (.cons (.var 1) (.cons (.op .add (.var 3) (.con (.int 40))) .nil))) (.op .add (.var 3) (.con (.int 1)))) (TB m c o (some (.int (j:Nat))) none none)=.ok (.int q):=by
   dsimp only[TB];generalize st c ((j:Int)+40)=QQ at *;generalize (j:Int)+40=J1 at *;generalize (j:Int)+1=J2 at *;generalize (j:Int)=J at *;simp[KG.Z,z1,z2,z3,e5]
  refine zQ (σ:=TB m c (o.take q.toNat++(j:Int)::o.drop q.toNat) (some (.int (j:Nat))) none none) ?_ (eT ⟨j+1,_,_,by lia,by rw[show (((j+1:Nat)):Int)=(j:Int)+1 by lia],?_,rfl⟩)
  ·rw[zY];show ((evE (wAt p (k+1)) _ (TB m c o (some (.int (j:Nat))) none none)).out _)=_;rw[hk];show i6 (.lst (o.map D.int)) (.int q) (.int (j:Nat)) 2 (TB m c o (some (.int (j:Nat))) none none)=_;rw[i6];rw[if_pos ⟨q0,by rw[aJ,hl];lia,by simp[SZ,hl];lia⟩,<-List.map_take,<-List.map_drop,<-aR,<-List.map_append]
   rfl
  ·rw[show (((j+1:Nat)):Int)=(j:Int)+1 by lia,BH];have a1:(o.take q.toNat++(j:Int)::o.drop q.toNat).Perm ((j:Int)::o):=by
    have:=List.perm_middle (a:=(j:Int)) (l₁:=o.take q.toNat) (l₂:=o.drop q.toNat)
    rwa[bL]at this
   exact a1.trans ((hp.cons _).trans (List.perm_append_comm (l₁:=[(j:Int)]) (l₂:=rng (j:Int))))
 ·rintro σ ⟨j,o,v3,hj,e,hp,rfl⟩;have hjm:(j:Int)=m:=by
   by_cases z:(j:Int)<m
   ·rw[lz z]at e;cases e
   ·lia
  rw[hjm]at hp;have hl:(o.length:Int)=m:=by rw[hp.length_eq,zf];lia
  have ho:=λ(i:Int) (h0:0<=i) (h:i<m)=>AO (o:=o) hl h0 h
  refine zQ (σ:=TB m c o v3 (some (.lst [])) none) rfl ?_;have iok:=uu c m h2;refine gM (ds:=(rg2 1 m).map D.int) (λr σ=>∃(pre us:List Int) (v5:Option D),r=us.map D.int/\pre++us=rg2 1 m/\σ=TB m c o v3 (some (.lst (((pre.map λi=>(i,st c i%i)).map (zB o)).map prD))) v5) ?_ ⟨[],rg2 1 m,none,rfl,rfl,rfl⟩ ?_ ?_
  ·have s1:zo (1:Int)=true:=by decide
   rw[<-vQ];dsimp only[TB];generalize D.lst (o.map D.int)=OL at *;simp[KG.Z,hm,s1]
  ·rintro x t σ ⟨pre,us,v5,e,hus,rfl⟩;obtain⟨i,us,rfl,rfl,rfl⟩:=fx e;have hi:i∈rg2 1 m:=by rw[<-hus];simp
   obtain⟨i1,i2⟩:=jV.mp hi;have t0:0<=st c i%i:=Int.emod_nonneg _ (by lia);have t1:st c i%i<i:=Int.emod_lt_of_pos _ (by lia);refine⟨TB m c o v3 (some (.lst (((pre.map λi=>(i,st c i%i)).map (zB o)).map prD))) (some (.int i)),rfl,?_⟩;have a0:=ho i (by lia) i2;have a1:=ho (st c i%i) t0 (by lia);have e5:=tI hS (k:=k) c i;have z3:op2 .mod (.int (st c i)) (.int i)=.ok (.int (st c i%i)):=by
    show opI .mod _ _=_;rw[opI,if_pos (by lia)]
   have pl:pre.length<=8:=by
    have:=congrArg List.length hus;rw[bH,rg2,aJ,List.length_range]at this;lia
   have pz:((((pre.map λi=>(i,st c i%i)).map (zB o)).map prD)).length<SZ:=by simp[SZ];lia
   have hE:evE (wAt p (k+1)) (.bi .tuple (.cons (.bi .sorted (.cons (.lst (.cons (.ix (.own 2) (.var 5)) (.cons (.ix (.own 2) (.op .mod (.call "_law_stir" (.cons (.var 1) (.cons (.var 5) .nil))) (.var 5))) .nil))) .nil)) .nil)) (TB m c o v3 (some (.lst (((pre.map λi=>(i,st c i%i)).map (zB o)).map prD))) (some (.int i)))=.ok (prD (zB o (i,st c i%i))):=by
    have b1':b1 .sorted [.lst [.int (o.getD i.toNat 0),.int (o.getD (st c i%i).toNat 0)]]=.ok (.lst ((sortI [o.getD i.toNat 0,o.getD (st c i%i).toNat 0]).map D.int)):=rfl;have b2':b1 .tuple [.lst ((sortI [o.getD i.toNat 0,o.getD (st c i%i).toNat 0]).map D.int)]=.ok (prD (zB o (i,st c i%i))):=by rw[Cp];rfl
    dsimp only[TB];generalize D.lst ((sortI [o.getD i.toNat 0,o.getD (st c i%i).toNat 0]).map D.int)=Y at *;generalize prD (zB o (i,st c i%i))=Z at *;generalize D.lst (((pre.map λi=>(i,st c i%i)).map (zB o)).map prD)=L4 at *;generalize D.lst (o.map D.int)=OL at *;generalize o.getD (st c i%i).toNat 0=A2 at *;generalize o.getD i.toNat 0=A1 at *;generalize st c i%i=R1 at *;generalize st c i=S1 at *;simp[KG.Z,a0,a1,e5,z3,b1',b2']
   refine zQ (σ:=TB m c o v3 (some (.lst ((((pre++[i]).map λi=>(i,st c i%i)).map (zB o)).map prD))) (some (.int i))) ?_ (eT ⟨pre++[i],us,_,rfl,by simpa using hus,rfl⟩);rw[jZ (xs:=(((pre.map λi=>(i,st c i%i)).map (zB o)).map prD)) (d:=prD (zB o (i,st c i%i))) rfl hE pz];simp only[List.map_append,aR,List.map_nil]
   rfl
  ·rintro σ ⟨pre,us,v5,e,hus,rfl⟩;cases us with
   |cons _ _=>cases e
   |nil=>
    rw[cQ]at hus;subst hus;show Ends _ _ (qc (wAt p (k+1)) (.cons (.ret _) .nil) (TB m c o v3 (some (.lst (((It c m).map (zB o)).map prD))) v5));refine ip (d:=wb m (zj ((It c m).map (zB o)))) ?_ ⟨o,hp,rfl⟩;have t2:=pC ((It c m).map (zB o)) (by rw[aJ];have:=iok.len;lia);have t3:b1 .tuple [.lst ((zj ((It c m).map (zB o))).map prD)]=.ok (.tup ((zj ((It c m).map (zB o))).map prD)):=rfl;dsimp only[TB];show _=R.ok (D.tup [.int m,.tup ((zj ((It c m).map (zB o))).map prD)]);generalize D.lst (((It c m).map (zB o)).map prD)=L1 at *;generalize D.lst ((zj ((It c m).map (zB o))).map prD)=L2 at *;generalize D.tup ((zj ((It c m).map (zB o))).map prD)=L3 at *;generalize D.lst (o.map D.int)=OL at *;simp[KG.Z,t2,t3]
end KG
namespace KG
open EV
open PySem (Str)
open L2 (atI ixN ltP atK cD dA)
section
variable{m:Int}{ts:List (Int×Int)}
structure Tree(m:Int)(ts:List (Int×Int)):Prop where
 gw:GW m ts
 len:(ts.length:Int)=m-1
 con:∀a b,0<=a->a<m->0<=b->b<m->Rch m ts a b
theorem CS{a b:Int}(h:srt (a,b)∈ts)(ha:0<=a/\a<m):a∈hd m ts b:=by
 refine aX.mpr ⟨bP.mpr ha,?_⟩;rw[bW];right;rw[cC,bS];refine⟨_,h,?_⟩;rw[srt,mn,mx,aW,beq_iff_eq,beq_iff_eq];split<;>split<;>split<;>(constructor<;>first|lia|rfl|(simp only;lia))
theorem Dj{c:Int}{o:List Int}(h1:1<=m)(h2:m<=8)(hp:o.Perm (rng m)):Tree m (zj ((It c m).map (zB o))):=by
 have pm:=iC ((It c m).map (zB o));have up:∀n:Nat,(n:Int)<m->Rch m (zj ((It c m).map (zB o))) (o.getD 0 0) (o.getD n 0):=by
  intro n
  induction n using Nat.strongRecOn with
  |ind n ih=>
   intro hn;by_cases z:n=0
   ·subst z;exact .refl _
   ·have t0:0<=st c (n:Int)%(n:Int):=Int.emod_nonneg _ (by lia);have t1:st c (n:Int)%(n:Int)<n:=Int.emod_lt_of_pos _ (by lia);have ht:zB o ((n:Int),st c (n:Int)%(n:Int))∈zj ((It c m).map (zB o)):=by
     refine pm.mem_iff.mpr (aI.mpr ⟨_,aI.mpr ⟨(n:Int),jV.mpr ⟨by lia,hn⟩,rfl⟩,rfl⟩)
    generalize st c (n:Int)%(n:Int)=q at *;have:=ih q.toNat (by lia) (by lia);refine this.step ?_;have hm:=jM hp (i:=(n:Int)) (by lia) hn;have hm':0<=o.getD n 0/\o.getD n 0<m:=by simpa using hm
    refine CS ?_ hm';have e:zB o ((n:Int),q)=srt (o.getD n 0,o.getD q.toNat 0):=by simp[zB]
    rwa[e]at ht
 have at_:∀a,0<=a->a<m->∃n:Nat,(n:Int)<m/\o.getD n 0=a:=λa a0 a1=>by
  obtain⟨n,hn,e⟩:=List.getElem_of_mem (hp.mem_iff.mpr (bP.mpr ⟨a0,a1⟩));refine⟨n,by rw[hp.length_eq,zf]at hn;lia,?_⟩;simp[List.getD,hn,e]
 have g:=Dp h1 h2 hp (uu c m h2);have z0:0<=o.getD 0 0/\o.getD 0 0<m:=by simpa using jM hp (i:=0) (by lia) (by lia)
 refine⟨g,?_,λa b a0 a1 b0 b1=>?_⟩
 ·rw[pm.length_eq,aJ,It,aJ,rg2,aJ,List.length_range];lia
 ·obtain⟨i,hi,rfl⟩:=at_ a a0 a1;obtain⟨j,hj,rfl⟩:=at_ b b0 b1;exact((up i hi).symm z0).1.trans (up j hj)
noncomputable def dv(kvs:List (Int×Int))(v:Int):Int:=(atK kvs v).getD 0
theorem Tree.at(T:Tree m ts){r:Int}(h0:0<=r)(h1:r<m){kvs:List (Int×Int)}(w:bO m ts r kvs){v:Int}(v0:0<=v)(v1:v<m):atK kvs v=some (dv kvs v)/\b6 m ts r v (dv kvs v):=by
 obtain⟨k,hk⟩:=T.con r v h0 h1 v0 v1;obtain⟨d,hd'⟩:=w.all k v hk;have e:=(ke w.nd).mpr hd';have e2:dv kvs v=d:=by rw[dv,e];rfl
 rw[e2];exact⟨e,(w.ok _ hd').1⟩
theorem rR{r:Int}{kvs kvs':List (Int×Int)}(w:bO m ts r kvs)(w':bO m ts r kvs')(v:Int):dv kvs v=dv kvs' v:=by
 rw[dv,dv,w.get w' v]
theorem y8{r u v d e:Int}(hu:b6 m ts r u d)(hv:b6 m ts r v e)(h:v∈hd m ts u):e<=d+1:=by
 obtain⟨k,rfl,a1,a2⟩:=hu;have:=hv.le (k:=k+1) (.inr ⟨u,a1,h⟩);lia
theorem xc{r v:Int}{d:Int}(hv:b6 m ts r v d)(h:v≠r):∃u,v∈hd m ts u/\b6 m ts r u (d-1):=by
 obtain⟨k,rfl,a1,a2⟩:=hv;cases k with
 |zero=>exact absurd a1 h
 |succ k=>
  rcases a1 with z|⟨u,z,hu⟩
  ·exact absurd z (a2 k (by lia))
  ·refine⟨u,hu,k,by lia,z,λj hj y=>a2 (j+1) (by lia) (.inr ⟨u,y,hu⟩)⟩
theorem EW{r d:Int}(h:b6 m ts r r d):d=0:=by
 have:=h.le (k:=0) rfl;obtain⟨k,rfl,_⟩:=h;lia
noncomputable def nrr(m:Int)(ts kvs:List (Int×Int))(v:Int):List Int:=(hd m ts v).filter λo=>decide (dv kvs o<dv kvs v)
theorem uE{r:Int}(h0:0<=r/\r<m):∀{k:Nat}{v:Int},inR m ts r k v->0<=v/\v<m
 | 0,v,h=>by have h:v=r:=h;subst h;exact h0
 |k+1,v,.inl h=>uE h0 h
 |k+1,v,.inr ⟨u,_,h⟩=>ff h
theorem BC(T:Tree m ts){r:Int}(h0:0<=r)(h1:r<m){kvs:List (Int×Int)}(w:bO m ts r kvs){v:Int}(v0:0<=v)(v1:v<m):nrr m ts kvs v=(hd m ts v).filter λo=>decide (dv kvs o=dv kvs v-1):=by
 refine List.filter_congr λo ho=>?_
 obtain⟨o0,o1⟩:=ff ho;have a:=(T.at h0 h1 w v0 v1).2;have b:=(T.at h0 h1 w o0 o1).2;have:=y8 b a (fE ⟨v0,v1⟩ ho);exact decide_eq_decide.mpr ⟨λ_=>by lia,λ_=>by lia⟩
noncomputable def hlr(m:Int)(ts kvs:List (Int×Int))(v:Int):Int:=(nrr m ts kvs v++[v]).headD 0
theorem rK(T:Tree m ts){r:Int}(h0:0<=r)(h1:r<m){kvs:List (Int×Int)}(w:bO m ts r kvs):hlr m ts kvs r=r:=by
 have e:nrr m ts kvs r=[]:=by
  rw[nrr,List.filter_eq_nil_iff];intro o ho;obtain⟨o0,o1⟩:=ff ho;have a:=EW (T.at h0 h1 w h0 h1).2;obtain⟨k,e,_⟩:=(T.at h0 h1 w o0 o1).2;simp only[decide_eq_true_eq];lia
 rw[hlr,e];rfl
theorem oh(T:Tree m ts){r:Int}(h0:0<=r)(h1:r<m){kvs:List (Int×Int)}(w:bO m ts r kvs){v:Int}(v0:0<=v)(v1:v<m)(hv:v≠r):∃x l,nrr m ts kvs v=x::l:=by
 obtain⟨u,hu,du⟩:=xc (T.at h0 h1 w v0 v1).2 hv;obtain⟨k,_,hk,_⟩:=id du;obtain⟨u0,u1⟩:=uE ⟨h0,h1⟩ hk;have e:=(T.at h0 h1 w u0 u1).2.uniq du;have:u∈nrr m ts kvs v:=aX.mpr ⟨fE ⟨u0,u1⟩ hu,by simp only[decide_eq_true_eq];lia⟩;cases q:nrr m ts kvs v with
 |nil=>rw[q]at this;cases this
 |cons x l=>exact⟨x,l,rfl⟩
theorem nk{kvs:List (Int×Int)}{v:Int}(v0:0<=v)(v1:v<m):0<=hlr m ts kvs v/\hlr m ts kvs v<m:=by
 rw[hlr];cases q:nrr m ts kvs v with
 |nil=>exact⟨v0,v1⟩
 |cons x l=>
  have:x∈nrr m ts kvs v:=by rw[q];exact aK
  exact ff (aX.mp this).1
noncomputable def stp(m:Int)(ts kvs:List (Int×Int)):List Int->List (Int×Int)->List (Int×Int)
 | [],acc=>acc
 |v::l,acc=>stp m ts kvs l (if (acc.flatMap λq=>hd m ts q.2).any (· == v)then acc else acc++[(v,hlr m ts kvs v)])
theorem oY{kvs:List (Int×Int)}:∀(l:List Int) (acc:List (Int×Int)),(stp m ts kvs l acc).length<=acc.length+l.length
 | [],acc=>aG _
 |v::l,acc=>by
  rw[stp];have:=oY (kvs:=kvs) l (if (acc.flatMap λq=>hd m ts q.2).any (· == v)then acc else acc++[(v,hlr m ts kvs v)]);split at this
  ·rw[if_pos ‹_›,bg];lia
  ·rw[if_neg ‹_›,bg];rw[bH]at this;simp only[bg,List.length_nil]at this;lia
noncomputable def frf(m:Int)(kvs:List (Int×Int)):List Int:=(rng m).reverse.flatMap λd=>(rng m).filter λv=>decide (dv kvs v=d)
theorem oK{kvs:List (Int×Int)}(h:∀v,0<=v->v<m->0<=dv kvs v/\dv kvs v<m):(zj ((rng m).map λv=>(- dv kvs v,v))).map (·.2)=frf m kvs:=by
 have e:(rng m).reverse.flatMap (λd=>((rng m).filter λv=>decide (dv kvs v=d)).map λv=>(-d,v))=zj ((rng m).map λv=>(- dv kvs v,v)):=by
  have mem:∀x:Int×Int,x∈(rng m).reverse.flatMap (λd=>((rng m).filter λv=>decide (dv kvs v=d)).map λv=>(-d,v))↔x∈(rng m).map λv=>(- dv kvs v,v):=λx=>by
   simp only[List.mem_flatMap,List.mem_reverse,aI,aX,decide_eq_true_eq];constructor
   ·rintro⟨d,_,v,⟨hv,e⟩,rfl⟩;exact⟨v,hv,by rw[e]⟩
   ·rintro⟨v,hv,rfl⟩;obtain⟨v0,v1⟩:=bP.mp hv;exact⟨dv kvs v,bP.mpr (h v v0 v1),v,⟨hv,rfl⟩,rfl⟩
  have pw:((rng m).reverse.flatMap (λd=>((rng m).filter λv=>decide (dv kvs v=d)).map λv=>(-d,v))).Pairwise λa b=>ltP a b=true:=by
   rw[List.pairwise_flatMap];refine⟨λd _=>?_,?_⟩
   ·rw[List.pairwise_map];exact((eM m).filter _).imp λ{a b} z=>by simp[ltP,z]
   ·rw[List.pairwise_reverse];refine(eM m).imp λ{a b} z x hx y hy=>?_
    obtain⟨v,_,rfl⟩:=aI.mp hx;obtain⟨u,_,rfl⟩:=aI.mp hy;have z1:-b < -a:=by lia
    rw[ltP,if_neg (by simp only;lia)];exact decide_eq_true z1
  have nd1:((rng m).reverse.flatMap (λd=>((rng m).filter λv=>decide (dv kvs v=d)).map λv=>(-d,v))).Nodup:=pw.imp λ{a b} z e=>by
   subst e;rw[show ltP a a=false by simp[ltP]]at z;cases z
  have nd2:((rng m).map λv=>(- dv kvs v,v)).Nodup:=by
   rw[List.Nodup,List.pairwise_map];exact(eM m).imp λ{a b} z e=>by injection e with _ e;lia
  refine Gj ((List.perm_ext_iff_of_nodup nd1 nd2).mpr mem) (pw.imp λ{a b} z=>?_);cases q:ltP b a with
  |false=>rfl
  |true=>
   rw[ltP]at z q;split at z<;>split at q<;>(have z:=of_decide_eq_true z;have q:=of_decide_eq_true q;lia)
 rw[<-e,frf,List.map_flatMap];refine congrArg (λf=>List.flatMap f (rng m).reverse) (funext λd=>?_);rw[cg];exact List.map_id _
end
noncomputable def mh:Fn:=⟨1,3,false,(.cons (.exp (.call "need_web" (.cons (.var 0) .nil))) (.cons (.set (.tp [1,2]) (.var 0)) (.cons (.ret (.and (.cmp .eq (.bi .len (.cons (.call "pieces" (.cons (.var 0) .nil)) .nil)) (.con (.int 1))) (.cmp .eq (.bi .len (.cons (.var 2) .nil)) (.op .sub (.var 1) (.con (.int 1)))))) .nil)))⟩
noncomputable def jT:Fn:=⟨1,1,false,(.cons (.ite (.not (.val (.call "is_tree" (.cons (.var 0) .nil)))) (.cons .unk .nil) .nil) .nil)⟩
noncomputable def mJ:Fn:=⟨2,3,false,(.cons (.exp (.call "need_tree" (.cons (.var 0) .nil))) (.cons (.exp (.call "need_place" (.cons (.var 0) (.cons (.var 1) .nil)))) (.cons (.set (.nm 2) (.call "ways_from" (.cons (.var 0) (.cons (.var 1) .nil)))) (.cons (.ret (.bi .tuple (.cons (.comp (.rng (.ix (.var 0) (.con (.int 0)))) [none,none,some 2,some 0] (.nm 1) .yes (.call "upper" (.cons (.var 3) (.cons (.var 2) (.cons (.var 1) .nil))))) .nil))) .nil))))⟩
noncomputable def lJ:Fn:=⟨3,4,false,(.cons (.set (.nm 3) (.comp (.seq (.call "hood_of" (.cons (.var 0) (.cons (.var 2) .nil)))) [none,none,some 2,some 1] (.nm 1) (.cmp .lt (.ix (.var 3) (.var 1)) (.ix (.var 3) (.var 2))) (.var 1))) (.cons (.ret (.ite (.val (.var 3)) (.ix (.var 3) (.con (.int 0))) (.neg (.con (.int 1))))) .nil))⟩
noncomputable def lR:Fn:=⟨2,3,false,(.cons (.exp (.call "need_tree" (.cons (.var 0) .nil))) (.cons (.exp (.call "need_place" (.cons (.var 0) (.cons (.var 1) .nil)))) (.cons (.set (.nm 2) (.call "ways_from" (.cons (.var 0) (.cons (.var 1) .nil)))) (.cons (.ret (.comp (.seq (.bi .sorted (.cons (.comp (.rng (.ix (.var 0) (.con (.int 0)))) [none,none,some 2] (.nm 1) .yes (.tup (.cons (.neg (.ix (.var 2) (.var 1))) (.cons (.var 1) .nil)))) .nil))) [none,none,none] (.tp [1,2]) .yes (.var 2))) .nil))))⟩
structure Tr0(p:Pr)(b:Bool):Prop where
 web:Web p
 hds:Hds p
 ways_from:p.fns "ways_from" = some gW
 pieces:p.fns "pieces" = some (iE b)
 is_tree:p.fns "is_tree" = some mh
 need_tree:p.fns "need_tree" = some jT
 is_place:p.fns "is_place" = some gv
 need_place:p.fns "need_place" = some g7
 upper:p.fns "upper" = some lJ
structure Trs(p:Pr)(b:Bool):Prop extends Tr0 p b where
 above:p.fns "above" = some mJ
 from_far:p.fns "from_far" = some lR
theorem tV{S:Int->List Int}{s:List Int}:∀l:List Int,(∀a∈l,S a=s)->ddp S l [s]=[s]
 | [],_=>rfl
 |a::l,h=>by
  rw[ddp,h a aK,if_pos (by simp)];exact tV l λx hx=>h x (aO _ hx)
theorem C7{w:W}{it:EV.It}{cap:List (Option Nat)}{τ:Env}{l:List (Int×Int)}(h:evI w it τ=.ok (l.map prD))(hz:l.length<=SZ)(hc:ez cap τ=[none,none,none]):evE w (.comp it cap (.tp [1,2]) .yes (.var 2)) τ=.ok (.lst ((l.map (·.2)).map D.int)):=by
 have key:∀(r:List (Int×Int)) (v v':Option D) (acc:List D),zG (λx σ=>noEx ((store (.tp [1,2]) x σ).bind λσ'=>(evT w .yes σ').bind λr=>if r then (evE w (.var 2) σ').bind λd=>.ok (σ',[d])else .ok (σ',[]))) (r.map prD) [none,v,v'] acc=.ok (acc++(r.map (·.2)).map D.int):=by
  intro r
  induction r with
  |nil=>intro v v' acc;simp[zG]
  |cons x r ih=>
   intro v v' acc;rw[aR,zG];show zG _ (r.map prD) [none,some (.int x.1),some (.int x.2)] (acc++[.int x.2])=_;rw[ih];simp
 rw[qt,h];simp only[R.bind_ok];rw[if_neg (by simp;lia),hc,key l none none []]
 rfl
section
variable{p:Pr}{b:Bool}(P:Tr0 p b){m:Int}{ts:List (Int×Int)}(T:Tree m ts)
include P T
theorem Cu{k:Nat}:qa p (k+6) "is_tree" [wb m ts]=.ok (.bl true):=by
 have h:=T.gw;have ex:∀a,∃kvs,0<=a->a<m->bO m ts a kvs/\qa p (k+4) "ways_from" [wb m ts,.int a]=.ok (.dic kvs):=λa=>by
  by_cases z:0<=a/\a<m
  ·obtain⟨kvs,w,e⟩:=ways_from P.hds.hood_of P.hds.are_tied P.ways_from (k:=k+1) h z.1 z.2;exact⟨kvs,λ_ _=>⟨w,e⟩⟩
  ·exact⟨[],λh1 h2=>absurd ⟨h1,h2⟩ z⟩
 have hW:=λa=>Classical.choose_spec (ex a)
 have e2:=KG.pieces P.web P.pieces h hW;have one:ddp (λa=>ks (Classical.choose (ex a))) (rng m) []=[ks (Classical.choose (ex 0))]:=by
  have h1:=h.lo;have e:rng m=0::rg2 1 m:=by rw[oO,lz (by lia)];rfl
  rw[e,ddp,if_neg (by simp),List.nil_append];refine tV _ λa ha=>?_
  obtain⟨a1,a2⟩:=jV.mp ha;exact(pI ⟨Int.le_refl 0,by lia⟩ (hW 0 (by lia) (by lia)).1 (hW a (by lia) a2).1 (T.con 0 a (by lia) (by lia) (by lia) a2)).symm
 rw[one]at e2;have e1:=need_web P.web (k:=k+1) h;have l1:b1 .len [.lst ([ks (Classical.choose (ex 0))].map tu)]=.ok (.int 1):=rfl;have l2:b1 .len [.tup (ts.map prD)]=.ok (.int (ts.length)):=by rw[FX,aJ]
 rw[T.len]at l2;have c1:=eq_int 1 1;have c2:=eq_int (m-1) (m-1);have o1:op2 .sub (.int m) (.int 1)=.ok (.int (m-1)):=rfl;rw[qf P.is_tree];refine qu (τ:=[some (wb m ts),none,none]) rfl rfl ?_;refine zz (σ:=[some (wb m ts),none,none]) (by generalize wb m ts=WB at *;simp[KG.Z,e1]) ?_;refine zz (σ:=[some (wb m ts),some (.int m),some (.tup (ts.map prD))]) rfl ?_;generalize D.tup (ts.map prD)=TT at *;generalize D.lst ([ks (Classical.choose (ex 0))].map tu)=PL at *;generalize wb m ts=WB at *;generalize m-1=M1 at *;simp[KG.Z,e2,l1,l2,c1,c2,o1]
theorem oE{k:Nat}:qa p (k+7) "need_tree" [wb m ts]=.ok .non:=by
 have e:=Cu P T (k:=k);generalize wb m ts=WB at *;rw[qf P.need_tree];simp only[dC];simp[KG.Z,jT,e]
omit T in
theorem oj{k:Nat}{i:Int}(h:0<=i/\i<m):qa p (k+4) "need_place" [wb m ts,.int i]=.ok .non:=by
 have e:qa p (k+3) "is_place" [wb m ts,.int i]=.ok (.bl true):=by
  rw[qf P.is_place];refine qu rfl rfl ?_;simp[KG.Z,KG.gv,ixD,atI,ixN,op2,is_between P.web i 0 (m-1) (by lia)]
 generalize wb m ts=WB at *;rw[qf P.need_place];simp only[dC];simp[KG.Z,KG.g7,e]
noncomputable def upv(m:Int)(ts kvs:List (Int×Int))(v:Int):Int:=(nrr m ts kvs v++[-1]).headD 0
theorem Ep{k:Nat}{r:Int}(h0:0<=r)(h1:r<m){kvs:List (Int×Int)}(w:bO m ts r kvs){v:Int}(v0:0<=v)(v1:v<m):qa p (k+3) "upper" [wb m ts,.dic kvs,.int v]=.ok (.int (upv m ts kvs v)):=by
 have hh:=KG.nq P.hds.hood_of P.hds.are_tied (k:=k) T.gw v;have ix:∀{o:Int},0<=o->o<m->ixD (.dic kvs) (.int o)=.ok (.int (dv kvs o)):=λ{o} o0 o1=>by
  simp only[ixD,(T.at h0 h1 w o0 o1).1]
 have hc:evE (wAt p (k+2)) (.comp (.seq (.call "hood_of" (.cons (.var 0) (.cons (.var 2) .nil)))) [none,none,some 2,some 1] (.nm 1) (.cmp .lt (.ix (.var 3) (.var 1)) (.ix (.var 3) (.var 2))) (.var 1)) [some (wb m ts),some (.dic kvs),some (.int v),none]=.ok (.lst ((nrr m ts kvs v).map D.int)):=by
  refine jH (f:=D.int) (l:=hd m ts v) (c:=[some (.int v),some (.dic kvs)]) (λo=>decide (dv kvs o<dv kvs v)) D.int ?_ ?_ rfl λo ho=>⟨?_,λ_=>rfl⟩
  ·refine EY ?_;generalize wb m ts=WB at *;generalize D.dic kvs=DK at *;simp[KG.Z,hh]
  ·have:=List.length_filter_le (λb=>b==v||cC ts v b) (rng m);rw[zf]at this;have:=T.gw.hi;simp only[hd,SZ];lia
  ·obtain⟨o0,o1⟩:=ff ho;have a:=ix o0 o1;have c:=ix v0 v1;have l:=lt_int (dv kvs o) (dv kvs v);generalize D.dic kvs=DK at *;simp[KG.Z,a,c,l]
 rw[qf P.upper];refine qu (τ:=[some (wb m ts),some (.dic kvs),some (.int v),none]) rfl rfl ?_;refine zz (σ:=[some (wb m ts),some (.dic kvs),some (.int v),some (.lst ((nrr m ts kvs v).map D.int))]) (by
  show ((evE (wAt p (k+2)) _ _).out _)=_;rw[hc];rfl) ?_
 rw[upv];cases nrr m ts kvs v with
 |nil=>rfl
 |cons x l=>
  have a:=ix0 D.int x l;have te:evT (wAt p (k+2)) (.val (.var 3)) [some (wb m ts),some (.dic kvs),some (.int v),some (.lst ((x::l).map D.int))]=.ok true:=rfl;have xe:evE (wAt p (k+2)) (.ix (.var 3) (.con (.int 0))) [some (wb m ts),some (.dic kvs),some (.int v),some (.lst ((x::l).map D.int))]=.ok (.int x):=a;show qc (wAt p (k+2)) _ _=O.rt (.int x);rw[qc,zL,qy,te];simp only[R.bind_ok,if_true];rw[xe];rfl
end
section
variable{p:Pr}{b:Bool}(P:Trs p b){m:Int}{ts:List (Int×Int)}(T:Tree m ts)
include P T
theorem AJ{k:Nat}{r:Int}(h0:0<=r)(h1:r<m):∃kvs,bO m ts r kvs/\qa p (k+8) "above" [wb m ts,.int r]=.ok (.tup ((rng m).map λv=>.int (upv m ts kvs v))):=by
 obtain⟨kvs,w,e⟩:=ways_from P.hds.hood_of P.hds.are_tied P.ways_from (k:=k+4) T.gw h0 h1;refine⟨kvs,w,?_⟩;have e1:=oE P.toTr0 T (k:=k);have e2:=oj P.toTr0 (ts:=ts) (k:=k+3) ⟨h0,h1⟩;have hm:zo m=true:=by have:=T.gw.lo;have:=T.gw.hi;simp[zo];lia
 have hx:ixD (wb m ts) (.int 0)=.ok (.int m):=rfl;have hc:evE (wAt p (k+7)) (.comp (.rng (.ix (.var 0) (.con (.int 0)))) [none,none,some 2,some 0] (.nm 1) .yes (.call "upper" (.cons (.var 3) (.cons (.var 2) (.cons (.var 1) .nil))))) [some (wb m ts),some (.int r),some (.dic kvs)]=.ok (.lst ((rng m).map λv=>.int (upv m ts kvs v))):=by
  refine iQ (f:=D.int) (c:=[some (.dic kvs),some (wb m ts)]) (λv=>.int (upv m ts kvs v)) ?_ ?_ rfl λv hv=>?_
  ·rw[<-zS];generalize wb m ts=WB at *;simp[KG.Z,hx,hm]
  ·have:=T.gw.hi;rw[zf];simp only[SZ];lia
  ·obtain⟨v0,v1⟩:=bP.mp hv;have u:=Ep P.toTr0 T (k:=k+4) h0 h1 w v0 v1;generalize wb m ts=WB at *;generalize D.dic kvs=DK at *;simp[KG.Z,u]
 rw[qf P.above];refine qu (τ:=[some (wb m ts),some (.int r),none]) rfl rfl ?_;refine zz (σ:=[some (wb m ts),some (.int r),none]) (by generalize wb m ts=WB at *;simp[KG.Z,e1]) ?_;refine zz (σ:=[some (wb m ts),some (.int r),none]) (by generalize wb m ts=WB at *;simp[KG.Z,e2]) ?_;refine zz (σ:=[some (wb m ts),some (.int r),some (.dic kvs)]) (by generalize wb m ts=WB at *;generalize D.dic kvs=DK at *;simp[KG.Z,e]) ?_;show qc (wAt p (k+7)) (.cons (.ret _) .nil) _=_;rw[qc,zL,qr,zM,hc]
 rfl
omit P in
theorem kI{r:Int}(h0:0<=r)(h1:r<m){kvs:List (Int×Int)}(w:bO m ts r kvs):∀v,0<=v->v<m->0<=dv kvs v/\dv kvs v<m:=λv v0 v1=>by
 have d:=(T.at h0 h1 w v0 v1).2;have:=D2 h0 h1 d;obtain⟨k,e,_⟩:=d;lia
theorem E4{k:Nat}{r:Int}(h0:0<=r)(h1:r<m){kvs:List (Int×Int)}(w:bO m ts r kvs):qa p (k+8) "from_far" [wb m ts,.int r]=.ok (.lst ((frf m kvs).map D.int)):=by
 obtain⟨kv2,w2,e⟩:=ways_from P.hds.hood_of P.hds.are_tied P.ways_from (k:=k+4) T.gw h0 h1;have e1:=oE P.toTr0 T (k:=k);have e2:=oj P.toTr0 (ts:=ts) (k:=k+3) ⟨h0,h1⟩;have hm:zo m=true:=by have:=T.gw.lo;have:=T.gw.hi;simp[zo];lia
 have hx:ixD (wb m ts) (.int 0)=.ok (.int m):=rfl;have fe:frf m kvs=frf m kv2:=by
  rw[frf,frf];refine congrArg (λf=>List.flatMap f (rng m).reverse) (funext λd=>List.filter_congr λv _=>?_);rw[rR w w2]
 rw[fe,<-oK (kI T h0 h1 w2)];have hc:evE (wAt p (k+7)) (.comp (.rng (.ix (.var 0) (.con (.int 0)))) [none,none,some 2] (.nm 1) .yes (.tup (.cons (.neg (.ix (.var 2) (.var 1))) (.cons (.var 1) .nil)))) [some (wb m ts),some (.int r),some (.dic kv2)]=.ok (.lst (((rng m).map λv=>(- dv kv2 v,v)).map prD)):=by
  rw[cg];refine iQ (f:=D.int) (c:=[some (.dic kv2)]) (λv=>prD (- dv kv2 v,v)) ?_ ?_ rfl λv hv=>?_
  ·rw[<-zS];generalize wb m ts=WB at *;simp[KG.Z,hx,hm]
  ·have:=T.gw.hi;rw[zf];simp only[SZ];lia
  ·obtain⟨v0,v1⟩:=bP.mp hv;have a:ixD (.dic kv2) (.int v)=.ok (.int (dv kv2 v)):=by simp only[ixD,(T.at h0 h1 w2 v0 v1).1]
   generalize D.dic kv2=DK at *;simp[KG.Z,a,zk,prD,pairD]
 have l8:((rng m).map λv=>(- dv kv2 v,v)).length<=8:=by have:=T.gw.hi;rw[aJ,zf];lia
 have hs:=pC ((rng m).map λv=>(- dv kv2 v,v)) (by lia);have l9:(zj ((rng m).map λv=>(- dv kv2 v,v))).length<=8:=by rw[(iC _).length_eq];exact l8
 rw[qf P.from_far];refine qu (τ:=[some (wb m ts),some (.int r),none]) rfl rfl ?_;refine zz (σ:=[some (wb m ts),some (.int r),none]) (by generalize wb m ts=WB at *;simp[KG.Z,e1]) ?_;refine zz (σ:=[some (wb m ts),some (.int r),none]) (by generalize wb m ts=WB at *;simp[KG.Z,e2]) ?_;refine zz (σ:=[some (wb m ts),some (.int r),some (.dic kv2)]) (by generalize wb m ts=WB at *;generalize D.dic kv2=DK at *;simp[KG.Z,e]) ?_;show qc (wAt p (k+7)) (.cons (.ret _) .nil) _=_;rw[qc,zL,C7 (l:=zj ((rng m).map λv=>(- dv kv2 v,v))) (gA ?_) (by simp only[SZ];lia) rfl]
 ·rfl
 ·rw[qr,zM,hc];exact hs
end
noncomputable def kM:Fn:=⟨2,8,true,(.cons (.set (.nm 2) (.call "above" (.cons (.var 0) (.cons (.var 1) .nil)))) (.cons (.set (.nm 3) (.call "hoods" (.cons (.var 0) .nil))) (.cons (.set (.nm 4) (.lst .nil)) (.cons (.set (.nm 5) (.lst .nil)) (.cons (.for (.nm 6) (.seq (.call "from_far" (.cons (.var 0) (.cons (.var 1) .nil)))) (.cons (.ite (.cmp .notin (.var 6) (.own 4)) (.cons (.set (.nm 7) (.ite (.cmp .eq (.var 6) (.var 1)) (.var 1) (.ix (.var 2) (.var 6)))) (.cons (.app 5 (.tup (.cons (.var 6) (.cons (.var 7) .nil)))) (.cons (.ext 4 (.ix (.var 3) (.var 7))) .nil))) .nil) .nil)) (.cons (.ret (.own 5)) .nil))))))⟩
noncomputable def ua:Fn:=⟨2,6,false,(.cons (.set (.nm 2) (.dic1 (.var 1) (.con (.int 0)))) (.cons (.for (.nm 3) (.rng (.ix (.var 0) (.con (.int 0)))) (.cons (.for (.nm 4) (.seq (.lsd (.own 2))) (.cons (.for (.nm 5) (.seq (.call "_law_hood" (.cons (.var 0) (.cons (.var 4) .nil)))) (.cons (.ite (.cmp .notin (.var 5) (.own 2)) (.cons (.seti 2 (.var 5) (.op .add (.ix (.own 2) (.var 4)) (.con (.int 1)))) .nil) .nil) .nil)) .nil)) .nil)) (.cons (.ret (.own 2)) .nil)))⟩
noncomputable def Bd:Fn:=⟨2,8,false,(.cons (.set (.nm 2) (.call "_law_ways" (.cons (.var 0) (.cons (.var 1) .nil)))) (.cons (.set (.nm 3) (.lst .nil)) (.cons (.set (.nm 4) (.lst .nil)) (.cons (.for (.nm 5) (.rrev (.ix (.var 0) (.con (.int 0)))) (.cons (.for (.nm 6) (.rng (.ix (.var 0) (.con (.int 0)))) (.cons (.ite (.and (.cmp .eq (.ix (.var 2) (.var 6)) (.var 5)) (.cmp .eq (.callo "_law_holders" (.cons (.var 0) (.cons (.own 4) (.cons (.var 6) .nil)))) (.tup .nil))) (.cons (.set (.nm 7) (.comp (.seq (.call "_law_hood" (.cons (.var 0) (.cons (.var 6) .nil)))) [none,none,some 5,some 2] (.nm 1) (.cmp .eq (.ix (.var 3) (.var 1)) (.op .sub (.var 2) (.con (.int 1)))) (.var 1))) (.cons (.app 4 (.ix (.op .add (.var 7) (.lst (.cons (.var 6) .nil))) (.con (.int 0)))) (.cons (.app 3 (.tup (.cons (.var 6) (.cons (.ix (.own 4) (.neg (.con (.int 1)))) .nil)))) .nil))) .nil) .nil)) .nil)) (.cons (.ret (.own 3)) .nil)))))⟩
theorem DC(ns:List Int)(a:Int):qg .notin (.int a) (.lst (ns.map D.int))=.ok (!ns.any λt=>t==a):=by
 rw[qg];simp only[seq?];rw[if_pos (by simp only[aW,b_,aI];exact⟨rfl,λx ⟨t,_,e⟩=>e▸uP t⟩),inD,List.any_map]
 rfl
theorem tU{m:Int}(f:Int->D){a:Int}(h0:0<=a)(h:a<m):ixD (.tup ((rng m).map f)) (.int a)=.ok (f a):=by
 obtain⟨j,rfl⟩:∃j:Nat,a=j:=⟨a.toNat,by lia⟩
 have hj:j<((rng m).map f).length:=by rw[aJ,zf];lia
 have:=je (xs:=(rng m).map f) (i:=j) hj;simp only[ixD];rw[this];simp[rng]
section
variable{m:Int}{ts:List (Int×Int)}
theorem ph{kvs:List (Int×Int)}{v:Int}(h:v∈frf m kvs):0<=v/\v<m:=by
 obtain⟨d,_,h⟩:=List.mem_flatMap.mp h;exact bP.mp (aX.mp h).1
theorem rT{kvs:List (Int×Int)}(h:∀v,0<=v->v<m->0<=dv kvs v/\dv kvs v<m):(frf m kvs).length=m.toNat:=by
 rw[<-oK h,aJ,(iC _).length_eq,aJ,zf]
theorem rQ(h:m<=8)(a:Int):(hd m ts a).length<=8:=bB (List.length_filter_le _ _) (by rw[zf];lia)
theorem pW(h:m<=8):∀acc:List (Int×Int),(acc.flatMap λq=>hd m ts q.2).length<=8 * acc.length
 | []=>aG _
 |q::l=>by
  rw[cw,bH,bg];have:=rQ (ts:=ts) h q.2;have:=pW h l;lia
end
theorem t9{m:Int}{ts kvs:List (Int×Int)}{v:Int}{l:List Int}{acc:List (Int×Int)}:stp m ts kvs (v::l) acc=stp m ts kvs l (if (acc.flatMap λq=>hd m ts q.2).any (· == v)then acc else acc++[(v,hlr m ts kvs v)]):=rfl
abbrev SE8(m:Int)(ts kvs:List (Int×Int))(r:Int)(acc:List (Int×Int))(v6 v7:Option D):Env:=[some (wb m ts),some (.int r),some (.tup ((rng m).map λv=>.int (upv m ts kvs v))),some (.tup ((rng m).map λa=>tu (hd m ts a))),some (.lst ((acc.flatMap λq=>hd m ts q.2).map D.int)),some (.lst (acc.map prD)),v6,v7]
section
variable{p:Pr}{b:Bool}(P:Trs p b)(hf:p.fns "steps" = some kM){m:Int}{ts:List (Int×Int)}(T:Tree m ts)
include P hf T
theorem pO{k:Nat}{r:Int}(h0:0<=r)(h1:r<m):∃kvs,bO m ts r kvs/\qa p (k+9) "steps" [wb m ts,.int r]=.ok (.lst ((stp m ts kvs (frf m kvs) []).map prD)):=by
 have h8:=T.gw.hi;obtain⟨kvs,w,ea⟩:=AJ P T (k:=k) h0 h1;have ef:=E4 P T (k:=k) h0 h1 w;have eh:=KG.hoods P.web P.hds (k:=k+3) T.gw;refine⟨kvs,w,?_⟩
 suffices hs:∃d,qa p (k+9) "steps" [wb m ts,.int r]=.ok d/\d=.lst ((stp m ts kvs (frf m kvs) []).map prD)by
  obtain⟨d,e,rfl⟩:=hs;exact e
 refine lx (k:=k+8) (τ:=[some (wb m ts),some (.int r),none,none,none,none,none,none]) hf rfl rfl ?_;refine zQ (σ:=[some (wb m ts),some (.int r),some (.tup ((rng m).map λv=>.int (upv m ts kvs v))),none,none,none,none,none]) (by
  generalize D.tup ((rng m).map λv=>.int (upv m ts kvs v))=UV at *;generalize wb m ts=WB at *;simp[KG.Z,ea]) ?_
 refine zQ (σ:=[some (wb m ts),some (.int r),some (.tup ((rng m).map λv=>.int (upv m ts kvs v))),some (.tup ((rng m).map λa=>tu (hd m ts a))),none,none,none,none]) (by
  generalize D.tup ((rng m).map λv=>.int (upv m ts kvs v))=UV at *;generalize D.tup ((rng m).map λa=>tu (hd m ts a))=HS at *;generalize wb m ts=WB at *;simp[KG.Z,eh]) ?_
 refine zQ (σ:=[some (wb m ts),some (.int r),some (.tup ((rng m).map λv=>.int (upv m ts kvs v))),some (.tup ((rng m).map λa=>tu (hd m ts a))),some (.lst []),none,none,none]) rfl ?_;refine zQ (σ:=SE8 m ts kvs r [] none none) rfl ?_;have fl:=rT (kI T h0 h1 w);refine gM (ds:=(frf m kvs).map D.int) (λl σ=>∃(vs:List Int) (acc:List (Int×Int)) (v6 v7:Option D),l=vs.map D.int/\(∀v∈vs,0<=v/\v<m)/\stp m ts kvs vs acc=stp m ts kvs (frf m kvs) []/\acc.length+vs.length<=8/\σ=SE8 m ts kvs r acc v6 v7) ?_ ⟨frf m kvs,[],none,none,rfl,λv hv=>ph hv,rfl,by rw[fl];simp;lia,rfl⟩ ?_ ?_
 ·refine gA ?_;dsimp only[SE8];generalize D.lst ((frf m kvs).map D.int)=FF at *;generalize wb m ts=WB at *;generalize D.tup ((rng m).map λv=>.int (upv m ts kvs v))=UV at *;generalize D.tup ((rng m).map λa=>tu (hd m ts a))=HS at *;simp[KG.Z,ef]
 ·rintro x l σ ⟨vs,acc,v6,v7,e,hvs,hst,hlen,rfl⟩;obtain⟨v,vs,rfl,rfl,rfl⟩:=fx e;obtain⟨v0,v1⟩:=hvs v aK;rw[t9]at hst;rw[bg]at hlen;refine⟨SE8 m ts kvs r acc (some (.int v)) v7,rfl,?_⟩;have c1:=DC (acc.flatMap λq=>hd m ts q.2) v;have hl:=pW (ts:=ts) h8 acc;have t1:evT (wAt p (k+8)) (.cmp .notin (.var 6) (.own 4)) (SE8 m ts kvs r acc (some (.int v)) v7)=.ok (!(acc.flatMap λq=>hd m ts q.2).any λt=>t==v):=by
   dsimp only[SE8];generalize D.lst ((acc.flatMap λq=>hd m ts q.2).map D.int)=HL at *;generalize (!(acc.flatMap λq=>hd m ts q.2).any λt=>t==v)=bb at *;generalize wb m ts=WB at *;simp[KG.Z,c1]
  cases q:(acc.flatMap λq=>hd m ts q.2).any (· == v)with
  |true=>
   rw[q]at t1 hst;rw[if_pos rfl]at hst;refine zQ (σ:=SE8 m ts kvs r acc (some (.int v)) v7) ?_ (eT ⟨vs,acc,_,_,rfl,λy hy=>hvs y (aO _ hy),hst,by lia,rfl⟩);rw[zV,t1]
   rfl
  |false=>
   rw[q]at t1 hst;rw[if_neg (by decide)]at hst;obtain⟨w0,w1⟩:=nk (ts:=ts) (kvs:=kvs) v0 v1;have hv:evE (wAt p (k+8)) (.ite (.cmp .eq (.var 6) (.var 1)) (.var 1) (.ix (.var 2) (.var 6))) (SE8 m ts kvs r acc (some (.int v)) v7)=.ok (.int (hlr m ts kvs v)):=by
    have ce:=eq_int v r;have te:evT (wAt p (k+8)) (.cmp .eq (.var 6) (.var 1)) (SE8 m ts kvs r acc (some (.int v)) v7)=.ok (decide (v=r)):=ce;rw[qy,te];simp only[R.bind_ok];by_cases z:v=r
    ·rw[decide_eq_true z,if_pos rfl,z,rK T h0 h1 w]
     rfl
    ·rw[decide_eq_false z,if_neg (by decide)];have a:=tU (λv=>.int (upv m ts kvs v)) v0 v1;obtain⟨x,l,e⟩:=oh T h0 h1 w v0 v1 z;have e2:upv m ts kvs v=hlr m ts kvs v:=by rw[upv,hlr,e];rfl
     simp only[e2]at a;exact a
   have hx:=tU (λa=>tu (hd m ts a)) w0 w1;have s1:evS (wAt p (k+8)) (.set (.nm 7) (.ite (.cmp .eq (.var 6) (.var 1)) (.var 1) (.ix (.var 2) (.var 6)))) (SE8 m ts kvs r acc (some (.int v)) v7)=.nx (SE8 m ts kvs r acc (some (.int v)) (some (.int (hlr m ts kvs v)))):=by
    rw[zR,hv];rfl
   have az:(acc.map prD).length<SZ:=by rw[aJ];simp only[SZ];lia
   have s2:evS (wAt p (k+8)) (.app 5 (.tup (.cons (.var 6) (.cons (.var 7) .nil)))) (SE8 m ts kvs r acc (some (.int v)) (some (.int (hlr m ts kvs v))))=.nx ((SE8 m ts kvs r acc (some (.int v)) (some (.int (hlr m ts kvs v)))).set 5 (some (.lst ((acc++[(v,hlr m ts kvs v)]).map prD)))):=by
    rw[jZ (xs:=acc.map prD) (d:=prD (v,hlr m ts kvs v)) rfl rfl az,List.map_append];rfl
   have s3:evS (wAt p (k+8)) (.ext 4 (.ix (.var 3) (.var 7))) ((SE8 m ts kvs r acc (some (.int v)) (some (.int (hlr m ts kvs v)))).set 5 (some (.lst ((acc++[(v,hlr m ts kvs v)]).map prD))))=.nx (SE8 m ts kvs r (acc++[(v,hlr m ts kvs v)]) (some (.int v)) (some (.int (hlr m ts kvs v)))):=by
    have xe:evE (wAt p (k+8)) (.ix (.var 3) (.var 7)) ((SE8 m ts kvs r acc (some (.int v)) (some (.int (hlr m ts kvs v)))).set 5 (some (.lst ((acc++[(v,hlr m ts kvs v)]).map prD))))=.ok (tu (hd m ts (hlr m ts kvs v))):=hx;rw[zZ];show ((evE (wAt p (k+8)) (.ix (.var 3) (.var 7)) _).out _)=_;rw[xe];have hh:=rQ (ts:=ts) h8 (hlr m ts kvs v);show (if ((acc.flatMap λq=>hd m ts q.2).map D.int).length+((hd m ts (hlr m ts kvs v)).map D.int).length<SZ then EV.O.nx _ else EV.O.no)=_;rw[if_pos (by rw[aJ,aJ];simp only[SZ];lia),<-List.map_append];have e:(acc.flatMap λq=>hd m ts q.2)++hd m ts (hlr m ts kvs v)=(acc++[(v,hlr m ts kvs v)]).flatMap λq=>hd m ts q.2:=by rw[List.flatMap_append];simp
    rw[e]
    rfl
   refine zQ (σ:=SE8 m ts kvs r (acc++[(v,hlr m ts kvs v)]) (some (.int v)) (some (.int (hlr m ts kvs v)))) ?_ (eT ⟨vs,_,_,_,rfl,λy hy=>hvs y (aO _ hy),hst,by rw[bH];simp only[bg,List.length_nil];lia,rfl⟩);rw[zV,t1];show qc (wAt p (k+8)) (.cons _ (.cons _ (.cons _ .nil))) _=_;rw[qc,s1];show qc (wAt p (k+8)) (.cons _ (.cons _ .nil)) _=_;rw[qc,s2];show qc (wAt p (k+8)) (.cons _ .nil) _=_;rw[qc,s3]
   rfl
 ·rintro σ ⟨vs,acc,v6,v7,e,hvs,hst,hlen,rfl⟩;cases vs with
  |cons _ _=>cases e
  |nil=>
   have e:acc=stp m ts kvs (frf m kvs) []:=hst;refine ip (d:=.lst (acc.map prD)) rfl ?_;rw[e]
end
section
variable{m:Int}{ts:List (Int×Int)}{r:Int}
end
section
variable{p:Pr}(hH:p.fns "_law_hood" = some gn)(hf:p.fns "_law_ways" = some ua)
include hH hf
end
theorem BV{m r:Int}{ts kvs kv2:List (Int×Int)}(w:bO m ts r kvs)(w2:bO m ts r kv2):stp m ts kvs (frf m kvs) []=stp m ts kv2 (frf m kv2) []:=by
 have e:dv kvs=dv kv2:=funext λv=>rR w w2 v
 have e1:frf m kvs=frf m kv2:=by rw[frf,frf,e]
 have e2:hlr m ts kvs=hlr m ts kv2:=funext λv=>by rw[hlr,hlr,nrr,nrr,e]
 rw[e1];generalize frf m kv2=l;generalize ([]:List (Int×Int))=acc
 induction l generalizing acc with
 |nil=>rfl
 |cons v l ih=>rw[stp,stp,ih,e2]
section
variable{p:Pr}(hH:p.fns "_law_hood" = some gn)(hW:p.fns "_law_ways" = some ua)(hO:p.fns "_law_holders" = some ij)(hf:p.fns "_law_due" = some Bd){m:Int}{ts:List (Int×Int)}
include hH hO in
include hH hW hO hf
end
end KG
namespace KG
open EV
open PySem (Str)
open L2 (atI ixN ltP)
section
variable{m:Int}{ts:List (Int×Int)}
noncomputable def ap(m:Int)(ts:List (Int×Int))(s:List Int):Bool:=(rng m).all λa=>decide ((mk m ts s a).length<=1)
theorem t6{s:List Int}:un m ts s=[]↔∀a,0<=a->a<m->∃x∈s,x∈hd m ts a:=by
 rw[xZ,List.filter_eq_nil_iff];constructor
 ·intro h a h0 h1;have:=h a (bP.mpr ⟨h0,h1⟩);rw[nN]at this;exact eI λz=>this λx hx hd=>z ⟨x,hx,hd⟩
 ·intro h a ha z;obtain⟨x,hx,hd⟩:=h a (bP.mp ha).1 (bP.mp ha).2;exact nN.mp z x hx hd
theorem mem_mk{s:List Int}{a x:Int}:x∈mk m ts s a↔x∈s/\x∈hd m ts a:=by rw[mk,aX,DE]
theorem rh:∀{l:List Int},l.Pairwise (· < ·)->(l.length<=1↔∀x∈l,∀y∈l,x=y)
 | [],_=>by simp
 | [a],_=>by simp
 |a::b::r,h=>by
  constructor
  ·intro z;simp at z
  ·intro z;have e:=z a (by simp) b (by simp);have:=(List.pairwise_cons.mp h).1 b (by simp);lia
theorem jY{s:List Int}(g:GS m s):ap m ts s=true↔∀a,0<=a->a<m->∀x∈s,∀y∈s,x∈hd m ts a->y∈hd m ts a->x=y:=by
 rw[ap,b_];constructor
 ·intro h a h0 h1 x hx y hy ex ey;have:=h a (bP.mpr ⟨h0,h1⟩);rw[decide_eq_true_eq]at this;have this:=(rh (l:=mk m ts s a) (g.lt.sublist eJ)).mp this;exact this x (mem_mk.mpr ⟨hx,ex⟩) y (mem_mk.mpr ⟨hy,ey⟩)
 ·intro h a ha;rw[decide_eq_true_eq];refine(rh (l:=mk m ts s a) (g.lt.sublist eJ)).mpr ?_;intro x hx y hy;have x':=mem_mk.mp hx;have y':=mem_mk.mp hy;exact h a (bP.mp ha).1 (bP.mp ha).2 x x'.1 y y'.1 x'.2 y'.2
theorem rX{a x:Int}(ha:0<=a/\a<m)(h:x∈hd m ts a):a∈hd m ts x:=by
 rw[gX]at h ⊢;exact⟨ha,h.2.imp Eq.symm λe=>by rw[mC];exact e⟩
theorem uZ{s d:List Int}(gs:GS m s)(ha:ap m ts s=true)(gd:GS m d)(hu:un m ts d=[]):s.length<=d.length:=by
 rw[jY gs]at ha;rw[t6]at hu;have hf:∀x∈s,((mk m ts d x).head?).getD 0∈d/\((mk m ts d x).head?).getD 0∈hd m ts x:=by
  intro x hx;obtain⟨y,hy,ey⟩:=hu x (gs.ok x hx).1 (gs.ok x hx).2;have:y∈mk m ts d x:=mem_mk.mpr ⟨hy,ey⟩;cases q:mk m ts d x with
  |nil=>rw[q]at this;cases this
  |cons z r=>
   have hz:z∈mk m ts d x:=by rw[q];simp
   exact mem_mk.mp hz
 have nd:(s.map λx=>((mk m ts d x).head?).getD 0).Nodup:=by
  rw[List.Nodup,List.pairwise_map];refine gs.lt.imp_of_mem λ{x y} hx hy hlt e=>?_
  have h1:=hf x hx;have h2:=hf y hy;rw[<-e]at h2;have:=ha _ (gd.ok _ h1.1).1 (gd.ok _ h1.1).2 x hx y hy (rX (gs.ok x hx) h1.2) (rX (gs.ok y hy) h2.2);lia
 have sub:(s.map λx=>((mk m ts d x).head?).getD 0) ⊆ d:=λz hz=>by
  obtain⟨x,hx,rfl⟩:=aI.mp hz;exact(hf x hx).1
 simpa using List.Nodup.length_le_of_subset nd sub
noncomputable def fw(m:Int)(ts:List (Int×Int)):Int:=lsm (hl m ts)
noncomputable def al(m:Int)(ts:List (Int×Int)):List (List Int):=(zT (subs m.toNat)).filter (ap m ts)
noncomputable def ma(m:Int)(ts:List (Int×Int)):Int:=ls (al m ts)
theorem rf(h:GW m ts){s:List Int}(g:GS m s)(ha:ap m ts s=true):s∈al m ts:=by
 rw[al,aX];exact⟨r8 h.lo g,ha⟩
theorem CI(h:GW m ts){s:List Int}(hs:s∈al m ts):GS m s/\ap m ts s=true:=by
 rw[al,aX]at hs;obtain⟨n,_,rfl⟩:=kD h.lo h.hi hs.1;exact⟨kA h.hi n,hs.2⟩
theorem uc(h:GW m ts):al m ts≠[]:=λz=>by
 have:([]:List Int)∈al m ts:=rf h GS.none ((jY GS.none).mpr (by simp));rw[z]at this;cases this
theorem G9(h:GW m ts):∃d,GS m d/\un m ts d=[]/\(d.length:Int)=fw m ts:=by
 obtain⟨a,q,hL⟩:=lD h;obtain⟨t,r,e,ht⟩:=pU (L:=hl m ts) (by rw[hL];simp);have:t∈few (hl m ts):=by rw[e];exact aK
 rw[few,aX]at this;exact⟨t,wd h this.1,DB this.1,ht⟩
theorem Fz(h:GW m ts){d:List Int}(g:GS m d)(hu:un m ts d=[]):fw m ts<=d.length:=Df (xH h.lo g hu)
theorem vT(h:GW m ts):∃s,GS m s/\ap m ts s=true/\(s.length:Int)=ma m ts:=by
 obtain⟨t,r,e,ht⟩:=uz (uc h);have:t∈gr (al m ts):=by rw[e];exact aK
 rw[gr,aX]at this;obtain⟨g,a⟩:=CI h ht;exact⟨t,g,a,by rw[ma];simpa using this.2⟩
theorem AH(h:GW m ts){s:List Int}(g:GS m s)(ha:ap m ts s=true):(s.length:Int)<=ma m ts:=vI (rf h g ha)
theorem yB(h:GW m ts){s d:List Int}(gs:GS m s)(ha:ap m ts s=true)(gd:GS m d)(hu:un m ts d=[])(e:s.length=d.length):fw m ts=d.length/\ma m ts=d.length:=by
 obtain⟨d',g1,u1,e1⟩:=G9 h;obtain⟨s',g2,a2,e2⟩:=vT h;have:=Fz h gd hu;have:=AH h gs ha;have:=uZ gs ha g1 u1;have:=uZ g2 a2 gd hu;lia
theorem yD(h:GW m ts){a b:Int}:cC ts a b=true↔(a,b)∈ts\/(b,a)∈ts:=by
 constructor
 ·intro e;obtain⟨t,ht,e⟩:=Ae h e;rcases e with ⟨rfl,rfl⟩|⟨rfl,rfl⟩
  ·exact .inl ht
  ·exact .inr ht
 ·rintro(e|e)
  ·exact(og h e).1
  ·exact(og h e).2
theorem tY(h:GW m ts){a x:Int}:x∈hd m ts a↔(0<=x/\x<m)/\(x=a\/(a,x)∈ts\/(x,a)∈ts):=by
 rw[gX,yD h]
end
noncomputable def outer(n:Int):List Int:=(rng n).map (n + ·)
section
variable{n:Int}{ts tc:List (Int×Int)}(h:GW n ts)(hn:n<=4)(h':GW (2 * n) tc)(hm:∀t:Int×Int,t∈tc↔t∈ts\/(0<=t.1/\t.1<n/\t.2=n+t.1))
include h hn h' hm
end
noncomputable def join(n:Int)(s t:List Int):List Int:=s++t.map (n + ·)
section
variable{n k:Int}{ts us tb:List (Int×Int)}(h:GW n ts)(g:GW k us)(hb:GW (n+k) tb)(hm:∀t:Int×Int,t∈tb↔t∈ts\/(t.1-n,t.2-n)∈us)
include h g hb hm
end
end KG
namespace KG
open EV
open PySem (Str)
open L2 (atI ixN ltP atK cD dA)
section
variable{m:Int}{ts kvs:List (Int×Int)}{r:Int}(T:Tree m ts)(h0:0<=r)(h1:r<m)(w:bO m ts r kvs)
include T h0 h1 w
theorem gL{v:Int}(v0:0<=v)(v1:v<m)(hv:v≠r):hlr m ts kvs v∈hd m ts v/\dv kvs (hlr m ts kvs v)=dv kvs v-1:=by
 obtain⟨x,l,e⟩:=oh T h0 h1 w v0 v1 hv;have e2:hlr m ts kvs v=x:=by rw[hlr,e];rfl
 have hx:x∈nrr m ts kvs v:=by rw[e];exact aK
 rw[BC T h0 h1 w v0 v1,aX,decide_eq_true_eq]at hx;rw[e2];exact hx
theorem nc{v:Int}(v0:0<=v)(v1:v<m):hlr m ts kvs v∈hd m ts v:=by
 by_cases hv:v=r
 ·subst hv;rw[rK T h0 h1 w];exact gX.mpr ⟨⟨v0,v1⟩,.inl rfl⟩
 ·exact(gL T h0 h1 w v0 v1 hv).1
theorem l6{a b:Int}(a0:0<=a)(a1:a<m)(hb:b∈hd m ts a)(hne:b≠a):(b=hlr m ts kvs a/\a≠r)\/(a=hlr m ts kvs b/\b≠r):=by
 have G:=T.gw;obtain⟨⟨b0,b1⟩,hb⟩:=(tY G).mp hb;have sr:∀x y:Int,srt (x,y)=(x,y)\/srt (x,y)=(y,x):=λx y=>by rw[srt];split<;>simp
 have key:∀t∈ts,∃v,(0<=v/\v<m)/\v≠r/\srt (v,hlr m ts kvs v)=t:=by
  have nd:(((rng m).filter λv=>decide (v≠r)).map λv=>srt (v,hlr m ts kvs v)).Nodup:=by
   rw[List.Nodup,List.pairwise_map];refine((eM m).filter _).imp_of_mem λ{x y} hx hy lt e=>?_
   rw[aX,decide_eq_true_eq,bP]at hx hy;have ex:=(gL T h0 h1 w hx.1.1 hx.1.2 hx.2).2;have ey:=(gL T h0 h1 w hy.1.1 hy.1.2 hy.2).2;rcases sr x (hlr m ts kvs x)with p|p<;>rcases sr y (hlr m ts kvs y)with q|q<;>rw[p,q]at e<;>(injection e with e1 e2;first|lia|(rw[<-e1]at ey;rw[e2]at ex;lia)|(rw[<-e2]at ey;rw[e1]at ex;lia))
  have sub:(((rng m).filter λv=>decide (v≠r)).map λv=>srt (v,hlr m ts kvs v)) ⊆ ts:=λt ht=>by
   obtain⟨v,hv,rfl⟩:=aI.mp ht;rw[aX,decide_eq_true_eq,bP]at hv;obtain⟨u1,u2⟩:=gL T h0 h1 w hv.1.1 hv.1.2 hv.2;obtain⟨_,u3⟩:=(tY G).mp u1;rcases u3 with z|z|z
   ·rw[z]at u2;lia
   ·have:=(G.ok _ z).2.1;rw[srt,if_pos (by simp only at this ⊢;lia)];exact z
   ·have:=(G.ok _ z).2.1;rw[srt,if_neg (by simp only at this ⊢;lia)];exact z
  have ln:(((rng m).filter λv=>decide (v≠r)).map λv=>srt (v,hlr m ts kvs v)).length=ts.length:=by
   rw[aJ];have:(rng m).Perm (r::(rng m).filter λv=>decide (v≠r)):=by
    refine(List.perm_ext_iff_of_nodup ((eM m).imp λz=>by lia) (List.nodup_cons.mpr ⟨by simp,((eM m).imp λz=>by lia:(rng m).Nodup).filter _⟩)).mpr λx=>?_
    simp only[aF,aX,decide_eq_true_eq,bP];by_cases z:x=r
    ·subst z;simp[h0,h1]
    ·simp[z]
   have l:=this.length_eq;rw[zf,bg]at l;have:=T.len;lia
  intro t ht;refine eI λz=>?_
  have nm:t∉(((rng m).filter λv=>decide (v≠r)).map λv=>srt (v,hlr m ts kvs v)):=λq=>by
   obtain⟨v,hv,e⟩:=aI.mp q;rw[aX,decide_eq_true_eq,bP]at hv;exact z ⟨v,hv.1,hv.2,e⟩
  have:=List.Nodup.length_le_of_subset (List.nodup_cons.mpr ⟨nm,nd⟩) (List.cons_subset.mpr ⟨ht,sub⟩);rw[bg,ln]at this;lia
 have two:∀x y:Int,(x,y)∈ts->(y=hlr m ts kvs x/\x≠r)\/(x=hlr m ts kvs y/\y≠r):=λx y ht=>by
  obtain⟨v,_,hv,e⟩:=key _ ht;rcases sr v (hlr m ts kvs v)with p|p<;>rw[p]at e<;>injection e with e1 e2<;>subst e1<;>subst e2
  ·exact .inl ⟨rfl,hv⟩
  ·exact .inr ⟨rfl,hv⟩
 rcases hb with z|z|z
 ·exact absurd z hne
 ·exact two a b z
 ·exact(two b a z).symm
omit T h0 h1 w in
theorem pf{acc:List (Int×Int)}{v:Int}:(acc.flatMap λq=>hd m ts q.2).any (· == v)=true↔∃q∈acc,v∈hd m ts q.2:=by
 simp only[bS,List.mem_flatMap,beq_iff_eq];exact⟨λ⟨x,⟨q,hq,hx⟩,e⟩=>⟨q,hq,e▸hx⟩,λ⟨q,hq,hv⟩=>⟨v,⟨q,hq,hv⟩,rfl⟩⟩
structure Std(m:Int)(ts kvs acc:List (Int×Int)):Prop where
 ok:∀q∈acc,0<=q.1/\q.1<m/\q.2=hlr m ts kvs q.1
 pw:acc.Pairwise λp q=>dv kvs q.1<=dv kvs p.1/\q.1∉hd m ts p.2
theorem lA:∀(l:List Int) (acc:List (Int×Int)),(∀v∈l,0<=v/\v<m)->l.Pairwise (λa b=>dv kvs b<=dv kvs a)->(∀q∈acc,∀v∈l,dv kvs v<=dv kvs q.1)->Std m ts kvs acc ->
  Std m ts kvs (stp m ts kvs l acc)/\∀v,(v∈l\/∃q∈acc,v∈hd m ts q.2)->∃q∈stp m ts kvs l acc,v∈hd m ts q.2
 | [],acc,_,_,_,s=>⟨s,λv h=>h.elim (λz=>nomatch z) id⟩
 |u::l,acc,hl,hp,ha,s=>by
  obtain⟨hp1,hp2⟩:=List.pairwise_cons.mp hp;obtain⟨u0,u1⟩:=hl u aK;have hl':∀v∈l,0<=v/\v<m:=λv hv=>hl v (aO _ hv)
  rw[t9];cases q:(acc.flatMap λq=>hd m ts q.2).any (· == u)with
  |true=>
   rw[if_pos rfl];obtain⟨a,b⟩:=lA l acc hl' hp2 (λp hp v hv=>ha p hp v (aO _ hv)) s;refine⟨a,λv hv=>b v ?_⟩;rcases hv with z|z
   ·rcases aF.mp z with z|z
    ·subst z;exact .inr (pf.mp q)
    ·exact .inl z
   ·exact .inr z
  |false=>
   rw[if_neg (by decide)];have nh:∀p∈acc,u∉hd m ts p.2:=λp hp z=>by
    rw[pf.mpr ⟨p,hp,z⟩]at q;cases q
   obtain⟨a,b⟩:=lA l (acc++[(u,hlr m ts kvs u)]) hl' hp2 (λp hp v hv=>by
    rcases List.mem_append.mp hp with z|z
    ·exact ha p z v (aO _ hv)
    ·rw[List.mem_singleton]at z;subst z;exact hp1 v hv) ⟨λp hp=>by
     rcases List.mem_append.mp hp with z|z
     ·exact s.ok p z
     ·rw[List.mem_singleton]at z;subst z;exact⟨u0,u1,rfl⟩,by
     rw[List.pairwise_append];refine⟨s.pw,List.pairwise_singleton _ _,λp hp q hq=>?_⟩;rw[List.mem_singleton]at hq;subst hq;exact⟨ha p hp u aK,nh p hp⟩⟩
   refine⟨a,λv hv=>b v ?_⟩;rcases hv with z|⟨p,hp,z⟩
   ·rcases aF.mp z with z|z
    ·subst z;exact .inr ⟨_,b8 _ (List.mem_singleton_self _),fE ⟨u0,u1⟩ (nc T h0 h1 w u0 u1)⟩
    ·exact .inl z
   ·exact .inr ⟨p,List.mem_append_left _ hp,z⟩
theorem Hx:Std m ts kvs (stp m ts kvs (frf m kvs) [])/\∀v,0<=v->v<m->∃q∈stp m ts kvs (frf m kvs) [],v∈hd m ts q.2:=by
 have hp:(frf m kvs).Pairwise λa b=>dv kvs b<=dv kvs a:=by
  rw[frf,List.pairwise_flatMap];refine⟨λd _=>?_,?_⟩
  ·refine(List.pairwise_of_forall_mem_list (r:=λa b=>dv kvs b<=dv kvs a) λx hx y hy=>?_);rw[aX,decide_eq_true_eq]at hx hy;rw[hx.2,hy.2];exact Int.le_refl _
  ·rw[List.pairwise_reverse];refine(eM m).imp λ{a b} z x hx y hy=>?_
   rw[aX,decide_eq_true_eq]at hx hy;lia
 have nl:∀q:Int×Int,q∈([]:List (Int×Int))->False:=λq hq=>nomatch hq
 obtain⟨a,b⟩:=lA T h0 h1 w (frf m kvs) [] (λv hv=>ph hv) hp (λq hq=>(nl q hq).elim) ⟨λq hq=>(nl q hq).elim,List.Pairwise.nil⟩;refine⟨a,λv v0 v1=>b v (.inl ?_)⟩;obtain⟨d0,d1⟩:=kI T h0 h1 w v v0 v1;exact List.mem_flatMap.mpr ⟨dv kvs v,List.mem_reverse.mpr (bP.mpr ⟨d0,d1⟩),aX.mpr ⟨bP.mpr ⟨v0,v1⟩,decide_eq_true rfl⟩⟩
theorem Be{L:List (Int×Int)}(hL:L=stp m ts kvs (frf m kvs) []):GS m (sortI (L.map (·.2)))/\un m ts (sortI (L.map (·.2)))=[]/\GS m (sortI (L.map (·.1)))/\ap m ts (sortI (L.map (·.1)))=true/\(sortI (L.map (·.2))).length=L.length/\(sortI (L.map (·.1))).length=L.length:=by
 obtain⟨s,hh⟩:=Hx T h0 h1 w;rw[<-hL]at s hh;have h8:=T.gw.hi;have ll:L.length<=8:=by
  rw[hL];have l1:=oY (m:=m) (ts:=ts) (kvs:=kvs) (frf m kvs) [];have l2:=rT (kI T h0 h1 w);simp only[List.length_nil]at l1;lia
 have p1:=sortI_perm (L.map (·.1));have p2:=sortI_perm (L.map (·.2));have n1:(L.map (·.1)).Nodup:=by
  rw[List.Nodup,List.pairwise_map];refine s.pw.imp_of_mem λ{p q} hp hq z e=>z.2 ?_
  obtain⟨a0,a1,a2⟩:=s.ok p hp;rw[<-e,a2];exact fE ⟨a0,a1⟩ (nc T h0 h1 w a0 a1)
 have n2:(L.map (·.2)).Nodup:=by
  rw[List.Nodup,List.pairwise_map];refine s.pw.imp_of_mem λ{p q} hp hq z e=>z.2 ?_
  obtain⟨a0,a1,a2⟩:=s.ok q hq;rw[e,a2];exact fE ⟨a0,a1⟩ (nc T h0 h1 w a0 a1)
 have i1:∀x∈L.map (·.1),0<=x/\x<m:=λx hx=>by
  obtain⟨q,hq,rfl⟩:=aI.mp hx;exact⟨(s.ok q hq).1,(s.ok q hq).2.1⟩
 have i2:∀x∈L.map (·.2),0<=x/\x<m:=λx hx=>by
  obtain⟨q,hq,rfl⟩:=aI.mp hx;obtain⟨a0,a1,a2⟩:=s.ok q hq;rw[a2];exact nk a0 a1
 have g:∀l:List Int,l.Nodup->(∀x∈l,0<=x/\x<m)->l.length<=8->GS m (sortI l):=λl nd ok len=>⟨pZ nd,λi hi=>ok i ((sortI_perm l).mem_iff.mp hi),by rw[(sortI_perm l).length_eq];exact len⟩
 have G1:=g _ n1 i1 (by rw[aJ];exact ll);have G2:=g _ n2 i2 (by rw[aJ];exact ll);refine⟨G2,?_,G1,?_,by rw[p2.length_eq,aJ],by rw[p1.length_eq,aJ]⟩
 ·rw[t6];intro a a0 a1;obtain⟨q,hq,ha⟩:=hh a a0 a1;obtain⟨b0,b1⟩:=i2 q.2 (aI.mpr ⟨q,hq,rfl⟩);exact⟨q.2,p2.mem_iff.mpr (aI.mpr ⟨q,hq,rfl⟩),fE ⟨b0,b1⟩ ha⟩
 ·rw[jY G1];have key:∀p q:Int×Int,p∈L->q∈L->dv kvs q.1<=dv kvs p.1->q.1∉hd m ts p.2->∀a,0<=a->a<m->p.1∈hd m ts a->q.1∈hd m ts a->p.1=q.1:=by
   intro p q hp hq le nh a a0 a1 ep eq;obtain⟨x0,x1,x2⟩:=s.ok p hp;obtain⟨y0,y1,y2⟩:=s.ok q hq;refine eI λne=>?_
   rw[x2]at nh;by_cases za:p.1=a
   ·subst za;rcases l6 T h0 h1 w x0 x1 eq (Ne.symm ne)with ⟨z,_⟩|⟨z,zr⟩
    ·obtain⟨w0,w1⟩:=nk (ts:=ts) (kvs:=kvs) x0 x1;exact nh (by rw[z];exact gX.mpr ⟨⟨w0,w1⟩,.inl rfl⟩)
    ·have:=(gL T h0 h1 w y0 y1 zr).2;rw[<-z]at this;lia
   ·rcases l6 T h0 h1 w a0 a1 ep za with ⟨z,zr⟩|⟨z,zr⟩
    ·have d1:=(gL T h0 h1 w a0 a1 zr).2;rw[<-z]at d1;by_cases zb:q.1=a
     ·rw[zb]at le;lia
     ·rcases l6 T h0 h1 w a0 a1 eq zb with ⟨y,_⟩|⟨y,yr⟩
      ·exact ne (z.trans y.symm)
      ·have d2:=(gL T h0 h1 w y0 y1 yr).2;rw[<-y]at d2;lia
    ·exact nh (by rw[<-z];exact eq)
  intro a a0 a1 x hx y hy ex ey;obtain⟨p,hp,rfl⟩:=aI.mp (p1.mem_iff.mp hx);obtain⟨q,hq,rfl⟩:=aI.mp (p1.mem_iff.mp hy);refine eI λne=>?_
  have tot:∀{l:List (Int×Int)},l.Pairwise (λp q=>dv kvs q.1<=dv kvs p.1/\q.1∉hd m ts p.2)->p∈l->q∈l->p=q\/(dv kvs q.1<=dv kvs p.1/\q.1∉hd m ts p.2)\/(dv kvs p.1<=dv kvs q.1/\p.1∉hd m ts q.2):=by
   intro l pw
   induction pw with
   |nil=>intro h;cases h
   |cons h1 _ ih=>
    intro hp hq;rcases aF.mp hp with e|hp'<;>rcases aF.mp hq with f|hq'
    ·exact .inl (e.trans f.symm)
    ·rw[e];exact .inr (.inl (h1 _ hq'))
    ·rw[f];exact .inr (.inr (h1 _ hp'))
    ·exact ih hp' hq'
  rcases tot s.pw hp hq with e|⟨z1,z2⟩|⟨z1,z2⟩
  ·exact ne (by rw[e])
  ·exact ne (key p q hp hq z1 z2 a a0 a1 ex ey)
  ·exact ne (key q p hq hp z1 z2 a a0 a1 ey ex).symm
end
end KG
namespace KG
open EV
open PySem (Str)
open L2 (atI ixN ltP)
noncomputable def jo:Fn:=⟨3,3,false,(.cons (.exp (.call "need_web" (.cons (.var 0) .nil))) (.cons (.exp (.call "need_some" (.cons (.var 0) (.cons (.var 1) .nil)))) (.cons (.exp (.call "need_all" (.cons (.var 0) (.cons (.var 1) .nil)))) (.cons (.ret (.and (.call "is_some" (.cons (.var 0) (.cons (.var 2) .nil))) (.and (.cmp .eq (.bi .len (.cons (.var 2) .nil)) (.bi .len (.cons (.var 1) .nil))) (.call "is_apart" (.cons (.var 0) (.cons (.var 2) .nil)))))) .nil))))⟩
noncomputable def xR:Fn:=⟨1,3,false,(.cons (.exp (.call "need_web" (.cons (.var 0) .nil))) (.cons (.set (.tp [1,2]) (.var 0)) (.cons (.exp (.call "need_room" (.cons (.op .mul (.con (.int 2)) (.var 1)) .nil))) (.cons (.ret (.call "web_of" (.cons (.op .mul (.con (.int 2)) (.var 1)) (.cons (.op .add (.bi .list (.cons (.var 2) .nil)) (.comp (.rng (.var 1)) [none,none,some 1] (.nm 1) .yes (.tup (.cons (.var 1) (.cons (.op .add (.var 2) (.var 1)) .nil))))) .nil)))) .nil))))⟩
noncomputable def Gu:Fn:=⟨2,4,false,(.cons (.exp (.call "need_web" (.cons (.var 0) .nil))) (.cons (.exp (.call "need_web" (.cons (.var 1) .nil))) (.cons (.set (.nm 2) (.ix (.var 0) (.con (.int 0)))) (.cons (.set (.nm 3) (.op .add (.var 2) (.ix (.var 1) (.con (.int 0))))) (.cons (.exp (.call "need_room" (.cons (.var 3) .nil))) (.cons (.ret (.call "web_of" (.cons (.var 3) (.cons (.op .add (.bi .list (.cons (.ix (.var 0) (.con (.int 1))) .nil)) (.comp (.seq (.ix (.var 1) (.con (.int 1)))) [none,none,none,some 2] (.tp [1,2]) .yes (.tup (.cons (.op .add (.var 3) (.var 1)) (.cons (.op .add (.var 3) (.var 2)) .nil))))) .nil)))) .nil))))))⟩
noncomputable def xO:Fn:=⟨2,2,false,(.cons (.ret (.tup (.cons (.var 0) (.cons (.bi .tuple (.cons (.bi .sorted (.cons (.var 1) .nil)) .nil)) .nil)))) .nil)⟩
noncomputable def G':Fn:=⟨1,1,false,(.cons (.ite (.cmp .gt (.var 0) (.glb "MOST")) (.cons .unk .nil) .nil) .nil)⟩
structure Ap(p:Pr):Prop where
 is_apart:p.fns "is_apart" = some i8
 most_apart:p.fns "most_apart" = some i9
 first_apart:p.fns "first_apart" = some jK
 is_apart_by:p.fns "is_apart_by" = some kT
structure Mw(p:Pr):Prop where
 crowned:p.fns "crowned" = some xR
 beside:p.fns "beside" = some Gu
 web_of:p.fns "web_of" = some xO
 need_room:p.fns "need_room" = some G'
theorem le_int(a b:Int):qg .le (.int a) (.int b)=.ok (decide (a<=b)):=rfl
theorem is_apart_by{p:Pr}(A:Ap p){k:Nat}(l:List Int)(hl:l.length<=8)(f:Int->List Int):qa p (k+1) "is_apart_by" [.lst (l.map λa=>tu (f a))]=.ok (.bl (l.all λa=>decide ((f a).length<=1))):=by
 rw[qf A.is_apart_by];refine qu (τ:=[some (.lst (l.map λa=>tu (f a)))]) rfl rfl ?_;have hc:evE ⟨qa p k,p.glb,p.sub,p.cat⟩ (.comp (.seq (.var 0)) [none,none] (.nm 1) .yes (.cmp .le (.bi .len (.cons (.var 1) .nil)) (.con (.int 1)))) [some (.lst (l.map λa=>tu (f a)))]=.ok (.lst (l.map λa=>.bl (decide ((f a).length<=1)))):=by
  refine iQ (f:=λa=>tu (f a)) (c:=[]) (λa=>.bl (decide ((f a).length<=1))) (gA (by rw[qO];rfl)) (by simp[SZ];lia) rfl λa _=>?_
  have e1:=fA (f a);have e2:qg .le (.int ((f a).length:Int)) (.int 1)=.ok (decide ((f a).length<=1)):=by
   rw[le_int];congr 1;exact decide_eq_decide.mpr (by lia)
  generalize ((f a).length:Int)=Z at *;generalize tu (f a)=U at *;simp[KG.Z,e1,e2]
 have e3:=u6 l (λa=>decide ((f a).length<=1));show qc _ (.cons (.ret (.bi .all (.cons _ .nil))) .nil) _=_;rw[qc,zL,qr,zM,hc];simp only[R.bind_ok,zM,e3,R.out_ok]
theorem is_apart{p:Pr}(B:Web p)(O:Nbr p)(S:fm p)(A:Ap p){k:Nat}{m:Int}{ts:List (Int×Int)}(h:GW m ts){s:List Int}(g:GS m s):qa p (k+6) "is_apart" [wb m ts,tu s]=.ok (.bl (ap m ts s)):=by
 have h2:=h.hi;have e0:=hoods B O (k:=k) h;have e1:=need_web B (k:=k+1) h;have e2:=need_some B S (k:=k) (t:=.tup (ts.map prD)) g;have e3:=marks_of O (k:=k+3) (rng m) (hd m ts) s g.len (by rw[zf];lia);have e4:=is_apart_by A (k:=k+4) (rng m) (by rw[zf];lia) (λa=>s.filter λx=>(hd m ts a).any λt=>t==x);have e5:((rng m).all λa=>decide ((s.filter λx=>(hd m ts a).any λt=>t==x).length<=1))=ap m ts s:=rfl;rw[e5]at e4;generalize (D.tup ((rng m).map λa=>tu (hd m ts a)))=U at *;generalize (D.lst ((rng m).map λa=>tu (s.filter λx=>(hd m ts a).any λt=>t==x)))=W at *;rw[qf A.is_apart];refine qu rfl rfl ?_;simp[KG.Z,KG.i8,e0,e1,e2,e3,e4]
theorem first_apart{p:Pr}(B:Web p)(O:Nbr p)(A:Ap p)(ha:p.fns "all_some" = some fD){k:Nat}{m:Int}{ts:List (Int×Int)}(h:GW m ts){s:List Int}{r:List (List Int)}(e:gr (al m ts)=s::r):qa p (k+6) "first_apart" [wb m ts]=.ok (tu s):=by
 have h1:=h.lo;have h2:=h.hi;have e0:=hoods B O (k:=k) h;have e1:=need_web B (k:=k+1) h;rw[qf A.first_apart];refine qu (τ:=[some (wb m ts),none,none]) rfl rfl ?_;have hc:evE ⟨qa p (k+5),p.glb,p.sub,p.cat⟩ (.comp (.seq (.call "all_some" (.cons (.var 0) .nil))) [none,none,some 1] (.nm 1) (.val (.call "is_apart_by" (.cons (.call "marks_of" (.cons (.var 2) (.cons (.var 1) .nil))) .nil))) (.var 1)) [some (wb m ts),some (.tup ((rng m).map λa=>tu (hd m ts a))),none]=.ok (.lst ((al m ts).map tu)):=by
  refine jH (f:=tu) (c:=[some (.tup ((rng m).map λa=>tu (hd m ts a)))]) (ap m ts) tu (gA ?_) ?_ rfl ?_
  ·simp[KG.Z,lB ha (k:=k+4) (t:=.tup (ts.map prD)) h1 h2]
  ·have:=sub_len h2;simp[SZ];lia
  ·intro s hs;obtain⟨n,hn,rfl⟩:=kD h1 h2 hs;refine⟨?_,λ_=>rfl⟩;have e3:=marks_of O (k:=k+3) (rng m) (hd m ts) (bs m n) (kA h2 n).len (by rw[zf];lia);have e4:=is_apart_by A (k:=k+4) (rng m) (by rw[zf];lia) (λa=>(bs m n).filter λx=>(hd m ts a).any λt=>t==x);have e5:((rng m).all λa=>decide (((bs m n).filter λx=>(hd m ts a).any λt=>t==x).length<=1))=ap m ts (bs m n):=rfl;rw[e5]at e4;have a1:evE ⟨qa p (k+5),p.glb,p.sub,p.cat⟩ (.call "marks_of" (.cons (.var 2) (.cons (.var 1) .nil))) [none,some (tu (bs m n)),some (.tup ((rng m).map λa=>tu (hd m ts a)))]=.ok (.lst ((rng m).map λa=>tu ((bs m n).filter λx=>(hd m ts a).any λt=>t==x))):=by
    rw[qx];show qa p (k+5) "marks_of" [.tup ((rng m).map λa=>tu (hd m ts a)),tu (bs m n)]=_;exact e3
   rw[fI,qx,zM,a1];simp only[R.bind_ok,zM];show ((qa p (k+5) "is_apart_by" [.lst ((rng m).map λa=>tu ((bs m n).filter λx=>(hd m ts a).any λt=>t==x))]).bind _)=_;rw[e4];rfl
 show qc _ (.cons (.exp _) (.cons (.set (.nm 1) _) (.cons (.set (.nm 2) _) (.cons (.ret (.mxk true (.var 2))) .nil)))) _=_;refine zz (σ:=[some (wb m ts),none,none]) (by simp[KG.Z,e1]) ?_;refine zz (σ:=[some (wb m ts),some (.tup ((rng m).map λa=>tu (hd m ts a))),none]) (by simp[KG.Z,e0]) ?_;refine zz (σ:=[some (wb m ts),some (.tup ((rng m).map λa=>tu (hd m ts a))),some (.lst ((al m ts).map tu))]) (by rw[zR,hc];rfl) ?_;have e2:=xS e;rw[qc,zL,qN,qO];simp only[zD,List.getElem?_cons_succ,List.getElem?_cons_zero,R.bind_ok];rw[e2];rfl
theorem most_apart{p:Pr}(B:Web p)(O:Nbr p)(A:Ap p)(ha:p.fns "all_some" = some fD){k:Nat}{m:Int}{ts:List (Int×Int)}(h:GW m ts){s:List Int}{r:List (List Int)}(e:gr (al m ts)=s::r):qa p (k+7) "most_apart" [wb m ts]=.ok (.int s.length):=by
 rw[qf A.most_apart];refine qu rfl rfl ?_;simp[KG.Z,KG.i9,first_apart B O A ha (k:=k) h e,fA]
theorem xP{p:Pr}(B:Web p)(O:Nbr p)(S:fm p)(U:Un p)(A:Ap p)(hA:p.fns "need_all" = some gY)(hf:p.fns "is_paper" = some jo){k:Nat}{m:Int}{ts:List (Int×Int)}(h:GW m ts){s t:List Int}(g:GS m s)(g':GS m t)(hu:un m ts s=[])(ha:ap m ts t=true)(hl:t.length=s.length):qa p (k+8) "is_paper" [wb m ts,tu s,tu t]=.ok (.bl true):=by
 have z1:=need_web B (k:=k+3) h;have z2:qa p (k+7) "need_some" [wb m ts,tu s]=.ok .non:=need_some B S (k:=k+2) (t:=.tup (ts.map prD)) g;have z3:=Dv B O S U hA (k:=k) h g hu;have z4:qa p (k+7) "is_some" [wb m ts,tu t]=.ok (.bl true):=KG.is_some B S (k:=k+3) (t:=.tup (ts.map prD)) g';have z5:=is_apart B O S A (k:=k+1) h g';rw[ha]at z5;have z6:=fA s;have z7:=fA t;rw[hl]at z7;have z8:=eq_int (s.length:Int) (s.length:Int);generalize wb m ts=WB at *;generalize tu s=TS at *;generalize tu t=TT at *;generalize (s.length:Int)=N at *;rw[qf hf];refine qu rfl rfl ?_;simp[KG.Z,jo,z1,z2,z3,z4,z5,z6,z7,z8]
section
variable{p:Pr}(B:Web p)(M:Mw p)
include B M
end
end KG
namespace K42
open EV KG
open PySem (Str)
open L2 (atI ixN ltP atK)
noncomputable def depth:Nat:=12
theorem B:Web p:=⟨by kernel_rfl,by kernel_rfl,by kernel_rfl,by kernel_rfl,by kernel_rfl,by kernel_rfl,by kernel_rfl,by kernel_rfl⟩
theorem O:Nbr p:=⟨by kernel_rfl,by kernel_rfl,by kernel_rfl,by kernel_rfl,by kernel_rfl⟩
theorem S:fm p:=⟨by kernel_rfl,by kernel_rfl,by kernel_rfl⟩
theorem U:Un p:=⟨by kernel_rfl,by kernel_rfl⟩
theorem F:Fw p:=⟨by kernel_rfl,by kernel_rfl,by kernel_rfl,by kernel_rfl,by kernel_rfl⟩
theorem A:Ap p:=⟨by kernel_rfl,by kernel_rfl,by kernel_rfl,by kernel_rfl⟩
theorem H:Lh p:=⟨by kernel_rfl,by kernel_rfl⟩
theorem P:Trs p true:=⟨⟨B,⟨by kernel_rfl,by kernel_rfl,by kernel_rfl⟩,by kernel_rfl,by kernel_rfl,by kernel_rfl,by kernel_rfl,by kernel_rfl,by kernel_rfl,by kernel_rfl⟩,by kernel_rfl,by kernel_rfl⟩
theorem hSp:p.fns "steps" = some KG.kM:=by kernel_rfl
theorem hNA:p.fns "need_all" = some KG.gY:=by kernel_rfl
theorem hIP:p.fns "is_paper" = some KG.jo:=by kernel_rfl
theorem hUH:p.fns "_law_unheld" = some KG.hV:=by kernel_rfl
theorem hTB:p.fns "_law_tree_by" = some KG.kJ:=by kernel_rfl
theorem hSt:p.fns "_law_stir" = some KG.zU:=by kernel_rfl
theorem hSm:p.fns "_law_same" = some KG.gH:=by kernel_rfl
abbrev li(s:List Int):D:=.lst (s.map D.int)
theorem CT{w:W}{it:EV.It}{cap:List (Option Nat)}{e:EV.E}{τ:Env}{l:List (Int×Int)}(g:Int×Int->Int)(he:∀q:Int×Int,evE w e [none,some (.int q.1),some (.int q.2)]=.ok (.int (g q)))(h:evI w it τ=.ok (l.map prD))(hz:l.length<=SZ)(hc:ez cap τ=[none,none,none]):evE w (.comp it cap (.tp [1,2]) .yes e) τ=.ok (li (l.map g)):=by
 have key:∀(r:List (Int×Int)) (v v':Option D) (acc:List D),zG (λx σ=>noEx ((store (.tp [1,2]) x σ).bind λσ'=>(evT w .yes σ').bind λr=>if r then (evE w e σ').bind λd=>.ok (σ',[d])else .ok (σ',[]))) (r.map prD) [none,v,v'] acc=.ok (acc++(r.map g).map D.int):=by
  intro r
  induction r with
  |nil=>intro v v' acc;simp[zG]
  |cons x r ih=>
   intro v v' acc;rw[aR,zG];show ((noEx ((evE w e [none,some (.int x.1),some (.int x.2)]).bind λd=>.ok (([none,some (.int x.1),some (.int x.2)]:Env),[d]))).bind λr'=>zG _ (r.map prD) r'.1 (acc++r'.2))=_;rw[he x];show zG _ (r.map prD) [none,some (.int x.1),some (.int x.2)] (acc++[.int (g x)])=_;rw[ih];simp
 rw[qt,h];simp only[R.bind_ok];rw[if_neg (by simp;lia),hc,key l none none []]
 rfl
theorem Dc{ns:List Int}(h:ns.length<64):b1 .sorted [li ns]=.ok (li (sortI ns)):=by
 rw[jP,if_pos (by simpa using h),ints_map]
abbrev SX(n i:Nat):EV.E:=.bi .sorted (.cons (.comp (.seq (.var n)) [none,none,none] (.tp [1,2]) .yes (.var i)) .nil)
theorem kq{w:W}{τ:Env}{L:List (Int×Int)}(hz:L.length<=8){n i:Nat}{g:Int×Int->Int}(he:∀q:Int×Int,evE w (.var i) [none,some (.int q.1),some (.int q.2)]=.ok (.int (g q)))(hn:τ[n]? = some (some (.lst (L.map prD)))):evE w (SX n i) τ=.ok (li (sortI (L.map g))):=by
 have c:=CT (w:=w) (it:=.seq (.var n)) (cap:=[none,none,none]) (e:=.var i) (τ:=τ) (l:=L) g he (gA (by rw[qO,zD,hn])) (by simp only[SZ];lia) rfl;have s:=Dc (ns:=L.map g) (by rw[aJ];lia);show evE w (.bi .sorted (.cons _ .nil)) τ=_;rw[qr,zM,c];simp only[R.bind_ok,zM,s]
theorem j9(xs:List Int):b1 .tuple [li xs]=.ok (tu xs):=rfl
theorem vU{k:Nat}{WB:D}{r:Int}{L:List (Int×Int)}(hz:L.length<=8)(es:qa p k "steps" [WB,.int r]=.ok (.lst (L.map prD))):qa p (k+1) "tree_pair" [WB,.int r]=.ok (.tup [tu (sortI (L.map (·.2))),tu (sortI (L.map (·.1)))]):=by
 rw[qf Hv];refine qu (τ:=[some WB,some (.int r),none,none,none]) rfl rfl ?_;refine zz (σ:=[some WB,some (.int r),some (.lst (L.map prD)),none,none]) (by
  generalize D.lst (L.map prD)=LL at *;simp[KG.Z,es]) ?_
 refine zz (σ:=[some WB,some (.int r),some (.lst (L.map prD)),some (li (sortI (L.map (·.2)))),none]) (by
  rw[zR,kq hz (g:=(·.2)) (λq=>rfl) rfl];rfl) ?_
 refine zz (σ:=[some WB,some (.int r),some (.lst (L.map prD)),some (li (sortI (L.map (·.2)))),some (li (sortI (L.map (·.1))))]) (by
  rw[zR,kq hz (g:=(·.1)) (λq=>rfl) rfl];rfl) ?_
 have t1:=j9 (sortI (L.map (·.2)));have t2:=j9 (sortI (L.map (·.1)));generalize D.lst (L.map prD)=LL at *;generalize li (sortI (L.map (·.2)))=X at *;generalize li (sortI (L.map (·.1)))=Y at *;generalize tu (sortI (L.map (·.2)))=X1 at *;generalize tu (sortI (L.map (·.1)))=Y1 at *;simp[KG.Z,t1,t2,zk]
theorem nv{α:Type} [DecidableEq α]:∀{l:List α},l.Nodup->(uq l).length=l.length
 | [],_=>rfl
 |a::l,h=>by
  rw[List.nodup_cons]at h;rw[uq,if_neg h.1,bg,bg,nv h.2]
theorem wx{xs:List Int}(hz:xs.length<64)(h:xs.Nodup):gC true (li xs)=.ok (.int (xs.length:Int)):=by
 simp only[gC,seq?,bX];rw[if_pos (by simp;lia),ints_map];show R.ok (D.int ((uq xs).length:Nat))=_;rw[nv h]
theorem Co{xs:List Int}(hz:xs.length<64)(h:xs.Nodup):gC true (tu xs)=.ok (.int (xs.length:Int)):=by
 simp only[gC,seq?,bX];rw[if_pos (by simp;lia),ints_map];show R.ok (D.int ((uq xs).length:Nat))=_;rw[nv h]
theorem Fo(s:List Int):b1 .len [li s]=.ok (.int s.length):=by
 show R.ok (D.int ((s.map D.int).length:Nat))=_;rw[aJ]
theorem Hk{m:Int}{ts:List (Int×Int)}:∀{s:List Int},GS m s->ap m ts s=true->(s.flatMap (hd m ts)).Nodup:=by
 intro s g ha;rw[jY g]at ha;rw[List.Nodup,List.pairwise_flatMap];refine⟨λa _=>((eM m).filter _).imp λz=>by lia,g.lt.imp_of_mem λ{a b} hA hB lt x hx y hy e=>?_⟩;subst e;obtain⟨x0,x1⟩:=ff hx;have:=ha x x0 x1 a hA b hB (fE (g.ok a hA) hx) (fE (g.ok b hB) hy);lia
theorem xb{k:Nat}{m:Int}{ts:List (Int×Int)}(h:GW m ts){s:List Int}(g:GS m s)(ha:ap m ts s=true):qa p (k+2) "_law_clear" [wb m ts,tu s]=.ok (.bl true):=by
 have nd:=Hk g ha;have ln:(s.flatMap (hd m ts)).length<=8:=by
  have:=List.Nodup.length_le_of_subset nd (l₂:=rng m) λx hx=>by
   obtain⟨a,_,hx⟩:=List.mem_flatMap.mp hx;exact bP.mpr (ff hx)
  rw[zf]at this;have:=h.hi;lia
 rw[qf xF];refine qu (τ:=[some (wb m ts),some (tu s),none,none]) rfl rfl ?_;refine zz (σ:=[some (wb m ts),some (tu s),some (li []),none]) rfl ?_;refine lP (ds:=s.map D.int) (λl σ=>∃(us acc:List Int) (v:Option D),l=us.map D.int/\(∀a∈us,0<=a/\a<m)/\acc++us.flatMap (hd m ts)=s.flatMap (hd m ts)/\σ=[some (wb m ts),some (tu s),some (li acc),v]) rfl ⟨s,[],none,rfl,g.ok,rfl,rfl⟩ ?_ ?_
 ·rintro x l σ ⟨us,acc,v,e,hus,hac,rfl⟩;obtain⟨a,us,rfl,rfl,rfl⟩:=fx e;have eh:=uN H._law_hood (k:=k) h (hus a aK);rw[cw,<-bA]at hac;have ll:acc.length+(hd m ts a).length<=8:=by
   rw[<-hac,bH,bH]at ln;lia
  have ea:op2 .add (li acc) (li (hd m ts a))=.ok (li (acc++hd m ts a)):=by
   rw[op2,if_pos ⟨rfl,by rw[aJ,aJ];simp only[SZ];lia⟩,li,List.map_append]
  have el:b1 .list [tu (hd m ts a)]=.ok (li (hd m ts a)):=rfl;refine⟨[some (wb m ts),some (tu s),some (li acc),some (.int a)],[some (wb m ts),some (tu s),some (li (acc++hd m ts a)),some (.int a)],rfl,?_,us,_,_,rfl,λy hy=>hus y (aO _ hy),hac,rfl⟩;generalize li (acc++hd m ts a)=LN at *;generalize li (hd m ts a)=LH at *;generalize tu (hd m ts a)=TH at *;generalize li acc=LA at *;generalize wb m ts=WB at *;generalize tu s=TS at *;simp[KG.Z,eh,ea,el]
 ·rintro σ ⟨us,acc,v,e,hus,hac,rfl⟩;cases us with
  |cons _ _=>cases e
  |nil=>
   rw[List.flatMap_nil,cQ]at hac;rw[<-hac]at nd ln;have e1:=Fo acc;have e2:=wx (xs:=acc) (by lia) nd;have e3:=eq_int (acc.length:Int) (acc.length:Int);rw[decide_eq_true rfl]at e3;generalize (acc.length:Int)=N at *;generalize li acc=LA at *;have x2:evE (wAt p (k+1)) (.sset true (.var 2)) [some (wb m ts),some (tu s),some LA,v]=.ok (.int N):=by
    rw[qB];exact e2
   generalize EV.E.sset true (.var 2)=SS at *;generalize wb m ts=WB at *;generalize tu s=TS at *;simp[KG.Z,e1,x2,e3]
theorem As{k:Nat}{m:Int}{ts:List (Int×Int)}{s:List Int}(e1:qa p k "first_apart" [wb m ts]=.ok (tu s))(e2:qa p k "fewest" [wb m ts]=.ok (.int s.length)):qa p (k+1) "paper_for" [wb m ts]=.ok (tu s):=by
 have e3:=fA s;have e4:=eq_int (s.length:Int) (s.length:Int);rw[decide_eq_true rfl]at e4;generalize (s.length:Int)=N at *;generalize wb m ts=WB at *;generalize tu s=TS at *;rw[qf wW];refine qu rfl rfl ?_;simp[KG.Z,nL,qy,e1,e2,e3,e4]
theorem uw{k:Nat}{m:Int}{ts:List (Int×Int)}(h:GW m ts){s t:List Int}(gs:GS m s)(us:un m ts s=[])(gt:GS m t)(at_:ap m ts t=true)(e:t.length=s.length):qa p (k+9) "fewest" [wb m ts]=.ok (.int s.length)/\qa p (k+9) "most_apart" [wb m ts]=.ok (.int s.length)/\∃u:List Int,qa p (k+10) "paper_for" [wb m ts]=.ok (tu u):=by
 obtain⟨f,q⟩:=KG.yB h gt at_ gs us e;obtain⟨a,r,e1,ha⟩:=uz (uc h);have hal:(a.length:Int)=ma m ts:=by
  have:a∈gr (al m ts):=by rw[e1];exact aK
  rw[gr,aX]at this;rw[ma];simpa using this.2
 obtain⟨_,_,hL⟩:=lD h;obtain⟨b,r',e2,hb⟩:=pU (L:=hl m ts) (by rw[hL];simp);have hb:(b.length:Int)=fw m ts:=hb;have q1:=fewest B O F (k:=k) h e2;have q2:=most_apart B O A F.all_some (k:=k+2) h e1;have q3:=first_apart B O A F.all_some (k:=k+3) h e1;rw[hb,f]at q1;rw[hal,q]at q2;refine⟨q1,q2,a,As q3 ?_⟩;rw[hal,q];exact q1
abbrev RS(m:Int)(ts:List (Int×Int))(r:Int)(v2 v3 v4 v5:Option D):Env:=[some (wb m ts),some (.int r),v2,v3,v4,v5]
theorem tQ{k:Nat}{m:Int}{ts:List (Int×Int)}(T:Tree m ts){r:Int}(h0:0<=r)(h1:r<m):qa p (k+11) "_law_right" [wb m ts,.int r]=.ok (.bl true)/\∃u:List Int,qa p (k+11) "paper_for" [wb m ts]=.ok (tu u):=by
 have h:=T.gw;obtain⟨kvs,w,es⟩:=pO P hSp T (k:=k) h0 h1;obtain⟨kv2,w2,es2⟩:=pO P hSp T (k:=k+1) h0 h1;rw[BV w2 w]at es2;obtain⟨L,hL⟩:∃L,L=stp m ts kvs (frf m kvs) []:=⟨_,rfl⟩
 rw[<-hL]at es es2;obtain⟨g1,u1,g2,a2,l1,l2⟩:=Be T h0 h1 w hL;have hz:L.length<=8:=by rw[<-l1];exact g1.len
 obtain⟨f1,f2,_⟩:=uw (k:=k+1) h g1 u1 g2 a2 (by rw[l1,l2]);obtain⟨_,_,f3⟩:=uw (k:=k+1) h g1 u1 g2 a2 (by rw[l1,l2]);refine⟨?_,f3⟩;have e1:=vU (k:=k+9) (WB:=wb m ts) (r:=r) hz es;have n1:(sortI (L.map (·.2))).Nodup:=g1.lt.imp λz=>by lia
 have p1:=xP B O S U A hNA hIP (k:=k+2) h g1 g2 u1 a2 (by rw[l1,l2]);have c1:=xb (k:=k+8) h g2 a2;have m1:=same_ints hSm (k:=k+8) (sortI (L.map (·.2)));have m2:=same_ints hSm (k:=k+8) (sortI (L.map (·.1)));have d1:=Fd H hUH (k:=k+7) h g1;rw[u1]at d1;have s1:=Co (xs:=sortI (L.map (·.2))) (by rw[l1];lia) n1;have k1:=fA (sortI (L.map (·.2)));have k2:=fA (sortI (L.map (·.1)));rw[l1]at k1 s1 f1 f2;rw[l2]at k2;have cn:=ne_int (L.length:Int) (L.length:Int);have ce:=eq_int (L.length:Int) (L.length:Int);rw[decide_eq_true rfl]at ce;rw[decide_eq_true rfl]at cn;generalize (L.length:Int)=N at *;have x2:∀τ:Env,τ[5]? = some (some (.lst (L.map prD)))->evE (wAt p (k+10)) (SX 5 2) τ=.ok (li (sortI (L.map (·.2)))):=λτ hτ=>kq hz (g:=(·.2)) (λq=>rfl) hτ
 have x1:∀τ:Env,τ[5]? = some (some (.lst (L.map prD)))->evE (wAt p (k+10)) (SX 5 1) τ=.ok (li (sortI (L.map (·.1)))):=λτ hτ=>kq hz (g:=(·.1)) (λq=>rfl) hτ
 have t2:=j9 (sortI (L.map (·.2)));have t1:=j9 (sortI (L.map (·.1)));rw[qf Dr];refine qu (τ:=RS m ts r none none none none) rfl rfl ?_;generalize hT2:tu (sortI (L.map (·.2)))=TS at *;generalize hT1:tu (sortI (L.map (·.1)))=TQ at *;generalize hY2:li (sortI (L.map (·.2)))=LS at *;generalize hY1:li (sortI (L.map (·.1)))=LQ at *;generalize hLL:D.lst (L.map prD)=LL at *;have i1:eu (wAt p (k+10)) (.tup [TS,TQ]) (.ty "tuple")=.ok (.bl true):=rfl;have i2:b1 .len [.tup [TS,TQ]]=.ok (.int 2):=rfl;have i3:=ne_int 2 2;refine zz (σ:=RS m ts r (some (.tup [TS,TQ])) none none none) (by
  dsimp only[RS];generalize wb m ts=WB at *;simp[KG.Z,e1]) ?_
 refine zz (σ:=RS m ts r (some (.tup [TS,TQ])) none none none) (by
  dsimp only[RS];generalize wb m ts=WB at *;generalize D.tup [TS,TQ]=TT at *;simp[KG.Z,i1,i2,i3]) ?_
 refine zz (σ:=RS m ts r (some (.tup [TS,TQ])) (some TS) (some TQ) none) rfl ?_;refine zz (σ:=RS m ts r (some (.tup [TS,TQ])) (some TS) (some TQ) (some LL)) (by
  dsimp only[RS];generalize wb m ts=WB at *;generalize D.tup [TS,TQ]=TT at *;simp[KG.Z,es2]) ?_
 have y2:=x2 (RS m ts r (some (.tup [TS,TQ])) (some TS) (some TQ) (some LL)) rfl;have y1:=x1 (RS m ts r (some (.tup [TS,TQ])) (some TS) (some TQ) (some LL)) rfl;have z3:evE (wAt p (k+10)) (.sset true (.var 3)) (RS m ts r (some (.tup [TS,TQ])) (some TS) (some TQ) (some LL))=.ok (.int N):=by
  rw[qB];exact s1
 dsimp only[RS,SX]at y1 y2 z3 ⊢;generalize D.tup [TS,TQ]=TT at *;refine zz (σ:=[some (wb m ts),some (.int r),some TT,some TS,some TQ,some LL]) (by
  generalize EV.E.bi .sorted (.cons (.comp (.seq (.var 5)) [none,none,none] (.tp [1,2]) .yes (.var 2)) .nil)=E2 at *;generalize wb m ts=WB at *;simp[KG.Z,y2,t2,m1]) ?_
 refine zz (σ:=[some (wb m ts),some (.int r),some TT,some TS,some TQ,some LL]) (by
  generalize EV.E.bi .sorted (.cons (.comp (.seq (.var 5)) [none,none,none] (.tp [1,2]) .yes (.var 1)) .nil)=E1 at *;generalize EV.E.sset true (.var 3)=E3 at *;generalize wb m ts=WB at *;simp[KG.Z,y1,t1,m2,z3,k1,cn]) ?_
 have j1:qg .ne (tu []) (.tup [])=.ok false:=rfl;have j2:qg .isnot (.bl true) (.bl true)=.ok false:=rfl;refine zz (σ:=[some (wb m ts),some (.int r),some TT,some TS,some TQ,some LL]) (by
  generalize wb m ts=WB at *;simp[KG.Z,d1,c1,p1,j1,j2]) ?_
 generalize wb m ts=WB at *;simp[KG.Z,k1,k2,f1,f2,ce]
abbrev LS(ns:List Int)(v1 v2 v3:Option D):Env:=[some (.lst (ns.map D.int)),v1,v2,v3]
theorem xU{w:W}(ns:List Int)(hn:ns.length<=63)
  (ht:∀m c:Int,1<=m->m<=8->∃ts,Tree m ts/\w.call "_law_tree_by" [.int m,.int c]=.ok (wb m ts))
  (hr:∀m ts (r:Int),Tree m ts->0<=r->r<m->w.call "_law_right" [wb m ts,.int r]=.ok (.bl true))
  (hp:∀m ts,Tree m ts->∃u:List Int,w.call "paper_for" [wb m ts]=.ok (tu u)) :
  Ends (λ_=>False) (λd=>d=.bl true) (qc w gB.body (LS ns none none none)):=by
 obtain⟨cs,hcs,hcl⟩:=DY ns none (some 4);refine gM (ds:=(cs++[0,3,129]).map D.int) (λr σ=>∃(ms:List Int) (v1 v2 v3:Option D),r=ms.map D.int/\σ=LS ns v1 v2 v3) ?_ ⟨_,none,none,none,rfl,rfl⟩ ?_ ?_
 ·have e:op2 .add (.lst (cs.map D.int)) (.lst [.int 0,.int 3,.int 129])=.ok (.lst ((cs++[0,3,129]).map D.int)):=by
   rw[op2,if_pos (by simp[SZ];lia)];simp
  simp[KG.Z,slD,hcs,e,seq?]
 ·rintro x t σ ⟨ms,v1,v2,v3,e,rfl⟩;obtain⟨c,ms,rfl,rfl,rfl⟩:=fx e;have m1:1<=1+c/64%8:=by lia
  have m2:1+c/64%8<=8:=by lia
  obtain⟨ts,T,et⟩:=ht (1+c/64%8) (c/512) m1 m2;refine⟨LS ns (some (.int c)) v2 v3,rfl,?_⟩;refine zQ (σ:=LS ns (some (.int c)) (some (.int (1+c/64%8))) v3) (by simp[KG.Z,op2]) ?_;generalize hM:1+c/64%8=M at *;have zd:op2 .fdiv (.int c) (.int 512)=.ok (.int (c/512)):=rfl;refine zQ (σ:=LS ns (some (.int c)) (some (.int M)) (some (wb M ts))) (by
   generalize wb M ts=WT at *;generalize c/512=C1 at *;simp[KG.Z,zd,et]) ?_
  have hm:zo M=true:=by simp[zo];lia
  obtain⟨u,hu⟩:=hp M ts T;have hc:evE w (.comp (.rng (.var 2)) [none,none,some 3] (.nm 1) .yes (.call "_law_right" (.cons (.var 2) (.cons (.var 1) .nil)))) (LS ns (some (.int c)) (some (.int M)) (some (wb M ts)))=.ok (.lst ((rng M).map λ_=>D.bl true)):=by
   refine iQ (f:=D.int) (l:=rng M) (c:=[some (wb M ts)]) (λ_=>D.bl true) ?_ ?_ rfl λr hr'=>?_
   ·rw[<-zS];dsimp only[LS];generalize wb M ts=WT at *;simp[KG.Z,hm]
   ·rw[zf];simp only[SZ];lia
   ·obtain⟨r0,r1⟩:=bP.mp hr';have er:=hr M ts r T r0 r1;generalize wb M ts=WT at *;simp[KG.Z,er]
  have ha:=u6 (rng M) (λ_=>true);have hT:(rng M).all (λ_=>true)=true:=by simp
  rw[hT]at ha;have hi:qg .is (tu u) .non=.ok false:=rfl;refine zQ (σ:=LS ns (some (.int c)) (some (.int M)) (some (wb M ts))) ?_ (eT ⟨ms,_,_,_,rfl,rfl⟩);dsimp only[LS]at hc ⊢;generalize EV.E.comp (.rng (.var 2)) [none,none,some 3] (.nm 1) .yes (.call "_law_right" (.cons (.var 2) (.cons (.var 1) .nil)))=CE at *;generalize D.lst ((rng M).map λ_=>D.bl true)=CL at *;generalize wb M ts=WT at *;generalize tu u=TU at *;simp[KG.Z,hc,ha,hu,hi]
 ·rintro σ ⟨ms,v1,v2,v3,e,rfl⟩;exact ip (d:=.bl true) rfl rfl
theorem Dg{F:Str->List D->R D}(ns:List Int)(h:Ends (λ_=>False) (λd=>d=.bl true) (qc ⟨F,p.glb,p.sub,p.cat⟩ gB.body (LS ns none none none))):dC ⟨F,p.glb,p.sub,p.cat⟩ gB [.lst (ns.map D.int)]=.ok (.bl true):=by
 obtain⟨d,e,rfl⟩:=lg (w:=⟨F,p.glb,p.sub,p.cat⟩) (f:=gB) (ds:=[.lst (ns.map D.int)]) rfl rfl h;exact e
theorem BR{F:Str->List D->R D}(hF:F=qa p 11)(ns:List Int)(hn:ns.length<=63):dC ⟨F,p.glb,p.sub,p.cat⟩ gB [.lst (ns.map D.int)]=.ok (.bl true):=by
 refine Dg ns (xU (w:=⟨F,p.glb,p.sub,p.cat⟩) ns hn ?_ ?_ ?_)<;>rw[hF]
 ·exact λm c h1 h2=>by
   obtain⟨o,hp,e⟩:=Ai hSt hTB (k:=9) m c h1 h2;exact⟨_,Dj h1 h2 hp,e⟩
 ·exact λm ts r T h0 h1=>(tQ (k:=0) T h0 h1).1
 ·exact λm ts T=>(tQ (k:=0) T (r:=0) (by lia) (by have:=T.gw.lo;lia)).2
theorem Ex:∀ns:List Int,ns.length<=63->qa p depth "law" [.lst (ns.map D.int)]=.ok (.bl true):=by
 intro ns hn;rw[show depth=11+1 from rfl,qf Bm];exact BR rfl ns hn
end K42
namespace K42
open PySem PySem.Spec PyProof.Rows L2 EV
theorem ud:∀e∈tab,cFn G (gI us oth) e.own e.fr e.st=some e.fn:=by
 intro e he;simp only[tab,aF,cy,or_false]at he;rcases he with rfl|rfl|rfl|rfl|rfl|rfl|rfl|rfl|rfl|rfl|rfl|rfl|rfl|rfl|rfl|rfl|rfl|rfl|rfl|rfl|rfl|rfl|rfl|rfl|rfl|rfl|rfl|rfl|rfl|rfl|rfl|rfl|rfl|rfl|rfl|rfl|rfl|rfl|rfl|rfl|rfl|rfl|rfl|rfl|rfl|rfl|rfl|rfl<;>kernel_rfl
theorem Gf:∀e∈us,e∈tab:=by
 intro e he;cases he
theorem G0:∀e∈us,rG (fF oth) e.own e.fr e.st=some e.fn:=by
 intro e he;cases he
theorem nd:(tab.map (·.x)).Nodup:=by decide +kernel
section
variable{K:aC}{h:Heap}{mg:Str->Option ae}{f0:Addr}(d0:WB.Dd K "is_whole" (top 8) f0){f1:Addr}(d1:WB.Dd K "is_between" (top 9) f1){f2:Addr}(d2:WB.Dd K "is_pair" (top 10) f2){f3:Addr}(d3:WB.Dd K "rises" (top 11) f3){f4:Addr}(d4:WB.Dd K "is_web" (top 14) f4){f5:Addr}(d5:WB.Dd K "is_tie" (top 15) f5){f6:Addr}(d6:WB.Dd K "need_web" (top 16) f6){f7:Addr}(d7:WB.Dd K "is_place" (top 17) f7){f8:Addr}(d8:WB.Dd K "need_place" (top 18) f8){f9:Addr}(d9:WB.Dd K "hoods" (top 19) f9){f10:Addr}(d10:WB.Dd K "hood_of" (top 20) f10){f11:Addr}(d11:WB.Dd K "are_tied" (top 21) f11){f12:Addr}(d12:WB.Dd K "ways_from" (top 22) f12){f13:Addr}(d13:WB.Dd K "pieces" (top 23) f13){f14:Addr}(d14:WB.Dd K "is_tree" (top 24) f14){f15:Addr}(d15:WB.Dd K "need_tree" (top 26) f15){f16:Addr}(d16:WB.Dd K "above" (top 27) f16){f17:Addr}(d17:WB.Dd K "upper" (top 28) f17){f18:Addr}(d18:WB.Dd K "from_far" (top 29) f18){f19:Addr}(d19:WB.Dd K "steps" (top 30) f19){f20:Addr}(d20:WB.Dd K "tree_pair" (top 31) f20){f21:Addr}(d21:WB.Dd K "is_some" (top 33) f21){f22:Addr}(d22:WB.Dd K "need_some" (top 34) f22){f23:Addr}(d23:WB.Dd K "need_all" (top 35) f23){f24:Addr}(d24:WB.Dd K "unheld" (top 36) f24){f25:Addr}(d25:WB.Dd K "mark_of" (top 37) f25){f26:Addr}(d26:WB.Dd K "marks_of" (top 38) f26){f27:Addr}(d27:WB.Dd K "places_marked" (top 39) f27){f28:Addr}(d28:WB.Dd K "all_some" (top 40) f28){f29:Addr}(d29:WB.Dd K "all_holding" (top 41) f29){f30:Addr}(d30:WB.Dd K "fewest" (top 43) f30){f31:Addr}(d31:WB.Dd K "first_fewest" (top 44) f31){f32:Addr}(d32:WB.Dd K "all_fewest" (top 45) f32){f33:Addr}(d33:WB.Dd K "is_apart" (top 46) f33){f34:Addr}(d34:WB.Dd K "most_apart" (top 47) f34){f35:Addr}(d35:WB.Dd K "first_apart" (top 48) f35){f36:Addr}(d36:WB.Dd K "is_paper" (top 49) f36){f37:Addr}(d37:WB.Dd K "paper_for" (top 50) f37){f38:Addr}(d38:WB.Dd K "is_apart_by" (top 51) f38){f39:Addr}(d39:WB.Dd K "_law_hood" (top 53) f39){f40:Addr}(d40:WB.Dd K "_law_same" (top 54) f40){f41:Addr}(d41:WB.Dd K "_law_holders" (top 55) f41){f42:Addr}(d42:WB.Dd K "_law_unheld" (top 56) f42){f43:Addr}(d43:WB.Dd K "_law_stir" (top 57) f43){f44:Addr}(d44:WB.Dd K "_law_tree_by" (top 58) f44){f45:Addr}(d45:WB.Dd K "_law_clear" (top 59) f45){f46:Addr}(d46:WB.Dd K "_law_right" (top 60) f46){f47:Addr}(d47:WB.Dd K "law" (top 61) f47)
include d0 d1 d2 d3 d4 d5 d6 d7 d8 d9 d10 d11 d12 d13 d14 d15 d16 d17 d18 d19 d20 d21 d22 d23 d24 d25 d26 d27 d28 d29 d30 d31 d32 d33 d34 d35 d36 d37 d38 d39 d40 d41 d42 d43 d44 d45 d46 d47
theorem Bv:∀e∈tab,ji K G e:=by
 intro e he;simp only[tab,aF,cy,or_false]at he;rcases he with rfl|rfl|rfl|rfl|rfl|rfl|rfl|rfl|rfl|rfl|rfl|rfl|rfl|rfl|rfl|rfl|rfl|rfl|rfl|rfl|rfl|rfl|rfl|rfl|rfl|rfl|rfl|rfl|rfl|rfl|rfl|rfl|rfl|rfl|rfl|rfl|rfl|rfl|rfl|rfl|rfl|rfl|rfl|rfl|rfl|rfl|rfl|rfl<;>refine⟨⟨_,by assumption⟩,λ_ _ _ _ _ _ us hl=>?_⟩<;>first|(obtain⟨_,rfl⟩:=WB.ur hl;rfl)|(obtain⟨_,_,rfl⟩:=WB.tM hl;rfl)|(obtain⟨_,_,_,rfl⟩:=WB.FH hl;rfl)
omit d0 d1 d2 d3 d4 d5 d6 d7 d8 d9 d10 d11 d12 d13 d14 d15 d16 d17 d18 d19 d20 d21 d22 d23 d24 d25 d26 d27 d28 d29 d30 d31 d32 d33 d34 d35 d36 d37 d38 d39 d40 d41 d42 d43 d44 d45 d46 d47
theorem mT{x:Str}{k:GK}(h:oth.lookup x=some k):∃y∈oth,x=y.1/\k=y.2:=by
 generalize oth=l at h ⊢
 induction l with
 |nil=>cases h
 |cons a r ih=>
  rw[bJ]at h;split at h
  ·rename_i q;cases h;exact⟨a,aK,eq_of_beq q,rfl⟩
  ·obtain⟨y,h1,h2⟩:=ih h;exact⟨y,aO _ h1,h2⟩
theorem ym{K:aC}{C0:Addr}(k0:aH K aD "NoWeb" = some (some (.ref C0)))(x0:PySem.W.excIn K C0 e_ "ValueError.__new__" = true){C1:Addr}(k1:aH K aD "NoPlaces" = some (some (.ref C1)))(x1:PySem.W.excIn K C1 e_ "ValueError.__new__" = true){C2:Addr}(k2:aH K aD "NoPlace" = some (some (.ref C2)))(x2:PySem.W.excIn K C2 e_ "ValueError.__new__" = true){C3:Addr}(k3:aH K aD "NotAll" = some (some (.ref C3))){C4:Addr}(k4:aH K aD "NotTree" = some (some (.ref C4)))(x4:PySem.W.excIn K C4 e_ "ValueError.__new__" = true){tk0:Tok}(u0:aH K aD "MOST" = some (some (.int 8 tk0)))(z0:aH K aD "len" = some none)(z1:aH K aD "tuple" = some none)(z2:aH K aD "list" = some none)(z3:aH K aD "int" = some none)(z4:aH K aD "bool" = some none)(z5:aH K aD "str" = some none)(z6:aH K aD "set" = some none)(z7:aH K aD "sorted" = some none)(z8:aH K aD "all" = some none)(z9:aH K aD "min" = some none)(z10:aH K aD "max" = some none)(z11:aH K aD "range" = some none)(z12:aH K aD "enumerate" = some none)(z13:aH K aD "zip" = some none)(z14:aH K aD "isinstance" = some none):∀x k,oth.lookup x=some k->nT K vals x k:=by
 intro x k h;obtain⟨y,h1,rfl,rfl⟩:=mT h;simp only[oth,aF,cy,or_false]at h1;rcases h1 with rfl|rfl|rfl|rfl|rfl|rfl|rfl|rfl|rfl|rfl|rfl|rfl|rfl|rfl|rfl|rfl|rfl|rfl|rfl|rfl|rfl
 ·exact⟨_,k0,x0⟩
 ·exact⟨_,k1,x1⟩
 ·exact⟨_,k2,x2⟩
 ·exact⟨_,k3⟩
 ·exact⟨_,k4,x4⟩
 ·exact⟨_,.int 8,.int 8,u0,⟨_,rfl⟩,rfl,λg H _=>.int _⟩
 ·exact⟨z0,rfl,_,rfl⟩
 ·exact⟨z1,by decide +kernel,by simp,by simp[b1N,b1V]⟩
 ·exact⟨z2,by decide +kernel,by simp,by simp[b1N,b1V]⟩
 ·exact⟨z3,by decide +kernel,by simp,by simp[b1N,b1V]⟩
 ·exact⟨z4,by decide +kernel,by simp,by simp[b1N,b1V]⟩
 ·exact⟨z5,by decide +kernel,by simp,by simp⟩
 ·exact⟨z6,by decide +kernel⟩
 ·exact⟨z7,rfl,_,rfl⟩
 ·exact⟨z8,rfl,_,rfl⟩
 ·exact⟨z9,rfl,_,rfl⟩
 ·exact⟨z10,rfl,_,rfl⟩
 ·exact⟨z11,rfl⟩
 ·exact⟨z12,rfl⟩
 ·exact⟨z13,rfl⟩
 ·exact⟨z14,rfl⟩
theorem DJ:∀x fr,oth.lookup x≠some (.fn fr):=by
 intro x fr h;obtain⟨y,h1,rfl,h2⟩:=mT h;simp only[oth,aF,cy,or_false]at h1;rcases h1 with rfl|rfl|rfl|rfl|rfl|rfl|rfl|rfl|rfl|rfl|rfl|rfl|rfl|rfl|rfl|rfl|rfl|rfl|rfl|rfl|rfl<;>cases h2
theorem Bi:∀x,(oth.lookup x=some .exc\/oth.lookup x=some .exk)->([aL "NoWeb",aL "NoPlaces",aL "NoPlace",aL "NotAll",aL "NotTree"]:List Str).contains x=true:=by
 intro x h;rcases h with h|h<;>obtain⟨y,h1,rfl,h2⟩:=mT h<;>simp only[oth,aF,cy,or_false]at h1<;>rcases h1 with rfl|rfl|rfl|rfl|rfl|rfl|rfl|rfl|rfl|rfl|rfl|rfl|rfl|rfl|rfl|rfl|rfl|rfl|rfl|rfl|rfl<;>first|(cases h2;done)|decide +kernel
theorem AV{K:aC}{C0:Addr}(k0:aH K aD "NoWeb" = some (some (.ref C0))){C1:Addr}(k1:aH K aD "NoPlaces" = some (some (.ref C1))){C2:Addr}(k2:aH K aD "NoPlace" = some (some (.ref C2))){C3:Addr}(k3:aH K aD "NotAll" = some (some (.ref C3))){C4:Addr}(k4:aH K aD "NotTree" = some (some (.ref C4)))  : ∀y∈dN,∃C D,aH K aD y.1=some (some (.ref C))/\aH K aD y.2=some (some (.ref D))/\PySem.W.exmOne K (.ref C) (.ref D)=some true:=by
 intro y h1;simp only[dN,aF,cy,or_false]at h1
 skip
theorem xr{K:aC}{C0:Addr}(k0:aH K aD "NoWeb" = some (some (.ref C0))){C1:Addr}(k1:aH K aD "NoPlaces" = some (some (.ref C1))){C2:Addr}(k2:aH K aD "NoPlace" = some (some (.ref C2))){C3:Addr}(k3:aH K aD "NotAll" = some (some (.ref C3))){C4:Addr}(k4:aH K aD "NotTree" = some (some (.ref C4)))  : ∀y∈subs,pF K [aL "NoWeb",aL "NoPlaces",aL "NoPlace",aL "NotAll",aL "NotTree"] y:=by
 intro y h1;cases h1
include d0 d1 d2 d3 d4 d5 d6 d7 d8 d9 d10 d11 d12 d13 d14 d15 d16 d17 d18 d19 d20 d21 d22 d23 d24 d25 d26 d27 d28 d29 d30 d31 d32 d33 d34 d35 d36 d37 d38 d39 d40 d41 d42 d43 d44 d45 d46 d47
theorem all_mk(X:K.In h)(N:h.Ns aD mg){C0:Addr}(k0:aH K aD "NoWeb" = some (some (.ref C0)))(x0:PySem.W.excIn K C0 e_ "ValueError.__new__" = true){C1:Addr}(k1:aH K aD "NoPlaces" = some (some (.ref C1)))(x1:PySem.W.excIn K C1 e_ "ValueError.__new__" = true){C2:Addr}(k2:aH K aD "NoPlace" = some (some (.ref C2)))(x2:PySem.W.excIn K C2 e_ "ValueError.__new__" = true){C3:Addr}(k3:aH K aD "NotAll" = some (some (.ref C3))){C4:Addr}(k4:aH K aD "NotTree" = some (some (.ref C4)))(x4:PySem.W.excIn K C4 e_ "ValueError.__new__" = true){tk0:Tok}(u0:aH K aD "MOST" = some (some (.int 8 tk0)))(z0:aH K aD "len" = some none)(z1:aH K aD "tuple" = some none)(z2:aH K aD "list" = some none)(z3:aH K aD "int" = some none)(z4:aH K aD "bool" = some none)(z5:aH K aD "str" = some none)(z6:aH K aD "set" = some none)(z7:aH K aD "sorted" = some none)(z8:aH K aD "all" = some none)(z9:aH K aD "min" = some none)(z10:aH K aD "max" = some none)(z11:aH K aD "range" = some none)(z12:aH K aD "enumerate" = some none)(z13:aH K aD "zip" = some none)(z14:aH K aD "isinstance" = some none)    : Ground p (gOf K (tab.map (·.x)) [aL "NoWeb",aL "NoPlaces",aL "NoPlace",aL "NotAll",aL "NotTree"]) G (gI us oth) (fF oth) mg/\ji K G h_:=
 have A:=Bv d0 d1 d2 d3 d4 d5 d6 d7 d8 d9 d10 d11 d12 d13 d14 d15 d16 d17 d18 d19 d20 d21 d22 d23 d24 d25 d26 d27 d28 d29 d30 d31 d32 d33 d34 d35 d36 d37 d38 d39 d40 d41 d42 d43 d44 d45 d46 d47
 ⟨xh X N rfl nd (ym k0 x0 k1 x1 k2 x2 k3 k4 x4 u0 z0 z1 z2 z3 z4 z5 z6 z7 z8 z9 z10 z11 z12 z13 z14) DJ Gf G0 ud A _ (AV k0 k1 k2 k3 k4) Bi (xr k0 k1 k2 k3 k4 ),A h_ (by simp[tab])⟩
end
theorem walk{l:PySem.W.OpenLaw}{q:aA}{loose:List Str}{XP:(Str->Option ae)->Heap->Prop}{YP:au->Heap->Prop}{d:DefRec}{K:Params->aC}(hn:l.most=some 63)(hdf:d.params.defaults=[])(hd:d.name = "law")(hY:∀(w:au) (h:Heap),YP w h->(K w.params).In h)
  (hG:∀(w:au) (mg:Str->Option ae) (h:Heap),(K w.params).In h->h.Ns aD mg->Ground p (gOf (K w.params) (tab.map (·.x)) [aL "NoWeb",aL "NoPlaces",aL "NoPlace",aL "NotAll",aL "NotTree"]) G (gI us oth) (fF oth) mg/\ji (K w.params) G h_):PySem.W.WalkO q loose XP YP l.row.toRowW d [] (λf vs=>PySem.call f vs):=
 Ej (e:=h_) (k:=depth) hn hdf hd ⟨rfl,by decide,by decide⟩ hY (by simp[tab]) nd rfl rfl (by kernel_rfl) hG (ud h_ (by simp[tab])) Ex
end K42
end
open PySem PySem.W PyProof.Rows
namespace PySem.W.Fast
def tw15169860357369764434:Nat:=0
theorem te15169860357369764434:tw15169860357369764434=0:=rfl
def tw779945817520688998:Nat:=0
theorem te779945817520688998:tw779945817520688998=0:=rfl
def tw4145948979287045842:Nat:=0
theorem te4145948979287045842:tw4145948979287045842=0:=rfl
def tw3397579130685016777:Nat:=0
theorem te3397579130685016777:tw3397579130685016777=0:=rfl
def tw17735535269198816906:Nat:=0
theorem te17735535269198816906:tw17735535269198816906=0:=rfl
def tw18000748192542692953:Nat:=0
theorem te18000748192542692953:tw18000748192542692953=0:=rfl
def tw10241947814431195502:Nat:=0
theorem te10241947814431195502:tw10241947814431195502=0:=rfl
def tw6618062986669854598:Nat:=0
theorem te6618062986669854598:tw6618062986669854598=0:=rfl
def tw13255528627245508326:Nat:=0
theorem te13255528627245508326:tw13255528627245508326=0:=rfl
def tw15030044676242979038:Nat:=0
theorem te15030044676242979038:tw15030044676242979038=0:=rfl
def tw16340880542704763569:Nat:=0
theorem te16340880542704763569:tw16340880542704763569=0:=rfl
def tw1368993333837083398:Nat:=0
theorem te1368993333837083398:tw1368993333837083398=0:=rfl
def tw5259632650443258596:Nat:=0
theorem te5259632650443258596:tw5259632650443258596=0:=rfl
def tw13236253742786715679:Nat:=0
theorem te13236253742786715679:tw13236253742786715679=0:=rfl
def tw3771185173792880950:Nat:=0
theorem te3771185173792880950:tw3771185173792880950=0:=rfl
def tw9338123402222750264:Nat:=0
theorem te9338123402222750264:tw9338123402222750264=0:=rfl
def tw5767927446960922229:Nat:=0
theorem te5767927446960922229:tw5767927446960922229=0:=rfl
def tw8522511180489615310:Nat:=0
theorem te8522511180489615310:tw8522511180489615310=0:=rfl
def tw6183655717299157911:Nat:=0
theorem te6183655717299157911:tw6183655717299157911=0:=rfl
def tw8126891614061839044:Nat:=0
theorem te8126891614061839044:tw8126891614061839044=0:=rfl
def tw2303891909817534598:Nat:=0
theorem te2303891909817534598:tw2303891909817534598=0:=rfl
def tw10322373219791777674:Nat:=0
theorem te10322373219791777674:tw10322373219791777674=0:=rfl
def tw4260533578107385697:Nat:=0
theorem te4260533578107385697:tw4260533578107385697=0:=rfl
def tw1466987495556914181:Nat:=0
theorem te1466987495556914181:tw1466987495556914181=0:=rfl
def tw11970107613477562764:Nat:=0
theorem te11970107613477562764:tw11970107613477562764=0:=rfl
def tw10279204837784347959:Nat:=0
theorem te10279204837784347959:tw10279204837784347959=0:=rfl
def tw11680118681439838532:Nat:=0
theorem te11680118681439838532:tw11680118681439838532=0:=rfl
def tw18347110525460760984:Nat:=0
theorem te18347110525460760984:tw18347110525460760984=0:=rfl
def tw1588389872198038797:Nat:=0
theorem te1588389872198038797:tw1588389872198038797=0:=rfl
def tw6429744062155269276:Nat:=0
theorem te6429744062155269276:tw6429744062155269276=0:=rfl
def tw13189402808422262061:Nat:=0
theorem te13189402808422262061:tw13189402808422262061=0:=rfl
def tw15212952441517276941:Nat:=0
theorem te15212952441517276941:tw15212952441517276941=0:=rfl
def tw5193024116637457495:Nat:=0
theorem te5193024116637457495:tw5193024116637457495=0:=rfl
def tw6652126940876153085:Nat:=0
theorem te6652126940876153085:tw6652126940876153085=0:=rfl
def tw7677703661877636646:Nat:=0
theorem te7677703661877636646:tw7677703661877636646=0:=rfl
def tw4028158503188833348:Nat:=0
theorem te4028158503188833348:tw4028158503188833348=0:=rfl
def tw13934513710113040849:Nat:=0
theorem te13934513710113040849:tw13934513710113040849=0:=rfl
def tw17248172387786282410:Nat:=0
theorem te17248172387786282410:tw17248172387786282410=0:=rfl
def tw18324734162786134767:Nat:=0
theorem te18324734162786134767:tw18324734162786134767=0:=rfl
def tw5270307682284048100:Nat:=0
theorem te5270307682284048100:tw5270307682284048100=0:=rfl
def tw10295200494617583663:Nat:=0
theorem te10295200494617583663:tw10295200494617583663=0:=rfl
def tw7371261561912284834:Nat:=0
theorem te7371261561912284834:tw7371261561912284834=0:=rfl
def tw6206481999559420770:Nat:=0
theorem te6206481999559420770:tw6206481999559420770=0:=rfl
def tw8310040194207536676:Nat:=0
theorem te8310040194207536676:tw8310040194207536676=0:=rfl
def tw9129606518658585671:Nat:=0
theorem te9129606518658585671:tw9129606518658585671=0:=rfl
def tw10699417132842224884:Nat:=0
theorem te10699417132842224884:tw10699417132842224884=0:=rfl
def tw7821404170097922074:Nat:=0
theorem te7821404170097922074:tw7821404170097922074=0:=rfl
def tw4120977885845061561:Nat:=0
theorem te4120977885845061561:tw4120977885845061561=0:=rfl
def tw4298705931266726074:Nat:=0
theorem te4298705931266726074:tw4298705931266726074=0:=rfl
def tw12677022169425366475:Nat:=0
theorem te12677022169425366475:tw12677022169425366475=0:=rfl
def tw5200724426654624344:Nat:=0
theorem te5200724426654624344:tw5200724426654624344=0:=rfl
def tw5150668519529538356:Nat:=0
theorem te5150668519529538356:tw5150668519529538356=0:=rfl
def tw12034619351258399253:Nat:=0
theorem te12034619351258399253:tw12034619351258399253=0:=rfl
def tw3097865191600784778:Nat:=0
theorem te3097865191600784778:tw3097865191600784778=0:=rfl
def tw1718960974928417597:Nat:=0
theorem te1718960974928417597:tw1718960974928417597=0:=rfl
def tw1156298249961927514:Nat:=0
theorem te1156298249961927514:tw1156298249961927514=0:=rfl
def tw15723573974254564670:Nat:=0
theorem te15723573974254564670:tw15723573974254564670=0:=rfl
def tw2500938937994993744:Nat:=0
theorem te2500938937994993744:tw2500938937994993744=0:=rfl
def tw4511535413428264083:Nat:=0
theorem te4511535413428264083:tw4511535413428264083=0:=rfl
def tw18252254674607032542:Nat:=0
theorem te18252254674607032542:tw18252254674607032542=0:=rfl
def tw17830510493778296755:Nat:=0
theorem te17830510493778296755:tw17830510493778296755=0:=rfl
def tw1519557278680760246:Nat:=0
theorem te1519557278680760246:tw1519557278680760246=0:=rfl
def tw3012168127958490037:Nat:=0
theorem te3012168127958490037:tw3012168127958490037=0:=rfl
def tw17446768641541546829:Nat:=0
theorem te17446768641541546829:tw17446768641541546829=0:=rfl
def tw8445538313779392732:Nat:=0
theorem te8445538313779392732:tw8445538313779392732=0:=rfl
def tw8722895009734810736:Nat:=0
theorem te8722895009734810736:tw8722895009734810736=0:=rfl
def tw14189243789896126216:Nat:=0
theorem te14189243789896126216:tw14189243789896126216=0:=rfl
def tw129284934225084429:Nat:=0
theorem te129284934225084429:tw129284934225084429=0:=rfl
def tw7356187686987985166:Nat:=0
theorem te7356187686987985166:tw7356187686987985166=0:=rfl
def tw8637746517557807085:Nat:=0
theorem te8637746517557807085:tw8637746517557807085=0:=rfl
def tw10988222450837440969:Nat:=0
theorem te10988222450837440969:tw10988222450837440969=0:=rfl
def tw15851591858274060601:Nat:=0
theorem te15851591858274060601:tw15851591858274060601=0:=rfl
def tw11616517839833028053:Nat:=0
theorem te11616517839833028053:tw11616517839833028053=0:=rfl
def tw13651867815394127977:Nat:=0
theorem te13651867815394127977:tw13651867815394127977=0:=rfl
def tw16070983104302374782:Nat:=0
theorem te16070983104302374782:tw16070983104302374782=0:=rfl
def tw14624779509006037985:Nat:=0
theorem te14624779509006037985:tw14624779509006037985=0:=rfl
def tw9160911979491766688:Nat:=0
theorem te9160911979491766688:tw9160911979491766688=0:=rfl
def tw13156014012538042994:Nat:=0
theorem te13156014012538042994:tw13156014012538042994=0:=rfl
def tw5051754344868698469:Nat:=0
theorem te5051754344868698469:tw5051754344868698469=0:=rfl
def tw12771877820794027334:Nat:=0
theorem te12771877820794027334:tw12771877820794027334=0:=rfl
def tw12705910209205386276:Nat:=0
theorem te12705910209205386276:tw12705910209205386276=0:=rfl
def tw7231015367059947492:Nat:=0
theorem te7231015367059947492:tw7231015367059947492=0:=rfl
def tw5955807187360765222:Nat:=0
theorem te5955807187360765222:tw5955807187360765222=0:=rfl
def tw11008258038007052609:Nat:=0
theorem te11008258038007052609:tw11008258038007052609=0:=rfl
def tw2720984054793562556:Nat:=0
theorem te2720984054793562556:tw2720984054793562556=0:=rfl
def tw4045699956313509738:Nat:=0
theorem te4045699956313509738:tw4045699956313509738=0:=rfl
def tw8691803067930480056:Nat:=0
theorem te8691803067930480056:tw8691803067930480056=0:=rfl
def tw1168739026755814634:Nat:=0
theorem te1168739026755814634:tw1168739026755814634=0:=rfl
def tw8323380880695857684:Nat:=0
theorem te8323380880695857684:tw8323380880695857684=0:=rfl
def tw14561805664199385399:Nat:=0
theorem te14561805664199385399:tw14561805664199385399=0:=rfl
def tw11878328950600667681:Nat:=0
theorem te11878328950600667681:tw11878328950600667681=0:=rfl
def tw5812650915151896077:Nat:=0
theorem te5812650915151896077:tw5812650915151896077=0:=rfl
def tw2655811448521666259:Nat:=0
theorem te2655811448521666259:tw2655811448521666259=0:=rfl
def tw4964858721564528106:Nat:=0
theorem te4964858721564528106:tw4964858721564528106=0:=rfl
def tw10025574604683116208:Nat:=0
theorem te10025574604683116208:tw10025574604683116208=0:=rfl
def tw5494744957321023931:Nat:=0
theorem te5494744957321023931:tw5494744957321023931=0:=rfl
def tw10837898666907848885:Nat:=0
theorem te10837898666907848885:tw10837898666907848885=0:=rfl
def tw10548507158732110064:Nat:=0
theorem te10548507158732110064:tw10548507158732110064=0:=rfl
def tw1614052602159278695:Nat:=0
theorem te1614052602159278695:tw1614052602159278695=0:=rfl
def tw15672125947580296253:Nat:=0
theorem te15672125947580296253:tw15672125947580296253=0:=rfl
def tw9427466337075216042:Nat:=0
theorem te9427466337075216042:tw9427466337075216042=0:=rfl
def tw9001702818866649182:Nat:=0
theorem te9001702818866649182:tw9001702818866649182=0:=rfl
def tw32811672988096934:Nat:=0
theorem te32811672988096934:tw32811672988096934=0:=rfl
def tw14067483287319457110:Nat:=0
theorem te14067483287319457110:tw14067483287319457110=0:=rfl
def tw2389026488650041286:Nat:=0
theorem te2389026488650041286:tw2389026488650041286=0:=rfl
def tw2736973946131775258:Nat:=0
theorem te2736973946131775258:tw2736973946131775258=0:=rfl
def tw8590888805538924205:Nat:=0
theorem te8590888805538924205:tw8590888805538924205=0:=rfl
def tw6109648934367778171:Nat:=0
theorem te6109648934367778171:tw6109648934367778171=0:=rfl
def tw7808064729973644218:Nat:=0
theorem te7808064729973644218:tw7808064729973644218=0:=rfl
def tw6790610476135640561:Nat:=0
theorem te6790610476135640561:tw6790610476135640561=0:=rfl
def tw8331035226921975007:Nat:=0
theorem te8331035226921975007:tw8331035226921975007=0:=rfl
def tw839979885046833888:Nat:=0
theorem te839979885046833888:tw839979885046833888=0:=rfl
def tw14189177348723423823:Nat:=0
theorem te14189177348723423823:tw14189177348723423823=0:=rfl
def tw3928438464020874963:Nat:=0
theorem te3928438464020874963:tw3928438464020874963=0:=rfl
def tw8106481179704907739:Nat:=0
theorem te8106481179704907739:tw8106481179704907739=0:=rfl
def tw11578493873598642478:Nat:=0
theorem te11578493873598642478:tw11578493873598642478=0:=rfl
def tw9867387515062412716:Nat:=0
theorem te9867387515062412716:tw9867387515062412716=0:=rfl
def tw16861293069700799648:Nat:=0
theorem te16861293069700799648:tw16861293069700799648=0:=rfl
def tw10854727545867793831:Nat:=0
theorem te10854727545867793831:tw10854727545867793831=0:=rfl
def tw1513744587840059737:Nat:=0
theorem te1513744587840059737:tw1513744587840059737=0:=rfl
def tw1720812614015215171:Nat:=0
theorem te1720812614015215171:tw1720812614015215171=0:=rfl
def tw7709545765740744214:Nat:=0
theorem te7709545765740744214:tw7709545765740744214=0:=rfl
def tw13358517426700689177:Nat:=0
theorem te13358517426700689177:tw13358517426700689177=0:=rfl
def tw16716388500114230692:Nat:=0
theorem te16716388500114230692:tw16716388500114230692=0:=rfl
def tw12269124733566020481:Nat:=0
theorem te12269124733566020481:tw12269124733566020481=0:=rfl
def tw15456269870644002572:Nat:=0
theorem te15456269870644002572:tw15456269870644002572=0:=rfl
def tw1167693472361649714:Nat:=0
theorem te1167693472361649714:tw1167693472361649714=0:=rfl
def tw14839229447760509268:Nat:=0
theorem te14839229447760509268:tw14839229447760509268=0:=rfl
def tw10357420694306685980:Nat:=0
theorem te10357420694306685980:tw10357420694306685980=0:=rfl
def tw13188304688266802516:Nat:=0
theorem te13188304688266802516:tw13188304688266802516=0:=rfl
def tw9288500498372187411:Nat:=0
theorem te9288500498372187411:tw9288500498372187411=0:=rfl
def tw2296174773248906263:Nat:=0
theorem te2296174773248906263:tw2296174773248906263=0:=rfl
def tw3999919460688888074:Nat:=0
theorem te3999919460688888074:tw3999919460688888074=0:=rfl
def tw7471677726700319307:Nat:=0
theorem te7471677726700319307:tw7471677726700319307=0:=rfl
def tw6475273265664544551:Nat:=0
theorem te6475273265664544551:tw6475273265664544551=0:=rfl
def tw11329383353385563868:Nat:=0
theorem te11329383353385563868:tw11329383353385563868=0:=rfl
def tw5554463384232503175:Nat:=0
theorem te5554463384232503175:tw5554463384232503175=0:=rfl
def tw8163154597824549751:Nat:=0
theorem te8163154597824549751:tw8163154597824549751=0:=rfl
def tw7041759294940864522:Nat:=0
theorem te7041759294940864522:tw7041759294940864522=0:=rfl
def tw13115035371297186608:Nat:=0
theorem te13115035371297186608:tw13115035371297186608=0:=rfl
def tw17041817212796447727:Nat:=0
theorem te17041817212796447727:tw17041817212796447727=0:=rfl
def tw14625080221922481994:Nat:=0
theorem te14625080221922481994:tw14625080221922481994=0:=rfl
def tw10666596002532842264:Nat:=0
theorem te10666596002532842264:tw10666596002532842264=0:=rfl
def tw5508694355783977756:Nat:=0
theorem te5508694355783977756:tw5508694355783977756=0:=rfl
def tw237113870810241099:Nat:=0
theorem te237113870810241099:tw237113870810241099=0:=rfl
def tw9875696833161397903:Nat:=0
theorem te9875696833161397903:tw9875696833161397903=0:=rfl
def tw2067961506312079484:Nat:=0
theorem te2067961506312079484:tw2067961506312079484=0:=rfl
def tw6602539431293949352:Nat:=0
theorem te6602539431293949352:tw6602539431293949352=0:=rfl
def tw8376956453531079758:Nat:=0
theorem te8376956453531079758:tw8376956453531079758=0:=rfl
def tw17538874769860930159:Nat:=0
theorem te17538874769860930159:tw17538874769860930159=0:=rfl
def tw18435412447666693893:Nat:=0
theorem te18435412447666693893:tw18435412447666693893=0:=rfl
def tw17828313128417552377:Nat:=0
theorem te17828313128417552377:tw17828313128417552377=0:=rfl
def tw4182372913833890506:Nat:=0
theorem te4182372913833890506:tw4182372913833890506=0:=rfl
def tw17152550370295480475:Nat:=0
theorem te17152550370295480475:tw17152550370295480475=0:=rfl
def tw14406015900961548454:Nat:=0
theorem te14406015900961548454:tw14406015900961548454=0:=rfl
def tw11071750957570488241:Nat:=0
theorem te11071750957570488241:tw11071750957570488241=0:=rfl
def tw11392330142396234669:Nat:=0
theorem te11392330142396234669:tw11392330142396234669=0:=rfl
def tw14593906398851454358:Nat:=0
theorem te14593906398851454358:tw14593906398851454358=0:=rfl
def tw6022560443744501777:Nat:=0
theorem te6022560443744501777:tw6022560443744501777=0:=rfl
def tw16816510601474944433:Nat:=0
theorem te16816510601474944433:tw16816510601474944433=0:=rfl
def tw8932977476296353840:Nat:=0
theorem te8932977476296353840:tw8932977476296353840=0:=rfl
def tw6348145007374244042:Nat:=0
theorem te6348145007374244042:tw6348145007374244042=0:=rfl
def tw18216935328677662384:Nat:=0
theorem te18216935328677662384:tw18216935328677662384=0:=rfl
def tw1211779650811405985:Nat:=0
theorem te1211779650811405985:tw1211779650811405985=0:=rfl
def tw15767321382749118659:Nat:=0
theorem te15767321382749118659:tw15767321382749118659=0:=rfl
def tw1119861999371458154:Nat:=0
theorem te1119861999371458154:tw1119861999371458154=0:=rfl
def tw12889309907385785930:Nat:=0
theorem te12889309907385785930:tw12889309907385785930=0:=rfl
def tw15058241944785998052:Nat:=0
theorem te15058241944785998052:tw15058241944785998052=0:=rfl
def tw11955104307360376871:Nat:=0
theorem te11955104307360376871:tw11955104307360376871=0:=rfl
def tw13655456028354115180:Nat:=0
theorem te13655456028354115180:tw13655456028354115180=0:=rfl
def tw3608654743076814145:Nat:=0
theorem te3608654743076814145:tw3608654743076814145=0:=rfl
def tw11328042589688793277:Nat:=0
theorem te11328042589688793277:tw11328042589688793277=0:=rfl
def tw5296807237505117209:Nat:=0
theorem te5296807237505117209:tw5296807237505117209=0:=rfl
def tw4929342740579791369:Nat:=0
theorem te4929342740579791369:tw4929342740579791369=0:=rfl
def tw6761346300417156949:Nat:=0
theorem te6761346300417156949:tw6761346300417156949=0:=rfl
def tw7469788872868888239:Nat:=0
theorem te7469788872868888239:tw7469788872868888239=0:=rfl
def tw5634184580147102901:Nat:=0
theorem te5634184580147102901:tw5634184580147102901=0:=rfl
def tw13864483064765719040:Nat:=0
theorem te13864483064765719040:tw13864483064765719040=0:=rfl
def tw3636870783863490953:Nat:=0
theorem te3636870783863490953:tw3636870783863490953=0:=rfl
def tw5255319401997129321:Nat:=0
theorem te5255319401997129321:tw5255319401997129321=0:=rfl
def tw7411187925279146394:Nat:=0
theorem te7411187925279146394:tw7411187925279146394=0:=rfl
def tw4462245120781837421:Nat:=0
theorem te4462245120781837421:tw4462245120781837421=0:=rfl
def tw12833413206550420380:Nat:=0
theorem te12833413206550420380:tw12833413206550420380=0:=rfl
def tw6832877997996816132:Nat:=0
theorem te6832877997996816132:tw6832877997996816132=0:=rfl
def tw4137981118261059785:Nat:=0
theorem te4137981118261059785:tw4137981118261059785=0:=rfl
def tw162300408783918246:Nat:=0
theorem te162300408783918246:tw162300408783918246=0:=rfl
def tw6822446237298890186:Nat:=0
theorem te6822446237298890186:tw6822446237298890186=0:=rfl
def tw17686567989552778803:Nat:=0
theorem te17686567989552778803:tw17686567989552778803=0:=rfl
def tw1532385676501509792:Nat:=0
theorem te1532385676501509792:tw1532385676501509792=0:=rfl
def tw9144147449901785388:Nat:=0
theorem te9144147449901785388:tw9144147449901785388=0:=rfl
def tw1567619455203843173:Nat:=0
theorem te1567619455203843173:tw1567619455203843173=0:=rfl
def tw17803280713708548338:Nat:=0
theorem te17803280713708548338:tw17803280713708548338=0:=rfl
def tw8290254198372165512:Nat:=0
theorem te8290254198372165512:tw8290254198372165512=0:=rfl
def tw10814136944159449049:Nat:=0
theorem te10814136944159449049:tw10814136944159449049=0:=rfl
def tw9439930903806551617:Nat:=0
theorem te9439930903806551617:tw9439930903806551617=0:=rfl
def tw8171288100891709488:Nat:=0
theorem te8171288100891709488:tw8171288100891709488=0:=rfl
def tw8225733232548244627:Nat:=0
theorem te8225733232548244627:tw8225733232548244627=0:=rfl
def tw12106191520289346628:Nat:=0
theorem te12106191520289346628:tw12106191520289346628=0:=rfl
def tw8009520355424662069:Nat:=0
theorem te8009520355424662069:tw8009520355424662069=0:=rfl
def tw18004339477350755961:Nat:=0
theorem te18004339477350755961:tw18004339477350755961=0:=rfl
def tw17023599183321003848:Nat:=0
theorem te17023599183321003848:tw17023599183321003848=0:=rfl
def tw538886290356434503:Nat:=0
theorem te538886290356434503:tw538886290356434503=0:=rfl
def tw5522242247276096668:Nat:=0
theorem te5522242247276096668:tw5522242247276096668=0:=rfl
def tw11033094678565456958:Nat:=0
theorem te11033094678565456958:tw11033094678565456958=0:=rfl
def tw13772659205655092117:Nat:=0
theorem te13772659205655092117:tw13772659205655092117=0:=rfl
def tw15377966664088075839:Nat:=0
theorem te15377966664088075839:tw15377966664088075839=0:=rfl
def tw9504106654971329931:Nat:=0
theorem te9504106654971329931:tw9504106654971329931=0:=rfl
def tw7467754106742740459:Nat:=0
theorem te7467754106742740459:tw7467754106742740459=0:=rfl
def tw5026698596099186620:Nat:=0
theorem te5026698596099186620:tw5026698596099186620=0:=rfl
def tw6277059090267437429:Nat:=0
theorem te6277059090267437429:tw6277059090267437429=0:=rfl
def tw10754769108032804393:Nat:=0
theorem te10754769108032804393:tw10754769108032804393=0:=rfl
def tw17536124611170044996:Nat:=0
theorem te17536124611170044996:tw17536124611170044996=0:=rfl
def tw1781176889734969428:Nat:=0
theorem te1781176889734969428:tw1781176889734969428=0:=rfl
def tw15541825513111786315:Nat:=0
theorem te15541825513111786315:tw15541825513111786315=0:=rfl
def tw4351936872445375798:Nat:=0
theorem te4351936872445375798:tw4351936872445375798=0:=rfl
def tw9328068118260193520:Nat:=0
theorem te9328068118260193520:tw9328068118260193520=0:=rfl
def tw8544131592513945770:Nat:=0
theorem te8544131592513945770:tw8544131592513945770=0:=rfl
def tw16083039361946932128:Nat:=0
theorem te16083039361946932128:tw16083039361946932128=0:=rfl
def tw9808749316649008153:Nat:=0
theorem te9808749316649008153:tw9808749316649008153=0:=rfl
def tw4142220379529956716:Nat:=0
theorem te4142220379529956716:tw4142220379529956716=0:=rfl
def tw1672265807962073197:Nat:=0
theorem te1672265807962073197:tw1672265807962073197=0:=rfl
def tw17202795648070140175:Nat:=0
theorem te17202795648070140175:tw17202795648070140175=0:=rfl
end PySem.W.Fast
set_option maxRecDepth 100000 in
set_option maxHeartbeats 0 in
theorem PySem.Challenge.cw_holdplaces_k42_whole_trees_hold_as_many_holds : PySem.Challenge.rw_holdplaces_k42_whole_trees_hold_as_many.Holds := by
 w_on;o_law;k_head;(case hw=>w_witness2)
 k_fill
 refine K42.walk (l:=PySem.Challenge.rw_holdplaces_k42_whole_trees_hold_as_many) rfl rfl rfl (λw h Y=>PySem.W.kIn_of Y) ?F
 case F=>
  intro w mg h KX N
  refine' K42.all_mk (WB.qq ?_ ?_ ?_ ?_) (WB.qq ?_ ?_ ?_ ?_) (WB.qq ?_ ?_ ?_ ?_) (WB.qq ?_ ?_ ?_ ?_) (WB.qq ?_ ?_ ?_ ?_) (WB.qq ?_ ?_ ?_ ?_) (WB.qq ?_ ?_ ?_ ?_) (WB.qq ?_ ?_ ?_ ?_) (WB.qq ?_ ?_ ?_ ?_) (WB.qq ?_ ?_ ?_ ?_) (WB.qq ?_ ?_ ?_ ?_) (WB.qq ?_ ?_ ?_ ?_) (WB.qq ?_ ?_ ?_ ?_) (WB.qq ?_ ?_ ?_ ?_) (WB.qq ?_ ?_ ?_ ?_) (WB.qq ?_ ?_ ?_ ?_) (WB.qq ?_ ?_ ?_ ?_) (WB.qq ?_ ?_ ?_ ?_) (WB.qq ?_ ?_ ?_ ?_) (WB.qq ?_ ?_ ?_ ?_) (WB.qq ?_ ?_ ?_ ?_) (WB.qq ?_ ?_ ?_ ?_) (WB.qq ?_ ?_ ?_ ?_) (WB.qq ?_ ?_ ?_ ?_) (WB.qq ?_ ?_ ?_ ?_) (WB.qq ?_ ?_ ?_ ?_) (WB.qq ?_ ?_ ?_ ?_) (WB.qq ?_ ?_ ?_ ?_) (WB.qq ?_ ?_ ?_ ?_) (WB.qq ?_ ?_ ?_ ?_) (WB.qq ?_ ?_ ?_ ?_) (WB.qq ?_ ?_ ?_ ?_) (WB.qq ?_ ?_ ?_ ?_) (WB.qq ?_ ?_ ?_ ?_) (WB.qq ?_ ?_ ?_ ?_) (WB.qq ?_ ?_ ?_ ?_) (WB.qq ?_ ?_ ?_ ?_) (WB.qq ?_ ?_ ?_ ?_) (WB.qq ?_ ?_ ?_ ?_) (WB.qq ?_ ?_ ?_ ?_) (WB.qq ?_ ?_ ?_ ?_) (WB.qq ?_ ?_ ?_ ?_) (WB.qq ?_ ?_ ?_ ?_) (WB.qq ?_ ?_ ?_ ?_) (WB.qq ?_ ?_ ?_ ?_) (WB.qq ?_ ?_ ?_ ?_) (WB.qq ?_ ?_ ?_ ?_) (WB.qq ?_ ?_ ?_ ?_) KX N ?_ ?_ ?_ ?_ ?_ ?_ ?_ ?_ ?_ ?_ ?_ ?_ ?_ ?_ ?_ ?_ ?_ ?_ ?_ ?_ ?_ ?_ ?_ ?_ ?_
  any_goals k_is
  any_goals k_exc
#print axioms PySem.Challenge.cw_holdplaces_k42_whole_trees_hold_as_many_holds
