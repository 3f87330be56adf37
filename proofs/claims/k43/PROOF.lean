import PyProof.Rows.All
import Wide.All
import OpenK.AllK
import Wide.FinOn
import Lean
import PyProof.EqAt
import PyProof.EqKinds
import PyProof.TupleCall
import PyProof.Rows.Range3
import PyProof.Rows.FStr
import KE.KDictSum
import PyProof.DictUpdate
import PyProof.Rows.ListMulArg
import KE.KSortTup
import KE.LcSums
import PyProof.SeqI3
import KE.KMinBuiltin
import PyProof.Draws
import KE.KRevIter
import PyProof.ListRange
import PyProof.TupleOfSeq
import PySem.Challenge.RW_holdplaces_k43_whole_bounds_by_ends
set_option Elab.async false
set_option bootstrap.genMatcherCode false
set_option genSizeOf false
set_option compiler.extract_closed false
set_option maxHeartbeats 8000000
set_option maxRecDepth 100000
set_option linter.all false
noncomputable section
open PySem.Builtin.SmallTypes renaming nextOf→eO
open List renaming drop_eq_getElem_cons→fz,take_append_drop→bX,mem_append_right→cN,mem_cons_of_mem→aR,mem_cons_self→aM,length_append→bP,size_toArray→a7,append_assoc→bz,flatMap_cons→ee,length_cons→bA,lookup_cons→bE,not_mem_nil→b9,any_eq_true→b_,all_eq_true→cQ,getElem_mem→dH,length_take→ef,length_map→aV,mem_filter→bu,append_nil→dg,replicate→cb,mem_cons→aI,map_cons→aN,mem_map→aU,map_map→ck,range→bW
open Option renaming bind_eq_some_iff→aL,map_eq_some_iff→bK,bind_eq_bind→aP
open Array renaming length_toList→ba,toList_append→bf
open PySem renaming mem_of_lookup→cP,wpAny_truthy_bool→bQ,Comprehension→cA,swappedStores→cU,wpAny_holding→dh,bootBuiltins→bV,mainGlobals→ar,sizeLine_eq→bx,wpAny_bind→au,wpAny_pure→aK,wpAny_mono→bM,compareOp→a_,cellsFrom→br,sizeLine→aO,starEach→aX,NameKind→aY,FuncData→bN,Program→aF,Shared→af,Around→aE,Value→ae,model→ao,wpAny→aq,World→aD,Scope→a8
open PySem.W renaming hideAll_get→d_,mg_none_of→dG,kia_one→bS,kitOne→bF,exmOne→bY,keepIn→cR,subIn→aH,nsIn→aw,Frag→aB,fnOf→cm
open Bool renaming false_eq_true→bD,false_ne_true→bO,not_eq_true'→bL,and_eq_true→aW,or_eq_true→bR
open Nat renaming lt_of_lt_of_le→bG,lt_succ_of_lt→de,lt_irrefl→bU,ne_of_lt→bg,le_trans→bB,le_refl→aG,zero_le→bH
open Option.some renaming injEq→cz,inj→bT
open ForInStep renaming yield→dI
open PySem.NameKind renaming free→cf
open PySem.Str renaming ofString→ak
open PySem.Heap renaming lt_size→aS
open PySem.Obj renaming mapSeq→bq
open False renaming elim→bt
open PySem.Value renaming bool→bJ,ref→bh
open And renaming intro→aC
open PyProof.Rows renaming pendingOf→a9,wpS_bind→av,wpS_pure→aA,IntsAre→bp,SortSt→aJ,seqObj→aQ,mirror→aZ,arrOf→ag,Keyed→ah
set_option Elab.async false
namespace L2
open PySem PySem.Spec PyProof.Rows
abbrev Key:=Sum Int Str
noncomputable def gW:Key->ae->Bool
 | .inl k,v=>ae.isInt k v
 | .inr x,v=>ae.isStrOf x v
noncomputable def xu(w:aD):Key->Int
 | .inl k=>hashInt k
 | .inr x=>hashStr w x
theorem zX:∀{k:Key}{v:ae},gW k v=true->(∃i t,k=Sum.inl i/\v=ae.int i t)\/(∃x t,k=Sum.inr x/\v=ae.str x t)
 | .inl i,v,h=>by
  obtain⟨t,e⟩:=ae.isInt_shape (k:=i) (v:=v) h;exact .inl ⟨i,t,rfl,e⟩
 | .inr x,v,h=>by
  obtain⟨t,e⟩:=ae.isStrOf_shape (x:=x) (v:=v) h;exact .inr ⟨x,t,rfl,e⟩
theorem yr(i:Int)(t:Tok):gW (.inl i) (.int i t)=true:=by simp[gW,ae.isInt]
theorem xo(x:Str)(t:Tok):gW (.inr x) (.str x t)=true:=by simp[gW,ae.isStrOf]
theorem xl(a b:Int):decide ((Sum.inl a:Key)=Sum.inl b)=(a==b):=by
 by_cases e:a=b
 ·subst e;simp
 ·have h:¬ (Sum.inl a:Key)=Sum.inl b:=λq=>e (Sum.inl.inj q)
  rw[decide_eq_false h];exact(beq_eq_false_iff_ne.mpr e).symm
theorem ux(a b:Str):decide ((Sum.inr a:Key)=Sum.inr b)=decide (a=b):=by
 by_cases e:a=b
 ·subst e;simp
 ·have h:¬ (Sum.inr a:Key)=Sum.inr b:=λq=>e (Sum.inr.inj q)
  rw[decide_eq_false h,decide_eq_false e]
theorem Aq(a:Int)(b:Str):decide ((Sum.inl a:Key)=Sum.inr b)=false:=decide_eq_false (λq=>nomatch q)
theorem ye(a:Str)(b:Int):decide ((Sum.inr a:Key)=Sum.inl b)=false:=decide_eq_false (λq=>nomatch q)
noncomputable def zv(prog:aF)(w:aD):PySem.KeyKind prog w Key where
 is:=gW
 hash:=xu w
 inj:=λv a b ha hb=>by
  rcases zX ha with ⟨i,t,rfl,rfl⟩|⟨x,t,rfl,rfl⟩
  ·rcases zX hb with ⟨j,u,rfl,e⟩|⟨y,u,rfl,e⟩
   ·injection e with e1 _;rw[e1]
   ·exact nomatch e
  ·rcases zX hb with ⟨j,u,rfl,e⟩|⟨y,u,rfl,e⟩
   ·exact nomatch e
   ·injection e with e1 _;rw[e1]
 byValue:=λk v h=>by
  rcases zX h with ⟨i,t,rfl,rfl⟩|⟨x,t,rfl,rfl⟩<;>rfl
 pyHash:=λhv h=>by
  rcases zX hv with ⟨i,t,rfl,rfl⟩|⟨x,t,rfl,rfl⟩
  ·exact wpAny_pyHash_int h
  ·exact wpAny_pyHash_str h
 eqBool:=λhu hv h=>by
  rcases zX hu with ⟨i,t,rfl,rfl⟩|⟨x,t,rfl,rfl⟩
  ·rcases zX hv with ⟨j,u,rfl,rfl⟩|⟨y,u,rfl,rfl⟩
   ·rw[xl]at h;exact wpAny_eqBool_int h
   ·rw[Aq]at h;exact SeqAt.EqAt.int_str i t y u _ _ _ _ h
  ·rcases zX hv with ⟨j,u,rfl,rfl⟩|⟨y,u,rfl,rfl⟩
   ·rw[ye]at h;exact SeqAt.EqAt.str_int x t j u _ _ _ _ h
   ·rw[ux]at h;exact wpAny_eqBool_str h
 «strs»:=λk x t v h=>by
  rcases zX h with ⟨i,u,rfl,e⟩|⟨y,u,rfl,e⟩
  ·exact nomatch e
  ·injection e with e1 _
   subst e1;cases v<;>rfl
theorem Cu(prog:aF)(w:aD)(i:Int)(t:Tok):(zv prog w).is (.inl i) (.int i t)=true:=yr i t
theorem yv(prog:aF)(w:aD)(x:Str)(t:Tok):(zv prog w).is (.inr x) (.str x t)=true:=xo x t
inductive V where
 |non|bl (b:Bool)|int (i:Int)|str (x:Str)|byt (b:Array UInt8)|flt (b:UInt64)|ref (a:Addr)|ty (n:String)
 deriving DecidableEq
def RelV:V->ae->Prop
 | .non,u=>u=ae.none
 | .bl b,u=>u=bJ b
 | .int i,u=>∃t,u=ae.int i t
 | .str x,u=>∃t,u=ae.str x t
 | .byt b,u=>∃t,u=ae.bytes b t
 | .flt b,u=>∃t,u=ae.float b t
 | .ref a,u=>u=bh a
 | .ty n,u=>u=ae.type n
abbrev Vals:List V->List ae->Prop:=Paired RelV
theorem Vals.length{xs:List V}{us:List ae}(r:Vals xs us):xs.length=us.length:=Paired.length r
theorem Vals.get:∀{xs:List V}{us:List ae}{i:Nat}{x:V},Vals xs us->xs[i]? = some x->∃u,us[i]? = some u/\RelV x u
 |_,_,_,_,.nil,e=>by simp at e
 |_,_,0,_,.cons r _,e=>by simp at e;subst e;exact⟨_,rfl,r⟩
 |_,_,i+1,x,.cons _ t,e=>by
  obtain⟨u,h1,h2⟩:=Vals.get (i:=i) (x:=x) t (by simpa using e);exact⟨u,by simpa using h1,h2⟩
theorem Vals.set{x:V}{u:ae}(r:RelV x u):∀{xs:List V}{us:List ae} (i:Nat),Vals xs us->Vals (xs.set i x) (us.set i u)
 |_,_,_,.nil=>.nil
 |_,_,0,.cons _ t=>.cons r t
 |_,_,i+1,.cons q t=>.cons q (Vals.set r i t)
theorem Vals.append:∀{xs ys:List V}{us ws:List ae},Vals xs us->Vals ys ws->Vals (xs++ys) (us++ws)
 |_,_,_,_,.nil,s=>s
 |_,_,_,_,.cons r t,s=>.cons r (Vals.append t s)
theorem Vals.take:∀{xs:List V}{us:List ae} (n:Nat),Vals xs us->Vals (xs.take n) (us.take n)
 |_,_,0,_=>.nil
 |_,_,_+1,.nil=>.nil
 |_,_,n+1,.cons r t=>.cons r (Vals.take n t)
theorem Vals.drop:∀{xs:List V}{us:List ae} (n:Nat),Vals xs us->Vals (xs.drop n) (us.drop n)
 |_,_,0,r=>r
 |_,_,_+1,.nil=>.nil
 |_,_,n+1,.cons _ t=>Vals.drop n t
def eK:Option V->Option ae->Prop
 |some v,some u=>RelV v u
 |none,none=>True
 |_,_=>False
def KV{κ:Type}:List (κ×V)->List (κ×ae)->Prop:=Paired λ(p:κ×V) (q:κ×ae)=>p.1=q.1/\RelV p.2 q.2
noncomputable def kV:Key->V
 | .inl i=>.int i
 | .inr x=>.str x
inductive HO where
 |lst (xs:List V)
 |tup (xs:List V)
 |dK (kvs:List (Key×V))|dT (kvs:List (List Key×V))
 |set (S:Int->Bool) (n:Nat)
 |ins (C dx:Addr) (fs:List (Str×V))
 |own (x:Addr)
 |xd (fs:List (Str×V))
 |met (f x:Addr)
 |rng (lo hi:Int)
 |frz (o:Obj) (u:HO)
 |tbl (ps:Array ae)
 |ext (φ:Heap->Prop)
abbrev Hp:=Addr->Option HO
noncomputable def upd(H:Hp)(a:Addr)(o:HO):Hp:=λb=>if b=a then some o else H b
theorem zm{H:Hp}{a:Addr}{o:HO}:upd H a o a=some o:=by unfold upd;rw[if_pos rfl]
theorem qg{H:Hp}{a b:Addr}{o:HO}(h:b≠a):upd H a o b=H b:=by unfold upd;rw[if_neg h]
theorem BU{H:Hp}{a b:Addr}{o u:HO}(h:H a=some o)(h':H b=some u)(d:o≠u):a≠b:=by
 intro e;subst e;rw[h]at h';exact d (bT h')
theorem jf{H:Hp}{a b:Addr}{o:HO}(h:H a=some o)(h':H b=none):a≠b:=by
 intro e;subst e;rw[h]at h';cases h'
section
variable(P:aF)(w:aD)
def zq(H:Hp)(h:Heap)(a:Addr):HO->Prop
 | .lst xs=>xs.length<=aO/\∃(its:List ae) (n:Nat),Vals xs its/\h.get? a=some {cls:=.type "list",data:=.seq its.toArray n}
 | .tup xs=>xs.length<=aO/\∃its:List ae,Vals xs its/\IsTup h a its.toArray
 | .dK kvs=>kvs.length<=aO/\(a==sysModules)=false/\∃vs,KV kvs vs/\h.DictOf (zv P w) a vs
 | .dT kvs=>kvs.length<=aO/\(a==sysModules)=false/\∃xs:List (List Key×Addr×ae),
   Paired (λ(p:List Key×V) (q:List Key×Addr×ae)=>p.1=q.1/\H q.2.1=some (.tup (p.1.map kV))/\RelV p.2 q.2.2) kvs xs /\
   ∃o es ep,h.get? a=some o/\o.ExactDict/\o.data=.dict es ep/\es.toList=xs.map (entryOfKey (tupleKind (zv P w)))/\(xs.map (·.1)).Nodup
 | .set S n=>h.SetOf (intKind P w) a S n
 | .ins C dx fs=>H dx=some (.own a)/\fs.length<=1000/\dx≠a/\h.get? a=some (PySem.W.instObj C dx) /\
   ∃mA,h.Ns1 dx mA/\(∀f,eK (fs.lookup f) (mA f))/\PySem.Within mA (fs.map (·.1))
 | .own _=>∃o,h.get? a=some o
 | .xd fs=>∃mA,h.Ns1 a mA/\∀f,eK (fs.lookup f) (mA f)
 | .rng lo hi=>∃t u v,h.get? a=some {cls:=.type "range",data:=.fields #[.int lo t,.int hi u,.int 1 v]}
 | .frz o u=>h.get? a=some o/\zq H h a u
 | .tbl ps=>h.get? a=some {cls:=.none,data:=.fields ps}
 | .met f x=>h.get? a=some (PySem.W.methodObj (.ref f) (.ref x))
 | .ext φ=>φ h/\(∃o,h.get? a=some o)/\∀h1 h2:Heap,φ h1->(∀o,h1.get? a=some o->h2.get? a=some o)->φ h2
def HOk(H:Hp)(h:Heap):Prop:=∀a o,H a=some o->zq P w H h a o
end
section
variable{P:aF}{w:aD}{H H':Hp}{h h':Heap}{a:Addr}{o:HO}
theorem zq.lt(x:zq P w H h a o):a<h.objs.size:=by
 cases o with
 |lst xs=>obtain⟨_,_,_,_,e⟩:=x;exact aS e
 |tup xs=>obtain⟨_,_,_,p⟩:=x;exact p.lt
 |dK kvs=>obtain⟨_,_,_,_,o,_,_,e,_⟩:=x;exact aS e
 |dT kvs=>obtain⟨_,_,_,_,o,_,_,e,_⟩:=x;exact aS e
 |set S n=>obtain⟨o,_,_,_,e,_⟩:=x;exact aS e
 |ins C dx fs=>obtain⟨_,_,_,e,_⟩:=x;exact aS e
 |own y=>obtain⟨_,e⟩:=x;exact aS e
 |xd fs=>obtain⟨_,⟨_,_,_,e,_⟩,_⟩:=x;exact aS e
 |rng lo hi=>obtain⟨_,_,_,e⟩:=x;exact aS e
 |frz ob u=>obtain⟨e,_⟩:=x;exact aS e
 |tbl ps=>exact aS (show h.get? a=some _ from x)
 |met f y=>exact aS (show h.get? a=some _ from x)
 |ext φ=>obtain⟨_,⟨_,e⟩,_⟩:=x;exact aS e
theorem Paired.mapP{α β:Type}{F G:α->β->Prop}:∀{l₁:List α}{l₂:List β},Paired F l₁ l₂->(∀a b,F a b->G a b)->Paired G l₁ l₂
 |_,_,.nil,_=>.nil
 |_,_,.cons r t,f=>.cons (f _ _ r) (Paired.mapP t f)
theorem zq.stay(x:zq P w H h a o)(k:∀b u,(b=a\/H b=some (.own a))->h.get? b=some u->h'.get? b=some u)
  (ho:∀b,H b=some (.own a)->H' b=some (.own a)) (ht:∀b xs,H b=some (.tup xs)->H' b=some (.tup xs)):zq P w H' h' a o:=by
 induction o with
 |lst xs=>obtain⟨z,its,n,r,e⟩:=x;exact⟨z,its,n,r,k _ _ (.inl rfl) e⟩
 |tup xs=>obtain⟨z,its,r,ob,e,c⟩:=x;exact⟨z,its,r,ob,k _ _ (.inl rfl) e,c⟩
 |dK kvs=>obtain⟨z,y,vs,r,ob,es,ep,e,c⟩:=x;exact⟨z,y,vs,r,ob,es,ep,k _ _ (.inl rfl) e,c⟩
 |dT kvs=>
  obtain⟨z,y,xs,r,ob,es,ep,e,c⟩:=x;exact⟨z,y,xs,Paired.mapP r λp q z=>⟨z.1,ht _ _ z.2.1,z.2.2⟩,ob,es,ep,k _ _ (.inl rfl) e,c⟩
 |set S n=>obtain⟨ob,es,ep,t,e,c⟩:=x;exact⟨ob,es,ep,t,k _ _ (.inl rfl) e,c⟩
 |ins C dx fs=>
  obtain⟨d,z,ne,e,mA,⟨od,es,ep,e2,c⟩,r⟩:=x;exact⟨ho _ d,z,ne,k _ _ (.inl rfl) e,mA,⟨od,es,ep,k _ _ (.inr d) e2,c⟩,r⟩
 |own y=>obtain⟨ob,e⟩:=x;exact⟨ob,k _ _ (.inl rfl) e⟩
 |xd fs=>obtain⟨mA,⟨od,es,ep,e,c⟩,r⟩:=x;exact⟨mA,⟨od,es,ep,k _ _ (.inl rfl) e,c⟩,r⟩
 |rng lo hi=>obtain⟨t,u,v,e⟩:=x;exact⟨t,u,v,k _ _ (.inl rfl) e⟩
 |frz ob u ih=>obtain⟨e,q⟩:=x;exact⟨k _ _ (.inl rfl) e,ih q⟩
 |tbl ps=>
  have e:h.get? a=some {cls:=.none,data:=.fields ps}:=x;show h'.get? a=some {cls:=.none,data:=.fields ps};exact k a _ (.inl rfl) e
 |met f y=>
  have e:h.get? a=some (PySem.W.methodObj (.ref f) (.ref y)):=x;show h'.get? a=some (PySem.W.methodObj (.ref f) (.ref y));exact k a _ (.inl rfl) e
 |ext φ=>obtain⟨p,⟨o,e⟩,st⟩:=x;exact⟨st _ _ p λo q=>k _ _ (.inl rfl) q,⟨o,k _ _ (.inl rfl) e⟩,st⟩
theorem HOk.lt(x:HOk P w H h)(e:H a=some o):a<h.objs.size:=(x a o e).lt
theorem HOk.fresh(x:HOk P w H h)(e:h.objs.size<=a):H a=none:=by
 cases q:H a with
 |none=>rfl
 |some u=>exact absurd (bG (x.lt q) e) (bU _)
theorem HOk.kept(x:HOk P w H h)(k:∀b u,h.get? b=some u->h'.get? b=some u):HOk P w H h':=λa o e=>
 (x a o e).stay (λb u _ q=>k b u q) (λ_ q=>q) λ_ _ q=>q
theorem HOk.laid(x:HOk P w H h)(k:∀b u,h.get? b=some u->h'.get? b=some u)(hp:h.objs.size<=a)(new:zq P w (upd H a o) h' a o):HOk P w (upd H a o) h':=λb u e=>by
 have hn:=x.fresh hp;by_cases hb:b=a
 ·subst hb;rw[zm]at e;cases e;exact new
 ·rw[qg hb]at e;exact(x b u e).stay (λc v _ q=>k c v q) (λc q=>by rw[qg (jf q hn)];exact q) λc xs q=>by rw[qg (jf q hn)];exact q
end
def Rd(H:Hp)(a:Addr)(u:HO):Prop:=H a=some u\/∃o,H a=some (.frz o u)
theorem Rd.of{H:Hp}{a:Addr}{u:HO}(h:H a=some u):Rd H a u:=.inl h
theorem Rd.ok{P:aF}{w:aD}{H:Hp}{h:Heap}{a:Addr}{u:HO}(r:Rd H a u)(x:HOk P w H h):zq P w H h a u:=by
 rcases r with r|⟨o,r⟩
 ·exact x a u r
 ·obtain⟨_,q⟩:=x a _ r;exact q
def Mut:Option HO->Prop
 |some (.lst _)=>True
 |some (.dK _)=>True
 |some (.dT _)=>True
 |some (.set _ _)=>True
 |some (.ins _ _ _)=>True
 |some (.ext _)=>True
 |_=>False
section
variable{P:aF}{w:aD}{H:Hp}{h h':Heap}{x e:Addr}{o':HO}
theorem HOk.write(ok:HOk P w H h)(mu:Mut (H x))(he:e=x\/H e=some (.own x))(k:∀b u,b≠e->h.get? b=some u->h'.get? b=some u)(Io:∃u,h'.get? e=some u)
  (new:zq P w (upd H x o') h' x o'):HOk P w (upd H x o') h':=λb u q=>by
 have ID:∀c y,H c=some (.own y)->c≠x:=λc y r z=>by subst z;rw[r]at mu;exact mu
 have Kl:∀c xs,H c=some (.tup xs)->c≠x:=λc xs r z=>by subst z;rw[r]at mu;exact mu
 by_cases hb:b=x
 ·subst hb;rw[zm]at q;cases q;exact new
 ·rw[qg hb]at q;by_cases HG:b=e
  ·have q':H b=some (.own x):=by
    rcases he with z|z
    ·exact absurd (HG.trans z) hb
    ·rw[HG];exact z
   rw[q]at q';cases q';obtain⟨v,hv⟩:=Io;exact⟨v,by rw[HG];exact hv⟩
  ·refine(ok b u q).stay (λc v hc r=>k c v ?_ r) (λc r=>by rw[qg (ID c b r)];exact r) λc xs r=>by rw[qg (Kl c xs r)];exact r
   rcases hc with rfl|hc
   ·exact HG
   ·rintro rfl;rcases he with z|z
    ·exact ID c b hc z
    ·rw[hc]at z;cases z;exact hb rfl
end
structure Un(fs ex:List Addr)(H H':Hp)(h h':Heap):Prop where
 keep:∀b o,h.get? b=some o->H b=none->b∉fs->b∉ex->h'.get? b=some o
 slot:∀b o,h.get? b=some o->H b=none->b∈fs->b∉ex->∃sl,h'.get? b=some {o with slots:=sl}
 free:∀b o,h.get? b=some o->H b=none->b∉ex->H' b=none
 there:∀b o,h.get? b=some o->b∉ex->∃o',h'.get? b=some o'
 tups:∀b xs,H b=some (.tup xs)->H' b=some (.tup xs)
 frzs:∀b o u,H b=some (.frz o u)->H' b=some (.frz o u)
 tbls:∀b ps,H b=some (.tbl ps)->∃more,H' b=some (.tbl (ps++more))
section
variable{fs fs' ex ex':List Addr}{H H1 H2:Hp}{h h1 h2 h':Heap}{a x e:Addr}{o:HO}
theorem Un.any(u:Un fs ex H H1 h h1){b:Addr}{ob:Obj}(q:h.get? b=some ob)(n:H b=none)(hx:b∉ex):∃sl,h1.get? b=some {ob with slots:=sl}:=by
 by_cases hb:b∈fs
 ·exact u.slot b ob q n hb hx
 ·exact⟨ob.slots,u.keep b ob q n hb hx⟩
theorem Un.kept(k:∀b u,h.get? b=some u->h'.get? b=some u):Un fs ex H H h h':=
 ⟨λb ob q _ _ _=>k b ob q,λb ob q _ _ _=>⟨ob.slots,k b ob q⟩,λ_ _ _ n _=>n,λb ob q _=>⟨ob,k b ob q⟩,λ_ _ q=>q,λ_ _ _ q=>q,λ_ ps q=>⟨#[],by rw[q];simp⟩⟩
theorem Un.refl:Un fs ex H H h h:=Un.kept λ_ _ q=>q
theorem Un.laid(k:∀b u,h.get? b=some u->h'.get? b=some u)(hp:h.objs.size<=a)(hn:H a=none):Un fs ex H (upd H a o) h h' where
 keep:=λb u q _ _ _=>k b u q
 slot:=λb u q _ _ _=>⟨u.slots,k b u q⟩
 free:=λb u q n _=>by rw[qg (bg (bG (aS q) hp))];exact n
 there:=λb u q _=>⟨u,k b u q⟩
 tups:=λb xs q=>by rw[qg (jf q hn)];exact q
 frzs:=λb u xs q=>by rw[qg (jf q hn)];exact q
 tbls:=λb ps q=>⟨#[],by rw[qg (jf q hn),q];simp⟩
theorem Un.write(mu:Mut (H x))(he:e=x\/H e=some (.own x))(k:∀b u,b≠e->h.get? b=some u->h'.get? b=some u)(Io:∃u,h'.get? e=some u):Un fs ex H (upd H x o) h h':=by
 have hx:∀b,H b=none->b≠x:=λb n z=>by subst z;rw[n]at mu;exact mu
 have hb:∀b,H b=none->b≠e:=λb n z=>by
  subst z;rcases he with r|r
  ·exact hx b n r
  ·rw[n]at r;cases r
 have hm:∀b u,H b=some u->¬ Mut (some u)->b≠x:=λb u q nm z=>by subst z;rw[q]at mu;exact nm mu
 refine⟨λb u q n _ _=>k b u (hb b n) q,λb u q n _ _=>⟨u.slots,k b u (hb b n) q⟩,λb u q n _=>by rw[qg (hx b n)];exact n,λb u q _=>?_,
  λb xs q=>by rw[qg (hm b _ q λz=>z)];exact q,λb u xs q=>by rw[qg (hm b _ q λz=>z)];exact q,λb ps q=>⟨#[],by rw[qg (hm b _ q λz=>z),q];simp⟩⟩
 by_cases HG:b=e
 ·subst HG;exact Io
 ·exact⟨u,k b u HG q⟩
end
noncomputable def trk(h:Heap)(H:Hp):List Addr:=(bW h.objs.size).filter λa=>(H a).isSome
noncomputable def fh(h:Heap)(H:Hp):Heap:=PySem.W.hideAll h (trk h H)
theorem yg(h:Heap)(H:Hp):(fh h H).objs.size=h.objs.size:=PySem.W.hideAll_size _ _
theorem yH{h:Heap}{H:Hp}{b:Addr}{o:Obj}(e:h.get? b=some o)(n:H b=none):(fh h H).get? b=some o:=
 d_ _ e λhm=>by
  have q:(H b).isSome=true:=(bu.mp hm).2;rw[n]at q;simp at q
theorem yT{h:Heap}{H:Hp}{b:Addr}{o:Obj}(e:(fh h H).get? b=some o):h.get? b=some o/\H b=none:=by
 have e':h.get? b=some o:=PySem.W.of_hideAll (trk h H) e;refine⟨e',?_⟩;cases q:H b with
 |none=>rfl
 |some x=>
  have hm:b∈trk h H:=bu.mpr ⟨List.mem_range.mpr (aS e'),by simp[q]⟩;have z:(fh h H).get? b=none:=PySem.W.hideAll_none (trk h H) hm;rw[z]at e;cases e
noncomputable def jE(g h:Heap)(L:Addr):List (Addr×Obj):=(bW h.objs.size).filterMap λa=>if a=L\/(g.get? a).isSome=true then none else (h.get? a).map λo=>(a,o)
theorem pX{g h:Heap}{L a:Addr}{o:Obj}(h1:a≠L)(h2:g.get? a=none)(h3:h.get? a=some o):(a,o)∈jE g h L:=
 List.mem_filterMap.mpr ⟨a,List.mem_range.mpr (aS h3),by simp[h1,h2,h3]⟩
theorem yW{g h:Heap}{L:Addr}{p:Addr×Obj}(hp:p∈jE g h L):p.1≠L/\g.get? p.1=none/\h.get? p.1=some p.2:=by
 obtain⟨b,_,e⟩:=List.mem_filterMap.mp hp;split at e
 ·cases e
 ·rename_i hn
  cases q:h.get? b with
  |none=>rw[q]at e;simp at e
  |some u=>
   rw[q]at e;simp only[Option.map_some,cz]at e;subst e;refine⟨λz=>hn (.inl z),?_,q⟩;show g.get? b=none;cases r:g.get? b with
   |none=>rfl
   |some v=>exact(hn (.inr (by simp[r]))).elim
noncomputable def rest(g h:Heap)(L d:Addr):List (Addr×Obj):=(jE g h L).filter λp=>decide (p.1≠d)
theorem y6{g h:Heap}{L:Addr}:News g L h (jE g h L):=λp hp=>let ⟨a,b,c⟩:=yW hp;⟨c,a,b⟩
structure Mod(K:aB)(mg:Str->Option ae)(base:Heap):Prop where
 kin:K.In base
 glob:base.Ns ar mg
 blt:∃mb,base.Ns builtinsNs mb/\∀x:Str,x≠"__name__"->mb x=bV x
 nolimit:base.NoLimit
structure Cx where
 prog:aF
 w:aD
 K:aB
 mg:Str->Option ae
 base:Heap
 A:aE
 N:List Str
 s₀:af
 H₀:Hp
 env:Env
 outer:List Env
 stack:List Env
 ex:List Addr
 fn:Str->Bool
 calm:Bool
 pn:List (Addr×Obj)
 xe:ae->af->Prop
noncomputable def frs(l:List Env):List Addr:=l.filterMap (·.frame)
abbrev Cx.fs(X:Cx):List Addr:=frs X.outer
def fi(sc:a8)(x:Str):Prop:=sc.names.lookup x=some .local\/sc.names.lookup x=some .cell\/sc.names.lookup x=some .free
def Loc(sc:a8)(x:Str):Prop:=sc.names.lookup x=some .local\/sc.names.lookup x=some .cell
def Look(env:Env)(h:Heap)(m:Str->Option ae)(x:Str)(u:ae):Prop:=
 (env.kindOf x=some .local/\m x=some u)\/((env.kindOf x=some .cell\/env.kindOf x=some .free)/\∃c,env.cells.lookup x=some c/\h.IsCell c (some u))
structure Cx.Ok(X:Cx):Prop where
 mod:Mod X.K X.mg X.base
 kind:X.env.scope.kind=.function
 glob:X.env.globals=ar
 blt:X.env.builtins=builtinsNs
 above:X.s₀.heap.objs.size<=X.env.locals
 inj:∀x y c,X.env.cells.lookup x=some c->X.env.cells.lookup y=some c->x=y
 has:∀x,(X.env.kindOf x=some .cell\/X.env.kindOf x=some .free)->∃c,X.env.cells.lookup x=some c
 cab:∀x c,X.fn x=true->X.env.cells.lookup x=some c->X.s₀.heap.objs.size<=c
 hd:X.calm=true->X.A.handled=none
 frames:X.A.frames=some X.stack
 stk:X.stack=X.outer\/(X.stack=X.env::X.outer/\X.env.frame=some X.env.locals)
 exf:∀b∈X.ex,b≠X.env.locals/\∀x c,X.env.cells.lookup x=some c->c≠b
 bs:∀b o,X.base.get? b=some o->X.s₀.heap.get? b=some o/\X.H₀ b=none
 bsz:X.base.objs.size<=X.s₀.heap.objs.size
 noex:∀b o,X.base.get? b=some o->b∉X.ex
 exfs:∀b∈X.ex,b∉X.fs
 funs:X.s₀.heap.FunFrames X.base X.outer
 frf:∀b∈X.fs,X.H₀ b=none
structure Inv(X:Cx)(pins:List (Addr×Obj))(σ:List (Option V))(H:Hp)(s:af):Prop where
 ok:X.Ok
 os:s.os=X.s₀.os
 bare:AllBare s.gens
 base:Un X.fs X.ex X.H₀ H X.s₀.heap s.heap
 loc:∃m,s.heap.Ns X.env.locals m/\∀(i:Nat) (x:Str) (v:V),X.N[i]? = some x->σ[i]? = some (some v)->fi X.env.scope x->∃u,RelV v u/\Look X.env s.heap m x u
 cell:∀x c,X.env.cells.lookup x=some c->∃v,s.heap.IsCell c v
 free:H X.env.locals=none
 freeC:∀x c,X.env.cells.lookup x=some c->H c=none
 pin:∀p∈X.pn++pins,s.heap.get? p.1=some p.2/\H p.1=none/\p.1≠X.env.locals/\p.1∉X.fs/\∀v,p.2.data≠.cell v
 hok:HOk X.prog X.w H s.heap
 len:σ.length=X.N.length
section
variable{X:Cx}{pins:List (Addr×Obj)}{σ:List (Option V)}{H H':Hp}{s:af}{h':Heap}
theorem Cx.Ok.nofr(ok:X.Ok){b:Addr}{o:Obj}(e:X.base.get? b=some o):b∉X.fs:=λhb=>by
 have:=(ok.funs.mem hb).1;rw[e]at this;cases this
theorem Inv.bs(I:Inv X pins σ H s):∀b o,X.base.get? b=some o->s.heap.get? b=some o/\H b=none:=λb o e=>
 ⟨I.base.keep b o (I.ok.bs b o e).1 (I.ok.bs b o e).2 (I.ok.nofr e) (I.ok.noex b o e),I.base.free b o (I.ok.bs b o e).1 (I.ok.bs b o e).2 (I.ok.noex b o e)⟩
theorem Inv.bk(I:Inv X pins σ H s):∀b o,X.base.get? b=some o->s.heap.get? b=some o:=λb o e=>(I.bs b o e).1
theorem Inv.mod(I:Inv X pins σ H s):Mod X.K X.mg X.base:=I.ok.mod
theorem Inv.kIn(I:Inv X pins σ H s):X.K.In s.heap:=I.ok.mod.kin.keeps I.bk
theorem Inv.nolimit(I:Inv X pins σ H s):s.heap.NoLimit:=I.ok.mod.nolimit.keeps I.bk
theorem Inv.fr(I:Inv X pins σ H s):∃m,Fr X.base X.env.locals s.heap m:=
 let ⟨m,hn,_⟩:=I.loc
 ⟨m,hn,I.bk,bB I.ok.bsz I.ok.above⟩
theorem Inv.lt(I:Inv X pins σ H s):X.env.locals<s.heap.objs.size:=let ⟨_,hn,_⟩:=I.loc;hn.lt
theorem Inv.sz(I:Inv X pins σ H s):X.s₀.heap.objs.size<=s.heap.objs.size:=bB I.ok.above (Nat.le_of_lt I.lt)
theorem Inv.nofs(I:Inv X pins σ H s){a:Addr}(h:s.heap.objs.size<=a):a∉X.fs:=λhb=>by
 obtain⟨_,o,ho,_⟩:=I.ok.funs.mem hb;exact absurd (bG (aS ho) (bB I.sz h)) (bU _)
theorem Inv.cne(I:Inv X pins σ H s):∀x c,X.env.cells.lookup x=some c->c≠X.env.locals:=λx c e z=>by
 obtain⟨v,o,ho,hd⟩:=I.cell x c e;obtain⟨m,⟨o',es,ep,Gn,FJ,_⟩,_⟩:=I.loc;rw[z,Gn]at ho;cases ho;rw[FJ]at hd;cases hd
theorem Inv.funs(I:Inv X pins σ H s):s.heap.FunFrames X.base X.outer:=by
 have all:∀(l:List Env),(∀b∈frs l,b∈X.fs)->X.s₀.heap.FunFrames X.base l->s.heap.FunFrames X.base l:=by
  intro l
  induction l with
  |nil=>intro _ _;trivial
  |cons env r ih=>
   intro hs hl;obtain⟨hk,⟨L,o,hf,hn,ho,hd⟩,hr⟩:=hl;have hL:L∈X.fs:=hs L (by unfold frs;rw[List.filterMap_cons,hf];exact aM);obtain⟨sl,e⟩:=I.base.slot L o ho (I.ok.frf L hL) hL λz=>I.ok.exfs L z hL
   exact⟨hk,⟨L,_,hf,hn,e,hd⟩,ih (λb hb=>hs b (by unfold frs;rw[List.filterMap_cons,hf];exact aR _ hb)) hr⟩
 exact all X.outer (λ_ hb=>hb) I.ok.funs
theorem Inv.stack(I:Inv X pins σ H s):s.heap.FunFrames X.base X.stack:=by
 rcases I.ok.stk with e|⟨e,hf⟩
 ·rw[e];exact I.funs
 ·rw[e];obtain⟨m,hn,_⟩:=I.loc;refine .cons (by rw[I.ok.kind];decide) hf hn ?_ I.funs;exact Heap.get?_none_of_le (bB I.ok.bsz I.ok.above)
theorem Inv.stkSub(I:Inv X pins σ H s):∀b∈frs X.stack,b∈X.env.locals::X.fs:=λb hb=>by
 rcases I.ok.stk with e|⟨e,hf⟩
 ·rw[e]at hb;exact aR _ hb
 ·rw[e]at hb;unfold frs at hb;rw[List.filterMap_cons,hf]at hb;exact hb
theorem Inv.stkFree(I:Inv X pins σ H s):∀b∈frs X.stack,H b=none:=λb hb=>by
 rcases aI.mp (I.stkSub b hb)with e|hb
 ·rw[e];exact I.free
 ·obtain⟨_,o,ho,_⟩:=I.ok.funs.mem hb;exact I.base.free b o ho (I.ok.frf b hb) λz=>I.ok.exfs b z hb
theorem Inv.step{g':Array GenState}{t':Nat}{d':Drawn}{ch:List Addr}(I:Inv X pins σ H s)
  (Gp:∀b∈ch,(b∈X.ex\/X.s₀.heap.objs.size<=b)/\b≠X.env.locals/\(∀x c,X.env.cells.lookup x=some c->c≠b)/\∀p∈X.pn++pins,p.1≠b)
  (keep:∀b o,b≠X.env.locals->b∉X.fs->b∉ch->s.heap.get? b=some o->H b=none->h'.get? b=some o)
  (slot:∀b o,b≠X.env.locals->b∈X.fs->b∉ch->s.heap.get? b=some o->H b=none->∃sl,h'.get? b=some {o with slots:=sl}) (free:∀b o,b∉ch->s.heap.get? b=some o->H b=none->H' b=none)
  (there:∀b o,b∉ch->s.heap.get? b=some o->∃o',h'.get? b=some o')
  (tups:∀b xs,H b=some (.tup xs)->H' b=some (.tup xs)) (frzs:∀b o u,H b=some (.frz o u)->H' b=some (.frz o u)) (tbls:∀b ps,H b=some (.tbl ps)->∃more,H' b=some (.tbl (ps++more)))
  (ns:∀m,s.heap.Ns X.env.locals m->h'.Ns X.env.locals m) (hok:HOk X.prog X.w H' h') (hg:AllBare g') :
  Inv X pins σ H' {s with heap:=h',gens:=g',drawn:=d',toks:=t'}:=by
 have Jw:∀b o,X.s₀.heap.get? b=some o->b≠X.env.locals:=λb o e=>bg (bG (aS e) I.ok.above)
 have HH:∀b o,X.s₀.heap.get? b=some o->b∉X.ex->b∉ch:=λb o e hx hb=>by
  rcases(Gp b hb).1 with z|z
  ·exact hx z
  ·exact absurd (bG (aS e) z) (bU _)
 have cellK:∀x c,X.env.cells.lookup x=some c->∀v,s.heap.IsCell c v->h'.IsCell c v:=λx c e v ⟨o,ho,hd⟩=>by
  have Gf:c∉ch:=λz=>(Gp c z).2.2.1 x c e rfl
  by_cases hc:c∈X.fs
  ·obtain⟨sl,q⟩:=slot c o (I.cne x c e) hc Gf ho (I.freeC x c e);exact⟨_,q,hd⟩
  ·exact⟨o,keep c o (I.cne x c e) hc Gf ho (I.freeC x c e),hd⟩
 refine⟨I.ok,I.os,hg,⟨λb o e n hb hx=>?_,λb o e n hb hx=>?_,λb o e n hx=>?_,λb o e hx=>?_,λb xs e=>tups b xs (I.base.tups b xs e),λb o xs e=>frzs b o xs (I.base.frzs b o xs e),λb ps e=>?_⟩,?_,λx c e=>?_,?_,λx c e=>?_,λp hp=>?_,hok,I.len⟩
 ·exact keep b o (Jw b o e) hb (HH b o e hx) (I.base.keep b o e n hb hx) (I.base.free b o e n hx)
 ·obtain⟨sl,e1⟩:=I.base.slot b o e n hb hx;obtain⟨Jx,e2⟩:=slot b _ (Jw b o e) hb (HH b o e hx) e1 (I.base.free b o e n hx);exact⟨Jx,e2⟩
 ·obtain⟨o',e1⟩:=I.base.there b o e hx;exact free b o' (HH b o e hx) e1 (I.base.free b o e n hx)
 ·obtain⟨o',e1⟩:=I.base.there b o e hx;exact there b o' (HH b o e hx) e1
 ·obtain⟨m1,e1⟩:=I.base.tbls b ps e;obtain⟨m2,e2⟩:=tbls b _ e1;exact⟨m1++m2,by rw[e2,Array.append_assoc]⟩
 ·obtain⟨m,hn,hl⟩:=I.loc;refine⟨m,ns m hn,λi x v e1 e2 e3=>?_⟩;obtain⟨u,r,l⟩:=hl i x v e1 e2 e3;refine⟨u,r,?_⟩;rcases l with l|⟨k,c,e,z⟩
  ·exact .inl l
  ·exact .inr ⟨k,c,e,cellK x c e _ z⟩
 ·obtain⟨v,z⟩:=I.cell x c e;exact⟨v,cellK x c e v z⟩
 ·obtain⟨m,⟨o,_,_,ho,_⟩,_⟩:=I.loc;exact free _ o (λz=>(Gp _ z).2.1 rfl) ho I.free
 ·obtain⟨v,o,ho,hd⟩:=I.cell x c e;exact free c o (λz=>(Gp c z).2.2.1 x c e rfl) ho (I.freeC x c e)
 ·obtain⟨e,n,ne,nf,d⟩:=I.pin p hp;have Gf:p.1∉ch:=λz=>(Gp p.1 z).2.2.2 p hp rfl
  exact⟨keep p.1 p.2 ne nf Gf e n,free p.1 p.2 Gf e n,ne,nf,d⟩
theorem Inv.un{t':Nat}(I:Inv X pins σ H s)(u:Un X.fs [] H H' s.heap h')(hok:HOk X.prog X.w H' h'):Inv X pins σ H' {s with heap:=h',toks:=t'}:=by
 obtain⟨m,⟨o,es,ep,ho,r⟩,_⟩:=id I.loc;obtain⟨sl,hL⟩:=u.any ho I.free (by simp);exact I.step (g':=s.gens) (d':=s.drawn) (ch:=[]) (λ_ z=>nomatch z) (λb o _ hb _ e n=>u.keep b o e n hb (by simp)) (λb o _ hb _ e n=>u.slot b o e n hb (by simp)) (λb o _ e n=>u.free b o e n (by simp)) (λb o _ e=>u.there b o e (by simp)) u.tups u.frzs u.tbls (λm' hm=>by
  obtain⟨o',IE,IF,Gn,r'⟩:=hm;rw[ho]at Gn;cases Gn;exact⟨_,IE,IF,hL,r'⟩) hok I.bare
theorem Inv.call{g':Array GenState}{t':Nat}{d':Drawn}{ch:List Addr}(I:Inv X pins σ H s)(u:Un (frs X.stack) ch H H' s.heap h')(hok:HOk X.prog X.w H' h')(hg:AllBare g')
  (Gp:∀b∈ch,(b∈X.ex\/X.s₀.heap.objs.size<=b)/\b≠X.env.locals/\(∀x c,X.env.cells.lookup x=some c->c≠b)/\∀p∈X.pn++pins,p.1≠b) :
  Inv X pins σ H' {s with heap:=h',gens:=g',drawn:=d',toks:=t'}:=by
 obtain⟨m,⟨o,es,ep,ho,r⟩,_⟩:=id I.loc;obtain⟨sl,hL⟩:=u.any ho I.free λz=>(Gp _ z).2.1 rfl
 exact I.step (ch:=ch) Gp (λb o hL hb hc e n=>u.keep b o e n (λz=>(aI.mp (I.stkSub b z)).elim hL hb) hc) (λb o _ _ hc e n=>u.any e n hc) (λb o hc e n=>u.free b o e n hc) (λb o hc e=>u.there b o e hc) u.tups u.frzs u.tbls (λm' hm=>by
  obtain⟨o',IE,IF,Gn,r'⟩:=hm;rw[ho]at Gn;cases Gn;exact⟨_,IE,IF,hL,r'⟩) hok hg
theorem Inv.turned{t':Nat}{it:Addr}(I:Inv X pins σ H s)(k:∀b o,b≠it->s.heap.get? b=some o->h'.get? b=some o)(hn:H it=none)(hL:it≠X.env.locals)
  (h1:it∈X.ex\/X.s₀.heap.objs.size<=it) (h2:∀x c,X.env.cells.lookup x=some c->c≠it) (h3:∀p∈X.pn++pins,p.1≠it):Inv X pins σ H {s with heap:=h',toks:=t'}:=by
 have Ln:∀b u,H b=some u->b≠it:=λb u e z=>by rw[z,hn]at e;cases e
 refine I.step (g':=s.gens) (d':=s.drawn) (ch:=[it]) (λb hb=>?_) (λb o _ _ hc e _=>k b o (λz=>hc (by simp[z])) e) (λb o _ _ hc e _=>⟨o.slots,k b o (λz=>hc (by simp[z])) e⟩) (λ_ _ _ _ n=>n)
  (λb o hc e=>⟨o,k b o (λz=>hc (by simp[z])) e⟩) (λ_ _ e=>e) (λ_ _ _ e=>e) (λb ps e=>⟨#[],by rw[e];simp⟩) (λm hm=>?_) (λb u e=>?_) I.bare
 ·have e:b=it:=by simpa using hb
  subst e;exact⟨h1,hL,h2,h3⟩
 ·obtain⟨o,es,ep,ho,r⟩:=hm;exact⟨o,es,ep,k _ o (Ne.symm hL) ho,r⟩
 ·refine(I.hok b u e).stay (λc v hc q=>k c v ?_ q) (λ_ q=>q) λ_ _ q=>q
  rcases hc with z|z
  ·rw[z];exact Ln b u e
  ·exact Ln c _ z
theorem Inv.tok(I:Inv X pins σ H s)(t:Nat):Inv X pins σ H {s with toks:=t}:=I.un (h':=s.heap) (t':=t) Un.refl I.hok
theorem Inv.kept{t':Nat}(I:Inv X pins σ H s)(k:∀b u,s.heap.get? b=some u->h'.get? b=some u):Inv X pins σ H {s with heap:=h',toks:=t'}:=I.un (Un.kept k) (I.hok.kept k)
theorem Inv.laid{a:Addr}{o:HO}{t':Nat}(I:Inv X pins σ H s)(k:∀b u,s.heap.get? b=some u->h'.get? b=some u)(hp:s.heap.objs.size<=a)(new:zq X.prog X.w (upd H a o) h' a o) :
  Inv X pins σ (upd H a o) {s with heap:=h',toks:=t'}:=I.un (Un.laid k hp (I.hok.fresh hp)) (I.hok.laid k hp new)
theorem Inv.write{x e:Addr}{o:HO}{t':Nat}(I:Inv X pins σ H s)(mu:Mut (H x))(he:e=x\/H e=some (.own x))(k:∀b u,b≠e->s.heap.get? b=some u->h'.get? b=some u)(Io:∃u,h'.get? e=some u)
  (new:zq X.prog X.w (upd H x o) h' x o):Inv X pins σ (upd H x o) {s with heap:=h',toks:=t'}:=I.un (Un.write mu he k Io) (I.hok.write mu he k Io new)
theorem Inv.pins_of{FH:List (Addr×Obj)}(I:Inv X pins σ H s)(h:∀p∈FH,s.heap.get? p.1=some p.2/\H p.1=none/\p.1≠X.env.locals/\p.1∉X.fs/\∀v,p.2.data≠.cell v):Inv X FH σ H s:=
 ⟨I.ok,I.os,I.bare,I.base,I.loc,I.cell,I.free,I.freeC,λp hp=>(List.mem_append.mp hp).elim (λz=>I.pin p (List.mem_append_left _ z)) (h p),I.hok,I.len⟩
theorem sf{N:List Str}(hN:N.Nodup){i j:Nat}{x:Str}(a:N[i]? = some x)(b:N[j]? = some x):i=j:=by
 obtain⟨h1,e1⟩:=List.getElem?_eq_some_iff.mp a;obtain⟨h2,e2⟩:=List.getElem?_eq_some_iff.mp b;exact(List.getElem_inj hN).mp (e1.trans e2.symm)
theorem nE{M:Model}{A:aE}{E:ae->af->Prop}{i:Nat}{x:Str}{v:V}{u:ae}{Q:Unit->af->Prop}(I:Inv X pins σ H s)(hN:X.N.Nodup)(hi:X.N[i]? = some x)(hx:Loc X.env.scope x)(r:RelV v u)
  (h:∀s',Inv X pins (σ.set i (some v)) H s'->(∃a,Heap.SameBut a s.heap s'.heap/\(a=X.env.locals\/X.env.cells.lookup x=some a))->Q () s') (hf:X.fn x=true\/X.env.scope.names.lookup x=some .local):aq M A (storeName X.env x u) Q E s:=by
 obtain⟨m,hn,hl⟩:=id I.loc;have HI:(X.env.scope.kind==.class||(X.env.scope.kind==.module&&X.env.locals != X.env.globals))=false:=by rw[I.ok.kind];rfl
 have hiσ:i<σ.length:=by rw[I.len];exact(List.getElem?_eq_some_iff.mp hi).1
 have cne:=I.cne;have tracked:∀{a:Addr}{h':Heap},(∃o,s.heap.get? a=some o/\H a=none)->Heap.SameBut a s.heap h'->HOk X.prog X.w H h':=λ{a h'} ha hs b ob e=>by
  obtain⟨_,_,Hy⟩:=ha;refine(I.hok b ob e).stay (λc w' hc q=>(hs.2 c ?_).trans q) (λ_ q=>q) λ_ _ q=>q
  rintro rfl;rcases hc with rfl|hc
  ·rw[Hy]at e;cases e
  ·rw[Hy]at hc;cases hc
 rcases hx with hk|hk
 ·refine wpAny_storeName_local hk hn (λh' IG hs=>?_) HI;obtain⟨oL,_,_,Ga,_⟩:=id hn;refine h _ ⟨I.ok,I.os,I.bare,⟨λb o e n hb hx=>?_,λb o e n hb hx=>?_,I.base.free,λb o e hx=>?_,I.base.tups,I.base.frzs,I.base.tbls⟩,⟨_,IG,λj y v' e1 e2 e3=>?_⟩,λy c e=>?_,I.free,I.freeC,λp hp=>?_,tracked ⟨oL,Ga,I.free⟩ hs,by simpa using I.len⟩ ⟨_,hs,.inl rfl⟩
  ·exact(hs.2 b (bg (bG (aS e) I.ok.above))).trans (I.base.keep b o e n hb hx)
  ·obtain⟨sl,e1⟩:=I.base.slot b o e n hb hx;exact⟨sl,(hs.2 b (bg (bG (aS e) I.ok.above))).trans e1⟩
  ·obtain⟨o',e1⟩:=I.base.there b o e hx;exact⟨o',(hs.2 b (bg (bG (aS e) I.ok.above))).trans e1⟩
  ·by_cases hj:j=i
   ·subst hj;rw[hi]at e1;cases e1;rw[List.getElem?_set_self hiσ]at e2;cases e2;exact⟨u,r,.inl ⟨hk,by simp⟩⟩
   ·rw[List.getElem?_set_ne (Ne.symm hj)]at e2;obtain⟨u',r',q⟩:=hl j y v' e1 e2 e3;refine⟨u',r',?_⟩;rcases q with ⟨k,e⟩|⟨k,c,e,z⟩
    ·refine .inl ⟨k,?_⟩;have:y≠x:=λe=>hj (sf hN e1 (e▸hi))
     simp[this,e]
    ·exact .inr ⟨k,c,e,z.sameBut hs (cne y c e)⟩
  ·obtain⟨w',z⟩:=I.cell y c e;exact⟨w',z.sameBut hs (cne y c e)⟩
  ·obtain⟨e,n,ne,nf,d⟩:=I.pin p hp;exact⟨(hs.2 p.1 ne).trans e,n,ne,nf,d⟩
 ·have Km:X.fn x=true:=by
   rcases hf with z|z
   ·exact z
   ·rw[z]at hk;cases hk
  obtain⟨c,hc⟩:=I.ok.has x (.inl hk);obtain⟨w',z⟩:=I.cell x c hc;refine wpAny_storeName_cell I.ok.kind hk hc z (λh' Hc hs=>?_);obtain⟨oc,Lo,Kn⟩:=id z;refine h {s with heap:=h'} ⟨I.ok,I.os,I.bare,⟨λb o e n hb hx=>?_,λb o e n hb hx=>?_,I.base.free,λb o e hx=>?_,I.base.tups,I.base.frzs,I.base.tbls⟩,⟨m,hn.sameBut hs (Ne.symm (cne x c hc)),λj y v' e1 e2 e3=>?_⟩,λy c' e=>?_,I.free,I.freeC,λp hp=>?_,tracked ⟨oc,Lo,I.freeC x c hc⟩ hs,by simpa using I.len⟩ ⟨c,hs,.inr hc⟩
  ·exact(hs.2 b (bg (bG (aS e) (I.ok.cab x c Km hc)))).trans (I.base.keep b o e n hb hx)
  ·obtain⟨sl,e1⟩:=I.base.slot b o e n hb hx;exact⟨sl,(hs.2 b (bg (bG (aS e) (I.ok.cab x c Km hc)))).trans e1⟩
  ·obtain⟨o',e1⟩:=I.base.there b o e hx;exact⟨o',(hs.2 b (bg (bG (aS e) (I.ok.cab x c Km hc)))).trans e1⟩
  ·by_cases hj:j=i
   ·subst hj;rw[hi]at e1;cases e1;rw[List.getElem?_set_self hiσ]at e2;cases e2;exact⟨u,r,.inr ⟨.inl hk,c,hc,Hc⟩⟩
   ·rw[List.getElem?_set_ne (Ne.symm hj)]at e2;obtain⟨u',r',q⟩:=hl j y v' e1 e2 e3;refine⟨u',r',?_⟩;rcases q with q|⟨k,c',e,z'⟩
    ·exact .inl q
    ·refine .inr ⟨k,c',e,z'.sameBut hs ?_⟩;rintro rfl;exact hj (sf hN e1 (I.ok.inj _ _ _ e hc▸hi))
  ·by_cases Lp:c'=c
   ·subst Lp;exact⟨_,Hc⟩
   ·obtain⟨w2,z2⟩:=I.cell y c' e;exact⟨w2,z2.sameBut hs Lp⟩
  ·obtain⟨e,n,ne,nf,d⟩:=I.pin p hp;refine⟨(hs.2 p.1 ?_).trans e,n,ne,nf,d⟩;intro q;rw[q,Lo]at e;have q':oc=p.2:=bT e;exact d w' (by rw[<-q'];exact Kn)
theorem iK{M:Model}{A:aE}{E:ae->af->Prop}{i:Nat}{x:Str}{v:V}{u:ae}{Q:Unit->af->Prop}(I:Inv X pins σ H s)(hN:X.N.Nodup)(hi:X.N[i]? = some x)(hx:Loc X.env.scope x)(r:RelV v u)
  (h:∀s',Inv X pins (σ.set i (some v)) H s'->Q () s') (hf:X.fn x=true\/X.env.scope.names.lookup x=some .local):aq M A (storeName X.env x u) Q E s:=
 nE I hN hi hx r (λs' I' _=>h s' I') hf
theorem Inv.call'{s':af}{ch:List Addr}(I:Inv X pins σ H s)(ho:s'.os=s.os)(u:Un (frs X.stack) ch H H' s.heap s'.heap)(hok:HOk X.prog X.w H' s'.heap)(hg:AllBare s'.gens)
  (Gp:∀b∈ch,(b∈X.ex\/X.s₀.heap.objs.size<=b)/\b≠X.env.locals/\(∀x c,X.env.cells.lookup x=some c->c≠b)/\∀p∈X.pn++pins,p.1≠b):Inv X pins σ H' s':=by
 obtain⟨h',g',d',t',o'⟩:=s';have e:o'=s.os:=ho;subst e;exact I.call (g':=g') (t':=t') (d':=d') u hok hg Gp
end
abbrev XK:=ae->Option Addr->Hp->Prop
abbrev St:=List (Option V)
abbrev VK:=V->Hp->Prop
abbrev TE:=St->Hp->VK->Prop
abbrev TT:=St->Hp->(Bool->Hp->Prop)->Prop
abbrev TA:=St->Hp->(List V->Hp->Prop)->Prop
structure Ends where
 nx:St->Hp->Prop
 rt:VK
 bk:St->Hp->Prop:=λ_ _=>False
 ct:St->Hp->Prop:=λ_ _=>False
abbrev TS:=Ends->St->Hp->Prop
def EP(X:Cx)(pins:List (Addr×Obj))(σ:St)(Q:VK)(u:ae)(s':af):Prop:=∃v H',Inv X pins σ H' s'/\RelV v u/\Q v H'
def TP(X:Cx)(pins:List (Addr×Obj))(σ:St)(Q:Bool->Hp->Prop)(b:Bool)(s':af):Prop:=∃H',Inv X pins σ H' s'/\Q b H'
def AP(X:Cx)(pins:List (Addr×Obj))(σ:St)(Q:List V->Hp->Prop)(us:List ae)(s':af):Prop:=∃vs H',Inv X pins σ H' s'/\Vals vs us/\Q vs H'
def SP(X:Cx)(pins:List (Addr×Obj))(D:Ends)(f:Flow)(s':af):Prop:=
 match f with
 | .next=>∃σ' H',Inv X pins σ' H' s'/\D.nx σ' H'
 | .brk=>∃σ' H',Inv X pins σ' H' s'/\D.bk σ' H'
 | .cont=>∃σ' H',Inv X pins σ' H' s'/\D.ct σ' H'
 | .ret u=>∃v σ' H',Inv X pins σ' H' s'/\RelV v u/\D.rt v H'
def PE(X:Cx)(e:Expr)(t:TE):Prop:=
 ∀(pins:List (Addr×Obj)) (s:af) (σ:St) (H:Hp) (Q:VK),Inv X pins σ H s->t σ H Q->aq (ao X.prog X.w) X.A (eval e X.env) (EP X pins σ Q) X.xe s
def PT(X:Cx)(e:Expr)(t:TT):Prop:=
 ∀(pins:List (Addr×Obj)) (s:af) (σ:St) (H:Hp) (Q:Bool->Hp->Prop),Inv X pins σ H s->t σ H Q->aq (ao X.prog X.w) X.A (isTrue e X.env (eval e X.env)) (TP X pins σ Q) X.xe s
def PW(X:Cx)(e:Expr)(t:TT):Prop:=
 ∀(whole:Sem ae) (pins:List (Addr×Obj)) (s:af) (σ:St) (H:Hp) (Q:Bool->Hp->Prop),Inv X pins σ H s->t σ H Q->aq (ao X.prog X.w) X.A (isTrue e X.env whole) (TP X pins σ Q) X.xe s
theorem PW.pt{X:Cx}{e:Expr}{t:TT}(h:PW X e t):PT X e t:=h _
def PA(X:Cx)(es:List Expr)(t:TA):Prop:=
 ∀(pos:Pos) (pins:List (Addr×Obj)) (s:af) (σ:St) (H:Hp) (Q:List V->Hp->Prop),Inv X pins σ H s->t σ H Q->aq (ao X.prog X.w) X.A (spliced (backTo pos (aX es X.env))) (AP X pins σ Q) X.xe s
def PS(X:Cx)(st:Stmt)(t:TS):Prop:=
 ∀(pins:List (Addr×Obj)) (s:af) (σ:St) (H:Hp) (D:Ends),Inv X pins σ H s->t D σ H->aq (ao X.prog X.w) X.A (exec st X.env) (SP X pins D) X.xe s
def PSs(X:Cx)(st:List Stmt)(t:TS):Prop:=
 ∀(pins:List (Addr×Obj)) (s:af) (σ:St) (H:Hp) (D:Ends),Inv X pins σ H s->t D σ H->aq (ao X.prog X.w) X.A (execs st X.env) (SP X pins D) X.xe s
theorem thn{α:Type}{t:Sem α}{Q Q':α->af->Prop}{M:Model}{A:aE}{E:ae->af->Prop}{s:af}(h:aq M A t Q E s)(hQ:∀a s,Q a s->Q' a s):aq M A t Q' E s:=bM h hQ λ_ _ x=>x
section
variable{X:Cx}
theorem bin{a b:Expr}{ta tb:TE}(ha:PE X a ta)(hb:PE X b tb){pins:List (Addr×Obj)}{s:af}{σ:St}{H:Hp}{R:V->V->Hp->Prop}(I:Inv X pins σ H s)(h:ta σ H λx H1=>tb σ H1 λy H2=>R x y H2)
  {α:Type}{Q:α->af->Prop}{f:ae->ae->Sem α}
  (hf:∀v u s2 x y H2,Inv X pins σ H2 s2->RelV x v->RelV y u->R x y H2->aq (ao X.prog X.w) X.A (f v u) Q X.xe s2) :
  aq (ao X.prog X.w) X.A (eval a X.env) (λv s₁=>aq (ao X.prog X.w) X.A (eval b X.env) (λu s₂=>aq (ao X.prog X.w) X.A (f v u) Q X.xe s₂) X.xe s₁) X.xe s:=by
 refine thn (ha pins s σ H _ I h) λv s1 ⟨x,H1,I1,r1,q1⟩=>?_
 refine thn (hb pins s1 σ H1 _ I1 q1) λu s2 ⟨y,H2,I2,r2,q2⟩=>?_
 exact hf v u s2 x y H2 I2 r1 r2 q2
def fK(i:Nat):TE:=λσ H Q=>∃v,σ[i]? = some (some v)/\Q v H
def tC(v:V):TE:=λ_ H Q=>Q v H
theorem f_{i:Nat}{x:Str}{pos:Pos}(hN:X.N[i]? = some x)(hv:fi X.env.scope x)(hd:(x==("__debug__" : Str))=false)(Gq:(x==("__classdict__" : Str))=false):PE X (.Name x pos) (fK i):=by
 intro pins s σ H Q I h;obtain⟨v,e,h⟩:=h;obtain⟨m,hn,hl⟩:=I.loc;obtain⟨u,r,l⟩:=hl i x v hN e hv;have fin:EP X pins σ Q u s:=⟨v,H,I,r,h⟩
 rcases l with ⟨hk,hm⟩|⟨hk,c,hc,Hz⟩
 ·exact wpAny_Name (wpAny_loadName_local I.ok.kind hk hn hm fin) hd
 ·rcases hk with hk|hk
  ·exact wpAny_Name (wpAny_loadName_cell I.ok.kind hk hc Hz fin) hd
  ·exact wpAny_Name (wpAny_loadName_free I.ok.kind hk hc Hz fin Gq) hd
theorem rF{i j pos}:PE X (.Constant (.int i) j pos) (tC (.int i)):=λ_ _ _ H _ I h=>wpAny_Constant_int ⟨.int i,H,I.tok _,⟨_,rfl⟩,h⟩
theorem o7{b j pos}:PE X (.Constant (.bool b) j pos) (tC (.bl b)):=λ_ _ _ H _ I h=>Constant_bool ⟨.bl b,H,I,rfl,h⟩
theorem DR{j pos}:PE X (.Constant .none j pos) (tC .non):=λ_ _ _ H _ I h=>Constant_none ⟨.non,H,I,rfl,h⟩
theorem vm{x j pos}:PE X (.Constant (.str x) j pos) (tC (.str x)):=λ_ _ _ H _ I h=>Calls.Constant_str ⟨.str x,H,I.tok _,⟨_,rfl⟩,h⟩
def Gl(X:Cx)(x:Str):Prop:=X.env.kindOf x=some .globalImplicit
theorem ij{E:ae->af->Prop}{pins:List (Addr×Obj)}{s:af}{σ:St}{H:Hp}{x:Str}{u:ae}{pos:Pos}{Q:ae->af->Prop}(I:Inv X pins σ H s)(hg:Gl X x)(hm:X.mg x=some u)(h:Q u s)
  (hd:(x==("__debug__" : Str))=false):aq (ao X.prog X.w) X.A (eval (.Name x pos) X.env) Q E s:=
 Calls.Name_function_global I.ok.kind hg (Calls.loadGlobal_global (by rw[I.ok.glob];exact I.mod.glob.keeps I.bk) hm h) hd
theorem gK{E:ae->af->Prop}{pins:List (Addr×Obj)}{s:af}{σ:St}{H:Hp}{x:Str}{u:ae}{pos:Pos}{Q:ae->af->Prop}(I:Inv X pins σ H s)(hg:Gl X x)(hm:X.mg x=none)(hv:bV x=some u)(h:Q u s)
  (hn:x≠"__name__") (hd:(x==("__debug__" : Str))=false):aq (ao X.prog X.w) X.A (eval (.Name x pos) X.env) Q E s:=by
 obtain⟨mb,h1,h2⟩:=I.mod.blt;exact Calls.Name_function_global I.ok.kind hg (Calls.loadGlobal_builtin (by rw[I.ok.glob];exact I.mod.glob.keeps I.bk) hm (by rw[I.ok.blt];exact h1.keeps I.bk) ((h2 x hn).trans hv) h) hd
theorem lM{x:Str}{v:V}{u:ae}{pos:Pos}(hg:Gl X x)(hm:X.mg x=some u)(r:RelV v u)(hd:(x==("__debug__" : Str))=false):PE X (.Name x pos) (tC v):=
 λ_ _ _ H _ I h=>ij I hg hm ⟨v,H,I,r,h⟩ hd
theorem xy{x:Str}{v:V}{u:ae}{pos:Pos}(hg:Gl X x)(hm:X.mg x=none)(hv:bV x=some u)(r:RelV v u)(hn:x≠"__name__")(hd:(x==("__debug__" : Str))=false):PE X (.Name x pos) (tC v):=
 λ_ _ _ H _ I h=>gK I hg hm hv ⟨v,H,I,r,h⟩ hn hd
variable{a b:Expr}{ta tb:TE}{pos:Pos}
variable{tA tB':TT}{rest:List Expr}
def AE(t u:TT):TT:=λσ H Q=>t σ H λc H1=>if c=true then u σ H1 Q else Q false H1
def tOr(t u:TT):TT:=λσ H Q=>t σ H λc H1=>if c=true then Q true H1 else u σ H1 Q
def xP(t:TT):TT:=λσ H Q=>t σ H λc H1=>Q (!c) H1
theorem xU(ha:PT X a tA):PW X (.BoolOp .And [a] pos) tA:=by
 intro wh pins s σ H Q I h;refine isTrue_and (thn (ha pins s σ H Q I h) λc s1 e=>?_);cases c with
 |true=>exact isTrue_and_nil e
 |false=>exact e
theorem ER(ha:PT X a tA):PW X (.BoolOp .Or [a] pos) tA:=by
 intro wh pins s σ H Q I h;refine isTrue_or (thn (ha pins s σ H Q I h) λc s1 e=>?_);cases c with
 |false=>exact isTrue_or_nil e
 |true=>exact e
theorem BQ(ha:PT X a tA)(hb:PW X (.BoolOp .And (b::rest) pos) tB'):PW X (.BoolOp .And (a::b::rest) pos) (AE tA tB'):=by
 intro wh pins s σ H Q I h;refine isTrue_and (thn (ha pins s σ H _ I h) λc s1 ⟨H1,I1,q1⟩=>?_);cases c with
 |true=>exact hb wh pins s1 σ H1 Q I1 q1
 |false=>exact⟨H1,I1,q1⟩
theorem Dj(ha:PT X a tA)(hb:PW X (.BoolOp .Or (b::rest) pos) tB'):PW X (.BoolOp .Or (a::b::rest) pos) (tOr tA tB'):=by
 intro wh pins s σ H Q I h;refine isTrue_or (thn (ha pins s σ H _ I h) λc s1 ⟨H1,I1,q1⟩=>?_);cases c with
 |true=>exact⟨H1,I1,q1⟩
 |false=>exact hb wh pins s1 σ H1 Q I1 q1
theorem yK(ha:PT X a tA):PT X (.UnaryOp .Not a pos) (xP tA):=by
 intro pins s σ H Q I h;exact isTrue_not (ha pins s σ H (λc H1=>Q (!c) H1) I h)
def Ej(ta tb:TE):TE:=λσ H Q=>ta σ H λx H1=>∃c,x=.bl c/\if c=true then tb σ H1 Q else Q (.bl false) H1
def wB(ta tb:TE):TE:=λσ H Q=>ta σ H λx H1=>∃c,x=.bl c/\if c=true then Q (.bl true) H1 else tb σ H1 Q
def yh(ta:TE):TE:=λσ H Q=>ta σ H λx H1=>∃c,x=.bl c/\Q (.bl (!c)) H1
theorem BD{op}{t:TE}(h:PE X a t):PE X (.BoolOp op [a] pos) t:=λpins s σ H Q I hw=>BoolOp_one (h pins s σ H Q I hw)
theorem uE(ha:PE X a ta)(hb:PE X (.BoolOp .And (b::rest) pos) tb):PE X (.BoolOp .And (a::b::rest) pos) (Ej ta tb):=by
 intro pins s σ H Q I h;refine BoolOp_and (thn (ha pins s σ H _ I h) λv s1 ⟨x,H1,I1,r1,q1⟩=>?_);obtain⟨c,rfl,q1⟩:=q1;cases r1;refine bQ ?_;cases c with
 |true=>exact hb pins s1 σ H1 Q I1 q1
 |false=>exact⟨.bl false,H1,I1,rfl,q1⟩
theorem CD(ha:PE X a ta)(hb:PE X (.BoolOp .Or (b::rest) pos) tb):PE X (.BoolOp .Or (a::b::rest) pos) (wB ta tb):=by
 intro pins s σ H Q I h;refine BoolOp_or (thn (ha pins s σ H _ I h) λv s1 ⟨x,H1,I1,r1,q1⟩=>?_);obtain⟨c,rfl,q1⟩:=q1;cases r1;refine bQ ?_;cases c with
 |false=>exact hb pins s1 σ H1 Q I1 q1
 |true=>exact⟨.bl true,H1,I1,rfl,q1⟩
theorem yA(ha:PE X a ta):PE X (.UnaryOp .Not a pos) (yh ta):=by
 intro pins s σ H Q I h;refine UnaryOp_ (thn (ha pins s σ H _ I h) λv s1 ⟨x,H1,I1,r1,q1⟩=>?_);obtain⟨c,rfl,q1⟩:=q1;cases r1;exact not_of (bQ ⟨.bl (!c),H1,I1,rfl,q1⟩)
def tIf(t:TT)(ta tb:TE):TE:=λσ H Q=>t σ H λc H1=>if c=true then ta σ H1 Q else tb σ H1 Q
theorem yi{c:Expr}(hc:PT X c tA)(ha:PE X a ta)(hb:PE X b tb):PE X (.IfExp c a b pos) (tIf tA ta tb):=by
 intro pins s σ H Q I h;refine wpAny_IfExp (thn (hc pins s σ H _ I h) λd s1 ⟨H1,I1,q1⟩=>?_);cases d with
 |true=>exact ha pins s1 σ H1 Q I1 q1
 |false=>exact hb pins s1 σ H1 Q I1 q1
end
def SqL(K:aB)(H:Hp)(a:Addr)(xs:List V):Prop:=
 Rd H a (.lst xs) \/
  ∃(o:Obj) (its:Array ae) (n:Nat),K.lookup a=some o/\o.cls=.type "list"/\o.dict=none/\o.data=.seq its n/\its.size<=aO/\Vals xs its.toList
def SqT(K:aB)(H:Hp)(a:Addr)(xs:List V):Prop:=
 Rd H a (.tup xs) \/
  ∃(o:Obj) (its:Array ae) (n:Nat),K.lookup a=some o/\o.cls=.type "tuple"/\o.data=.seq its n/\its.size<=aO/\Vals xs its.toList
noncomputable def yU:ae->Option V
 | .none=>some .non
 | .bool b=>some (.bl b)
 | .int i _=>some (.int i)
 | .str x _=>some (.str x)
 | .bytes b _=>some (.byt b)
 | .float b _=>some (.flt b)
 | .ref a=>some (.ref a)
 | .type n=>some (.ty n)
 |_=>none
theorem RelV.abs{x:V}{u:ae}(r:RelV x u):yU u=some x:=by
 cases x with
 |non=>cases r;rfl
 |bl _=>cases r;rfl
 |int _=>obtain⟨t,rfl⟩:=r;rfl
 |str _=>obtain⟨t,rfl⟩:=r;rfl
 |byt _=>obtain⟨t,rfl⟩:=r;rfl
 |flt _=>obtain⟨t,rfl⟩:=r;rfl
 |ref _=>cases r;rfl
 |ty _=>cases r;rfl
theorem RelV.inj{x y:V}{u:ae}(r:RelV x u)(q:RelV y u):x=y:=bT (r.abs.symm.trans q.abs)
theorem Vals.inj{xs ys:List V}{us:List ae}(h:Vals xs us)(h':Vals ys us):xs=ys:=by
 induction h generalizing ys with
 |nil=>cases h';rfl
 |cons r t ih=>cases h' with
  |cons r' t'=>rw[r.inj r',ih t']
section
variable{X:Cx}{pins:List (Addr×Obj)}{σ:St}{H:Hp}{s:af}{a:Addr}{xs ys:List V}
theorem SqL.of{K:aB}(h:H a=some (.lst xs)):SqL K H a xs:=.inl (.inl h)
theorem SqT.of{K:aB}(h:H a=some (.tup xs)):SqT K H a xs:=.inl (.inl h)
theorem Inv.list(I:Inv X pins σ H s)(h:SqL X.K H a xs):∃its:List ae,Vals xs its/\PlainL s.heap a its.toArray/\xs.length<=sizeLine:=by
 rcases h with h|⟨o,its,n,hk,hc,hd,hs,hz,r⟩
 ·obtain⟨z,its,n,r,e⟩:=h.ok I.hok;exact⟨its,r,⟨_,n,e,rfl,rfl,rfl⟩,z⟩
 ·refine⟨its.toList,r,⟨o,n,I.kIn a o hk,hc,hd,by simpa using hs⟩,?_⟩;have e:=r.length;simp only[ba]at e;lia
theorem Inv.tuple(I:Inv X pins σ H s)(h:SqT X.K H a xs):∃its:List ae,Vals xs its/\IsTup s.heap a its.toArray/\xs.length<=sizeLine:=by
 rcases h with h|⟨o,its,n,hk,hc,hs,hz,r⟩
 ·obtain⟨z,its,r,p⟩:=h.ok I.hok;exact⟨its,r,p,z⟩
 ·refine⟨its.toList,r,⟨o,I.kIn a o hk,hc,n,by simpa using hs⟩,?_⟩;have e:=r.length;simp only[ba]at e;lia
theorem Inv.list_inj(I:Inv X pins σ H s)(h:SqL X.K H a xs)(h':SqL X.K H a ys):xs=ys:=by
 obtain⟨its,r,⟨o,n,e,_,_,d⟩,_⟩:=I.list h;obtain⟨its',r',⟨o',n',e',_,_,d'⟩,_⟩:=I.list h';rw[e]at e';cases e';rw[d]at d';injection d' with d1 _
 have:its=its':=by simpa using congrArg Array.toList d1
 subst this;exact r.inj r'
theorem Inv.tuple_inj(I:Inv X pins σ H s)(h:SqT X.K H a xs)(h':SqT X.K H a ys):xs=ys:=by
 obtain⟨its,r,⟨o,e,_,n,d⟩,_⟩:=I.tuple h;obtain⟨its',r',⟨o',e',_,n',d'⟩,_⟩:=I.tuple h';rw[e]at e';cases e';rw[d]at d';injection d' with d1 _
 have:its=its':=by simpa using congrArg Array.toList d1
 subst this;exact r.inj r'
end
abbrev Cx.wish(X:Cx)(E:ae->af->Prop):Cx:={X with xe:=E}
abbrev Cx.nox(X:Cx):Cx:=X.wish λ_ _=>False
theorem Cx.Ok.wish{X:Cx}(ok:X.Ok)(E:ae->af->Prop):(X.wish E).Ok:=
 ⟨ok.mod,ok.kind,ok.glob,ok.blt,ok.above,ok.inj,ok.has,ok.cab,ok.hd,ok.frames,ok.stk,ok.exf,ok.bs,ok.bsz,ok.noex,ok.exfs,ok.funs,ok.frf⟩
theorem Cx.Ok.unwish{X:Cx}{E:ae->af->Prop}(ok:(X.wish E).Ok):X.Ok:=
 ⟨ok.mod,ok.kind,ok.glob,ok.blt,ok.above,ok.inj,ok.has,ok.cab,ok.hd,ok.frames,ok.stk,ok.exf,ok.bs,ok.bsz,ok.noex,ok.exfs,ok.funs,ok.frf⟩
section
variable{X:Cx}{pins:List (Addr×Obj)}{σ:St}{H:Hp}{s:af}{E:ae->af->Prop}
theorem Inv.wish(I:Inv X pins σ H s)(E:ae->af->Prop):Inv (X.wish E) pins σ H s:=⟨I.ok.wish E,I.os,I.bare,I.base,I.loc,I.cell,I.free,I.freeC,I.pin,I.hok,I.len⟩
theorem Inv.unwish(I:Inv (X.wish E) pins σ H s):Inv X pins σ H s:=⟨I.ok.unwish,I.os,I.bare,I.base,I.loc,I.cell,I.free,I.freeC,I.pin,I.hok,I.len⟩
theorem SP.unwish{D:Ends}{f:Flow}{s':af}(h:SP (X.wish E) pins D f s'):SP X pins D f s':=by
 cases f with
 |next=>obtain⟨σ',H',I,q⟩:=h;exact⟨σ',H',I.unwish,q⟩
 |brk=>obtain⟨σ',H',I,q⟩:=h;exact⟨σ',H',I.unwish,q⟩
 |cont=>obtain⟨σ',H',I,q⟩:=h;exact⟨σ',H',I.unwish,q⟩
 |ret u=>obtain⟨v,σ',H',I,r,q⟩:=h;exact⟨v,σ',H',I.unwish,r,q⟩
end
section
variable{X:Cx}{st:Stmt}{rest:List Stmt}{t u:TS}{e:Expr}{te:TE}{pos:Pos}
def jy:TS:=λD σ H=>D.nx σ H
def B4(t u:TS):TS:=λD σ H=>t {D with nx:=u D} σ H
theorem Cn:PSs X [] jy:=λ_ _ σ H _ I h=>wpAny_execs_nil ⟨σ,H,I,h⟩
theorem yC(h1:PS X st t)(h2:PSs X rest u):PSs X (st::rest) (B4 t u):=by
 intro pins s σ H D I h;refine wpAny_execs_cons (thn (h1 pins s σ H {D with nx:=u D} I h) λf s1 q=>?_);cases f with
 |next=>
  obtain⟨σ',H',I',q⟩:=q;exact h2 pins s1 σ' H' D I' q
 |ret v=>exact q
 |brk=>exact q
 |cont=>exact q
theorem Inv.quiet{pins:List (Addr×Obj)}{σ:St}{H:Hp}{s:af}(I:Inv X pins σ H s):interactive X.env=false:=by simp[interactive,I.ok.kind]
def Dl(te:TE):TS:=λD σ H=>te σ H λ_ H1=>D.nx σ H1
theorem jO(he:PE X e te)(hs:swapsWith e none pos.line X.env=pure false):PS X (.Expr e pos) (Dl te):=by
 intro pins s σ H D I h;exact wpAny_Expr_any (thn (he pins s σ H _ I h) λv s1 ⟨x,H1,I1,r1,q1⟩=>⟨σ,H1,I1,q1⟩) I.quiet hs
def Dg(te:TE):TS:=λD σ H=>te σ H D.rt
theorem kT(he:PE X e te):PS X (.Return (some e) pos) (Dg te):=by
 intro pins s σ H D I h;exact wpAny_Return_some (thn (he pins s σ H _ I h) λv s1 ⟨x,H1,I1,r1,q1⟩=>⟨x,σ,H1,I1,r1,q1⟩)
def DP:TS:=λD _ H=>D.rt .non H
theorem D0:PS X (.Return none pos) DP:=λ_ _ σ H _ I h=>wpAny_Return_none ⟨.non,σ,H,I,rfl,h⟩
def jw(c:TT)(t u:TS):TS:=λD σ H=>c σ H λb H1=>if b=true then t D σ H1 else u D σ H1
theorem CQ{c:Expr}{a b:List Stmt}{tc:TT}(hc:PT X c tc)(ha:PSs X a t)(hb:PSs X b u):PS X (.If c a b pos) (jw tc t u):=by
 intro pins s σ H D I h;refine wpAny_If (thn (hc pins s σ H _ I h) λd s1 ⟨H1,I1,q1⟩=>?_);cases d with
 |true=>exact ha pins s1 σ H1 D I1 q1
 |false=>exact hb pins s1 σ H1 D I1 q1
end
abbrev TG:=V->St->Hp->(St->Hp->Prop)->Prop
abbrev TGs:=List V->St->Hp->(St->Hp->Prop)->Prop
def PG(X:Cx)(target:Expr)(t:TG):Prop:=
 ∀(pins:List (Addr×Obj)) (s:af) (σ:St) (H:Hp) (v:V) (u:ae) (Q:St->Hp->Prop),Inv X pins σ H s->RelV v u->t v σ H Q ->
  aq (ao X.prog X.w) X.A (assign target X.env u) (λ_ s'=>∃σ' H',Inv X pins σ' H' s'/\Q σ' H') X.xe s
def PGs(X:Cx)(ts:List Expr)(t:TGs):Prop:=
 ∀(pins:List (Addr×Obj)) (s:af) (σ:St) (H:Hp) (vs:List V) (us:List ae) (Q:St->Hp->Prop),Inv X pins σ H s->Vals vs us->t vs σ H Q ->
  aq (ao X.prog X.w) X.A (assignInOrder ((assignEach ts X.env).map (·.2)) us) (λ_ s'=>∃σ' H',Inv X pins σ' H' s'/\Q σ' H') X.xe s
abbrev kK:=V->V->V->Hp->(Hp->Prop)->Prop
def gb(X:Cx)(t:kK):Prop:=
 ∀(pins:List (Addr×Obj)) (s:af) (σ:St) (H:Hp) (o i v:V) (ov iv u:ae) (Q:Hp->Prop),Inv X pins σ H s->RelV o ov->RelV i iv->RelV v u->t o i v H Q ->
  aq (ao X.prog X.w) X.A (setItem ov iv u) (λ_ s'=>∃H',Inv X pins σ H' s'/\Q H') X.xe s
section
variable{X:Cx}{pos:Pos}
def fN(i:Nat):TG:=λv σ H Q=>Q (σ.set i (some v)) H
theorem D6{i:Nat}{x:Str}(hN:X.N.Nodup)(hi:X.N[i]? = some x)(hx:Loc X.env.scope x)(hf:X.fn x=true\/X.env.scope.names.lookup x=some .local):PG X (.Name x pos) (fN i):=by
 intro pins s σ H v u Q I r h;exact wpAny_assign_Name (iK I hN hi hx r (λs' I'=>⟨_,H,I',h⟩) hf)
def oN:TGs:=λvs σ H Q=>vs=[]/\Q σ H
def nA(t:TG)(u:TGs):TGs:=λvs σ H Q=>∃v r,vs=v::r/\t v σ H λσ' H'=>u r σ' H' Q
theorem vY:PGs X [] oN:=by
 intro pins s σ H vs us Q I r h;obtain⟨e,h⟩:=h;subst e;cases r;exact assignInOrder_nil ⟨σ,H,I,h⟩
theorem Ck{e:Expr}{es:List Expr}{t:TG}{u:TGs}(h1:PG X e t)(h2:PGs X es u)
  (hs:(assignEach (e::es) X.env).map (·.2)=assign e X.env::(assignEach es X.env).map (·.2)):PGs X (e::es) (nA t u):=by
 intro pins s σ H vs us Q I r h;obtain⟨v,vr,e1,h⟩:=h;subst e1;cases r with
 |cons r rr=>
  rw[hs];refine assignInOrder_cons (thn (h1 pins s σ H _ _ _ I r h) λ_ s1 ⟨σ1,H1,I1,q1⟩=>?_);exact h2 pins s1 σ1 H1 _ _ Q I1 rr q1
def ph(K:aB)(n:Nat)(t:TGs):TG:=λv σ H Q=>∃a xs,v=.ref a/\SqT K H a xs/\xs.length=n/\t xs σ H Q
theorem xp{es:List Expr}{k:Nat}{t:TGs}{n:Nat}(hc:X.calm=true)(h:PGs X es t)
  (hn:(assignEach es X.env).length=n) (FI:(assignEach es X.env).findIdx? (·.1)=none):PG X (.Tuple es k pos) (ph X.K n t):=by
 intro pins s σ H v u Q I r hw;obtain⟨a,xs,e1,hq,hl,hw⟩:=hw;subst e1;cases r;obtain⟨its,rv,ht,hz⟩:=I.tuple hq;refine assign_Tuple_tuple (I.ok.hd hc) ht (by simp[hn,<-hl,rv.length]) FI λh' hx=>?_
 have I1:Inv X pins σ H {s with heap:=h'}:=I.kept (t':=s.toks) λb o e=>hx b o (bg (aS e)) e
 exact h pins _ σ H xs _ Q I1 (by simpa using rv) hw
def tH(to ti:TE)(t:kK):TG:=λv σ H Q=>to σ H λo H1=>ti σ H1 λi H2=>t o i v H2 λH3=>Q σ H3
theorem u_{o i:Expr}{to ti:TE}{t:kK}(ho:PE X o to)(hi:PE X i ti)(hs:gb X t)
  (ha:∀v,assign (.Subscript o i pos) X.env v=(do
   let ov <-holding [v] (eval o X.env)
   let iv <-holding [v,ov] (eval i X.env)
   standAt pos
   holding [v,ov,iv] (setItem ov iv v)
   release [v,ov,iv] [])):PG X (.Subscript o i pos) (tH to ti t):=by
 intro pins s σ H v u Q I r h;rw[ha];refine au (dh (thn (ho pins s σ H _ I h) λov s1 ⟨x,H1,I1,r1,q1⟩=>?_));refine au (dh (thn (hi pins s1 σ H1 _ I1 q1) λiv s2 ⟨y,H2,I2,r2,q2⟩=>?_));refine au (wpAny_standAt (au (dh (thn (hs pins s2 σ H2 x y v ov iv u _ I2 r1 r2 r q2) λ_ s3 ⟨H3,I3,q3⟩=>?_))));exact wpAny_release ⟨σ,H3,I3,q3⟩
def jV(te:TE)(g:TG):TS:=λD σ H=>te σ H λx H1=>g x σ H1 D.nx
theorem rm{tg e:Expr}{te:TE}{g:TG}(he:PE X e te)(hg:PG X tg g)(hs:swapsWithSole [tg] e pos.line X.env=pure false)(hw:cU [tg] e X.env=pure none)
  (h1:(assignEach [tg] X.env).map (·.2)=[assign tg X.env]):PS X (.Assign [tg] e pos) (jV te g):=by
 intro pins s σ H D I h;refine wpAny_Assign_stores (thn (he pins s σ H _ I h) λv s1 ⟨x,H1,I1,r1,q1⟩=>?_) hs hw;rw[h1];exact thn (hg pins s1 σ H1 x v _ I1 r1 q1) λ_ s2 q=>q
theorem lz{i:Nat}{x:Str}{e:Expr}{te:TE}{pos':Pos}(hN:X.N.Nodup)(hi:X.N[i]? = some x)(hx:Loc X.env.scope x)(he:PE X e te)(hs:swapsWith e (some (.Name x pos')) pos.line X.env=pure false)(hf:X.fn x=true\/X.env.scope.names.lookup x=some .local) :
  PS X (.Assign [.Name x pos'] e pos) (jV te (fN i)):=by
 intro pins s σ H D I h;refine wpAny_Assign_Name (thn (he pins s σ H _ I h) λv s1 ⟨y,H1,I1,r1,q1⟩=>?_) hs;exact iK I1 hN hi hx r1 (λs2 I2=>⟨_,H1,I2,q1⟩) hf
def ub(i j:Nat)(ta:TA):TS:=λD σ H=>ta σ H λvs H1=>∃v w,vs=[v,w]/\D.nx ((σ.set i (some v)).set j (some w)) H1
theorem Cg{i j:Nat}{x y:Str}{a b:Expr}{ta:TA}{px py pt:Pos}{kt k2 Gz}(hc:X.calm=true)(hN:X.N.Nodup)(hi:X.N[i]? = some x)(hj:X.N[j]? = some y)(FC:i≠j)
  (hx:X.env.scope.names.lookup x=some .local) (hy:X.env.scope.names.lookup y=some .local) (ha:PA X [a,b] ta)
  (hw:cU [.Tuple [.Name x px,.Name y py] kt pt] (.Tuple [a,b] k2 Gz) X.env=pure (some [x,y]))
  (hs:swapsWithSole [.Tuple [.Name x px,.Name y py] kt pt] (.Tuple [a,b] k2 Gz) pos.line X.env=pure false) :
  PS X (.Assign [.Tuple [.Name x px,.Name y py] kt pt] (.Tuple [a,b] k2 Gz) pos) (ub i j ta):=by
 intro pins s σ H D I h;rw[exec_Assign_arm];refine au (wpAny_standAt ?_);rw[hs];refine au (aK ?_);rw[if_neg (by decide)];refine au (Tuple_ (thn (ha _ pins s σ H _ I h) λus s1 ⟨vs,H1,I1,r1,q1⟩=>?_));obtain⟨v,w,e1,q1⟩:=q1;subst e1;obtain⟨u1,u2,rfl,rv,GI⟩:∃u1 u2,us=[u1,u2]/\RelV v u1/\RelV w u2:=by
  cases r1 with
  |cons p q=>
   cases q with
   |cons p' q'=>
    cases q';exact⟨_,_,rfl,p,p'⟩
 refine wpAny_newObj_type ?_ (by show 2<=aO;decide);have I2:Inv X pins σ H1 {s1 with heap:=s1.heap.push {cls:=.type "tuple",data:=.seq [u1,u2].toArray}}:=I1.kept (t':=s1.toks) λb o e=>Heap.get?_push_of_some _ e
 rw[hw];refine au (aK ?_);show aq (ao X.prog X.w) X.A (do rule "assign.swapped-stores";let items <-unpackItems (.ref s1.heap.objs.size) 2 none;assignInOrder [λv=>bindName X.env y v,λv=>bindName X.env x v] items.reverse;pure Flow.next) _ _ _;refine au (wpAny_rule (au (unpackItems_tuple (items:=#[u1,u2]) (I.ok.hd hc) (IsTup.new s1.heap _) λh' G0=>?_)));have I3:=I2.kept (h':=h') (t':=s1.toks) λb o e=>G0 b o (bg (aS e)) e
 show aq _ _ (assignInOrder [λv=>bindName X.env y v,λv=>bindName X.env x v] [u2,u1]>>=λ_=>pure Flow.next) _ _ _;refine au (assignInOrder_cons (wpAny_bindName (iK I3 hN hj (.inl hy) GI (λs2 I4=>?_) (.inr hy))));refine assignInOrder_cons (wpAny_bindName (iK I4 hN hi (.inl hx) rv (λs3 I5=>assignInOrder_nil (aK ?_)) (.inr hx)));rw[List.set_comm _ _ (Ne.symm FC)]at I5;exact⟨_,H1,I5,q1⟩
end
section
variable{X:Cx}{pos:Pos}
def B9(c:TT)(tb:TS):TS:=λD σ H=>∃W:Nat->St->Hp->Prop,(∃m,W m σ H)/\∀m σ H,W m σ H ->
 c σ H λb H1=>if b=true then ∃N:St->Hp->Prop,(∀σ' H',N σ' H'->∃m',m'<m/\W m' σ' H')/\tb {D with nx:=N,ct:=N,bk:=D.nx} σ H1 else D.nx σ H1
theorem Bh{c:Expr}{body:List Stmt}{tc:TT}{tb:TS}(hp:PassesOwn (ao X.prog X.w) X.A X.env X.xe)(hc:PT X c tc)(hb:PSs X body tb):PS X (.While c body [] pos) (B9 tc tb):=by
 intro pins s σ H D I h;obtain⟨W,⟨m0,w0⟩,turn⟩:=h;refine wpAny_While (codeAny_whileLoop (λn s'=>∃σ' H',Inv X pins σ' H' s'/\W n σ' H') ?_ m0 ⟨σ,H,I,w0⟩);rintro n s1 ⟨σ1,H1,I1,w1⟩;refine wpAny_passesOwn hp (thn (hc pins s1 σ1 H1 _ I1 (turn n σ1 H1 w1)) λb s2 ⟨H2,I2,q2⟩=>?_);cases b with
 |true=>
  obtain⟨N,hN,q2⟩:=q2;rw[if_pos rfl];refine wpAny_passesOwn hp (thn (hb pins s2 σ1 H2 _ I2 q2) λf s3 q3=>?_);cases f with
  |next=>
   obtain⟨σ3,H3,I3,n3⟩:=q3;obtain⟨m',hm,w3⟩:=hN σ3 H3 n3;exact⟨m',hm,σ3,H3,I3,w3⟩
  |cont=>
   obtain⟨σ3,H3,I3,n3⟩:=q3;obtain⟨m',hm,w3⟩:=hN σ3 H3 n3;exact⟨m',hm,σ3,H3,I3,w3⟩
  |brk=>exact q3
  |ret v=>exact q3
 |false=>
  rw[if_neg bO];exact wpAny_execs_nil ⟨σ1,H2,I2,q2⟩
end
structure It where
 go:Nat->Hp->Prop
 yld:Nat->Hp->V->Hp->Prop
 stop:Nat->Hp->Prop
def dO(X:Cx)(pins:List (Addr×Obj))(H:Hp)(b:Addr):Prop:=
 H b=none/\b≠X.env.locals/\b∉X.fs/\(b∈X.ex\/X.s₀.heap.objs.size<=b)/\(∀x c,X.env.cells.lookup x=some c->c≠b)/\∀p∈X.pn++pins,p.1≠b
theorem Inv.fpOk{X:Cx}{pins:List (Addr×Obj)}{σ:St}{H H':Hp}{s:af}{b:Addr}(I:Inv X pins σ H s)(hb:s.heap.objs.size<=b)(hn:H' b=none):dO X pins H' b:=by
 refine⟨hn,Nat.ne_of_gt (bG I.lt hb),I.nofs hb,.inr (bB I.sz hb),λx c e z=>?_,λp hp z=>?_⟩
 ·obtain⟨v,q⟩:=I.cell x c e;exact absurd (bG q.lt (by rw[z];exact hb)) (bU _)
 ·exact absurd (bG (aS (I.pin p hp).1) (by rw[z];exact hb)) (bU _)
structure Turn(P:aF)(w:aD)(K:aB)(tg:Expr)(J:It)(fp:List Addr)(it:Addr)(tn:Nat->Heap->Prop):Prop where
 mem:it∈fp
 obj:∀i h,tn i h->∀b∈fp,∃o,h.get? b=some o/\∀v,o.data≠.cell v
 keep:∀i h h',tn i h->(∀b∈fp,∀o,h.get? b=some o->h'.get? b=some o)->tn i h'
 item:∀(X:Cx),X.prog=P->X.w=w->X.K=K->X.calm=true->∀(i:Nat) (pins:List (Addr×Obj)) (s:af) (σ:St) (H:Hp) (E:ae->af->Prop),Inv X pins σ H s->(∀b∈fp,dO X pins H b)->tn i s.heap->J.go i H ->
  aq (ao P w) X.A (pyNext (.ref it)) (λr s1=>∃u,r=some u /\
   aq (ao P w) X.A (letOwnedTupleGo tg (.ref it) u) (λ_ s2=>∃x H',Inv X pins σ H' s2/\RelV x u/\J.yld i H x H'/\tn (i+1) s2.heap/\∀b∈fp,H' b=none) E s1) E s
 done:∀(X:Cx),X.prog=P->X.w=w->X.K=K->X.calm=true->∀(i:Nat) (pins:List (Addr×Obj)) (s:af) (σ:St) (H:Hp) (E:ae->af->Prop),Inv X pins σ H s->(∀b∈fp,dO X pins H b)->tn i s.heap->J.stop i H ->
  aq (ao P w) X.A (pyNext (.ref it)) (λr s1=>r=none/\Inv X pins σ H s1) E s
 self:∀(A:aE) (i:Nat) (s:af) (Q:ae->af->Prop) (E:ae->af->Prop),tn i s.heap->Q (.ref it) s->aq (ao P w) A (pyIter (.ref it)) Q E s
abbrev TI:=St->Hp->(It->Hp->Prop)->Prop
def PIE(X:Cx)(pins:List (Addr×Obj))(σ:St)(tg:Expr)(R:It->Hp->Prop)(HJ:ae)(s2:af):Prop:=
 ∃(it:Addr) (fp:List Addr) (tn:Nat->Heap->Prop) (J:It) (H':Hp),HJ=.ref it/\Inv X pins σ H' s2/\Turn X.prog X.w X.K tg J fp it tn/\tn 0 s2.heap/\(∀b∈fp,dO X pins H' b)/\R J H'
def PI(X:Cx)(tg iter:Expr)(wi:TI):Prop:=
 ∀(pins:List (Addr×Obj)) (s:af) (σ:St) (H:Hp) (R:It->Hp->Prop),Inv X pins σ H s->wi σ H R ->
  aq (ao X.prog X.w) X.A (eval iter X.env) (λv s1=>aq (ao X.prog X.w) X.A (pyIter v) (PIE X pins σ tg R) X.xe s1) X.xe s
theorem l5{M:Model}{A:aE}{E:ae->af->Prop}{s:af}{tg:Expr}{it:Addr}{u:ae}{o:Obj}{n:String}{vs:Array ae}{Q:Unit->af->Prop}(ho:s.heap.get? it=some o)(hc:o.cls=.type n)(hd:o.data=.fields vs)
  (hn:["enumerate","zip","dict_itemiterator","dict_reverseitemiterator","odict_iterator","itertools.zip_longest","itertools.pairwise"].contains n=false) (hQ:Q () s):aq M A (letOwnedTupleGo tg (.ref it) u) Q E s:=by
 unfold letOwnedTupleGo;cases tg<;>first
  |exact aK hQ
  | (cases u<;>first
    |exact aK hQ
    | (refine au (wpAny_load ho ?_)
       rw[hc,hd];show aq M A (if (["enumerate","zip","dict_itemiterator","dict_reverseitemiterator","odict_iterator","itertools.zip_longest","itertools.pairwise"].contains n&&vs[0]? == some (rawInt _))=true then _ else _) Q E s;rw[if_neg (by intro h;rw[hn,Bool.false_and]at h;cases h)];exact aK hQ))
noncomputable def Itl(K:aB)(a:Addr):It:=
 ⟨λi H=>∃xs x,SqL K H a xs/\xs[i]? = some x,λi H x H'=>H'=H/\∀xs,SqL K H a xs->xs[i]? = some x,λi H=>∃xs,SqL K H a xs/\xs.length<=i⟩
noncomputable def Itt(K:aB)(a:Addr):It:=
 ⟨λi H=>∃xs x,SqT K H a xs/\xs[i]? = some x,λi H x H'=>H'=H/\∀xs,SqT K H a xs->xs[i]? = some x,λi H=>∃xs,SqT K H a xs/\xs.length<=i⟩
noncomputable def Itr(lo:Int)(n:Nat):It:=⟨λi _=>i<n,λi H x H'=>H'=H/\x=.int (lo+i),λi _=>n<=i⟩
theorem A9{P:aF}{w:aD}{K:aB}{tg:Expr}(a it:Addr):Turn P w K tg (Itl K a) [it] it (λi h=>h.IsListIter it a i) where
 mem:=by simp
 obj:=λi h st b hb=>by
  have e:b=it:=by simpa using hb
  subst e;obtain⟨o,e,c,d⟩:=st;exact⟨o,e,λv z=>by rw[d]at z;cases z⟩
 keep:=λi h h' st k=>st.at λo e=>k it (by simp) o e
 item:=by
  intro X hP hw hK hc i pins s σ H E I hf st hg;subst hP hw hK;obtain⟨xs,x,hq,hx⟩:=hg;obtain⟨its,rv,p,hz⟩:=I.list hq;obtain⟨u,hu,ru⟩:=rv.get hx;obtain⟨f0,f1,f2,f3,f4,f5⟩:=hf it (by simp);refine wpAny_pyNext_list_item st p.isList (x:=u) (by simpa using hu) λh' st' sb=>?_
  have I1:Inv X pins σ H {s with heap:=h'}:=I.turned (t':=s.toks) (λb o hb e=>(sb.2 b hb).trans e) f0 f1 f3 f4 f5;obtain⟨o,e,c,d⟩:=id st';exact⟨u,rfl,l5 (s:={s with heap:=h'}) e c d (by decide) ⟨x,H,I1,ru,⟨rfl,λys hy=>by rw[I.list_inj hy hq];exact hx⟩,st',λb hb=>(hf b hb).1⟩⟩
 done:=by
  intro X hP hw hK hc i pins s σ H E I hf st hg;subst hP hw hK;obtain⟨xs,hq,hx⟩:=hg;obtain⟨its,rv,p,hz⟩:=I.list hq;obtain⟨f0,f1,f2,f3,f4,f5⟩:=hf it (by simp);have hl:=rv.length;exact wpAny_pyNext_list_end (I.ok.hd hc) st p.isList (by simp;lia) λh' eb=>⟨rfl,I.turned (t':=s.toks) (λb o hb e=>eb b o hb e) f0 f1 f3 f4 f5⟩
 self:=λ_ _ _ _ _ st h=>wpAny_pyIter_listiter st h
theorem yD{P:aF}{w:aD}{K:aB}{tg:Expr}(a it:Addr):Turn P w K tg (Itt K a) [it] it (λi h=>h.IsTupleIter it a i) where
 mem:=by simp
 obj:=λi h st b hb=>by
  have e:b=it:=by simpa using hb
  subst e;obtain⟨o,e,c,d⟩:=st;exact⟨o,e,λv z=>by rw[d]at z;cases z⟩
 keep:=λi h h' st k=>st.at λo e=>k it (by simp) o e
 item:=by
  intro X hP hw hK hc i pins s σ H E I hf st hg;subst hP hw hK;obtain⟨xs,x,hq,hx⟩:=hg;obtain⟨its,rv,p,hz⟩:=I.tuple hq;obtain⟨u,hu,ru⟩:=rv.get hx;obtain⟨f0,f1,f2,f3,f4,f5⟩:=hf it (by simp);refine wpAny_pyNext_tuple_item st (show s.heap.IsTuple a its.toArray from p) (x:=u) (by simpa using hu) λh' st' sb=>?_
  have I1:Inv X pins σ H {s with heap:=h'}:=I.turned (t':=s.toks) (λb o hb e=>(sb.2 b hb).trans e) f0 f1 f3 f4 f5;obtain⟨o,e,c,d⟩:=id st';exact⟨u,rfl,l5 (s:={s with heap:=h'}) e c d (by decide) ⟨x,H,I1,ru,⟨rfl,λys hy=>by rw[I.tuple_inj hy hq];exact hx⟩,st',λb hb=>(hf b hb).1⟩⟩
 done:=by
  intro X hP hw hK hc i pins s σ H E I hf st hg;subst hP hw hK;obtain⟨xs,hq,hx⟩:=hg;obtain⟨its,rv,p,hz⟩:=I.tuple hq;obtain⟨f0,f1,f2,f3,f4,f5⟩:=hf it (by simp);have hl:=rv.length;exact wpAny_pyNext_tuple_end (I.ok.hd hc) st (show s.heap.IsTuple a its.toArray from p) (by simp;lia) λh' eb=>⟨rfl,I.turned (t':=s.toks) (λb o hb e=>eb b o hb e) f0 f1 f3 f4 f5⟩
 self:=λ_ _ _ _ _ st h=>wpAny_pyIter_tupleiter st h
theorem AK{P:aF}{w:aD}{K:aB}{tg:Expr}(it:Addr)(lo:Int)(n:Nat):Turn P w K tg (Itr lo n) [it] it (λi h=>IsRangeIter h it (lo+(i:Nat) * 1) ((n:Int)-(i:Nat)) 1) where
 mem:=by simp
 obj:=λi h st b hb=>by
  have e:b=it:=by simpa using hb
  subst e;exact⟨_,st,λv z=>by
   have z':Data.fields _=Data.cell v:=z;cases z'⟩
 keep:=λi h h' st k=>k it (by simp) _ st
 item:=by
  intro X hP hw hK hc i pins s σ H E I hf st hg;subst hP hw hK;obtain⟨f0,f1,f2,f3,f4,f5⟩:=hf it (by simp);have W:=Walks.range (prog:=X.prog) (w:=X.w) (I.ok.hd hc) it lo 1 n;refine W.item i s _ _ hg st λv h' tk hv st' kk=>?_
  obtain⟨t,rfl⟩:=hv;have I1:Inv X pins σ H {s with heap:=h',toks:=tk}:=I.turned (λb o hb e=>kk b o (by simpa using hb) e) f0 f1 f3 f4 f5;refine⟨_,rfl,l5 (s:={s with heap:=h',toks:=tk}) (n:="range_iterator") st' rfl rfl (by decide) ⟨.int (lo+i),H,I1,⟨t,?_⟩,⟨rfl,rfl⟩,st',λb hb=>(hf b hb).1⟩⟩;rw[Int.mul_one]
 done:=by
  intro X hP hw hK hc i pins s σ H E I hf st hg;subst hP hw hK;obtain⟨f0,f1,f2,f3,f4,f5⟩:=hf it (by simp);exact wpAny_pyNext_range_end (I.ok.hd hc) st (by have:n<=i:=hg;lia) λh' eb=>⟨rfl,I.turned (t':=s.toks) (λb o hb e=>eb b o hb e) f0 f1 f3 f4 f5⟩
 self:=λ_ _ _ _ _ st h=>wpAny_pyIter_rangeiter st h
section
variable{X:Cx}{tg:Expr}
def E3(K:aB)(tl:TE):TI:=λσ H R=>tl σ H λx H1=>∃a,x=.ref a/\(∃xs,SqL K H1 a xs)/\R (Itl K a) H1
def Ad(K:aB)(tl:TE):TI:=λσ H R=>tl σ H λx H1=>∃a,x=.ref a/\(∃xs,SqT K H1 a xs)/\R (Itt K a) H1
theorem EF{l:Expr}{tl:TE}(hl:PE X l tl):PI X tg l (E3 X.K tl):=by
 intro pins s σ H R I h;refine thn (hl pins s σ H _ I h) λv s1 ⟨x,H1,I1,r1,q1⟩=>?_
 obtain⟨a,e,⟨xs,hq⟩,q⟩:=q1;subst e;cases r1;obtain⟨its,rv,p,hz⟩:=I1.list hq;refine wpAny_pyIter_list p.isList ?_;refine⟨s1.heap.objs.size,[s1.heap.objs.size],_,_,H1,rfl,I1.kept (t':=s1.toks) λb o e=>Heap.get?_push_of_some _ e,A9 a _,⟨_,Heap.get?_push_size _ rfl,rfl,rfl⟩,λb hb=>?_,q⟩;have e:b=s1.heap.objs.size:=by simpa using hb
 subst e;exact I1.fpOk (aG _) (I1.hok.fresh (aG _))
theorem Ec{l:Expr}{tl:TE}(hl:PE X l tl):PI X tg l (Ad X.K tl):=by
 intro pins s σ H R I h;refine thn (hl pins s σ H _ I h) λv s1 ⟨x,H1,I1,r1,q1⟩=>?_
 obtain⟨a,e,⟨xs,hq⟩,q⟩:=q1;subst e;cases r1;obtain⟨its,rv,p,hz⟩:=I1.tuple hq;refine wpAny_pyIter_tuple (show s1.heap.IsTuple a its.toArray from p) ?_;refine⟨s1.heap.objs.size,[s1.heap.objs.size],_,_,H1,rfl,I1.kept (t':=s1.toks) λb o e=>Heap.get?_push_of_some _ e,yD a _,⟨_,Heap.get?_push_size _ rfl,rfl,rfl⟩,λb hb=>?_,q⟩;have e:b=s1.heap.objs.size:=by simpa using hb
 subst e;exact I1.fpOk (aG _) (I1.hok.fresh (aG _))
theorem sY{pins:List (Addr×Obj)}{σ:St}{H:Hp}{s:af}{R:It->Hp->Prop}{E:ae->af->Prop}{lo hi:Int}{t u v:Tok}{tk:Nat}(I:Inv X pins σ H s)(h1:-(2^62)<=lo)(h2:lo<2^62)(h3:-(2^62)<=hi)(h4:hi<2^62)
  (q:R (Itr lo (hi-lo).toNat) H):aq (ao X.prog X.w) X.A (pyIter (.ref s.heap.objs.size)) (PIE X pins σ tg R) E {s with heap:=s.heap.push {cls:=.type "range",data:=.fields #[.int lo t,.int hi u,.int 1 v]},toks:=tk}:=by
 refine wpAny_pyIter_range (IsRange.new ..) (small_one h1 h2 h3 h4) ?_;have I1:Inv X pins σ H {s with heap:=s.heap.push {cls:=.type "range",data:=.fields #[.int lo t,.int hi u,.int 1 v]},toks:=tk}:=I.kept λb o e=>Heap.get?_push_of_some _ e
 refine⟨(s.heap.push {cls:=.type "range",data:=.fields #[.int lo t,.int hi u,.int 1 v]}).objs.size,[(s.heap.push {cls:=.type "range",data:=.fields #[.int lo t,.int hi u,.int 1 v]}).objs.size],_,_,H,rfl,
  I1.kept (t':=tk) λb o e=>Heap.get?_push_of_some _ e,AK _ lo (hi-lo).toNat,?_,λb hb=>?_,q⟩
 ·have e1:lo+((0:Nat):Int) * 1=lo:=by simp
  have e2:(((hi-lo).toNat:Nat):Int)-((0:Nat):Int)=Builtin.Range.rangeSize lo hi 1:=by rw[rangeSize_one];split<;>lia
  show IsRangeIter _ _ (lo+((0:Nat):Int) * 1) ((((hi-lo).toNat:Nat):Int)-((0:Nat):Int)) 1;rw[e1,e2];exact Heap.get?_push_size _ rfl
 ·have e:b=(s.heap.push {cls:=.type "range",data:=.fields #[.int lo t,.int hi u,.int 1 v]}).objs.size:=by simpa using hb
  subst e;exact I1.fpOk (aG _) (I1.hok.fresh (aG _))
def vP(ta:TA):TI:=λσ H R=>ta σ H λvs H1=>∃j:Int,vs=[.int j]/\-(2^62)<=j/\j<2^62/\R (Itr 0 j.toNat) H1
def wY(ta:TA):TI:=λσ H R=>ta σ H λvs H1=>∃i j:Int,vs=[.int i,.int j]/\(-(2^62)<=i/\i<2^62/\-(2^62)<=j/\j<2^62)/\R (Itr i (j-i).toNat) H1
theorem vg{a:Expr}{ta:TA}{p pos:Pos}(hg:Gl X "range")(hm:X.mg "range" = none)(ha:PA X [a] ta)(hs:aX [a] X.env=[(false,eval a X.env)]):PI X tg (.Call (.Name "range" p) [a] [] pos) (vP ta):=by
 intro pins s σ H R I h;refine Call_ (gK (hn:=by decide) (hd:=by decide) I hg hm boot_range (PyProof.Rows.callWith_type1 (thn (ha pos pins s σ H _ I h) λus s1 ⟨vs,H1,I1,r1,q1⟩=>?_) hs rfl));obtain⟨j,e,q1,q2,q⟩:=q1;subst e;cases r1 with
 |cons r rr=>
  cases rr;obtain⟨t,rfl⟩:=r;exact call_range_1 (sY I1 (by lia) (by lia) q1 q2 (by simpa using q))
theorem uM{a b:Expr}{ta:TA}{p pos:Pos}(hg:Gl X "range")(hm:X.mg "range" = none)(ha:PA X [a,b] ta)(hs:aX [a,b] X.env=[(false,eval a X.env),(false,eval b X.env)])(Jy:aX [b] X.env=[(false,eval b X.env)]) :
  PI X tg (.Call (.Name "range" p) [a,b] [] pos) (wY ta):=by
 intro pins s σ H R I h;refine Call_ (gK (hn:=by decide) (hd:=by decide) I hg hm boot_range (PyProof.Rows.callWith_type1 (thn (ha pos pins s σ H _ I h) λus s1 ⟨vs,H1,I1,r1,q1⟩=>?_) (by rw[hs,Jy]) (by rw[Jy];rfl)));obtain⟨i,j,e,⟨q1,q2,q3,q4⟩,q⟩:=q1;subst e;cases r1 with
 |cons r rr=>
  cases rr with
  |cons r' rr=>
   cases rr;obtain⟨t,rfl⟩:=r;obtain⟨t',rfl⟩:=r';exact call_range_2 (sY I1 q1 q2 q3 q4 q)
def Fj(wi:TI)(g:TG)(tb:TS):TS:=λD σ H=>wi σ H λJ H1=>∃W:Nat->Nat->St->Hp->Prop,(∃m,W 0 m σ H1)/\∀i m σ H,W i m σ H ->
 (J.stop i H/\D.nx σ H)\/(J.go i H/\∃N:St->Hp->Prop,(∀σ' H',N σ' H'->∃m',m'<m/\W (i+1) m' σ' H')/\∀x H',J.yld i H x H'->g x σ H' λσ2 H2=>tb {D with nx:=N,ct:=N,bk:=D.nx} σ2 H2)
noncomputable def iJ(fp:List Addr)(h:Heap):List (Addr×Obj):=fp.filterMap λb=>(h.get? b).map λo=>(b,o)
theorem jU{fp:List Addr}{h:Heap}{b:Addr}{o:Obj}(hb:b∈fp)(e:h.get? b=some o):(b,o)∈iJ fp h:=List.mem_filterMap.mpr ⟨b,hb,by rw[e];rfl⟩
theorem xG{fp:List Addr}{h:Heap}{p:Addr×Obj}(hp:p∈iJ fp h):p.1∈fp/\h.get? p.1=some p.2:=by
 obtain⟨b,hb,e⟩:=List.mem_filterMap.mp hp;cases q:h.get? b with
 |none=>rw[q]at e;cases e
 |some o=>
  rw[q]at e;have e':(b,o)=p:=bT e;subst e';exact⟨hb,q⟩
theorem Inv.pinned{pins:List (Addr×Obj)}{σ:St}{H:Hp}{s:af}{fp:List Addr}(I:Inv X pins σ H s)(hf:∀b∈fp,dO X pins H b)(ho:∀b∈fp,∃o,s.heap.get? b=some o/\∀v,o.data≠.cell v):Inv X (pins++iJ fp s.heap) σ H s:=
 I.pins_of λp hp=>(List.mem_append.mp hp).elim (λz=>I.pin p (cN _ z)) λz=>by
  obtain⟨hb,e⟩:=xG z;obtain⟨f0,f1,f2,_⟩:=hf p.1 hb;obtain⟨o,e',d⟩:=ho p.1 hb;rw[e]at e';cases e';exact⟨e,f0,f1,f2,d⟩
theorem Inv.unpinned{pins pl:List (Addr×Obj)}{σ:St}{H:Hp}{s:af}(I:Inv X (pins++pl) σ H s):Inv X pins σ H s:=I.pins_of λp hp=>I.pin p (cN _ (List.mem_append_left _ hp))
theorem CY{iter:Expr}{body:List Stmt}{wi:TI}{g:TG}{tb:TS}{pos:Pos}(hp:PassesOwn (ao X.prog X.w) X.A X.env X.xe)(hc:X.calm=true)(hi:PI X tg iter wi)(hg:PG X tg g)(hb:PSs X body tb)
  (hs:∀x,foldedSetIterable iter X.env x=pure x):PS X (.For tg iter body [] pos) (Fj wi g tb):=by
 intro pins s σ H D I h;refine wpAny_For (thn (hi pins s σ H _ I h) λv s1 h1=>thn h1 λHJ s2 h2=>?_) hs;obtain⟨it,fp,tn,J,H2,e,I2,T,Hd,f2,W,⟨m0,w0⟩,turn⟩:=h2;subst e
 -- what stays true of the iterator's objects through the loop
 have Gr:∀{H':Hp},(∀b∈fp,H' b=none)->∀b∈fp,dO X pins H' b:=λhn b hb=>⟨hn b hb,(f2 b hb).2⟩
 refine codeAny_forLoop_any (λn s'=>∃i σ' H',Inv X pins σ' H' s'/\tn i s'.heap/\(∀b∈fp,H' b=none)/\W i n σ' H') ?_ m0 ⟨0,σ,H2,I2,Hd,λb hb=>(f2 b hb).1,w0⟩;rintro n s3 ⟨i,σ3,H3,I3,Gg,IH,w3⟩;rcases turn i n σ3 H3 w3 with ⟨stop,qn⟩|⟨go,N,hN,step⟩
 ·refine wpAny_passesOwn hp (thn (T.done X rfl rfl rfl hc i pins s3 σ3 H3 X.xe I3 (Gr IH) Gg stop) λr s4 ⟨hr,I4⟩=>?_);subst hr;exact wpAny_execs_nil ⟨σ3,H3,I4,qn⟩
 ·refine wpAny_passesOwn hp (thn (T.item X rfl rfl rfl hc i pins s3 σ3 H3 X.xe I3 (Gr IH) Gg go) λr s4 ⟨u,hr,h4⟩=>?_);subst hr;refine wpAny_passesOwn hp (thn h4 λ_ s5 ⟨x,H5,I5,r5,y5,HK,Ko⟩=>?_);have I5':=I5.pinned (Gr Ko) (T.obj _ _ HK);refine wpAny_passesOwn hp (thn (hg _ s5 σ3 H5 x u _ I5' r5 (step x H5 y5)) λ_ s6 ⟨σ6,H6,I6,q6⟩=>?_);refine wpAny_passesOwn hp (thn (hb _ s6 σ6 H6 _ I6 q6) λf s7 q7=>?_);have again:∀{σ7:St}{H7:Hp},Inv X (pins++iJ fp s5.heap) σ7 H7 s7->N σ7 H7->∃m,m<n/\∃i σ' H',Inv X pins σ' H' s7/\tn i s7.heap/\(∀b∈fp,H' b=none)/\W i m σ' H':=λ{σ7 H7} I7 n7=>by
   obtain⟨m',hm,w7⟩:=hN σ7 H7 n7;refine⟨m',hm,i+1,σ7,H7,I7.unpinned,T.keep _ _ _ HK λb hb o e=>(I7.pin (b,o) (cN _ (cN _ (jU hb e)))).1,λb hb=>?_,w7⟩;obtain⟨o,e,d⟩:=T.obj _ _ HK b hb;exact(I7.pin (b,o) (cN _ (cN _ (jU hb e)))).2.1
  cases f with
  |next=>obtain⟨σ7,H7,I7,n7⟩:=q7;exact again I7 n7
  |cont=>obtain⟨σ7,H7,I7,n7⟩:=q7;exact again I7 n7
  |brk=>obtain⟨σ7,H7,I7,q7⟩:=q7;exact⟨σ7,H7,I7.unpinned,q7⟩
  |ret v=>obtain⟨x7,σ7,H7,I7,r7,q7⟩:=q7;exact⟨x7,σ7,H7,I7.unpinned,r7,q7⟩
end
abbrev R2:=V->V->Hp->VK->Prop
def OpR(X:Cx)(f:ae->ae->Sem ae)(r:R2):Prop:=
 ∀(pins:List (Addr×Obj)) (s:af) (σ:St) (H:Hp) (x y:V) (v u:ae) (Q:VK),Inv X pins σ H s->RelV x v->RelV y u->r x y H Q ->
  aq (ao X.prog X.w) X.A (f v u) (EP X pins σ Q) X.xe s
def UnR(X:Cx)(f:ae->Sem ae)(r:V->Hp->VK->Prop):Prop:=
 ∀(pins:List (Addr×Obj)) (s:af) (σ:St) (H:Hp) (x:V) (v:ae) (Q:VK),Inv X pins σ H s->RelV x v->r x H Q ->
  aq (ao X.prog X.w) X.A (f v) (EP X pins σ Q) X.xe s
def qQ(X:Cx)(f:ae)(r:List V->Hp->VK->Prop):Prop:=
 ∀(pins:List (Addr×Obj)) (s:af) (σ:St) (H:Hp) (xs:List V) (us:List ae) (Q:VK),Inv X pins σ H s->Vals xs us->r xs H Q ->
  aq (ao X.prog X.w) X.A (call f us) (EP X pins σ Q) X.xe s
def xf(X:Cx)(r:V->Hp->(Bool->Hp->Prop)->Prop):Prop:=
 ∀(pins:List (Addr×Obj)) (s:af) (σ:St) (H:Hp) (x:V) (v:ae) (Q:Bool->Hp->Prop),Inv X pins σ H s->RelV x v->r x H Q ->
  aq (ao X.prog X.w) X.A (truthy v) (TP X pins σ Q) X.xe s
def tOp(r:R2)(ta tb:TE):TE:=λσ H Q=>ta σ H λx H1=>tb σ H1 λy H2=>r x y H2 Q
def tUn(r:V->Hp->VK->Prop)(ta:TE):TE:=λσ H Q=>ta σ H λx H1=>r x H1 Q
def rI(C:Int->Int->Prop)(g:Int->Int->V):R2:=λx y H Q=>∃i j,x=.int i/\y=.int j/\C i j/\Q (g i j) H
def rI0(g:Int->Int->V):R2:=λx y H Q=>∃i j,x=.int i/\y=.int j/\Q (g i j) H
def rU(g:Int->V):V->Hp->VK->Prop:=λx H Q=>∃i,x=.int i/\Q (g i) H
section
variable{X:Cx}{a b c:Expr}{ta tb tc:TE}{pos:Pos}
theorem lH(ha:PE X a ta)(hb:PE X b tb){pins:List (Addr×Obj)}{s:af}{σ:St}{H:Hp}{R:V->V->Hp->Prop}(I:Inv X pins σ H s)
  (h:ta σ H λx H1=>tb σ H1 λy H2=>R x y H2) {Q:ae->af->Prop}{f:ae->ae->Sem ae}
  (hf:∀v u s2 x y H2,Inv X pins σ H2 s2->RelV x v->RelV y u->R x y H2->aq (ao X.prog X.w) X.A (f v u) Q X.xe s2) :
  aq (ao X.prog X.w) X.A (eval a X.env) (λv s₁=>aq (ao X.prog X.w) X.A (eval b X.env) (λu s₂=>aq (ao X.prog X.w) X.A (f v u) Q X.xe s₂) X.xe s₁) X.xe s:=by
 refine thn (ha pins s σ H _ I h) λv s1 ⟨x,H1,I1,r1,q1⟩=>?_
 refine thn (hb pins s1 σ H1 _ I1 q1) λu s2 ⟨y,H2,I2,r2,q2⟩=>?_
 exact hf v u s2 x y H2 I2 r1 r2 q2
theorem uP{op:Operator}{r:R2}(ho:OpR X (binaryOp op) r)(ha:PE X a ta)(hb:PE X b tb):PE X (.BinOp a op b pos) (tOp r ta tb):=by
 intro pins s σ H Q I h;exact wpAny_BinOp (lH ha hb I h λv u s2 x y H2 I2 rx ry q=>ho pins s2 σ H2 x y v u Q I2 rx ry q)
theorem BF{op:UnaryOp}{r:V->Hp->VK->Prop}(ho:UnR X (unaryOp op) r)(ha:PE X a ta):PE X (.UnaryOp op a pos) (tUn r ta):=by
 intro pins s σ H Q I h;exact UnaryOp_ (thn (ha pins s σ H _ I h) λv s1 ⟨x,H1,I1,r1,q1⟩=>ho pins s1 σ H1 x v Q I1 r1 q1)
theorem opI{f:ae->ae->Sem ae}{C:Int->Int->Prop}{g:Int->Int->Int}
  (rule:∀(i j:Int) (t u:Tok) (s:af) (Q:ae->af->Prop) (E:ae->af->Prop),C i j->Q (.int (g i j) s.toks) {s with toks:=s.toks+1}->aq (ao X.prog X.w) X.A (f (.int i t) (.int j u)) Q E s) :
  OpR X f (rI C λi j=>.int (g i j)):=by
 intro pins s σ H x y v u Q I rx ry h;obtain⟨i,j,rfl,rfl,hc,q⟩:=h;obtain⟨t,rfl⟩:=rx;obtain⟨t',rfl⟩:=ry;exact rule i j t t' s _ _ hc ⟨.int (g i j),H,I.tok _,⟨_,rfl⟩,q⟩
theorem mO{f:ae->ae->Sem ae}{g:Int->Int->Int}
  (rule:∀(i j:Int) (t u:Tok) (s:af) (Q:ae->af->Prop) (E:ae->af->Prop),Q (.int (g i j) s.toks) {s with toks:=s.toks+1}->aq (ao X.prog X.w) X.A (f (.int i t) (.int j u)) Q E s) :
  OpR X f (rI0 λi j=>.int (g i j)):=by
 intro pins s σ H x y v u Q I rx ry h;obtain⟨i,j,rfl,rfl,q⟩:=h;obtain⟨t,rfl⟩:=rx;obtain⟨t',rfl⟩:=ry;exact rule i j t t' s _ _ ⟨.int (g i j),H,I.tok _,⟨_,rfl⟩,q⟩
theorem jY{f:ae->ae->Sem ae}{g:Int->Int->Bool}
  (rule:∀(i j:Int) (t u:Tok) (s:af) (Q:ae->af->Prop) (E:ae->af->Prop),Q (.bool (g i j)) s->aq (ao X.prog X.w) X.A (f (.int i t) (.int j u)) Q E s) :
  OpR X f (rI0 λi j=>.bl (g i j)):=by
 intro pins s σ H x y v u Q I rx ry h;obtain⟨i,j,rfl,rfl,q⟩:=h;obtain⟨t,rfl⟩:=rx;obtain⟨t',rfl⟩:=ry;exact rule i j t t' s _ _ ⟨.bl (g i j),H,I,rfl,q⟩
def vJ(i j:Int):Prop:=0<=j/\j<=1000000/\i.natAbs<2^64
def kq(i j:Int):Prop:=(-(2^64)<i/\i<2^64)\/(-(2^64)<j/\j<2^64)
theorem kq.ok{i j:Int}(h:kq i j):IntMulOk i j:=by
 rcases h with ⟨h1,h2⟩|⟨h1,h2⟩
 ·exact .of_left (intBits_le_64 h1 h2)
 ·exact .of_right (intBits_le_64 h1 h2)
theorem vy(k:Nat):(0:Int)<=2^k:=by
 rw[two_pow_cast];exact Int.natCast_nonneg _
theorem Bq:OpR X (binaryOp .Add) (rI0 λi j=>.int (i+j)):=mO λ_ _ _ _ _ _ _ q=>add_int q
theorem xY:OpR X (binaryOp .Sub) (rI0 λi j=>.int (i-j)):=mO λ_ _ _ _ _ _ _ q=>sub_int q
theorem CK:OpR X (binaryOp .Mult) (rI kq λi j=>.int (i * j)):=opI λ_ _ _ _ _ _ _ hc q=>mul_int q hc.ok
theorem vT:OpR X (binaryOp .Mod) (rI (λ_ j=>0<j) λi j=>.int (i%j)):=opI λi j _ _ _ _ _ hc q=>by
 have h1:(0:Int)<j:=hc;exact mod_int' (by lia) (by rw[Int.fmod_eq_emod_of_nonneg i (by lia)];exact q)
theorem CL:OpR X (binaryOp .Pow) (rI vJ λi j=>.int (i^j.toNat)):=opI λ_ _ _ _ _ _ _ hc q=>pow_int_small hc.1 hc.2.1 hc.2.2 q
theorem uV:OpR X (binaryOp .RShift) (rI (λ_ j=>0<=j) λi j=>.int (i/2^j.toNat)):=opI λi j _ _ _ _ _ hc q=>
 rshift_int hc (by rw[Int.fdiv_eq_ediv_of_nonneg i (vy _)];exact q)
theorem unI{f:ae->Sem ae}{g:Int->Int}
  (rule:∀(i:Int) (t:Tok) (s:af) (Q:ae->af->Prop) (E:ae->af->Prop),Q (.int (g i) s.toks) {s with toks:=s.toks+1}->aq (ao X.prog X.w) X.A (f (.int i t)) Q E s) :
  UnR X f (rU λi=>.int (g i)):=by
 intro pins s σ H x v Q I rx h;obtain⟨i,rfl,q⟩:=h;obtain⟨t,rfl⟩:=rx;exact rule i t s _ _ ⟨.int (g i),H,I.tok _,⟨_,rfl⟩,q⟩
theorem Aa:UnR X (unaryOp .USub) (rU λi=>.int (-i)):=unI λ_ _ _ _ _ q=>neg_int q
end
section
variable{X:Cx}{a b c:Expr}{ta tb tc:TE}{pos:Pos}
theorem jv{pins:List (Addr×Obj)}{σ:St}{H:Hp}{s:af}{Q:VK}{k k':Bool}(I:Inv X pins σ H s)(q:Q (.bl k) H)(e:k=k'):EP X pins σ Q (.bool k') s:=by
 subst e;exact⟨.bl k,H,I,rfl,q⟩
theorem yx:OpR X (a_ .Lt) (rI0 λi j=>.bl (decide (i<j))):=jY λ_ _ _ _ _ _ _ q=>lt_int q
theorem Fu:OpR X (a_ .LtE) (rI0 λi j=>.bl (decide (i<=j))):=jY λ_ _ _ _ _ _ _ q=>le_int q
theorem xD:OpR X (a_ .Gt) (rI0 λi j=>.bl (decide (j<i))):=jY λ_ _ _ _ _ _ _ q=>gt_int q
theorem EM:OpR X (a_ .GtE) (rI0 λi j=>.bl (decide (j<=i))):=jY λ_ _ _ _ _ _ _ q=>ge_int q
theorem Bx:OpR X (a_ .Is) (λx y H Q=>y=.non/\Q (.bl (decide (x=.non))) H):=by
 intro pins s σ H x y v u Q I rx ry h;obtain⟨rfl,q⟩:=h;cases ry;refine is_none_gen (jv I q ?_);cases x<;>first
  | (cases rx;rfl)
  | (obtain⟨t,rfl⟩:=rx;rfl)
theorem xg:OpR X (a_ .IsNot) (λx y H Q=>y=.non/\Q (.bl (!decide (x=.non))) H):=by
 intro pins s σ H x y v u Q I rx ry h;obtain⟨rfl,q⟩:=h;cases ry;refine isnot_none_gen (jv I q ?_);cases x<;>first
  | (cases rx;rfl)
  | (obtain⟨t,rfl⟩:=rx;rfl)
theorem OpR.or{f:ae->ae->Sem ae}{r r':R2}(h:OpR X f r)(h':OpR X f r'):OpR X f (λx y H Q=>r x y H Q\/r' x y H Q):=by
 intro pins s σ H x y v u Q I rx ry q;rcases q with q|q
 ·exact h pins s σ H x y v u Q I rx ry q
 ·exact h' pins s σ H x y v u Q I rx ry q
theorem vW{op:CmpOp}{r:R2}(ho:OpR X (a_ op) r)(ha:PE X a ta)(hb:PE X b tb)(hm:behindInMarks op b=false):PE X (.Compare a [op] [b] pos) (tOp r ta tb):=by
 intro pins s σ H Q I h;exact wpAny_Compare1 (lH ha hb I h λv u s2 x y H2 I2 rx ry q=>ho pins s2 σ H2 x y v u Q I2 rx ry q) hm
def kF(t:TE):TT:=λσ H Q=>t σ H λx H'=>∃k,x=.bl k/\Q k H'
theorem v_{op:CmpOp}{r:R2}(ho:OpR X (a_ op) r)(ha:PE X a ta)(hb:PE X b tb)(hm:behindInMarks op b=false):PT X (.Compare a [op] [b] pos) (kF (tOp r ta tb)):=by
 intro pins s σ H Q I h;refine wpAny_isTrue_Compare1 (thn (ha pins s σ H _ I h) λv s1 ⟨x,H1,I1,r1,q1⟩=>thn (hb pins s1 σ H1 _ I1 q1) λu s2 ⟨y,H2,I2,r2,q2⟩=>
  thn (ho pins s2 σ H2 x y v u _ I2 r1 r2 q2) λc s3 ⟨z,H3,I3,r3,k,e,q3⟩=>?_) hm
 subst e;cases r3;exact bQ ⟨H3,I3,q3⟩
def o_(r r':R2)(ta tb tc:TE):TE:=λσ H Q=>ta σ H λx H1=>tb σ H1 λy H2=>r x y H2 λz H3=>∃k,z=.bl k /\
 (if k=true then tc σ H3 λw' H4=>r' y w' H4 Q else Q (.bl false) H3)
theorem wN{op FO:CmpOp}{r r':R2}(ho:OpR X (a_ op) r)(Gn:OpR X (a_ FO) r')(ha:PE X a ta)(hb:PE X b tb)(hc:PE X c tc)
  (hm:lastMarks [op,FO] [b,c]=false):PE X (.Compare a [op,FO] [b,c] pos) (o_ r r' ta tb tc):=by
 intro pins s σ H Q I h;refine Compare_chain (thn (ha pins s σ H _ I h) λv s1 ⟨x,H1,I1,r1,q1⟩=>chain_link (thn (hb pins s1 σ H1 _ I1 q1) λu s2 ⟨y,H2,I2,r2,q2⟩=>
  thn (ho pins s2 σ H2 x y v u _ I2 r1 r2 q2) λd s3 ⟨z,H3,I3,r3,k,e,q3⟩=>?_)) hm
 subst e;cases r3;refine bQ ?_;cases k with
 |false=>exact ite_ff ⟨.bl false,H3,I3,rfl,q3⟩
 |true=>exact ite_tt (chain_last (thn (hc pins s3 σ H3 _ I3 q3) λw' s4 ⟨z',H4,I4,r4,q4⟩=>Gn pins s4 σ H4 y z' u w' Q I4 r2 r4 q4))
theorem BG{op FO:CmpOp}{r r':R2}(ho:OpR X (a_ op) r)(Gn:OpR X (a_ FO) r')(ha:PE X a ta)(hb:PE X b tb)(hc:PE X c tc)
  (hm:lastMarks [op,FO] [b,c]=false):PT X (.Compare a [op,FO] [b,c] pos) (kF (o_ r r' ta tb tc)):=by
 intro pins s σ H Q I h;refine isTrue_chain (thn (ha pins s σ H _ I h) λv s1 ⟨x,H1,I1,r1,q1⟩=>test_link (thn (hb pins s1 σ H1 _ I1 q1) λu s2 ⟨y,H2,I2,r2,q2⟩=>
  thn (ho pins s2 σ H2 x y v u _ I2 r1 r2 q2) λd s3 ⟨z,H3,I3,r3,k,e,q3⟩=>?_)) hm
 subst e;cases r3;refine bQ ?_;cases k with
 |false=>
  obtain⟨k',e',q'⟩:=q3;cases e';exact ite_ff ⟨H3,I3,q'⟩
 |true=>
  refine ite_tt (test_last (thn (hc pins s3 σ H3 _ I3 q3) λw' s4 ⟨z',H4,I4,r4,q4⟩=>thn (Gn pins s4 σ H4 y z' u w' _ I4 r2 r4 q4) λd' s5 ⟨z2,H5,I5,r5,k2,e2,q5⟩=>?_));subst e2;cases r5;exact bQ ⟨H5,I5,q5⟩
def mB(K:aB)(x:V)(H:Hp)(k:Bool):Prop:=
 match x with
 | .non=>k=false
 | .bl b=>k=b
 | .int i=>k=(i != 0)
 | .str y=>y.length<=aO/\k=((y.length:Int) != 0)
 | .byt y=>y.size<=aO/\k=((y.size:Int) != 0)
 | .ref p=>(∃xs,SqL K H p xs/\k = !xs.isEmpty)\/(∃xs,SqT K H p xs/\k = !xs.isEmpty)\/∃kvs,H p=some (.dK kvs)/\k = !kvs.isEmpty
 |_=>False
theorem Dv{κ:Type}{kvs:List (κ×V)}{vs:List (κ×ae)}(r:KV kvs vs):(!vs.isEmpty) = !kvs.isEmpty:=by
 cases r<;>rfl
theorem rR{xs:List V}{its:List ae}(r:Vals xs its):(!its.toArray.isEmpty) = !xs.isEmpty:=by
 cases r<;>simp
theorem iU:(aO:Nat)<2^63:=by rw[bx];decide
theorem AY:xf X (λx H Q=>∃k,mB X.K x H k/\Q k H):=by
 intro pins s σ H x v Q I rx h;obtain⟨k,e,q⟩:=h;have hl:=iU;have hs:aO=16777216:=bx;cases x with
 |non=>
  cases rx;have e':k=false:=e;subst e';exact truthy_none ⟨H,I,q⟩
 |bl b=>
  cases rx;have e':k=b:=e;subst e';exact bQ ⟨H,I,q⟩
 |int i=>
  obtain⟨t,rfl⟩:=rx;have e':k=(i != 0):=e;subst e';exact PySem.P.truthy_int ⟨H,I,q⟩
 |str y=>
  obtain⟨t,rfl⟩:=rx;obtain⟨hy,e'⟩:y.length<=aO/\k=((y.length:Int) != 0):=e;subst e';exact PySem.P.truthy_str (by lia) ⟨H,I.tok _,q⟩
 |byt y=>
  obtain⟨t,rfl⟩:=rx;obtain⟨hy,e'⟩:y.size<=aO/\k=((y.size:Int) != 0):=e;subst e';exact PySem.W.truthy_bytes (by lia) ⟨H,I.tok _,q⟩
 |ref p=>
  cases rx;have e':(∃xs,SqL X.K H p xs/\k = !xs.isEmpty)\/(∃xs,SqT X.K H p xs/\k = !xs.isEmpty)\/∃kvs,H p=some (.dK kvs)/\k = !kvs.isEmpty:=e;rcases e' with ⟨xs,hx,e'⟩|⟨xs,hx,e'⟩|⟨kvs,hx,e'⟩
  ·subst e';obtain⟨its,r,pl,hz⟩:=I.list hx;have hlen:=r.length;exact wpAny_truthy_list pl.isList (by simp only[a7];lia) ⟨H,I.tok _,by rw[rR r];exact q⟩
  ·subst e';obtain⟨its,r,pl,hz⟩:=I.tuple hx;have hlen:=r.length;exact truthy_tuple pl (by simp only[a7];lia) ⟨H,I.tok _,by rw[rR r];exact q⟩
  ·subst e';obtain⟨hz,hS,vs,r,m⟩:kvs.length<=aO/\(p==sysModules)=false/\∃vs,KV kvs vs/\s.heap.DictOf (zv X.prog X.w) p vs:=I.hok p _ hx;have hlen:kvs.length=vs.length:=Paired.length r;exact wpAny_truthy_dict hS m (by lia) ⟨H,I.tok _,by rw[Dv r];exact q⟩
 |_=>exact(show False from e).elim
theorem AQ(ha:PE X a ta)(he:∀whole,isTrue a X.env whole=(do let v <-whole;standAt a.pos;holding [v] (truthy v))) :
  PT X a (λσ H Q=>ta σ H λx H'=>∃k,mB X.K x H' k/\Q k H'):=by
 intro pins s σ H Q I h;exact isTrue_plain (thn (ha pins s σ H _ I h) λv s1 ⟨x,H1,I1,r1,q1⟩=>AY pins s1 σ H1 x v Q I1 r1 q1) (he _)
theorem vals1{x:V}{us:List ae}(r:Vals [x] us):∃u,us=[u]/\RelV x u:=by
 cases r with
 |cons r1 r2=>cases r2;exact⟨_,rfl,r1⟩
theorem vals2{x y:V}{us:List ae}(r:Vals [x,y] us):∃u w',us=[u,w']/\RelV x u/\RelV y w':=by
 cases r with
 |cons r1 r2=>
  cases r2 with
  |cons r3 r4=>cases r4;exact⟨_,_,rfl,r1,r3⟩
theorem xM(hc:X.calm=true):qQ X (.builtin "max") (λxs H Q=>∃i j,xs=[.int i,.int j]/\Q (.int (if j>i then j else i)) H):=by
 intro pins s σ H xs us Q I r h;obtain⟨i,j,rfl,q⟩:=h;obtain⟨u,w',rfl,⟨t,rfl⟩,⟨t',rfl⟩⟩:=vals2 r;refine max_two_ints (I.ok.hd hc) λh' tk k=>⟨_,H,I.kept k,?_,q⟩
 by_cases hj:j>i
 ·rw[if_pos hj,if_pos hj];exact⟨_,rfl⟩
 ·rw[if_neg hj,if_neg hj];exact⟨_,rfl⟩
theorem yP(hc:X.calm=true):qQ X (.builtin "min") (λxs H Q=>∃i j,xs=[.int i,.int j]/\Q (.int (if j<i then j else i)) H):=by
 intro pins s σ H xs us Q I r h;obtain⟨i,j,rfl,q⟩:=h;obtain⟨u,w',rfl,⟨t,rfl⟩,⟨t',rfl⟩⟩:=vals2 r;refine min_two_ints (I.ok.hd hc) λh' tk k=>⟨_,H,I.kept k,?_,q⟩
 by_cases hj:j<i
 ·rw[if_pos hj,if_pos hj];exact⟨_,rfl⟩
 ·rw[if_neg hj,if_neg hj];exact⟨_,rfl⟩
end
structure lu(h:Heap)(x dx C:Addr)(mA:Str->Option ae):Prop where
 obj:h.get? x=some (PySem.W.instObj C dx)
 ns:h.Ns1 dx mA
 ne:dx≠x
theorem Cs{h:Heap}{dx:Addr}{mA:Str->Option ae}(n:h.Ns1 dx mA):∃od,h.get? dx=some od/\∀name,PySem.W.lookIn name od=some (mA name):=by
 obtain⟨o,es,ep,ho,hd,hk,_,hm⟩:=n;refine⟨o,ho,λname=>?_⟩;have e:=hm name;unfold nsFind findBy at e;rw[<-Array.find?_toList]at e;unfold PySem.W.lookIn;rw[hd];dsimp only;split
 ·rename_i y q
  rw[q]at e;exact congrArg some e
 ·rename_i q
  rw[q]at e;have a:es.toList.any (·.refKey)=false:=by
   rw[List.any_eq_false];intro y hy;obtain⟨z,t,Hl⟩:=hk y (Array.mem_toList_iff.mp hy);simp[DictEntry.refKey,Hl]
  have a':¬ es.toList.any (·.refKey)=true:=by rw[a];exact bO
  rw[if_neg a'];exact congrArg some e
theorem lu.look{h:Heap}{x dx C:Addr}{mA:Str->Option ae}(I:lu h x dx C mA):∃od,PySem.W.InstAt h x (PySem.W.instObj C dx) C (some od)/\∀name,PySem.W.lookIn name od=some (mA name):=
 let ⟨od,ho,hl⟩:=Cs I.ns
 ⟨od,⟨I.obj,rfl,rfl,ho⟩,hl⟩
section
variable{prog:aF}{w:aD}{A:aE}{E:ae->af->Prop}{s:af}{K:aB}{x dx C f:Addr}{mA:Str->Option ae}{name:Str}{v:ae}
end
theorem eK.some_of{v:V}{o:Option ae}(r:eK (some v) o):∃u,o=some u/\RelV v u:=by
 cases o with
 |none=>exact(show False from r).elim
 |some u=>exact⟨u,rfl,r⟩
section
variable{P:aF}{w:aD}{H H':Hp}{h h':Heap}{a C dx:Addr}{fs fs':List (Str×V)}
theorem Ee(hok:HOk P w H h)(e:H a=some (.ins C dx fs)):∃mA,lu h a dx C mA/\(∀f,eK (fs.lookup f) (mA f))/\PySem.Within mA (fs.map (·.1))/\fs.length<=1000/\H dx=some (.own a):=by
 obtain⟨d,z,ne,ob,mA,n,r,q⟩:=(show zq P w H h a (.ins C dx fs)from hok a _ e)
 exact⟨mA,⟨ob,n,ne⟩,r,q,z,d⟩
end
structure Cls(K:aB)(C:Addr):Prop where
 pg:PySem.W.plainGet K C Str.empty=true
 hd:PySem.W.hasDictIn K C=true
 po:PySem.W.plainOver K C=true
 sa:PySem.W.findIn K (.ref C) "__setattr__" = some (some (.builtin "object.__setattr__"))
theorem Cls.get{K:aB}{C:Addr}(c:Cls K C)(f:Str):PySem.W.plainGet K C f=true:=c.pg
section
variable{X:Cx}{pins:List (Addr×Obj)}{σ:St}{H:Hp}{s:af}{a C dx:Addr}{fs:List (Str×V)}{f:Str}{v:V}{A:aE}{E:ae->af->Prop}
end
section
variable{X:Cx}{o e value:Expr}{f:Str}{pos pos' tpos:Pos}{ta tv:TE}
end
section
variable{X:Cx}{pins:List (Addr×Obj)}{σ:St}{H:Hp}{s:af}{A:aE}{E:ae->af->Prop}{Q:ae->af->Prop}{c:ae}{b:Bool}
inductive dX(K:aB)(H:Hp):V->ae->Prop where
 |non:dX K H .non (.type "NoneType")
 |bl (x:Bool):dX K H (.bl x) (.type "bool")
 |int (i:Int):dX K H (.int i) (.type "int")
 |str (x:Str):dX K H (.str x) (.type "str")
 |flt (x:UInt64):dX K H (.flt x) (.type "float")
 |lst {a:Addr}{xs:List V} (e:H a=some (.lst xs)):dX K H (.ref a) (.type "list")
 |frz {a:Addr}{o:Obj}{xs:List V} (e:H a=some (.frz o (.lst xs))):dX K H (.ref a) (.type "list")
 |tup {a:Addr}{xs:List V} (e:H a=some (.tup xs)):dX K H (.ref a) (.type "tuple")
 |dK {a:Addr}{kvs:List (Key×V)} (e:H a=some (.dK kvs)):dX K H (.ref a) (.type "dict")
 |dT {a:Addr}{kvs:List (List Key×V)} (e:H a=some (.dT kvs)):dX K H (.ref a) (.type "dict")
 |ins {a C dx:Addr}{fs:List (Str×V)} (e:H a=some (.ins C dx fs)) (cl:Cls K C) (ha:PySem.W.findIn K (.ref C) "__class__" = some (some (.builtin "object.__class__")))
   (hn:PySem.W.specialIn K (.builtin "object.__class__") "__get__" = some (some (.builtin "getset_descriptor.__get__"))) (htk:PySem.W.takesIn K (.builtin "object.__class__")=some true)
   (hm:PySem.W.mroIn K C (.type "object")=some true):dX K H (.ref a) (.ref C)
theorem g_{x:V}{u t:ae}(I:Inv X pins σ H s)(rx:RelV x u)(ty:dX X.K H x t)(e:bF X.K t c=some b)(h:∀tk,Q (.bool b) {s with toks:=tk}) :
  aq (ao X.prog X.w) A (call (.builtin "isinstance") [u,c]) Q E s:=by
 cases ty with
 |non=>cases (show u=ae.none from rx);exact bS PySem.W.kitx_none I.kIn True.intro e (λz=>nomatch z) h
 |bl y=>cases (show u=bJ y from rx);exact bS PySem.W.kitx_bool I.kIn True.intro e (λz=>nomatch z) h
 |int i=>obtain⟨t,q⟩:=(show ∃t,u=ae.int i t from rx);cases q;exact bS PySem.W.kitx_int I.kIn True.intro e (λz=>nomatch z) h
 |str y=>obtain⟨t,q⟩:=(show ∃t,u=ae.str y t from rx);cases q;exact bS PySem.W.kitx_str I.kIn True.intro e (λz=>nomatch z) h
 |flt y=>obtain⟨t,q⟩:=(show ∃t,u=ae.float y t from rx);cases q;exact bS PySem.W.kitx_float I.kIn True.intro e (λz=>nomatch z) h
 | @lst a xs ea=>
  cases (show u=bh a from rx);obtain⟨_,_,n,_,h1⟩:=(show zq X.prog X.w H s.heap a (.lst xs)from I.hok a _ ea)
  exact bS PySem.W.kitx_list I.kIn ⟨_,h1,rfl⟩ e (λz=>nomatch z) h
 | @frz a ob xs ea=>
  cases (show u=bh a from rx);obtain⟨_,_,_,n,_,h1⟩:=(show zq X.prog X.w H s.heap a (.frz ob (.lst xs))from I.hok a _ ea)
  exact bS PySem.W.kitx_list I.kIn ⟨_,h1,rfl⟩ e (λz=>nomatch z) h
 | @tup a xs ea=>
  cases (show u=bh a from rx);obtain⟨_,_,_,p⟩:=(show zq X.prog X.w H s.heap a (.tup xs)from I.hok a _ ea)
  obtain⟨o,h1,h2,_⟩:=p;exact bS PySem.W.kitx_tuple I.kIn ⟨o,h1,h2⟩ e (λz=>nomatch z) h
 | @dK a kvs ea=>
  cases (show u=bh a from rx);obtain⟨_,_,vs,_,p⟩:=(show zq X.prog X.w H s.heap a (.dK kvs)from I.hok a _ ea)
  obtain⟨o,es,ep,h1,h2,_⟩:=p;exact bS PySem.W.kitx_dict I.kIn ⟨o,h1,h2.1⟩ e (λz=>nomatch z) h
 | @dT a kvs ea=>
  cases (show u=bh a from rx);obtain⟨_,_,xs,_,o,es,ep,h1,h2,_⟩:=(show zq X.prog X.w H s.heap a (.dT kvs)from I.hok a _ ea)
  exact bS PySem.W.kitx_dict I.kIn ⟨o,h1,h2.1⟩ e (λz=>nomatch z) h
 | @ins a C dx fs ea cl ha hn htk hm=>
  cases (show u=bh a from rx);obtain⟨mA,O,_⟩:=Ee I.hok ea;obtain⟨od,J,_⟩:=O.look;exact bS (PySem.W.kitx_own (cl.get _) cl.hd ha hn htk hm) I.kIn J e (λz=>nomatch z) h
end
structure cC(k:Nat)(A:aE):Prop where
 hd:A.handled=none
 dp:A.depth+3 * k+5<recursionLimit
 un:A.units+16 * k+200<cLine
theorem cC.deeper{k:Nat}{A:aE}(r:cC (k+1) A)(env:Env):cC k (A.deeper env):=
 ⟨r.hd,by have:=r.dp;show A.depth+1+3 * k+5<_;lia,by have:=r.un;show A.units+3+16 * k+200<_;lia⟩
theorem cC.depth{k:Nat}{A:aE}(r:cC k A):A.depth<recursionLimit:=by have:=r.dp;lia
theorem cC.units{k:Nat}{A:aE}(r:cC k A):A.units+64<cLine:=by have:=r.un;lia
def uw:TA:=λ_ H Q=>Q [] H
def CT(ta:TE)(tr:TA):TA:=λσ H Q=>ta σ H λx H1=>tr σ H1 λxs H2=>Q (x::xs) H2
section
variable{X:Cx}{e:Expr}{es:List Expr}{te:TE}{t:TA}{pos:Pos}
theorem eG:PA X [] uw:=λ_ _ _ _ H Q I h=>Calls.spliced_nil ⟨[],H,I,.nil,h⟩
theorem zU(ha:PE X e te)(hr:PA X es t)(hs:aX (e::es) X.env=(false,eval e X.env)::aX es X.env):PA X (e::es) (CT te t):=by
 intro pos pins s σ H Q I h;rw[hs];show aq _ _ (spliced ((false,eval e X.env)::backTo pos (aX es X.env))) _ _ s;refine Calls.spliced_cons (thn (ha pins s σ H _ I h) λu s1 ⟨x,H1,I1,r1,q1⟩=>?_);exact thn (hr pos pins s1 σ H1 _ I1 q1) λus s2 ⟨xs,H2,I2,r2,q2⟩=>⟨x::xs,H2,I2,.cons r1 r2,q2⟩
def C_(t:TA):TE:=λσ H Q=>t σ H λxs H1=>xs.length<=aO/\∀p,H1 p=none->Q (.ref p) (upd H1 p (.tup xs))
def Ey(t:TA):TE:=λσ H Q=>t σ H λxs H1=>xs.length<=aO/\∀p,H1 p=none->Q (.ref p) (upd H1 p (.lst xs))
theorem E8{x1}(h:PA X es t):PE X (.Tuple es x1 pos) (C_ t):=by
 intro pins s σ H Q I hq;refine wpAny_Tuple_spliced (thn (h pos pins s σ H _ I hq) λus s1 ⟨xs,H1,I1,r,z,q⟩=>⟨by rw[<-r.length];exact z,?_⟩);have hf:H1 s1.heap.objs.size=none:=I1.hok.fresh (aG _);refine⟨.ref s1.heap.objs.size,upd H1 s1.heap.objs.size (.tup xs),I1.laid (t':=s1.toks) (λb u e=>Heap.get?_push_of_some _ e) (aG _) ?_,rfl,q _ hf⟩;exact⟨z,us,r,⟨_,Heap.get?_push_size _ rfl,rfl,_,rfl⟩⟩
theorem yN(h:PA X es t):PE X (.List es pos) (Ey t):=by
 intro pins s σ H Q I hq;refine wpAny_List_spliced (thn (h pos pins s σ H _ I hq) λus s1 ⟨xs,H1,I1,r,z,q⟩=>⟨by rw[<-r.length];exact z,?_⟩);have hf:H1 s1.heap.objs.size=none:=I1.hok.fresh (aG _);refine⟨.ref s1.heap.objs.size,upd H1 s1.heap.objs.size (.lst xs),I1.laid (t':=s1.toks) (λb u e=>Heap.get?_push_of_some _ e) (aG _) ?_,rfl,q _ hf⟩;exact⟨z,us,0,r,Heap.get?_push_size _ rfl⟩
end
abbrev Sp:=List V->Hp->VK->XK->Prop
abbrev CXT:=List Env->Hp->af->XK->ae->af->Prop
structure gz(P:aF)(w:aD)(K:aB)(mg:Str->Option ae)(base:Heap)(A:aE)(outer:List Env)(s:af)(H:Hp):Prop where
 frames:A.frames=some outer
 mod:Mod K mg base
 bs:∀b o,base.get? b=some o->s.heap.get? b=some o/\H b=none
 bsz:base.objs.size<=s.heap.objs.size
 funs:s.heap.FunFrames base outer
 frf:∀b∈frs outer,H b=none
 hok:HOk P w H s.heap
 bare:AllBare s.gens
def CE(outer:List Env)(P:aF)(w:aD)(H:Hp)(s:af)(Q:VK)(u:ae)(s':af):Prop:=
 ∃v H',s'.os=s.os/\AllBare s'.gens/\Un (frs outer) [] H H' s.heap s'.heap/\HOk P w H' s'.heap/\RelV v u/\Q v H'
def CR(CX:CXT)(outer:List Env)(P:aF)(w:aD)(H:Hp)(s:af)(Q:VK)(E:XK)(r:Result)(s':af):Prop:=
 match r with
 | .ok (.ret u)=>CE outer P w H s Q u s'
 | .ok _=>False
 | .error e=>CX outer H s E e s'
structure fH(P:aF)(w:aD)(K:aB)(mg:Str->Option ae)(base:Heap)(CX:CXT)(k:Nat)(f:Addr)(fd:bN)(ps:List Str)(sp:Sp):Prop where
 len:∀vs H Q E,sp vs H Q E->vs.length=ps.length
 run:∀(A:aE) (outer:List Env) (s:af) (H:Hp) (args:Args) (us:List ae) (vs:List V) (Q:VK) (E:XK),cC k A->gz P w K mg base A outer s H->BindsTo s fd args (ps.zip us)->Vals vs us->sp vs H Q E ->
  codeAny (ao P w) A (.call (.ref f) args) (CR CX outer P w H s Q E) s
section
variable{X:Cx}{pins:List (Addr×Obj)}{σ:St}{H:Hp}{s s':af}
theorem Inv.env0(I:Inv X pins σ H s):gz X.prog X.w X.K X.mg X.base X.A X.stack s H:=
 ⟨I.ok.frames,I.ok.mod,I.bs,bB I.ok.bsz I.sz,I.stack,I.stkFree,I.hok,I.bare⟩
theorem Inv.after{Q:VK}{u:ae}(I:Inv X pins σ H s)(h:CE X.stack X.prog X.w H s Q u s'):EP X pins σ Q u s':=by
 obtain⟨v,H',os,bare,un,hok,r,q⟩:=h;obtain⟨hh,g,d,t,Ip⟩:=s';obtain rfl:Ip=s.os:=os;exact⟨v,H',I.call (h':=hh) (g':=g) (d':=d) (t':=t) (ch:=[]) un hok bare (λb z=>absurd z (by simp)),r,q⟩
end
def mK(sp:Sp)(Gs:List V)(E:XK)(t:TA):TE:=λσ H Q=>t σ H λvs H1=>sp (vs++Gs) H1 Q E
def Binds(K:aB)(fd:bN)(ps:List Str)(ds:List ae):Prop:=
 ∀(s:af) (us:List ae),K.In s.heap->(us++ds).length=ps.length->BindsTo s fd ⟨us,[]⟩ (ps.zip (us++ds))
theorem Binds.all{K:aB}{fd:bN}{ps:List Str}(h:∀us:List ae,us.length=ps.length->bindArgs fd ⟨us,[]⟩=pure (ps.zip us)):Binds K fd ps []:=λs us _ hl=>by
 rw[dg]at hl ⊢;exact .of_eq (h us hl)
def Passes(CX:CXT)(X:Cx)(E:XK):Prop:=∀(pins:List (Addr×Obj)) (σ:St) (H:Hp) (s:af) (e:ae) (s':af),Inv X pins σ H s->CX X.stack H s E e s'->X.xe e s'
section
variable{X:Cx}{CX:CXT}{k:Nat}{f C:Addr}{fd:bN}{ps:List Str}{sp:Sp}{Gs:List V}{ds:List ae}{E:XK}{x m:Str}{p pos apos:Pos}{e o:Expr}{es:List Expr}{ta:TE}{t:TA}
theorem Cz{pins:List (Addr×Obj)}{σ:St}{H:Hp}{s:af}{Q:VK}{us:List ae}{vs:List V}(F:fH X.prog X.w X.K X.mg X.base CX k f fd ps sp)(hr:cC k X.A)(hb:Binds X.K fd ps ds)(hd:Vals Gs ds)(hx:Passes CX X E)
  (I:Inv X pins σ H s) (r:Vals vs us) (h:sp (vs++Gs) H Q E):aq (ao X.prog X.w) X.A (call (.ref f) us) (EP X pins σ Q) X.xe s:=by
 have r2:Vals (vs++Gs) (us++ds):=r.append hd;have hl:(us++ds).length=ps.length:=by rw[<-r2.length];exact F.len _ _ _ _ h
 refine wpAny_call (codeAny_mono (F.run X.A X.stack s H ⟨us,[]⟩ (us++ds) (vs++Gs) Q E hr I.env0 (hb s us I.kIn hl) r2 h) λr s' hq=>?_);cases r with
 |error e=>exact hx pins σ H s e s' I hq
 |ok fl=>
  cases fl with
  |ret u=>exact I.after hq
  |next=>exact bt hq
  |brk=>exact bt hq
  |cont=>exact bt hq
theorem xi(F:fH X.prog X.w X.K X.mg X.base CX k f fd ps sp)(hr:cC k X.A)(hg:Gl X x)(hm:X.mg x=some (.ref f))(hk:cR X.K (.ref f)=true)(hb:Binds X.K fd ps ds)(hd:Vals Gs ds)(hx:Passes CX X E)
  (ha:PA X (e::es) t) (HL:(x==("__debug__" : Str))=false) (he:aX (e::es) X.env=(false,eval e X.env)::aX es X.env) (He:(backTo pos (aX es X.env)).any (·.1)=false) :
  PE X (.Call (.Name x p) (e::es) [] pos) (mK sp Gs E t):=by
 intro pins s σ H Q I h;refine wpAny_Call_Name_kw (ij I hg hm ?_ HL);refine PySem.W.callWith_K (h₀:=X.base) I.ok.mod.kin hk (thn (ha pos pins s σ H _ I h) λus s1 ⟨vs,H1,I1,r,q⟩=>⟨I1.kIn,?_⟩) he He;exact Cz F hr hb hd hx I1 r q
end
section
variable{X:Cx}{CX:CXT}{k:Nat}{f C:Addr}{fd:bN}{ps ks:List Str}{sp:Sp}{E:XK}{x m:Str}{p pos apos kpos:Pos}{e o:Expr}{es:List Expr}{Oc:List Keyword}{te ta:TE}{t tk:TA}{nm:Option Str}
variable{g:List ae->List ae->List ae}{gV:List V->List V->List V}
end
structure gr(N P:List Str)(sc:a8):Prop where
 kind:sc.kind=.function
 co:sc.isCoroutine=false
 gen:sc.isGenerator=false
 nd:N.Nodup
 pre:N.take P.length=P
 par:∀x∈P,sc.names.lookup x=some .local\/sc.names.lookup x=some .cell
 nofree:∀y∈sc.names,y.2≠.free
theorem rL{kindOf:Str->Option aY}{x:Str}:∀{binds:List (Str×ae)}{m:Str->Option ae},(∀v,(x,v)∉binds)->bindL kindOf binds m x=m x
 | [],_,_=>rfl
 | (n,v)::r,m,h=>by
  unfold bindL;rw[rL λw hw=>h w (aR _ hw)];split
  ·have:x≠n:=by rintro rfl;exact h v aM
   simp[this]
  ·rfl
theorem tF{kindOf:Str->Option aY}{x:Str}:∀{binds:List (Str×ae)}{m:Str->Option ae},(∀v,(x,v)∉binds)->bindC kindOf binds m x=m x
 | [],_,_=>rfl
 | (n,v)::r,m,h=>by
  unfold bindC;rw[tF λw hw=>h w (aR _ hw)];split
  ·rfl
  ·have:x≠n:=by rintro rfl;exact h v aM
   simp[this]
theorem oq{kindOf:Str->Option aY}{x:Str}{v:ae}:∀{P:List Str}{vs:List ae}{i:Nat}{m:Str->Option ae},P.Nodup->P[i]? = some x->vs[i]? = some v->kindOf x=some .local ->
  bindL kindOf (P.zip vs) m x=some v
 | [],_,_,_,_,h,_,_=>by simp at h
 |_::_,[],_,_,_,_,h,_=>by simp at h
 |p::P,w::vs,0,m,nd,h1,h2,hk=>by
  simp at h1 h2;subst h1;subst h2;show bindL kindOf ((p,w)::P.zip vs) m p=_;unfold bindL;rw[rL λv hv=>(List.nodup_cons.mp nd).1 (List.of_mem_zip hv).1,if_pos hk];simp
 |p::P,w::vs,i+1,m,nd,h1,h2,hk=>by
  show bindL kindOf ((p,w)::P.zip vs) m x=_;unfold bindL;exact oq (i:=i) (List.nodup_cons.mp nd).2 (by simpa using h1) (by simpa using h2) hk
theorem oA{kindOf:Str->Option aY}{x:Str}{v:ae}:∀{P:List Str}{vs:List ae}{i:Nat}{m:Str->Option ae},P.Nodup->P[i]? = some x->vs[i]? = some v->kindOf x≠some .local ->
  bindC kindOf (P.zip vs) m x=some v
 | [],_,_,_,_,h,_,_=>by simp at h
 |_::_,[],_,_,_,_,h,_=>by simp at h
 |p::P,w::vs,0,m,nd,h1,h2,hk=>by
  simp at h1 h2;subst h1;subst h2;show bindC kindOf ((p,w)::P.zip vs) m p=_;unfold bindC;rw[tF λv hv=>(List.nodup_cons.mp nd).1 (List.of_mem_zip hv).1,if_neg hk];simp
 |p::P,w::vs,i+1,m,nd,h1,h2,hk=>by
  show bindC kindOf ((p,w)::P.zip vs) m x=_;unfold bindC;exact oA (i:=i) (List.nodup_cons.mp nd).2 (by simpa using h1) (by simpa using h2) hk
noncomputable def start(N:List Str)(vs:List V):St:=vs.map some++cb (N.length-vs.length) none
noncomputable def eC(CX:CXT)(P:aF)(w:aD)(K:aB)(mg:Str->Option ae)(base:Heap)(N:List Str)(qual:Str)(scope:a8)(f:Addr)(cd:ae)(A:aE)(outer:List Env)(s:af)(H:Hp)(E:XK):Cx where
 prog:=P
 w:=w
 K:=K
 mg:=mg
 base:=base
 A:=A.deeper (envOfC qual scope s.heap.objs.size f cd)
 N:=N
 s₀:=s
 H₀:=H
 env:=envOfC qual scope s.heap.objs.size f cd
 outer:=outer
 stack:=envOfC qual scope s.heap.objs.size f cd::outer
 ex:=[]
 calm:=true
 fn:=λ_=>true
 pn:=[]
 xe:=λe s'=>aq (ao P w) (A.deeper (envOfC qual scope s.heap.objs.size f cd)) (leaving (envOfC qual scope s.heap.objs.size f cd) e) (λ_ s''=>CX outer H s E e s'') (λe' s''=>CX outer H s E e' s'') s'
theorem jS{sc:a8}{n:Nat}{x:Str}(h:sc.names.lookup x=some .cell):∃c,(br n sc.names []).lookup x=some c:=by
 have q:=PySem.W.cellsFrom_some sc.names n [] (.inl h);exact Option.isSome_iff_exists.mp q
theorem sR{CX:CXT}{P:aF}{w:aD}{K:aB}{mg:Str->Option ae}{base:Heap}{N ps:List Str}{qual:Str}{scope:a8}{f:Addr}{cd:ae}{A:aE}{outer:List Env}{s s1:af}{H:Hp}{E:XK}{us:List ae}{vs:List V}
  (S:gr N ps scope) (hd:A.handled=none) (e0:gz P w K mg base A outer s H) (hl:vs.length=ps.length) (r:Vals vs us)
  (x:InCallC s s.heap.objs.size (bindL (envOfC qual scope s.heap.objs.size f cd).kindOf (ps.zip us) λ_=>none) (br (s.heap.objs.size+1) scope.names []) (bindC (envOfC qual scope s.heap.objs.size f cd).kindOf (ps.zip us) λ_=>none) s1) :
  Inv (eC CX P w K mg base N qual scope f cd A outer s H E) [] (start N vs) H s1:=by
 have He:ps.length<=N.length:=by have:=congrArg List.length S.pre;rw[ef]at this;lia
 obtain⟨h1,tk,rfl,hk⟩:=x.done;have II:∀b:Addr,b∉(eC CX P w K mg base N qual scope f cd A outer s H E).ex:=λb z=>absurd (show b∈([]:List Addr)from z) (by simp)
 refine⟨⟨e0.mod,S.kind,rfl,rfl,aG _,λy z c h1 h2=>?_,λy hy=>?_,λy c _ h=>?_,λ_=>hd,aE.frames_deeper e0.frames,.inr ⟨rfl,rfl⟩,λb z=>absurd z (II b),e0.bs,e0.bsz,λb _ _=>II b,λb z=>absurd z (II b),e0.funs,e0.frf⟩,
  rfl,e0.bare,Un.kept hk,⟨_,x.toInCall.ns,λi y v h1 h2 h3=>?_⟩,λy c h=>⟨_,x.cell y c h⟩,e0.hok.fresh (aG _),λy c h=>?_,λp hp=>absurd (show p∈([]:List (Addr×Obj))from hp) (by simp),e0.hok.kept hk,?_⟩
 ·exact name_of_addr x.apart (cP h1) (cP h2)
 ·have hy:scope.names.lookup y=some .cell\/scope.names.lookup y=some .free:=hy;rcases hy with hy|hy
  ·exact jS hy
  ·exact absurd rfl (S.nofree _ (cP hy))
 ·exact Nat.le_of_lt (x.above y c (cP h))
 ·have hi:i<vs.length:=by
   unfold start at h2;by_cases hi:i<vs.length
   ·exact hi
   ·rw[List.getElem?_append_right (by simpa using hi)]at h2;rw[List.getElem?_replicate]at h2;split at h2<;>cases h2
  have ha:vs[i]? = some v:=by
   unfold start at h2;rw[List.getElem?_append_left (by simpa using hi),List.getElem?_map]at h2;cases e:vs[i]? with
   |none=>rw[e]at h2;cases h2
   |some a=>rw[e]at h2;cases h2;rfl
  obtain⟨u,hu,rv⟩:=r.get ha;have hp:ps[i]? = some y:=by
   rw[<-S.pre,List.getElem?_take_of_lt (by lia)];exact h1
  have Lq:ps.Nodup:=by rw[<-S.pre];exact S.nd.sublist (List.take_sublist _ _)
  refine⟨u,rv,?_⟩;rcases S.par y (List.mem_of_getElem? hp)with k|k
  ·exact .inl ⟨k,oq Lq hp hu k⟩
  ·obtain⟨c,e⟩:=jS (n:=s.heap.objs.size+1) k;refine .inr ⟨.inl k,c,e,?_⟩;have q:=x.cell y c e;rw[oA Lq hp hu (by show scope.names.lookup y≠_;rw[k];decide)]at q;exact q
 ·exact e0.hok.fresh (Nat.le_of_lt (x.above y c (cP h)))
 ·unfold start;show _=N.length;rw[bP,aV,List.length_replicate];lia
theorem yk{CX:CXT}{P:aF}{w:aD}{K:aB}{mg:Str->Option ae}{base:Heap}{k:Nat}{f:Addr}{name qual:Str}{params:Arguments}{body:List Stmt}{scope:a8}{dV kV doc pm cdv ct oc:ae}{an od:Option Addr}
  {osl:Array (Option ae)}{N ps:List Str}{sp:Sp} (lk:K.lookup f=some ⟨oc,od,.func (cm name qual params body scope dV kV doc pm an cdv ct),osl⟩) (Gq:PySem.W.codeIn K cdv qual=true) (S:gr N ps scope)
  (len:∀vs H Q E,sp vs H Q E->vs.length=ps.length)
  (FV:∀(A:aE) (outer:List Env) (s:af) (H:Hp) (vs:List V) (Q:VK) (E:XK),cC k (A.deeper (envOfC qual scope s.heap.objs.size f cdv))->sp vs H Q E ->
   ∃t,PSs (eC CX P w K mg base N qual scope f cdv A outer s H E) body t/\t {nx:=λ_ H'=>Q .non H',rt:=Q} (start N vs) H) :
  fH P w K mg base CX (k+1) f (cm name qual params body scope dV kV doc pm an cdv ct) ps sp:=by
 refine⟨len,λA outer s H args us vs Q E hr e0 hb r Gu=>?_⟩;have hl:=len _ _ _ _ Gu;have KX:K.In s.heap:=e0.mod.kin.keeps λb o e=>(e0.bs b o e).1
 have lim:s.heap.NoLimit:=e0.mod.nolimit.keeps λb o e=>(e0.bs b o e).1
 have G1:∀y∈ps.zip us,scope.names.lookup y.1=some .local\/(scope.names.lookup y.1=some .cell/\((br (s.heap.objs.size+1) scope.names []).lookup y.1).isSome=true):=λ⟨n,v⟩ hy=>by
  rcases S.par n (List.of_mem_zip hy).1 with q|q
  ·exact .inl q
  ·exact .inr ⟨q,PySem.W.cellsFrom_some _ _ _ (.inl q)⟩
 refine codeAny_call_function hr.depth (KX _ _ lk) rfl S.co S.gen rfl (PySem.W.codeRec_of KX Gq) (hb _ _ _ _ ?_);refine wpAny_newFunctionEnv_cells S.kind G1 λenv he s1 x=>?_
 subst he;refine⟨lim.keeps x.toInCall.keep,codeAny_func ?_⟩;obtain⟨t,ht,hq⟩:=FV A outer s H vs Q E (hr.deeper _) Gu;have I:Inv (eC CX P w K mg base N qual scope f cdv A outer s H E) [] (start N vs) H s1:=sR S hr.hd e0 hl r x;refine bM (ht [] s1 (start N vs) H _ I hq) (λfl s' hs=>?_) λe s' hs=>hs
 have fin:∀{σ':St}{H':Hp}{v:V}{u:ae},Inv (eC CX P w K mg base N qual scope f cdv A outer s H E) [] σ' H' s'->RelV v u->Q v H'->CE outer P w H s Q u s':=
  λ{σ' H' v u} J rv q=>⟨v,H',J.os,J.bare,J.base,J.hok,rv,q⟩
 cases fl with
 |ret u=>
  obtain⟨v,σ',H',J,rv,q⟩:=hs;exact fin J rv q
 |next=>
  obtain⟨σ',H',J,q⟩:=hs;exact fin (v:=V.non) (u:=ae.none) J rfl q
 |brk=>
  obtain⟨_,_,_,q⟩:=hs;exact bt q
 |cont=>
  obtain⟨_,_,_,q⟩:=hs;exact bt q
section
variable{X:Cx}{x:Str}{p pos:Pos}{e:Expr}{es:List Expr}{t:TA}{id T:String}{r:List V->Hp->VK->Prop}
def tCB(r:List V->Hp->VK->Prop)(t:TA):TE:=λσ H Q=>t σ H λvs H1=>r vs H1 Q
theorem oV(hc:qQ X (.builtin id) r)(hg:Gl X x)(hm:X.mg x=none)(hv:bV x=some (.builtin id))(ha:PA X (e::es) t)(hn:x≠"__name__")(HL:(x==("__debug__" : Str))=false)
  (he:aX (e::es) X.env=(false,eval e X.env)::aX es X.env) (He:(backTo pos (aX es X.env)).any (·.1)=false):PE X (.Call (.Name x p) (e::es) [] pos) (tCB r t):=by
 intro pins s σ H Q I h;refine wpAny_Call_Name_kw (gK I hg hm hv ?_ hn HL);exact PyProof.Rows.callWith_builtin1 (thn (ha pos pins s σ H _ I h) λus s1 ⟨vs,H1,I1,r1,q1⟩=>hc pins s1 σ H1 vs us Q I1 r1 q1) he He
theorem Fv(hc:qQ X (.type T) r)(hg:Gl X x)(hm:X.mg x=none)(hv:bV x=some (.type T))(ha:PA X (e::es) t)(hn:x≠"__name__")(HL:(x==("__debug__" : Str))=false)
  (he:aX (e::es) X.env=(false,eval e X.env)::aX es X.env) (He:(backTo pos (aX es X.env)).any (·.1)=false):PE X (.Call (.Name x p) (e::es) [] pos) (tCB r t):=by
 intro pins s σ H Q I h;refine wpAny_Call_Name_kw (gK I hg hm hv ?_ hn HL);exact PyProof.Rows.callWith_type1 (thn (ha pos pins s σ H _ I h) λus s1 ⟨vs,H1,I1,r1,q1⟩=>hc pins s1 σ H1 vs us Q I1 r1 q1) he He
end
end L2
namespace HT
open PySem PyProof.Rows
noncomputable def lexLt:List Int->List Int->Bool
 | [],[]=>false
 | [],_::_=>true
 |_::_,[]=>false
 |x::xs,y::ys=>if x=y then lexLt xs ys else decide (x<y)
theorem pj(x y:Int)(xs ys:List Int):lexLt (x::xs) (y::ys)=if x=y then lexLt xs ys else decide (x<y):=rfl
theorem mS:lexLt [] []=false:=rfl
theorem oW(y:Int)(ys:List Int):lexLt [] (y::ys)=true:=rfl
theorem og(x:Int)(xs:List Int):lexLt (x::xs) []=false:=rfl
theorem De(A:aE)(s:af)(a:Int)(t:Tok)(c:Int)(u:Tok):∃e,SeqAt.EqAt A s (.int a t) (.int c u) e/\(e=true↔a=c):=
 ⟨(a==c),SeqAt.EqAt.int_int a t c u,by simp⟩
theorem yt(A:aE)(s:af)(a:Int)(t:Tok)(c:Int)(u:Tok)(prog:aF)(w:aD)(E:ae->af->Prop)(Q:ae->af->Prop)(h:Q (.bool (decide (a<c))) s) :
  aq (ao prog w) A (richCompare .Lt (.int a t) (.int c u)) Q E s:=
 (PyProof.Rows.lt_int h:aq (ao prog w) A (a_ .Lt (.int a t) (.int c u)) Q E s)
section
open PySem.SeqAt
open PySem.AutoSeq1 (wpAny_loadPart')
open PySem.MeetsSeq PySem.MeetsSeq2 PySem.MeetsSeq3
theorem sS(l b:Addr)(items FE:Array ae)(n n2:Nat)(dd GR:Option Addr)(sl Hg:Array (Option ae))(ns ms:List Int)(hi:bp items.toList ns)(hj:bp FE.toList ms) :
  Meets (Builtin.«tuple.__lt__» ⟨[.ref l,.ref b],[]⟩)
   (λ_ R s=>s.heap.get? l=some {cls:=.type "tuple",dict:=dd,data:=.seq items n,slots:=sl}/\s.heap.get? b=some {cls:=.type "tuple",dict:=GR,data:=.seq FE n2,slots:=Hg} /\
    R (.ok (.ret (.bool (lexLt ns ms)))) s):=
 .of_wp λprog w A R s h=>by
  obtain⟨hp,g,d,tk,os⟩:=s;obtain⟨hl,hb,h⟩:=h;have f2:=AutoSeq1.sub_tuple_tuple;have z1:items.size=ns.length:=by rw[<-hi.length];simp
  have z2:FE.size=ms.length:=by rw[<-hj.length];simp
  wp_walk using wpAny_loadPart' hl,wpAny_loadPart' hb,wpAny_forIn_list _ (λrest b s'=>b.1=none/\s'=⟨hp,g,d,tk,os⟩/\∃(vs ws:List ae) (F9 Iq:List Int),rest=vs.zip ws /\
   bp vs F9/\bp ws Iq/\F9.length+FE.size=Iq.length+items.size/\R (.ok (.ret (.bool (lexLt F9 Iq)))) ⟨hp,g,d,tk,os⟩) _
  case turn=>
   rintro⟨y,x⟩ rest b s' ⟨Gv,rfl,vs,ws,F9,Iq,hz,Kp,Jz,hlen,hR⟩;cases Kp with
   |nil=>rw[List.zip_nil_left]at hz;cases hz
   |cons a t Kq=>
    cases Jz with
    |nil=>rw[List.zip_nil_right]at hz;cases hz
    |cons c u Ks=>
     rw[List.zip_cons_cons]at hz;injection hz with Me IJ
     injection Me with hy hx
     subst hy hx;rw[pj]at hR;simp only[bA]at hlen;obtain⟨e,he,IK⟩:=De A.in1 ⟨hp,g,d,tk,os⟩ a t c u;refine au (he prog w _ _ ?_);cases e with
     |true=>
      rw[if_pos (IK.mp rfl)]at hR
      wp_walk
      exact⟨rfl,rfl,_,_,_,_,IJ,Kq,Ks,by lia,hR⟩
     |false=>
      rw[if_neg (λq=>absurd (IK.mpr q) bO)]at hR;have Mf:=yt A.in1 ⟨hp,g,d,tk,os⟩ a t c u prog w
      wp_walk using Mf
      exact⟨_,rfl,by simpa using hR⟩
  case fin=>
   rintro⟨b1,b2⟩ s' ⟨Gv,rfl,vs,ws,F9,Iq,hz,Kp,Jz,hlen,hR⟩;simp only at Gv;subst Gv;have hv:lexLt F9 Iq=decide (items.size<FE.size):=by
    cases Kp with
    |nil=>
     cases Jz with
     |nil=>
      simp only[List.length_nil]at hlen;rw[mS];exact(decide_eq_false (by lia)).symm
     |cons c u hw=>
      simp only[List.length_nil,bA]at hlen;rw[oW];exact(decide_eq_true (by lia)).symm
    |cons a t hv=>
     cases Jz with
     |nil=>
      simp only[List.length_nil,bA]at hlen;rw[og];exact(decide_eq_false (by lia)).symm
     |cons c u hw=>
      rw[List.zip_cons_cons]at hz;cases hz
   rw[hv]at hR
   wp_walk
   exact⟨_,rfl,by simpa[Builtin.Tuple.tupleCompareSizes]using hR⟩
  case h=>
   exact⟨rfl,rfl,items.toList,FE.toList,ns,ms,rfl,hi,hj,by lia,h⟩
end
section
variable{prog:aF}{w:aD}{A:aE}{E:ae->af->Prop}{s:af}
theorem Az{l b:Addr}{items FE:Array ae}{ns ms:List Int}{Q:ae->af->Prop}(hl:IsTup s.heap l items)(hb:IsTup s.heap b FE)(hi:bp items.toList ns)(hj:bp FE.toList ms)
  (hu:A.units<cLine) (h:Q (.bool (lexLt ns ms)) s):aq (ao prog w) A (a_ .Lt (.ref l) (.ref b)) Q E s:=by
 obtain⟨⟨cls,dd,data,sl⟩,ho,hc,n,hd⟩:=id hl;obtain⟨⟨HM,GR,data2,Hg⟩,Gw,F_,n2,hd2⟩:=id hb;simp only at hc hd F_ hd2;subst hc hd F_ hd2;exact richCompare_meets_room (op:=.Lt) ⟨_,ho,rfl⟩ ⟨_,Gw,rfl⟩ PySem.F.slot_tuple_lt PySem.F.entry_tuple_lt (PySem.F.args_tuple_lt_2 _ _) (sS l b items FE n n2 dd GR sl Hg ns ms hi hj)
  ⟨ho,Gw,show bJ (lexLt ns ms)≠ae.notImplemented/\Q (.bool (lexLt ns ms)) s from ⟨(λx=>nomatch x),h⟩⟩ hu
theorem z_{t b:Addr}{vs ws:List ae}{Q:ae->af->Prop}(ht:IsTup s.heap t vs.toArray)(hb:IsTup s.heap b ws.toArray)(hv:vs≠[])
  (h1:ws=[]->Q (.ref t) s) (h2:ws≠[]->Q (.ref s.heap.objs.size) {s with heap:=s.heap.push {cls:=.type "tuple",data:=.seq (vs++ws).toArray}})
  (hsz:vs.length+ws.length<=aO):aq (ao prog w) A (binaryOp .Add (.ref t) (.ref b)) Q E s:=by
 obtain⟨⟨cls,dd,data,sl⟩,ho,hc,n,hd⟩:=id ht;obtain⟨⟨HM,GR,data2,Hg⟩,Gw,F_,n2,hd2⟩:=id hb;simp only at hc hd F_ hd2;subst hc hd F_ hd2;have e:vs.toArray++ws.toArray=(vs++ws).toArray:=by simp
 by_cases hw:ws=[]
 ·exact concat_meets ⟨_,ho,rfl⟩ ⟨_,Gw,rfl⟩ noFill_tuple_add seq_tuple_add PySem.F.slot_tuple_add PySem.F.entry_tuple_add (PySem.F.args_tuple_add_2 _ _)
   (tuple_addW1 t b vs.toArray ws.toArray n n2 dd GR sl Hg (by simpa using hv) (by simp[hw])) ⟨ho,Gw,h1 hw⟩
 ·refine concat_meets ⟨_,ho,rfl⟩ ⟨_,Gw,rfl⟩ noFill_tuple_add seq_tuple_add PySem.F.slot_tuple_add PySem.F.entry_tuple_add (PySem.F.args_tuple_add_2 _ _)
   (tuple_addW2 t b vs.toArray ws.toArray n n2 dd GR sl Hg (by simpa using hv) (by simpa using hw) (by rw[a7,a7];exact hsz)) ⟨ho,Gw,?_⟩
  rw[e];exact h2 hw
noncomputable def sIx(n d:Nat):Option Int->Nat
 |none=>d
 |some v=>if v<0 then (v+(n:Int)).toNat else min v.toNat n
end
end HT
namespace L2
open PySem PySem.Spec PyProof.Rows
abbrev TO:=St->Hp->(Option Int->Hp->Prop)->Prop
def PO(X:Cx)(e:Option Expr)(t:TO):Prop:=
 ∀(pins:List (Addr×Obj)) (s:af) (σ:St) (H:Hp) (Q:Option Int->Hp->Prop),Inv X pins σ H s->t σ H Q ->
  aq (ao X.prog X.w) X.A (evalPart e X.env) (λu s'=>∃o H',Inv X pins σ H' s'/\IsPart u o/\Q o H') X.xe s
def EN:TO:=λ_ H Q=>Q none H
def xN(t:TE):TO:=λσ H Q=>t σ H λx H1=>∃i,x=.int i/\Q (some i) H1
theorem intsAre_of{ns:List Int}:∀{us:List ae},Vals (ns.map V.int) us->bp us ns:=by
 induction ns with
 |nil=>intro us r;rw[List.map_nil]at r;cases r;exact .nil
 |cons n ns ih=>
  intro us r;rw[aN]at r;cases r with
  |cons r1 r2=>
   obtain⟨t,e⟩:=r1;subst e;exact .cons n t (ih r2)
section
variable{X:Cx}{e:Expr}{te:TE}{lo hi:Option Expr}{tl th:TO}{pos p2:Pos}
theorem Ds:PO X none EN:=by
 intro pins s σ H Q I h;rw[evalPart_none];exact aK ⟨none,H,I,.none,h⟩
theorem v8(h:PE X e te):PO X (some e) (xN te):=by
 intro pins s σ H Q I hw;rw[evalPart_some];refine thn (h pins s σ H _ I hw) λu s1 ⟨x,H1,I1,r1,q1⟩=>?_
 obtain⟨i,rfl,q⟩:=q1;obtain⟨t,rfl⟩:=r1;exact⟨some i,H1,I1,.int i t,q⟩
def SlR(X:Cx)(r:V->Option Int->Option Int->Hp->VK->Prop):Prop:=
 ∀(pins:List (Addr×Obj)) (s:af) (σ:St) (H:Hp) (x:V) (v vl vu:ae) (lo hi:Option Int) (sl:Addr) (Q:VK),Inv X pins σ H s->RelV x v->s.heap.IsSliceOf sl vl vu .none->IsPart vl lo->IsPart vu hi->r x lo hi H Q ->
  ∃T id,typeLookup (.type T) "__getitem__" = pure (some (.builtin id))/\s.TypeIs v T/\aq (ao X.prog X.w) X.A (getItem v (.ref sl)) (EP X pins σ Q) X.xe s
def tSl(r:V->Option Int->Option Int->Hp->VK->Prop)(te:TE)(tl th:TO):TE:=λσ H Q=>te σ H λx H1=>tl σ H1 λl H2=>th σ H2 λu H3=>r x l u H3 Q
theorem CO{r:V->Option Int->Option Int->Hp->VK->Prop}(hr:SlR X r)(he:PE X e te)(hl:PO X lo tl)(hu:PO X hi th):PE X (.Subscript e (.Slice lo hi none p2) pos) (tSl r te tl th):=by
 intro pins s σ H Q I h;refine Subscript_ (thn (he pins s σ H _ I h) λv s1 ⟨x,H1,I1,r1,q1⟩=>?_);refine wpAny_Slice (thn (hl pins s1 σ H1 _ I1 q1) λvl s2 ⟨l,H2,I2,pl,q2⟩=>thn (hu pins s2 σ H2 _ I2 q2) λvu s3 ⟨u,H3,I3,pu,q3⟩=>?_);rw[evalPart_none];refine aK ?_;have I4:Inv X pins σ H3 {s3 with heap:=s3.heap.push {cls:=.type "slice",data:=.fields #[vl,vu,.none]}}:=I3.kept (t':=s3.toks) λb ob q=>Heap.get?_push_of_some _ q
 obtain⟨T,id,hT,ht,hg⟩:=hr pins {s3 with heap:=s3.heap.push {cls:=.type "slice",data:=.fields #[vl,vu,.none]}} σ H3 x v vl vu l u s3.heap.objs.size Q I4 r1 (Heap.IsSliceOf.new ..) pl pu q3;show aq (ao X.prog X.w) X.A (subscriptTail e (.Slice lo hi none p2) v (.ref s3.heap.objs.size)) (EP X pins σ Q) X.xe {s3 with heap:=s3.heap.push {cls:=.type "slice",data:=.fields #[vl,vu,.none]}};exact tail_any (ops:=[.ref s3.heap.objs.size,v]) ht hT hg (by with_unfolding_all rfl)
noncomputable def gI(xs:List V)(lo hi:Option Int):List V:=(xs.drop (HT.sIx xs.length 0 lo)).take (HT.sIx xs.length xs.length hi-HT.sIx xs.length 0 lo)
theorem wA(xs:List V)(lo hi:Option Int):(gI xs lo hi).length<=xs.length:=by
 unfold gI;rw[ef,List.length_drop];lia
def DV(K:aB):R2:=λx y H Q=>∃a b ns ms,x=.ref a/\y=.ref b/\SqT K H a (ns.map V.int)/\SqT K H b (ms.map V.int)/\Q (.bl (HT.lexLt ns ms)) H
theorem yl(hu:X.A.units<cLine):OpR X (a_ .Lt) (DV X.K):=by
 intro pins s σ H x y v u Q I rx ry h;obtain⟨a,b,ns,ms,rfl,rfl,ha,hb,q⟩:=h;cases rx;cases ry;obtain⟨its,r1,p1,_⟩:=I.tuple ha;obtain⟨Gh,r2,p2,_⟩:=I.tuple hb;have i1:bp its.toArray.toList ns:=intsAre_of r1;have i2:bp Gh.toArray.toList ms:=intsAre_of r2;exact HT.Az p1 p2 i1 i2 hu ⟨.bl (HT.lexLt ns ms),H,I,rfl,q⟩
def DY(K:aB):R2:=λx y H Q=>∃a b xs ys,x=.ref a/\y=.ref b/\SqT K H a xs/\SqT K H b ys/\xs≠[]/\xs.length+ys.length<=aO /\
 (ys=[]->Q (.ref a) H)/\(ys≠[]->∀p,H p=none->Q (.ref p) (upd H p (.tup (xs++ys))))
theorem Vals.nil_iff{xs:List V}{us:List ae}(r:Vals xs us):us=[]↔xs=[]:=by
 cases r with
 |nil=>simp
 |cons _ _=>simp
theorem wQ:OpR X (binaryOp .Add) (DY X.K):=by
 intro pins s σ H x y v u Q I rx ry h;obtain⟨a,b,xs,ys,rfl,rfl,ha,hb,hx,hz,q1,q2⟩:=h;cases rx;cases ry;obtain⟨its,r1,p1,_⟩:=I.tuple ha;obtain⟨Gh,r2,p2,_⟩:=I.tuple hb;refine HT.z_ p1 p2 (λz=>hx (r1.nil_iff.mp z)) (λz=>⟨.ref a,H,I,rfl,q1 (r2.nil_iff.mp z)⟩) (λz=>?_) (by rw[<-r1.length,<-r2.length];exact hz);refine⟨.ref s.heap.objs.size,_,I.laid (t':=s.toks) (o:=.tup (xs++ys)) (λb ob q=>Heap.get?_push_of_some _ q) (aG _) ?_,rfl,q2 (λw=>z (r2.nil_iff.mpr w)) _ (I.hok.fresh (aG _))⟩;exact⟨by rw[bP];exact hz,_,r1.append r2,IsTup.new _ _⟩
end
noncomputable def ixN(n:Nat)(i:Int):Option Nat:=if 0<=i then (if i<n then some i.toNat else none)else if -(n:Int)<=i then some (i+n).toNat else none
noncomputable def atI{α:Type}(xs:List α)(i:Int):Option α:=(ixN xs.length i).bind λj=>xs[j]?
theorem s_{n:Nat}{i:Int}{j:Nat}(h:ixN n i=some j):seqIndex? i n=some j/\j<n/\-(n:Int)<=i/\i<n:=by
 unfold ixN at h;by_cases h0:0<=i
 ·rw[if_pos h0]at h;by_cases h1:i<n
  ·rw[if_pos h1]at h;have e:i.toNat=j:=bT h;exact⟨by rw[seqIndex_of h0 h1,e],by lia,by lia,h1⟩
  ·rw[if_neg h1]at h;cases h
 ·rw[if_neg h0]at h;by_cases h1:-(n:Int)<=i
  ·rw[if_pos h1]at h;have e:(i+n).toNat=j:=bT h;exact⟨by rw[seqIndex_neg (by lia) h1,e],by lia,h1,by lia⟩
  ·rw[if_neg h1]at h;cases h
theorem si{α:Type}{xs:List α}{i:Int}{v:α}(h:atI xs i=some v):∃j,seqIndex? i xs.length=some j/\xs[j]? = some v/\j<xs.length/\-(xs.length:Int)<=i/\i<xs.length:=by
 unfold atI at h;cases e:ixN xs.length i with
 |none=>rw[e]at h;cases h
 |some j=>
  rw[e]at h;obtain⟨h1,h2,h3,h4⟩:=s_ e;exact⟨j,h1,h,h2,h3,h4⟩
def sO(b:Expr):Prop:=∀o i,subscripted b false o i=operate [o,i] (getItem o i)
def IxR(X:Cx)(r:R2):Prop:=
 ∀(value slice:Expr) (pins:List (Addr×Obj)) (s:af) (σ:St) (H:Hp) (x y:V) (v u:ae) (Q:VK),Inv X pins σ H s->RelV x v->RelV y u->r x y H Q ->
  subscripted slice false v u=operate [v,u] (getItem v u)->aq (ao X.prog X.w) X.A (subscriptTail value slice v u) (EP X pins σ Q) X.xe s
def MtR(X:Cx)(id:String)(r:V->List V->Hp->VK->Prop):Prop:=
 ∀(pins:List (Addr×Obj)) (s:af) (σ:St) (H:Hp) (x:V) (xs:List V) (v:ae) (us:List ae) (Q:VK),Inv X pins σ H s->RelV x v->Vals xs us->r x xs H Q ->
  aq (ao X.prog X.w) X.A (call (.builtin id) (v::us)) (EP X pins σ Q) X.xe s
section
variable{X:Cx}{a b:Expr}{ta tb:TE}{pos:Pos}
theorem IxR.or{r r':R2}(h:IxR X r)(h':IxR X r'):IxR X (λx y H Q=>r x y H Q\/r' x y H Q):=by
 intro value slice pins s σ H x y v u Q I rx ry q hs;rcases q with q|q
 ·exact h value slice pins s σ H x y v u Q I rx ry q hs
 ·exact h' value slice pins s σ H x y v u Q I rx ry q hs
theorem uG{r:R2}(hr:IxR X r)(ha:PE X a ta)(hb:PE X b tb)(hs:sO b):PE X (.Subscript a b pos) (tOp r ta tb):=by
 intro pins s σ H Q I h;exact Subscript_ (lH ha hb I h λv u s2 x y H2 I2 rx ry q=>hr a b pins s2 σ H2 x y v u Q I2 rx ry q (hs _ _))
def mP(K:aB):R2:=λx y H Q=>∃p xs i v,x=.ref p/\y=.int i/\SqL K H p xs/\atI xs i=some v/\Q v H
def n9(K:aB):R2:=λx y H Q=>∃p xs i v,x=.ref p/\y=.int i/\SqT K H p xs/\atI xs i=some v/\Q v H
theorem CH:IxR X (mP X.K):=by
 intro value slice pins s σ H x y v u Q I rx ry h hs;obtain⟨p,xs,i,z,rfl,rfl,hq,he,q⟩:=h;cases rx;obtain⟨t,rfl⟩:=ry;obtain⟨its,r,pl,hz⟩:=I.list hq;obtain⟨j,h1,h2,h3,h4,h5⟩:=si he;obtain⟨w,ew,GI⟩:=r.get h2;have hl:=r.length;have hn:=iU;have fin:EP X pins σ Q w s:=⟨z,H,I,GI,q⟩
 by_cases h0:0<=i
 ·have hj:i.toNat=j:=by
   rw[seqIndex_of h0 h5]at h1;exact bT h1
  exact item_listR pl.isList h0 (by lia) (by rw[hj];simpa using ew) fin hs
 ·have hj:(i+(its.toArray.size:Int)).toNat=j:=by
   rw[seqIndex_neg (by lia) h4]at h1;rw[a7,<-hl];exact bT h1
  exact subscriptTail_builtinR (x:=w) pl.isList.typeIs slot_list_getitem.lookup
   (wpAny_getItem_list_neg (Q:=λr s'=>r=w/\EP X pins σ Q r s') pl.isList (by lia) (by rw[a7]<;>lia) (by lia) (by rw[hj];simpa using ew) ⟨rfl,fin⟩) hs
theorem Br:IxR X (n9 X.K):=by
 intro value slice pins s σ H x y v u Q I rx ry h hs;obtain⟨p,xs,i,z,rfl,rfl,hq,he,q⟩:=h;cases rx;obtain⟨t,rfl⟩:=ry;obtain⟨its,r,pl,hz⟩:=I.tuple hq;obtain⟨j,h1,h2,h3,h4,h5⟩:=si he;obtain⟨w,ew,GI⟩:=r.get h2;have hl:=r.length;have hn:=iU;have fin:EP X pins σ Q w s:=⟨z,H,I,GI,q⟩
 exact subscriptTail_builtinR (x:=w) pl.typeIs slot_tuple_getitem.lookup
  (getItem_tuple (j:=j) (Q:=λr s'=>r=w/\EP X pins σ Q r s') pl (by lia) (by lia) (by rw[a7,<-hl];exact h1) (by simpa using ew) ⟨rfl,fin⟩) hs
theorem Ef(its:List ae)(n j:Nat)(u:ae):bq (·.setIfInBounds j u) {cls:=.type "list",data:=.seq its.toArray n}={cls:=.type "list",data:=.seq (its.set j u).toArray n}:=by
 simp[bq]
theorem Inv.lst{pins:List (Addr×Obj)}{σ:St}{H:Hp}{s:af}{p:Addr}{xs:List V}(I:Inv X pins σ H s)(h:H p=some (.lst xs)) :
  ∃(its:List ae) (n:Nat),Vals xs its/\s.heap.get? p=some {cls:=.type "list",data:=.seq its.toArray n}/\xs.length<=sizeLine:=by
 obtain⟨z,its,n,r,e⟩:=I.hok p _ h;exact⟨its,n,r,e,z⟩
theorem Inv.lstUpd{pins:List (Addr×Obj)}{σ:St}{H:Hp}{s:af}{p:Addr}{xs ys:List V}{its its':List ae}{n n':Nat}{f:Obj->Obj}(I:Inv X pins σ H s)(h:H p=some (.lst xs))
  (ho:s.heap.get? p=some {cls:=.type "list",data:=.seq its.toArray n}) (hf:f {cls:=.type "list",data:=.seq its.toArray n}={cls:=.type "list",data:=.seq its'.toArray n'}) (r:Vals ys its') (hz:ys.length<=aO) (t:Nat) :
  Inv X pins σ (upd H p (.lst ys)) {s with heap:=s.heap.update p f,toks:=t}:=by
 have e:(s.heap.update p f).get? p=some {cls:=.type "list",data:=.seq its'.toArray n'}:=by
  rw[Heap.get?_update_self f ho (by rw[hf]<;>rfl),hf]
 refine I.write (x:=p) (e:=p) (by rw[h];trivial) (.inl rfl) (λb u hb q=>(Heap.get?_update_other _ _ (Ne.symm hb)).trans q) ⟨_,e⟩ ?_;exact⟨hz,its',n',r,e⟩
def pd:V->V->V->Hp->(Hp->Prop)->Prop:=λo i v H Q=>∃p xs k j,o=.ref p/\i=.int k/\H p=some (.lst xs)/\ixN xs.length k=some j/\Q (upd H p (.lst (xs.set j v)))
theorem set_list:gb X pd:=by
 intro pins s σ H o i v ov iv u Q I ro ri rv h;obtain⟨p,xs,k,j,rfl,rfl,hp,hj,q⟩:=h;cases ro;obtain⟨t,rfl⟩:=ri;obtain⟨its,n,r,ho,hz⟩:=I.lst hp;obtain⟨h1,h2,h3,h4⟩:=s_ hj;have hl:=r.length;have hn:=iU;have I':Inv X pins σ (upd H p (.lst (xs.set j v))) {s with heap:=s.heap.update p (bq (·.setIfInBounds j u))}:=
  I.lstUpd hp ho (Ef its n j u) (r.set rv j) (by rw[List.length_set];exact hz) s.toks
 by_cases h0:0<=k
 ·have hk:k.toNat=j:=by
   rw[seqIndex_of h0 h4]at h1;exact bT h1
  exact PySem.W.ki_setAt ho h0 (by lia) (by rw[a7,<-hl];exact h4) (by rw[hk];exact⟨_,I',q⟩)
 ·have hk:(k+(its.toArray.size:Int)).toNat=j:=by
   rw[seqIndex_neg (by lia) h3]at h1;rw[a7,<-hl];exact bT h1
  exact PySem.W.ki_setBack ho (by lia) (by rw[a7,<-hl];exact h3) (by lia) (by rw[hk];exact⟨_,I',q⟩)
theorem Dm(lo hi:Option Int)(n:Nat):(sliceBounds lo hi none n).1=((HT.sIx n 0 lo:Nat):Int)/\(sliceBounds lo hi none n).2.1=((HT.sIx n n hi:Nat):Int)/\(sliceBounds lo hi none n).2.2=1:=by
 refine⟨?_,?_,rfl⟩
 ·cases lo with
  |none=>simp[sliceBounds,HT.sIx]
  |some i=>
   simp only[sliceBounds,HT.sIx,Option.getD_none,show (1:Int)>0 by decide,if_true];by_cases h:i<0
   ·simp only[h,if_true]<;>lia
   ·simp only[h,if_false]<;>lia
 ·cases hi with
  |none=>simp[sliceBounds,HT.sIx]
  |some i=>
   simp only[sliceBounds,HT.sIx,Option.getD_none,show (1:Int)>0 by decide,if_true];by_cases h:i<0
   ·simp only[h,if_true]<;>lia
   ·simp only[h,if_false]<;>lia
theorem D_(its:List ae)(lo hi:Option Int):slicePick its.toArray lo hi none=((its.drop (HT.sIx its.length 0 lo)).take (HT.sIx its.length its.length hi-HT.sIx its.length 0 lo)).toArray:=by
 obtain⟨h1,h2,h3⟩:=Dm lo hi its.toArray.size;unfold slicePick;rw[h1,h2,h3];simp only[sliceRange_one,pick_run,a7]<;>rfl
def xm(K:aB):V->Option Int->Option Int->Hp->VK->Prop:=λx lo hi H Q=>∃a xs,x=.ref a/\SqL K H a xs/\∀p,H p=none->Q (.ref p) (upd H p (.lst (gI xs lo hi)))
theorem Bp:SlR X (xm X.K):=by
 intro pins s σ H x v vl vu lo hi sl Q I rx hs pl pu h;obtain⟨a,xs,rfl,hx,q⟩:=h;cases rx;obtain⟨its,r,ht,hz⟩:=I.list hx;have hlen:=r.length;refine⟨"list",_,slot_list_getitem.lookup,ht.isList.typeIs,?_⟩;refine wpAny_getItem_list_slice ht.isList hs pl pu .none (by simp) ?_ (by rw[a7]<;>lia);rw[D_,<-hlen];refine⟨.ref s.heap.objs.size,_,I.laid (t':=s.toks) (o:=.lst (gI xs lo hi)) (λb ob q=>Heap.get?_push_of_some _ q) (aG _) ?_,rfl,q _ (I.hok.fresh (aG _))⟩;exact⟨bB (wA xs lo hi) hz,_,0,(r.drop (HT.sIx xs.length 0 lo)).take (HT.sIx xs.length xs.length hi-HT.sIx xs.length 0 lo),Heap.get?_push_size _ rfl⟩
theorem uN:qQ X (.builtin "len") (λxs H Q=>∃p ys,xs=[.ref p]/\(SqL X.K H p ys\/SqT X.K H p ys)/\Q (.int ys.length) H):=by
 intro pins s σ H xs us Q I r h;obtain⟨p,ys,rfl,hq,q⟩:=h;obtain⟨u,rfl,rx⟩:=vals1 r;cases rx;have hn:=iU;rcases hq with hq|hq
 ·obtain⟨its,r',pl,hz⟩:=I.list hq;have hlen:=r'.length;exact Calls.call_len_list pl.isList (by simp only[a7]<;>lia) ⟨.int ys.length,H,I.tok _,⟨s.toks+1,by rw[a7,hlen]⟩,q⟩
 ·obtain⟨its,r',pl,hz⟩:=I.tuple hq;have hlen:=r'.length;exact len_tuple pl (by simp only[a7]<;>lia) ⟨.int ys.length,H,I.tok _,⟨s.toks+1,by rw[a7,hlen]⟩,q⟩
theorem qQ.or{f:ae}{r r':List V->Hp->VK->Prop}(h:qQ X f r)(h':qQ X f r'):qQ X f (λxs H Q=>r xs H Q\/r' xs H Q):=by
 intro pins s σ H xs us Q I rs q;rcases q with q|q
 ·exact h pins s σ H xs us Q I rs q
 ·exact h' pins s σ H xs us Q I rs q
theorem wu:qQ X (.type "list") (λxs H Q=>∃p ys,xs=[.ref p]/\(SqL X.K H p ys\/SqT X.K H p ys)/\∀l,H l=none->Q (.ref l) (upd H l (.lst ys))):=by
 intro pins s σ H xs us Q I r h;obtain⟨p,ys,rfl,hq,q⟩:=h;obtain⟨u,rfl,rx⟩:=vals1 r;cases rx;have fin:∀(its:List ae),Vals ys its->ys.length<=aO->∀(h':Heap) (c':Nat),(∀b o',s.heap.get? b=some o'->h'.get? b=some o') ->
   h'.get? s.heap.objs.size=some {cls:=.type "list",dict:=none,data:=.seq its.toArray c',slots:=#[]}->EP X pins σ Q (.ref s.heap.objs.size) {s with heap:=h'}:=λits r' hz h' c' kp e=>
  ⟨.ref s.heap.objs.size,_,I.laid (t':=s.toks) kp (aG _) (show zq X.prog X.w _ h' _ (.lst ys)from ⟨hz,its,c',r',e⟩),rfl,q _ (I.hok.fresh (aG _))⟩
 rcases hq with hq|hq
 ·obtain⟨its,r',pl,hz⟩:=I.list hq;have hlen:=r'.length;obtain⟨o,ho,hc,n,hd⟩:=pl.isList;exact call_list_seq p (.inl rfl) ho hc hd (λh' c' kp e=>fin its r' hz h' c' kp e) (by simp only[a7]<;>lia)
 ·obtain⟨its,r',pl,hz⟩:=I.tuple hq;have hlen:=r'.length;obtain⟨o,ho,hc,n,hd⟩:=pl;exact call_list_seq p (.inr rfl) ho hc hd (λh' c' kp e=>fin its r' hz h' c' kp e) (by simp only[a7]<;>lia)
theorem BH:qQ X (.type "tuple") (λxs H Q=>∃p ys,xs=[.ref p]/\((SqL X.K H p ys/\∀l,H l=none->Q (.ref l) (upd H l (.tup ys)))\/(SqT X.K H p ys/\Q (.ref p) H))):=by
 intro pins s σ H xs us Q I r h;obtain⟨p,ys,rfl,h⟩:=h;obtain⟨u,rfl,rx⟩:=vals1 r;cases rx;rcases h with ⟨hq,q⟩|⟨hq,q⟩
 ·obtain⟨its,r',pl,hz⟩:=I.list hq;have hlen:=r'.length;refine call_tuple_list pl.isList (λh' kp=>?_) (by simp only[a7]<;>lia);have I1:Inv X pins σ H {s with heap:=h'}:=I.kept (t':=s.toks) kp;have I2:Inv X pins σ (upd H h'.objs.size (.tup ys)) {s with heap:=h'.push {cls:=.type "tuple",data:=.seq its.toArray}}:=
   I1.laid (t':=s.toks) (λb o e=>Heap.get?_push_of_some _ e) (aG _) (show zq X.prog X.w _ _ _ (.tup ys)from ⟨hz,its,r',IsTup.new _ _⟩)
  exact⟨.ref h'.objs.size,_,I2,rfl,q _ (I1.hok.fresh (aG _))⟩
 ·obtain⟨its,r',pl,hz⟩:=I.tuple hq;exact call_tuple_same pl ⟨.ref p,H,I,rfl,q⟩
def tyV(K:aB)(T:String)(x:V)(H:Hp):Prop:=match x with
 | .str _=>T = "str"
 | .int _=>T = "int"
 | .ref p=>(T = "list"/\∃xs,SqL K H p xs)\/(T = "tuple"/\∃o,K.lookup p=some o/\o.cls=.type "tuple"/\o.dict=none) \/
   (T = "dict"/\((∃kvs,H p=some (.dK kvs))\/∃kvs,H p=some (.dT kvs)))\/(T = "set"/\∃S n,H p=some (.set S n))
 |_=>False
theorem EA{pins:List (Addr×Obj)}{σ:St}{H:Hp}{s:af}{T:String}{x:V}{v:ae}(I:Inv X pins σ H s)(r:RelV x v)(ty:tyV X.K T x H) :
  s.TypeIs v T/\∀a,v=.ref a->∃ob,s.heap.get? a=some ob/\ob.dict=none:=by
 cases x with
 |str z=>
  obtain⟨t,rfl⟩:=r;cases (show T = "str" from ty);exact⟨typeIs_str s z t,λ_ e=>nomatch e⟩
 |int i=>
  obtain⟨t,rfl⟩:=r;cases (show T = "int" from ty);exact⟨typeIs_int s i t,λ_ e=>nomatch e⟩
 |ref p=>
  cases r;rcases ty with ⟨rfl,xs,hq⟩|⟨rfl,o,hk,hc,hd⟩|⟨rfl,hk⟩|⟨rfl,S,n,hk⟩
  ·obtain⟨its,_,pl,_⟩:=I.list hq;refine⟨pl.isList.typeIs,λa e=>?_⟩;cases e;obtain⟨o,n,e,c,hd,_⟩:=pl;exact⟨o,e,hd⟩
  ·refine⟨⟨o,I.kIn p o hk,hc⟩,λa e=>?_⟩;cases e;exact⟨o,I.kIn _ o hk,hd⟩
  ·have z:∃o,s.heap.get? p=some o/\o.ExactDict:=by
    rcases hk with ⟨kvs,hk⟩|⟨kvs,hk⟩
    ·obtain⟨_,_,_,_,o,_,_,e,ex,_⟩:=I.hok p _ hk;exact⟨o,e,ex⟩
    ·obtain⟨_,_,_,_,o,_,_,e,ex,_⟩:=I.hok p _ hk;exact⟨o,e,ex⟩
   obtain⟨o,e,ex⟩:=z;refine⟨⟨o,e,ex.1⟩,λa e2=>?_⟩;cases e2;exact⟨o,e,ex.2.1⟩
  ·obtain⟨o,_,_,_,e,ex,_⟩:=I.hok p _ hk;refine⟨⟨o,e,ex.1⟩,λa e2=>?_⟩;cases e2;exact⟨o,e,ex.2.1⟩
 |_=>exact bt ty
def tBM(K:aB)(T:String)(r:V->List V->Hp->VK->Prop)(to:TE)(t:TA):TE:=λσ H Q=>to σ H λx H1=>tyV K T x H1/\t σ H1 λxs H2=>r x xs H2 Q
variable{o e:Expr}{es:List Expr}{to:TE}{t:TA}{name:Str}{apos cpos:Pos}{T id:String}{r:V->List V->Hp->VK->Prop}
theorem hU(pa:PlainAttrs T)(slot:Slot T name id)(Mh:typeOf (.builtin id)=pure (.type "method_descriptor"))(hm:MtR X id r)(ho:PE X o to)(ha:PA X (e::es) t)
  (IL:attributeBase o name X.env (eval o X.env)=eval o X.env)
  (Kt:((backTo cpos (aX (e::es) X.env)).all (λx=>!x.1)&&(backToKw cpos (keywordEach [] X.env)).all (λx=>x.1.isSome)
   && decide ((e::es).length+([]:List Keyword).length+(if ([]:List Keyword).isEmpty then 0 else 1)<30))=true:=by rfl)
  (IM:(apos.endLine==cpos.line)=true) (hs:aX (e::es) X.env=(false,eval e X.env)::aX es X.env) (HN:(backTo cpos (aX es X.env)).any (·.1)=false) :
  PE X (.Call (.Attribute o name apos) (e::es) [] cpos) (tBM X.K T r to t):=by
 intro pins s σ H Q I h;refine wpAny_Call_method_late IL Kt IM rfl (thn (ho pins s σ H _ I h) λv s1 ⟨x,H1,I1,r1,ty,q1⟩=>?_);obtain⟨h1,h2⟩:=EA I1 r1 ty;refine⟨T,id,pa,slot,Mh,h1,h2,?_⟩;have hA:=ha cpos pins s1 σ H1 _ I1 q1;rw[hs]at hA ⊢;refine Calls.callWith_builtin (by show (false||(backTo cpos (aX es X.env)).any (·.1))=false;rw[HN]<;>rfl) (Calls.evalArgs_plain ?_);exact thn hA λus s2 ⟨vs,H2,I2,r2,q2⟩=>hm pins s2 σ H2 x vs v us Q I2 r1 r2 q2
/- xs.append(e), list.index on a module's tuple .. are MtR facts of 06m -/
end
def MtM(X:Cx)(id:String)(r:V->List V->Hp->VK->Prop):Prop:=
 ∀(pins:List (Addr×Obj)) (s:af) (σ:St) (H:Hp) (x:V) (xs:List V) (v:ae) (us:List ae) (Q:VK),Inv X pins σ H s->RelV x v->Vals xs us->r x xs H Q ->
  aq (ao X.prog X.w) X.A (call (.builtin id) (v::us)) (EP X pins σ Q) X.xe s
theorem Vals.one{x:V}{us:List ae}(h:Vals [x] us):∃u,us=[u]/\RelV x u:=by
 cases h with
 |cons r h=>cases h;exact⟨_,rfl,r⟩
theorem Vals.two{x y:V}{us:List ae}(h:Vals [x,y] us):∃u v,us=[u,v]/\RelV x u/\RelV y v:=by
 cases h with
 |cons r h=>cases h with
  |cons q h=>cases h;exact⟨_,_,rfl,r,q⟩
theorem Vals.zero:∀{us:List ae},Vals [] us->us=[]
 |_,.nil=>rfl
theorem Vals.eraseIdx:∀{xs:List V}{us:List ae} (i:Nat),Vals xs us->Vals (xs.eraseIdx i) (us.eraseIdx i)
 |_,_,_,.nil=>.nil
 |_,_,0,.cons _ t=>t
 |_,_,i+1,.cons r t=>.cons r (Vals.eraseIdx i t)
theorem o4{α:Type}:∀(l:List α) (i:Nat),(l.eraseIdx i).length<=l.length
 | [],_=>aG _
 |_::_,0=>Nat.le_succ _
 |_::r,i+1=>Nat.succ_le_succ (o4 r i)
section
variable{X:Cx}{pins:List (Addr×Obj)}{σ:St}{H:Hp}{s:af}{l b:Addr}{xs ys zs:List V}
theorem Inv.lset{its its':List ae}{n:Nat}{f:Array ae->Array ae}{t':Nat}(I:Inv X pins σ H s)(hH:H l=some (.lst xs))
  (e:s.heap.get? l=some {cls:=.type "list",data:=.seq its.toArray n}) (hf:f its.toArray=its'.toArray) (hv:Vals ys its') (hz:ys.length<=aO) :
  Inv X pins σ (upd H l (.lst ys)) {s with heap:=s.heap.update l (bq f),toks:=t'}:=by
 have q:=PySem.IsL.update e f;rw[hf]at q;refine I.write (x:=l) (e:=l) (by rw[hH];exact trivial) (.inl rfl) (λb' u hb hu=>(Heap.get?_update_other s.heap (bq f) (Ne.symm hb)).trans hu) ⟨_,q⟩ ?_;exact⟨hz,its',_,hv,q⟩
theorem Inv.lnew{its:List ae}{t':Nat}(I:Inv X pins σ H s)(hv:Vals ys its)(hz:ys.length<=aO) :
  Inv X pins σ (upd H s.heap.objs.size (.lst ys)) {s with heap:=s.heap.push {cls:=.type "list",data:=.seq its.toArray},toks:=t'}:=
 I.laid (λ_ _ q=>Heap.get?_push_of_some _ q) (aG _) ⟨hz,its,0,hv,Heap.get?_push_size _ rfl⟩
theorem Inv.fresh(I:Inv X pins σ H s):H s.heap.objs.size=none:=I.hok.fresh (aG _)
theorem Inv.lstM(I:Inv X pins σ H s)(hH:H l=some (.lst xs)):xs.length<=aO/\∃(its:List ae) (n:Nat),Vals xs its/\xs.length=its.length/\s.heap.get? l=some {cls:=.type "list",data:=.seq its.toArray n}:=by
 obtain⟨z,its,n,r,e⟩:=I.hok l _ hH;exact⟨z,its,n,r,r.length,e⟩
end
section
variable{X:Cx}
def Fc:V->List V->Hp->VK->Prop:=λx vs H Q=>∃l xs y,x=.ref l/\vs=[y]/\H l=some (.lst xs)/\xs.length<aO/\Q .non (upd H l (.lst (xs++[y])))
theorem nJ:MtM X "list.append" Fc:=by
 intro pins s σ H x vs v us Q I rx rv h;obtain⟨l,xs,y,rfl,rfl,hH,hz,q⟩:=h;cases rx;obtain⟨u,rfl,ru⟩:=rv.one;obtain⟨z,its,n,r,hl,e⟩:=I.lstM hH;refine call_meets F.slot_list_append ⟨_,e,rfl⟩ F.entry_list_append (F.args_list_append_2 _ _) (PySem.list_append l its.toArray n u (by rw[a7];lia)) ⟨e,?_⟩;refine⟨.non,_,I.lset (its':=its++[u]) hH e (by simp) (r.append (.cons ru .nil)) ?_,rfl,q⟩;rw[bP,List.length_singleton];lia
def EZ:V->List V->Hp->VK->Prop:=λx vs H Q=>∃l xs i k y,x=.ref l/\vs=[.int i]/\H l=some (.lst xs)/\-(2^63)<=i/\i<2^63/\seqIndex? i xs.length=some k/\xs[k]? = some y/\Q y (upd H l (.lst (xs.eraseIdx k)))
theorem ui:MtM X "list.pop" EZ:=by
 intro pins s σ H x vs v us Q I rx rv h;obtain⟨l,xs,i,k,y,rfl,rfl,hH,h1,h2,hk,hy,q⟩:=h;cases rx;obtain⟨u,rfl,ru⟩:=rv.one;obtain⟨t,rfl⟩:=ru;obtain⟨z,its,n,r,hl,e⟩:=I.lstM hH;obtain⟨w,hw,GI⟩:=r.get hy;refine call_meets F.slot_list_pop ⟨_,e,rfl⟩ F.entry_list_pop (F.args_list_pop_2 _ _)
  (MeetsSeq.list_pop_at l its.toArray n i t k w (fitsIndex_both h1 h2) (by rw[a7,<-hl];exact hk) (by rw[<-Array.getElem?_toList];exact hw) (by rw[a7];lia)) ⟨e,?_⟩
 refine⟨y,_,I.lset (its':=its.eraseIdx k) hH e ?_ (r.eraseIdx k) ?_,GI,q⟩
 ·show its.toArray.eraseIdxIfInBounds k=(its.eraseIdx k).toArray;rw[List.eraseIdxIfInBounds_toArray]
 ·have:=o4 xs k;lia
end
section
variable{prog:aF}{w:aD}{A:aE}{E:ae->af->Prop}{s:af}
set_option maxRecDepth 100000 in
end
section
variable{X:Cx}
end
end L2
namespace Att
open PySem PySem.W PySem.Calls PyProof.Rows
theorem Ca{P:Params}{h:Heap}:∀(ns:List Int) (vs:List ae),WellAll P h vs (ns.map WData.int)->bp vs ns:=by
 intro ns
 induction ns with
 |nil=>
  intro vs w;rw[List.map_nil]at w;cases w;exact .nil
 |cons n ns ih=>
  intro vs w;rw[aN]at w;cases w with
  |cons a b=>
   cases a;exact .cons _ _ (ih _ b)
theorem AF{l:OpenLaw}{n:Nat}(hn:l.most=some n){P:Params}{h:Heap}{args:List WData}{vals:List ae}
  (Hm:l.row.toRowW.claim.pre args=true) (Ku:WellAll P h vals args) :
  ∃a vs ns,vals=[bh a]/\args=[WData.list (ns.map WData.int)]/\h.get? a=some {cls:=.type "list",data:=.seq vs.toArray}/\bp vs ns/\ns.length<=n:=by
 have Mi:WShape.hasAll [] args [.list .int]=true:=(pre_splitW Hm).1;have hc:l.pre.holds [] {args:=args}=true:=(pre_splitW Hm).2;obtain⟨d,r,rfl,h1,h2⟩:=hasAllW_cons Mi;obtain rfl:=hasAllW_nil h2;obtain⟨xs,rfl,h3⟩:=hasW_list h1;obtain⟨ns,rfl⟩:=items_int h3;have hlen:ns.length<=n:=by
  unfold OpenLaw.pre at hc;have h4:(WTm.not (.lt (.lit (.int (n:Int))) (.len (.arg 0)))).holds [] {args:=[.list (ns.map .int)]}=true:=by
   have h4:=(holds_andW hc).1;rw[hn]at h4;exact h4
  have h5:=condW_of h4 (w_not (w_lt w_lit (w_len_list (w_arg rfl))));rw[aV]at h5;refine Nat.le_of_not_lt λq=>?_
  have q':(n:Int)<((ns.length:Nat):Int):=by lia
  first
   | (rw[decide_eq_true q']at h5;exact absurd h5 (by decide))
   | (simp at h5;lia)
 cases Ku with
 |cons w1 w2=>
  cases w2;cases w1 with
  |list ho FW=>exact⟨_,_,ns,rfl,rfl,ho,Ca ns _ FW,hlen⟩
theorem D5(l:OpenLaw)(args:List WData):l.row.toRowW.claim.post args (.bool true) args=true:=
 postW_of (r:=l.row.toRowW) (X:=(true==true))
  (show WShape.has [] (.bool true) .bool=true by first|rfl|decide|simp[WShape.has,WShape.arms,WShape.armsAll])
  (show (WTm.eq .res (.lit (.bool true))).value [] {args:=args,res:=some (.bool true),after:=args}=some (.bool (true==true))from w_eq_bool (w_res rfl) w_lit) rfl
theorem Ew{l:OpenLaw}{n:Nat}{q:aF}{loose:List Str}{XP:(Str->Option ae)->Heap->Prop}{YP:aD->Heap->Prop}{d:DefRec}
  (hn:l.most=some n) (HP:d.params.defaults=[])
  (call:∀(w:aD) (s₀ s₁:af) (mg mb:Str->Option ae) (fa:Addr) (o:Obj) (pm cd doc:ae) (a:Addr) (vs:List ae) (ns:List Int),
   Ground q loose [] XP w s₀ mg mb s₁.heap->YP w s₁.heap ->
   s₁.heap.get? fa=some o->o.data=.func (docDef d.name d.params d.body d.scope pm cd doc)->s₁.heap.CodeRec cd d.name->mg d.name=some (.ref fa) ->
   s₁.heap.get? a=some {cls:=.type "list",data:=.seq vs.toArray}->bp vs ns->ns.length<=n->s₁.gens = #[] ->
   codeAny (ao l.prog w) callerA (.call (.ref fa) ⟨[.ref a],[]⟩) (λr s'=>r=.ok (.ret (.bool true))/\OldK s₁.heap s'.heap/\s'.os=s₁.os/\AllBare s'.gens) s₁) :
  WalkO q loose XP YP l.row.toRowW d [] (λf vs=>PySem.call f vs):=by
 intro w s₀ s₁ mg mb G Y fa o pm cd doc dV kV ho hd Gq hD hmg hg args vals as Hm hlay hrd Ku Gx;obtain rfl:dV=.none:=Dflts.none hD HP;obtain rfl:kV=.none:=Dflts.noKw hD;obtain⟨a,vs,ns,rfl,rfl,HQ,hints,hlen⟩:=AF hn Hm Ku;refine enter_call (codeAny_mono (call w s₀ s₁ mg mb fa o pm cd doc a vs ns G Y ho (fd_plain hd) Gq hmg HQ hints hlen hg) λr s' hq=>?_);obtain⟨rfl,h2,h3,h4⟩:=hq;exact⟨.inl ⟨.bool true,.bool true,[],rfl,λ_=>rfl,.bool true,D5 l _,λ_=>⟨List.Pairwise.nil,λ_ hm=>(nomatch hm)⟩⟩,h2,h3,h4⟩
section
variable{prog:aF}{w:aD}{A:aE}{E:ae->af->Prop}{s:af}{K:Frag}
end
end Att
namespace L2
open PySem PySem.Spec PyProof.Rows
theorem tQ:∀{vs:List ae}{ns:List Int},bp vs ns->Vals (ns.map V.int) vs
 |_,_,.nil=>.nil
 |_,_,.cons n t h=>.cons ⟨t,rfl⟩ (tQ h)
def kA(H:Hp):Prop:=∀b,H b=none\/∃o xs,H b=some (.frz o (.lst xs))
theorem xq{P:aF}{w:aD}{K:aB}{mg mb:Str->Option ae}{CX:CXT}{k:Nat}{fa a:Addr}{fd:bN}{x:Str}{sp:Sp}{s₁:af}{vs:List ae}{ns:List Int}
  (KX:K.In s₁.heap) (hns:s₁.heap.Ns ar mg) (hb:s₁.heap.Ns builtinsNs mb) (Mj:∀x:Str,x≠"__name__"->mb x=bV x) (Kv:s₁.heap.NoLimit) (hg:s₁.gens = #[])
  (ha:s₁.heap.get? a=some {cls:=.type "list",data:=.seq vs.toArray}) (hi:bp vs ns) (hl:ns.length<=aO) (hr:cC k callerA)
  (F:∀base:Heap,K.In base->base.Ns ar mg->fH P w K mg base CX k fa fd [x] sp) (IP:∀(s:af) (u:ae),BindsTo s fd ⟨[u],[]⟩ [(x,u)])
  (Gu:∀H:Hp,kA H->SqL K H a (ns.map V.int)->sp [.ref a] H (λv _=>v=.bl true) λ_ _ _=>False)
  (Kw:∀H e s',CX [] H s₁ (λ_ _ _=>False) e s'->False) :
  codeAny (ao P w) callerA (.call (.ref fa) ⟨[.ref a],[]⟩) (λr s'=>r=.ok (.ret (.bool true))/\OldK s₁.heap s'.heap/\s'.os=s₁.os/\AllBare s'.gens) s₁:=by
 have rv:=tQ hi;have Kx:=hi.length
 -- from an abstract heap in which nothing but the script may be tracked
 have core:∀H:Hp,kA H->SqL K H a (ns.map V.int)->HOk P w H s₁.heap->(∀b,H b≠none->b=a)->(H a≠none->K.lookup a=none) ->
   codeAny (ao P w) callerA (.call (.ref fa) ⟨[.ref a],[]⟩) (λr s'=>r=.ok (.ret (.bool true))/\OldK s₁.heap s'.heap/\s'.os=s₁.os/\AllBare s'.gens) s₁:=by
  intro H hO hS hok hA hK;have GA:∀{b:Addr}{o:Obj},s₁.heap.get? b=some o->H b=none->(fh s₁.heap H).get? b=some o:=λe n=>yH e n
  have II:∀{b:Addr}{o:Obj}{es:Array DictEntry}{ep:Nat},s₁.heap.get? b=some o->o.data=.dict es ep->H b=none:=λ{b o es ep} e d=>by
   cases q:H b with
   |none=>rfl
   |some u=>
    have e':b=a:=hA b (by rw[q];simp);subst e';rw[ha]at e;cases e;have d':Data.seq vs.toArray _=Data.dict es ep:=d;cases d'
  have JA:∀{b:Addr}{m:Str->Option ae},s₁.heap.Ns b m->(fh s₁.heap H).Ns b m:=λ{b m} ⟨o,es,ep,e,d,r⟩=>⟨o,es,ep,GA e (II e d),d,r⟩
  have Lr:K.In (fh s₁.heap H):=λb o e=>GA (KX b o e) (by
   cases q:H b with
   |none=>rfl
   |some u=>
    have e':b=a:=hA b (by rw[q];simp);subst e';rw[hK (by rw[q];simp)]at e;cases e)
  have hM:Mod K mg (fh s₁.heap H):=⟨Lr,JA hns,⟨mb,JA hb,Mj⟩,let ⟨mc,h1,h2⟩:=Kv;⟨mc,JA h1,h2⟩⟩
  have e0:gz P w K mg (fh s₁.heap H) callerA [] s₁ H:=⟨rfl,hM,λb o e=>yT e,Nat.le_of_eq (yg _ _),trivial,λb hb=>absurd (show b∈([]:List Addr)from hb) (by simp),hok,.of_eq hg⟩
  refine codeAny_mono ((F _ Lr (JA hns)).run callerA [] s₁ H ⟨[.ref a],[]⟩ [.ref a] [.ref a] _ _ hr e0 (IP s₁ (.ref a)) (.cons rfl .nil) (Gu H hO hS)) λr s' h=>?_
  cases r with
  |error e=>exact(Kw H e s' h).elim
  |ok fl=>
   cases fl with
   |next=>exact bt h
   |brk=>exact bt h
   |cont=>exact bt h
   |ret u=>
    obtain⟨v,H',os,bare,un,Ky,r',q⟩:=h;have q':v=.bl true:=q;subst q';obtain rfl:u=bJ true:=r';refine⟨rfl,OldK.of_keep λb o e=>?_,os,bare⟩;cases q:H b with
    |none=>exact un.keep b o e q (by intro z;exact absurd (show b∈([]:List Addr)from z) (by simp)) (by simp)
    |some u=>
     rcases hO b with z|⟨ob,xs,z⟩
     ·rw[q]at z;cases z
     ·have z2:=un.frzs b ob _ z;obtain⟨e1,_⟩:=hok b _ z;obtain⟨e2,_⟩:=Ky b _ z2;rw[e]at e1;cases e1;exact e2
 cases hk:K.lookup a with
 |some o=>
  -- the script is one of the module's own objects
  have e:=KX a o hk;rw[ha]at e;cases e;refine core (λ_=>none) (λ_=>.inl rfl) (.inr ⟨_,vs.toArray,_,hk,rfl,rfl,rfl,by rw[a7,Kx];exact hl,by simpa using rv⟩) (λb u z=>by have z':(none:Option HO)=some u:=z;cases z') (λb z=>absurd rfl z) λz=>absurd rfl z
 |none=>
  refine core (λb=>if b=a then some (.frz {cls:=.type "list",data:=.seq vs.toArray} (.lst (ns.map V.int)))else none) (λb=>?_) (.inl (.inr ⟨{cls:=.type "list",data:=.seq vs.toArray},if_pos rfl⟩)) (λb u z=>?_) (λb z=>?_) λ_=>hk
  ·by_cases hb:b=a
   ·exact .inr ⟨_,_,if_pos hb⟩
   ·exact .inl (if_neg hb)
  ·by_cases hb:b=a
   ·have z':=(if_pos hb).symm.trans z;cases z';subst hb;exact⟨ha,by rw[aV];exact hl,vs,_,rv,ha⟩
   ·have z':=(if_neg hb).symm.trans z;cases z'
  ·by_cases hb:b=a
   ·exact hb
   ·exact absurd (if_neg hb) z
theorem DQ{l:PySem.W.OpenLaw}{n k:Nat}{q:aF}{loose:List Str}{XP:(Str->Option ae)->Heap->Prop}{YP:aD->Heap->Prop}{d:DefRec}{K:Params->aB}{CX:aD->CXT}{sp:aD->Sp}{x:Str}
  (hn:l.most=some n) (Ls:n<=aO) (HP:d.params.defaults=[]) (hr:cC k callerA)
  (hY:∀(w:aD) (h:Heap),YP w h->(K w.params).In h)
  (F:∀(w:aD) (mg:Str->Option ae) (fa:Addr) (h:Heap),(K w.params).In h->h.Ns ar mg->mg d.name=some (.ref fa) ->
   ∃fd:bN,(∀(s:af) (u:ae),BindsTo s fd ⟨[u],[]⟩ [(x,u)]) /\
    ∀base:Heap,(K w.params).In base->base.Ns ar mg->fH l.prog w (K w.params) mg base (CX w) k fa fd [x] (sp w))
  (Gu:∀(w:aD) (H:Hp) (a:Addr) (ns:List Int),ns.length<=n->kA H->SqL (K w.params) H a (ns.map V.int)->sp w [.ref a] H (λv _=>v=.bl true) λ_ _ _=>False)
  (Kw:∀(w:aD) (H:Hp) (s:af) (e:ae) (s':af),CX w [] H s (λ_ _ _=>False) e s'->False) :
  PySem.W.WalkO q loose XP YP l.row.toRowW d [] (λf vs=>PySem.call f vs):=by
 refine Att.Ew hn HP λw s₀ s₁ mg mb fa o pm cd doc a vs ns G Y ho hd Gq hmg HQ hints hlen hg=>?_
 have KX:=hY w _ Y;obtain⟨fd,hb,hF⟩:=F w mg fa _ KX G.T.g hmg;exact xq KX G.T.g G.T.b G.T.builtins G.T.nolimit hg HQ hints (bB hlen Ls) hr hF hb (λH hO hS=>Gu w H a ns hlen hO hS) λH e s'=>Kw w H s₁ e s'
end L2
/- THE LAST THEOREM (shape; LID, My.* are yours):
   My.Adr: a structure of the addresses that your layer names (classes, functions); My.Txt K t: a structure (Prop) of the equations over K;
   My.txt_mk : {K} {implicit addresses ..} (e1 : nsIn K mainGlobals "law" = some (some (.ref f))) (e2 : K.lookup f = some ⟨oc, od, .func (fnOf "law" "law" params body scope dV kV doc pm an cdv ct), sl⟩) (e3 : codeIn K cdv "law" = true) .. : ∃ t, My.Txt K t
set_option maxRecDepth 100000 in
set_option maxHeartbeats 0 in
theorem PySem.Challenge.cw_LID_holds : PySem.Challenge.rw_LID.Holds := by
 w_on; o_law; k_head; (case hw => w_witness2)
 k_fill
 refine L2.walk_of (l := PySem.Challenge.rw_LID) (n := 63) (k := 40) (x := "script") (CX := fun w => ..) (sp := fun _ => My.sp_law) rfl (by decide) rfl ⟨rfl, by decide, by decide⟩ (fun w h Y => PySem.W.kIn_of Y) ?F ?S ?C
 case F =>
  intro w mg fa h KX G hmg;have T : ∃ t, My.Txt (L2.KOf KX) t := by
   dsimp only [L2.KOf]                          -- K must stand as «<heap const> w.params» for k_is
   refine' My.txt_mk ?e1 ?e2 ?e3 ..
   (case e1 => PySem.W.k_is)                    -- in the order: a name -> its address -> its object -> its parts
   (case e2 => PySem.W.k_is)
   ..
  obtain ⟨t, T⟩ := T;have e0 := hmg.symm.trans (PySem.W.mg_of KX G T.law);cases e0                                       -- fa is the law's own address
  exact ⟨_, fun s u => .of_eq rfl, fun base kb nb => My.law_fn T kb nb⟩     -- if «.of_eq rfl» comes too early: refine' ⟨_, ?b, fun base kb nb => My.law_fn T kb nb⟩; exact fun s u => .of_eq rfl
 case S => exact fun w H a ns hl hO hS => ..
 case C => exact ..
(the tactic k_is has no namespace: write k_is) -/
namespace L2
open PySem PySem.Spec PyProof.Rows
noncomputable def qt(s:Stmt):Arguments:=match s with
 | .FunctionDef _ a _ _ _ _ _ _ _ _=>a
 |_=>{posonlyargs:=[],args:=[],vararg:=none,kwonlyargs:=[],kw_defaults:=[],kwarg:=none,defaults:=[]}
noncomputable def dQ(s:Stmt):List Stmt:=match s with
 | .FunctionDef _ _ b _ _ _ _ _ _ _=>b
 |_=>[]
noncomputable def qr(s:Stmt):Scope:=match s with
 | .FunctionDef _ _ _ _ _ _ sc _ _ _=>sc
 |_=>{kind:=.function,names:=[],isGenerator:=false,isCoroutine:=false}
abbrev E0:XK:=λ_ _ _=>False
structure Fun(K:aB)(x qual:Str)(st:Stmt)(f:Addr)(fd:bN):Prop where
 ex:∃(oc:ae) (od:Option Addr) (kV doc pm:ae) (an:Option Addr) (cdv ct:ae) (osl:Array (Option ae)),
  fd=cm x qual (qt st) (dQ st) (qr st) .none kV doc pm an cdv ct/\K.lookup f=some ⟨oc,od,.func fd,osl⟩/\PySem.W.codeIn K cdv qual=true
 kp:cR K (.ref f)=true
section
variable{P:aF}{w:aD}{K:aB}{mg:Str->Option ae}{base:Heap}
theorem Fun.binds{x qual:Str}{st:Stmt}{f:Addr}{fd:bN}{ps:List Str}(F:Fun K x qual st f fd)
  (h:∀(kV doc pm:ae) (an:Option Addr) (cdv ct:ae) (us:List ae),us.length=ps.length->bindArgs (cm x qual (qt st) (dQ st) (qr st) .none kV doc pm an cdv ct) ⟨us,[]⟩=pure (ps.zip us)):Binds K fd ps []:=by
 obtain⟨oc,od,kV,doc,pm,an,cdv,ct,osl,rfl,lk,Gq⟩:=F.ex;exact .all (h kV doc pm an cdv ct)
theorem rS{x qual:Str}{st:Stmt}{f:Addr}{oc:ae}{od an:Option Addr}{osl:Array (Option ae)}{kV doc pm cdv ct:ae}(l:K.lookup f=some ⟨oc,od,.func (cm x qual (qt st) (dQ st) (qr st) .none kV doc pm an cdv ct),osl⟩)
  (c:PySem.W.codeIn K cdv qual=true) (k:cR K (.ref f)=true):Fun K x qual st f (cm x qual (qt st) (dQ st) (qr st) .none kV doc pm an cdv ct):=⟨⟨oc,od,kV,doc,pm,an,cdv,ct,osl,rfl,l,c⟩,k⟩
end
section
variable{X:Cx}
end
def qf(H H':Hp):Prop:=∀b o,H b=some o->H' b=some o
theorem qf.refl(H:Hp):qf H H:=λ_ _ h=>h
theorem qf.trans{H H1 H2:Hp}(a:qf H H1)(b:qf H1 H2):qf H H2:=λc o h=>b c o (a c o h)
theorem qf.free{H H':Hp}(e:qf H H'){l:Addr}(h:H' l=Option.none):H l=Option.none:=by
 cases q:H l with
 |none=>rfl
 |some o=>
  rw[e l o q]at h;cases h
theorem qf.seq{K:aB}{H H':Hp}{a:Addr}{xs:List V}(e:qf H H')(h:SqL K H a xs):SqL K H' a xs:=by
 rcases h with (h|⟨o,h⟩)|h
 ·exact .inl (.inl (e _ _ h))
 ·exact .inl (.inr ⟨o,e _ _ h⟩)
 ·exact .inr h
noncomputable def fm(elt:Expr)(gens:List cA)(scope:a8)(pos:Pos)(d:Nat)(acc:ae)(env:Env):Sem Unit:=
 match gens[d+1]? with
 |some g'=>do
  let x <-eval g'.iter env
  standAt g'.iter.pos
  let x <-foldedSetIterable g'.iter env x
  let _ <-runOwn (.compStart (.ListComp elt gens scope pos) (d+1) (<-holding [x] (pyIter x)) acc env) env
  pure ()
 |none=>do
  let _ <-call (.builtin "list.append") [acc,<-eval elt env]
  pure ()
theorem Dw{elt:Expr}{gens:List cA}{scope:a8}{pos:Pos}{d:Nat}{g:cA}{it acc:ae}{env:Env}(hg:gens[d]? = some g)(ha:g.is_async=0)
  (hn:∀g',gens[d+1]? = some g'->g'.is_async=0) :
  compTurn (.ListComp elt gens scope pos) d it acc env=(do
   standAt g.iter.pos
   match <-pyNext it with
   |none=>pure (.done .next)
   |some v=>
    letOwnedTupleGo g.target it v
    assign g.target env v
    let ok <-(forIn g.ifs true λc r=>if r=true then do let ok <-isTrue c env (eval c env);pure (dI ok)else pure (dI r))
    if ok then
     fm elt gens scope pos d acc env
     again (.compLoop (.ListComp elt gens scope pos) d it acc env)
    else again (.compLoop (.ListComp elt gens scope pos) d it acc env)):=by
 unfold compTurn;cases e:gens[d+1]? with
 |none=>
  simp only[hg,ha,e,fm]
  rfl
 |some g'=>
  have JB:=hn g' e;simp only[hg,ha,e,JB,fm];simp only[bne_self_eq_false,bD,if_false,bind_assoc,pure_bind]
  rfl
theorem Eo{prog:aF}{w:aD}{A:aE}{R:Result->af->Prop}{s:af}{elt:Expr}{gens:List cA}{scope:a8}{pos:Pos}{d:Nat}{g:cA}{it acc:ae}{env:Env}
  (hg:gens[d]? = some g) (ha:g.is_async=0)
  (h0:codeAny (ao prog w) A (.compLoop (.ListComp elt gens scope pos) d it acc env) R s)
  (h:aq (ao prog w) A (pyIter it) (λG2 s'=>codeAny (ao prog w) A (.compLoop (.ListComp elt gens scope pos) d G2 acc env) R s')
   (notedBy (ao prog w) A env λx s'=>R (.error x) s') s) :
  codeAny (ao prog w) A (.compStart (.ListComp elt gens scope pos) d it acc env) R s:=by
 refine codeAny_of_tree ?_;show aq _ _ ((compStart (.ListComp elt gens scope pos) d it acc env).onRaise (λx=>do noteFrame x env;standAt theWindowsPlace)) _ _ s;refine wpAny_notedAt ?_;unfold compStart;have e2:(clausesOf (.ListComp elt gens scope pos))[d]? = some g:=hg;simp only[e2];rw[if_neg (by show ¬ (g.is_async != 0)=true;simp[ha])];show aq _ _ (ask>>=_) _ _ s;refine au (wpAny_askSetting (wpAny_ite ?_));split
 ·first
   |exact au (aK (aK (aC rfl h0)))
   |exact aK (aC rfl h0)
 ·first
   |exact au (wpAny_rule (au (wpAny_standAt (au (bM h (λG2 s' h'=>aK (aC rfl h')) λ_ _ x=>x)))))
   | (refine au (wpAny_rule ?_);show aq _ _ (standAt g.iter.pos>>=_) _ _ s;exact au (wpAny_standAt (au (bM h (λG2 s' h'=>aK (aC rfl h')) λ_ _ x=>x))))
def PTs(Y:Cx)(ifs:List Expr)(t:TT):Prop:=
 ∀(pins:List (Addr×Obj)) (s:af) (σ:St) (H:Hp) (Q:Bool->Hp->Prop),Inv Y pins σ H s->t σ H Q ->
  aq (ao Y.prog Y.w) Y.A (forIn ifs true λc r=>if r=true then do let ok <-isTrue c Y.env (eval c Y.env);pure (dI ok)else pure (dI r)) (TP Y pins σ Q) Y.xe s
def vp:TT:=λ_ H Q=>Q true H
theorem DS{Y:Cx}:PTs Y [] vp:=λ_ _ _ H _ I h=>wpAny_tests_nil ⟨H,I,h⟩
theorem yq{Y:Cx}{c:Expr}{t:TT}(hc:PT Y c t):PTs Y [c] t:=λpins s σ H Q I h=>wpAny_tests_one (hc pins s σ H Q I h)
def PB(Y:Cx)(m:Sem Unit)(t:TS):Prop:=
 ∀(pins:List (Addr×Obj)) (s:af) (σ:St) (H:Hp) (D:Ends),Inv Y pins σ H s->t D σ H ->
  aq (ao Y.prog Y.w) Y.A m (λ_ s'=>∃σ' H',Inv Y pins σ' H' s'/\D.nx σ' H') Y.xe s
section
variable{Y:Cx}{elt:Expr}{gens:List cA}{scope:a8}{pos:Pos}{d:Nat}
def jn(acc:Addr)(te:TE):TS:=λD σ H=>te σ H λy H1=>∃xs,H1 acc=some (.lst xs)/\xs.length<aO/\D.nx σ (upd H1 acc (.lst (xs++[y])))
theorem rK{acc:Addr}{te:TE}(hn:gens[d+1]? = none)(he:PE Y elt te):PB Y (fm elt gens scope pos d (.ref acc) Y.env) (jn acc te):=by
 intro pins s σ H D I h;unfold fm;rw[hn];refine au (thn (he pins s σ H _ I h) λu s1 ⟨y,H1,I1,r1,xs,hx,hz,q⟩=>?_);refine au (thn (nJ pins s1 σ H1 (.ref acc) [y] (.ref acc) [u] (λ_ H'=>D.nx σ H') I1 rfl (.cons r1 .nil) ⟨acc,xs,y,rfl,rfl,hx,hz,q⟩) λ_ s2 ⟨_,H2,I2,_,q2⟩=>?_);exact aK ⟨σ,H2,I2,q2⟩
theorem xX{g:cA}{it:Addr}{acc:ae}{fp:List Addr}{tn:Nat->Heap->Prop}{J:It}{tg:TG}{tt:TT}{tb:TS}(hc:Y.calm=true)(hx:∀e s,¬ Y.xe e s)(hg:gens[d]? = some g)(ha:g.is_async=0)
  (hn:∀g',gens[d+1]? = some g'->g'.is_async=0) (T:Turn Y.prog Y.w Y.K g.target J fp it tn) (pg:PG Y g.target tg) (pt:PTs Y g.ifs tt) (pb:PB Y (fm elt gens scope pos d acc Y.env) tb)
  {pins:List (Addr×Obj)}{s:af}{σ:St}{H:Hp}{D:Ends} (I:Inv Y pins σ H s) (st:tn 0 s.heap) (fr:∀b∈fp,dO Y pins H b)
  (h:∃W:Nat->Nat->St->Hp->Prop,(∃m,W 0 m σ H)/\∀i m σ H,W i m σ H ->
   (J.stop i H/\D.nx σ H)\/(J.go i H/\∃N:St->Hp->Prop,(∀σ' H',N σ' H'->∃m',m'<m/\W (i+1) m' σ' H')/\∀x H',J.yld i H x H'->tg x σ H' λσ2 H2=>jw tt tb jy {D with nx:=N,ct:=N,bk:=D.nx} σ2 H2)) :
  codeAny (ao Y.prog Y.w) Y.A (.compLoop (.ListComp elt gens scope pos) d (.ref it) acc Y.env) (λr s'=>r=.ok .next/\∃σ' H',Inv Y pins σ' H' s'/\D.nx σ' H') s:=by
 obtain⟨W,⟨m0,w0⟩,turn⟩:=h;have Gr:∀{H':Hp},(∀b∈fp,H' b=none)->∀b∈fp,dO Y pins H' b:=λhn b hb=>⟨hn b hb,(fr b hb).2⟩
 refine codeAny_loop rfl (λn s'=>∃i σ' H',Inv Y pins σ' H' s'/\tn i s'.heap/\(∀b∈fp,H' b=none)/\W i n σ' H') ?_ m0 ⟨0,σ,H,I,st,λb hb=>(fr b hb).1,w0⟩;rintro n s3 ⟨i,σ3,H3,I3,Gg,IH,w3⟩;show aq _ Y.A ((compTurn (.ListComp elt gens scope pos) d (.ref it) acc Y.env).onRaise (λx=>do noteFrame x Y.env;theTreesLotGoes x)) _ _ s3;refine wpAny_noted ?_;rw[Dw hg ha hn];have nox:∀{E:ae->af->Prop} (e:ae) (s:af),Y.xe e s->E e s:=λe s z=>absurd z (hx e s)
 refine au (wpAny_standAt ?_);rcases turn i n σ3 H3 w3 with ⟨stop,qn⟩|⟨go,N,hN,step⟩
 ·refine au (thn (T.done Y rfl rfl rfl hc i pins s3 σ3 H3 _ I3 (Gr IH) Gg stop) λr s4 ⟨hr,I4⟩=>?_);subst hr;exact aK ⟨rfl,σ3,H3,I4,qn⟩
 ·refine au (thn (T.item Y rfl rfl rfl hc i pins s3 σ3 H3 _ I3 (Gr IH) Gg go) λr s4 ⟨u,hr,h4⟩=>?_);subst hr;refine au (thn h4 λ_ s5 ⟨x,H5,I5,r5,y5,HK,Ko⟩=>?_);have I5':=I5.pinned (Gr Ko) (T.obj _ _ HK);refine au (bM (pg _ s5 σ3 H5 x u _ I5' r5 (step x H5 y5)) (λ_ s6 ⟨σ6,H6,I6,q6⟩=>?_) nox);have again:∀{s7:af}{σ7:St}{H7:Hp},Inv Y (pins++iJ fp s5.heap) σ7 H7 s7->N σ7 H7->∃m,m<n/\∃i σ' H',Inv Y pins σ' H' s7/\tn i s7.heap/\(∀b∈fp,H' b=none)/\W i m σ' H':=λ{s7 σ7 H7} I7 n7=>by
   obtain⟨m',hm,w7⟩:=hN σ7 H7 n7;refine⟨m',hm,i+1,σ7,H7,I7.unpinned,T.keep _ _ _ HK λb hb o e=>(I7.pin (b,o) (cN _ (cN _ (jU hb e)))).1,λb hb=>?_,w7⟩;obtain⟨o,e,d⟩:=T.obj _ _ HK b hb;exact(I7.pin (b,o) (cN _ (cN _ (jU hb e)))).2.1
  refine au (bM (pt _ s6 σ6 H6 _ I6 q6) (λb s7 ⟨H7,I7,q7⟩=>?_) nox);cases b with
  |true=>
   rw[if_pos rfl];rw[if_pos rfl]at q7;refine au (bM (pb _ s7 σ6 H7 _ I7 q7) (λ_ s8 ⟨σ8,H8,I8,q8⟩=>?_) nox);exact aK ⟨rfl,again I8 q8⟩
  |false=>
   rw[if_neg bO];rw[if_neg bO]at q7;exact aK ⟨rfl,again I7 q7⟩
end
theorem l_{env:Env}:∀{names:List (Str×aY)}{cs:List (Str×Addr)},(∀x∈names,x.2=.free->∃c,env.cells.lookup x.1=some c) ->
  ∃cl,(forIn names cs (λ(x:Str×aY) (cs:List (Str×Addr))=>if (x.2==cf)=true then do let c <-cellOf env x.1;pure (dI ((x.1,c)::cs))else pure (dI cs)):Sem (List (Str×Addr)))=pure cl /\
   (∀x c,cl.lookup x=some c->env.cells.lookup x=some c\/cs.lookup x=some c)/\(∀x,(∃c,cs.lookup x=some c)->∃c,cl.lookup x=some c)/\∀x∈names,x.2=.free->∃c,cl.lookup x.1=some c
 | [],cs,_=>⟨cs,by rw[List.forIn_nil],λ_ _ h=>.inr h,λ_ h=>h,λ_ h=>nomatch h⟩
 | (n,k)::r,cs,h=>by
  rw[List.forIn_cons];by_cases hk:k=.free
  ·subst hk;obtain⟨c,hc⟩:=h (n,.free) aM rfl;have e:cellOf env n=pure c:=by
    have Hc:env.cells.lookup n=some c:=hc;unfold cellOf;rw[Hc]
   obtain⟨cl,e1,e2,e3,e4⟩:=l_ (names:=r) (cs:=(n,c)::cs) λx hx=>h x (aR _ hx)
   refine⟨cl,?_,λx c' q=>?_,λx q=>e3 x ?_,λx hx hf=>?_⟩
   ·simp only[beq_self_eq_true,if_true,e,pure_bind];exact e1
   ·rcases e2 x c' q with z|z
    ·exact .inl z
    ·rw[bE]at z;by_cases Ir:(x==n)=true
     ·rw[Ir]at z;have:x=n:=by simpa using Ir
      subst this;cases z;exact .inl hc
     ·have HR:(x==n)=false:=by simpa using Ir
      rw[HR]at z;exact .inr z
   ·rw[bE];by_cases Ir:(x==n)=true
    ·rw[Ir];exact⟨c,rfl⟩
    ·have HR:(x==n)=false:=by simpa using Ir
     rw[HR];exact q
   ·rcases aI.mp hx with z|z
    ·subst z;exact e3 n ⟨c,by rw[bE,beq_self_eq_true]⟩
    ·exact e4 x z hf
  ·have Mk:(k==cf)=false:=by simpa using hk
   obtain⟨cl,e1,e2,e3,e4⟩:=l_ (names:=r) (cs:=cs) λx hx=>h x (aR _ hx)
   refine⟨cl,?_,e2,e3,λx hx hf=>?_⟩
   ·simp only[Mk,bD,if_false,pure_bind];exact e1
   ·rcases aI.mp hx with z|z
    ·subst z;exact absurd hf hk
    ·exact e4 x z hf
theorem rV{env:Env}{scope:a8}(h:∀x∈scope.names,x.2=.free->∃c,env.cells.lookup x.1=some c) :
  ∃cl,closureFor scope env=pure cl/\(∀x c,cl.lookup x=some c->env.cells.lookup x=some c)/\∀x∈scope.names,x.2=.free->∃c,cl.lookup x.1=some c:=by
 obtain⟨cl,e1,e2,_,e4⟩:=l_ (env:=env) (names:=scope.names) (cs:=[]) h;refine⟨cl,?_,λx c q=>(e2 x c q).elim (λz=>z) (λz=>by simp at z),e4⟩;have e:closureFor scope env=(forIn scope.names [] (λ(x:Str×aY) (cs:List (Str×Addr))=>if (x.2==cf)=true then do let c <-cellOf env x.1;pure (dI ((x.1,c)::cs))else pure (dI cs))>>=λcs=>pure cs):=rfl;rw[e,e1,pure_bind]
theorem jQ{env:Env}:∀{names:List (Str×aY)}{x:Str}{k:aY},
  (names.map λ(n,k)=>if (k==cf&&env.scope.kind==.function&&env.kindOf n==some .cell)then (n,aY.cell)else (n,k)).lookup x=some k ->
  names.lookup x=some k\/(k=.cell/\names.lookup x=some .free)
 | [],_,_,h=>by simp at h
 | (n,k')::r,x,k,h=>by
  have ih:=@jQ env r x k;have h':List.lookup x ((if (k'==cf&&env.scope.kind==.function&&env.kindOf n==some .cell)=true then (n,aY.cell)else (n,k'))::r.map (λ(n,k)=>if (k==cf&&env.scope.kind==.function&&env.kindOf n==some .cell)then (n,aY.cell)else (n,k)))=some k:=h;cases hx:x==n with
  |true=>
   by_cases hc:(k'==cf&&env.scope.kind==.function&&env.kindOf n==some .cell)=true
   ·rw[if_pos hc]at h';simp only[bE,hx]at h';cases h';have:k'=.free:=by
     have z:(k'==cf)=true:=by
      cases q:(k'==cf)with
      |true=>rfl
      |false=>rw[q]at hc;simp at hc
     simpa using z
    subst this;exact .inr ⟨rfl,by simp[bE,hx]⟩
   ·rw[if_neg hc]at h';simp only[bE,hx]at h';cases h';exact .inl (by simp[bE,hx])
  |false=>
   have h2:(r.map (λ(n,k)=>if (k==cf&&env.scope.kind==.function&&env.kindOf n==some .cell)then (n,aY.cell)else (n,k))).lookup x=some k:=by
    by_cases hc:(k'==cf&&env.scope.kind==.function&&env.kindOf n==some .cell)=true
    ·rw[if_pos hc]at h';simpa only[bE,hx]using h'
    ·rw[if_neg hc]at h';simpa only[bE,hx]using h'
   rcases ih h2 with z|z
   ·exact .inl (by simpa only[bE,hx]using z)
   ·exact .inr ⟨z.1,by simpa only[bE,hx]using z.2⟩
noncomputable def iS(names:List (Str×aY)):List Str:=(names.filter λy=>y.2==.cell).map (·.1)
theorem kr:∀(names:List (Str×aY)) (n:Nat) (a b:List (Str×Addr)),br n names (a++b)=br n names a++b
 | [],_,_,_=>rfl
 | (x,k)::r,n,a,b=>by
  unfold br;split
  ·exact kr r (n+1) ((x,n)::a) b
  ·exact kr r n a b
theorem mj{x:Str}{c:Addr}:∀{names:List (Str×aY)}{n:Nat}{a:List (Str×Addr)},(x,c)∈br n names a->(x,c)∈a\/(x,aY.cell)∈names
 | [],_,_,h=>.inl h
 | (y,k)::r,n,a,h=>by
  unfold br at h;split at h
  ·rename_i hk
   rcases mj h with z|z
   ·rcases aI.mp z with q|q
    ·have hk:k=.cell:=by simpa using hk
     cases q;exact .inr (by rw[hk];exact aM)
    ·exact .inl q
   ·exact .inr (aR _ z)
  ·rcases mj h with z|z
   ·exact .inl z
   ·exact .inr (aR _ z)
theorem EK{M:Model}{A:aE}{E:ae->af->Prop}{s:af}{scope:a8}{globals:Addr}{cl:List (Str×Addr)}{qual:Str}{env:Env}{Q:Env->af->Prop}
  (hQ:∀h₁,h₁.Ns s.heap.objs.size (λ_=>none)->(∀b o,s.heap.get? b=some o->h₁.get? b=some o)->CellsOk h₁ (s.heap.objs.size+1) (br (s.heap.objs.size+1) scope.names []) ->
   Q (newEnv scope s.heap.objs.size globals (br (s.heap.objs.size+1) scope.names []++cl) qual none .none (some env) builtinsNs) {s with heap:=h₁}) :
  aq M A (newFunctionEnv scope globals cl [] qual none .none (some env)) Q E s:=by
 simp only[newFunctionEnv,Option.isSome_some,if_true];refine au (wpAny_alloc ?_);refine au (wpAny_layCells _ (λname kind cells=>by cases IQ:kind==aY.cell<;>simp[IQ]) _ _ _ _ ?_);have ok:=cellsFrom_ok scope.names (s.heap.push {cls:=.type "dict",data:=.dict #[]}) (s.heap.objs.size+1) [] ⟨λ_ _ hm=>(nomatch hm),List.Pairwise.nil⟩ (by rw[Heap.size_push];exact aG _);rw[Heap.size_push]at ok;rw[show ({s with heap:=s.heap.push {cls:=.type "dict",data:=.dict #[]}}:af).heap.objs.size=s.heap.objs.size+1 from Heap.size_push ..];rw[show cl=[]++cl from rfl,kr];rw[List.forIn_nil];exact au (aK (aK (hQ _ ((Heap.Ns.new s.heap (.type "dict")).keeps (pushCells_keeps _ _)) (λb o e=>pushCells_keeps _ _ b o (Heap.get?_push_of_some _ e)) ok)))
noncomputable def zJ(X:Cx)(NY:List Str)(scope:a8)(cl:List (Str×Addr))(C:Addr)(s₀:af)(H₀:Hp)(fp:List Addr):Cx where
 prog:=X.prog
 w:=X.w
 K:=X.K
 mg:=X.mg
 base:=X.base
 A:=X.A
 N:=NY
 s₀:=s₀
 H₀:=H₀
 env:=compEnvC scope (br (C+1) scope.names []++cl) C X.env
 outer:=X.stack
 stack:=X.stack
 ex:=fp
 fn:=λx=>(iS scope.names).contains x
 calm:=X.calm
 pn:=[]
 xe:=λ_ _=>False
noncomputable def caps(cap:List (Option Nat))(σ:St):St:=cap.map λo=>o.bind λj=>(σ[j]?).join
def nD(X:Cx)(NY:List Str)(cap:List (Option Nat))(scope:a8):Prop:=
 cap.length=NY.length/\∀(i j:Nat),cap[i]? = some (some j)->∃x,NY[i]? = some x/\X.N[j]? = some x/\scope.names.lookup x=some .free/\(X.env.kindOf x=some .cell\/X.env.kindOf x=some .free)
structure el(X:Cx)(NY:List Str)(cap:List (Option Nat))(scope:a8):Prop where
 kind:scope.kind=.function
 cells:∀y∈scope.names,y.2=.cell->scope.names.lookup y.1=some .cell
 names:∀y∈scope.names,y.2=.local->scope.names.lookup y.1=some .local
 free:∀y∈scope.names,y.2=.free->X.env.kindOf y.1=some .cell\/X.env.kindOf y.1=some .free
 cap:nD X NY cap scope
theorem Fo{cap:List (Option Nat)}{σ:St}{i:Nat}{v:V}(h:(caps cap σ)[i]? = some (some v)):∃j,cap[i]? = some (some j)/\σ[j]? = some (some v):=by
 unfold caps at h;rw[List.getElem?_map]at h;cases e:cap[i]? with
 |none=>rw[e]at h;simp at h
 |some o=>
  rw[e]at h;cases o with
  |none=>simp at h
  |some j=>
   refine⟨j,rfl,?_⟩;have h':(σ[j]?).join=some v:=by simpa using h
   cases q:σ[j]? with
   |none=>rw[q]at h';cases h'
   |some z=>rw[q]at h';exact congrArg some h'
theorem uf{X:Cx}{pins:List (Addr×Obj)}{σ:St}{H:Hp}{s:af}{NY:List Str}{cap:List (Option Nat)}{scope:a8}{cl:List (Str×Addr)}{fp:List Addr}{h₁:Heap}{m:Str->Option ae}
  (I:Inv X pins σ H s) (S:el X NY cap scope) (FK:∀x c,cl.lookup x=some c->X.env.cells.lookup x=some c) (FW:∀x∈scope.names,x.2=.free->∃c,cl.lookup x.1=some c)
  (hf:∀b∈fp,dO X pins H b) (FF:∀b∈fp,b<s.heap.objs.size) (hn:h₁.Ns s.heap.objs.size m) (hk:∀b o,s.heap.get? b=some o->h₁.get? b=some o) (HS:CellsOk h₁ (s.heap.objs.size+1) (br (s.heap.objs.size+1) scope.names [])) {tk:Nat} :
  Inv (zJ X NY scope cl s.heap.objs.size s H fp) [] (caps cap σ) H {s with heap:=h₁,toks:=tk}:=by
 have Kz:∀x,(compEnvC scope (br (s.heap.objs.size+1) scope.names []++cl) s.heap.objs.size X.env).kindOf x=some .cell\/(compEnvC scope (br (s.heap.objs.size+1) scope.names []++cl) s.heap.objs.size X.env).kindOf x=some .free->scope.names.lookup x=some .free\/scope.names.lookup x=some .cell:=λx hx=>by
  rcases hx with q|q
  ·rcases jQ (env:=X.env) (names:=scope.names) (x:=x) (k:=.cell) q with z|z
   ·exact .inr z
   ·exact .inl z.2
  ·rcases jQ (env:=X.env) (names:=scope.names) (x:=x) (k:=.free) q with z|z
   ·exact .inl z
   ·exact .inl z.2
 have IS:∀x c,cl.lookup x=some c->c<s.heap.objs.size:=λx c e=>by
  obtain⟨v,q⟩:=I.cell x c (FK x c e);exact q.lt
 -- a cell is one of its own, or one from around
 have two:∀x c,(br (s.heap.objs.size+1) scope.names []++cl).lookup x=some c->(x,c)∈br (s.heap.objs.size+1) scope.names []\/cl.lookup x=some c:=λx c e=>by
  rw[List.lookup_append]at e;cases q:(br (s.heap.objs.size+1) scope.names []).lookup x with
  |none=>rw[q]at e;exact .inr e
  |some c'=>rw[q]at e;cases e;exact .inl (cP q)
 have KA:∀x c,(x,c)∈br (s.heap.objs.size+1) scope.names []->scope.names.lookup x=some .cell:=λx c e=>by
  rcases mj e with z|z
  ·cases z
  ·exact S.cells _ z rfl
 have GJ:∀x c,(x,c)∈br (s.heap.objs.size+1) scope.names []->s.heap.objs.size<c:=λx c e=>(HS.empty x c e).2
 have Lu:∀x c,scope.names.lookup x=some .free->cl.lookup x=some c->(br (s.heap.objs.size+1) scope.names []++cl).lookup x=some c:=λx c e1 e2=>by
  rw[List.lookup_append];cases q:(br (s.heap.objs.size+1) scope.names []).lookup x with
  |none=>rw[e2];rfl
  |some c'=>have:=KA x c' (cP q);rw[e1]at this;cases this
 refine⟨⟨I.ok.mod,S.kind,I.ok.glob,I.ok.blt,aG _,λx y c e1 e2=>?_,λx hx=>?_,λx c e e2=>?_,I.ok.hd,I.ok.frames,.inl rfl,λb hb=>?_,λb o e=>I.bs b o e,bB I.ok.bsz I.sz,λb o e hb=>?_,λb hb z=>?_,I.stack,I.stkFree⟩,
  rfl,I.bare,Un.kept hk,⟨m,hn,λi x v e1 e2 e3=>?_⟩,λx c e=>?_,I.hok.fresh (aG _),λx c e=>?_,λp hp=>absurd (show p∈([]:List (Addr×Obj))from hp) (by simp),I.hok.kept hk,?_⟩
 ·rcases two x c e1 with z1|z1<;>rcases two y c e2 with z2|z2
  ·exact name_of_addr HS.apart z1 z2
  ·exact absurd (Nat.lt_trans (IS y c z2) (GJ x c z1)) (bU _)
  ·exact absurd (Nat.lt_trans (IS x c z1) (GJ y c z2)) (bU _)
  ·exact I.ok.inj x y c (FK x c z1) (FK y c z2)
 ·rcases Kz x hx with z|z
  ·obtain⟨c,hc⟩:=FW (x,.free) (cP z) rfl;exact⟨c,Lu x c z hc⟩
  ·obtain⟨c,hc⟩:=jS (n:=s.heap.objs.size+1) z;refine⟨c,?_⟩;show (br (s.heap.objs.size+1) scope.names []++cl).lookup x=some c;rw[List.lookup_append,hc];rfl
 ·have e:(iS scope.names).contains x=true:=e;have hm:scope.names.lookup x=some .cell:=by
   simp only[iS,List.contains_iff_mem,aU,bu,beq_iff_eq]at e;obtain⟨y,⟨y1,y2⟩,rfl⟩:=e;exact S.cells y y1 y2
  rcases two x c e2 with z|z
  ·exact Nat.le_of_lt (GJ x c z)
  ·obtain⟨c',hc⟩:=jS (n:=s.heap.objs.size+1) hm;have e2:(br (s.heap.objs.size+1) scope.names []++cl).lookup x=some c:=e2;rw[List.lookup_append,hc]at e2;cases e2;exact Nat.le_of_lt (GJ x _ (cP hc))
 ·obtain⟨f0,f1,f2,f3,f4,f5⟩:=hf b hb;refine⟨bg (FF b hb),λx c e=>?_⟩;rcases two x c e with z|z
  ·exact λw=>absurd (Nat.lt_trans (GJ x c z) (w▸FF b hb)) (bU _)
  ·exact f4 x c (FK x c z)
 ·obtain⟨f0,f1,f2,f3,f4,f5⟩:=hf b hb;rcases f3 with z|z
  ·exact I.ok.noex b o e z
  ·exact absurd (bG (aS e) (bB I.ok.bsz z)) (bU _)
 ·obtain⟨f0,f1,f2,f3,f4,f5⟩:=hf b hb;rcases aI.mp (I.stkSub b z)with q|q
  ·exact f1 q
  ·exact f2 q
 ·obtain⟨j,c1,c2⟩:=Fo e2;obtain⟨x',n1,n2,n3,n4⟩:=S.cap.2 i j c1;have ex:x'=x:=bT (n1.symm.trans e1);subst ex;obtain⟨m',_,hl⟩:=I.loc;obtain⟨u,r,l⟩:=hl j x' v n2 c2 (n4.elim (λz=>.inr (.inl z)) λz=>.inr (.inr z));refine⟨u,r,.inr ⟨?_,?_⟩⟩
  ·rcases e3 with z|z|z
   ·rcases jQ (env:=X.env) (names:=scope.names) (x:=x') (k:=.local) z with q|q
    ·rw[n3]at q;cases q
    ·cases q.1
   ·exact .inl z
   ·exact .inr z
  ·rcases l with ⟨kk,_⟩|⟨_,c,ec,ic⟩
   ·rcases n4 with z|z
    ·rw[kk]at z;cases z
    ·rw[kk]at z;cases z
   ·obtain⟨c',Lv⟩:=FW (x',.free) (cP n3) rfl;have:=FK x' c' Lv;rw[ec]at this;cases this;obtain⟨o,ho,hd⟩:=ic;exact⟨c,Lu x' c n3 Lv,o,hk _ _ ho,hd⟩
 ·rcases two x c e with z|z
  ·exact⟨_,(HS.empty x c z).1⟩
  ·obtain⟨v,o,ho,hd⟩:=I.cell x c (FK x c z);exact⟨v,o,hk _ _ ho,hd⟩
 ·rcases two x c e with z|z
  ·exact I.hok.fresh (Nat.le_of_lt (GJ x c z))
  ·exact I.freeC x c (FK x c z)
 ·show (caps cap σ).length=NY.length;unfold caps;rw[aV];exact S.cap.1
def kM(cap:List (Option Nat))(wi:TI)(tg:TG)(tt:TT)(tb:Addr->TS):TE:=λσ H Q=>wi σ H λJ H1=>∀acc,H1 acc=none ->
 ∃W:Nat->Nat->St->Hp->Prop,(∃m,W 0 m (caps cap σ) (upd H1 acc (.lst [])))/\∀i m τ H,W i m τ H ->
  (J.stop i H/\(Ends.mk (λ_ H=>Q (.ref acc) H) (λ_ _=>False) (λ_ _=>False) (λ_ _=>False)).nx τ H)\/(J.go i H/\∃N:St->Hp->Prop,(∀σ' H',N σ' H'->∃m',m'<m/\W (i+1) m' σ' H')/\∀x H',J.yld i H x H' ->
   tg x τ H' λσ2 H2=>jw tt (tb acc) jy {(Ends.mk (λ_ H=>Q (.ref acc) H) (λ_ _=>False) (λ_ _=>False) (λ_ _=>False))with nx:=N,ct:=N,bk:=(Ends.mk (λ_ H=>Q (.ref acc) H) (λ_ _=>False) (λ_ _=>False) (λ_ _=>False)).nx} σ2 H2)
structure Loose(X:Cx)(pins:List (Addr×Obj))(C:Addr):Prop where
 loc:C≠X.env.locals
 cell:∀x c,X.env.cells.lookup x=some c->c≠C
 up:X.s₀.heap.objs.size<=C
 pin:∀p∈X.pn++pins,p.1≠C
theorem Loose.turn{X:Cx}{pins:List (Addr×Obj)}{C:Addr}{σ:St}{H:Hp}{s:af}{h':Heap}(L:Loose X pins C)(I:Inv X pins σ H s)(hn:H C=none)(hs:Heap.SameBut C s.heap h'):Inv X pins σ H {s with heap:=h'}:=
 I.turned (t':=s.toks) (it:=C) (λb o hb e=>(hs.2 b hb).trans e) hn L.loc (.inr L.up) L.cell L.pin
section
variable{X:Cx}{elt FL it:Expr}{ifs:List Expr}{gs:List cA}{scope:a8}{pos:Pos}{NY:List Str}{cap:List (Option Nat)}{wi:TI}{tg:TG}{tt:TT}{tb:Addr->TS}
theorem sC{Q:VK}{pins:List (Addr×Obj)}{σ:St}{H:Hp}{s s2:af}{cl:List (Str×Addr)}{HJ:ae}{E:ae->af->Prop}{use:Option (ae->Sem Unit)}{QQ:ae->af->Prop}
  (hc:X.calm=true) (S:el X NY cap scope) (IT:∀g'∈gs,g'.is_async=0)
  (FK:∀x c,cl.lookup x=some c->X.env.cells.lookup x=some c) (FW:∀x∈scope.names,x.2=.free->∃c,cl.lookup x.1=some c)
  (hb:∀cl C s₀ H₀ fp,PG (zJ X NY scope cl C s₀ H₀ fp) FL tg/\PTs (zJ X NY scope cl C s₀ H₀ fp) ifs tt/\∀acc,PB (zJ X NY scope cl C s₀ H₀ fp) (fm elt (⟨FL,it,ifs,0⟩::gs) scope pos 0 (.ref acc) (zJ X NY scope cl C s₀ H₀ fp).env) (tb acc))
  (h2:PIE X pins σ FL (λJ H1=>∀acc,H1 acc=none ->
   ∃W:Nat->Nat->St->Hp->Prop,(∃m,W 0 m (caps cap σ) (upd H1 acc (.lst [])))/\∀i m τ H,W i m τ H ->
    (J.stop i H/\(Ends.mk (λ_ H=>Q (.ref acc) H) (λ_ _=>False) (λ_ _=>False) (λ_ _=>False)).nx τ H)\/(J.go i H/\∃N:St->Hp->Prop,(∀σ' H',N σ' H'->∃m',m'<m/\W (i+1) m' σ' H')/\∀x H',J.yld i H x H' ->
     tg x τ H' λσ2 H2=>jw tt (tb acc) jy {(Ends.mk (λ_ H=>Q (.ref acc) H) (λ_ _=>False) (λ_ _=>False) (λ_ _=>False))with nx:=N,ct:=N,bk:=(Ends.mk (λ_ H=>Q (.ref acc) H) (λ_ _=>False) (λ_ _=>False) (λ_ _=>False)).nx} σ2 H2)) HJ s2)
  (fin:∀(acc C:Addr) (s':af) (m:Str->Option ae) (H':Hp),s'.heap.Ns C m->Loose X pins C->Inv X pins σ H' s'->H' C=none->Q (.ref acc) H'->compPost (ao X.prog X.w) X.A E use QQ (.ref acc) C (.ok .next) s') :
  aq (ao X.prog X.w) X.A (newList []) (λacc s₃=>aq (ao X.prog X.w) X.A (newFunctionEnv scope X.env.globals cl [] X.env.qual none .none (some X.env)) (λIU s₄=>
   codeAny (ao X.prog X.w) X.A (.compStart (.ListComp elt (⟨FL,it,ifs,0⟩::gs) scope pos) 0 HJ acc {IU with scope:=relabel scope X.env}) (compPost (ao X.prog X.w) X.A E use QQ acc IU.locals) s₄) E s₃) E s2:=by
 obtain⟨ia,fp,tn,J,H2,e,I2,T,Hd,f2,q⟩:=h2;subst e;have IV:∀b∈fp,b<s2.heap.objs.size:=λb hb=>by
  obtain⟨o,ho,_⟩:=T.obj _ _ Hd b hb;exact aS ho
 refine wpAny_newObj_type ?_;have FX:H2 s2.heap.objs.size=none:=I2.hok.fresh (aG _);have I3:Inv X pins σ (upd H2 s2.heap.objs.size (.lst [])) {s2 with heap:=s2.heap.push {cls:=.type "list",dict:=none,data:=.seq ([]:List ae).toArray}}:=
  I2.laid (t':=s2.toks) (λb u e=>Heap.get?_push_of_some _ e) (aG _) ⟨bH _,[],0,.nil,Heap.get?_push_size _ rfl⟩
 have KC:(s2.heap.push {cls:=.type "list",dict:=none,data:=.seq ([]:List ae).toArray}).objs.size=s2.heap.objs.size+1:=Heap.size_push ..;generalize Lx:({s2 with heap:=s2.heap.push {cls:=.type "list",dict:=none,data:=.seq ([]:List ae).toArray}}:af)=s3 at I3 ⊢;have hsz:s3.heap.objs.size=s2.heap.objs.size+1:=by rw[<-Lx];exact KC
 have Gg:tn 0 s3.heap:=T.keep _ _ _ Hd λb hb o e=>by rw[<-Lx];exact Heap.get?_push_of_some _ e
 have f3:∀b∈fp,dO X pins (upd H2 s2.heap.objs.size (.lst [])) b:=λb hb=>⟨by rw[qg (bg (IV b hb))];exact(f2 b hb).1,(f2 b hb).2⟩
 have IW:∀b∈fp,b<s3.heap.objs.size:=λb hb=>by rw[hsz];exact de (IV b hb)
 refine EK λh₁ hns₁ HU HS=>?_
 have IY:=uf (tk:=s3.toks) I3 S FK FW f3 IW hns₁ HU HS;have Ly:tn 0 h₁:=T.keep _ _ _ Gg λb hb o e=>HU b o e
 obtain⟨pg,pt,pb⟩:=hb cl s3.heap.objs.size s3 (upd H2 s2.heap.objs.size (.lst [])) fp;have fY:∀b∈fp,dO (zJ X NY scope cl s3.heap.objs.size s3 (upd H2 s2.heap.objs.size (.lst [])) fp) [] (upd H2 s2.heap.objs.size (.lst [])) b:=λb hb=>by
  obtain⟨g0,g1,g2,g3,g4,g5⟩:=f3 b hb;refine⟨g0,bg (IW b hb),λz=>?_,.inl hb,(IY.ok.exf b hb).2,λp hp=>absurd (show p∈([]:List (Addr×Obj))from hp) (by simp)⟩;rcases aI.mp (I3.stkSub b z)with w|w
  ·exact g1 w
  ·exact g2 w
 have L:=xX (elt:=elt) (gens:=⟨FL,it,ifs,0⟩::gs) (scope:=scope) (pos:=pos) (d:=0) (Y:=zJ X NY scope cl s3.heap.objs.size s3 (upd H2 s2.heap.objs.size (.lst [])) fp) (acc:=.ref s2.heap.objs.size) hc (λ_ _ z=>z) rfl rfl
  (λg' hg'=>IT g' (List.mem_of_getElem? (i:=0) (by simpa using hg'))) T pg pt (pb s2.heap.objs.size) IY Ly fY (q s2.heap.objs.size FX)
 refine codeAny_mono (Eo (elt:=elt) (gens:=⟨FL,it,ifs,0⟩::gs) (scope:=scope) (pos:=pos) (d:=0) (env:=compEnvC scope (br (s3.heap.objs.size+1) scope.names []++cl) s3.heap.objs.size X.env) rfl rfl L (T.self _ 0 _ _ _ Ly L)) λr s' ⟨e,τ',H',I',q'⟩=>?_
 subst e;obtain⟨m',IG,_⟩:=id I'.loc;have KD:s3.heap.objs.size≠X.env.locals:=Nat.ne_of_gt I3.lt;have KH:∀x c,X.env.cells.lookup x=some c->c≠s3.heap.objs.size:=λx c e z=>by
  obtain⟨v,qv⟩:=I3.cell x c e;exact absurd qv.lt (by rw[z];exact bU _)
 have J1:Inv X pins σ H' s':=by
  refine I3.call' (ch:=fp) I'.os I'.base I'.hok I'.bare λb hb=>?_
  obtain⟨g0,g1,g2,g3,g4,g5⟩:=f3 b hb;exact⟨g3,g1,g4,g5⟩
 refine fin s2.heap.objs.size s3.heap.objs.size s' m' H' IG ⟨KD,KH,I3.sz,λp hp z=>?_⟩ J1 I'.free q';have:=aS (I3.pin p hp).1;rw[z]at this;exact bU _ this
theorem Af(hc:X.calm=true)(S:el X NY cap scope)(hi:PI X FL it wi)
  (hb:∀cl C s₀ H₀ fp,PG (zJ X NY scope cl C s₀ H₀ fp) FL tg/\PTs (zJ X NY scope cl C s₀ H₀ fp) ifs tt/\∀acc,PB (zJ X NY scope cl C s₀ H₀ fp) (fm elt (⟨FL,it,ifs,0⟩::gs) scope pos 0 (.ref acc) (zJ X NY scope cl C s₀ H₀ fp).env) (tb acc))
  (IT:∀g'∈gs,g'.is_async=0)
  (hs:∀x,foldedSetIterable it X.env x=pure x):PE X (.ListComp elt (⟨FL,it,ifs,0⟩::gs) scope pos) (kM cap wi tg tt tb):=by
 intro pins s σ H Q I h;obtain⟨cl,HV,FK,FW⟩:=rV (env:=X.env) (scope:=scope) λx hx hf=>I.ok.has x.1 (S.free x hx hf)
 rw[eval_ListComp];refine wpAny_comprehension_free (use:=none) rfl hs HV S.kind S.names (thn (hi pins s σ H _ I h) λv s1 h1=>thn h1 λHJ s2 h2=>?_);exact sC (s:=s) (H:=H) (use:=none) hc S IT FK FW hb h2 λacc C s' m H' hn L I' hC q=>⟨m,hn,λh' FY=>⟨.ref acc,H',L.turn I' hC FY,rfl,q⟩⟩
theorem xV{i:Nat}{x:Str}{pos' spos:Pos}(hN:X.N.Nodup)(JC:X.N[i]? = some x)(hx:Loc X.env.scope x)(hc:X.calm=true)(S:el X NY cap scope)(hi:PI X FL it wi)
  (hb:∀cl C s₀ H₀ fp,PG (zJ X NY scope cl C s₀ H₀ fp) FL tg/\PTs (zJ X NY scope cl C s₀ H₀ fp) ifs tt/\∀acc,PB (zJ X NY scope cl C s₀ H₀ fp) (fm elt (⟨FL,it,ifs,0⟩::gs) scope pos 0 (.ref acc) (zJ X NY scope cl C s₀ H₀ fp).env) (tb acc))
  (IT:∀g'∈gs,g'.is_async=0)
  (Ml:swapsWith (.ListComp elt (⟨FL,it,ifs,0⟩::gs) scope pos) (some (.Name x pos')) spos.line X.env=pure true)
  (hf:X.fn x=true\/X.env.scope.names.lookup x=some .local)
  (hs:∀x,foldedSetIterable it X.env x=pure x) :
  PS X (.Assign [.Name x pos'] (.ListComp elt (⟨FL,it,ifs,0⟩::gs) scope pos) spos) (jV (kM cap wi tg tt tb) (fN i)):=by
 intro pins s σ H D I h;obtain⟨cl,HV,FK,FW⟩:=rV (env:=X.env) (scope:=scope) λx hx hf=>I.ok.has x.1 (S.free x hx hf)
 rw[exec_Assign_Name_used _ _ _ _ Ml];refine au (wpAny_standAt (au ?_));show aq _ _ (do let _ <-comprehension (.ListComp elt (⟨FL,it,ifs,0⟩::gs) scope pos) scope X.env _ (newList []) false (eval it X.env) (some (assign (.Name x pos') X.env))) _ _ s;refine au (bM (wpAny_comprehension_free (use:=some (assign (.Name x pos') X.env)) (Q:=λ_ s'=>SP X pins D .next s') rfl hs HV S.kind S.names (thn (hi pins s σ H _ I h) λv s1 h1=>thn h1 λHJ s2 h2=>?_)) (λ_ s' q=>aK (aK q)) λ_ _ e=>e);refine sC (s:=s) (H:=H) (Q:=λx H1=>fN i x σ H1 D.nx) (use:=some (assign (.Name x pos') X.env)) hc S IT FK FW hb h2 λacc C s' m H' hn L I1 hC q1=>?_
 show aq _ _ (assign (.Name x pos') X.env (.ref acc)) _ _ _;refine wpAny_assign_Name (nE (v:=.ref acc) I1 hN JC hx rfl (λs3 I3 ⟨a,Iu,ha⟩=>?_) hf);have Mm:C≠a:=by
  rcases ha with z|z
  ·rw[z];exact L.loc
  ·exact Ne.symm (L.cell x a z)
 exact⟨m,hn.sameBut Iu Mm,λh' HW=>⟨_,H',L.turn I3 hC HW,q1⟩⟩
end
theorem zq.there{P:aF}{w:aD}{H:Hp}{h:Heap}{a:Addr}{o:HO}(x:zq P w H h a o):∃u,h.get? a=some u:=by
 cases o with
 |lst xs=>obtain⟨_,_,_,_,e⟩:=x;exact⟨_,e⟩
 |tup xs=>obtain⟨_,_,_,o,e,_⟩:=x;exact⟨_,e⟩
 |dK kvs=>obtain⟨_,_,_,_,o,_,_,e,_⟩:=x;exact⟨_,e⟩
 |dT kvs=>obtain⟨_,_,_,_,o,_,_,e,_⟩:=x;exact⟨_,e⟩
 |set S n=>obtain⟨o,_,_,_,e,_⟩:=x;exact⟨_,e⟩
 |ins C dx fs=>obtain⟨_,_,_,e,_⟩:=x;exact⟨_,e⟩
 |own y=>obtain⟨_,e⟩:=x;exact⟨_,e⟩
 |xd fs=>obtain⟨_,⟨_,_,_,e,_⟩,_⟩:=x;exact⟨_,e⟩
 |rng lo hi=>obtain⟨_,_,_,e⟩:=x;exact⟨_,e⟩
 |frz ob u=>obtain⟨e,_⟩:=x;exact⟨_,e⟩
 |tbl ps=>exact⟨_,(show h.get? a=some _ from x)⟩
 |met f y=>exact⟨_,(show h.get? a=some _ from x)⟩
 |ext φ=>obtain⟨_,e,_⟩:=x;exact e
theorem HOk.free_of{P:aF}{w:aD}{H:Hp}{h:Heap}{a:Addr}(x:HOk P w H h)(e:h.get? a=none):H a=none:=by
 cases q:H a with
 |none=>rfl
 |some o=>obtain⟨u,z⟩:=(x a o q).there;rw[e]at z;cases z
structure Apart(X:Cx)(pins:List (Addr×Obj))(H:Hp)(b:Addr):Prop where
 new:X.s₀.heap.get? b=none
 free:H b=none
 pin:∀p∈X.pn++pins,p.1≠b
structure cx(X:Cx)(pins:List (Addr×Obj))(H:Hp)(h:Heap)(x:Addr)(cls:ae):Prop where
 me:Apart X pins H x
 tr:∃oe vs T oT ts a0,h.get? x=some oe/\oe.cls=cls/\vs[0]? = some a0/\oe.data=.fields vs/\vs[1]? = some (.ref T)/\T≠x/\h.get? T=some oT/\oT.data=.fields ts/\ts[3]? = some .none/\Apart X pins H T
structure Fly(h₀ h:Heap)(H:Hp)(x:Addr)(cls:ae):Prop where
 new:h₀.get? x=none
 free:H x=none
 tr:∃oe vs T oT ts a0,h.get? x=some oe/\oe.cls=cls/\vs[0]? = some a0/\oe.data=.fields vs/\vs[1]? = some (.ref T)/\T≠x/\h.get? T=some oT/\oT.data=.fields ts/\ts[3]? = some .none/\h₀.get? T=none/\H T=none
def CX1(P:aF)(w:aD):CXT:=λouter H s E e s'=>
 ∃x cls H',e=.ref x/\s'.os=s.os/\AllBare s'.gens/\Un (frs outer) [] H H' s.heap s'.heap/\HOk P w H' s'.heap/\Fly s.heap s'.heap H' x cls/\E cls none H'
section
variable{X:Cx}{pins:List (Addr×Obj)}{σ:St}{H:Hp}{s:af}{x T:Addr}{cls:ae}
theorem Inv.stepN{h':Heap}{t':Nat}{ch:List Addr}(I:Inv X pins σ H s)(hex:X.ex=[])(Gp:∀b∈ch,Apart X pins H b/\b≠X.env.locals/\(∀x c,X.env.cells.lookup x=some c->c≠b)/\b∉X.fs)
  (keep:∀b o,b∉frs X.stack->b≠X.env.locals->b∉X.fs->b∉ch->s.heap.get? b=some o->h'.get? b=some o)
  (slot:∀b o,(b∈frs X.stack\/b=X.env.locals\/b∈X.fs)->s.heap.get? b=some o->∃sl,h'.get? b=some {o with slots:=sl}) (there:∀b o,b∉ch->s.heap.get? b=some o->∃o',h'.get? b=some o') :
  Inv X pins σ H {s with heap:=h',toks:=t'}:=by
 have sub:∀b,b∈frs X.stack->b=X.env.locals\/b∈X.fs:=λb hb=>aI.mp (I.stkSub b hb)
 have GB:∀b o,b≠X.env.locals->b∉X.fs->b∉ch->s.heap.get? b=some o->h'.get? b=some o:=λb o h1 h2 h3 e=>keep b o (λz=>(sub b z).elim h1 h2) h1 h2 h3 e
 have Jw:∀b o,X.s₀.heap.get? b=some o->b≠X.env.locals:=λb o e=>bg (bG (aS e) I.ok.above)
 have HH:∀b o,X.s₀.heap.get? b=some o->b∉ch:=λb o e hb=>by
  have:=(Gp b hb).1.new;rw[e]at this;cases this
 have cellK:∀x c,X.env.cells.lookup x=some c->∀v,s.heap.IsCell c v->h'.IsCell c v:=λx c e v ⟨o,ho,hd⟩=>by
  have Gf:c∉ch:=λz=>(Gp c z).2.2.1 x c e rfl
  by_cases hc:c∈X.fs
  ·obtain⟨sl,q⟩:=slot c o (.inr (.inr hc)) ho;exact⟨_,q,hd⟩
  ·exact⟨o,GB c o (I.cne x c e) hc Gf ho,hd⟩
 have GL:∀b,b∉X.ex:=λb=>by rw[hex];simp
 refine⟨I.ok,I.os,I.bare,⟨λb o e n hb hx=>?_,λb o e n hb hx=>?_,I.base.free,λb o e hx=>?_,I.base.tups,I.base.frzs,I.base.tbls⟩,?_,λx c e=>?_,I.free,I.freeC,λp hp=>?_,λb u e=>?_,I.len⟩
 ·exact GB b o (Jw b o e) hb (HH b o e) (I.base.keep b o e n hb hx)
 ·obtain⟨sl,e1⟩:=I.base.slot b o e n hb hx;obtain⟨Jx,e2⟩:=slot b _ (.inr (.inr hb)) e1;exact⟨Jx,e2⟩
 ·obtain⟨o',e1⟩:=I.base.there b o e hx;exact there b o' (HH b o e) e1
 ·obtain⟨m,hn,hl⟩:=I.loc;obtain⟨oL,es,ep,Ga,Mn,r⟩:=id hn;obtain⟨sl,eL⟩:=slot _ _ (.inr (.inl rfl)) Ga;refine⟨m,⟨_,es,ep,eL,Mn,r⟩,λi x v e1 e2 e3=>?_⟩;obtain⟨u,ru,l⟩:=hl i x v e1 e2 e3;refine⟨u,ru,?_⟩;rcases l with l|⟨k,c,e,z⟩
  ·exact .inl l
  ·exact .inr ⟨k,c,e,cellK x c e _ z⟩
 ·obtain⟨v,z⟩:=I.cell x c e;exact⟨v,cellK x c e v z⟩
 ·obtain⟨e,n,ne,nf,d⟩:=I.pin p hp;exact⟨GB p.1 p.2 ne nf (λz=>(Gp p.1 z).1.pin p hp rfl) e,n,ne,nf,d⟩
 ·have Mo:∀b,(∃u,H b=some u)->b≠X.env.locals/\b∉X.fs/\b∉ch:=λb ⟨u,e⟩=>by
   refine⟨λz=>?_,λz=>?_,λz=>?_⟩
   ·rw[z,I.free]at e;cases e
   ·obtain⟨_,o,ho,_⟩:=I.ok.funs.mem z;have:=I.base.free b o ho (I.ok.frf b z) (GL b);rw[e]at this;cases this
   ·have:=(Gp b z).1.free;rw[e]at this;cases this
  refine(I.hok b u e).stay (λc v hc q=>?_) (λ_ q=>q) λ_ _ q=>q
  have Hc:∃u,H c=some u:=by
   rcases hc with z|z
   ·exact⟨u,by rw[z];exact e⟩
   ·exact⟨_,z⟩
  obtain⟨n1,n2,n3⟩:=Mo c Hc;exact GB c v n1 n2 n3 q
theorem Inv.rec_ne(I:Inv X pins σ H s){b:Addr}{o:Obj}{vs:Array ae}(e:s.heap.get? b=some o)(d:o.data=.fields vs):b≠X.env.locals/\(∀x c,X.env.cells.lookup x=some c->c≠b)/\b∉X.fs/\b∉frs X.stack:=by
 have h1:b≠X.env.locals:=λz=>by
  obtain⟨m,⟨o',es,ep,ho,hd,_⟩,_⟩:=I.loc;rw[<-z,e]at ho;cases ho;rw[d]at hd;cases hd
 have h3:b∉X.fs:=λz=>by
  obtain⟨_,o',ho,hn⟩:=I.funs.mem z;rw[e]at ho;cases ho;exact hn vs d
 refine⟨h1,λx c ec z=>?_,h3,λz=>(aI.mp (I.stkSub b z)).elim h1 h3⟩;obtain⟨v,o',ho,hd⟩:=I.cell x c ec;rw[z,e]at ho;cases ho;rw[d]at hd;cases hd
theorem cx.flying(I:Inv X pins σ H s)(F:cx X pins H s.heap x cls):∃T oT ts a0,Heap.FlyingW (PySem.W.hideAll s.heap (x::T::frs X.stack)) X.stack x cls a0 s.heap/\s.heap.get? T=some oT/\oT.data=.fields ts/\Apart X pins H T:=by
 obtain⟨oe,vs,T,oT,ts,a0,e1,e2,e3,e4,e5,e6,e7,e8,e9,HX⟩:=F.tr;refine⟨T,oT,ts,a0,⟨λb o q=>PySem.W.of_hideAll _ q,PySem.W.hideAll_none _ aM,?_,oe,vs,T,oT,ts,e1,⟨e2,e3⟩,e4,e5,PySem.W.hideAll_none _ (aR _ aM),e6,e7,e8,e9⟩,e7,e8,HX⟩;exact PySem.W.funFrames_hide I.stack λenv he a ha=>aR _ (aR _ (List.mem_filterMap.mpr ⟨env,he,ha⟩))
theorem cx.back(I:Inv X pins σ H s)(hex:X.ex=[])(me:Apart X pins H x){ox:Obj}{vs:Array ae}(hx:s.heap.get? x=some ox)(Mp:ox.data=.fields vs){oT:Obj}{ts:Array ae}(hT:s.heap.get? T=some oT)(HY:oT.data=.fields ts)(aT:Apart X pins H T)
  {l:List Env}{a0:ae}{h':Heap} (W:Heap.FlyingW (PySem.W.hideAll s.heap (x::T::frs X.stack)) l x cls a0 h') (u:s.heap.UpToSlots h') :
  Inv X pins σ H {s with heap:=h'}/\cx X pins H h' x cls:=by
 obtain⟨w1,w2,w3,IX,Iv,T',oT',HZ,f1,⟨f2,f3⟩,f4,f5,f6,f7,f8,f9,HA⟩:=W;obtain⟨Mq,Mr,Ms,Od⟩:=I.rec_ne hx Mp;obtain⟨Mt,Mu,Mv,Oe⟩:=I.rec_ne hT HY;have JD:∀b o,(b∈frs X.stack\/b=X.env.locals\/b∈X.fs)->s.heap.get? b=some o->∀ws,o.data≠.fields ws:=λb o hb e ws d=>by
  obtain⟨n1,n2,n3,n4⟩:=I.rec_ne e d;rcases hb with z|z|z
  ·exact n4 z
  ·exact n1 z
  ·exact n3 z
 have Gf:∀b,b∉[x,T]->b∉frs X.stack->b∉(x::T::frs X.stack):=λb h1 h2 h3=>by
  rcases aI.mp h3 with z|h3
  ·exact h1 (by simp[z])
  ·rcases aI.mp h3 with z|h3
   ·exact h1 (by simp[z])
   ·exact h2 h3
 refine⟨?_,me,IX,Iv,T',oT',HZ,a0,f1,f2,f3,f4,f5,f7,f8,f9,HA,?_⟩
 ·refine I.stepN (t':=s.toks) (ch:=[x,T]) hex (λb hb=>?_) (λb o h1 h2 h3 h4 e=>w1 b o (d_ _ e (Gf b h4 h1))) (λb o hb e=>u b o e (JD b o hb e)) λb o h4 e=>?_
  ·rcases aI.mp hb with z|hb
   ·subst z;exact⟨me,Mq,Mr,Ms⟩
   ·have z:b=T:=by simpa using hb
    subst z;exact⟨aT,Mt,Mu,Mv⟩
  ·by_cases hb:b∈frs X.stack
   ·obtain⟨sl,q⟩:=u b o e (JD b o (.inl hb) e);exact⟨_,q⟩
   ·exact⟨o,w1 b o (d_ _ e (Gf b h4 hb))⟩
 ·by_cases Lz:T'=T
  ·rw[Lz];exact aT
  ·by_cases Iw:T'∈frs X.stack
   ·obtain⟨_,o,ho,hn⟩:=I.stack.mem Iw;obtain⟨sl,q⟩:=u T' o ho hn;rw[q]at f8;have z:({o with slots:=sl}:Obj)=oT':=bT f8;subst z;exact absurd f9 (hn HZ)
   ·have FR:s.heap.get? T'=none:=by
     cases q:s.heap.get? T' with
     |none=>rfl
     |some o=>
      have:(PySem.W.hideAll s.heap (x::T::frs X.stack)).get? T'=some o:=d_ _ q (Gf T' (by simp[f7,Lz]) Iw);rw[f6]at this;cases this
    refine⟨?_,I.hok.free_of FR,λp hp z=>?_⟩
    ·cases q:X.s₀.heap.get? T' with
     |none=>rfl
     |some o=>
      obtain⟨o',e'⟩:=I.base.there T' o q (by rw[hex];simp);rw[FR]at e';cases e'
    ·have:=(I.pin p hp).1;rw[z,FR]at this;cases this
theorem jF{P:aF}{w:aD}(hP:X.prog=P)(hw:X.w=w)(I:Inv X pins σ H s)(hex:X.ex=[]){E:XK}{e:ae}{s':af}(h:CX1 P w X.stack H s E e s') :
  ∃x cls H',e=.ref x/\Inv X pins σ H' s'/\cx X pins H' s'.heap x cls/\E cls none H':=by
 subst hP hw;obtain⟨x,cls,H',rfl,os,bare,un,hok,F,q⟩:=h;have ap:∀b,s.heap.get? b=none->H' b=none->Apart X pins H' b:=λb h1 h2=>by
  refine⟨?_,h2,λp hp z=>?_⟩
  ·cases q:X.s₀.heap.get? b with
   |none=>rfl
   |some o=>
    obtain⟨o',e'⟩:=I.base.there b o q (by rw[hex];simp);rw[h1]at e';cases e'
  ·have:=(I.pin p hp).1;rw[z,h1]at this;cases this
 obtain⟨oe,vs,T,oT,ts,a0,e1,e2,e3,e4,e5,e6,e7,e8,e9,HX,Mw⟩:=F.tr;exact⟨x,cls,H',rfl,I.call' (ch:=[]) os un hok bare (λb z=>absurd z (by simp)),⟨ap x F.new F.free,oe,vs,T,oT,ts,a0,e1,e2,e3,e4,e5,e6,e7,e8,e9,ap T HX Mw⟩,q⟩
theorem cx.leaves(I:Inv X pins σ H s)(hex:X.ex=[]){env:Env}{outer:List Env}(FI:X.stack=X.env::X.outer)(G3:X.env.frame=some X.env.locals)(F:cx X pins H s.heap x cls){E:XK}(q:E cls none H)
  {EE:ae->af->Prop}:aq (ao X.prog X.w) X.A (leaving X.env (.ref x)) (λ_ s''=>CX1 X.prog X.w X.outer X.H₀ X.s₀ E (.ref x) s'') EE s:=by
 obtain⟨oe,vs,_,_,_,_,e1,_,_,e4,_⟩:=id F.tr;obtain⟨T,oT,ts,a0,W,hT,HY,aT⟩:=cx.flying I F;have F0:=I.ok.frames;rw[FI]at F0 W;refine wpAny_leaves_onW F0 G3 W λh' W' u=>?_
 rw[<-FI]at W';obtain⟨I',F'⟩:=cx.back I hex F.me e1 e4 hT HY aT W' u;obtain⟨IX,Iv,T',oT',HZ,Mx,f1,f2,f3,f4,f5,f6,f7,f8,f9,HA⟩:=F'.tr;have hb:=I'.base;rw[hex]at hb;exact⟨x,cls,H,rfl,I'.os,I'.bare,hb,I'.hok,⟨F'.me.new,F'.me.free,IX,Iv,T',oT',HZ,Mx,f1,f2,f3,f4,f5,f6,f7,f8,f9,HA.new,HA.free⟩,q⟩
end
section
variable{P:aF}{w:aD}{K:aB}{mg:Str->Option ae}{base:Heap}{N:List Str}{qual:Str}{scope:a8}{f:Addr}{cd:ae}{A:aE}{outer:List Env}{s₀:af}{H₀:Hp}{E:XK}
theorem AA:Passes (CX1 P w) (eC (CX1 P w) P w K mg base N qual scope f cd A outer s₀ H₀ E) E:=by
 intro pins σ H s e s' I h;obtain⟨x,cls,H',rfl,I',F,q⟩:=jF rfl rfl I rfl h;exact cx.leaves (env:=(eC (CX1 P w) P w K mg base N qual scope f cd A outer s₀ H₀ E).env) (outer:=outer) I' rfl rfl rfl F q
theorem lZ{X:Cx}(hP:X.prog=P)(hw:X.w=w):Passes (CX1 P w) X E0:=by
 intro pins σ H s e s' I h;obtain⟨x,cls,H',rfl,_,_,_,_,_,q⟩:=h;exact q.elim
def Throws(X:Cx)(E:XK):Prop:=∀(pins:List (Addr×Obj)) (σ:St) (H:Hp) (s:af) (h':Heap) (e:Addr) (cls:ae) (args:List ae),Inv X pins σ H s->Heap.MadeExcOf s.heap h' e cls args->E cls none H->X.xe (.ref e) {s with heap:=h'}
theorem wX:Throws (eC (CX1 P w) P w K mg base N qual scope f cd A outer s₀ H₀ E) E:=by
 intro pins σ H s h' e cls args I M q;generalize hX:eC (CX1 P w) P w K mg base N qual scope f cd A outer s₀ H₀ E=X at I;have hex:X.ex=[]:=by rw[<-hX];rfl
 have FI:X.stack=X.env::X.outer:=by rw[<-hX];rfl
 have G3:X.env.frame=some X.env.locals:=by rw[<-hX];rfl
 have My:X.xe=λe s'=>aq (ao X.prog X.w) X.A (leaving X.env e) (λ_ s''=>CX1 X.prog X.w X.outer X.H₀ X.s₀ E e s'') (λe' s''=>CX1 X.prog X.w X.outer X.H₀ X.s₀ E e' s'') s':=by rw[<-hX];rfl
 rw[My];have F0:=I.ok.frames;have IZ:=I.stack;have hB:(PySem.W.hideAll s.heap (frs X.stack)).StaysIn s.heap:=λb o q=>PySem.W.of_hideAll _ q
 have hF:=PySem.W.funFrames_hide (as:=frs X.stack) IZ λenv he a ha=>List.mem_filterMap.mpr ⟨env,he,ha⟩
 rw[FI]at F0;have Mz:s.heap.FunFrames (PySem.W.hideAll s.heap (frs X.stack)) (X.env::X.outer):=by rw[<-FI];exact hF
 refine wpAny_leaves_madeW (s:={s with heap:=h'}) F0 G3 hB Mz M λJE t W ht ht0 u=>?_
 obtain⟨w1,w2,w3,IX,Iv,T',oT',HZ,f1,⟨f2,f3⟩,f4,f5,f6,f7,f8,f9,HA⟩:=W;have JD:∀b o,(b∈frs X.stack\/b=X.env.locals\/b∈X.fs)->s.heap.get? b=some o->∀ws,o.data≠.fields ws:=λb o hb e ws d=>by
  obtain⟨n1,n2,n3,n4⟩:=I.rec_ne e d;rcases hb with z|z|z
  ·exact n4 z
  ·exact n1 z
  ·exact n3 z
 have slot:∀b o,(b∈frs X.stack\/b=X.env.locals\/b∈X.fs)->s.heap.get? b=some o->∃sl,JE.get? b=some {o with slots:=sl}:=λb o hb e=>u b o (M.keeps b o e) (JD b o hb e)
 have I':Inv X pins σ H {s with heap:=JE}:=I.stepN (t':=s.toks) (ch:=[]) hex (λb hb=>absurd hb (by simp)) (λb o h1 _ _ _ e=>w1 b o (d_ _ e h1)) slot λb o _ e=>by
  by_cases hb:b∈frs X.stack
  ·obtain⟨sl,q⟩:=slot b o (.inl hb) e;exact⟨_,q⟩
  ·exact⟨o,w1 b o (d_ _ e hb)⟩
 have ap:∀b,s.heap.get? b=none->X.s₀.heap.get? b=none/\H b=none:=λb h1=>by
  refine⟨?_,I.hok.free_of h1⟩;cases q:X.s₀.heap.get? b with
  |none=>rfl
  |some o=>
   obtain⟨o',e'⟩:=I.base.there b o q (by rw[hex];simp);rw[h1]at e';cases e'
 have hT:s.heap.get? T'=none:=by
  by_cases Iw:T'∈frs X.stack
  ·obtain⟨_,o,ho,hn⟩:=IZ.mem Iw;obtain⟨sl,q⟩:=slot T' o (.inl Iw) ho;rw[q]at f8;have z:({o with slots:=sl}:Obj)=oT':=bT f8;subst z;exact absurd f9 (hn HZ)
  ·cases q:s.heap.get? T' with
   |none=>rfl
   |some o=>
    have:(PySem.W.hideAll s.heap (frs X.stack)).get? T'=some o:=d_ _ q Iw;rw[f6]at this;cases this
 have hb:=I'.base;rw[hex]at hb;exact⟨e,cls,H,rfl,I'.os,I'.bare,hb,I'.hok,⟨(ap e M.new).1,(ap e M.new).2,IX,Iv,T',oT',HZ,.ref t,f1,f2,f3,f4,f5,f7,f8,f9,HA,(ap T' hT).1,(ap T' hT).2⟩,q⟩
end
abbrev iu:List Value:=[.type "ValueError",.type "Exception",.type "BaseException",.type "object"]
def mF(K:aB)(C:Addr):Prop:=PySem.W.excIn K C iu "ValueError.__new__" = true
theorem Cv{K:aB}{h:Heap}{C:Addr}{LA:List ae}{newId:String}(Z:K.In h)(q:PySem.W.excIn K C LA newId=true) :
  ∃bm N nm qn bs hdct sn sub ab col dd k0 k1 k2 k3 k5 mN,h.get? C=some (excClassObj nm qn C N bs bm hdct sn sub ab col dd k0 k1 k2 k3 k5 newId)/\h.Ns N mN/\mN "__init__" = none/\OwnTail h LA bm:=by
 unfold PySem.W.excIn at q;split at q
 ·rename_i dict cdat slots look
  split at q
  ·rename_i C2 MA j0 j1 j2 j3 nid j5 I0 hslots
   simp only[aW,beq_iff_eq,bL]at q;obtain⟨⟨⟨⟨⟨rfl,rfl⟩,HB⟩,tl⟩,H_⟩,G4⟩:=q;obtain⟨c1,c2,c3,c4,c5,c6,c7,c8,c9,MC,Of⟩:=cdat;dsimp only at I0 HB H_ G4;subst I0 HB;have I_:slots = #[j0,j1,j2,j3,some (.builtin nid),j5]:=by
    obtain⟨sl⟩:=slots;simp only at hslots;rw[hslots]
   subst I_;exact⟨MA,c4,c1,c5,c2,c6,c7,c8,c9,MC,dict,j0,j1,j2,j3,j5,_,Z _ _ look,.of_isNs (PySem.W.isNs_of_in Z H_),PySem.W.nsMap_none_of_in Z H_ G4,PySem.W.tail_of_in Z tl⟩
  ·cases q
 ·cases q
section
variable{X:Cx}{C:Addr}{x:Str}{E:XK}{t:TA}{e:Expr}{es:List Expr}{np cpos pos:Pos}
def AJ(C:Addr)(E:XK)(t:TA):TS:=λ_ σ H=>t σ H λvs H1=>vs.length<=aO/\E (.ref C) none H1
theorem yF(hc:X.calm=true)(hT:Throws X E)(hC:mF X.K C)(hg:Gl X x)(hm:X.mg x=some (.ref C))(ha:PA X (e::es) t)(hd:(x==("__debug__" : Str))=false)
  (he:aX (e::es) X.env=(false,eval e X.env)::aX es X.env) (He:(backTo cpos (aX es X.env)).any (·.1)=false) :
  PS X (.Raise (some (.Call (.Name x np) (e::es) [] cpos)) none pos) (AJ C E t):=by
 intro pins s σ H D I h;obtain⟨bm,N,nm,q,bs,hdct,sn,sub,ab,col,dd,k0,k1,k2,k3,k5,mN,hO,hN,KI,T⟩:=Cv I.mod.kin hC;refine wpAny_Raise_call_subT (C:=C) (nm:=nm) (q:=q) (N:=N) (bs:=bs) (bm:=bm) (hdct:=hdct) (sn:=sn) (sub:=sub) (ab:=ab) (col:=col) (dd:=dd) (k0:=k0) (k1:=k1) (k2:=k2) (k3:=k3) (k5:=k5)
  PySem.F.excBase_ValueError (mN:=mN) (T.hasType PySem.F.excBase_ValueError.hasBase) (I.ok.hd hc) ?_ KI (ij I hg hm ⟨rfl,?_⟩ hd)
 ·rw[he];show (false||(backTo cpos (aX es X.env)).any (·.1))=false;rw[He];rfl
 ·have JB:=ha cpos pins s σ H _ I h;rw[he]at JB ⊢;exact Calls.evalArgs_plain (thn JB λus s1 ⟨vs,H1,I1,r,z,q⟩=>⟨rfl,by rw[<-r.length];exact z,I1.bk _ _ hO,hN.keeps I1.bk,T.keeps I1.bk,λh' e' M=>hT pins σ H1 s1 h' e' _ _ I1 M q⟩)
end
structure fb(k:Nat)(A:aE):Prop where
 dp:A.depth+3 * k+5<recursionLimit
 un:A.units+16 * k+200<cLine
theorem cC.u{k:Nat}{A:aE}(r:cC k A):fb k A:=⟨r.dp,r.un⟩
theorem cC.mark{k:Nat}{A:aE}(r:cC k A)(v:Option ae):fb k (A.mark v):=⟨r.dp,r.un⟩
theorem fb.deeper{k:Nat}{A:aE}(r:fb (k+1) A)(env:Env):fb k (A.deeper env):=
 ⟨by have:=r.dp;show A.depth+1+3 * k+5<_;lia,by have:=r.un;show A.units+3+16 * k+200<_;lia⟩
structure i_(P:aF)(w:aD)(K:aB)(mg:Str->Option ae)(base:Heap)(CX:CXT)(k:Nat)(f:Addr)(fd:bN)(ps:List Str)(sp:Sp):Prop where
 len:∀vs H Q E,sp vs H Q E->vs.length=ps.length
 run:∀(A:aE) (outer:List Env) (s:af) (H:Hp) (args:Args) (us:List ae) (vs:List V) (Q:VK) (E:XK),fb k A->gz P w K mg base A outer s H->BindsTo s fd args (ps.zip us)->Vals vs us->sp vs H Q E ->
  codeAny (ao P w) A (.call (.ref f) args) (CR CX outer P w H s Q E) s
section
variable{CX:CXT}{P:aF}{w:aD}{K:aB}{mg:Str->Option ae}{base:Heap}{k:Nat}{f:Addr}{fd:bN}{ps:List Str}{sp:Sp}
abbrev fV(CX:CXT)(P:aF)(w:aD)(K:aB)(mg:Str->Option ae)(base:Heap)(N:List Str)(qual:Str)(scope:a8)(f:Addr)(cd:ae)(A:aE)(outer:List Env)(s:af)(H:Hp)(E:XK):Cx:=
 {eC CX P w K mg base N qual scope f cd A outer s H E with calm:=false}
theorem vG{N:List Str}{qual:Str}{scope:a8}{cd:ae}{A:aE}{outer:List Env}{s s1:af}{H:Hp}{E:XK}{us:List ae}{vs:List V}
  (S:gr N ps scope) (e0:gz P w K mg base A outer s H) (hl:vs.length=ps.length) (r:Vals vs us)
  (x:InCallC s s.heap.objs.size (bindL (envOfC qual scope s.heap.objs.size f cd).kindOf (ps.zip us) λ_=>none) (br (s.heap.objs.size+1) scope.names []) (bindC (envOfC qual scope s.heap.objs.size f cd).kindOf (ps.zip us) λ_=>none) s1) :
  Inv (fV CX P w K mg base N qual scope f cd A outer s H E) [] (start N vs) H s1:=by
 have e1:gz P w K mg base {A with handled:=none} outer s H:=⟨e0.frames,e0.mod,e0.bs,e0.bsz,e0.funs,e0.frf,e0.hok,e0.bare⟩
 have I:=sR (CX:=CX) (E:=E) (qual:=qual) (A:={A with handled:=none}) (cd:=cd) (f:=f) S rfl e1 hl r x;exact⟨⟨I.ok.mod,I.ok.kind,I.ok.glob,I.ok.blt,I.ok.above,I.ok.inj,I.ok.has,I.ok.cab,λz=>absurd z bO,aE.frames_deeper e0.frames,I.ok.stk,I.ok.exf,I.ok.bs,I.ok.bsz,I.ok.noex,I.ok.exfs,I.ok.funs,I.ok.frf⟩,
  I.os,I.bare,I.base,I.loc,I.cell,I.free,I.freeC,I.pin,I.hok,I.len⟩
theorem wt{name qual:Str}{params:Arguments}{body:List Stmt}{scope:a8}{dV kV doc pm cdv ct oc:ae}{an od:Option Addr}
  {osl:Array (Option ae)}{N:List Str} (lk:K.lookup f=some ⟨oc,od,.func (cm name qual params body scope dV kV doc pm an cdv ct),osl⟩) (Gq:PySem.W.codeIn K cdv qual=true) (S:gr N ps scope)
  (len:∀vs H Q E,sp vs H Q E->vs.length=ps.length)
  (FV:∀(A:aE) (outer:List Env) (s:af) (H:Hp) (vs:List V) (Q:VK) (E:XK),fb k (A.deeper (envOfC qual scope s.heap.objs.size f cdv))->sp vs H Q E ->
   ∃t,PSs (fV CX P w K mg base N qual scope f cdv A outer s H E) body t/\t {nx:=λ_ H'=>Q .non H',rt:=Q} (start N vs) H) :
  i_ P w K mg base CX (k+1) f (cm name qual params body scope dV kV doc pm an cdv ct) ps sp:=by
 refine⟨len,λA outer s H args us vs Q E hr e0 hb r Gu=>?_⟩;have hl:=len _ _ _ _ Gu;have KX:K.In s.heap:=e0.mod.kin.keeps λb o e=>(e0.bs b o e).1
 have lim:s.heap.NoLimit:=e0.mod.nolimit.keeps λb o e=>(e0.bs b o e).1
 have G1:∀y∈ps.zip us,scope.names.lookup y.1=some .local\/(scope.names.lookup y.1=some .cell/\((br (s.heap.objs.size+1) scope.names []).lookup y.1).isSome=true):=λ⟨n,v⟩ hy=>by
  rcases S.par n (List.of_mem_zip hy).1 with q|q
  ·exact .inl q
  ·exact .inr ⟨q,PySem.W.cellsFrom_some _ _ _ (.inl q)⟩
 refine codeAny_call_function (by have:=hr.dp;lia) (KX _ _ lk) rfl S.co S.gen rfl (PySem.W.codeRec_of KX Gq) (hb _ _ _ _ ?_);refine wpAny_newFunctionEnv_cells S.kind G1 λenv he s1 x=>?_
 subst he;refine⟨lim.keeps x.toInCall.keep,codeAny_func ?_⟩;obtain⟨t,ht,hq⟩:=FV A outer s H vs Q E (hr.deeper _) Gu;have I:Inv (fV CX P w K mg base N qual scope f cdv A outer s H E) [] (start N vs) H s1:=vG S e0 hl r x;refine bM (ht [] s1 (start N vs) H _ I hq) (λfl s' hs=>?_) λe s' hs=>hs
 have fin:∀{σ':St}{H':Hp}{v:V}{u:ae},Inv (fV CX P w K mg base N qual scope f cdv A outer s H E) [] σ' H' s'->RelV v u->Q v H'->CE outer P w H s Q u s':=
  λ{σ' H' v u} J rv q=>⟨v,H',J.os,J.bare,J.base,J.hok,rv,q⟩
 cases fl with
 |ret u=>
  obtain⟨v,σ',H',J,rv,q⟩:=hs;exact fin J rv q
 |next=>
  obtain⟨σ',H',J,q⟩:=hs;exact fin (v:=V.non) (u:=ae.none) J rfl q
 |brk=>
  obtain⟨_,_,_,q⟩:=hs;exact bt q
 |cont=>
  obtain⟨_,_,_,q⟩:=hs;exact bt q
end
section
variable{X:Cx}{CX:CXT}{k:Nat}{f:Addr}{fd:bN}{ps:List Str}{sp:Sp}{Gs:List V}{ds:List ae}{E:XK}{x:Str}{p pos:Pos}{e:Expr}{es:List Expr}{t:TA}
theorem Ea{pins:List (Addr×Obj)}{σ:St}{H:Hp}{s:af}{Q:VK}{us:List ae}{vs:List V}(F:i_ X.prog X.w X.K X.mg X.base CX k f fd ps sp)(hr:fb k X.A)(hb:Binds X.K fd ps ds)(hd:Vals Gs ds)(hx:Passes CX X E)
  (I:Inv X pins σ H s) (r:Vals vs us) (h:sp (vs++Gs) H Q E):aq (ao X.prog X.w) X.A (call (.ref f) us) (EP X pins σ Q) X.xe s:=by
 have r2:Vals (vs++Gs) (us++ds):=r.append hd;have hl:(us++ds).length=ps.length:=by rw[<-r2.length];exact F.len _ _ _ _ h
 refine wpAny_call (codeAny_mono (F.run X.A X.stack s H ⟨us,[]⟩ (us++ds) (vs++Gs) Q E hr I.env0 (hb s us I.kIn hl) r2 h) λr s' hq=>?_);cases r with
 |error e=>exact hx pins σ H s e s' I hq
 |ok fl=>
  cases fl with
  |ret u=>exact I.after hq
  |next=>exact bt hq
  |brk=>exact bt hq
  |cont=>exact bt hq
theorem AZ(F:i_ X.prog X.w X.K X.mg X.base CX k f fd ps sp)(hr:fb k X.A)(hg:Gl X x)(hm:X.mg x=some (.ref f))(hk:cR X.K (.ref f)=true)(hb:Binds X.K fd ps ds)(hd:Vals Gs ds)(hx:Passes CX X E)
  (ha:PA X (e::es) t) (HL:(x==("__debug__" : Str))=false) (he:aX (e::es) X.env=(false,eval e X.env)::aX es X.env) (He:(backTo pos (aX es X.env)).any (·.1)=false) :
  PE X (.Call (.Name x p) (e::es) [] pos) (mK sp Gs E t):=by
 intro pins s σ H Q I h;refine wpAny_Call_Name_kw (ij I hg hm ?_ HL);refine PySem.W.callWith_K (h₀:=X.base) I.ok.mod.kin hk (thn (ha pos pins s σ H _ I h) λus s1 ⟨vs,H1,I1,r,q⟩=>⟨I1.kIn,?_⟩) he He;exact Ea F hr hb hd hx I1 r q
end
noncomputable def ip(x:Addr)(cls:ae):HO:=.ext λh=>∃o vs,h.get? x=some o/\o.cls=cls/\o.data=.fields vs
abbrev Cx.held(X:Cx)(x:Addr):Cx:={X with A:=X.A.mark (some (.ref x)),calm:=false,xe:=λ_ _=>False}
section
variable{X:Cx}{pins:List (Addr×Obj)}{σ:St}{H:Hp}{s:af}
theorem Inv.hold(I:Inv X pins σ H s)(x:Addr):Inv (X.held x) pins σ H s:=
 ⟨⟨I.ok.mod,I.ok.kind,I.ok.glob,I.ok.blt,I.ok.above,I.ok.inj,I.ok.has,I.ok.cab,λz=>absurd z bO,I.ok.frames,I.ok.stk,I.ok.exf,I.ok.bs,I.ok.bsz,I.ok.noex,I.ok.exfs,I.ok.funs,I.ok.frf⟩,
  I.os,I.bare,I.base,I.loc,I.cell,I.free,I.freeC,I.pin,I.hok,I.len⟩
theorem Inv.unhold{x:Addr}(ok:X.Ok)(I:Inv (X.held x) pins σ H s):Inv X pins σ H s:=⟨ok,I.os,I.bare,I.base,I.loc,I.cell,I.free,I.freeC,I.pin,I.hok,I.len⟩
theorem Inv.track(I:Inv X pins σ H s){x:Addr}{o:HO}(hex:X.ex=[])(a:Apart X pins H x)(hl:x≠X.env.locals)(hc:∀y c,X.env.cells.lookup y=some c->c≠x)(ok:zq X.prog X.w (upd H x o) s.heap x o):Inv X pins σ (upd H x o) s:=by
 have nx:∀b u,H b=some u->b≠x:=λb u e z=>by rw[z,a.free]at e;cases e
 refine⟨I.ok,I.os,I.bare,⟨I.base.keep,I.base.slot,λb ob e n h=>?_,I.base.there,λb xs e=>?_,λb ob u e=>?_,λb ps e=>?_⟩,I.loc,I.cell,?_,λy c e=>?_,λp hp=>?_,λb u e=>?_,I.len⟩
 ·rw[qg (λz=>by rw[z,a.new]at e;cases e)];exact I.base.free b ob e n h
 ·have:=I.base.tups b xs e;rw[qg (nx b _ this)];exact this
 ·have:=I.base.frzs b ob u e;rw[qg (nx b _ this)];exact this
 ·obtain⟨more,q⟩:=I.base.tbls b ps e;exact⟨more,by rw[qg (nx b _ q)];exact q⟩
 ·rw[qg (Ne.symm hl)];exact I.free
 ·rw[qg (hc y c e)];exact I.freeC y c e
 ·obtain⟨e,n,r⟩:=I.pin p hp;exact⟨e,by rw[qg (a.pin p hp)];exact n,r⟩
 ·by_cases hb:b=x
  ·subst hb;rw[zm]at e;cases e;exact ok
  ·rw[qg hb]at e;refine(I.hok b u e).stay (λc v _ q=>q) (λc q=>?_) λc xs q=>?_
   ·rw[qg (nx c _ q)];exact q
   ·rw[qg (nx c _ q)];exact q
theorem Inv.forget{h':Heap}{m':Str->Option ae}{t':Nat}(I:Inv X pins σ H s)(hn:h'.Ns X.env.locals m')(hs:Heap.SameBut X.env.locals s.heap h'):Inv X pins (σ.map λ_=>none) H {s with heap:=h',toks:=t'}:=by
 have up:∀b o,X.s₀.heap.get? b=some o->b≠X.env.locals:=λb o e=>bg (bG (aS e) I.ok.above)
 refine⟨I.ok,I.os,I.bare,⟨λb o e n hb hx=>?_,λb o e n hb hx=>?_,I.base.free,λb o e hx=>?_,I.base.tups,I.base.frzs,I.base.tbls⟩,⟨m',hn,λj y v' e1 e2 e3=>?_⟩,λy c e=>?_,I.free,I.freeC,λp hp=>?_,λb ob e=>?_,by simpa using I.len⟩
 ·exact(hs.2 b (up b o e)).trans (I.base.keep b o e n hb hx)
 ·obtain⟨sl,e1⟩:=I.base.slot b o e n hb hx;exact⟨sl,(hs.2 b (up b o e)).trans e1⟩
 ·obtain⟨o',e1⟩:=I.base.there b o e hx;exact⟨o',(hs.2 b (up b o e)).trans e1⟩
 ·rw[List.getElem?_map]at e2;cases q:σ[j]? with
  |none=>rw[q]at e2;cases e2
  |some z=>rw[q]at e2;cases e2
 ·obtain⟨w',z⟩:=I.cell y c e;exact⟨w',z.sameBut hs (I.cne y c e)⟩
 ·obtain⟨e,n,ne,nf,d⟩:=I.pin p hp;exact⟨(hs.2 p.1 ne).trans e,n,ne,nf,d⟩
 ·refine(I.hok b ob e).stay (λc w' hc q=>(hs.2 c ?_).trans q) (λ_ q=>q) λ_ _ q=>q
  rintro rfl;rcases hc with rfl|hc
  ·rw[I.free]at e;cases e
  ·rw[I.free]at hc;cases hc
end
def yf(i:Nat)(K:aB)(C:Addr)(n:Nat)(tb:TS)(Eh:XK)(ts:TS):TS:=λD σ H=>tb {D with nx:=D.nx} σ H /\
 ∀(τ:St) (cls:ae) (H':Hp) (x:Addr),τ.length=n->Eh cls none H'->H' x=none->bY K cls (.ref C)=some true /\
  ts {nx:=λ_ _=>False,rt:=D.rt} (τ.set i (some (.ref x))) (upd H' x (ip x cls))
abbrev Cx.inTry(X:Cx)(pn:List (Addr×Obj))(Et:ae->af->Prop):Cx:={X with pn:=pn,xe:=Et}
theorem yZ{X:Cx}{i:Nat}{C:Addr}{cn n:Str}{np hpos pos:Pos}{body:List Stmt}{b₀:Stmt}{FG:List Stmt}{tb ts:TS}{Eh:XK}(hex:X.ex=[])(FI:X.stack=X.env::X.outer)(G3:X.env.frame=some X.env.locals)
  (hN:X.N.Nodup) (hi:X.N[i]? = some n) (hl:X.env.scope.names.lookup n=some .local) (hg:Gl X cn) (hm:X.mg cn=some (.ref C))
  (hb:∀pn Et,Passes (CX1 X.prog X.w) (X.inTry pn Et) Eh->PSs (X.inTry pn Et) body tb) (hs:∀x,PSs (X.held x) (b₀::FG) ts) (hd:(cn==("__debug__" : Str))=false) :
  PS X (.Try body [.ExceptHandler (some (.Name cn np)) (some n) (b₀::FG) hpos] [] [] pos) (yf i X.K C X.N.length tb Eh ts):=by
 intro pins s σ H D I h;obtain⟨h1,h2⟩:=h;refine wpAny_Try_except ?_;have KJ:∀Et,(X.inTry (X.pn++pins) Et).Ok:=λEt=>
  ⟨I.ok.mod,I.ok.kind,I.ok.glob,I.ok.blt,I.ok.above,I.ok.inj,I.ok.has,I.ok.cab,I.ok.hd,I.ok.frames,I.ok.stk,I.ok.exf,I.ok.bs,I.ok.bsz,I.ok.noex,I.ok.exfs,I.ok.funs,I.ok.frf⟩
 have toT:∀{Et σ H s},Inv X pins σ H s->Inv (X.inTry (X.pn++pins) Et) [] σ H s:=λ{Et σ H s} J=>
  ⟨KJ Et,J.os,J.bare,J.base,J.loc,J.cell,J.free,J.freeC,λp hp=>J.pin p (by simpa using hp),J.hok,J.len⟩
 have ofT:∀{Et FH σ H s},Inv (X.inTry (X.pn++pins) Et) FH σ H s->Inv X pins σ H s:=λ{Et FH σ H s} J=>
  ⟨I.ok,J.os,J.bare,J.base,J.loc,J.cell,J.free,J.freeC,λp hp=>J.pin p (List.mem_append_left _ hp),J.hok,J.len⟩
 have HI:(X.env.scope.kind==.class||(X.env.scope.kind==.module&&X.env.locals != X.env.globals))=false:=by rw[I.ok.kind];rfl
 have hP:Passes (CX1 X.prog X.w) (X.inTry (X.pn++pins) λe s₁=>aq (ao X.prog X.w) X.A (noteFrame e X.env) (λ_ s₂=>aq (ao X.prog X.w) X.A (setFlight e none) (λ_ s₃=>
   aq (ao X.prog X.w) X.A (handleBy e X.env [.ExceptHandler (some (.Name cn np)) (some n) (b₀::FG) hpos]) (SP X pins D) X.xe s₃) X.xe s₂) X.xe s₁) Eh:=by
  intro FH σ' H' s' e s'' I' hcx;obtain⟨x,cls,H2,rfl,I2,F2,q⟩:=jF (X:=X.inTry (X.pn++pins) _) rfl rfl I' hex hcx;have I3:Inv X pins σ' H2 s'':=ofT I2;have ap:∀{Et b},Apart (X.inTry (X.pn++pins) Et) FH H2 b->Apart X pins H2 b:=λ{Et b} a=>⟨a.new,a.free,λp hp=>a.pin p (List.mem_append_left _ hp)⟩
  have F3:cx X pins H2 s''.heap x cls:=by
   obtain⟨oe,vs,T,oT,ts,a0,e1,e2,e3,e4,e5,e6,e7,e8,e9,HX⟩:=F2.tr;exact⟨ap F2.me,oe,vs,T,oT,ts,a0,e1,e2,e3,e4,e5,e6,e7,e8,e9,ap HX⟩
  obtain⟨oe,vs,_,_,_,_,e1,_,_,e4,_⟩:=id F3.tr;obtain⟨T,oT,MD,a0,W,hT,HY,aT⟩:=cx.flying I3 F3;have F0:=I.ok.frames;rw[FI]at F0 W;refine wpAny_looks_onW F0 G3 W λh4 W4 u4=>?_
  refine wpAny_landsW W4 λh5 W5 u5=>?_
  rw[<-FI]at W5;obtain⟨I5,F5⟩:=cx.back I3 hex F3.me e1 e4 hT HY aT W5 (u4.trans u5);obtain⟨ME,MF,T5,MG,MJ,a5,g1,g2,g3,g4,g5,g6,g7,g8,g9,MK⟩:=id F5.tr;obtain⟨Ia,Ja⟩:=h2 σ' cls H2 x I3.len q F3.me.free;have LT:PySem.W.Looks (ao X.prog X.w) h5 (typeOf (.ref x)) cls:=by
   subst g2;exact(PySem.W.Looks.ld g1).andThen .now
  refine wpAny_handleBy_cons (codeAny_handlers_test (ij (I5.hold x) hg hm ?_ hd)) (by intro z;cases z);refine PySem.W.exm_one (K:=X.K) I5.kIn LT Ia _ _ _ _ (λ_ _ e=>e) ?_;refine codeAny_handlers_suite_as ?_;obtain⟨T6,ML,MM,a6,W6,KL,Ib,KN⟩:=cx.flying I5 F5;refine lands_againW W6 λh6 W6' u6=>?_
  obtain⟨I6,F6⟩:=cx.back I5 hex F5.me g1 g4 KL Ib KN W6' u6;obtain⟨LB,MN,_,_,_,_,k1,k2,_,k4,_⟩:=id F6.tr;obtain⟨n1,n2,n3,n4⟩:=I6.rec_ne k1 k4;have I7:=I6.track (o:=ip x cls) hex F6.me n1 n2 ⟨⟨LB,MN,k1,k2,k4⟩,⟨LB,k1⟩,λha hb ⟨o,ws,z1,z2,z3⟩ kk=>⟨o,ws,kk o z1,z2,z3⟩⟩;refine iK (X:=X.held x) (v:=.ref x) (I7.hold x) hN hi (.inl hl) rfl (λs8 I8=>?_) (.inr hl);refine bM (hs x pins s8 _ _ _ I8 Ja) (λf s9 r9=>?_) λ_ _ z=>bt z
  cases f with
  |ret u=>
   obtain⟨v,σ9,H9,I9,rv,q9⟩:=r9;have I9':=I9.unhold I.ok;obtain⟨m,hn,_⟩:=I9'.loc;exact wpAny_nameGoes hl hn HI λh' m' IG FY=>⟨v,_,H9,I9'.forget IG FY,rv,q9⟩
  |next=>obtain⟨_,_,_,z⟩:=r9;exact bt z
  |brk=>obtain⟨_,_,_,z⟩:=r9;exact bt z
  |cont=>obtain⟨_,_,_,z⟩:=r9;exact bt z
 refine thn (hb _ _ hP [] s σ H _ (toT I) h1) λf s1 q=>?_
 cases f with
 |next=>obtain⟨σ1,H1,I1,q1⟩:=q;exact wpAny_execs_nil ⟨σ1,H1,ofT I1,q1⟩
 |brk=>obtain⟨σ1,H1,I1,q1⟩:=q;exact⟨σ1,H1,ofT I1,q1⟩
 |cont=>obtain⟨σ1,H1,I1,q1⟩:=q;exact⟨σ1,H1,ofT I1,q1⟩
 |ret u=>obtain⟨v,σ1,H1,I1,rv,q1⟩:=q;exact⟨v,σ1,H1,ofT I1,rv,q1⟩
end L2
namespace L2
open PySem PySem.Spec PyProof.Rows PySem.W PySem.Calls Builtin Builtin.ObjectAttr Builtin.Getset_descriptor
structure dq(K:Frag)(C:Addr):Prop where
 ga:findIn K (.ref C) "__getattribute__" = some (some (.builtin "BaseException.__getattribute__"))
 gt:findIn K (.ref C) "__getattr__" = some none
 gc:findIn K (.ref C) "__class__" = some (some (.builtin "object.__class__"))
 mb:mroIn K C (.type "BaseException")=some true
 mo:mroIn K C (.type "object")=some true
 cl:∃c dd cd sl,K.lookup C=some ⟨c,dd,.cls cd,sl⟩
section
variable{prog:aF}{w:aD}{A:aE}{E:ae->af->Prop}{h:Heap}{g:Array GenState}{d:Drawn}{t:Nat}{os:OsState}{x C:Addr}{K:Frag}
theorem Ci{R:Result->af->Prop}{tp:ae}(Z:K.In h)(S:dq K C)(L0:Looks (ao prog w) h (typeOf (.ref x)) (.ref C))(hx:∃o,h.get? x=some o/\o.cls=.ref C)(hq:R (.ok (.ret (.ref C))) ⟨h,g,d,t,os⟩) :
  codeAny (ao prog w) A (.call (.builtin "getset_descriptor.__get__") ⟨[.builtin "object.__class__",.ref x,tp],[]⟩) R ⟨h,g,d,t,os⟩:=by
 have L1:=looks_mroIn (M:=ao prog w) Z S.mo;obtain⟨o,ho,hc⟩:=hx;refine codeAny_call_builtin KF.slot_gs.plain KF.entry_gs (KF.slot_gs.check _ _ _ _ _ _ _ _ KF.type_class (KF.args_gs _ _ _) ?_);unfold Builtin.«getset_descriptor.__get__» descrGet;rw[dga_obj];refine au (aK ?_);unfold descrGetter descrCheckInstance descrNameAndClass isInstance;simp only[KF.owner_class]
 repeat lk
 refine⟨Code.quiet_builtin _ (by decide +kernel),codeAny_builtin KF.entry_class ?_⟩;unfold Builtin.«object.__class__» shownTypeOf
 repeat lk
 exact hq
theorem Cw{M:Model}{HC:ae}{Q:Unit->af->Prop}(Z:K.In h)(S:dq K C)(L0:Looks M h (typeOf (.ref x)) (.ref C))(hq:Q () ⟨h,g,d,t,os⟩) :
  aq M A (checkBuiltinCall "BaseException.__getattribute__" ⟨[.ref x,HC],[]⟩) Q E ⟨h,g,d,t,os⟩:=by
 have hk:builtinKind "BaseException.__getattribute__" = some .slot:=by decide +kernel
 have Ic:splitId "BaseException.__getattribute__" = some ("BaseException","__getattribute__"):=by decide +kernel
 have L1:=looks_mroIn (M:=M) Z S.mb;have ha:=F.args_bexc_ga (.ref x) HC;simp only[checkBuiltinCall,hk,Ic];refine au ?_;unfold isInstance
 repeat (first|assumption|lk|wp_step)
theorem uB{tk:Tok}{Q:Fin->af->Prop}(Z:K.In h)(S:dq K C)(L0:Looks (ao prog w) h (typeOf (.ref x)) (.ref C))(hx:∃o,h.get? x=some o/\o.cls=.ref C)(hq:Q (.done (.ret (.ref C))) ⟨h,g,d,t,os⟩) :
  aq (ao prog w) A (Builtin.«object.__getattribute__» ⟨[.ref x,.str "__class__" tk],[]⟩) Q E ⟨h,g,d,t,os⟩:=by
 have Og:(⟨h,g,d,t,os⟩:af).TypeIs (.builtin "object.__class__") "getset_descriptor":=F.typeOf_object_class;have L2:=looks_findIn (M:=ao prog w) Z S.gc;have f5:=F.typeOf_object_class;have f6:=F.slot_gs_get.lookup;have f7:=F.slot_gs_set.lookup
 repeat (any_goals (first|assumption|with_reducible refine L0.at ?_|with_reducible refine au (L0.at ?_)|with_reducible refine L2.at ?_|with_reducible refine au (L2.at ?_)|wp_step))
 refine Ci Z S L0 hx ?_
 repeat (any_goals (first|assumption|wp_step))
theorem Ah{tk:Tok}{Q:ae->af->Prop}(Z:K.In h)(S:dq K C)(L0:Looks (ao prog w) h (typeOf (.ref x)) (.ref C))(hx:∃o,h.get? x=some o/\o.cls=.ref C)(hq:Q (.ref C) ⟨h,g,d,t,os⟩) :
  aq (ao prog w) A (getAttrBy (.ref x) (.str "__class__" tk) false) Q E ⟨h,g,d,t,os⟩:=by
 have f3:=F.attr_ValueError.ga.bind (.ref x);have Ja:(ae.builtin "BaseException.__getattribute__" == ae.builtin "object.__getattribute__")=false:=by decide +kernel
 have Ia:(onTheHeap (bh C)&&ae.builtin "BaseException.__getattribute__" == ae.builtin "object.__getattribute__")=false:=by rw[Ja];rfl
 have L2:=looks_findIn (M:=ao prog w) Z S.ga;have L3:=looks_findIn (M:=ao prog w) Z S.gt
 repeat (any_goals (first|assumption|with_reducible refine L0.at ?_|with_reducible refine au (L0.at ?_)|with_reducible refine L2.at ?_|with_reducible refine au (L2.at ?_)|with_reducible refine L3.at ?_|with_reducible refine au (L3.at ?_)|wp_step))
 refine codeAny_call_builtin F.attr_ValueError.ga.plain F.entry_bexc_ga (Cw Z S L0 (uB Z S L0 hx ?_))
 repeat (any_goals (first|assumption|wp_step))
theorem DX{Q:Option ae->af->Prop}(Z:K.In h)(S:dq K C)(L0:Looks (ao prog w) h (typeOf (.ref x)) (.ref C))(hx:∃o,h.get? x=some o/\o.cls=.ref C)(hq:Q (some (.ref C)) ⟨h,g,d,t+1,os⟩) :
  aq (ao prog w) A (getAttr? (.ref x) "__class__") Q E ⟨h,g,d,t,os⟩:=by
 unfold getAttr? getAttrBy?
 repeat (any_goals (first|assumption|with_reducible apply Ah Z S L0 hx|wp_step))
end
end L2
namespace L2
open PySem PySem.Spec PyProof.Rows
structure Fy(prog:aF)(w:aD)(xs:Array ae)(i l:Addr)(P:Nat->Heap->Prop):Prop where
 fr:∀k h h',P k h->(∀o,h.get? i=some o->h'.get? i=some o)->(∀o,h.get? l=some o->h'.get? l=some o)->P k h'
 nx:∀{A:aE} (k:Nat) (x:ae) (s:af) (Q:ae->af->Prop) (E:ae->af->Prop),P k s.heap->xs[k]? = some x->(∀h',P (k+1) h'->Heap.SameBut i s.heap h'->Q x {s with heap:=h'})->aq (ao prog w) A (eO (.ref i)) Q E s
 en:∀{A:aE} (k:Nat) (s:af) (Q:ae->af->Prop) (E:ae->af->Prop),A.handled=none->P k s.heap->xs[k]? = none ->
  (∀h' e,Heap.ExtBut i s.heap h'->(∃o,h'.get? e=some o/\o.cls=.type "StopIteration")->E (.ref e) {s with heap:=h'})->aq (ao prog w) A (eO (.ref i)) Q E s
 at_:∀k h,P k h->∃o,h.get? i=some o/\∃vs,o.data=.fields vs
section
variable{prog:aF}{w:aD}{A:aE}{E:ae->af->Prop}{s:af}
theorem uI{it l:Addr}{i:Nat}{items}{x:ae}{Q:ae->af->Prop}(hit:s.heap.IsTupleIter it l i)(hl:s.heap.IsTuple l items)(hx:items[i]? = some x)
  (hQ:∀h',h'.IsTupleIter it l (i+1)->Heap.SameBut it s.heap h'->Q x {s with heap:=h'}):aq (ao prog w) A (eO (.ref it)) Q E s:=by
 obtain⟨oi,gi,ci,di⟩:=id hit;obtain⟨ol,gl,_,nl,dl⟩:=hl;unfold eO;refine au (wpAny_callSpecial?_slot (name:=ak "__next__") hit.typeIs F.slot_tuple_iterator_next (wpAny_call_entry F.slot_tuple_iterator_next hit.typeIs F.entry_tuple_iterator_next ?_ (F.args_tuple_iterator_next_1 _)));show aq (ao prog w) _ (field (.ref it) 0>>=_) _ _ s;refine au (wpAny_field gi di (x:=.ref l) rfl ?_);show aq (ao prog w) _ (if (bh l==ae.none)=true then _ else _) _ _ s;rw[if_neg (show ¬ ((bh l==.none)=true)from bO)];show aq (ao prog w) _ (field (.ref it) 1>>=_) _ _ s;refine au (wpAny_field gi di (x:=.int i 0) rfl ?_);show aq (ao prog w) _ (seqItems? (.ref l)>>=_) _ _ s;refine au (wpAny_seqItems gl dl ?_);simp only[Int.toNat_natCast,hx];refine au (wpAny_setField gi di (by simp) (aK ⟨x,rfl,aK (hQ _ ?_ (Heap.SameBut.update ..))⟩));exact⟨_,Heap.get?_update_self _ gi (Obj.isFreed_of_fields (Obj.data_mapFields di _)),(Obj.cls_mapFields ..).trans ci,by rw[Obj.data_mapFields di];simp[rawInt]⟩
theorem p8{it l:Addr}{i:Nat}{items}{Q:ae->af->Prop}(hh:A.handled=none)(hit:s.heap.IsTupleIter it l i)(hl:s.heap.IsTuple l items)(hx:items[i]? = none)
  (hE:∀h' e,Heap.ExtBut it s.heap h'->(∃o,h'.get? e=some o/\o.cls=.type "StopIteration")->E (.ref e) {s with heap:=h'}):aq (ao prog w) A (eO (.ref it)) Q E s:=by
 obtain⟨oi,gi,ci,di⟩:=id hit;obtain⟨ol,gl,_,nl,dl⟩:=hl;unfold eO;refine au (wpAny_callSpecial?_slot (name:=ak "__next__") hit.typeIs F.slot_tuple_iterator_next (wpAny_call_entry F.slot_tuple_iterator_next hit.typeIs F.entry_tuple_iterator_next ?_ (F.args_tuple_iterator_next_1 _)));show aq (ao prog w) _ (field (.ref it) 0>>=_) _ _ s;refine au (wpAny_field gi di (x:=.ref l) rfl ?_);show aq (ao prog w) _ (if (bh l==ae.none)=true then _ else _) _ _ s;rw[if_neg (show ¬ ((bh l==.none)=true)from bO)];show aq (ao prog w) _ (field (.ref it) 1>>=_) _ _ s;refine au (wpAny_field gi di (x:=.int i 0) rfl ?_);show aq (ao prog w) _ (seqItems? (.ref l)>>=_) _ _ s;refine au (wpAny_seqItems gl dl ?_);simp only[Int.toNat_natCast,hx];refine au (wpAny_rule (au (wpAny_setField gi di (by simp) ?_)));show aq (ao prog w) _ (newExc (.type "StopIteration") []>>=_) _ _ _;refine au ?_;simp only[newExc,newTuple];refine au (wpAny_newObj_type ?_ (by size_fits));refine au (m:=firstArgMember _ _) (wpAny_of_eq (a:=ae.none) (by first|rfl|(simp only[firstArgMember];rfl)) ?_);refine wpAny_newObj_type ?_ (by size_fits);simp only[raiseNew];refine au (wpAny_handled ?_)
 first|rw[show A.in1.handled=none from hh]|rw[hh]
 refine au (aK (wpAny_throw ?_));exact hE _ _ (((Heap.SameBut.update ..).extBut.push _).push _) ⟨_,Heap.get?_push_size _ rfl,rfl⟩
end
section
variable{prog:aF}{w:aD}{A:aE}{E:ae->af->Prop}{s:af}{z TI TO i1 i2 l1 l2:Addr}{k:Nat}{xs ys:Array ae}{P1 P2:Nat->Heap->Prop}
structure Fz(z TI TO i1 i2 l1 l2:Addr):Prop where
 d:ZipApart z TI TO i1 i2 l1 l2
end
section
variable{X:Cx}{pins:List (Addr×Obj)}{σ:St}{H:Hp}{s:af}{h':Heap}{tk:Nat}
theorem Inv.turnNew{ch:List Addr}{p:Addr}{vs:List V}{its:List ae}(I:Inv X pins σ H s)(hf:∀b∈ch,dO X pins H b)(k:∀b o,b∉ch->s.heap.get? b=some o->h'.get? b=some o)
  (hp:s.heap.objs.size<=p) (ht:IsTup h' p its.toArray) (r:Vals vs its) (hz:vs.length<=aO):Inv X pins σ (upd H p (.tup vs)) {s with heap:=h',toks:=tk}:=by
 have Ie:H p=none:=I.hok.fresh hp;have Gf:∀b u,H b=some u->b∉ch:=λb u e z=>by have:=(hf b z).1;rw[e]at this;cases this
 have np:∀b u,H b=some u->b≠p:=λb u e z=>by rw[z,Ie]at e;cases e
 refine I.step (g':=s.gens) (d':=s.drawn) (ch:=ch) (λb hb=>?_) (λb o _ _ hc e _=>k b o hc e) (λb o _ _ hc e _=>⟨o.slots,k b o hc e⟩) (λb o hc e n=>?_) (λb o hc e=>⟨o,k b o hc e⟩)
  (λb xs e=>by rw[qg (np b _ e)];exact e) (λb o u e=>by rw[qg (np b _ e)];exact e) (λb ps e=>⟨#[],by rw[qg (np b _ e),e];simp⟩) (λm hm=>?_) (λb u e=>?_) I.bare
 ·obtain⟨f0,f1,f2,f3,f4,f5⟩:=hf b hb;exact⟨f3,f1,f4,f5⟩
 ·rw[qg (bg (bG (aS e) hp))];exact n
 ·obtain⟨o,es,ep,ho,r⟩:=hm;exact⟨o,es,ep,k _ o (λz=>(hf _ z).2.1 rfl) ho,r⟩
 ·by_cases hb:b=p
  ·subst hb;rw[zm]at e;cases e;exact⟨hz,its,r,ht⟩
  ·rw[qg hb]at e;refine(I.hok b u e).stay (λc v hc q=>k c v ?_ q) (λc q=>by rw[qg (np c _ q)];exact q) λc xs q=>by rw[qg (np c _ q)];exact q
   rcases hc with z|z
   ·rw[z];exact Gf b u e
   ·exact Gf c _ z
theorem Inv.turnAll{ch:List Addr}(I:Inv X pins σ H s)(hf:∀b∈ch,dO X pins H b)(k:∀b o,b∉ch->s.heap.get? b=some o->h'.get? b=some o):Inv X pins σ H {s with heap:=h',toks:=tk}:=by
 have Gf:∀b u,H b=some u->b∉ch:=λb u e z=>by have:=(hf b z).1;rw[e]at this;cases this
 refine I.step (g':=s.gens) (d':=s.drawn) (ch:=ch) (λb hb=>?_) (λb o _ _ hc e _=>k b o hc e) (λb o _ _ hc e _=>⟨o.slots,k b o hc e⟩) (λb o hc e n=>n) (λb o hc e=>⟨o,k b o hc e⟩)
  (λb xs e=>e) (λb o u e=>e) (λb ps e=>⟨#[],by rw[e];simp⟩) (λm hm=>?_) (λb u e=>?_) I.bare
 ·obtain⟨f0,f1,f2,f3,f4,f5⟩:=hf b hb;exact⟨f3,f1,f4,f5⟩
 ·obtain⟨o,es,ep,ho,r⟩:=hm;exact⟨o,es,ep,k _ o (λz=>(hf _ z).2.1 rfl) ho,r⟩
 ·refine(I.hok b u e).stay (λc v hc q=>k c v ?_ q) (λc q=>q) λc xs q=>q
  rcases hc with z|z
  ·rw[z];exact Gf b u e
  ·exact Gf c _ z
end
section
variable{prog:aF}{w:aD}{A:aE}{E:ae->af->Prop}{s:af}
end
theorem CB{K:aB}{x C:Addr}(S:dq K C):PySem.W.KitX K (.ref x) (.ref C) (λh=>∃o,h.get? x=some o/\o.cls=.ref C) where
 ty:=λM h _ ⟨o,e,c⟩=>c▸(PySem.W.Looks.ld e).andThen .now
 it:=λ_ _ Z _=>by
  obtain⟨c,dd,cd,sl,e⟩:=S.cl;intro A' Q' E' s' k q;unfold isType loadHead;exact au (wpAny_loadPart (k _ _ (Z _ _ e)) (aK q))
 ne:=λh tp dd its n sl Z htp=>by
  obtain⟨c,G5,cd,Jx,e⟩:=S.cl;refine Bool.eq_false_iff.mpr λq=>?_
  have e1:C=tp:=bh.inj (beq_iff_eq.mp q);subst e1;have z:=(Z _ _ e).symm.trans htp;cases z
 ca:=λ{prog w A E Q s} Z ⟨o,e,c⟩ k=>by
  obtain⟨hh,g,d,t,os⟩:=s;exact DX Z S (c▸(PySem.W.Looks.ld e).andThen .now) ⟨o,e,c⟩ k
noncomputable def mf:V->Option ae
 | .ty n=>some (.type n)
 | .ref a=>some (.ref a)
 |_=>none
def TyX(K:aB)(H:Hp)(x:V)(t:ae):Prop:=dX K H x t\/∃a C,x=.ref a/\t=.ref C/\H a=some (ip a (.ref C))/\dq K C
theorem yS{X:Cx}:qQ X (.builtin "isinstance") (λxs H Q=>∃x c cv t b,xs=[x,c]/\mf c=some cv/\TyX X.K H x t/\bF X.K t cv=some b/\Q (.bl b) H):=by
 intro pins s σ H xs us Q I r h;obtain⟨x,c,cv,t,b,rfl,hc,ty,hk,q⟩:=h;obtain⟨u,cu,rfl,rx,rc⟩:=r.two;have e:cu=cv:=by
  cases c with
  |ty n=>cases hc;exact rc
  |ref a=>cases hc;exact rc
  |_=>cases hc
 subst e;rcases ty with ty|⟨a,C,rfl,rfl,ha,S⟩
 ·exact g_ I rx ty hk λtk=>⟨.bl b,H,I.tok tk,rfl,q⟩
 ·cases rx;obtain⟨⟨o,vs,e1,e2,e3⟩,_⟩:=(show zq X.prog X.w H s.heap a (ip a (.ref C))from I.hok a _ ha)
  exact bS (CB S) I.kIn ⟨o,e1,e2⟩ hk (λz=>nomatch z) λtk=>⟨.bl b,H,I.tok tk,rfl,q⟩
theorem Fq{K:aB}{T:String}:bF K (.type T) (.type T)=some true:=by unfold bF;rw[if_pos (by simp)]
theorem Cm{K:aB}{a T:String}{b:Bool}(GC:(ae.type a==ae.type T)=false)(hm:PySem.W.kitMeta T=true)(hf:(fastBuiltinMro a).map (·.contains (.type T))=some b):bF K (.type a) (.type T)=some b:=by
 unfold bF PySem.W.kitCls aH;rw[if_neg (by rw[GC];exact bO)];dsimp only;rw[if_pos hm];exact hf
noncomputable def gk(a T:String):Bool:=a==T||(a == "bool" && T == "int")
theorem Fe{K:aB}{a T:String}(ha:a∈["NoneType","bool","int","str","list","tuple","dict"])(hT:T∈["int","bool","str","list","tuple"]):bF K (.type a) (.type T)=some (gk a T):=by
 simp only[aI,b9,or_false]at ha hT;rcases ha with rfl|rfl|rfl|rfl|rfl|rfl|rfl<;>rcases hT with rfl|rfl|rfl|rfl|rfl<;>first|exact Fq|exact Cm (by decide +kernel) (by decide +kernel) (by decide +kernel)
noncomputable def ltP(p q:Int×Int):Bool:=if p.1=q.1 then decide (p.2<q.2)else decide (p.1<q.1)
section
variable{prog:aF}{w:aD}{A:aE}{E:ae->af->Prop}{s:af}
end
theorem Ag{h:Heap}{a:Addr}{m m':Str->Option ae}(x:h.Ns a m)(y:h.Ns a m'):m=m':=by
 obtain⟨o,es,ep,e1,e2,_,e4⟩:=x;obtain⟨o',IE,IF,f1,f2,_,f4⟩:=y;rw[e1]at f1;cases f1;rw[e2]at f2;cases f2;funext n;rw[<-e4,<-f4]
theorem Inv.newList{X:Cx}{pins:List (Addr×Obj)}{σ:St}{H:Hp}{s s':af}{D:Addr}{out:List V}{its:List ae}{c:Nat}(I:Inv X pins σ H s)(MO:s'.os=s.os)(hg:s'.gens=s.gens)
  (k:∀b o,b≠X.env.locals->s.heap.get? b=some o->s'.heap.get? b=some o) (ns:∀m,s.heap.Ns X.env.locals m->s'.heap.Ns X.env.locals m) (hD:s.heap.get? D=none) (Oh:D≠X.env.locals)
  (hl:s'.heap.get? D=some {cls:=.type "list",data:=.seq its.toArray c}) (r:Vals out its) (hz:out.length<=aO):Inv X pins σ (upd H D (.lst out)) s':=by
 obtain⟨h',g',d',t',o'⟩:=s';have eo:o'=s.os:=MO;have eg:g'=s.gens:=hg;subst eo eg;have Ie:H D=none:=I.hok.free_of hD;have np:∀b u,H b=some u->b≠D:=λb u e z=>by rw[z,Ie]at e;cases e
 obtain⟨m0,n0,_⟩:=id I.loc;obtain⟨oL,es,ep,Ga,_⟩:=id n0;obtain⟨MP,IE,IF,KO,_⟩:=ns _ n0;refine I.step (g':=s.gens) (d':=d') (ch:=[]) (λb hb=>absurd hb (by simp)) (λb o hL _ _ e _=>k b o hL e) (λb o hL _ _ e _=>⟨o.slots,k b o hL e⟩) (λb o _ e n=>?_) (λb o _ e=>?_)
  (λb xs e=>by rw[qg (np b _ e)];exact e) (λb o u e=>by rw[qg (np b _ e)];exact e) (λb ps e=>⟨#[],by rw[qg (np b _ e),e];simp⟩) ns (λb u e=>?_) I.bare
 ·rw[qg (λz=>by rw[z,hD]at e;cases e)];exact n
 ·by_cases hL:b=X.env.locals
  ·exact⟨MP,by rw[hL];exact KO⟩
  ·exact⟨o,k b o hL e⟩
 ·by_cases hb:b=D
  ·subst hb;rw[zm]at e;cases e;exact⟨hz,its,c,r,hl⟩
  ·rw[qg hb]at e;have nl:∀c,(∃u,H c=some u)->c≠X.env.locals:=λc ⟨u,e⟩ z=>by rw[z,I.free]at e;cases e
   refine(I.hok b u e).stay (λc v hc q=>k c v (nl c ?_) q) (λc q=>by rw[qg (np c _ q)];exact q) λc xs q=>by rw[qg (np c _ q)];exact q
   rcases hc with z|z
   ·exact⟨u,by rw[z];exact e⟩
   ·exact⟨_,z⟩
section
variable{prog:aF}{w:aD}{A:aE}{E:ae->af->Prop}{s:af}
theorem vU{a:Addr}{vs:List ae}{P:Fin->af->Prop}(Ga:s.heap.get? a=some (aQ "list" vs.toArray 0))(h2:vs.length<2)(h:P (.done (.ret .none)) {s with heap:=sortedHeap s.heap a vs vs.toArray}) :
  aq (ao prog w) A (Builtin.«list.sort» ⟨[.ref a],[]⟩) P E s:=by
 rw[list_sort_plain];refine au (listItems_at  Ga rfl ?_);refine au (listUpdate_at  Ga rfl ?_ (by rw[a7,bx];lia) (bH _));obtain⟨e1,Jb⟩:∃e1,(s.heap.update a (bq λ_=>#[])).get? a=some (aQ "list" #[] e1):=⟨_,get?_update_seq Ga (λ_=>#[])⟩
 refine au (seqEpoch_at Jb rfl ?_);refine au (wpAny_newTuple ?_ (by show vs.length<=_;rw[bx];lia));refine au (wpAny_newList ?_ (bH _));refine dh ?_;have FF:a<s.heap.objs.size:=aS Ga;have Jc:(((s.heap.update a (bq λ_=>#[])).push (aQ "tuple" vs.toArray 0)).push (aQ "list" #[] 0)).get? a=some (aQ "list" #[] e1):=by
  rw[Heap.get?_push_ne _ _ _ (by rw[size_push',Heap.size_update];exact bg (de FF)),Heap.get?_push_ne _ _ _ (by rw[Heap.size_update];exact bg FF)];exact Jb
 show aq (ao prog w) _ _ _ _ {s with heap:=((s.heap.update a (bq λ_=>#[])).push (aQ "tuple" vs.toArray 0)).push (aQ "list" #[] 0)};dsimp only;have Ig:vs.toArray.size<2:=by rw[a7];exact h2
 rw[if_pos Ig,if_pos Ig];refine au (aK ?_);rw[StateT.run_pure];refine au (aK ?_);dsimp only;refine au (seqEpoch_at Jc rfl ?_);have Jd:(ag (aJ.mk' general' (vs.toArray.zip vs.toArray) #[] 7 none)).map (·.2)=vs.toArray:=by
  show (vs.toArray.zip vs.toArray).map (·.2)=vs.toArray;apply Array.toList_inj.mp;simp[List.map_snd_zip]
 refine au (listUpdate_at Jc rfl ?_ (bH _) (by rw[Jd,a7,bx];lia));simp only[bne_self_eq_false,bD,if_false];refine aK ?_;rw[Jd];exact h
theorem Cj{l:Addr}{vs:List ae}{Q:ae->af->Prop}(hl:s.heap.IsList l vs.toArray)(h2:vs.length<2)(h:Q (.ref (s.heap.objs.size+1)) {s with heap:=sortedAll s.heap vs vs.toArray}):aq (ao prog w) A (call (.builtin "sorted") [.ref l]) Q E s:=by
 refine Calls.call_function_entry kind_sorted plain_sorted entry_sorted (args_sorted1 _) ?_;unfold Builtin.«sorted»;refine au (m:=checkCount "sorted" 1 1 _) (aK ?_);refine au (collect_list hl ?_ (by rw[bx];lia));refine au (wpAny_newList ?_ (by rw[bx];lia));have hsz:((s.heap.push (aQ "list" #[] 0)).update s.heap.objs.size (bq (· ++ vs.toArray))).objs.size=s.heap.objs.size+1:=by rw[Heap.size_update,size_push']
 have Ga:(((s.heap.push (aQ "list" #[] 0)).update s.heap.objs.size (bq (· ++ vs.toArray))).push (aQ "list" vs.toArray 0)).get? (s.heap.objs.size+1)=some (aQ "list" vs.toArray 0):=by rw[<-hsz];exact Heap.get?_push_size _ rfl
 show aq _ _ _ _ _ {s with heap:=((s.heap.push (aQ "list" #[] 0)).update s.heap.objs.size (bq (· ++ vs.toArray))).push (aQ "list" vs.toArray 0)};rw[hsz];refine au (dh (wpAny_call_entry slot_list_sort ⟨_,Ga,rfl⟩ entry_list_sort ?body (args_list_sort _)))
 case body=>
  exact vU Ga h2 ⟨_,rfl,aK ⟨_,rfl,h⟩⟩
end
section
variable{X:Cx}{pins:List (Addr×Obj)}{σ:St}{H:Hp}{s:af}
theorem kR{A:aE}{bs:List Bool}{us:List ae}(r:Vals (bs.map V.bl) us):us=bs.map ae.bool:=by
 induction bs generalizing us with
 |nil=>cases r;rfl
 |cons b bs ih=>cases r with
  |cons h t=>rw[ih t,show _=bJ b from h];rfl
end
section
variable{X:Cx}
def rM(r r' G6:R2)(ta tb tc td:TE):TE:=λσ H Q=>ta σ H λx H1=>tb σ H1 λy H2=>r x y H2 λz H3=>∃k,z=.bl k /\
 (if k=true then tc σ H3 λw' H4=>r' y w' H4 λz H5=>∃k,z=.bl k/\(if k=true then td σ H5 λJe H6=>G6 w' Je H6 Q else Q (.bl false) H5)else Q (.bl false) H3)
theorem CP{a b c d:Expr}{ta tb tc td:TE}{pos:Pos}{op FO FP:CmpOp}{r r' G6:R2}(ho:OpR X (a_ op) r)(Gn:OpR X (a_ FO) r')(Ih:OpR X (a_ FP) G6)(ha:PE X a ta)(hb:PE X b tb)(hc:PE X c tc)(hd:PE X d td)
  (hm:lastMarks [op,FO,FP] [b,c,d]=false):PE X (.Compare a [op,FO,FP] [b,c,d] pos) (rM r r' G6 ta tb tc td):=by
 intro pins s σ H Q I h;refine Compare_chain (thn (ha pins s σ H _ I h) λv s1 ⟨x,H1,I1,r1,q1⟩=>chain_link (thn (hb pins s1 σ H1 _ I1 q1) λu s2 ⟨y,H2,I2,r2,q2⟩=>
  thn (ho pins s2 σ H2 x y v u _ I2 r1 r2 q2) λd s3 ⟨z,H3,I3,r3,k,e,q3⟩=>?_)) hm
 subst e;cases r3;refine bQ ?_;cases k with
 |false=>exact ite_ff ⟨.bl false,H3,I3,rfl,q3⟩
 |true=>
  refine ite_tt (chain_link (thn (hc pins s3 σ H3 _ I3 q3) λw' s4 ⟨z',H4,I4,r4,q4⟩=>thn (Gn pins s4 σ H4 y z' u w' _ I4 r2 r4 q4) λd' s5 ⟨z2,H5,I5,r5,k2,e2,q5⟩=>?_));subst e2;cases r5;refine bQ ?_;cases k2 with
  |false=>exact ite_ff ⟨.bl false,H5,I5,rfl,q5⟩
  |true=>exact ite_tt (chain_last (thn (hd pins s5 σ H5 _ I5 q5) λJe s6 ⟨z3,H6,I6,r6,q6⟩=>Ih pins s6 σ H6 z' z3 w' Je Q I6 r4 r6 q6))
def ET(K:aB):R2:=λx y H Q=>∃a b xs ys,x=.ref a/\y=.ref b/\SqT K H a xs/\SqT K H b ys/\xs.length+ys.length<=aO /\
 (xs=[]->Q (.ref b) H)/\(xs≠[]->ys=[]->Q (.ref a) H)/\(xs≠[]->ys≠[]->∀p,H p=none->Q (.ref p) (upd H p (.tup (xs++ys))))
theorem CC:OpR X (binaryOp .Add) (ET X.K):=by
 intro pins s σ H x y v u Q I rx ry h;obtain⟨a,b,xs,ys,rfl,rfl,ha,hb,hz,q0,q1,q2⟩:=h;by_cases hx:xs=[]
 ·subst hx;cases rx;cases ry;obtain⟨its,r1,p1,_⟩:=I.tuple ha;obtain⟨Gh,r2,p2,_⟩:=I.tuple hb;cases r1;obtain⟨⟨cls,dd,data,sl⟩,ho,hc,n,hd⟩:=id p1;obtain⟨⟨HM,GR,data2,Hg⟩,Gw,F_,n2,hd2⟩:=id p2;simp only at hc hd F_ hd2;subst hc hd F_ hd2;exact concat_meets ⟨_,ho,rfl⟩ ⟨_,Gw,rfl⟩ noFill_tuple_add seq_tuple_add PySem.F.slot_tuple_add PySem.F.entry_tuple_add (PySem.F.args_tuple_add_2 _ _)
   (tuple_addW0 a b _ Gh.toArray n n2 dd GR sl Hg (by simp)) ⟨ho,Gw,⟨.ref b,H,I,rfl,q0 rfl⟩⟩
 ·exact wQ pins s σ H (.ref a) (.ref b) v u Q I rx ry ⟨a,b,xs,ys,rfl,rfl,ha,hb,hx,hz,q1 hx,q2 hx⟩
theorem kN{vs:List ae}{ns:List Int}(h:bp vs ns):Vals (ns.map V.int) vs:=by
 induction h with
 |nil=>exact .nil
 |cons n t _ ih=>exact .cons ⟨t,rfl⟩ ih
def Au(K:aB):List V->Hp->VK->Prop:=λvs H Q=>∃(l:Addr) (ns:List Int),vs=[.ref l]/\SqL K H l (ns.map V.int)/\ns.length<64/\∀(D:Addr) (ms:List Int),H D=none->ms.Perm ns->ms.Pairwise (·<=·)->Q (.ref D) (upd H D (.lst (ms.map V.int)))
theorem AM:qQ X (.builtin "sorted") (Au X.K):=by
 intro pins s σ H xs us Q I r h;obtain⟨l,ns,rfl,hl,Ii,q⟩:=h;obtain⟨u,rfl,ru⟩:=r.one;cases ru;obtain⟨its,rv,pl,hz⟩:=I.list hl;obtain⟨m,F⟩:=I.fr;refine PySem.W.kso_sorted F (y6 (g:=X.base) (h:=s.heap) (L:=X.env.locals)) pl.isList (intsAre_of rv) Ii λD Iv F9 c h' F' N' FF hi he hp ho _=>?_
 have keep:∀b o,b≠X.env.locals->s.heap.get? b=some o->h'.get? b=some o:=λb o hb e=>by
  cases qb:X.base.get? b with
  |some ob=>have:=I.bk b ob qb;rw[e]at this;cases this;exact F'.keep b _ qb
  |none=>exact(N' (b,o) (aR _ (pX hb qb e))).1
 have JF:=N' (D,_) aM;have HD:s.heap.get? D=none:=by
  cases qd:s.heap.get? D with
  |none=>rfl
  |some o=>exact absurd (FF (D,o) (pX JF.2.1 JF.2.2 qd)) (bU _)
 refine⟨.ref D,_,I.newList (s':={s with heap:=h'}) (c:=c) rfl rfl keep (λm' JG=>?_) HD JF.2.1 JF.1 (kN hi) (by rw[aV,he,bx];lia),rfl,q D F9 (I.hok.free_of HD) hp ho⟩;rw[Ag JG F.ns];exact F'.ns
end
noncomputable def Ite(K:aB)(l:Addr):It:=
 ⟨λi H=>∃xs x,SqL K H l xs/\xs[i]? = some x,
  λi H v H'=>∃p x,H p=none/\v=.ref p/\H'=upd H p (.tup [.int i,x])/\∀xs,SqL K H l xs->xs[i]? = some x,
  λi H=>∃xs,SqL K H l xs/\xs.length<=i⟩
theorem DE{P:aF}{w:aD}{K:aB}{es:List Expr}{ek:Nat}{Gb:Pos}{e it l:Addr}(n1:e≠it)(n2:l≠e)(n3:l≠it) :
  Turn P w K (.Tuple es ek Gb) (Ite K l) [e,it] e (λi h=>(∃old,IsEnum h e it ((i:Nat):Int) old)/\h.IsListIter it l i) where
 mem:=by simp
 obj:=λi h st b hb=>by
  obtain⟨⟨old,hz⟩,o1,e1,_,d1⟩:=st;have Gv:b=e\/b=it:=by simpa using hb
  rcases Gv with q|q
  ·subst q;exact⟨_,hz,λv q=>by cases q⟩
  ·subst q;exact⟨o1,e1,λv q=>by rw[d1]at q;cases q⟩
 keep:=λi h h' st k=>by
  obtain⟨⟨old,hz⟩,h1⟩:=st;exact⟨⟨old,k e (by simp) _ hz⟩,h1.at λo q=>k it (by simp) o q⟩
 item:=by
  intro X hP hw hK hc i pins s σ H E I hf st hg;subst hP hw hK;obtain⟨⟨old,hz⟩,h1⟩:=st;obtain⟨xs,x,q1,hx⟩:=hg;obtain⟨its,r1,p1,z1⟩:=I.list q1;obtain⟨u1,JH,KP⟩:=r1.get hx;refine wpAny_pyNext_enum_item hz h1 p1.isList (x:=u1) (by simpa using JH) n1 λh' a1 a2 a3 a4 hk=>?_
  have IQ:∀b o,b∉[e,it]->s.heap.get? b=some o->h'.get? b=some o:=λb o hb q=>hk b o (λz=>hb (by simp[z])) (λz=>hb (by simp[z])) q
  have I1:Inv X pins σ (upd H s.heap.objs.size (.tup [.int i,x])) {s with heap:=h',toks:=s.toks+1}:=I.turnNew (tk:=s.toks+1) (its:=[.int i s.toks,u1]) hf IQ (aG _) ⟨_,a3,rfl,_,rfl⟩ (.cons ⟨_,rfl⟩ (.cons KP .nil)) (by show 2<=aO;decide);have Ie:H s.heap.objs.size=none:=I.hok.fresh (aG _);have KQ:∀b∈[e,it],b≠s.heap.objs.size:=λb hb q=>by
   have Gv:b=e\/b=it:=by simpa using hb
   obtain⟨o1,e1,_,d1⟩:=h1;have:b<s.heap.objs.size:=by
    rcases Gv with q|q
    ·subst q;exact aS hz
    ·subst q;exact aS e1
   rw[q]at this;exact bU _ this
  have FR:∀b∈[e,it],(upd H s.heap.objs.size (.tup [.int i,x])) b=none:=λb hb=>by rw[qg (KQ b hb)];exact(hf b hb).1
  refine⟨_,rfl,?_⟩;refine wpAny_letOwnedTupleGo_enum (s:={s with heap:=h',toks:=s.toks+1}) a1 λIg Hh FY=>?_
  obtain⟨f0,f1,f2,f3,f4,f5⟩:=hf e (by simp);refine⟨.ref s.heap.objs.size,_,I1.turned (t':=s.toks+1) (it:=e) (λb o hb q=>(FY.2 b hb).trans q) (FR e (by simp)) f1 f3 f4 f5,rfl,⟨_,x,Ie,rfl,rfl,λzs hq=>by rw[I.list_inj hq q1];exact hx⟩,⟨⟨u1,?_⟩,a2.at λo q=>(FY.2 it (Ne.symm n1)).trans q⟩,FR⟩
  ·have:((i+1:Nat):Int)=(i:Int)+1:=by push_cast;rfl
   rw[this];exact Hh
 done:=by
  intro X hP hw hK hc i pins s σ H E I hf st hg;subst hP hw hK;obtain⟨⟨old,hz⟩,h1⟩:=st;obtain⟨xs,q1,hx⟩:=hg;obtain⟨its,r1,p1,z1⟩:=I.list q1;have hl:=r1.length;exact wpAny_pyNext_enum_end (I.ok.hd hc) hz h1 p1.isList (by simp;lia) λh' eb=>⟨rfl,I.turnAll (tk:=s.toks) hf λb o hb q=>eb b o (λz=>hb (by simp[z])) q⟩
 self:=λ_ _ _ _ _ st h=>by
  obtain⟨⟨old,hz⟩,_⟩:=st;exact wpAny_pyIter_enum hz h
end L2
namespace L2
open PySem PySem.Spec PyProof.Rows PySem.SeqAt
mutual
inductive eY(K:aB)(H:Hp):V->PyData->Prop
 |non:eY K H .non .none
 |bl (b:Bool):eY K H (.bl b) (.bool b)
 |int (i:Int):eY K H (.int i) (.int i)
 |str (x:Str):eY K H (.str x) (.str x)
 |lst {a:Addr}{xs:List V}{ds:List PyData}:SqL K H a xs->gE K H xs ds->eY K H (.ref a) (.list ds)
 |tup {a:Addr}{xs:List V}{ds:List PyData}:SqT K H a xs->gE K H xs ds->eY K H (.ref a) (.tuple ds)
inductive gE(K:aB)(H:Hp):List V->List PyData->Prop
 |nil:gE K H [] []
 |cons {x:V}{xs:List V}{d:PyData}{ds:List PyData}:eY K H x d->gE K H xs ds->gE K H (x::xs) (d::ds)
end
section
variable{X:Cx}{pins:List (Addr×Obj)}{σ:St}{H:Hp}{s:af}
theorem Inv.reads(I:Inv X pins σ H s){x:V}{d:PyData}(h:eY X.K H x d):∀{u:ae},RelV x u->∃as,Reads s.heap u d as:=
 h.rec (motive_1:=λx d _=>∀{u:ae},RelV x u->∃as,Reads s.heap u d as) (motive_2:=λxs ds _=>∀{us:List ae},Vals xs us->∃as,ReadsAll s.heap us ds as) (λr=>by cases r;exact⟨_,.none⟩) (λb _ r=>by cases r;exact⟨_,.bool b⟩) (λi _ r=>by obtain⟨t,rfl⟩:=r;exact⟨_,.int i t⟩) (λx _ r=>by obtain⟨t,rfl⟩:=r;exact⟨_,.str x t⟩)
  (λh _ g _ r=>by
   cases r;obtain⟨its,rv,pl,_⟩:=I.list h;obtain⟨as,ra⟩:=g rv;obtain⟨o,ho,hc,n,hd⟩:=pl.isList;exact⟨_,Reads.list ho hc hd (by simpa using ra)⟩)
  (λh _ g _ r=>by
   cases r;obtain⟨its,rv,pl,_⟩:=I.tuple h;obtain⟨as,ra⟩:=g rv;obtain⟨o,ho,hc,n,hd⟩:=pl;exact⟨_,Reads.tuple ho hc hd (by simpa using ra)⟩)
  (λr=>by cases r;exact⟨_,.nil⟩) (λ_ _ a b _ r=>by
   cases r with
   |cons r1 r2=>
    obtain⟨as,ra⟩:=a r1;obtain⟨bs,rb⟩:=b r2;exact⟨_,.cons ra rb⟩)
end
section
variable{X:Cx}
end
end L2
namespace L2
open PySem PySem.Spec PyProof.Rows
section
variable{lt:Nat->Nat->Bool}
def Asc(lt:Nat->Nat->Bool)(p:Array Nat)(m:Nat):Prop:=∀i j,i<j->j<m->lt (p.getD j 0) (p.getD i 0)=false
end
section
variable{lt:Nat->Nat->Bool}
structure Part(lt:Nat->Nat->Bool)(p:Array Nat)(r:Nat×Array Nat):Prop where
 perm:r.2.Perm p
 size:r.2.size=p.size
 lo:1<=r.1
 hi:r.1<=p.size
 asc:Asc lt r.2 r.1
end
end L2
namespace HT
open PySem PySem.Spec PyProof.Rows L2
section
variable{prog:aF}{w:aD}{A:aE}{E:ae->af->Prop}{s:af}
end
end HT
namespace L2
open PySem PySem.Spec PyProof.Rows
def xx(K:aB)(C:Addr)(n:Nat)(tb:TS)(Eh:XK)(ts:TS):TS:=λD σ H=>tb {D with nx:=D.nx} σ H /\
 ∀(τ:St) (cls:ae) (H':Hp),τ.length=n->Eh cls none H'->bY K cls (.ref C)=some true/\ts {nx:=λ_ _=>False,rt:=D.rt} τ H'
theorem um{X:Cx}{C:Addr}{cn:Str}{np hpos pos:Pos}{body:List Stmt}{b₀:Stmt}{FG:List Stmt}{tb ts:TS}{Eh:XK}(hex:X.ex=[])(FI:X.stack=X.env::X.outer)(G3:X.env.frame=some X.env.locals)
  (hg:Gl X cn) (hm:X.mg cn=some (.ref C))
  (hb:∀pn Et,Passes (CX1 X.prog X.w) (X.inTry pn Et) Eh->PSs (X.inTry pn Et) body tb) (hs:∀x,PSs (X.held x) (b₀::FG) ts) (hd:(cn==("__debug__" : Str))=false) :
  PS X (.Try body [.ExceptHandler (some (.Name cn np)) none (b₀::FG) hpos] [] [] pos) (xx X.K C X.N.length tb Eh ts):=by
 intro pins s σ H D I h;obtain⟨h1,h2⟩:=h;refine wpAny_Try_except ?_;have KJ:∀Et,(X.inTry (X.pn++pins) Et).Ok:=λEt=>
  ⟨I.ok.mod,I.ok.kind,I.ok.glob,I.ok.blt,I.ok.above,I.ok.inj,I.ok.has,I.ok.cab,I.ok.hd,I.ok.frames,I.ok.stk,I.ok.exf,I.ok.bs,I.ok.bsz,I.ok.noex,I.ok.exfs,I.ok.funs,I.ok.frf⟩
 have toT:∀{Et σ H s},Inv X pins σ H s->Inv (X.inTry (X.pn++pins) Et) [] σ H s:=λ{Et σ H s} J=>
  ⟨KJ Et,J.os,J.bare,J.base,J.loc,J.cell,J.free,J.freeC,λp hp=>J.pin p (by simpa using hp),J.hok,J.len⟩
 have ofT:∀{Et FH σ H s},Inv (X.inTry (X.pn++pins) Et) FH σ H s->Inv X pins σ H s:=λ{Et FH σ H s} J=>
  ⟨I.ok,J.os,J.bare,J.base,J.loc,J.cell,J.free,J.freeC,λp hp=>J.pin p (List.mem_append_left _ hp),J.hok,J.len⟩
 have hP:Passes (CX1 X.prog X.w) (X.inTry (X.pn++pins) λe s₁=>aq (ao X.prog X.w) X.A (noteFrame e X.env) (λ_ s₂=>aq (ao X.prog X.w) X.A (setFlight e none) (λ_ s₃=>
   aq (ao X.prog X.w) X.A (handleBy e X.env [.ExceptHandler (some (.Name cn np)) none (b₀::FG) hpos]) (SP X pins D) X.xe s₃) X.xe s₂) X.xe s₁) Eh:=by
  intro FH σ' H' s' e s'' I' hcx;obtain⟨x,cls,H2,rfl,I2,F2,q⟩:=jF (X:=X.inTry (X.pn++pins) _) rfl rfl I' hex hcx;have I3:Inv X pins σ' H2 s'':=ofT I2;have ap:∀{Et b},Apart (X.inTry (X.pn++pins) Et) FH H2 b->Apart X pins H2 b:=λ{Et b} a=>⟨a.new,a.free,λp hp=>a.pin p (List.mem_append_left _ hp)⟩
  have F3:cx X pins H2 s''.heap x cls:=by
   obtain⟨oe,vs,T,oT,ts,a0,e1,e2,e3,e4,e5,e6,e7,e8,e9,HX⟩:=F2.tr;exact⟨ap F2.me,oe,vs,T,oT,ts,a0,e1,e2,e3,e4,e5,e6,e7,e8,e9,ap HX⟩
  obtain⟨oe,vs,_,_,_,_,e1,_,_,e4,_⟩:=id F3.tr;obtain⟨T,oT,MD,a0,W,hT,HY,aT⟩:=cx.flying I3 F3;have F0:=I.ok.frames;rw[FI]at F0 W;refine wpAny_looks_onW F0 G3 W λh4 W4 u4=>?_
  refine wpAny_landsW W4 λh5 W5 u5=>?_
  rw[<-FI]at W5;obtain⟨I5,F5⟩:=cx.back I3 hex F3.me e1 e4 hT HY aT W5 (u4.trans u5);obtain⟨ME,MF,T5,MG,MJ,a5,g1,g2,g3,g4,g5,g6,g7,g8,g9,MK⟩:=id F5.tr;obtain⟨Ia,Ja⟩:=h2 σ' cls H2 I3.len q;have LT:PySem.W.Looks (ao X.prog X.w) h5 (typeOf (.ref x)) cls:=by
   subst g2;exact(PySem.W.Looks.ld g1).andThen .now
  refine wpAny_handleBy_cons (codeAny_handlers_test (ij (I5.hold x) hg hm ?_ hd)) (by intro z;cases z);refine PySem.W.exm_one (K:=X.K) I5.kIn LT Ia _ _ _ _ (λ_ _ e=>e) ?_;refine codeAny_handlers_suite ?_;obtain⟨T6,ML,MM,a6,W6,KL,Ib,KN⟩:=cx.flying I5 F5;refine lands_againW W6 λh6 W6' u6=>?_
  obtain⟨I6,F6⟩:=cx.back I5 hex F5.me g1 g4 KL Ib KN W6' u6;refine bM (hs x pins _ _ _ _ (I6.hold x) Ja) (λf s9 r9=>?_) λ_ _ z=>bt z
  cases f with
  |ret u=>
   obtain⟨v,σ9,H9,I9,rv,q9⟩:=r9;exact⟨v,_,H9,I9.unhold I.ok,rv,q9⟩
  |next=>obtain⟨_,_,_,z⟩:=r9;exact bt z
  |brk=>obtain⟨_,_,_,z⟩:=r9;exact bt z
  |cont=>obtain⟨_,_,_,z⟩:=r9;exact bt z
 refine thn (hb _ _ hP [] s σ H _ (toT I) h1) λf s1 q=>?_
 cases f with
 |next=>obtain⟨σ1,H1,I1,q1⟩:=q;exact wpAny_execs_nil ⟨σ1,H1,ofT I1,q1⟩
 |brk=>obtain⟨σ1,H1,I1,q1⟩:=q;exact⟨σ1,H1,ofT I1,q1⟩
 |cont=>obtain⟨σ1,H1,I1,q1⟩:=q;exact⟨σ1,H1,ofT I1,q1⟩
 |ret u=>obtain⟨v,σ1,H1,I1,rv,q1⟩:=q;exact⟨v,σ1,H1,ofT I1,rv,q1⟩
section
variable{X:Cx}
def Dh:V->List V->Hp->VK->Prop:=λx vs H Q=>∃l xs j y,x=.ref l/\vs=[.int j,y]/\H l=some (.lst xs)/\xs.length<aO/\0<=j/\j<=xs.length/\Q .non (upd H l (.lst (xs.take j.toNat++y::xs.drop j.toNat)))
theorem CN:MtM X "list.insert" Dh:=by
 intro pins s σ H x vs v us Q I rx rv h;obtain⟨l,xs,j,y,rfl,rfl,hH,hz,hj,GN,q⟩:=h;cases rx;obtain⟨u,u2,rfl,ru,MQ⟩:=rv.two;obtain⟨t,rfl⟩:=ru;obtain⟨z,its,n,r,hl,e⟩:=I.lstM hH;have I_:=bx;have KR:Builtin.List.listFitsIndex j=true:=by
  have a:¬ j<0:=by lia
  simp[Builtin.List.listFitsIndex];lia
 refine call_meets PySem.F.slot_list_insert ⟨_,e,rfl⟩ PySem.F.entry_list_insert (PySem.F.args_list_insert_3 _ _ _) (PySem.AutoSeq1.list_insert_list_int_val_1 l its.toArray n j t u2 (by simp[KR]) (by rw[a7];lia)) ⟨e,?_⟩;refine⟨.non,_,I.lset (its':=its.take j.toNat++u2::its.drop j.toNat) hH e ?_ ((r.take _).append (.cons MQ (r.drop _))) ?_,rfl,q⟩
 ·have hk:(if j<0 then (j+(its.toArray.size:Int)).toNat else min j.toNat its.toArray.size)=j.toNat:=by
   rw[if_neg (by lia),a7];lia
  show (its.toArray.extract 0 (if j<0 then (j+(its.toArray.size:Int)).toNat else min j.toNat its.toArray.size)).push u2++its.toArray.extract (if j<0 then (j+(its.toArray.size:Int)).toNat else min j.toNat its.toArray.size)=_;rw[hk];simp;apply List.take_of_length_le;simp
 ·simp;lia
end
section
variable{X:Cx}{tg:Expr}
end
section
variable{κ:Type} [DecidableEq κ]
noncomputable def dk(kvs:List (κ×V))(k:κ):Option V:=(kvs.find? λkv=>decide (kv.1=k)).map (·.2)
noncomputable def putK(kvs:List (κ×V))(k:κ)(v:V):List (κ×V):=
 if (kvs.any λkv=>decide (kv.1=k))=true then kvs.map (λkv=>if kv.1=k then (kv.1,v)else kv)else kvs++[(k,v)]
theorem fS{p:κ×V}{r:List (κ×V)}{k:κ}(e:p.1=k):dk (p::r) k=some p.2:=by simp[dk,List.find?_cons,e]
theorem gp{p:κ×V}{r:List (κ×V)}{k:κ}(e:¬ p.1=k):dk (p::r) k=dk r k:=by simp[dk,List.find?_cons,e]
theorem lR(k:κ):∀kvs:List (κ×V),(kvs.any λkv=>decide (kv.1=k))=(dk kvs k).isSome
 | []=>rfl
 |p::r=>by
  rw[List.any_cons];by_cases e:p.1=k
  ·simp only[fS e,decide_eq_true e,Bool.true_or,Option.isSome_some]
  ·rw[gp e,decide_eq_false e,Bool.false_or];exact lR k r
theorem Fb(k j:κ)(y:V):∀kvs:List (κ×V),dk (kvs.map λkv=>if kv.1=k then (kv.1,y)else kv) j=(dk kvs j).map λx=>if j=k then y else x
 | []=>rfl
 |p::r=>by
  have ih:=Fb k j y r;rw[aN];by_cases h:p.1=k
  ·rw[if_pos h];by_cases e:p.1=j
   ·rw[fS (p:=(p.1,y)) e,fS e,Option.map_some,if_pos (e.symm.trans h)]
   ·rw[gp (p:=(p.1,y)) e,gp e,ih]
  ·rw[if_neg h];by_cases e:p.1=j
   ·rw[fS (p:=p) e,fS e,Option.map_some,if_neg (λz=>h (e.trans z))]
   ·rw[gp (p:=p) e,gp e,ih]
theorem k_(kvs:List (κ×V))(k:κ)(v:V):(putK kvs k v).length<=kvs.length+1:=by
 unfold putK;split
 ·rw[aV];lia
 ·rw[bP,bA,List.length_nil];lia
theorem eK.isSome_eq{o:Option V}{u:Option ae}(r:eK o u):o.isSome=u.isSome:=by
 cases o with
 |none=>cases u with
  |none=>rfl
  |some _=>exact(show False from r).elim
 |some _=>cases u with
  |none=>exact(show False from r).elim
  |some _=>rfl
theorem KV.val{kvs:List (κ×V)}{vs:List (κ×ae)}(r:KV kvs vs)(k:κ):eK (dk kvs k) (valueAt vs k):=by
 unfold KV at r
 induction r with
 |nil=>exact True.intro
 | @cons p q ps qs h t ih=>
  obtain⟨h1,h2⟩:=h;by_cases e:p.1=k
  ·have e':q.1=k:=h1.symm.trans e;have b:valueAt (q::qs) k=some q.2:=by simp[valueAt,List.find?_cons,e']
   rw[fS e,b];exact h2
  ·have e':¬ q.1=k:=λz=>e (h1.trans z)
   have b:valueAt (q::qs) k=valueAt qs k:=by simp[valueAt,List.find?_cons,e']
   rw[gp e,b];exact ih
theorem KV.any{kvs:List (κ×V)}{vs:List (κ×ae)}(r:KV kvs vs)(k:κ):(kvs.any λkv=>decide (kv.1=k))=vs.any λkv=>decide (kv.1=k):=by
 unfold KV at r
 induction r with
 |nil=>rfl
 |cons h t ih=>rw[List.any_cons,List.any_cons,ih,h.1]
theorem KV.repl{kvs:List (κ×V)}{vs:List (κ×ae)}(r:KV kvs vs)(k:κ){y:V}{u:ae}(ry:RelV y u) :
  KV (kvs.map λkv=>if kv.1=k then (kv.1,y)else kv) (vs.map λkv=>if kv.1=k then (kv.1,u)else kv):=by
 unfold KV at r ⊢
 induction r with
 |nil=>exact .nil
 | @cons p q ps qs h t ih=>
  rw[aN,aN];refine .cons ?_ ih;obtain⟨h1,h2⟩:=h;by_cases e:p.1=k
  ·rw[if_pos e,if_pos (h1.symm.trans e)];exact⟨h1,ry⟩
  ·rw[if_neg e,if_neg (λz=>e (h1.trans z))];exact⟨h1,h2⟩
theorem KV.put{kvs:List (κ×V)}{vs:List (κ×ae)}(r:KV kvs vs)(k:κ){y:V}{u:ae}(ry:RelV y u):KV (putK kvs k y) (stored vs k u):=by
 unfold putK stored;rw[r.any k];by_cases e:(vs.any λkv=>decide (kv.1=k))=true
 ·rw[if_pos e,if_pos e];exact r.repl k ry
 ·rw[if_neg e,if_neg e];exact Paired.snoc r ⟨rfl,ry⟩
theorem KV.length{kvs:List (κ×V)}{vs:List (κ×ae)}(r:KV kvs vs):kvs.length=vs.length:=Paired.length r
end
theorem gB{P:aF}{w:aD}{k:Key}{u:ae}(r:RelV (kV k) u):(zv P w).is k u=true:=by
 cases k with
 |inl i=>obtain⟨t,e⟩:=(show ∃t,u=ae.int i t from r);subst e;exact Cu P w i t
 |inr x=>obtain⟨t,e⟩:=(show ∃t,u=ae.str x t from r);subst e;exact yv P w x t
theorem nN{P:aF}{w:aD}:∀{ks:List Key}{us:List ae},Vals (ks.map kV) us->ItemsAre (zv P w) ks us
 | [],_,r=>by rw[List.map_nil]at r;cases r;exact .nil
 |k::ks,_,r=>by
  rw[aN]at r;cases r with
  |cons h t=>exact .cons (gB h) (nN t)
abbrev KT(H:Hp):List (List Key×V)->List (List Key×Addr×ae)->Prop:=Paired λp q=>p.1=q.1/\H q.2.1=some (.tup (p.1.map kV))/\RelV p.2 q.2.2
theorem KT.val{H:Hp}{kvs:List (List Key×V)}{xs:List (List Key×Addr×ae)}(r:KT H kvs xs)(k:List Key):eK (dk kvs k) ((atKey xs k).map (·.2)):=by
 induction r with
 |nil=>exact True.intro
 | @cons p q ps qs h t ih=>
  obtain⟨h1,_,h2⟩:=h;by_cases e:p.1=k
  ·have e':q.1=k:=h1.symm.trans e;have b:atKey (q::qs) k=some q.2:=by simp[atKey,List.find?_cons,e']
   rw[fS e,b];exact h2
  ·have e':¬ q.1=k:=λz=>e (h1.trans z)
   have b:atKey (q::qs) k=atKey qs k:=by simp[atKey,List.find?_cons,e']
   rw[gp e,b];exact ih
theorem KT.repl{H:Hp}{kvs:List (List Key×V)}{xs:List (List Key×Addr×ae)}(r:KT H kvs xs)(k:List Key){y:V}{u:ae}(ry:RelV y u) :
  KT H (kvs.map λkv=>if kv.1=k then (kv.1,y)else kv) (xs.map (putAt k u)):=by
 induction r with
 |nil=>exact .nil
 | @cons p q ps qs h t ih=>
  rw[aN,aN];refine .cons ?_ ih;obtain⟨h1,h2,h3⟩:=h;unfold putAt;by_cases e:p.1=k
  ·rw[if_pos e,if_pos (h1.symm.trans e)];exact⟨h1,h2,ry⟩
  ·rw[if_neg e,if_neg (λz=>e (h1.trans z))];exact⟨h1,h2,h3⟩
theorem KT.put{H:Hp}{kvs:List (List Key×V)}{xs:List (List Key×Addr×ae)}(r:KT H kvs xs)(k:List Key){b:Addr}{y:V}{u:ae}(hb:H b=some (.tup (k.map kV)))(ry:RelV y u) :
  KT H (putK kvs k y) (storedH xs k b u):=by
 have e:(kvs.any λkv=>decide (kv.1=k))=(atKey xs k).isSome:=by
  rw[lR,(r.val k).isSome_eq,Option.isSome_map]
 unfold putK storedH;rw[e];by_cases q:(atKey xs k).isSome=true
 ·rw[if_pos q,if_pos q];exact r.repl k ry
 ·rw[if_neg q,if_neg q];exact Paired.snoc r ⟨rfl,hb,ry⟩
theorem KT.keeps{H H':Hp}{kvs:List (List Key×V)}{xs:List (List Key×Addr×ae)}(r:KT H kvs xs)(ht:∀b ys,H b=some (.tup ys)->H' b=some (.tup ys)):KT H' kvs xs:=
 Paired.mapP r λ_ _ z=>⟨z.1,ht _ _ z.2.1,z.2.2⟩
section
variable{P:aF}{w:aD}{H:Hp}{h:Heap}{a:Addr}
theorem nZ{u:HO}(ok:HOk P w H h)(e:Rd H a u):zq P w H h a u:=e.ok ok
theorem iQ{kvs:List (Key×V)}(ok:HOk P w H h)(e:Rd H a (.dK kvs)):kvs.length<=aO/\(a==sysModules)=false/\∃vs,KV kvs vs/\h.DictOf (zv P w) a vs:=
 show zq P w H h a (.dK kvs)from nZ ok e
theorem jb{kvs:List (Key×V)}(ok:HOk P w H h)(e:H a=some (.dK kvs)):kvs.length<=aO/\(a==sysModules)=false/\∃vs,KV kvs vs/\h.DictOf (zv P w) a vs:=iQ ok (.inl e)
theorem i'{ks:List Key}(ok:HOk P w H h)(e:H a=some (.tup (ks.map kV))):(tupleKind (zv P w)).is h ks a:=by
 obtain⟨_,its,r,o,h1,h2,n,h3⟩:=(show zq P w H h a (.tup (ks.map kV))from ok a _ e)
 exact⟨o,its.toArray,n,h1,h2,h3,by simpa using nN r⟩
theorem iM{kvs:List (List Key×V)}(ok:HOk P w H h)(e:Rd H a (.dT kvs)):kvs.length<=aO/\(a==sysModules)=false /\
  ∃xs,KT H kvs xs/\h.DictOfH (tupleKind (zv P w)) a xs:=by
 obtain⟨z,y,xs,r,o,es,ep,h1,h2,h3,h4,h5⟩:=(show zq P w H h a (.dT kvs)from nZ ok e)
 refine⟨z,y,xs,r,o,es,ep,h1,h2,h3,h4,λx hx=>?_,h5⟩;have all:∀{l:List (List Key×V)}{m:List (List Key×Addr×ae)},KT H l m->∀x∈m,(tupleKind (zv P w)).is h x.1 x.2.1:=by
  intro l m q
  induction q with
  |nil=>intro x hx;exact nomatch hx
  | @cons p q ps qs hq t ih=>
   intro x hx;rcases aI.mp hx with e|hx
   ·subst e;exact i' ok (by rw[<-hq.1];exact hq.2.1)
   ·exact ih x hx
 exact all r x hx
theorem Ce{kvs:List (List Key×V)}(ok:HOk P w H h)(e:H a=some (.dT kvs)):kvs.length<=aO/\(a==sysModules)=false /\
  ∃xs,KT H kvs xs/\h.DictOfH (tupleKind (zv P w)) a xs:=iM ok (.inl e)
end
def eQ(H:Hp)(a:Addr)(y:V)(r:Option V):Prop:=
 (∃kvs k,Rd H a (.dK kvs)/\y=kV k/\r=dk kvs k)\/∃kvs k b,Rd H a (.dT kvs)/\y=.ref b/\H b=some (.tup (k.map kV))/\r=dk kvs k
def jX(H:Hp)(a:Addr)(y v:V)(H':Hp):Prop:=
 (∃kvs k,H a=some (.dK kvs)/\y=kV k/\kvs.length<aO/\H'=upd H a (.dK (putK kvs k v))) \/
 ∃kvs k b,H a=some (.dT kvs)/\y=.ref b/\H b=some (.tup (k.map kV))/\kvs.length<aO/\H'=upd H a (.dT (putK kvs k v))
theorem eQ.k{H:Hp}{a:Addr}{kvs:List (Key×V)}{k:Key}(e:H a=some (.dK kvs)):eQ H a (kV k) (dk kvs k):=.inl ⟨kvs,k,.inl e,rfl,rfl⟩
theorem jX.k{H:Hp}{a:Addr}{kvs:List (Key×V)}{k:Key}{v:V}(e:H a=some (.dK kvs))(hl:kvs.length<aO):jX H a (kV k) v (upd H a (.dK (putK kvs k v))):=.inl ⟨kvs,k,e,rfl,hl,rfl⟩
section
variable{X:Cx}{pins:List (Addr×Obj)}{σ:St}{H:Hp}{s:af}{a:Addr}{y v:V}{u r:ae}{o:Option V}{A:aE}{E:ae->af->Prop}
theorem Inv.big(I:Inv X pins σ H s):sysModules<s.heap.objs.size:=by
 have h:ar<s.heap.objs.size:=(I.mod.glob.keeps I.bk).lt;exact Nat.lt_trans (by decide) h
theorem wG{Q:ae->af->Prop}(hu:A.units+1<cLine)(I:Inv X pins σ H s)(g:eQ H a y (some v))(ry:RelV y u)(h:∀w' s',Inv X pins σ H s'->RelV v w'->Q w' s') :
  aq (ao X.prog X.w) A (getItem (.ref a) u) Q E s:=by
 rcases g with ⟨kvs,k,e,ey,l⟩|⟨kvs,k,b,e,ey,eb,l⟩
 ·subst ey;obtain⟨z,hd,vs,rel,dd⟩:=iQ I.hok e;obtain⟨w',hw,GI⟩:=eK.some_of (v:=v) (o:=valueAt vs k) (by rw[l];exact rel.val k);exact wpAny_getItem_of (gB ry) dd.mapOf hw (h w' _ (I.tok _) GI)
 ·subst ey;cases (show u=bh b from ry);obtain⟨z,hd,xs,rel,dd⟩:=iM I.hok e;obtain⟨w',hw,GI⟩:=eK.some_of (v:=v) (o:=(atKey xs k).map (·.2)) (by rw[l];exact rel.val k);obtain⟨p,hp,MR⟩:=bK.mp hw;refine wpAny_getItem_heap (tupleKind_room_in1 hu) (i' I.hok eb) dd hp ?_;rw[MR];exact h w' _ (I.tok _) GI
theorem EC{Q:ae->af->Prop}(hu:A.units+1<cLine)(I:Inv X pins σ H s)(g:eQ H a y o)(ry:RelV y u)(h:∀s',Inv X pins σ H s'->Q (.bool o.isSome) s') :
  aq (ao X.prog X.w) A (a_ .In u (.ref a)) Q E s:=by
 rcases g with ⟨kvs,k,e,ey,l⟩|⟨kvs,k,b,e,ey,eb,l⟩
 ·subst ey;obtain⟨z,hd,vs,rel,dd⟩:=iQ I.hok e;refine wpAny_in_of (gB ry) hd dd.mapOf ?_;rw[<-(rel.val k).isSome_eq,<-l];exact h _ (I.tok _)
 ·subst ey;cases (show u=bh b from ry);obtain⟨z,hd,xs,rel,dd⟩:=iM I.hok e;refine wpAny_in_heap (tupleKind_room_in1 hu) (i' I.hok eb) hd dd ?_;have q:=(rel.val k).isSome_eq;rw[Option.isSome_map]at q;rw[<-q,<-l];exact h _ (I.tok _)
theorem CJ{Q:ae->af->Prop}(hu:A.units+1<cLine)(I:Inv X pins σ H s)(g:eQ H a y o)(ry:RelV y u)(h:∀s',Inv X pins σ H s'->Q (.bool (!o.isSome)) s') :
  aq (ao X.prog X.w) A (a_ .NotIn u (.ref a)) Q E s:=by
 rcases g with ⟨kvs,k,e,ey,l⟩|⟨kvs,k,b,e,ey,eb,l⟩
 ·subst ey;obtain⟨z,hd,vs,rel,dd⟩:=iQ I.hok e;refine wpAny_notIn_of (gB ry) hd dd.mapOf ?_;rw[<-(rel.val k).isSome_eq,<-l];exact h _ (I.tok _)
 ·subst ey;cases (show u=bh b from ry);obtain⟨z,hd,xs,rel,dd⟩:=iM I.hok e;refine wpAny_notIn_heap (tupleKind_room_in1 hu) (i' I.hok eb) hd dd ?_;have q:=(rel.val k).isSome_eq;rw[Option.isSome_map]at q;rw[<-q,<-l];exact h _ (I.tok _)
theorem jq{h':Heap}{t':Nat}{ob:HO}(I:Inv X pins σ H s)(mu:Mut (H a))(hs:Heap.SameBut a s.heap h')(he:∃q,h'.get? a=some q)(new:zq X.prog X.w (upd H a ob) h' a ob) :
  Inv X pins σ (upd H a ob) {s with heap:=h',toks:=t'}:=
 I.write (x:=a) (e:=a) mu (.inl rfl) (λb q hb z=>(hs.2 b hb).trans z) he new
theorem mi{P:aF}{w:aD}{H':Hp}{h':Heap}{kvs:List (Key×V)}{vs:List (Key×ae)}(z:kvs.length<=aO)(hd:(a==sysModules)=false)(rel:KV kvs vs)(dd:h'.DictOf (zv P w) a vs) :
  zq P w H' h' a (.dK kvs):=⟨z,hd,vs,rel,dd⟩
theorem yI{H':Hp}{Q:Unit->af->Prop}(hu:A.units+1<cLine)(I:Inv X pins σ H s)(g:jX H a y v H')(ry:RelV y u)(rv:RelV v r)(h:∀s',Inv X pins σ H' s'->Q () s') :
  aq (ao X.prog X.w) A (setItem (.ref a) u r) Q E s:=by
 rcases g with ⟨kvs,k,e,ey,l,eH⟩|⟨kvs,k,b,e,ey,eb,l,eH⟩
 ·subst ey eH;obtain⟨z,hd,vs,rel,dd⟩:=jb I.hok e;have hz:vs.length<=sizeLine:=by rw[<-rel.length];exact z
  have hl:(putK kvs k v).length<=sizeLine:=by have:=k_ kvs k v;lia
  refine wpAny_setItem_pairs (hsz:=hz) (gB ry) dd λh' G5 hs=>h _ ?_
  have he:∃q,h'.get? a=some q:=let ⟨q,_,_,hq,_⟩:=G5;⟨q,hq⟩
  exact jq I (by rw[e];exact True.intro) hs he (mi hl hd (rel.put k rv) G5)
 ·subst ey eH;cases (show u=bh b from ry);obtain⟨z,hd,xs,rel,dd⟩:=Ce I.hok e;have hz:xs.length<=sizeLine:=by rw[<-Paired.length rel];exact z
  have hl:(putK kvs k v).length<=sizeLine:=by have:=k_ kvs k v;lia
  refine wpAny_setItem_heap (hsz:=hz) (tupleKind_room_in1 hu) (i' I.hok eb) dd λh' G5 hs=>h _ ?_
  obtain⟨q,es,ep,hq,h2,h3,h4,_,h5⟩:=G5;refine jq I (by rw[e];exact True.intro) hs ⟨q,hq⟩ ⟨hl,hd,_,(rel.put k eb rv).keeps λc ys ec=>?_,q,es,ep,hq,h2,h3,h4,h5⟩;rw[qg (BU ec e (λz=>nomatch z))];exact ec
end
section
variable{X:Cx}{pins:List (Addr×Obj)}{σ:St}{H:Hp}{s:af}{a:Addr}{kvs:List (Key×V)}{k:Key}{u:ae}{A:aE}{E:ae->af->Prop}
end
theorem Bz{X:Cx}{pins:List (Addr×Obj)}{σ:St}{H:Hp}{s:af}{a:Addr}{y:V}{o:Option V}(I:Inv X pins σ H s)(g:eQ H a y o):s.TypeIs (.ref a) "dict":=by
 rcases g with ⟨kvs,k,e,_,_⟩|⟨kvs,k,b,e,_,_,_⟩
 ·obtain⟨_,_,vs,_,dd⟩:=iQ I.hok e;exact dd.typeIs
 ·obtain⟨_,_,xs,_,dd⟩:=iM I.hok e;exact dd.typeIs
section
variable{X:Cx}{o i e value:Expr}{pos pos' tpos:Pos}{td ty tv:TE}
end
theorem sL{P:aF}{w:aD}{H:Hp}(h:Heap)(hb:sysModules<h.objs.size):zq P w H (h.push {cls:=.type "dict",data:=.dict #[]}) h.objs.size (.dK []):=
 ⟨bH _,beq_eq_false_iff_ne.mpr (Ne.symm (bg hb)),[],.nil,Heap.DictOf.new h⟩
def Em:TE:=λ_ H Q=>∀p,H p=none->Q (.ref p) (upd H p (.dK []))
section
variable{X:Cx}{pos:Pos}
theorem yz:PE X (.Dict [] [] pos) Em:=λpins s σ H Q I h=>
 wpAny_Dict_empty ⟨.ref s.heap.objs.size,_,I.laid (a:=s.heap.objs.size) (o:=.dK []) (t':=s.toks) (λ_ _ q=>Heap.get?_push_of_some _ q) (aG _) (sL s.heap I.big),rfl,h _ (I.hok.fresh (aG _))⟩
end
def lF:List (TE×TE)->St->Hp->(List (V×V)->Hp->Prop)->Prop
 | [],_,H,Q=>Q [] H
 | (tk,tv)::r,σ,H,Q=>tk σ H λx H1=>tv σ H1 λy H2=>lF r σ H2 λps H3=>Q ((x,y)::ps) H3
abbrev VV:List (V×V)->List (ae×ae)->Prop:=Paired λp q=>RelV p.1 q.1/\RelV p.2 q.2
def PPs(X:Cx)(pos:Pos)(keys:List (Option Expr))(values:List Expr)(Ho:List (TE×TE)):Prop:=
 ∀(pins:List (Addr×Obj)) (s:af) (σ:St) (H:Hp) (Q:List (V×V)->Hp->Prop),Inv X pins σ H s->lF Ho σ H Q ->
  aq (ao X.prog X.w) X.A (evalPairs (pairTrees keys values X.env pos)) (λvs s'=>∃ps H',Inv X pins σ H' s'/\VV ps vs/\Q ps H') X.xe s
theorem uQ{X:Cx}{pos:Pos}:PPs X pos [] [] []:=λpins s σ H Q I h=>pairTrees_nil_walk ⟨[],H,I,.nil,h⟩
theorem w6{X:Cx}{pos:Pos}{k v:Expr}{ks:List (Option Expr)}{vs:List Expr}{tk tv:TE}{Ho:List (TE×TE)}(hk:PE X k tk)(hv:PE X v tv)(hr:PPs X pos ks vs Ho) :
  PPs X pos (some k::ks) (v::vs) ((tk,tv)::Ho):=λpins s σ H Q I h=>
 pairTrees_cons_walk (thn (hk pins s σ H _ I h) λu s1 ⟨x,H1,I1,rx,q1⟩=>thn (hv pins s1 σ H1 _ I1 q1) λw2 s2 ⟨y,H2,I2,ry,q2⟩=>
  thn (hr pins s2 σ H2 _ I2 q2) λws s3 ⟨ps,H3,I3,rel,q3⟩=>⟨(x,y)::ps,H3,I3,.cons ⟨rx,ry⟩ rel,q3⟩)
noncomputable def fk(kvs more:List (Key×V)):List (Key×V):=more.foldl (λacc kv=>putK acc kv.1 kv.2) kvs
theorem KV.merge:∀{more:List (Key×V)}{rs:List (Key×ae)}{kvs:List (Key×V)}{vs:List (Key×ae)},KV more rs->KV kvs vs->KV (fk kvs more) (merged vs rs):=by
 intro more rs kvs vs r;unfold KV at r
 induction r generalizing kvs vs with
 |nil=>intro q;exact q
 | @cons p q ps qs h t ih=>
  intro r0;have e:KV (putK kvs p.1 p.2) (stored vs q.1 q.2):=by
   have:=r0.put p.1 h.2;rw[<-h.1];exact this
  exact ih e
theorem lA:∀(more kvs:List (Key×V)),(fk kvs more).length<=kvs.length+more.length
 | [],kvs=>by show kvs.length<=kvs.length+0;lia
 |p::r,kvs=>by
  have h1:=lA r (putK kvs p.1 p.2);have h2:=k_ kvs p.1 p.2;show (fk (putK kvs p.1 p.2) r).length<=_;rw[bA];lia
theorem nX{P:aF}{w:aD}:∀{kvs:List (Key×V)}{ws:List (ae×ae)},VV (kvs.map λkv=>(kV kv.1,kv.2)) ws->∃rs,Carries (zv P w) ws rs/\KV kvs rs
 | [],_,r=>by rw[List.map_nil]at r;cases r;exact⟨[],True.intro,.nil⟩
 |p::kvs,_,r=>by
  rw[aN]at r;cases r with
  | @cons a b as bs h t=>
   obtain⟨rs,c,q⟩:=nX (P:=P) (w:=w) t;obtain⟨b1,b2⟩:=b;exact⟨(p.1,b2)::rs,⟨gB h.1,rfl,c⟩,.cons ⟨rfl,h.2⟩ q⟩
def uT(Ho:List (TE×TE)):TE:=λσ H Q=>∀p,H p=none->lF Ho σ (upd H p (.dK [])) λps H2=>H2 p=some (.dK [])/\∃kvs:List (Key×V),ps=kvs.map (λkv=>(kV kv.1,kv.2))/\kvs.length<=15/\Q (.ref p) (upd H2 p (.dK (fk [] kvs)))
theorem CZ{X:Cx}{pos:Pos}{keys:List (Option Expr)}{values:List Expr}{Ho:List (TE×TE)}(h:PPs X pos keys values Ho)(FW:keys.all (·.isSome)=true)(hl:keys.length=values.length)(h0:keys≠[])
  (MT:keys.length<=15):PE X (.Dict keys values pos) (uT Ho):=by
 intro pins s σ H Q I q;have hn:=I.hok.fresh (aG s.heap.objs.size);have I1:=I.laid (a:=s.heap.objs.size) (o:=.dK []) (h':=s.heap.push {cls:=.type "dict",data:=.dict #[]}) (t':=s.toks) (λ_ _ q=>Heap.get?_push_of_some _ q) (aG _) (sL s.heap I.big);refine wpAny_Dict_walk (knd:=zv X.prog X.w) FW hl h0 MT (thn (h pins _ σ _ _ I1 (q _ hn)) λws s2 ⟨ps,H2,I2,rel,e,kvs,ep,lk,q2⟩=>?_);subst ep;obtain⟨rs,c,rk⟩:=nX (P:=X.prog) (w:=X.w) rel;obtain⟨z,hd,Oi,r0,dd⟩:=jb I2.hok e;cases r0;refine⟨rs,c,dd,λh' G5 hs=>⟨.ref s.heap.objs.size,_,?_,rfl,q2⟩⟩;have hz:(fk [] kvs).length<=sizeLine:=by
  have h1:=lA kvs [];rw[List.length_nil]at h1;rw[bx];lia
 have he:∃q,h'.get? s.heap.objs.size=some q:=let ⟨q,_,_,hq,_⟩:=G5;⟨q,hq⟩
 exact jq I2 (by rw[e];exact True.intro) hs he (mi hz hd (rk.merge .nil) G5)
structure M1(X:Cx)(o:Expr)(m:Str)(apos:Pos)(e:Expr)(cpos:Pos):Prop where
 base:attributeBase o m X.env (eval o X.env)=eval o X.env
 few:((backTo cpos (aX [e] X.env)).all (λx=>!x.1)&&(backToKw cpos (keywordEach [] X.env)).all (λx=>x.1.isSome)
  && decide (([e]:List Expr).length+([]:List Keyword).length+(if ([]:List Keyword).isEmpty then 0 else 1)<30))=true
 line:(apos.endLine==cpos.line)=true
 trees:backTo cpos (aX [e] X.env)=[(false,eval e X.env)]
structure M2(X:Cx)(o:Expr)(m:Str)(apos:Pos)(e f:Expr)(cpos:Pos):Prop where
 base:attributeBase o m X.env (eval o X.env)=eval o X.env
 few:((backTo cpos (aX [e,f] X.env)).all (λx=>!x.1)&&(backToKw cpos (keywordEach [] X.env)).all (λx=>x.1.isSome)
  && decide (([e,f]:List Expr).length+([]:List Keyword).length+(if ([]:List Keyword).isEmpty then 0 else 1)<30))=true
 line:(apos.endLine==cpos.line)=true
 trees:backTo cpos (aX [e,f] X.env)=[(false,eval e X.env),(false,eval f X.env)]
section
variable{X:Cx}{pins:List (Addr×Obj)}{σ:St}{H:Hp}{s:af}{a:Addr}{y d:V}{u r:ae}{o:Option V}{A:aE}{E:ae->af->Prop}
end
section
variable{X:Cx}{o e f:Expr}{apos cpos:Pos}{td ty tx:TE}
end
section
variable{X:Cx}{pins:List (Addr×Obj)}{σ:St}{H:Hp}{s:af}{a:Addr}{kvs:List (Key×V)}{A:aE}{E:ae->af->Prop}
end
section
variable{X:Cx}{pins:List (Addr×Obj)}{σ:St}{H:Hp}{s:af}{a:Addr}{y:V}{u:ae}{A:aE}{E:ae->af->Prop}
end
section
variable{X:Cx}
end
end L2
namespace HT
open PySem PySem.Spec PyProof.Rows L2
section
variable{prog:aF}{w:aD}{A:aE}{E:ae->af->Prop}{s:af}
theorem nQ{l:Addr}{its:Array ae}{Q:List ae->af->Prop}(ht:IsTup s.heap l its)(hz:its.size<=aO)
  (h:Q its.toList {s with heap:=(s.heap.push (aQ "list" #[] 0)).update s.heap.objs.size (bq (· ++ its))}) :
  aq (ao prog w) A (collect (.ref l)) Q E s:=by
 obtain⟨o,ho,hc,n,hd⟩:=id ht;unfold collect;apply au;apply wpAny_runValue;apply codeAny_builtin entry_proto_collect';show aq _ _ (do again (.builtin "list.__iadd__" ⟨[<-newList [],.ref l],[]⟩)) _ _ s;apply au;refine wpAny_newList (hsz:=bH _) ?_;refine aK ⟨Code.quiet_builtin _ (by decide +kernel),?_⟩;apply codeAny_builtin entry_list_iadd';show aq _ _ (Builtin.List.listExtendWith (.ref s.heap.objs.size) (.ref l) (.ref s.heap.objs.size)) _ _ ({s with heap:=s.heap.push (aQ "list" #[] 0)}:af);have hS:(s.heap.push (aQ "list" #[] 0)).get? s.heap.objs.size=some (aQ "list" #[] 0):=Heap.get?_push_size _ rfl;have hT:=Heap.get?_push_of_some (aQ "list" #[] 0) ho;unfold Builtin.List.listExtendWith;apply au;refine wpAny_typeOf (T:="tuple") ⟨o,hT,hc⟩ ?_;rw[if_pos (by simp)];apply au;refine listItems_at hT hd ?_;apply au;refine listItems_at hS rfl ?_;rw[if_neg (by simp)];apply au;refine listUpdate_at hS rfl ?_ (bH _) (by show (#[]++its).size<=aO+1;rw[Array.size_append];show 0+its.size<=_;lia);apply aK;show aq (ao prog w) A (load s.heap.objs.size>>=λo=>match o.data with
  | .seq xs _=>pure xs.toList
  |_=>unsupported "internal:collect") Q E _
 apply au;refine wpAny_load (get?_update_seq hS _) ?_;show aq _ _ (pure ((#[]:Array ae)++its).toList) Q E _;rw[show ((#[]:Array ae)++its).toList=its.toList by simp];exact aK h
theorem As{l:Addr}{vs:List ae}{ns:List Int}{Q:ae->af->Prop}(ht:IsTup s.heap l vs.toArray)(hI:bp vs ns)(Ii:vs.length<64)
  (h:∀(out:Array ae) (F9:List Int),bp out.toList F9->F9.Perm ns->F9.Pairwise (·<=·)->Q (.ref (s.heap.objs.size+1)) {s with heap:=sortedAll s.heap vs out}) :
  aq (ao prog w) A (call (.builtin "sorted") [.ref l]) Q E s:=by
 refine Calls.call_function_entry kind_sorted plain_sorted entry_sorted (args_sorted1 _) ?_;unfold Builtin.«sorted»;apply au (m:=checkCount "sorted" 1 1 _);apply aK;apply au;refine nQ ht (by rw[a7,bx];lia) ?_;apply au;refine wpAny_newList (hsz:=by rw[bx];show vs.length<=_;lia) ?_;have hz:((s.heap.push (aQ "list" #[] 0)).update s.heap.objs.size (bq (· ++ vs.toArray))).objs.size=s.heap.objs.size+1:=by rw[Heap.size_update,size_push']
 have hL:(((s.heap.push (aQ "list" #[] 0)).update s.heap.objs.size (bq (· ++ vs.toArray))).push (aQ "list" vs.toArray 0)).get? (s.heap.objs.size+1)=some (aQ "list" vs.toArray 0):=hz▸Heap.get?_push_size _ rfl;show aq _ _ _ _ _ ({s with heap:=((s.heap.push (aQ "list" #[] 0)).update s.heap.objs.size (bq (· ++ vs.toArray))).push (aQ "list" vs.toArray 0)}:af);rw[hz];apply au;apply dh;refine wpAny_call_entry slot_list_sort ⟨_,hL,rfl⟩ entry_list_sort (list_sort_tree hL hI Ii λout F9 a1 a2 a3=>⟨_,rfl,?_⟩) (args_list_sort _);exact aK ⟨_,rfl,h out F9 a1 a2 a3⟩
end
end HT
namespace L2
open PySem PySem.Spec PyProof.Rows
variable{X:Cx}
def Ax(K:aB):List V->Hp->VK->Prop:=λvs H Q=>∃(l:Addr) (ns:List Int),vs=[.ref l]/\SqT K H l (ns.map V.int)/\ns.length<64/\∀(D:Addr) (ms:List Int),H D=none->ms.Perm ns->ms.Pairwise (·<=·)->Q (.ref D) (upd H D (.lst (ms.map V.int)))
theorem Bo:qQ X (.builtin "sorted") (Ax X.K):=by
 intro pins s σ H xs us Q I r ⟨l,ns,e,hl,Ii,q⟩;subst e;obtain⟨u,rfl,ru⟩:=r.one;cases ru;obtain⟨its,rv,ht,hz⟩:=I.tuple hl;have hI:=intsAre_of rv;have hle:=bp.length hI;refine HT.As ht hI (by rw[hle];exact Ii) λout F9 a1 a2 a3=>?_
 obtain⟨c,hc⟩:=sortedAll_at s.heap its out;have keep:∀b o,s.heap.get? b=some o->(sortedAll s.heap its out).get? b=some o:=λb o e=>sortedAll_old e
 have hn:H (s.heap.objs.size+1)=none:=I.hok.fresh (Nat.le_succ _);have JI:F9.length=ns.length:=a2.length_eq;exact⟨.ref (s.heap.objs.size+1),_,I.laid (t':=s.toks) (o:=.lst (F9.map V.int)) keep (Nat.le_succ _) ⟨by rw[aV,bx];lia,out.toList,c,kN a1,by rw[Array.toArray_toList];exact hc⟩,rfl,q _ F9 hn a2 a3⟩
noncomputable def bI(kvs:List (Int×Int)):List (Key×V):=kvs.map λp=>(Sum.inl p.1,V.int p.2)
noncomputable def atK(kvs:List (Int×Int))(i:Int):Option Int:=(kvs.find? λp=>decide (p.1=i)).map (·.2)
noncomputable def cM(kvs:List (Int×Int))(i v:Int):List (Int×Int):=if (kvs.any λp=>decide (p.1=i))=true then kvs.map (λp=>if p.1=i then (p.1,v)else p)else kvs++[(i,v)]
noncomputable def cY(kvs more:List (Int×Int)):List (Int×Int):=more.foldl (λacc p=>cM acc p.1 p.2) kvs
theorem rY(a i:Int):decide ((Sum.inl a:Key)=Sum.inl i)=decide (a=i):=decide_eq_decide.mpr ⟨λh=>Sum.inl.inj h,λh=>by rw[h]⟩
theorem uu(kvs:List (Int×Int))(i:Int):dk (bI kvs) (Sum.inl i)=(atK kvs i).map V.int:=by
 rw[dk,atK,bI]
 induction kvs with
 |nil=>rfl
 |cons p r ih=>
  rw[aN,List.find?_cons,List.find?_cons];rw[show decide ((Sum.inl p.1,V.int p.2).fst=(Sum.inl i:Key))=decide (p.1=i)from rY p.1 i];cases decide (p.1=i)with
  |true=>rfl
  |false=>exact ih
theorem sN(kvs:List (Int×Int))(i:Int):((bI kvs).any λkv=>decide (kv.1=Sum.inl i))=kvs.any λp=>decide (p.1=i):=by
 rw[bI,List.any_map]
 congr 1
 funext p;exact rY p.1 i
theorem mM(kvs:List (Int×Int))(i:Int):(dk (bI kvs) (Sum.inl i)).isSome=kvs.any λp=>decide (p.1=i):=by
 rw[<-lR,sN]
theorem tq(kvs:List (Int×Int))(i v:Int):putK (bI kvs) (Sum.inl i) (V.int v)=bI (cM kvs i v):=by
 rw[putK,cM,sN];by_cases h:(kvs.any λp=>decide (p.1=i))=true
 ·rw[if_pos h,if_pos h,bI,bI,ck,ck];refine List.map_congr_left λp _=>?_
  show (if (Sum.inl p.1:Key)=Sum.inl i then ((Sum.inl p.1:Key),V.int v)else (Sum.inl p.1,V.int p.2))=_;by_cases e:p.1=i
  ·rw[if_pos (by rw[e])];show _=((Sum.inl (if p.1=i then (p.1,v)else p).1:Key),V.int (if p.1=i then (p.1,v)else p).2)
   rw[if_pos e]
  ·rw[if_neg (λz=>e (Sum.inl.inj z))];show _=((Sum.inl (if p.1=i then (p.1,v)else p).1:Key),V.int (if p.1=i then (p.1,v)else p).2)
   rw[if_neg e]
 ·rw[if_neg h,if_neg h,bI,bI,List.map_append];rfl
theorem sk:∀(ms kvs:List (Int×Int)),fk (bI kvs) (bI ms)=bI (cY kvs ms)
 | [],kvs=>rfl
 |p::r,kvs=>by
  show fk (putK (bI kvs) (Sum.inl p.1) (V.int p.2)) (bI r)=_;rw[tq,sk r];rfl
theorem mH(kvs:List (Int×Int)):(bI kvs).length=kvs.length:=aV ..
section
variable{X:Cx}
def A0:V->List V->Hp->VK->Prop:=λx vs H Q=>∃a b ks ms,x=.ref a/\vs=[.ref b]/\a≠b/\H a=some (.dK ks)/\H b=some (.dK ms)/\ks.length+ms.length<=aO/\Q .non (upd H a (.dK (fk ks ms)))
theorem vD:MtM X "dict.update" A0:=by
 intro pins s σ H x vs v us Q I rx rv h;obtain⟨a,b,ks,ms,rfl,rfl,KS,ha,hb,hz,q⟩:=h;cases rx;obtain⟨u,rfl,ru⟩:=rv.one;cases ru;obtain⟨z,hd,vs,rel,dd⟩:=jb I.hok ha;obtain⟨z2,hd2,MU,Jf,GR⟩:=jb I.hok hb;refine call_meetsIn PySem.F.slot_dict_update dd.typeIs PySem.F.entry_dict_update (PySem.F.args_dict_update_2 _ _) (meets_dict_update (zv X.prog X.w) a b KS hd2)
  ⟨vs,MU,dd,GR,by rw[<-rel.length,<-Jf.length];exact hz,λh' G5 _ hs=>?_⟩
 have he:∃q,h'.get? a=some q:=let ⟨q,_,_,hq,_⟩:=G5;⟨q,hq⟩
 have hl:(fk ks ms).length<=sizeLine:=bB (lA ms ks) hz;exact⟨.non,_,jq (t':=s.toks) I (by rw[ha];exact True.intro) hs he (mi hl hd (Jf.merge rel) G5),rfl,q⟩
def AV:List V->Hp->VK->Prop:=λvs H Q=>∃(l:Addr) (kvs:List (Int×Int)),vs=[.ref l]/\H l=some (.dK (bI kvs))/\kvs.length<64/\∀(D:Addr) (ms:List Int),H D=none->ms.Perm (kvs.map (·.1))->ms.Pairwise (·<=·)->Q (.ref D) (upd H D (.lst (ms.map V.int)))
theorem nV{P:aF}{w:aD}:∀{ks:List (Int×Int)}{vs:List (Key×ae)}{xs:List ae},KV (bI ks) vs->xs.length=vs.length->(∀(j:Nat) (v:ae),xs[j]? = some v->∃k x,vs[j]? = some (k,x)/\(zv P w).is k v=true)->bp xs (ks.map (·.1))
 | [],vs,xs,r,hl,h=>by
  cases r;cases xs with
  |nil=>exact .nil
  |cons _ _=>cases hl
 |p::ks,vs,xs,r,hl,h=>by
  cases r with
  | @cons a b as bs h1 t=>
   cases xs with
   |nil=>cases hl
   |cons x xs=>
    obtain⟨k,y,e1,e2⟩:=h 0 x rfl;cases e1;obtain⟨z1,_⟩:=h1;have z1:Sum.inl p.1=k:=z1;subst z1;obtain⟨tk,rfl⟩:∃t,x=ae.int p.1 t:=ae.isInt_shape (k:=p.1) (v:=x) e2;exact .cons _ _ (nV t (by simpa using hl) λj v e=>h (j+1) v e)
theorem xr{prog:aF}{w:aD}{A:aE}{E:ae->af->Prop}{s:af}{T:String}{r d:Addr}{n:Nat}{P:Nat->ae->Prop}{OK:Heap->Prop}{R:List ae->af->Prop}(K:PySem.W.KdlSrc prog w T r d n P OK)(hh:A.handled=none)(hok:OK s.heap)(hn:n<=aO)
  (h:∀(h':Heap) (tk:Nat) (acc:Array ae),s.heap.objs.size<h'.objs.size->(∀b o,s.heap.get? b=some o->h'.get? b=some o)->ItemsOf P acc n->R acc.toList {s with heap:=h',toks:=tk}) :
  aq (ao prog w) A (collect (.ref r)) R E s:=by
 have FF:=K.there _ hok;unfold collect;refine au (wpAny_runValue (codeAny_builtin F.entry_proto_collect ?_));rw[aE.under_plainId F.plain_proto_collect _];show aq _ A.in1 (newList []>>=λl=>again (.builtin "list.__iadd__" ⟨[l,.ref r],[]⟩)) _ _ s;refine au (wpAny_newObj_type ?_);refine aK ⟨plainId_quiet F.plain_list_iadd _,codeAny_builtin F.entry_list_iadd ?_⟩;rw[aE.under_plainId F.plain_list_iadd _];have hS:(s.heap.push {cls:=.type "list",data:=.seq ([]:List ae).toArray}).get? s.heap.objs.size=some {cls:=.type "list",data:=.seq #[]}:=Heap.get?_push_size _ rfl;show aq _ A.in1 (Builtin.List.listExtendWith (.ref s.heap.objs.size) (.ref r) (.ref s.heap.objs.size)) _ _ _;refine bM (PySem.W.kdl_extend (A:=A) (R:=λq s'=>∃h' tk acc c,q=.ok (.ret (.ref s.heap.objs.size))/\s'={s with heap:=h',toks:=tk}/\(∀b o,s.heap.get? b=some o->h'.get? b=some o)/\h'.get? s.heap.objs.size=some {cls:=.type "list",data:=.seq acc c}/\ItemsOf P acc n)
  K hh (K.keep _ _ hok λb _ o e=>Heap.get?_push_of_some _ e) _ (Nat.ne_of_gt FF.1) (Nat.ne_of_gt FF.2) (.ref s.heap.objs.size) 0 hS
  (λh' tk acc c k1 k2 k3=>⟨h',tk,acc,c,rfl,rfl,λb o e=>k1 b o (bg (aS e)) (Heap.get?_push_of_some _ e),k2,k3⟩) hn) (λf s' x=>?_) λe s' x=>?_
 ·have fin:∀{q:Result}{s':af},(∃h' tk acc c,q=.ok (.ret (.ref s.heap.objs.size))/\s'={s with heap:=h',toks:=tk}/\(∀b o,s.heap.get? b=some o->h'.get? b=some o)/\h'.get? s.heap.objs.size=some {cls:=.type "list",data:=.seq acc c}/\ItemsOf P acc n)->∃u,q=.ok (.ret u)/\aq (ao prog w) A (match (u:ae)with|bh a=>load a>>=λo=>(match o.data with | .seq xs _=>pure xs.toList|_=>unsupported "internal:collect")|_=>unsupported "internal:collect") R E s':=by
   rintro q s' ⟨h',tk,acc,c,rfl,rfl,k1,k2,k3⟩;exact⟨_,rfl,au (wpAny_load k2 (aK (h h' tk acc (aS k2) k1 k3)))⟩
  cases f with
  |done f=>
   obtain⟨u,e,z⟩:=fin x;cases e;exact z
  |again c=>
   refine⟨x.1,codeAny_mono x.2 λq s2 y=>?_⟩;obtain⟨u,rfl,z⟩:=fin y;exact z
 ·obtain⟨_,_,_,_,z,_⟩:=x;cases z
theorem Cr(hc:X.calm=true):qQ X (.builtin "sorted") AV:=by
 intro pins s σ H xs us Q I r ⟨l,kvs,e,hl,Ii,q⟩;subst e;obtain⟨u,rfl,ru⟩:=r.one;cases ru;obtain⟨z,hd,vs,rel,dd⟩:=jb I.hok hl;obtain⟨ep,MV⟩:=dd.dictAt;have hlen:vs.length=kvs.length:=by rw[<-rel.length];exact aV ..
 have hn:vs.length<=sizeLine:=by rw[bx];lia
 refine Calls.call_function_entry kind_sorted plain_sorted entry_sorted (args_sorted1 _) ?_;unfold Builtin.«sorted»;refine au (m:=checkCount "sorted" 1 1 _) (aK ?_);refine au (xr (A:=X.A.in1) (PySem.W.kdl_dict (knd:=zv X.prog X.w) (kvs:=vs) (ep:=ep) hd) (I.ok.hd hc) MV hn λh' tk acc hsz hk FX=>?_);have KU:acc.toList.length=vs.length:=by rw[ba];exact FX.1
 have hI:bp acc.toList (kvs.map (·.1)):=nV (P:=X.prog) (w:=X.w) rel KU λj v e=>FX.2 j v (by rw[<-Array.getElem?_toList];exact e)
 refine au (wpAny_newList ?_ (by rw[KU];exact hn));have hL:(h'.push (aQ "list" acc.toList.toArray 0)).get? h'.objs.size=some (aQ "list" acc.toList.toArray 0):=Heap.get?_push_size _ rfl;refine au (dh ?_);refine wpAny_call_entry slot_list_sort ⟨_,hL,rfl⟩ entry_list_sort (list_sort_tree hL hI (by rw[KU,hlen];exact Ii) λout F9 a1 a2 a3=>⟨_,rfl,?_⟩) (args_list_sort _);obtain⟨c,hc⟩:=sortedHeap_at (out:=out) hL;have hle:=bp.length a1;refine aK ⟨_,rfl,.ref h'.objs.size,_,I.laid (t':=tk) (o:=.lst (F9.map V.int)) (λb o e=>?_) (Nat.le_of_lt hsz) ⟨by rw[aV,a2.length_eq,aV,bx];lia,out.toList,c,kN a1,by rw[Array.toArray_toList];exact hc⟩,rfl,q _ F9 (I.hok.fresh (Nat.le_of_lt hsz)) a2 a3⟩;have e1:=hk b o e;have hb:=aS e1;show (sortedHeap _ _ _ _).get? b=some o;rw[sortedHeap_old (bg hb) (by rw[Heap.size_push];exact de hb)];exact Heap.get?_push_of_some _ e1
theorem Fi(hu:X.A.units+64<cLine):OpR X (a_ .In) (λx y H Q=>∃a kvs i,y=.ref a/\x=.int i/\H a=some (.dK (bI kvs))/\Q (.bl (kvs.any λp=>decide (p.1=i))) H):=by
 intro pins s σ H x y v u Q I rx ry ⟨a,kvs,i,e1,e2,ha,q⟩;subst e1 e2;obtain rfl:u=bh a:=ry;refine EC (by lia) I (eQ.k (k:=Sum.inl i) ha) rx λs' I'=>⟨.bl _,H,I',rfl,?_⟩
 rw[mM];exact q
theorem B5(hu:X.A.units+64<cLine):OpR X (a_ .NotIn) (λx y H Q=>∃a kvs i,y=.ref a/\x=.int i/\H a=some (.dK (bI kvs))/\Q (.bl (!kvs.any λp=>decide (p.1=i))) H):=by
 intro pins s σ H x y v u Q I rx ry ⟨a,kvs,i,e1,e2,ha,q⟩;subst e1 e2;obtain rfl:u=bh a:=ry;refine CJ (by lia) I (eQ.k (k:=Sum.inl i) ha) rx λs' I'=>⟨.bl _,H,I',rfl,?_⟩
 rw[mM];exact q
theorem CG{prog:aF}{w:aD}{A:aE}{E:ae->af->Prop}{s:af}{e b:Expr}{o i:ae}{T id:String}{Q:ae->af->Prop}(hT:s.TypeIs o T)(hl:typeLookup (.type T) "__getitem__" = pure (some (.builtin id)))
  (h:aq (ao prog w) A (getItem o i) Q E s) (hs:subscripted b false o i=operate [o,i] (getItem o i)):aq (ao prog w) A (subscriptTail e b o i) Q E s:=by
 unfold subscriptTail;refine au ?_;rw[getitemInPython_of_ne hT.not_modules];refine au (wpAny_specialOf hT hl ?_);have fin:aq (ao prog w) A (subscripted b false o i) (λr s'=>aq (ao prog w) A (letTemporaryGo e o r>>=λ_=>pure r) Q E s') E s:=by
  rw[hs];exact wpAny_operating (bM h (λr s' z=>au (wpAny_letTemporaryGo (aK z))) λ_ _ x=>x)
 first
  |exact aK (au fin)
  |exact au (aK (au fin))
  |exact au fin
def tf:R2:=λx y H Q=>∃a kvs i v,x=.ref a/\y=.int i/\H a=some (.dK (bI kvs))/\atK kvs i=some v/\Q (.int v) H
theorem yd(hu:X.A.units+64<cLine):IxR X tf:=by
 intro value slice pins s σ H x y v u Q I rx ry ⟨a,kvs,i,z,e1,e2,ha,he,q⟩ hs;subst e1 e2;obtain rfl:v=bh a:=rx;have g:eQ H a (.int i) (some (.int z)):=by
  have:=eQ.k (k:=Sum.inl i) ha;rw[uu,he]at this;exact this
 exact CG (Bz I g) PySem.F.slot_dict_getitem.lookup (wG (by lia) I g ry λw' s' I' GI=>⟨_,H,I',GI,q⟩) hs
theorem gb.or{r r':V->V->V->Hp->(Hp->Prop)->Prop}(h:gb X r)(h':gb X r'):gb X (λx y v H Q=>r x y v H Q\/r' x y v H Q):=by
 intro pins s σ H o i v ov iv u Q I ro ri rv q;rcases q with q|q
 ·exact h pins s σ H o i v ov iv u Q I ro ri rv q
 ·exact h' pins s σ H o i v ov iv u Q I ro ri rv q
def nW:V->V->V->Hp->(Hp->Prop)->Prop:=λo i v H Q=>∃a kvs k z,o=.ref a/\i=.int k/\v=.int z/\H a=some (.dK (bI kvs))/\kvs.length<aO/\Q (upd H a (.dK (bI (cM kvs k z))))
theorem AD(hu:X.A.units+64<cLine):gb X nW:=by
 intro pins s σ H o i v ov iv u Q I ro ri rv ⟨a,kvs,k,z,e1,e2,e3,ha,hz,q⟩;subst e1 e2 e3;obtain rfl:ov=bh a:=ro;refine yI (by lia) I (jX.k (k:=Sum.inl k) (v:=.int z) ha (by rw[mH];exact hz)) ri rv λs' I'=>⟨_,I',?_⟩
 rw[tq];exact q
end
noncomputable def iO(kX:Str->Option aY)(NX NY:List Str)(cap:List (Option Nat))(scope:a8):Bool:=
 (scope.kind==.function)&&(scope.names.all λy=>(y.2 != .cell||scope.names.lookup y.1==some .cell)&&(y.2 != .local||scope.names.lookup y.1==some .local)&&(y.2 != .free||kX y.1==some .cell||kX y.1==some .free)) &&
 (cap.length==NY.length)&&(bW cap.length).all λi=>match cap[i]? with
  |some (some j)=>(match NY[i]?,NX[j]? with
   |some x,some y=>x==y&&scope.names.lookup x==some .free&&(kX x==some .cell||kX x==some .free)
   |_,_=>false)
  |_=>true
theorem el.of{X:Cx}{NY:List Str}{cap:List (Option Nat)}{scope:a8}(h:iO X.env.kindOf X.N NY cap scope=true):el X NY cap scope:=by
 unfold iO at h;simp only[aW,cQ,beq_iff_eq]at h;obtain⟨⟨⟨h1,h2⟩,h3⟩,h4⟩:=h;refine⟨h1,λy hy e=>?_,λy hy e=>?_,λy hy e=>?_,h3,λi j hc=>?_⟩
 ·have:=(h2 y hy).1.1;rw[e]at this
  simpa using this
 ·have:=(h2 y hy).1.2;rw[e]at this
  simpa using this
 ·have:=(h2 y hy).2;rw[e]at this
  simpa using this
 ·have hi:i<cap.length:=(List.getElem?_eq_some_iff.mp hc).1;have:=h4 i (List.mem_range.mpr hi);rw[hc]at this;dsimp only at this;split at this
  ·rename_i x y e1 e2
   simp only[aW,beq_iff_eq,bR]at this;obtain⟨⟨e3,e4⟩,e5⟩:=this;subst e3;exact⟨x,e1,e2,e4,e5⟩
  ·cases this
end L2
namespace WB
open PySem PySem.Spec PyProof.Rows L2
section
variable{P:aF}{w:aD}{K:aB}{mg:Str->Option ae}{base:Heap}{f g:Addr}{fd gd:bN}
theorem _root_.L2.Fun.ok1{x qual:Str}{st:Stmt}{f:Addr}{fd:bN}{N ps:List Str}{k:Nat}{sp:Sp}(F:Fun K x qual st f fd)(S:gr N ps (qr st))(len:∀vs H Q E,sp vs H Q E->vs.length=ps.length)
  (FV:∀(cdv:ae) (A:aE) (outer:List Env) (s:af) (H:Hp) (vs:List V) (Q:VK) (E:XK),cC k (A.deeper (envOfC qual (qr st) s.heap.objs.size f cdv))->sp vs H Q E ->
   ∃t,PSs (eC (CX1 P w) P w K mg base N qual (qr st) f cdv A outer s H E) (dQ st) t/\t {nx:=λ_ H'=>Q .non H',rt:=Q} (start N vs) H):fH P w K mg base (CX1 P w) (k+1) f fd ps sp:=by
 obtain⟨oc,od,kV,doc,pm,an,cdv,ct,osl,rfl,lk,Gq⟩:=F.ex;exact yk lk Gq S len λA outer s H vs Q E hr Gu=>FV cdv A outer s H vs Q E hr Gu
end
def A8(H:Hp)(ps:List Addr)(ks:List (Int×Int)):Prop:=ps.length=ks.length/\∀(i:Nat) p k,ps[i]? = some p->ks[i]? = some k->H p=some (.tup [.int k.1,.int k.2])
structure Built(H0:Hp)(acc:Addr)(ks:List (Int×Int))(H:Hp):Prop where
 ex:∃ps:List Addr,H acc=some (.lst (ps.map V.ref))/\A8 H ps ks
 same:∀b o,b≠acc->H0 b=some o->H b=some o
end WB
namespace EV
open PySem L2
inductive D where
 |non|bl (b:Bool)|int (i:Int)|str (x:Str)|tup (xs:List D)|lst (xs:List D)|fn (x:Str)|exn (c:Str)|dic (kvs:List (Int×Int))
inductive R(α:Type) where
 |ok (a:α)|ex (c:Str)|no
noncomputable def R.bind{α β:Type}:R α->(α->R β)->R β
 | .ok a,f=>f a
 | .ex c,_=>.ex c
 | .no,_=>.no
@[simp] theorem R.bind_ok{α β:Type}(a:α)(f:α->R β):(R.ok a).bind f=f a:=rfl
@[simp] theorem R.bind_ex{α β:Type}(c:Str)(f:α->R β):(R.ex c:R α).bind f=.ex c:=rfl
@[simp] theorem R.bind_no{α β:Type}(f:α->R β):(R.no:R α).bind f=.no:=rfl
inductive O2 where
 |add|sub|mul|fdiv|mod|pow|shl|shr|band|bor|bxor
 deriving DecidableEq
inductive C2 where
 |eq|ne|lt|le|gt|ge|isin|notin|is|isnot
 deriving DecidableEq
inductive B1 where
 |len|tuple|list|sorted|all|any|sum|min|max|abs|int|bool
 deriving DecidableEq
inductive Cl where
 |ty (n:String)|ex (x:Str)
 deriving DecidableEq
inductive Tg where
 |nm (i:Nat)|tp (is:List Nat)
set_option genInjectivity false
mutual
inductive E where
 |var (i:Nat)|own (i:Nat)|con (d:D)|glb (x:Str)
 |op (o:O2) (a b:E)|neg (a:E)|not (a:E)|and (a b:E)|or (a b:E)
 |cmp (c:C2) (a b:E)|cmp2 (c c':C2) (a b d:E)|cmp3 (c c' c'':C2) (a b d e:E)
 |ite (t:T) (a b:E)
 |tup (es:Es)|lst (es:Es)
 |ix (a b:E)|sl (a:E) (lo hi:OE)
 |call (f:Str) (es:Es)
 |bi (b:B1) (es:Es)
 |isi (a:E) (c:Cl)
 |comp (it:It) (cap:List (Option Nat)) (tg:Tg) (t:T) (elt:E)
 |mth (ix:Bool) (a:E)
 |cnt (a b:E)
 |dic
 |sset (ln:Bool) (a:E)
 |dic1 (a b:E)
 |lstc (f:Str) (es:Es)
inductive OE where
 |none|some (e:E)
inductive Es where
 |nil|cons (e:E) (es:Es)
inductive It where
 |seq (e:E)|rng (a:E)|rng2 (a b:E)|enum (e:E)|zip (a b:E)
inductive T where
 |yes|val (e:E)|cmp (c:C2) (a b:E)|cmp2 (c c':C2) (a b d:E)|and (a b:T)|or (a b:T)|not (a:T)
end
set_option genInjectivity true
noncomputable def SZ:Nat:=1000000
noncomputable def small(j:Int):Bool:=decide (-(2^64)<j)&&decide (j<2^64)
noncomputable def opI:O2->Int->Int->R D
 | .add,i,j=>.ok (.int (i+j))
 | .sub,i,j=>.ok (.int (i-j))
 | .mul,i,j=>if small i||small j then .ok (.int (i * j))else .no
 | .fdiv,i,j=>if 0<j/\j<1000000000000000000000000000000 then .ok (.int (i/j))else .no
 | .mod,i,j=>if 0<j then .ok (.int (i%j))else .no
 | .pow,i,j=>if 0<=j/\j<=1000000/\i.natAbs<2^64 then .ok (.int (i^j.toNat))else .no
 | .shl,i,j=>if 0<=j/\j<=1000000/\i.natAbs<2^64 then .ok (.int (i * 2^j.toNat))else .no
 | .shr,i,j=>if 0<=j then .ok (.int (i/2^j.toNat))else .no
 | .band,i,j=>.ok (.int (Builtin.bitAnd i j))
 | .bor,i,j=>.ok (.int (Builtin.bitOr i j))
 | .bxor,i,j=>.ok (.int (Builtin.bitXor i j))
noncomputable def cX:D->Bool
 | .lst _=>true
 | .dic _=>true
 |_=>false
noncomputable def lB:D->Bool
 | .lst _=>true
 |_=>false
noncomputable def op2(o:O2):D->D->R D
 | .int i,.int j=>opI o i j
 | .tup xs,.tup ys=>if o=.add/\xs.length+ys.length<=SZ then .ok (.tup (xs++ys))else .no
 | .lst xs,.lst ys=>if o=.add/\xs.length+ys.length<=SZ then .ok (.lst (xs++ys))else .no
 |_,_=>.no
mutual
noncomputable def D.plain:D->Bool
 | .non=>true
 | .bl _=>true
 | .int _=>true
 | .str x=>PyData.strOk x
 | .tup xs=>plainAll xs
 | .lst xs=>plainAll xs
 | .fn _=>false
 | .exn _=>false
 | .dic _=>false
noncomputable def plainAll:List D->Bool
 | []=>true
 |x::xs=>x.plain&&plainAll xs
end
mutual
noncomputable def D.deep:D->Nat
 | .tup xs=>fZ xs+1
 | .lst xs=>fZ xs+1
 |_=>0
noncomputable def fZ:List D->Nat
 | []=>0
 |x::xs=>max x.deep (fZ xs)
end
mutual
noncomputable def D.eqv:D->D->Bool
 | .non,.non=>true
 | .bl a,.bl b=>a==b
 | .bl a,.int j=>(if a then 1 else 0)==j
 | .int i,.bl b=>i==(if b then 1 else 0)
 | .int i,.int j=>i==j
 | .str x,.str y=>x==y
 | .tup xs,.tup ys=>eqvAll xs ys
 | .lst xs,.lst ys=>eqvAll xs ys
 |_,_=>false
noncomputable def eqvAll:List D->List D->Bool
 | [],[]=>true
 |x::xs,y::ys=>x.eqv y&&eqvAll xs ys
 |_,_=>false
end
noncomputable def D.asks(d:D):Bool:=d.plain&&decide (d.deep<=20)
mutual
noncomputable def D.noL:D->Bool
 | .non=>true
 | .bl _=>true
 | .int _=>true
 | .str _=>true
 | .tup xs=>oy xs
 |_=>false
noncomputable def oy:List D->Bool
 | []=>true
 |x::xs=>x.noL&&oy xs
end
noncomputable def ints?:List D->Option (List Int)
 | []=>some []
 | .int i::r=>(ints? r).map (i :: ·)
 |_=>none
noncomputable def bools?:List D->Option (List Bool)
 | []=>some []
 | .bl i::r=>(bools? r).map (i :: ·)
 |_=>none
noncomputable def pairs?:List D->Option (List (Int×Int))
 | []=>some []
 | .tup [.int i,.int j]::r=>(pairs? r).map ((i,j) :: ·)
 |_=>none
noncomputable def seq?:D->Option (List D)
 | .tup xs=>some xs
 | .lst xs=>some xs
 |_=>none
noncomputable def dE:List Int->List Int->Bool
 | [],[]=>false
 | [],_::_=>true
 |_::_,[]=>false
 |a::r,b::t=>if a=b then dE r t else decide (a<b)
noncomputable def j9(c:C2)(i j:Int):Option Bool:=
 match c with
 | .lt=>some (decide (i<j))
 | .le=>some (decide (i<=j))
 | .gt=>some (decide (j<i))
 | .ge=>some (decide (j<=i))
 | .eq=>some (decide (i=j))
 | .ne=>some (!decide (i=j))
 |_=>none
noncomputable def inD(x:D)(xs:List D):Bool:=xs.any λy=>y.eqv x
noncomputable def eN:D->Bool
 | .non=>true
 |_=>false
noncomputable def isB(n:Bool):D->D->R Bool
 | .bl a,.bl b=>.ok (n != (a==b))
 |_,_=>.no
noncomputable def dC(a b:D):R Bool:=match b with
 | .dic kvs=>(match a with
  | .int i=>.ok (kvs.any λp=>decide (p.1=i))
  |_=>.no)
 |_=>.no
noncomputable def qm:C2->D->D->R Bool
 | .is,a,b=>if eN b then .ok (eN a)else isB false a b
 | .isnot,a,b=>if eN b then .ok (!eN a)else isB true a b
 | .isin,a,b=>match seq? b with
  |some xs=>if a.asks&&xs.all D.asks then .ok (inD a xs)else .no
  |none=>dC a b
 | .notin,a,b=>match seq? b with
  |some xs=>if a.asks&&xs.all D.asks then .ok (!inD a xs)else .no
  |none=>(dC a b).bind λr=>.ok (!r)
 | .eq,a,b=>if a.asks&&b.asks then .ok (a.eqv b)else .no
 | .ne,a,b=>if a.asks&&b.asks then .ok (!a.eqv b)else .no
 | .lt,.tup xs,.tup ys=>match ints? xs,ints? ys with
  |some ns,some ms=>.ok (dE ns ms)
  |_,_=>.no
 |c,.int i,.int j=>match j9 c i j with
  |some b=>.ok b
  |none=>.no
 |_,_,_=>.no
theorem zS{a b:D}:qm .is a b=(if eN b then .ok (eN a)else isB false a b):=rfl
theorem zg{a b:D}:qm .isnot a b=(if eN b then .ok (!eN a)else isB true a b):=rfl
theorem zR{a b:D}:qm .eq a b=(if a.asks&&b.asks then .ok (a.eqv b)else .no):=rfl
theorem zT{a b:D}:qm .ne a b=(if a.asks&&b.asks then .ok (!a.eqv b)else .no):=rfl
theorem zr{a b:D}:qm .isin a b=(match seq? b with
  |some xs=>if a.asks&&xs.all D.asks then .ok (inD a xs)else .no
  |none=>dC a b):=rfl
theorem zl{a b:D}:qm .notin a b=(match seq? b with
  |some xs=>if a.asks&&xs.all D.asks then .ok (!inD a xs)else .no
  |none=>(dC a b).bind λr=>.ok (!r)):=rfl
theorem zQ{xs ys:List D}:qm .lt (.tup xs) (.tup ys)=(match ints? xs,ints? ys with
  |some ns,some ms=>.ok (dE ns ms)
  |_,_=>.no):=rfl
noncomputable def truth:D->R Bool
 | .non=>.ok false
 | .bl b=>.ok b
 | .int i=>.ok (i != 0)
 | .tup xs=>.ok (!xs.isEmpty)
 | .lst xs=>.ok (!xs.isEmpty)
 |_=>.no
noncomputable def ixD:D->D->R D
 | .tup xs,.int i=>match atI xs i with|some d=>.ok d|none=>.no
 | .lst xs,.int i=>match atI xs i with|some d=>.ok d|none=>.no
 | .dic kvs,.int i=>match atK kvs i with|some v=>.ok (.int v)|none=>.no
 |_,_=>.no
noncomputable def cutD(xs:List D)(lo hi:Option Int):List D:=(xs.drop (HT.sIx xs.length 0 lo)).take (HT.sIx xs.length xs.length hi-HT.sIx xs.length 0 lo)
noncomputable def slD:D->Option Int->Option Int->R D
 | .lst xs,lo,hi=>.ok (.lst (cutD xs lo hi))
 |_,_,_=>.no
noncomputable def insI(i:Int):List Int->List Int
 | []=>[i]
 |j::r=>if i<=j then i::j::r else j::insI i r
noncomputable def sortI:List Int->List Int
 | []=>[]
 |i::r=>insI i (sortI r)
noncomputable def fv(p:Int×Int):List (Int×Int)->List (Int×Int)
 | []=>[p]
 |q::r=>if ltP q p then q::fv p r else p::q::r
noncomputable def qq:List (Int×Int)->List (Int×Int)
 | []=>[]
 |p::r=>fv p (qq r)
noncomputable def pairD(p:Int×Int):D:=.tup [.int p.1,.int p.2]
noncomputable def c_(d:D)(k:List D->R D):R D:=match d with | .lst xs=>k xs|_=>.no
noncomputable def iiR(d e:D)(k:Int->Int->R D):R D:=match d,e with | .int i,.int j=>k i j|_,_=>.no
noncomputable def cW{α β:Type}(o:Option α)(k:α->R β):R β:=match o with|some a=>k a|none=>.no
noncomputable def tups?:List D->Option (List (List Int))
 | []=>some []
 | .tup xs::r=>(ints? xs).bind λn=>(tups? r).map (n :: ·)
 |_=>none
noncomputable def fo(p:List Int):List (List Int)->List (List Int)
 | []=>[p]
 |q::r=>if dE q p then q::fo p r else p::q::r
noncomputable def cq:List (List Int)->List (List Int)
 | []=>[]
 |p::r=>fo p (cq r)
noncomputable def gj(l:List Int):D:=.tup (l.map D.int)
noncomputable def fE:List (List Int)->Bool
 |p::q::r=>p.isEmpty||(p::q::r).all λt=>!t.isEmpty
 |_=>false
noncomputable def cJ(xs:List D):R D:=cW (tups? xs) λts=>if fE ts then .ok (.lst ((cq ts).map gj))else .no
noncomputable def eU(mx:Bool)(i:Int):List Int->Int
 | []=>i
 |j::r=>eU mx (if mx then (if i<j then j else i)else (if j<i then j else i)) r
noncomputable def iW(mx:Bool):List Int->R D
 | []=>.no
 |i::r=>.ok (.int (eU mx i r))
noncomputable def b11(b:B1)(d:D):R D:=match b with
 | .len=>cW (seq? d) λxs=>.ok (.int xs.length)
 | .tuple=>cW (seq? d) λxs=>.ok (.tup xs)
 | .list=>cW (seq? d) λxs=>.ok (.lst xs)
 | .all=>c_ d λxs=>cW (bools? xs) λbs=>.ok (.bl (bs.all id))
 | .any=>c_ d λxs=>cW (bools? xs) λbs=>.ok (.bl (bs.any id))
 | .sorted=>match d with
  | .tup xs=>if xs.length<64 then (match ints? xs with
   |some ns=>.ok (.lst ((sortI ns).map D.int))
   |none=>cJ xs)else .no
  | .dic kvs=>if kvs.length<64 then .ok (.lst ((sortI (kvs.map (·.1))).map D.int))else .no
  |d=>c_ d λxs=>if xs.length<64 then (match ints? xs with
   |some ns=>.ok (.lst ((sortI ns).map D.int))
   |none=>match pairs? xs with
    |some ps=>.ok (.lst ((qq ps).map pairD))
    |none=>cJ xs)else cJ xs
 | .abs=>.no
 | .int=>.no
 | .bool=>.no
 | .min=>c_ d λxs=>cW (ints? xs) λns=>iW false ns
 | .max=>c_ d λxs=>cW (ints? xs) λns=>iW true ns
 | .sum=>.no
noncomputable def b12(b:B1)(d e:D):R D:=match b with
 | .min=>iiR d e λi j=>.ok (.int (if j<i then j else i))
 | .max=>iiR d e λi j=>.ok (.int (if j>i then j else i))
 |_=>.no
noncomputable def kg(ix:Bool)(x:D):R D:=c_ x λxs=>cW (bools? xs) λbs=>if ix then cW (bs.findIdx? id) λj=>.ok (.int (j:Int))else .ok (.int ((bs.countP id:Nat):Int))
noncomputable def m_(ln:Bool)(d:D):R D:=.no
noncomputable def b1(b:B1):List D->R D
 | [d]=>b11 b d
 | [d,e]=>b12 b d e
 |_=>.no
noncomputable def tyD:D->Option String
 | .non=>some "NoneType"
 | .bl _=>some "bool"
 | .int _=>some "int"
 | .str _=>some "str"
 | .tup _=>some "tuple"
 | .lst _=>some "list"
 | .dic _=>some "dict"
 |_=>none
noncomputable def dA(lo:Int)(n:Nat):List D:=(bW n).map λ(i:Nat)=>.int (lo+(i:Int))
noncomputable def dP:Nat->List D->List D
 |_,[]=>[]
 |k,x::r=>.tup [.int k,x]::dP (k+1) r
noncomputable def qD(j:Int):Bool:=decide (-1000000<=j)&&decide (j<=1000000)
abbrev Env:=List (Option D)
structure W where
 call:Str->List D->R D
 glb:Str->Option D
 sub:Str->Cl->Option Bool
 cat:Str->Str->Bool
noncomputable def dD(w:W)(x:D)(c:Cl):R D:=match tyD x,c with
 |some t,.ty n=>if n = "ValueError" then .no else .ok (.bl (gk t n))
 |none,c=>match x with
  | .exn k=>match w.sub k c with|some b=>.ok (.bl b)|none=>.no
  |_=>.no
 |_,_=>.no
noncomputable def zu(τ:Env)(i:Nat):R D:=match τ[i]? with
 |some (some d)=>.ok d
 |_=>.no
noncomputable def setAll:List Nat->List D->Env->R Env
 | [],[],τ=>.ok τ
 |i::is,d::ds,τ=>setAll is ds (τ.set i (some d))
 |_,_,_=>.no
noncomputable def store:Tg->D->Env->R Env
 | .nm i,d,τ=>.ok (τ.set i (some d))
 | .tp is,.tup ds,τ=>if ds.length=is.length then setAll is ds τ else .no
 |_,_,_=>.no
noncomputable def dY(cap:List (Option Nat))(τ:Env):Env:=cap.map λo=>o.bind λj=>(τ[j]?).join
noncomputable def noEx{α:Type}:R α->R α
 | .ok a=>.ok a
 |_=>.no
noncomputable def cH(body:D->Env->R (Env×List D)):List D->Env->List D->R (List D)
 | [],_,acc=>.ok acc
 |x::r,τ,acc=>(body x τ).bind λp=>cH body r p.1 (acc++p.2)
mutual
noncomputable def evE(w:W):E->Env->R D
 | .var i,τ=>zu τ i
 | .own i,τ=>zu τ i
 | .con d,_=>.ok d
 | .glb x,_=>match w.glb x with|some d=>.ok d|none=>.no
 | .op o a b,τ=>(evE w a τ).bind λx=>(evE w b τ).bind λy=>op2 o x y
 | .neg a,τ=>(evE w a τ).bind λx=>match x with | .int i=>.ok (.int (-i))|_=>.no
 | .not a,τ=>(evE w a τ).bind λx=>match x with | .bl b=>.ok (.bl (!b))|_=>.no
 | .and a b,τ=>(evE w a τ).bind λx=>match x with | .bl true=>evE w b τ | .bl false=>.ok (.bl false)|_=>.no
 | .or a b,τ=>(evE w a τ).bind λx=>match x with | .bl true=>.ok (.bl true) | .bl false=>evE w b τ|_=>.no
 | .cmp c a b,τ=>(evE w a τ).bind λx=>(evE w b τ).bind λy=>(qm c x y).bind λr=>.ok (.bl r)
 | .cmp2 c c' a b d,τ=>(evE w a τ).bind λx=>(evE w b τ).bind λy=>(qm c x y).bind λr=>if r then (evE w d τ).bind λz=>(qm c' y z).bind λr'=>.ok (.bl r')else .ok (.bl false)
 | .cmp3 c c' c'' a b d e,τ=>(evE w a τ).bind λx=>(evE w b τ).bind λy=>(qm c x y).bind λr=>if r then (evE w d τ).bind λz=>(qm c' y z).bind λr'=>if r' then (evE w e τ).bind λu=>(qm c'' z u).bind λG6=>.ok (.bl G6)else .ok (.bl false)else .ok (.bl false)
 | .ite t a b,τ=>(evT w t τ).bind λr=>if r then evE w a τ else evE w b τ
 | .tup es,τ=>(zo w es τ).bind λds=>.ok (.tup ds)
 | .lst es,τ=>(zo w es τ).bind λds=>.ok (.lst ds)
 | .ix a b,τ=>(evE w a τ).bind λx=>(evE w b τ).bind λy=>ixD x y
 | .sl a lo hi,τ=>(evE w a τ).bind λx=>(evO w lo τ).bind λl=>(evO w hi τ).bind λh=>slD x l h
 | .call f es,τ=>(zo w es τ).bind λds=>w.call f ds
 | .bi b es,τ=>(zo w es τ).bind λds=>b1 b ds
 | .isi a c,τ=>(evE w a τ).bind λx=>dD w x c
 | .comp it cap tg t elt,τ=>(evI w it τ).bind λds=>if SZ<ds.length then .no else (cH (λx σ=>noEx ((store tg x σ).bind λσ'=>(evT w t σ').bind λr=>if r then (evE w elt σ').bind λd=>.ok (σ',[d])else .ok (σ',[]))) ds (dY cap τ) []).bind λout=>.ok (.lst out)
 | .mth ix a,τ=>(evE w a τ).bind λx=>kg ix x
 | .cnt a b,_=>.no
 | .dic,_=>.ok (.dic [])
 | .sset ln a,τ=>(evE w a τ).bind (m_ ln)
 | .dic1 a b,τ=>(evE w a τ).bind λx=>(evE w b τ).bind λy=>iiR x y λi j=>.ok (.dic [(i,j)])
 | .lstc f es,τ=>(zo w es τ).bind λds=>(w.call f ds).bind λd=>if cX d then .ok d else .no
noncomputable def evO(w:W):OE->Env->R (Option Int)
 | .none,_=>.ok none
 | .some e,τ=>(evE w e τ).bind λx=>match x with | .int i=>.ok (some i)|_=>.no
noncomputable def zo(w:W):Es->Env->R (List D)
 | .nil,_=>.ok []
 | .cons e es,τ=>(evE w e τ).bind λd=>(zo w es τ).bind λds=>.ok (d::ds)
noncomputable def evI(w:W):It->Env->R (List D)
 | .seq e,τ=>(evE w e τ).bind λx=>match seq? x with|some xs=>.ok xs|none=>.no
 | .rng a,τ=>(evE w a τ).bind λx=>match x with | .int j=>if qD j then .ok (dA 0 j.toNat)else .no|_=>.no
 | .rng2 a b,τ=>(evE w a τ).bind λx=>(evE w b τ).bind λy=>match x,y with | .int i,.int j=>if qD i&&qD j then .ok (dA i (j-i).toNat)else .no|_,_=>.no
 | .enum e,τ=>(evE w e τ).bind λx=>match x with | .lst xs=>.ok (dP 0 xs) | .tup xs=>.ok (dP 0 xs)|_=>.no
 | .zip a b,_=>.no
noncomputable def evT(w:W):T->Env->R Bool
 | .yes,_=>.ok true
 | .val e,τ=>(evE w e τ).bind λx=>truth x
 | .cmp c a b,τ=>(evE w a τ).bind λx=>(evE w b τ).bind λy=>qm c x y
 | .cmp2 c c' a b d,τ=>(evE w a τ).bind λx=>(evE w b τ).bind λy=>(qm c x y).bind λr=>if r then (evE w d τ).bind λz=>qm c' y z else .ok false
 | .and a b,τ=>(evT w a τ).bind λr=>if r then evT w b τ else .ok false
 | .or a b,τ=>(evT w a τ).bind λr=>if r then .ok true else evT w b τ
 | .not a,τ=>(evT w a τ).bind λr=>.ok (!r)
end
theorem qZ:∀{w i τ},@Eq (R D) (evE w (.var i) τ) (zu τ i):=rfl
theorem zh:∀{w i τ},@Eq (R D) (evE w (.own i) τ) (zu τ i):=rfl
theorem zj:∀{w d τ},@Eq (R D) (evE w (.con d) τ) (.ok d):=rfl
theorem zi:∀{w x τ},@Eq (R D) (evE w (.glb x) τ) (match w.glb x with|some d=>.ok d|none=>.no):=rfl
theorem ze:∀{w o a b τ},@Eq (R D) (evE w (.op o a b) τ) ((evE w a τ).bind λx=>(evE w b τ).bind λy=>op2 o x y):=rfl
theorem qF:∀{w a τ},@Eq (R D) (evE w (.neg a) τ) ((evE w a τ).bind λx=>match x with | .int i=>.ok (.int (-i))|_=>.no):=rfl
theorem zk:∀{w a τ},@Eq (R D) (evE w (.not a) τ) ((evE w a τ).bind λx=>match x with | .bl b=>.ok (.bl (!b))|_=>.no):=rfl
theorem qC:∀{w a b τ},@Eq (R D) (evE w (.and a b) τ) ((evE w a τ).bind λx=>match x with | .bl true=>evE w b τ | .bl false=>.ok (.bl false)|_=>.no):=rfl
theorem qL:∀{w a b τ},@Eq (R D) (evE w (.or a b) τ) ((evE w a τ).bind λx=>match x with | .bl true=>.ok (.bl true) | .bl false=>evE w b τ|_=>.no):=rfl
theorem qG:∀{w c a b τ},@Eq (R D) (evE w (.cmp c a b) τ) ((evE w a τ).bind λx=>(evE w b τ).bind λy=>(qm c x y).bind λr=>.ok (.bl r)):=rfl
theorem qJ:∀{w c c' a b d τ},@Eq (R D) (evE w (.cmp2 c c' a b d) τ) ((evE w a τ).bind λx=>(evE w b τ).bind λy=>(qm c x y).bind λr=>if r then (evE w d τ).bind λz=>(qm c' y z).bind λr'=>.ok (.bl r')else .ok (.bl false)):=rfl
theorem qO:∀{w c c' c'' a b d e τ},@Eq (R D) (evE w (.cmp3 c c' c'' a b d e) τ) ((evE w a τ).bind λx=>(evE w b τ).bind λy=>(qm c x y).bind λr=>if r then (evE w d τ).bind λz=>(qm c' y z).bind λr'=>if r' then (evE w e τ).bind λu=>(qm c'' z u).bind λG6=>.ok (.bl G6)else .ok (.bl false)else .ok (.bl false)):=rfl
theorem qS:∀{w t a b τ},@Eq (R D) (evE w (.ite t a b) τ) ((evT w t τ).bind λr=>if r then evE w a τ else evE w b τ):=rfl
theorem qP:∀{w es τ},@Eq (R D) (evE w (.tup es) τ) ((zo w es τ).bind λds=>.ok (.tup ds)):=rfl
theorem qK:∀{w es τ},@Eq (R D) (evE w (.lst es) τ) ((zo w es τ).bind λds=>.ok (.lst ds)):=rfl
theorem qB:∀{w a b τ},@Eq (R D) (evE w (.ix a b) τ) ((evE w a τ).bind λx=>(evE w b τ).bind λy=>ixD x y):=rfl
theorem qN:∀{w a lo hi τ},@Eq (R D) (evE w (.sl a lo hi) τ) ((evE w a τ).bind λx=>(evO w lo τ).bind λl=>(evO w hi τ).bind λh=>slD x l h):=rfl
theorem qE:∀{w f es τ},@Eq (R D) (evE w (.call f es) τ) ((zo w es τ).bind λds=>w.call f ds):=rfl
theorem qx:∀{w b es τ},@Eq (R D) (evE w (.bi b es) τ) ((zo w es τ).bind λds=>b1 b ds):=rfl
theorem qI:∀{w a c τ},@Eq (R D) (evE w (.isi a c) τ) ((evE w a τ).bind λx=>dD w x c):=rfl
theorem qA:∀{w it cap tg t elt τ},@Eq (R D) (evE w (.comp it cap tg t elt) τ) ((evI w it τ).bind λds=>if SZ<ds.length then .no else (cH (λx σ=>noEx ((store tg x σ).bind λσ'=>(evT w t σ').bind λr=>if r then (evE w elt σ').bind λd=>.ok (σ',[d])else .ok (σ',[]))) ds (dY cap τ) []).bind λout=>.ok (.lst out)):=rfl
theorem qT:∀{w ix a τ},@Eq (R D) (evE w (.mth ix a) τ) ((evE w a τ).bind λx=>kg ix x):=rfl
theorem qW:∀{w a b τ},@Eq (R D) (evE w (.cnt a b) τ) (.no):=rfl
theorem qM:∀{w τ},@Eq (R D) (evE w (.dic) τ) (.ok (.dic [])):=rfl
theorem qV:∀{w ln a τ},@Eq (R D) (evE w (.sset ln a) τ) ((evE w a τ).bind (m_ ln)):=rfl
theorem qU:∀{w a b τ},@Eq (R D) (evE w (.dic1 a b) τ) ((evE w a τ).bind λx=>(evE w b τ).bind λy=>iiR x y λi j=>.ok (.dic [(i,j)])):=rfl
theorem qR:∀{w f es τ},@Eq (R D) (evE w (.lstc f es) τ) ((zo w es τ).bind λds=>(w.call f ds).bind λd=>if cX d then .ok d else .no):=rfl
theorem fD:∀{w τ},@Eq (R Bool) (evT w (.yes) τ) (.ok true):=rfl
theorem fM:∀{w e τ},@Eq (R Bool) (evT w (.val e) τ) ((evE w e τ).bind λx=>truth x):=rfl
theorem fg:∀{w c a b τ},@Eq (R Bool) (evT w (.cmp c a b) τ) ((evE w a τ).bind λx=>(evE w b τ).bind λy=>qm c x y):=rfl
theorem fA:∀{w c c' a b d τ},@Eq (R Bool) (evT w (.cmp2 c c' a b d) τ) ((evE w a τ).bind λx=>(evE w b τ).bind λy=>(qm c x y).bind λr=>if r then (evE w d τ).bind λz=>qm c' y z else .ok false):=rfl
theorem fG:∀{w a b τ},@Eq (R Bool) (evT w (.and a b) τ) ((evT w a τ).bind λr=>if r then evT w b τ else .ok false):=rfl
theorem fB:∀{w a b τ},@Eq (R Bool) (evT w (.or a b) τ) ((evT w a τ).bind λr=>if r then .ok true else evT w b τ):=rfl
theorem fI:∀{w a τ},@Eq (R Bool) (evT w (.not a) τ) ((evT w a τ).bind λr=>.ok (!r)):=rfl
set_option genInjectivity false
mutual
inductive S where
 |set (tg:Tg) (e:E)
 |app (i:Nat) (e:E)
 |seti (i:Nat) (k e:E)
 |exp (e:E)
 |ret (e:E)|retN
 |ite (t:T) (a b:Ss)
 |for (tg:Tg) (it:It) (b:Ss)
 |while (t:T) (b:Ss)
 |raise (c:Str) (es:Es)
 |try (b:Ss) (c:Str) (i:Option Nat) (h:Ss)
 |ins (i:Nat) (k e:E)
 |cnt|unk
 |par (i j:Nat) (a b:E)
 |dupd (i:Nat) (e:E)
 |pop0 (j i:Nat)
 |retn (e:E)
inductive Ss where
 |nil|cons (s:S) (r:Ss)
end
set_option genInjectivity true
inductive O where
 |nx (τ:Env)|rt (d:D)|bk (τ:Env)|ct (τ:Env)|ex (c:Str)|no
noncomputable def R.out{α:Type}:R α->(α->O)->O
 | .ok a,f=>f a
 | .ex c,_=>.ex c
 | .no,_=>.no
@[simp] theorem R.out_ok{α:Type}(a:α)(f:α->O):(R.ok a).out f=f a:=rfl
@[simp] theorem R.out_ex{α:Type}(c:Str)(f:α->O):(R.ex c:R α).out f=.ex c:=rfl
@[simp] theorem R.out_no{α:Type}(f:α->O):(R.no:R α).out f=.no:=rfl
noncomputable def dM(tg:Tg)(body:Env->O):List D->Env->O
 | [],τ=>.nx τ
 |x::r,τ=>(store tg x τ).out λτ'=>match body τ' with
  | .nx σ=>dM tg body r σ
  | .ct σ=>dM tg body r σ
  | .bk σ=>.nx σ
  |o=>o
noncomputable def eF(test:Env->R Bool)(body:Env->O):Nat->Env->O
 | 0,_=>.no
 |n+1,τ=>(test τ).out λb=>if b then (match body τ with
  | .nx σ=>eF test body n σ
  | .ct σ=>eF test body n σ
  | .bk σ=>.nx σ
  |o=>o)else .nx τ
noncomputable def fF:Nat:=100000
noncomputable def O.noEx:O->O
 | .ex _=>.no
 |o=>o
noncomputable def O.rtOnly:O->O
 | .rt d=>.rt d
 |_=>.no
noncomputable def dR(τ:Env)(i:Option Nat)(k:Str):Env:=match i with
 |none=>τ.map λ_=>none
 |some i=>(τ.map λ_=>none).set i (some (.exn k))
noncomputable def iY(x n d:D)(i:Nat)(τ:Env):O:=match x with
 | .lst xs=>(match n with
  | .int j=>if 0<=j/\j<=xs.length/\xs.length<SZ then .nx (τ.set i (some (.lst (xs.take j.toNat++d::xs.drop j.toNat))))else .no
  |_=>.no)
 |_=>.no
mutual
noncomputable def evS(w:W):S->Env->O
 | .set tg e,τ=>(evE w e τ).out λd=>(store tg d τ).out .nx
 | .app i e,τ=>(zu τ i).out λx=>match x with
  | .lst xs=>(evE w e τ).out λd=>if xs.length<SZ then .nx (τ.set i (some (.lst (xs++[d]))))else .no
  |_=>.no
 | .seti i k e,τ=>(evE w e τ).out λd=>(zu τ i).out λx=>(evE w k τ).out λn=>match x,n with
  | .lst xs,.int j=>match ixN xs.length j with
   |some m=>.nx (τ.set i (some (.lst (xs.set m d))))
   |none=>.no
  | .dic kvs,.int j=>(match d with
   | .int v=>if kvs.length<SZ then .nx (τ.set i (some (.dic (cM kvs j v))))else .no
   |_=>.no)
  |_,_=>.no
 | .exp e,τ=>(evE w e τ).out λ_=>.nx τ
 | .ret e,τ=>(evE w e τ).out .rt
 | .retN,_=>.rt .non
 | .ite t a b,τ=>(evT w t τ).out λr=>if r then qe w a τ else qe w b τ
 | .for tg it b,τ=>((evI w it τ).out λds=>dM tg (λσ=>qe w b σ) ds τ).noEx
 | .while t b,τ=>(eF (λσ=>evT w t σ) (λσ=>qe w b σ) fF τ).noEx
 | .raise c es,τ=>(zo w es τ).out λ_=>.ex c
 | .try b c i h,τ=>match qe w b τ with
  | .ex k=>if w.cat k c=true then (qe w h (dR τ i k)).rtOnly else .no
  |o=>o
 | .ins i k e,τ=>(zu τ i).out λx=>match x with
  | .lst xs=>(evE w k τ).out λn=>(evE w e τ).out λd=>iY (.lst xs) n d i τ
  |_=>.no
 | .unk,_=>.no
 | .cnt,τ=>.ct τ
 | .par i j a b,τ=>(evE w a τ).out λx=>(evE w b τ).out λy=>.nx ((τ.set i (some x)).set j (some y))
 | .dupd i e,τ=>(zu τ i).out λx=>match x with
  | .dic kvs=>(evE w e τ).out λd=>(match d with
   | .dic ms=>if kvs.length+ms.length<SZ then .nx (τ.set i (some (.dic (cY kvs ms))))else .no
   |_=>.no)
  |_=>.no
 | .pop0 j i,τ=>(zu τ i).out λx=>match x with
  | .lst xs=>(match xs with
   |y::r=>.nx ((τ.set i (some (.lst r))).set j (some y))
   | []=>.no)
  |_=>.no
 | .retn e,τ=>(evE w e τ).out λd=>if cX d then .no else .rt d
noncomputable def qe(w:W):Ss->Env->O
 | .nil,τ=>.nx τ
 | .cons s r,τ=>match evS w s τ with
  | .nx σ=>qe w r σ
  |o=>o
end
theorem zO:∀{w tg e τ},@Eq (O) (evS w (.set tg e) τ) ((evE w e τ).out λd=>(store tg d τ).out .nx):=rfl
theorem zW:∀{w i e τ},@Eq (O) (evS w (.app i e) τ) ((zu τ i).out λx=>match x with
  | .lst xs=>(evE w e τ).out λd=>if xs.length<SZ then .nx (τ.set i (some (.lst (xs++[d]))))else .no
  |_=>.no):=rfl
theorem cG:∀{w i k e τ},@Eq (O) (evS w (.seti i k e) τ) ((evE w e τ).out λd=>(zu τ i).out λx=>(evE w k τ).out λn=>match x,n with
  | .lst xs,.int j=>match ixN xs.length j with
   |some m=>.nx (τ.set i (some (.lst (xs.set m d))))
   |none=>.no
  | .dic kvs,.int j=>(match d with
   | .int v=>if kvs.length<SZ then .nx (τ.set i (some (.dic (cM kvs j v))))else .no
   |_=>.no)
  |_,_=>.no):=rfl
theorem cD:∀{w e τ},@Eq (O) (evS w (.exp e) τ) ((evE w e τ).out λ_=>.nx τ):=rfl
theorem zw:∀{w e τ},@Eq (O) (evS w (.ret e) τ) ((evE w e τ).out .rt):=rfl
theorem cB:∀{w τ},@Eq (O) (evS w (.retN) τ) (.rt .non):=rfl
theorem zP:∀{w t a b τ},@Eq (O) (evS w (.ite t a b) τ) ((evT w t τ).out λr=>if r then qe w a τ else qe w b τ):=rfl
theorem zY:∀{w tg it b τ},@Eq (O) (evS w (.for tg it b) τ) (((evI w it τ).out λds=>dM tg (λσ=>qe w b σ) ds τ).noEx):=rfl
theorem cF:∀{w t b τ},@Eq (O) (evS w (.while t b) τ) ((eF (λσ=>evT w t σ) (λσ=>qe w b σ) fF τ).noEx):=rfl
theorem zC:∀{w c es τ},@Eq (O) (evS w (.raise c es) τ) ((zo w es τ).out λ_=>.ex c):=rfl
theorem zA:∀{w b c i h τ},@Eq (O) (evS w (.try b c i h) τ) (match qe w b τ with
  | .ex k=>if w.cat k c=true then (qe w h (dR τ i k)).rtOnly else .no
  |o=>o):=rfl
theorem zD:∀{w i k e τ},@Eq (O) (evS w (.ins i k e) τ) ((zu τ i).out λx=>match x with
  | .lst xs=>(evE w k τ).out λn=>(evE w e τ).out λd=>iY (.lst xs) n d i τ
  |_=>.no):=rfl
theorem zI:∀{w τ},@Eq (O) (evS w (.unk) τ) (.no):=rfl
theorem zG:∀{w τ},@Eq (O) (evS w (.cnt) τ) (.ct τ):=rfl
theorem zH:∀{w i j a b τ},@Eq (O) (evS w (.par i j a b) τ) ((evE w a τ).out λx=>(evE w b τ).out λy=>.nx ((τ.set i (some x)).set j (some y))):=rfl
theorem zK:∀{w i e τ},@Eq (O) (evS w (.dupd i e) τ) ((zu τ i).out λx=>match x with
  | .dic kvs=>(evE w e τ).out λd=>(match d with
   | .dic ms=>if kvs.length+ms.length<SZ then .nx (τ.set i (some (.dic (cY kvs ms))))else .no
   |_=>.no)
  |_=>.no):=rfl
theorem zM:∀{w j i τ},@Eq (O) (evS w (.pop0 j i) τ) ((zu τ i).out λx=>match x with
  | .lst xs=>(match xs with
   |y::r=>.nx ((τ.set i (some (.lst r))).set j (some y))
   | []=>.no)
  |_=>.no):=rfl
theorem zN:∀{w e τ},@Eq (O) (evS w (.retn e) τ) ((evE w e τ).out λd=>if cX d then .no else .rt d):=rfl
structure Fn where
 ps:Nat
 N:Nat
 fr:Bool
 body:Ss
noncomputable def zE(w:W)(f:Fn)(ds:List D):R D:=if ds.length=f.ps then (match qe w f.body (ds.map some++cb (f.N-f.ps) none)with
  | .nx _=>if f.fr then .no else .ok .non
  | .rt d=>.ok d
  | .ex c=>.ex c
  |_=>.no)else .no
structure Pr where
 fns:Str->Option Fn
 glb:Str->Option D
 sub:Str->Cl->Option Bool
 cat:Str->Str->Bool
noncomputable def qa(p:Pr):Nat->Str->List D->R D
 | 0,_,_=>.no
 |k+1,x,ds=>match p.fns x with
  |some f=>zE ⟨qa p k,p.glb,p.sub,p.cat⟩ f ds
  |none=>.no
inductive GK where
  |fn (fresh:Bool)|val|bi (b:B1)|rng|enum|zip|isi|ty (n:String) (b:Option B1)|exc|exk|set|rvd
  deriving DecidableEq
structure Cc where
  nm:List (Str×aY)
  N:List Str
  own:List Str
  G:List (Str×GK)
  calm:Bool
  fnc:Bool
  thr:Bool
  GH:List (Str×GK)
  oc:List Str
  frz:Bool
noncomputable def loc(c:Cc)(x:Str):Option Nat:=
  if x == "__debug__" ||x == "__classdict__" then none else
  match c.nm.lookup x with
  |some .local|some .cell|some .free=>let i:=c.N.findIdx (· == x);if c.N[i]? = some x then some i else none
  |_=>none
noncomputable def cL(c:Cc)(x:Str):Option Nat:=
  match c.nm.lookup x with
  |some .local=>loc c x
  |some .cell=>if c.fnc||c.oc.contains x then loc c x else none
  |_=>none
noncomputable def glob(c:Cc)(x:Str):Option GK:=
  if x == "__debug__" ||x == "__name__" then none else
  match c.nm.lookup x with
  |some .globalImplicit=>c.G.lookup x
  |_=>none
noncomputable def esc:E->Bool
  | .own _=>false
  |_=>true
noncomputable def eT:Es->Bool
  | .nil=>true
  | .cons e es=>esc e&&eT es
noncomputable def isL:E->Bool
  | .lst _=>true
  | .comp .. => true
  |_=>false
noncomputable def oI:O2->Bool
  | .add=>true
  | .mul=>true
  |_=>false
noncomputable def fresh(c:Cc):E->Bool
  | .op o a b=>oI o&&isL a||o==.add&&isL b
  | .lst _=>true
  | .comp .. => true
  | .dic=>true
  | .dic1 .. => true
  | .bi .list _=>true
  | .bi .sorted _=>true
  | .lstc f _=>c.G.lookup f==some (.fn true)
  |_=>false
noncomputable def eD(c:Cc):E->Bool
  | .call f _=>c.G.lookup f==some (.fn true)
  | .ite _ a b=>eD c a&&eD c b
  |e=>fresh c e
noncomputable def gY(c:Cc):E->E
  | .call f es=>if c.G.lookup f==some (.fn true)then .lstc f es else .call f es
  |e=>e
noncomputable def o2:Operator->Option O2
  | .Add=>some .add
  | .Sub=>some .sub
  | .Mult=>some .mul
  | .FloorDiv=>some .fdiv
  | .Mod=>some .mod
  | .Pow=>some .pow
  | .RShift=>some .shr
  |_=>none
noncomputable def c2:CmpOp->C2
  | .Eq=>.eq
  | .NotEq=>.ne
  | .Lt=>.lt
  | .LtE=>.le
  | .Gt=>.gt
  | .GtE=>.ge
  | .Is=>.is
  | .IsNot=>.isnot
  | .In=>.isin
  | .NotIn=>.notin
noncomputable def fC:Expr->Bool
  | .ListComp .. => true
  | .SetComp .. => true
  | .DictComp .. => true
  |_=>false
noncomputable def zx:Expr->Bool
  | .Set .. => false
  |_=>true
noncomputable def jP(names nm:List (Str×aY)):List (Str×aY):=names.map λ(n,k)=>if k==cf&&(nm.lookup n==some .cell)then (n,aY.cell)else (n,k)
noncomputable def cy(names:List (Str×aY)):List Str:=(names.filter λp=>p.2==.local||p.2==.free||p.2==.cell).map (·.1)
noncomputable def h9(c:Cc)(names:List (Str×aY)):List (Option Nat):=(cy names).map λx=>if names.lookup x==some .free then loc c x else none
noncomputable def gR:List Expr->Option (List Str)
  | []=>some []
  | .Name x _::r=>(gR r).map (x :: ·)
  |_=>none
noncomputable def cTg(c:Cc):Expr->Option Tg
  | .Name x _=>if c.own.contains x then none else (cL c x).map .nm
  | .Tuple es _ _=>if c.calm then do
      let xs <-gR es
      if xs.any c.own.contains then none else
      let is <-xs.mapM (cL c)
      if is.Nodup then some (.tp is)else none
    else none
  |_=>none
noncomputable def isStar:Expr->Bool
  | .Starred .. => true
  |_=>false
noncomputable def isSlice:Expr->Bool
  | .Slice .. => true
  |_=>false
noncomputable def isTup:Expr->Bool
  | .Tuple .. => true
  |_=>false
noncomputable def gO(it:It)(tg:Expr):Bool:=match it with
  | .enum _=>isTup tg
  | .zip .. => isTup tg
  |_=>true
noncomputable def lD(c:Cc):Expr->Option Cl
  | .Name x _=>match glob c x with
    |some (.ty n _)=>some (.ty n)
    |some .exc=>some (.ex x)
    |some .exk=>some (.ex x)
    |_=>none
  |_=>none
noncomputable def vr(c:Cc)(x:Str)(i:Nat):E:=if c.own.contains x then .own i else .var i
noncomputable def cMt(c:Cc)(o:Expr)(m:Str)(ap:Pos)(as:List Expr)(cp:Pos):Option E:=match o with
  | .Name x _=>match as with
    | [a]=>match a with
      | .Constant k _ _=>match k with
        | .bool b=>match loc c x with
          |some i=>if b&&ap.endLine==cp.line then (if m = "count" then some (.mth false (vr c x i))else if m = "index" then some (.mth true (vr c x i))else none)else none
          |none=>none
        |_=>none
      |_=>none
    |_=>none
  |_=>none
noncomputable def owned:It->Bool
  | .seq (.own _)=>true
  | .enum (.own _)=>true
  | .zip (.own _) _=>true
  | .zip _ (.own _)=>true
  |_=>false
noncomputable def Fx:Expr->Bool
  | .UnaryOp .USub (.Constant (.int i) _ _) _=>decide (i=1)
  |_=>false
noncomputable def Cp(c:Cc)(b:B1)(_:List Expr):Option Expr:=none
noncomputable def kc:Expr->Bool
  | .ListComp _ gs _ _=>gs.length==2
  |_=>false
mutual
noncomputable def cE:Nat->Cc->Expr->Option E
  | 0,_,_=>none
  |n+1,c,e=>match e with
    | .Name x _=>match loc c x with
      |some i=>if c.own.contains x then some (.own i)else some (.var i)
      |none=>match glob c x with
        |some .val=>some (.glb x)
        |some (.fn _)=>none
        |_=>none
    | .Constant k _ _=>match k with
      | .int i=>some (.con (.int i))
      | .bool i=>some (.con (.bl i))
      | .none=>some (.con .non)
      | .str x=>some (.con (.str x))
      |_=>none
    | .BinOp a op b _=>do
      let o <-o2 op
      let a <-cE n c a
      let b <-cE n c b
      some (.op o a b)
    | .UnaryOp op a _=>do
      let a <-cE n c a
      match op with
      | .USub=>some (.neg a)
      | .Invert=>none
      | .Not=>some (.not a)
      |_=>none
    | .BoolOp op vs _=>cBo n c op vs
    | .Compare a ops bs _=>match ops,bs with
      | [o],[b]=>do
        let a <-cE n c a
        let b' <-cE n c b
        if zx b then some (.cmp (c2 o) a b')else none
      | [o,o'],[b,d]=>do
        let a <-cE n c a
        let b' <-cE n c b
        let d' <-cE n c d
        if zx b&&zx d then some (.cmp2 (c2 o) (c2 o') a b' d')else none
      | [o,o',KW],[b,d,f]=>do
        let a <-cE n c a
        let b' <-cE n c b
        let d' <-cE n c d
        let f' <-cE n c f
        if zx b&&zx d&&zx f then some (.cmp3 (c2 o) (c2 o') (c2 KW) a b' d' f')else none
      |_,_=>none
    | .Dict ks vs _=>match ks with
      | []=>if vs.isEmpty then some .dic else none
      |k::r=>match k with
        |some k=>match vs with
          |v::q=>if r.isEmpty&&q.isEmpty then (do
              let k <-cE n c k
              let v <-cE n c v
              some (.dic1 k v))else none
          | []=>none
        |none=>none
    | .IfExp t a b _=>do
      let t <-cT n c t
      let a <-cE n c a
      let b <-cE n c b
      if esc a&&esc b then some (.ite t a b)else none
    | .Tuple es _ _=>do
      let es <-cEs n c es
      if eT es then some (.tup es)else none
    | .List es _=>do
      let es <-cEs n c es
      if eT es then some (.lst es)else none
    | .Subscript a b _=>match b with
      | .Slice lo hi st _=>match st with
        |some _=>none
        |none=>do
          let a <-cE n c a
          let lo <-cO n c lo
          let hi <-cO n c hi
          some (.sl a lo hi)
      |b=>do
        if isSlice b then none else
        let a <-cE n c a
        let b <-cE n c b
        some (.ix a b)
    | .ListComp elt gs sc _=>match gs with
     | [⟨FL,it,ifs,KY⟩]=>do
      if !(KY==0) || !c.calm || !zx it then none else
      let c':Cc:={c with nm:=jP sc.names c.nm,N:=cy sc.names,fnc:=false,oc:=iS sc.names}
      let cap:=h9 c sc.names
      if !iO (λx=>c.nm.lookup x) c.N (cy sc.names) cap sc || !decide (cy sc.names).Nodup then none else
      let it <-cI n c it
      let tg <-cTg c' FL
      let t <-fX n c' ifs
      let elt <-cE n c' elt
      if esc elt&&gO it FL then some (.comp it cap tg t elt)else none
     |_=>none
    | .Call fe as ks cp=>match ks with
     | []=>match fe with
      | .Name f _=>match loc c f with
        |some _=>none
        |none=>match glob c f with
          |some (.fn _)=>do
            let es <-cEs n c as
            if eT es && !as.isEmpty then some (.call f es)else none
          |some (.bi b)=>match Cp c b as with
            |some a=>(cE n c a).map (.sset (b==.len))
            |none=>do
              let es <-cEs n c as
              if !as.isEmpty&&(c.calm||b==.len||b==.abs)then some (.bi b es)else none
          |some (.ty t (some b))=>do
              let es <-cEs n c as
              if !as.isEmpty then some (.bi b es)else none
          |some .isi=>match as with
            | [a,k]=>do
              if isStar a then none else
              let a <-cE n c a
              let k <-lD c k
              some (.isi a k)
            |_=>none
          |_=>none
      | .Attribute o m ap=>match cMt c o m ap as cp with
        |some e=>some e
        |none=>none
      |_=>none
     |_=>none
    |_=>none
noncomputable def fX:Nat->Cc->List Expr->Option T
  | 0,_,_=>none
  |n+1,c,ifs=>match ifs with
    | []=>some .yes
    | [t]=>cT n c t
    |_=>none
noncomputable def cBo:Nat->Cc->BoolOp->List Expr->Option E
  | 0,_,_,_=>none
  |n+1,c,op,vs=>match vs with
    | []=>none
    | [a]=>do
      let a <-cE n c a
      if esc a then some a else none
    |a::b::r=>do
      let a <-cE n c a
      let r <-cBo n c op (b::r)
      match op with
      | .And=>some (.and a r)
      | .Or=>some (.or a r)
noncomputable def cO:Nat->Cc->Option Expr->Option OE
  | 0,_,_=>none
  |n+1,c,o=>match o with
    |none=>some .none
    |some e=>(cE n c e).map .some
noncomputable def cEs:Nat->Cc->List Expr->Option Es
  | 0,_,_=>none
  |n+1,c,es=>match es with
    | []=>some .nil
    |e::r=>do
      if isStar e then none else
      let e <-cE n c e
      let r <-cEs n c r
      some (.cons e r)
noncomputable def cI:Nat->Cc->Expr->Option It
  | 0,_,_=>none
  |n+1,c,e=>match e with
    | .Call (.Name f p) as [] q=>match loc c f with
      |some _=>(cE n c (.Call (.Name f p) as [] q)).map .seq
      |none=>match glob c f with
        |some .rng=>(match as with
          | [a]=>if isStar a then none else (cE n c a).map .rng
          | [a,b]=>if isStar a||isStar b then none else do
            let a <-cE n c a
            let b <-cE n c b
            some (.rng2 a b)
          |_=>none)
        |some .enum=>(match as with
          | [a]=>if isStar a then none else (cE n c a).map .enum
          |_=>none)
        |some .zip=>(match as with
          | [a,b]=>if isStar a||isStar b then none else do
            let a <-cE n c a
            let b <-cE n c b
            some (.zip a b)
          |_=>none)
        |_=>(cE n c (.Call (.Name f p) as [] q)).map .seq
    |e=>(cE n c e).map .seq
noncomputable def cT:Nat->Cc->Expr->Option T
  | 0,_,_=>none
  |n+1,c,e=>match e with
    | .UnaryOp .Not a _=>(cT n c a).map .not
    | .BoolOp op vs _=>cTs n c op vs
    | .IfExp .. => none
    | .Compare a ops bs _=>match ops,bs with
      | [o],[b]=>do
        let a <-cE n c a
        let b' <-cE n c b
        if zx b then some (.cmp (c2 o) a b')else none
      | [o,o'],[b,d]=>do
        let a <-cE n c a
        let b' <-cE n c b
        let d' <-cE n c d
        if zx b&&zx d then some (.cmp2 (c2 o) (c2 o') a b' d')else none
      | [o,o',KW],[b,d,f]=>do
        let a <-cE n c a
        let b' <-cE n c b
        let d' <-cE n c d
        let f' <-cE n c f
        if zx b&&zx d&&zx f then some (.val (.cmp3 (c2 o) (c2 o') (c2 KW) a b' d' f'))else none
      |_,_=>none
    |e=>(cE n c e).map .val
noncomputable def cTs:Nat->Cc->BoolOp->List Expr->Option T
  | 0,_,_,_=>none
  |n+1,c,op,vs=>match vs with
    | []=>none
    | [a]=>cT n c a
    |a::b::r=>do
      let a <-cT n c a
      let r <-cTs n c op (b::r)
      match op with
      | .And=>some (.and a r)
      | .Or=>some (.or a r)
end
noncomputable def iq(c:Cc):Cc:={c with calm:=false,thr:=false,G:=c.GH,GH:=[]}

noncomputable def ku:Expr->Option (Str×Str×Pos×Expr×Pos)
  | .Call f as ks cp=>match f with
    | .Attribute o m ap=>match o with
      | .Name x _=>match as with
        | [a]=>if ks.isEmpty then some (x,m,ap,a,cp)else none
        |_=>none
      |_=>none
    |_=>none
  |_=>none
noncomputable def lU:Expr->Option (Str×Pos×Expr×Expr×Pos)
  | .Call f as ks cp=>match f with
    | .Attribute o m ap=>match o with
      | .Name x _=>match as with
        | [k,a]=>if ks.isEmpty&&m == "insert" then some (x,ap,k,a,cp)else none
        |_=>none
      |_=>none
    |_=>none
  |_=>none
noncomputable def lI:Expr->Option (Str×Pos×Pos)
  | .Call f as ks cp=>match f with
    | .Attribute o m ap=>match o with
      | .Name x _=>match as with
        | [a]=>match a with
          | .Constant k _ _=>match k with
            | .int i=>if ks.isEmpty&&m == "pop" && decide (i=0)then some (x,ap,cp)else none
            |_=>none
          |_=>none
        |_=>none
      |_=>none
    |_=>none
  |_=>none
noncomputable def raiseOf:Expr->Option (Str×Expr×List Expr)
  | .Call f as ks _=>match f with
    | .Name x _=>match as with
      |a::as=>if ks.isEmpty then some (x,a,as)else none
      |_=>none
    |_=>none
  |_=>none
noncomputable def lT:Expr->Bool
  | .Tuple es _ _=>es.all (foldedForSure 8)
  |_=>false
noncomputable def lO(ts:List Expr)(e:Expr):Option (Str×Str×Expr×Expr):=match ts with
  | [.Name x px,.Name y py]=>match e with
    | .Tuple [a,b] _ _=>if !isStar a && !isStar b && !([a,b].all (foldedForSure 8)) && !([a,b].all (constantsAlone 8))&&(px.line==py.line)then some (x,y,a,b)else none
    |_=>none
  |_=>none
noncomputable def wV(ts:List Expr)(e:Expr):Option (Str×Str×Str×Expr×Expr×Expr):=match ts with
  | [.Name x px,.Name y py,.Name z pz]=>match e with
    | .Tuple [a,b,d] _ _=>if !isStar a && !isStar b && !isStar d && !([a,b,d].all (foldedForSure 8)) && !([a,b,d].all (constantsAlone 8))&&(px.line==py.line)&&(px.line==pz.line)then some (x,y,z,a,b,d)else none
    |_=>none
  |_=>none
mutual
noncomputable def cS:Nat->Cc->Bool->Stmt->Option S
  | 0,_,_,_=>none
  |n+1,c,fr,s=>match s with
    | .Assign ts e _=>match ts with
      | [t]=>match t with
        | .Name x _=>match lI e with
         |some (y,ap,cp)=>do
          let i <-cL c x
          let j <-loc c y
          if c.own.contains y && !c.own.contains x&&ap.endLine==cp.line && !c.frz then some (.pop0 i j)else none
         |none=>do
          if kc e then none else
          let i <-cL c x
          let e' <-cE n c e
          if c.own.contains x then (if fresh c (gY c e') && !c.frz then some (.set (.nm i) (gY c e'))else none)else if esc e' then some (.set (.nm i) e')else none
        | .Tuple ts k p=>match lO ts e with
          |some (x,y,a,b)=>if !(c.nm.lookup x==some .local)then (do
              let tg <-cTg c (.Tuple ts k p)
              let e' <-cE n c e
              if !esc e' then none else some (.set tg e'))else do
            let i <-cL c x
            let j <-cL c y
            let a' <-cE n c a
            let b' <-cE n c b
            if !c.calm || !(c.nm.lookup x==some .local) || !(c.nm.lookup y==some .local)||(i==j)||c.own.contains x || !esc a'||isStar a||isStar b then none else
            if c.own.contains y then (if fresh c b' && !c.frz then some (.par i j a' b')else none)else if esc b' then some (.par i j a' b')else none
          |none=>match wV ts e with
            |some _=>none
            |none=>do
              let tg <-cTg c (.Tuple ts k p)
              let e' <-cE n c e
              if (isTup e && !lT e)||fC e || !esc e' then none else some (.set tg e')
        | .Subscript a k _=>match a with
          | .Name x _=>do
            let i <-cL c x
            let e' <-cE n c e
            let k' <-cE n c k
            if c.own.contains x&&esc e' && !isSlice k && !fC e && !c.frz then some (.seti i k' e')else none
          |_=>none
        |_=>none
      |_=>none
    | .Expr e _=>match lU e with
      |some (x,ap,k,a,cp)=>do
        let i <-cL c x
        let k' <-cE n c k
        let a' <-cE n c a
        if c.own.contains x&&esc a' && !isStar k && !isStar a&&ap.endLine==cp.line && !c.frz then some (.ins i k' a')else none
      |none=>match ku e with
      |some (x,m,ap,a,cp)=>do
        let i <-cL c x
        let a' <-cE n c a
        if m == "update" then (if c.own.contains x&&esc a' && !isStar a&&ap.endLine==cp.line && !c.frz then some (.dupd i a')else none)else
        if m == "append" && c.own.contains x&&esc a' && !isStar a&&ap.endLine==cp.line && !c.frz then some (.app i a')else none
      |none=>do
        if fC e then none else
        let e' <-cE n c e
        some (.exp e')
    | .Return o _=>match o with
      |some e=>do
        let e' <-cE n c e
        if fr then (match e with
          | .Name y _=>if c.own.contains y then (loc c y).map (λi=>.ret (.own i))else none
          |_=>if eD c e' then some (.ret e')else some (.retn e'))
        else some (.ret e')
      |none=>if fr then none else some .retN
    | .If t a b _=>do
      let t <-cT n c t
      let a <-cSs n c fr a
      let b <-cSs n c fr b
      some (.ite t a b)
    | .For tg it b els _=>do
      if !els.isEmpty || !c.calm || !zx it then none else
      let MW <-cTg c tg
      let it <-cI n c it
      if !gO it tg then none else
      let b <-cSs n {c with frz:=c.frz||owned it} fr b
      some (.for MW it b)
    | .While t b els _=>do
      if !els.isEmpty || !c.calm then none else
      let t <-cT n c t
      let b <-cSs n c fr b
      some (.while t b)
    | .Raise o o' _=>match o with
      |some r=>match raiseOf r with
        |some (x,a,as)=>do
          if !o'.isNone || !c.calm || !c.thr then none else
          match glob c x with
          |some .exc=>do
            let es <-cEs n c (a::as)
            some (.raise x es)
          |_=>none
        |none=>none
      |none=>none
    | .Try b hs els fin _=>match hs with
      | [.ExceptHandler ty y h _]=>match ty with
        |some (.Name x _)=>do
          if !els.isEmpty || !fin.isEmpty || !c.calm || !c.fnc||h.isEmpty || !c.own.isEmpty||c.frz then none else
          let b <-cSs n {c with thr:=false} fr b
          let h <-cSs n (iq c) fr h
          if !(glob c x==some .exc||glob c x==some .exk)then none else
          match y with
          |none=>some (.try b x none h)
          |some y=>do
            let i <-cL c y
            if c.nm.lookup y==some .local then some (.try b x (some i) h)else none
        |_=>none
      |_=>none
    |_=>none
noncomputable def cSs:Nat->Cc->Bool->List Stmt->Option Ss
  | 0,_,_,_=>none
  |n+1,c,fr,ss=>match ss with
    | []=>some .nil
    |s::r=>do
      let r <-cSs n c fr r
      some (.cons ((cS n c fr s).getD .unk) r)
end
noncomputable def noOwn(c:Cc):Cc:={c with own:=[],frz:=false}
noncomputable def h_(n:Nat)(c:Cc)(fr:Bool)(b:List Stmt):Option Ss:=cSs n c fr b
noncomputable def argNames(a:Arguments):List Str:=a.args.map (·.arg)
noncomputable def eR(a:Arguments)(sc:a8):List Str:=argNames a++((sc.names.filter λp=>p.2==.local||p.2==.cell).map (·.1)).filter λx=>!(argNames a).contains x
noncomputable def gZ(N ps:List Str)(sc:a8):Bool:=
  sc.kind==.function && !sc.isCoroutine && !sc.isGenerator&&decide N.Nodup&&decide (N.take ps.length=ps)&&ps.all (λx=>sc.names.lookup x==some .local||sc.names.lookup x==some .cell)&&sc.names.all λy=>y.2 != .free
noncomputable def i4:Nat:=60
noncomputable def cFn(G GH:List (Str×GK))(own:List Str)(fr:Bool)(st:Stmt):Option Fn:=do
  let a:=qt st
  let sc:=qr st
  let N:=eR a sc
  if !gZ N (argNames a) sc||(argNames a).any own.contains then none else
  let b <-h_ i4 ⟨sc.names,N,own,G,true,true,true,GH,[],false⟩ fr (dQ st)
  some ⟨(argNames a).length,N.length,fr,b⟩
noncomputable def gU(GU:List (Str×GK))(own:List Str)(fr:Bool)(st:Stmt):Option Fn:=do
  let a:=qt st
  let sc:=qr st
  let N:=eR a sc
  if !gZ N (argNames a) sc||(argNames a).any own.contains then none else
  let b <-h_ i4 ⟨sc.names,N,own,GU,false,true,false,[],[],false⟩ fr (dQ st)
  some ⟨(argNames a).length,N.length,fr,b⟩
end EV

namespace EV
open PySem PySem.Spec PyProof.Rows L2
structure Gc where
 K:aB
 fnA:Str->Option Addr
 clA:Str->Option Addr
mutual
inductive Rep(g:Gc)(H:Hp):D->V->Prop
 |non:Rep g H .non .non
 |bl (b:Bool):Rep g H (.bl b) (.bl b)
 |int (i:Int):Rep g H (.int i) (.int i)
 |str (x:Str):Rep g H (.str x) (.str x)
 |tup {a:Addr}{xs:List V}{ds:List D}:SqT g.K H a xs->qy g H ds xs->Rep g H (.tup ds) (.ref a)
 |lst {a:Addr}{xs:List V}{ds:List D}:SqL g.K H a xs->qy g H ds xs->Rep g H (.lst ds) (.ref a)
 |fn {x:Str}{a:Addr}:g.fnA x=some a->Rep g H (.fn x) (.ref a)
 |exn {c:Str}{a C:Addr}:g.clA c=some C->H a=some (ip a (.ref C))->Rep g H (.exn c) (.ref a)
 |dic {a:Addr}{kvs:List (Int×Int)}:H a=some (.dK (bI kvs))->Rep g H (.dic kvs) (.ref a)
inductive qy(g:Gc)(H:Hp):List D->List V->Prop
 |nil:qy g H [] []
 |cons {d:D}{ds:List D}{x:V}{xs:List V}:Rep g H d x->qy g H ds xs->qy g H (d::ds) (x::xs)
end
theorem eA{K:aB}{H H':Hp}{a:Addr}{xs:List V}(e:qf H H')(h:SqT K H a xs):SqT K H' a xs:=by
 rcases h with (h|⟨o,h⟩)|h
 ·exact .inl (.inl (e _ _ h))
 ·exact .inl (.inr ⟨o,e _ _ h⟩)
 ·exact .inr h
section
variable{g:Gc}{H H':Hp}
theorem jA{a b:Bool}(h:(a&&b)=true):a=true/\b=true:=by rw[aW]at h;exact h
theorem Rep.mono(e:qf H H'){d:D}{v:V}(h:Rep g H d v):Rep g H' d v:=
 h.rec (motive_1:=λd v _=>Rep g H' d v) (motive_2:=λd v _=>qy g H' d v) .non .bl .int .str (λq _ r=>.tup (eA e q) r) (λq _ r=>.lst (e.seq q) r) .fn (λq r=>.exn q (e _ _ r)) (λq=>.dic (e _ _ q)) .nil (λ_ _ a b=>.cons a b)
theorem qy.mono(e:qf H H'){d:List D}{v:List V}(h:qy g H d v):qy g H' d v:=
 h.rec (motive_1:=λd v _=>Rep g H' d v) (motive_2:=λd v _=>qy g H' d v) .non .bl .int .str (λq _ r=>.tup (eA e q) r) (λq _ r=>.lst (e.seq q) r) .fn (λq r=>.exn q (e _ _ r)) (λq=>.dic (e _ _ q)) .nil (λ_ _ a b=>.cons a b)
theorem qy.length{ds:List D}:∀{vs:List V},qy g H ds vs->ds.length=vs.length:=by
 induction ds with
 |nil=>intro vs h;cases h;rfl
 |cons d ds ih=>intro vs h;cases h with|cons _ r=>exact congrArg (· + 1) (ih r)
theorem qy.get{ds:List D}:∀{vs:List V}{i:Nat}{d:D},qy g H ds vs->ds[i]? = some d->∃v,vs[i]? = some v/\Rep g H d v:=by
 induction ds with
 |nil=>intro vs i d h e;cases e
 |cons d ds ih=>
  intro vs i d' h e;cases h with
  |cons h t=>cases i with
   |zero=>cases e;exact⟨_,rfl,h⟩
   |succ i=>exact ih (i:=i) t e
theorem qy.append{ds:List D}:∀{es:List D}{vs us:List V},qy g H ds vs->qy g H es us->qy g H (ds++es) (vs++us):=by
 induction ds with
 |nil=>intro es vs us h s;cases h;exact s
 |cons d ds ih=>intro es vs us h s;cases h with|cons r t=>exact .cons r (ih t s)
theorem qy.take{ds:List D}:∀{vs:List V} (n:Nat),qy g H ds vs->qy g H (ds.take n) (vs.take n):=by
 induction ds with
 |nil=>intro vs n h;cases h;cases n<;>exact .nil
 |cons d ds ih=>intro vs n h;cases h with|cons r t=>cases n with
  |zero=>exact .nil
  |succ n=>exact .cons r (ih n t)
theorem qy.drop{ds:List D}:∀{vs:List V} (n:Nat),qy g H ds vs->qy g H (ds.drop n) (vs.drop n):=by
 induction ds with
 |nil=>intro vs n h;cases h;cases n<;>exact .nil
 |cons d ds ih=>intro vs n h;cases n with
  |zero=>exact h
  |succ n=>cases h with|cons r t=>exact ih n t
theorem qy.set{d:D}{v:V}(r:Rep g H d v){ds:List D}:∀{vs:List V} (i:Nat),qy g H ds vs->qy g H (ds.set i d) (vs.set i v):=by
 induction ds with
 |nil=>intro vs i h;cases h;exact .nil
 |cons d' ds ih=>intro vs i h;cases h with|cons q t=>cases i with
  |zero=>exact .cons r t
  |succ i=>exact .cons q (ih i t)
theorem qy.ints{ds:List D}:∀{vs:List V}{ns:List Int},qy g H ds vs->ints? ds=some ns->vs=ns.map V.int/\ds=ns.map D.int:=by
 induction ds with
 |nil=>intro vs ns h e;cases h;cases e;exact⟨rfl,rfl⟩
 |cons d ds ih=>
  intro vs ns h e;cases h with
  |cons h t=>cases d with
   |int i=>
    obtain⟨ms,e1,rfl⟩:=bK.mp (show (ints? ds).map (i :: ·)=some ns from e);obtain⟨h1,h2⟩:=ih t e1;cases h;exact⟨by rw[h1];rfl,by rw[h2];rfl⟩
   |_=>cases (show none=some ns from e)
theorem qy.bools{ds:List D}:∀{vs:List V}{ns:List Bool},qy g H ds vs->bools? ds=some ns->vs=ns.map V.bl:=by
 induction ds with
 |nil=>intro vs ns h e;cases h;cases e;rfl
 |cons d ds ih=>
  intro vs ns h e;cases h with
  |cons h t=>cases d with
   |bl i=>
    obtain⟨ms,e1,rfl⟩:=bK.mp (show (bools? ds).map (i :: ·)=some ns from e);have h1:=ih t e1;cases h;rw[h1];rfl
   |_=>cases (show none=some ns from e)
theorem qy.ofInts:∀(ns:List Int),qy g H (ns.map D.int) (ns.map V.int)
 | []=>.nil
 |i::r=>.cons (.int i) (qy.ofInts r)
end
structure Sh where
 o:Addr->Bool
 h:Addr->Bool
 z:L2.St
 y:Hp
noncomputable def hid(H:Hp)(S:Sh):Hp:=λb=>if S.h b=true then none else H b
noncomputable def cZ(S:Sh)(a:Addr):Sh:=⟨S.o,λb=>S.h b||b==a,S.z,S.y⟩
theorem bZ{H:Hp}{S:Sh}{b:Addr}{o:HO}:hid H S b=some o↔S.h b=false/\H b=some o:=by
 unfold hid;cases h:S.h b<;>simp
theorem dj{H:Hp}{S:Sh}:qf (hid H S) H:=λ_ _ h=>(bZ.mp h).2
theorem qh{H H':Hp}{S:Sh}(e:qf H H'):qf (hid H S) (hid H' S):=λb o h=>bZ.mpr ⟨(bZ.mp h).1,e _ _ (bZ.mp h).2⟩
def Sub(S:Sh)(H:Hp):Prop:=∀a,(S.h a=true\/S.o a=true)->H a≠none
theorem Sub.same{S:Sh}{H H':Hp}(h:Sub S H)(e:qf H H'):Sub S H':=λa s n=>by
 cases q:H a with
 |none=>exact h a s q
 |some o=>rw[e _ _ q]at n;cases n
theorem Sub.free{S:Sh}{H:Hp}(h:Sub S H){p:Addr}(n:H p=none):S.h p=false:=by
 cases q:S.h p with
 |false=>rfl
 |true=>exact absurd n (h p (.inl q))
theorem Sub.freeO{S:Sh}{H:Hp}(h:Sub S H){p:Addr}(n:H p=none):S.o p=false:=by
 cases q:S.o p with
 |false=>rfl
 |true=>exact absurd n (h p (.inr q))
theorem qY{H:Hp}{p:Addr}{o:HO}(n:H p=none):qf H (upd H p o):=λb u h=>by
 rw[qg (λz=>by rw[z,n]at h;cases h)];exact h
theorem lV{H:Hp}{S:Sh}{p:Addr}{o:HO}(hs:Sub S H)(n:H p=none):hid (upd H p o) S p=some o:=bZ.mpr ⟨hs.free n,zm⟩
theorem jH{H:Hp}{S:Sh}{p:Addr}{o:HO}(n:H p=none):qf (hid H S) (hid (upd H p o) (cZ S p)):=λb u h=>by
 obtain⟨h1,h2⟩:=bZ.mp h;have hb:b≠p:=λz=>by rw[z,n]at h2;cases h2
 refine bZ.mpr ⟨?_,by rw[qg hb];exact h2⟩;show (S.h b||b==p)=false;rw[h1]
 simpa using hb
theorem sA{H:Hp}{S:Sh}{p:Addr}:qf (hid H (cZ S p)) (hid H S):=λb u h=>by
 obtain⟨h1,h2⟩:=bZ.mp h;refine bZ.mpr ⟨?_,h2⟩;have h1:(S.h b||b==p)=false:=h1;simp at h1;exact h1.1
inductive dN(g:Gc)(H:Hp):D->HO->Prop
 |lst {ds:List D}{vs:List V}:qy g H ds vs->dN g H (.lst ds) (.lst vs)
 |dic (kvs:List (Int×Int)):dN g H (.dic kvs) (.dK (bI kvs))
theorem dN.mono{g:Gc}{H H':Hp}{d:D}{o:HO}(e:qf H H')(h:dN g H d o):dN g H' d o:=by
 cases h with
 |lst r=>exact .lst (r.mono e)
 |dic k=>exact .dic k
theorem dN.rep{g:Gc}{H H':Hp}{d:D}{o:HO}{a:Addr}(h:dN g H d o)(e:qf H H')(ha:H' a=some o):Rep g H' d (.ref a):=by
 cases h with
 |lst r=>exact .lst (SqL.of ha) (r.mono e)
 |dic k=>exact .dic ha
def zz(g:Gc)(H:Hp)(S:Sh)(d:D)(v:V):Prop:=
 Rep g (hid H S) d v\/∃a o,S.o a=true/\v=.ref a/\H a=some o/\dN g (hid H S) d o
def Fr(g:Gc)(H0:Hp)(S:Sh)(H:Hp)(d:D)(v:V):Prop:=
 ∃a o,v=.ref a/\H0 a=none/\H a=some o/\dN g (hid H (cZ S a)) d o
section
variable{g:Gc}{H H' H0:Hp}{S:Sh}{d:D}{v:V}
theorem zz.mono(e:qf H H')(h:zz g H S d v):zz g H' S d v:=by
 rcases h with h|⟨a,o,h1,h2,h3,h4⟩
 ·exact .inl (h.mono (qh e))
 ·exact .inr ⟨a,o,h1,h2,e _ _ h3,h4.mono (qh e)⟩
theorem zz.rep(h:zz g H S d v):Rep g H d v:=by
 rcases h with h|⟨a,o,h1,rfl,h3,h4⟩
 ·exact h.mono dj
 ·exact h4.rep dj h3
theorem zz.lst{ds:List D}(h:zz g H S (.lst ds) v):∃a vs,v=.ref a/\SqL g.K H a vs/\qy g (hid H S) ds vs:=by
 rcases h with h|⟨a,o,h1,rfl,h3,h4⟩
 ·cases h with
  |lst h r=>exact⟨_,_,rfl,dj.seq h,r⟩
 ·cases h4 with
  |lst r=>exact⟨a,_,rfl,SqL.of h3,r⟩
theorem zz.dic{kvs:List (Int×Int)}(h:zz g H S (.dic kvs) v):∃a,v=.ref a/\H a=some (.dK (bI kvs)):=by
 rcases h with h|⟨a,o,h1,rfl,h3,h4⟩
 ·cases h with
  |dic h=>exact⟨_,rfl,dj _ _ h⟩
 ·cases h4 with
  |dic k=>exact⟨a,rfl,h3⟩
theorem zz.strong(h:zz g H S d v)(n:∀ds,d≠.lst ds)(n2:∀k,d≠.dic k:=by intro _ z;cases z):Rep g (hid H S) d v:=by
 rcases h with h|⟨a,o,h1,rfl,h3,h4⟩
 ·exact h
 ·cases h4 with
  |lst r=>exact absurd rfl (n _)
  |dic k=>exact absurd rfl (n2 _)
theorem zz.tup{ds:List D}(h:zz g H S (.tup ds) v):∃a vs,v=.ref a/\SqT g.K H a vs/\qy g (hid H S) ds vs:=by
 cases h.strong (by intro _ z;cases z)with
 |tup h2 r=>exact⟨_,_,rfl,eA dj h2,r⟩
theorem zz.seq{ds:List D}(h:zz g H S d v)(e:seq? d=some ds):∃a vs,v=.ref a/\(SqL g.K H a vs\/SqT g.K H a vs)/\qy g (hid H S) ds vs:=by
 cases d with
 |tup xs=>cases e;obtain⟨a,vs,h1,h2,h3⟩:=h.tup;exact⟨a,vs,h1,.inr h2,h3⟩
 |lst xs=>cases e;obtain⟨a,vs,h1,h2,h3⟩:=h.lst;exact⟨a,vs,h1,.inl h2,h3⟩
 |_=>cases e
theorem zz.int{i:Int}(h:zz g H S (.int i) v):v=.int i:=by cases h.strong (by intro _ z;cases z);rfl
theorem zz.bl{b:Bool}(h:zz g H S (.bl b) v):v=.bl b:=by cases h.strong (by intro _ z;cases z);rfl
theorem iX{ds:List D}{vs:List V}{p:Addr}(hs:Sub S H)(n:H p=none)(r:qy g (hid H S) ds vs):Rep g (hid (upd H p (.tup vs)) S) (.tup ds) (.ref p):=
 .tup (SqT.of (lV hs n)) (r.mono (qh (qY n)))
theorem eZ{ds:List D}{vs:List V}{p:Addr}(hs:Sub S H)(n:H p=none)(r:qy g (hid H S) ds vs):Rep g (hid (upd H p (.lst vs)) S) (.lst ds) (.ref p):=
 .lst (SqL.of (lV hs n)) (r.mono (qh (qY n)))
theorem ff{ds:List D}{vs:List V}{p:Addr}(e:qf H0 H)(n:H p=none)(r:qy g (hid H S) ds vs):Fr g H0 S (upd H p (.lst vs)) (.lst ds) (.ref p):=
 ⟨p,_,rfl,e.free n,zm,.lst (r.mono (jH n))⟩
theorem EJ{kvs:List (Int×Int)}{p:Addr}(hs:Sub S H)(n:H p=none):Rep g (hid (upd H p (.dK (bI kvs))) S) (.dic kvs) (.ref p):=.dic (lV hs n)
theorem uk{kvs:List (Int×Int)}{p:Addr}(e:qf H0 H)(n:H p=none):Fr g H0 S (upd H p (.dK (bI kvs))) (.dic kvs) (.ref p):=⟨p,_,rfl,e.free n,zm,.dic kvs⟩
end
end EV
namespace L2
open PySem PySem.Spec PyProof.Rows
section
variable{X:Cx}
end
end L2
namespace EV
open PySem PySem.Spec PySem.P PyProof.Rows L2
mutual
noncomputable def D.py:D->PyData
 | .non=>.none
 | .bl b=>.bool b
 | .int i=>.int i
 | .str x=>.str x
 | .tup xs=>.tuple (pys xs)
 | .lst xs=>.list (pys xs)
 | .fn _=>.none
 | .exn _=>.none
 | .dic _=>.none
noncomputable def pys:List D->List PyData
 | []=>[]
 |x::xs=>x.py::pys xs
end
mutual
theorem nP:∀{d:D},d.plain=true->d.py.canLay0=true
 | .non,_ | .bl _,_ | .int _,_=>rfl
 | .str x,h=>h
 | .tup xs,h=>by exact mJ (h)
 | .lst xs,h=>by exact mJ (h)
 | .fn _,h | .exn _,h | .dic _,h=>nomatch h
theorem mJ:∀{ds:List D},plainAll ds=true->PyData.canLayAll0 (pys ds)=true
 | [],_=>by simp[pys,PyData.canLayAll0]
 |x::xs,h=>by
  simp only[plainAll,aW]at h;simp only[pys,PyData.canLayAll0,aW];exact⟨nP h.1,mJ h.2⟩
end
mutual
theorem nF:∀(d:D),d.py.depth=d.deep
 | .non | .bl _ | .int _ | .str _ | .fn _ | .exn _ | .dic _=>rfl
 | .tup xs=>congrArg (· + 1) (lE xs)
 | .lst xs=>congrArg (· + 1) (lE xs)
theorem lE:∀(ds:List D),PyData.depthAll (pys ds)=fZ ds
 | []=>rfl
 |x::xs=>by simp only[pys,PyData.depthAll,fZ];rw[nF x,lE xs]
end
mutual
theorem lW:∀(a b:D),a.plain=true->b.plain=true->PyData.eqv a.py b.py=a.eqv b
 | .tup xs,.tup ys,h,h'=>by exact ko xs ys (h) (h')
 | .lst xs,.lst ys,h,h'=>by exact ko xs ys (h) (h')
 | .fn _,_,h,_=>nomatch h
 | .exn _,_,h,_=>nomatch h
 | .dic _,_,h,_=>nomatch h
 | .non,b,_,h' | .bl _,b,_,h' | .int _,b,_,h' | .str _,b,_,h'=>by cases b<;>first|rfl|exact Bool.noConfusion h'|simp[D.py,PyData.eqv,D.plain]at h' ⊢
 | .tup _,.non,_,_ | .tup _,.bl _,_,_ | .tup _,.int _,_,_ | .tup _,.str _,_,_ | .tup _,.lst _,_,_=>by simp[D.py,PyData.eqv,D.eqv]
 | .lst _,.non,_,_ | .lst _,.bl _,_,_ | .lst _,.int _,_,_ | .lst _,.str _,_,_ | .lst _,.tup _,_,_=>by simp[D.py,PyData.eqv,D.eqv]
 | .tup _,.fn _,_,h' | .tup _,.exn _,_,h' | .lst _,.fn _,_,h' | .lst _,.exn _,_,h' | .tup _,.dic _,_,h' | .lst _,.dic _,_,h'=>nomatch h'
theorem ko:∀(xs ys:List D),plainAll xs=true->plainAll ys=true->PyData.eqvAll (pys xs) (pys ys)=eqvAll xs ys
 | [],[],_,_=>rfl
 |x::xs,y::ys,h,h'=>by
  simp only[plainAll,aW]at h h';simp only[pys,PyData.eqvAll,eqvAll];rw[lW x y h.1 h'.1,ko xs ys h.2 h'.2]
 | [],_::_,_,_=>rfl
 |_::_,[],_,_=>rfl
end
theorem Rep.data{g:Gc}{H:Hp}{d:D}{v:V}(h:Rep g H d v):d.plain=true->eY g.K H v d.py:=
 h.rec (motive_1:=λd v _=>d.plain=true->eY g.K H v d.py) (motive_2:=λds vs _=>plainAll ds=true->gE g.K H vs (pys ds)) (λ_=>.non) (λb _=>.bl b) (λb _=>.int b) (λb _=>.str b) (λq _ r p=>.tup q (r p)) (λq _ r p=>.lst q (r p)) (λ_ p=>nomatch p) (λ_ _ p=>nomatch p) (λ_ p=>nomatch p) (λ_=>.nil) (λ_ _ a b p=>.cons (a (jA p).1) (b (jA p).2))
theorem iL{d:D}:d.asks=true↔d.plain=true/\d.deep<=20:=by simp[D.asks]
section
variable{X:Cx}{g:Gc}
theorem OpR.imp{f:ae->ae->Sem ae}{r r':R2}(h:OpR X f r)(i:∀x y H Q,r' x y H Q->r x y H Q):OpR X f r':=
 λpins s σ H x y v u Q I rx ry q=>h pins s σ H x y v u Q I rx ry (i _ _ _ _ q)
def Ae(K:aB):R2:=λx y H Q=>∃l b xs zs,x=.ref l/\y=.ref b/\SqL K H l xs/\SqL K H b zs/\xs.length+zs.length<=aO/\∀p,H p=none->Q (.ref p) (upd H p (.lst (xs++zs)))
theorem vF:OpR X (binaryOp .Add) (Ae X.K):=by
 intro pins s σ H x y v u Q I rx ry h;obtain⟨l,b,xs,zs,rfl,rfl,hH,hB,hz,q⟩:=h;cases rx;cases ry;obtain⟨its,r,pl,z⟩:=I.list hH;obtain⟨Gh,r2,MX,z2⟩:=I.list hB;have l1:=r.length;have l2:=r2.length;obtain⟨⟨cls,dd,data,sl⟩,ho,hc,n,hd⟩:=pl.isList;obtain⟨⟨HM,GR,data2,Hg⟩,Gw,F_,n2,hd2⟩:=MX.isList;simp only at hc hd F_ hd2;subst hc hd F_ hd2;refine concat_meets ⟨_,ho,rfl⟩ ⟨_,Gw,rfl⟩ noFill_list_add seq_list_add PySem.F.slot_list_add PySem.F.entry_list_add (PySem.F.args_list_add_2 _ _) (list_addW l b its.toArray Gh.toArray n n2 dd GR sl Hg (by rw[a7,a7];lia)) ⟨ho,Gw,?_⟩;have ea:its.toArray++Gh.toArray=(its++Gh).toArray:=by simp
 rw[ea];exact⟨.ref _,_,I.lnew (t':=s.toks) (r.append r2) (by rw[bP];lia),rfl,q _ I.fresh⟩
def rOp(g:Gc)(o:O2):R2:=λx y H Q=>∃S da db,Sub S H/\zz g H S da x/\zz g H S db y /\
 match op2 o da db with
 | .ok d=>∀v H',qf H H'->Rep g (hid H' S) d v->(lB da=true->Fr g H S H' d v)->Q v H'
 |_=>False
theorem iH{o:O2}(ho:o≠.add)(hm:o≠.mul){da db d:D}(h:op2 o da db=.ok d):∃i j,da=.int i/\db=.int j/\opI o i j=.ok d:=by
 unfold op2 at h;split at h
 ·exact⟨_,_,rfl,rfl,h⟩
 ·rw[if_neg (λz=>ho z.1)]at h;cases h
 ·rw[if_neg (λz=>ho z.1)]at h;cases h
 ·cases h
theorem rZ{j:Int}(h:small j=true):-(2^64)<j/\j<2^64:=by simpa[small]using h
theorem pF{n:Nat}(h:n<=SZ):n<=sizeLine:=bB h (by rw[bx];decide)
theorem log2_small{j:Int}(h1:0<j)(h2:j<1000000000000000000000000000000):j.natAbs.log2<9000:=by
 have h3:j.natAbs<2^100:=by
  have:(2:Nat)^100=1267650600228229401496703205376:=by decide +kernel
  rw[this];lia
 have:=(Nat.log2_lt (n:=j.natAbs) (k:=100) (by lia)).mpr h3;lia
theorem vI:OpR X (binaryOp .FloorDiv) (rI (λ_ j=>0<j/\j<1000000000000000000000000000000) λi j=>.int (i/j)):=L2.opI λi j _ _ _ _ _ hc q=>by
 have h1:(0:Int)<j:=hc.1;exact floordiv_int (by lia) (by rw[Int.fdiv_eq_ediv_of_nonneg i (by lia)];exact q) (.inl (PyProof.noPylong_of_log2 (log2_small hc.1 hc.2)))
theorem uX(hK:X.K=g.K){op:Operator}{o:O2}(h:o2 op=some o):OpR X (binaryOp op) (rOp g o):=by
 have two:∀{f:ae->ae->Sem ae}{C:Int->Int->Prop}{q:Int->Int->Int} (o:O2),OpR X f (rI C λi j=>.int (q i j))->(∀da db d,op2 o da db=.ok d->∃i j,da=.int i/\db=.int j/\C i j/\d=.int (q i j))->OpR X f (rOp g o):=λo k e=>by
  refine OpR.imp k λx y H Q ⟨S,da,db,hs,ra,rb,m⟩=>?_
  cases e1:op2 o da db with
  |ok d=>
   rw[e1]at m;obtain⟨i,j,rfl,rfl,c,rfl⟩:=e da db d e1;exact⟨i,j,ra.int,rb.int,c,m _ _ (qf.refl _) (.int _) (λz=>nomatch z)⟩
  |ex c=>rw[e1]at m;exact m.elim
  |no=>rw[e1]at m;exact m.elim
 have KZ:∀{f:ae->ae->Sem ae}{q:Int->Int->Int} (o:O2),OpR X f (rI0 λi j=>.int (q i j))->(∀da db d,op2 o da db=.ok d->∃i j,da=.int i/\db=.int j/\d=.int (q i j))->OpR X f (rOp g o):=λ{f q} o k e=>
  two (C:=λ_ _=>True) (q:=q) o (OpR.imp k λx y H Q ⟨i,j,h1,h2,_,h3⟩=>⟨i,j,h1,h2,h3⟩) λda db d h=>by
   obtain⟨i,j,h1,h2,h3⟩:=e da db d h;exact⟨i,j,h1,h2,trivial,h3⟩
 cases op<;>simp only[o2,cz]at h<;>first|subst h|cases h
 ·-- Add
  refine OpR.imp (Bq.or (CC.or vF)) λx y H Q ⟨S,da,db,hs,ra,rb,m⟩=>?_
  cases da with
  |int i=>
   cases db with
   |int j=>exact .inl ⟨i,j,ra.int,rb.int,m _ _ (qf.refl _) (.int _) (λz=>nomatch z)⟩
   |_=>exact m.elim
  |tup xs=>
   cases db with
   |tup ys=>
    simp only[op2,true_and]at m;split at m
    ·rename_i e
     split at e<;>cases e
     rename_i hz
     obtain⟨a,vs,rfl,h1,r1⟩:=ra.tup;obtain⟨b,us,rfl,h2,r2⟩:=rb.tup;refine .inr (.inl ⟨a,b,vs,us,rfl,rfl,by rw[hK];exact h1,by rw[hK];exact h2,by rw[<-r1.length,<-r2.length];exact pF hz,λe=>?_,λ_ e=>?_,λ_ _ p hp=>?_⟩)
     ·subst e;cases r1;exact m _ _ (qf.refl _) (rb.strong (by intro _ z;cases z)) (λz=>nomatch z)
     ·subst e;cases r2;rw[dg]at m;exact m _ _ (qf.refl _) (ra.strong (by intro _ z;cases z)) (λz=>nomatch z)
     ·exact m _ _ (qY hp) (iX hs hp (r1.append r2)) (λz=>nomatch z)
    ·exact m.elim
   |_=>exact m.elim
  |lst xs=>
   cases db with
   |lst ys=>
    simp only[op2,true_and]at m;split at m
    ·rename_i e
     split at e<;>cases e
     rename_i hz
     obtain⟨a,vs,rfl,h1,r1⟩:=ra.lst;obtain⟨b,us,rfl,h2,r2⟩:=rb.lst;refine .inr (.inr ⟨a,b,vs,us,rfl,rfl,by rw[hK];exact h1,by rw[hK];exact h2,by rw[<-r1.length,<-r2.length];exact pF hz,λp hp=>?_⟩);exact m _ _ (qY hp) (eZ hs hp (r1.append r2)) (λ_=>ff (qf.refl _) hp (r1.append r2))
    ·exact m.elim
   |_=>exact m.elim
  |_=>exact m.elim
 ·exact KZ .sub xY λda db d h=>by obtain⟨i,j,rfl,rfl,h'⟩:=iH (by decide) (by decide) h;clear h;rename _=>h;cases h;exact⟨_,_,rfl,rfl,rfl⟩
 ·refine OpR.imp CK λx y H Q ⟨S,da,db,hs,ra,rb,m⟩=>?_
  cases e1:op2 .mul da db with
  |ok d=>
   rw[e1]at m;unfold op2 at e1;split at e1
   ·simp only[opI]at e1;split at e1
    ·rename_i i j hc
     cases e1;refine⟨i,j,ra.int,rb.int,?_,m _ _ (qf.refl _) (.int _) (λz=>nomatch z)⟩;rcases(by simpa using hc)with z|z
     ·exact .inl (rZ z)
     ·exact .inr (rZ z)
    ·cases e1
   ·rw[if_neg (λz=>nomatch z.1)]at e1;cases e1
   ·rw[if_neg (λz=>nomatch z.1)]at e1;cases e1
   ·cases e1
  |ex c=>rw[e1]at m;exact m.elim
  |no=>rw[e1]at m;exact m.elim
 ·exact two .mod vT λda db d h=>by obtain⟨i,j,rfl,rfl,h'⟩:=iH (by decide) (by decide) h;clear h;rename _=>h;simp only[opI]at h;split at h<;>cases h;rename_i hc;exact⟨_,_,rfl,rfl,hc,rfl⟩
 ·exact two .pow CL λda db d h=>by obtain⟨i,j,rfl,rfl,h'⟩:=iH (by decide) (by decide) h;clear h;rename _=>h;simp only[opI]at h;split at h<;>cases h;rename_i hc;exact⟨_,_,rfl,rfl,hc,rfl⟩
 ·exact two .shr uV λda db d h=>by obtain⟨i,j,rfl,rfl,h'⟩:=iH (by decide) (by decide) h;clear h;rename _=>h;simp only[opI]at h;split at h<;>cases h;rename_i hc;exact⟨_,_,rfl,rfl,hc,rfl⟩
 ·exact two .fdiv vI λda db d h=>by obtain⟨i,j,rfl,rfl,h'⟩:=iH (by decide) (by decide) h;clear h;rename _=>h;simp only[opI]at h;split at h<;>cases h;rename_i hc;exact⟨_,_,rfl,rfl,hc,rfl⟩
theorem j_(hK:X.K=g.K){pins:List (Addr×Obj)}{σ:L2.St}{H:Hp}{s:af}(I:Inv X pins σ H s){d:D}{v:V}{u:ae}(r:Rep g H d v)(a:d.asks=true)(ru:RelV v u):∃as,Reads s.heap u d.py as/\d.py.canLay0=true/\d.py.depth<=20:=by
 obtain⟨h1,h2⟩:=iL.mp a;have h:=r.data h1;rw[<-hK]at h;obtain⟨as,q⟩:=I.reads h ru;exact⟨as,q,nP h1,by rw[nF];exact h2⟩
theorem oO:∀(a b:List Int),dE a b=HT.lexLt a b
 | [],[]=>by simp[dE,HT.lexLt]
 | [],_::_=>by simp[dE,HT.lexLt]
 |_::_,[]=>by simp[dE,HT.lexLt]
 |a::r,b::t=>by
  simp only[dE,HT.lexLt];rw[oO r t]
  try (by_cases h:a=b<;>simp[h])
def rCm(g:Gc)(c:C2):R2:=λx y H Q=>∃S da db,zz g H S da x/\zz g H S db y /\
 match qm c da db with
 | .ok b=>Q (.bl b) H
 |_=>False
open Classical in
noncomputable def eW(h:Heap)(q:PyData)(u:ae):Bool:=if e:∃d as,Reads h u d as then PyData.eqv e.choose q else false
theorem rp{h:Heap}{q d:PyData}{u:ae}{as:List Addr}(r:Reads h u d as):eW h q u=PyData.eqv d q:=by
 have e:∃d as,Reads h u d as:=⟨d,as,r⟩
 unfold eW;rw[dif_pos e];obtain⟨bs,r'⟩:=e.choose_spec;rw[(PySem.Reads.unique r' d as r).1]
theorem any_eq(hK:X.K=g.K){pins:List (Addr×Obj)}{σ:L2.St}{H:Hp}{s:af}(I:Inv X pins σ H s){da:D}(ha:da.asks=true){ds:List D}:∀{vs:List V}{us:List ae},qy g H ds vs->Vals vs us->ds.all D.asks=true ->
  us.any (eW s.heap da.py)=inD da ds/\∀u∈us,∃d as,Reads s.heap u d as/\d.canLay0=true/\d.depth<=20:=by
 induction ds with
 |nil=>intro vs us h r _;cases h;cases r;exact⟨rfl,λu h=>nomatch h⟩
 |cons d ds ih=>
  intro vs us h q e;cases h with
  |cons h r=>cases q with
   |cons q t=>
    rw[List.all_cons,aW]at e;obtain⟨as,h1,h2,h3⟩:=j_ hK I h e.1 q;obtain⟨i1,i2⟩:=ih r t e.2;refine⟨?_,λu hu=>?_⟩
    ·rw[List.any_cons,i1,rp h1,lW _ _ (iL.mp e.1).1 (iL.mp ha).1]
     rfl
    ·rcases aI.mp hu with rfl|hu
     ·exact⟨_,as,h1,h2,h3⟩
     ·exact i2 u hu
theorem yM{A:aE}{s:af}{u v:ae}{d:PyData}{as:List Addr}{q:PyData}{bs:List Addr}(hu:A.units+60<cLine)(r:Reads s.heap u d as)(r':Reads s.heap v q bs)(h1:d.canLay0=true)(h2:q.canLay0=true)(h3:d.depth<=20):SeqAt.EqAt A.in1 s u v (eW s.heap q u):=by
 rw[rp r];refine SeqAt.eqAt_reads d q A.in1 s u v as bs r r' h1 h2 ?_;have:min d.depth q.depth<=d.depth:=Nat.min_le_left _ _;show A.units+1+_<_;lia
theorem pB(hK:X.K=g.K)(hu:X.A.units+64<cLine)(neg:Bool):OpR X (a_ (if neg then .NotIn else .In)) (λx y H Q=>∃S da db ds,zz g H S da x/\zz g H S db y/\seq? db=some ds/\da.asks=true/\ds.all D.asks=true/\Q (.bl (if neg then !inD da ds else inD da ds)) H):=by
 intro pins s σ H x y v u Q I rx ry h;obtain⟨S,da,db,ds,ra,rb,es,aa,ad,q⟩:=h;obtain⟨as,h1,h2,h3⟩:=j_ hK I ra.rep aa rx;obtain⟨a,vs,rfl,Jg,rr⟩:=rb.seq es;cases ry;have go:∀{its:List ae},Vals vs its->(∀w∈its.toArray,SeqAt.EqAt X.A.in1 s w v (eW s.heap da.py w))/\its.toArray.any (eW s.heap da.py)=inD da ds:=λ{its} rv=>by
  obtain⟨i1,i2⟩:=any_eq hK I aa (rr.mono dj) rv ad;refine⟨λw hw=>?_,by simpa using i1⟩;obtain⟨d,bs,r1,r2,r3⟩:=i2 w (by simpa using hw);exact yM (Nat.lt_of_le_of_lt (Nat.add_le_add_left (by decide) _) hu) r1 h1 r2 h2 r3
 rcases Jg with Jg|Jg
 ·obtain⟨its,rv,pl,_⟩:=I.list (by rw[hK];exact Jg);obtain⟨g1,g2⟩:=go rv;cases neg with
  |false=>exact SeqAt.in_listAt (eW s.heap da.py) pl.isList g1 ⟨.bl _,H,I,rfl,by rw[g2];exact q⟩
  |true=>exact SeqAt.notIn_listAt (eW s.heap da.py) pl.isList g1 ⟨.bl _,H,I,rfl,by rw[g2];exact q⟩
 ·obtain⟨its,rv,pl,_⟩:=I.tuple (by rw[hK];exact Jg);obtain⟨g1,g2⟩:=go rv;cases neg with
  |false=>exact SeqAt.in_tupleAt (eW s.heap da.py) pl g1 ⟨.bl _,H,I,rfl,by rw[g2];exact q⟩
  |true=>exact SeqAt.notIn_tupleAt (eW s.heap da.py) pl g1 ⟨.bl _,H,I,rfl,by rw[g2];exact q⟩
theorem pE(hK:X.K=g.K)(hu:X.A.units+64<cLine)(neg:Bool):OpR X (a_ (if neg then .NotEq else .Eq)) (λx y H Q=>∃S da db,zz g H S da x/\zz g H S db y/\da.asks=true/\db.asks=true/\Q (.bl (if neg then !da.eqv db else da.eqv db)) H):=by
 intro pins s σ H x y v u Q I rx ry h;obtain⟨S,da,db,ra,rb,aa,ab,q⟩:=h;obtain⟨as,h1,h2,h3⟩:=j_ hK I ra.rep aa rx;obtain⟨bs,k1,k2,k3⟩:=j_ hK I rb.rep ab ry;have e:=lW da db (iL.mp aa).1 (iL.mp ab).1;have room:X.A.units+min da.py.depth db.py.depth<cLine:=by
  have:min da.py.depth db.py.depth<=da.py.depth:=Nat.min_le_left _ _;lia
 cases neg with
 |false=>exact SeqAt.compareEq_reads h1 k1 h2 k2 room ⟨.bl _,H,I,by rw[e];rfl,q⟩
 |true=>exact SeqAt.compareNe_reads h1 k1 h2 k2 room ⟨.bl _,H,I,by rw[e];rfl,q⟩
theorem zz.non_iff{S:Sh}{H:Hp}{d:D}{v:V}(r:zz g H S d v):decide (v=.non)=eN d:=by
 cases r.rep<;>rfl
theorem eX{op:CmpOp}{c:C2}{r:R2}(h:OpR X (a_ op) r)(k:∀S da db b x y H Q,zz g H S da x->zz g H S db y->qm c da db=.ok b->Q (.bl b) H->r x y H Q):OpR X (a_ op) (rCm g c):=by
 refine OpR.imp h λx y H Q ⟨S,da,db,ra,rb,m⟩=>?_
 cases e:qm c da db with
 |ok b=>rw[e]at m;exact k S da db b x y H Q ra rb e m
 |ex c'=>rw[e]at m;exact m.elim
 |no=>rw[e]at m;exact m.elim
theorem EL:OpR X (a_ .Is) (λx y H Q=>∃a b,x=.bl a/\y=.bl b/\Q (.bl (a==b)) H):=by
 intro pins s σ H x y v u Q I rx ry h;obtain⟨a,b,rfl,rfl,q⟩:=h;cases rx;cases ry;exact is_bool (jv I q rfl)
theorem ym:OpR X (a_ .IsNot) (λx y H Q=>∃a b,x=.bl a/\y=.bl b/\Q (.bl (!(a==b))) H):=by
 intro pins s σ H x y v u Q I rx ry h;obtain⟨a,b,rfl,rfl,q⟩:=h;cases rx;cases ry;exact isnot_bool (jv I q rfl)
theorem rA{n:Bool}{a b:EV.D}{c:Bool}(h:isB n a b=.ok c):∃x y,a=.bl x/\b=.bl y/\c=(n != (x==y)):=by
 unfold isB at h;split at h
 ·cases h;exact⟨_,_,rfl,rfl,rfl⟩
 ·cases h
theorem nB{da db:D}{b:Bool}(h:dC da db=.ok b):∃kvs i,db=.dic kvs/\da=.int i/\b=kvs.any λp=>decide (p.1=i):=by
 unfold dC at h;split at h
 ·split at h
  ·cases h;exact⟨_,_,rfl,rfl,rfl⟩
  ·cases h
 ·cases h
theorem eh(hK:X.K=g.K)(hu:X.A.units+64<cLine)(op:CmpOp):OpR X (a_ op) (rCm g (c2 op)):=by
 cases op
 ·exact eX (pE hK hu false) λS da db b x y H Q ra rb e q=>by
   simp only[c2,zS,zg,zr,zl,zR,zT,zQ]at e;split at e<;>cases e
   rename_i a
   simp only[aW]at a;exact⟨S,da,db,ra,rb,a.1,a.2,q⟩
 ·exact eX (pE hK hu true) λS da db b x y H Q ra rb e q=>by
   simp only[c2,zS,zg,zr,zl,zR,zT,zQ]at e;split at e<;>cases e
   rename_i a
   simp only[aW]at a;exact⟨S,da,db,ra,rb,a.1,a.2,q⟩
 ·exact eX (yx.or (yl (by lia))) λS da db b x y H Q ra rb e q=>by
   simp only[c2]at e;cases da with
   |int i=>
    cases db with
    |int j=>cases e;exact .inl ⟨i,j,ra.int,rb.int,q⟩
    |_=>cases e
   |tup xs=>
    cases db with
    |tup ys=>
     simp only[zS,zg,zr,zl,zR,zT,zQ]at e;split at e
     ·rename_i ns ms e1 e2
      cases e;obtain⟨a,vs,rfl,h1,r1⟩:=ra.tup;obtain⟨b,us,rfl,h2,r2⟩:=rb.tup;obtain⟨rfl,_⟩:=r1.ints e1;obtain⟨rfl,_⟩:=r2.ints e2;exact .inr ⟨a,b,ns,ms,rfl,rfl,by rw[hK];exact h1,by rw[hK];exact h2,oO ns ms▸q⟩
     ·cases e
    |_=>cases e
   |_=>cases db<;>cases e
 ·exact eX Fu λS da db b x y H Q ra rb e q=>by
   cases da with
   |int i=>
    cases db with
    |int j=>cases e;exact⟨_,_,ra.int,rb.int,q⟩
    |_=>cases e
   |_=>cases e
 ·exact eX xD λS da db b x y H Q ra rb e q=>by
   cases da with
   |int i=>
    cases db with
    |int j=>cases e;exact⟨_,_,ra.int,rb.int,q⟩
    |_=>cases e
   |_=>cases e
 ·exact eX EM λS da db b x y H Q ra rb e q=>by
   cases da with
   |int i=>
    cases db with
    |int j=>cases e;exact⟨_,_,ra.int,rb.int,q⟩
    |_=>cases e
   |_=>cases e
 ·exact eX (Bx.or EL) λS da db b x y H Q ra rb e q=>by
   simp only[c2,zS,zg,zr,zl,zR,zT,zQ]at e;split at e
   ·rename_i hd
    cases e;have hd:db=.non:=by cases db<;>first|rfl|cases hd
    subst hd;cases rb.rep;exact .inl ⟨rfl,by rw[ra.non_iff];exact q⟩
   ·obtain⟨a,c,rfl,rfl,rfl⟩:=rA e;cases ra.rep;cases rb.rep;exact .inr ⟨a,c,rfl,rfl,by cases a<;>cases c<;>exact q⟩
 ·exact eX (xg.or ym) λS da db b x y H Q ra rb e q=>by
   simp only[c2,zS,zg,zr,zl,zR,zT,zQ]at e;split at e
   ·rename_i hd
    cases e;have hd:db=.non:=by cases db<;>first|rfl|cases hd
    subst hd;cases rb.rep;exact .inl ⟨rfl,by rw[ra.non_iff];exact q⟩
   ·obtain⟨a,c,rfl,rfl,rfl⟩:=rA e;cases ra.rep;cases rb.rep;exact .inr ⟨a,c,rfl,rfl,by cases a<;>cases c<;>exact q⟩
 ·exact eX ((pB hK hu false).or (Fi hu)) λS da db b x y H Q ra rb e q=>by
   simp only[c2,zS,zg,zr,zl,zR,zT,zQ]at e;split at e
   ·rename_i xs es
    split at e<;>cases e
    rename_i a
    simp only[aW]at a;exact .inl ⟨S,da,db,xs,ra,rb,es,a.1,a.2,q⟩
   ·obtain⟨kvs,i,rfl,rfl,rfl⟩:=nB e;obtain⟨l,rfl,hl⟩:=rb.dic;exact .inr ⟨l,kvs,i,rfl,ra.int,hl,q⟩
 ·exact eX ((pB hK hu true).or (B5 hu)) λS da db b x y H Q ra rb e q=>by
   simp only[c2,zS,zg,zr,zl,zR,zT,zQ]at e;split at e
   ·rename_i xs es
    split at e<;>cases e
    rename_i a
    simp only[aW]at a;exact .inl ⟨S,da,db,xs,ra,rb,es,a.1,a.2,q⟩
   ·cases ed:dC da db with
    |ok r=>
     rw[ed]at e;obtain⟨kvs,i,rfl,rfl,rfl⟩:=nB ed;obtain⟨l,rfl,hl⟩:=rb.dic;cases e;exact .inr ⟨l,kvs,i,rfl,ra.int,hl,q⟩
    |ex z=>rw[ed]at e;cases e
    |no=>rw[ed]at e;cases e
end
abbrev fP(g:Gc)(H:Hp)(S:Sh):List D->List V->Prop:=Paired (zz g H S)
section
variable{X:Cx}{g:Gc}
theorem tD{H:Hp}{ds:List D}{vs:List V}{i:Int}{d:D}(r:qy g H ds vs)(e:atI ds i=some d):∃v,atI vs i=some v/\Rep g H d v:=by
 unfold atI at e ⊢;rw[<-r.length];cases q:ixN ds.length i with
 |none=>rw[q]at e;cases e
 |some j=>rw[q]at e;exact r.get e
def Fg(g:Gc):R2:=λx y H Q=>∃S da db,zz g H S da x/\zz g H S db y /\
 match ixD da db with
 | .ok d=>∀v,Rep g (hid H S) d v->Q v H
 |_=>False
theorem CM(hK:X.K=g.K)(hu:X.A.units+64<cLine):IxR X (Fg g):=by
 have k:IxR X (λx y H Q=>(mP X.K x y H Q\/n9 X.K x y H Q)\/tf x y H Q):=(CH.or Br).or (yd hu);intro value slice pins s σ H x y v u Q I rx ry h hs;refine k value slice pins s σ H x y v u Q I rx ry ?_ hs;obtain⟨S,da,db,ra,rb,m⟩:=h;cases da with
 |tup xs=>
  cases db with
  |int i=>
   simp only[ixD]at m;cases e:atI xs i with
   |none=>rw[e]at m;exact m.elim
   |some d=>
    rw[e]at m;obtain⟨a,vs,rfl,h1,r1⟩:=ra.tup;obtain⟨w,h2,h3⟩:=tD r1 e;exact .inl (.inr ⟨a,vs,i,w,rfl,rb.int,by rw[hK];exact h1,h2,m w h3⟩)
  |_=>exact m.elim
 |lst xs=>
  cases db with
  |int i=>
   simp only[ixD]at m;cases e:atI xs i with
   |none=>rw[e]at m;exact m.elim
   |some d=>
    rw[e]at m;obtain⟨a,vs,rfl,h1,r1⟩:=ra.lst;obtain⟨w,h2,h3⟩:=tD r1 e;exact .inl (.inl ⟨a,vs,i,w,rfl,rb.int,by rw[hK];exact h1,h2,m w h3⟩)
  |_=>exact m.elim
 |dic kvs=>
  cases db with
  |int i=>
   simp only[ixD]at m;cases e:atK kvs i with
   |none=>rw[e]at m;exact m.elim
   |some v=>
    rw[e]at m;obtain⟨a,rfl,h1⟩:=ra.dic;exact .inr ⟨a,kvs,i,v,rfl,rb.int,h1,e,m _ (.int v)⟩
  |_=>exact m.elim
 |_=>exact m.elim
def BI(g:Gc):V->Option Int->Option Int->Hp->VK->Prop:=λx lo hi H Q=>∃S da,Sub S H/\zz g H S da x /\
 match slD da lo hi with
 | .ok d=>∀v H',qf H H'->Rep g (hid H' S) d v->Q v H'
 |_=>False
theorem Bt{H:Hp}{ds:List D}{vs:List V}(r:qy g H ds vs)(lo hi:Option Int):qy g H (cutD ds lo hi) (gI vs lo hi):=by
 unfold cutD gI;rw[r.length];exact(r.drop _).take _
theorem B6(hK:X.K=g.K):SlR X (BI g):=by
 intro pins s σ H x v vl vu lo hi sl Q I rx hs pl pu h;obtain⟨S,da,hS,ra,m⟩:=h;cases da with
 |lst xs=>
  obtain⟨a,vs,rfl,h1,r1⟩:=ra.lst;exact Bp pins s σ H _ v vl vu lo hi sl Q I rx hs pl pu ⟨a,vs,rfl,by rw[hK];exact h1,λp hp=>m _ _ (qY hp) (eZ hS hp (Bt r1 lo hi))⟩
 |_=>exact m.elim
noncomputable def b1V:B1->ae
 | .len=>.builtin "len"
 | .tuple=>.type "tuple"
 | .list=>.type "list"
 | .sorted=>.builtin "sorted"
 | .all=>.builtin "all"
 | .any=>.builtin "any"
 | .sum=>.builtin "sum"
 | .min=>.builtin "min"
 | .max=>.builtin "max"
 | .abs=>.builtin "abs"
 | .int=>.type "int"
 | .bool=>.type "bool"
def rB1(g:Gc)(b:B1):List V->Hp->VK->Prop:=λvs H Q=>∃S ds,Sub S H/\fP g H S ds vs /\
 match b1 b ds with
 | .ok d=>∀v H',qf H H'->Rep g (hid H' S) d v->(b=.list\/b=.sorted->Fr g H S H' d v)->Q v H'
 |_=>False
theorem qQ.imp{f:ae}{r r':List V->Hp->VK->Prop}(h:qQ X f r)(i:∀xs H Q,r' xs H Q->r xs H Q):qQ X f r':=
 λpins s σ H xs us Q I rv q=>h pins s σ H xs us Q I rv (i _ _ _ q)
theorem fR{f:ae}{b:B1}{r:List V->Hp->VK->Prop}(h:qQ X f r)
  (k:∀S ds d vs H Q,Sub S H->fP g H S ds vs->b1 b ds=.ok d->(∀v H',qf H H'->Rep g (hid H' S) d v->(b=.list\/b=.sorted->Fr g H S H' d v)->Q v H')->r vs H Q):qQ X f (rB1 g b):=by
 refine qQ.imp h λvs H Q ⟨S,ds,hs,rs,m⟩=>?_
 cases e:b1 b ds with
 |ok d=>rw[e]at m;exact k S ds d vs H Q hs rs e m
 |ex c=>rw[e]at m;exact m.elim
 |no=>rw[e]at m;exact m.elim
theorem jW{f:ae}{b:B1}(h1:∀d,b11 b d=.no)(h2:∀d e,b12 b d e=.no):qQ X f (rB1 g b):=λpins s σ H xs us Q I rv ⟨S,ds,hs,rs,m⟩=>by
 have e:b1 b ds=.no:=by
  unfold b1;split
  ·exact h1 _
  ·exact h2 _ _
  ·rfl
 rw[e]at m;exact m.elim
theorem km{b:B1}(hb:∀x y,b12 b x y=.no){ds:List D}{d:D}(h:b1 b ds=.ok d):∃x,ds=[x]/\b11 b x=.ok d:=by
 match ds,h with
 | [x],h=>exact⟨x,rfl,h⟩
 | [x,y],h=>have h:b12 b x y=.ok d:=h;rw[hb]at h;cases h
 | [],h=>cases h
 |_::_::_::_,h=>cases h
theorem j7{x r:D}{k:List D->R D}(h:c_ x k=.ok r):∃xs,x=.lst xs/\k xs=.ok r:=by
 cases x with
 |lst xs=>exact⟨xs,rfl,h⟩
 |_=>cases h
theorem tP{x y r:D}{k:Int->Int->R D}(h:iiR x y k=.ok r):∃i j,x=.int i/\y=.int j/\k i j=.ok r:=by
 cases x with
 |int i=>
  cases y with
  |int j=>exact⟨i,j,rfl,rfl,h⟩
  |_=>cases h
 |_=>cases h
theorem iN{α β:Type}{o:Option α}{k:α->R β}{r:β}(h:cW o k=.ok r):∃a,o=some a/\k a=.ok r:=by
 cases o with
 |some a=>exact⟨a,rfl,h⟩
 |none=>cases h
theorem mD{b:B1}{ds:List D}{d:D}{q:List D->R D}(h:b1 b ds=.ok d)(e:∀x,b1 b [x]=cW (seq? x) q)(n:ds.length≠1->b1 b ds=.no):∃x xs,ds=[x]/\seq? x=some xs/\q xs=.ok d:=by
 match ds with
 | []=>rw[n (by simp)]at h;cases h
 | [x]=>
  rw[e]at h;cases z:seq? x with
  |none=>rw[z]at h;cases h
  |some xs=>rw[z]at h;exact⟨x,xs,rfl,z,h⟩
 |x::y::r=>rw[n (by simp)]at h;cases h
theorem yo(hK:X.K=g.K):qQ X (.builtin "len") (rB1 g .len):=fR uN λS ds d vs H Q hs rs h q=>by
 obtain⟨x,xs,rfl,e,h⟩:=mD (q:=λxs=>.ok (.int xs.length)) h (λ_=>rfl) (λn=>by match ds,n with | [],_=>rfl | [_,_],_=>rfl|_::_::_::_,_=>rfl);cases h;cases rs with
 |cons r rs=>
  cases rs;obtain⟨a,us,rfl,h1,r1⟩:=r.seq e;exact⟨a,us,rfl,by rw[hK];exact h1,by rw[<-r1.length];exact q _ _ (qf.refl _) (.int _) (by simp)⟩
theorem xH(hK:X.K=g.K):qQ X (.type "tuple") (rB1 g .tuple):=fR BH λS ds d vs H Q hs rs h q=>by
 obtain⟨x,xs,rfl,e,h⟩:=mD (q:=λxs=>.ok (.tup xs)) h (λ_=>rfl) (λn=>by match ds,n with | [],_=>rfl | [_,_],_=>rfl|_::_::_::_,_=>rfl);cases h;cases rs with
 |cons r rs=>
  cases rs;cases x with
  |lst ys=>
   cases e;obtain⟨a,us,rfl,h1,r1⟩:=r.lst;exact⟨a,us,rfl,.inl ⟨by rw[hK];exact h1,λp hp=>q _ _ (qY hp) (iX hs hp r1) (by simp)⟩⟩
  |tup ys=>
   cases e;have z:=r.strong (by intro _ z;cases z);obtain⟨a,us,rfl,h1,r1⟩:=r.tup;exact⟨a,us,rfl,.inr ⟨by rw[hK];exact h1,q _ _ (qf.refl _) z (by simp)⟩⟩
  |_=>cases e
theorem wg(hK:X.K=g.K):qQ X (.type "list") (rB1 g .list):=fR wu λS ds d vs H Q hs rs h q=>by
 obtain⟨x,xs,rfl,e,h⟩:=mD (q:=λxs=>.ok (.lst xs)) h (λ_=>rfl) (λn=>by match ds,n with | [],_=>rfl | [_,_],_=>rfl|_::_::_::_,_=>rfl);cases h;cases rs with
 |cons r rs=>
  cases rs;obtain⟨a,us,rfl,h1,r1⟩:=r.seq e;exact⟨a,us,rfl,by rw[hK];exact h1,λp hp=>q _ _ (qY hp) (eZ hs hp r1) λ_=>ff (qf.refl _) hp r1⟩
theorem BK(hc:X.calm=true)(al:Bool):qQ X (.builtin (if al then "all" else "any")) (λxs H Q=>∃(l:Addr) (bs:List Bool),xs=[.ref l]/\SqL X.K H l (bs.map V.bl)/\Q (.bl (if al then bs.all id else bs.any id)) H):=by
 intro pins s σ H xs us Q I r h;obtain⟨l,bs,rfl,hl,q⟩:=h;obtain⟨u,rfl,ru⟩:=r.one;cases ru;obtain⟨its,rv,pl,hz⟩:=I.list hl;have e:=kR (A:=X.A) rv;subst e;have FF:l<s.heap.objs.size:=by obtain⟨_,e,_⟩:=pl.isList;exact aS e
 have tr:TruthOf X.prog X.w X.A.in1 (λi v=>(bs.map bJ).toArray[i]? = some v) (λi=>(bs[i]?).getD al):=λi v s' Q' E' hP hQ=>by
  have hv:(bs.map bJ)[i]? = some v:=by simpa using hP
  rw[List.getElem?_map]at hv;cases e:bs[i]? with
  |none=>rw[e]at hv;cases hv
  |some b=>
   rw[e]at hv;cases hv;simp only[e,Option.getD_some]at hQ;exact bQ hQ
 have wk:=Walks.list (prog:=X.prog) (w:=X.w) (A:=X.A.in1) (I.ok.hd hc) s.heap.objs.size l (bg FF) (bs.map bJ).toArray;cases al with
 |true=>
  refine call_all_walk (wpAny_pyIter_list pl.isList ?_);refine⟨s.heap.objs.size,[s.heap.objs.size,l],[s.heap.objs.size],_,_,_,_,rfl,wk,⟨⟨_,Heap.get?_push_size _ rfl,rfl,rfl⟩,pl.isList.push _⟩,tr,λh' tk hk=>?_⟩;have e:((bW (bs.map bJ).toArray.size).all λi=>(bs[i]?).getD true)=bs.all id:=by
   rw[a7,aV];exact LSm.range_all bs
  rw[e];exact⟨.bl _,H,I.kept (LSm.kept_iter hk),rfl,q⟩
 |false=>
  refine call_any_walk (wpAny_pyIter_list pl.isList ?_);refine⟨s.heap.objs.size,[s.heap.objs.size,l],[s.heap.objs.size],_,_,_,_,rfl,wk,⟨⟨_,Heap.get?_push_size _ rfl,rfl,rfl⟩,pl.isList.push _⟩,tr,λh' tk hk=>?_⟩;have e:((bW (bs.map bJ).toArray.size).any λi=>(bs[i]?).getD false)=bs.any id:=by
   rw[a7,aV,Bool.eq_iff_iff];simp only[b_,List.mem_range,id];constructor
   ·rintro⟨i,hi,e⟩;rw[List.getElem?_eq_getElem hi]at e;exact⟨_,dH hi,e⟩
   ·rintro⟨b,hb,e⟩;obtain⟨i,hi,rfl⟩:=List.getElem_of_mem hb;exact⟨i,hi,by rw[List.getElem?_eq_getElem hi];exact e⟩
  rw[e];exact⟨.bl _,H,I.kept (LSm.kept_iter hk),rfl,q⟩
theorem tm(hK:X.K=g.K)(hc:X.calm=true)(al:Bool):qQ X (.builtin (if al then "all" else "any")) (rB1 g (if al then .all else .any)):=fR (BK hc al) λS ds d vs H Q hs rs h q=>by
 obtain⟨xs,bs,rfl,e,rfl⟩:∃xs bs,ds=[.lst xs]/\bools? xs=some bs/\d=.bl (if al then bs.all id else bs.any id):=by
  cases al
  ·obtain⟨x,rfl,h'⟩:=km (λ_ _=>rfl) h;obtain⟨xs,rfl,h'⟩:=j7 h';obtain⟨bs,e,h'⟩:=iN h';cases h';exact⟨xs,bs,rfl,e,rfl⟩
  ·obtain⟨x,rfl,h'⟩:=km (λ_ _=>rfl) h;obtain⟨xs,rfl,h'⟩:=j7 h';obtain⟨bs,e,h'⟩:=iN h';cases h';exact⟨xs,bs,rfl,e,rfl⟩
 cases rs with
 |cons r rs=>
  cases rs;obtain⟨a,us,rfl,h1,r1⟩:=r.lst;have e2:=r1.bools e;subst e2;exact⟨a,bs,rfl,by rw[hK];exact h1,q _ _ (qf.refl _) (.bl _) (by cases al<;>simp)⟩
end
end EV
namespace TS
open PySem PyProof.Rows
noncomputable def q_:Bool->ah->Array ah->Nat->Nat->Nat->StateT aJ Sem (Option Nat):=sortPriv% PySem.Builtin.gallop
noncomputable def nG:Array ah->Array ah->StateT aJ Sem (Array ah):=sortPriv% PySem.Builtin.mergeLo
noncomputable def nK:Array ah->Array ah->StateT aJ Sem (Array ah):=sortPriv% PySem.Builtin.mergeHi
theorem pr5{A1 A2 A3 A4 A5:Type}{F:A1×A2×A3×A4×A5->Prop}(h:∀x1 x2 x3 x4 x5,F (x1,x2,x3,x4,x5)):∀c,F c:=λ⟨x1,x2,x3,x4,x5⟩=>h x1 x2 x3 x4 x5
theorem pr6{A1 A2 A3 A4 A5 A6:Type}{F:A1×A2×A3×A4×A5×A6->Prop}(h:∀x1 x2 x3 x4 x5 x6,F (x1,x2,x3,x4,x5,x6)):∀c,F c:=λ⟨x1,x2,x3,x4,x5,x6⟩=>h x1 x2 x3 x4 x5 x6
theorem pr7{A1 A2 A3 A4 A5 A6 A7:Type}{F:A1×A2×A3×A4×A5×A6×A7->Prop}(h:∀x1 x2 x3 x4 x5 x6 x7,F (x1,x2,x3,x4,x5,x6,x7)):∀c,F c:=λ⟨x1,x2,x3,x4,x5,x6,x7⟩=>h x1 x2 x3 x4 x5 x6 x7
theorem exE{α:Type}{P:α->Prop}{C:Prop}(h:∀a,P a->C)(x:∃a,P a):C:=h _ x.choose_spec
theorem wpI{M:Model}{A:aE}{E:ae->af->Prop}{s:af}{α σ:Type}{c:Prop}{i:Decidable c}{x y:StateT σ Sem α}{Q:α->σ->Prop}{st:σ}(h:c->wpS M A E s x Q st)(k:¬ c->wpS M A E s y Q st):wpS M A E s (if c then x else y) Q st:=by
 split
 ·exact h ‹_›
 ·exact k ‹_›
theorem stE{M:Model}{A:aE}{E:ae->af->Prop}{s:af}{α σ:Type}{m:StateT σ Sem α}{Q:α->σ->Prop}{st st':σ}(h:st'=st)(k:wpS M A E s m Q st):wpS M A E s m Q st':=h▸k
structure Cmp(prog:aF)(w:aD)(A:aE)(s:af)(κ:SortKind)(D:ah->Prop)(LT:ah->ah->Bool):Prop where
 lt:∀x y,D x->D y->∀Q:Bool->af->Prop,Q (LT x y) s->aq (ao prog w) A (keyLt' κ x.1 y.1) Q (λ_ _=>False) s
 asym:∀x y,LT x y=true->LT y x=false
 neg:∀x y z,LT y x=false->LT z y=false->LT z x=false
section
variable{prog:aF}{w:aD}{A:aE}{E:ae->af->Prop}{s:af}{κ:SortKind}{D:ah->Prop}{LT:ah->ah->Bool}
theorem qH{arr:Array ah}{i:Nat}{x:ah}{Q:ah->aJ->Prop}{st:aJ}(hx:arr[i]? = some x)(h:Q x st):wpS (ao prog w) A E s (elem' arr i) Q st:=by
 rw[elem'_eq,hx];exact aA h
theorem iB(C:Cmp prog w A s κ D LT){x y:ah}(hx:D x)(hy:D y){Q:Option Bool->aJ->Prop}{st:aJ}(hk:kindOf st=κ)(h:Q (some (LT x y)) st):wpS (ao prog w) A E s (lt' x y) Q st:=by
 rw[lt'_eq];refine av (wpS_get ?_);rw[hk];refine av (wpS_lift (wpAny_attempt (bM (C.lt x y hx hy (λb s'=>s'=s/\b=LT x y) ⟨rfl,rfl⟩) (λb s' hb=>?_) λ_ _ z=>z.elim)));obtain⟨rfl,rfl⟩:=hb;exact⟨rfl,aA h⟩
noncomputable def bey(LT:ah->ah->Bool)(left:Bool)(key:ah)(x:ah):Bool:=if left then LT x key else !LT key x
theorem hJ(C:Cmp prog w A s κ D LT){left:Bool}{key:ah}{arr:Array ah}{base n hint:Nat}{Q:Option Nat->aJ->Prop}{st:aJ}(hk:kindOf st=κ)(Hl:D key)(it:Nat->ah)(ha:∀i,i<n->arr[base+i]? = some (it i)/\D (it i))(hh:hint<n)
  (mono:∀i j,i<=j->j<n->bey LT left key (it j)=true->bey LT left key (it i)=true)
  (h:∀k,k<=n->(∀i,i<k->bey LT left key (it i)=true)->(∀i,k<=i->i<n->bey LT left key (it i)=false)->Q (some k) st):wpS (ao prog w) A E s (q_ left key arr base n hint) Q st:=by
 have ask:∀(i:Nat) (R:Option Bool->aJ->Prop),i<n->R (some (bey LT left key (it i))) st->wpS (ao prog w) A E s (do
   let x <-elem' arr (base+i)
   if left=true then lt' x key else do
    let r <-lt' key x
    pure (r.map (!·))) R st:=λi R hi hR=>by
  obtain⟨h1,h2⟩:=ha i hi;refine av (qH h1 ?_);cases left with
  |true=>rw[if_pos rfl];exact iB C h2 Hl hk hR
  |false=>rw[if_neg (by decide)];exact av (iB C Hl h2 hk (aA hR))
 have Gi:∀i j,i<=j->j<n->bey LT left key (it i)=false->bey LT left key (it j)=false:=λi j FC hj hf=>by
  cases q:bey LT left key (it j)with
  |false=>rfl
  |true=>rw[mono i j FC hj q]at hf;cases hf
 -- the last loop
 have fin:∀(lo hi:Nat) (f:Nat->Option (Option Nat)×Nat×Nat->StateT aJ Sem (ForInStep (Option (Option Nat)×Nat×Nat))) (g:Option (Option Nat)×Nat×Nat->StateT aJ Sem (Option Nat)),lo<=hi->hi<=n ->
   (∀i,i<lo->bey LT left key (it i)=true)->(∀i,hi<=i->i<n->bey LT left key (it i)=false) ->
   (∀i lo hi R,lo >= hi->R (.done (none,lo,hi)) st->wpS (ao prog w) A E s (f i (none,lo,hi)) R st) ->
   (∀i lo hi R,¬ lo >= hi->hi<=n->R (if bey LT left key (it (lo+(hi-lo)/2))=true then .yield (none,lo+(hi-lo)/2+1,hi)else .yield (none,lo,lo+(hi-lo)/2)) st->wpS (ao prog w) A E s (f i (none,lo,hi)) R st) ->
   (∀lo hi,Q (some hi) st->wpS (ao prog w) A E s (g (none,lo,hi)) Q st) ->
   wpS (ao prog w) A E s (forIn [:n] (none,lo,hi) f>>=g) Q st:=by
  intro lo hi f g h1 h2 Gx MY hf1 hf2 hg;refine av (wpS_forRange (λi c st'=>st'=st/\c.1=none/\c.2.1<=c.2.2/\c.2.2<=n/\c.2.2-c.2.1<=n-i/\(∀i,i<c.2.1->bey LT left key (it i)=true)/\(∀i,c.2.2<=i->i<n->bey LT left key (it i)=false)) ?_ ?_ ⟨rfl,rfl,h1,h2,by show hi-lo<=n-0;lia,Gx,MY⟩)
  ·rintro i ⟨c0,lo,hi⟩ st' _ GD ⟨rfl,rfl,g1,g2,g3,g4,g5⟩;dsimp only at g1 g2 g3 g4 g5 ⊢;by_cases FN:lo >= hi
   ·have:lo=hi:=by lia
    subst this;exact hf1 _ _ _ _ FN (hg _ _ (h lo g2 g4 g5))
   ·refine hf2 _ _ _ _ FN g2 ?_;cases q:bey LT left key (it (lo+(hi-lo)/2))with
    |true=>
     rw[if_pos rfl];refine⟨rfl,rfl,?_,g2,?_,λj hj=>?_,g5⟩
     ·show lo+(hi-lo)/2+1<=hi;lia
     ·show hi-(lo+(hi-lo)/2+1)<=n-(i+1);lia
     ·exact mono j _ (by have:j<lo+(hi-lo)/2+1:=hj;lia) (by lia) q
    |false=>
     rw[if_neg (by decide)];refine⟨rfl,rfl,?_,?_,?_,g4,λj hj hjn=>?_⟩
     ·show lo<=lo+(hi-lo)/2;lia
     ·show lo+(hi-lo)/2<=n;lia
     ·show lo+(hi-lo)/2-lo<=n-(i+1);lia
     ·exact Gi _ j hj hjn q
  ·rintro⟨c0,lo,hi⟩ st' ⟨rfl,rfl,g1,g2,g3,g4,g5⟩;dsimp only at g1 g2 g3 g4 g5;have:lo=hi:=by lia
   subst this;exact hg _ _ (h lo g2 g4 g5)
 unfold q_;refine av (ask hint _ hh ?_);cases q:bey LT left key (it hint)with
 |true=>
  dsimp only;rw[if_pos rfl];refine av (wpS_forRange (λi c st'=>st'=st/\c.1=none/\c.2.1<c.2.2/\i+1<=c.2.2/\hint+c.2.1<n/\bey LT left key (it (hint+c.2.1))=true) ?_ ?_ ⟨rfl,rfl,by show 0<1;lia,by show 0+1<=1;lia,by show hint+0<n;lia,by show bey LT left key (it (hint+0))=true;exact q⟩)
  ·rintro i ⟨c0,la,F4⟩ st' _ GD ⟨rfl,rfl,g1,g2,g3,g4⟩;dsimp only at g1 g2 g3 g4 ⊢;by_cases FN:F4 >= n-hint
   ·rw[if_pos FN];refine aA ?_;refine fin (hint+la+1) (hint+min F4 (n-hint)) _ _ (by lia) (by lia) (λj hj=>mono j _ (by lia) g3 g4) (λj hj hjn=>by lia) ?_ ?_ ?_
    ·intro i lo hi R FN hR;dsimp only;rw[if_pos FN];exact aA hR
    ·intro i lo hi R FN hn hR;dsimp only;rw[if_neg FN];refine av (ask _ _ (by lia) ?_);cases q9:bey LT left key (it (lo+(hi-lo)/2))with
     |true=>rw[q9]at hR;exact aA hR
     |false=>rw[q9]at hR;exact aA hR
    ·intro lo hi hQ;exact aA hQ
   ·rw[if_neg FN];refine av (ask _ _ (by lia) ?_);cases q2:bey LT left key (it (hint+F4))with
    |false=>
     refine aA ?_;refine fin (hint+la+1) (hint+min F4 (n-hint)) _ _ (by lia) (by lia) (λj hj=>mono j _ (by lia) g3 g4) (λj hj hjn=>Gi (hint+F4) j (by lia) hjn q2) ?_ ?_ ?_
     ·intro i lo hi R FN hR;dsimp only;rw[if_pos FN];exact aA hR
     ·intro i lo hi R FN hn hR;dsimp only;rw[if_neg FN];refine av (ask _ _ (by lia) ?_);cases q9:bey LT left key (it (lo+(hi-lo)/2))with
      |true=>rw[q9]at hR;exact aA hR
      |false=>rw[q9]at hR;exact aA hR
     ·intro lo hi hQ;exact aA hQ
    |true=>
     refine aA ⟨rfl,rfl,?_,?_,?_,q2⟩
     ·show F4<2 * F4+1;lia
     ·show i+1+1<=2 * F4+1;lia
     ·show hint+F4<n;lia
  ·rintro⟨c0,la,F4⟩ st' ⟨rfl,rfl,g1,g2,g3,g4⟩;dsimp only at g1 g2 g3 g4;refine fin (hint+la+1) (hint+min F4 (n-hint)) _ _ (by lia) (by lia) (λj hj=>mono j _ (by lia) g3 g4) (λj hj hjn=>by lia) ?_ ?_ ?_
   ·intro i lo hi R FN hR;dsimp only;rw[if_pos FN];exact aA hR
   ·intro i lo hi R FN hn hR;dsimp only;rw[if_neg FN];refine av (ask _ _ (by lia) ?_);cases q9:bey LT left key (it (lo+(hi-lo)/2))with
    |true=>rw[q9]at hR;exact aA hR
    |false=>rw[q9]at hR;exact aA hR
   ·intro lo hi hQ;exact aA hQ
 |false=>
  dsimp only;rw[if_neg (by decide)];refine av (wpS_forRange (λi c st'=>st'=st/\c.1=none/\c.2.1<c.2.2/\i+1<=c.2.2/\c.2.1<=hint/\bey LT left key (it (hint-c.2.1))=false) ?_ ?_ ⟨rfl,rfl,by show 0<1;lia,by show 0+1<=1;lia,by show 0<=hint;lia,by show bey LT left key (it (hint-0))=false;exact q⟩)
  ·rintro i ⟨c0,la,F4⟩ st' _ GD ⟨rfl,rfl,g1,g2,g3,g4⟩;dsimp only at g1 g2 g3 g4 ⊢;by_cases FN:F4 >= hint+1
   ·rw[if_pos FN];refine aA ?_;refine fin (hint+1-min F4 (hint+1)) (hint-la) _ _ (by lia) (by lia) (λj hj=>by lia) (λj hj hjn=>Gi (hint-la) j (by lia) hjn g4) ?_ ?_ ?_
    ·intro i lo hi R FN hR;dsimp only;rw[if_pos FN];exact aA hR
    ·intro i lo hi R FN hn hR;dsimp only;rw[if_neg FN];refine av (ask _ _ (by lia) ?_);cases q9:bey LT left key (it (lo+(hi-lo)/2))with
     |true=>rw[q9]at hR;exact aA hR
     |false=>rw[q9]at hR;exact aA hR
    ·intro lo hi hQ;exact aA hQ
   ·rw[if_neg FN];refine av (ask _ _ (by lia) ?_);cases q2:bey LT left key (it (hint-F4))with
    |true=>
     refine aA ?_;refine fin (hint+1-min F4 (hint+1)) (hint-la) _ _ (by lia) (by lia) (λj hj=>mono j (hint-F4) (by lia) (by lia) q2) (λj hj hjn=>Gi (hint-la) j (by lia) hjn g4) ?_ ?_ ?_
     ·intro i lo hi R FN hR;dsimp only;rw[if_pos FN];exact aA hR
     ·intro i lo hi R FN hn hR;dsimp only;rw[if_neg FN];refine av (ask _ _ (by lia) ?_);cases q9:bey LT left key (it (lo+(hi-lo)/2))with
      |true=>rw[q9]at hR;exact aA hR
      |false=>rw[q9]at hR;exact aA hR
     ·intro lo hi hQ;exact aA hQ
    |false=>
     refine aA ⟨rfl,rfl,?_,?_,?_,q2⟩
     ·show F4<2 * F4+1;lia
     ·show i+1+1<=2 * F4+1;lia
     ·show F4<=hint;lia
  ·rintro⟨c0,la,F4⟩ st' ⟨rfl,rfl,g1,g2,g3,g4⟩;dsimp only at g1 g2 g3 g4;refine fin (hint+1-min F4 (hint+1)) (hint-la) _ _ (by lia) (by lia) (λj hj=>by lia) (λj hj hjn=>Gi (hint-la) j (by lia) hjn g4) ?_ ?_ ?_
   ·intro i lo hi R FN hR;dsimp only;rw[if_pos FN];exact aA hR
   ·intro i lo hi R FN hn hR;dsimp only;rw[if_neg FN];refine av (ask _ _ (by lia) ?_);cases q9:bey LT left key (it (lo+(hi-lo)/2))with
    |true=>rw[q9]at hR;exact aA hR
    |false=>rw[q9]at hR;exact aA hR
   ·intro lo hi hQ;exact aA hQ
end
structure Wo(LT:ah->ah->Bool):Prop where
 asym:∀x y,LT x y=true->LT y x=false
 neg:∀x y z,LT y x=false->LT z y=false->LT z x=false
section
variable{LT:ah->ah->Bool}
theorem Wo.irr(W:Wo LT)(x:ah):LT x x=false:=by
 cases h:LT x x with
 |false=>rfl
 |true=>have:=W.asym x x h;rw[h]at this;cases this
theorem Wo.le_lt(W:Wo LT){x y z:ah}(h1:LT y x=false)(h2:LT y z=true):LT x z=true:=by
 cases h:LT x z with
 |true=>rfl
 |false=>have:=W.neg z x y h h1;rw[h2]at this;cases this
theorem Wo.lt_le(W:Wo LT){x y z:ah}(h1:LT x y=true)(h2:LT z y=false):LT x z=true:=by
 cases h:LT x z with
 |true=>rfl
 |false=>have:=W.neg y z x h2 h;rw[h1]at this;cases this
def Srt(LT:ah->ah->Bool)(l:List ah):Prop:=l.Pairwise λx y=>LT y x=false
abbrev df:Keyed:=(ae.none,ae.none)
noncomputable def at'(a:Array ah)(i:Nat):Keyed:=a.getD i df
theorem qo{a:Array ah}{i:Nat}(h:i<a.size):a[i]? = some (at' a i):=by
 unfold at' Array.getD;rw[dif_pos h];exact Array.getElem?_eq_getElem h
theorem jZ{a:Array ah}{i:Nat}(h:i<a.size):at' a i∈a.toList:=by
 have:=qo h;rw[<-Array.getElem?_toList]at this;exact List.mem_of_getElem? this
theorem dF(W:Wo LT){a:Array ah}(h:Srt LT a.toList){i j:Nat}(FC:i<=j)(hj:j<a.size):LT (at' a j) (at' a i)=false:=by
 by_cases e:i=j
 ·subst e;exact W.irr _
 ·have hi:i<a.toList.length:=by rw[ba];lia
  have GN:j<a.toList.length:=by rw[ba];lia
  have:=List.pairwise_iff_getElem.mp h i j hi GN (by lia);have e1:=qo (a:=a) (i:=i) (by lia);have e2:=qo (a:=a) (i:=j) hj;rw[<-Array.getElem?_toList,List.getElem?_eq_getElem hi]at e1;rw[<-Array.getElem?_toList,List.getElem?_eq_getElem GN]at e2;injection e1 with e1
  injection e2 with e2
  rw[<-e1,<-e2];exact this
theorem qw{a:Array ah}{i j:Nat}{x:ah}(h:x∈(a.extract i j).toList):∃k,i<=k/\k<j/\k<a.size/\x=at' a k:=by
 obtain⟨m,hm⟩:=List.mem_iff_getElem?.mp h;rw[Array.getElem?_toList,Array.getElem?_extract]at hm;split at hm
 ·rename_i FF
  have hk:i+m<a.size:=(Array.getElem?_eq_some_iff.mp hm).1;rw[qo hk]at hm;injection hm with hm
  exact⟨i+m,by lia,by lia,hk,hm.symm⟩
 ·cases hm
theorem zV(a:Array ah)(i j:Nat):(a.extract i j).toList=(a.toList.drop i).take (j-i):=by
 simp[Array.toList_extract]
theorem ez{a:Array ah}(h:Srt LT a.toList)(i j:Nat):Srt LT (a.extract i j).toList:=by
 rw[zV];exact(h.sublist (List.drop_sublist _ _)).sublist (List.take_sublist _ _)
structure MI(LT:ah->ah->Bool)(a b out:Array ah)(ia ib:Nat):Prop where
 pm:out.toList.Perm (a.toList.take ia++b.toList.take ib)
 sr:Srt LT out.toList
 la:∀x∈out.toList,∀j,ia<=j->j<a.size->LT (at' a j) x=false
 lb:∀x∈out.toList,∀j,ib<=j->j<b.size->LT (at' b j) x=false
variable{a b out:Array ah}{ia ib:Nat}
theorem p_{l:List ah}{i k:Nat}:l.take (i+k)=l.take i++(l.drop i).take k:=List.take_add
theorem MI.takeA(W:Wo LT)(h:MI LT a b out ia ib)(Sa:Srt LT a.toList)(k:Nat)(hb:∀i,ia<=i->i<ia+k->i<a.size->∀j,ib<=j->j<b.size->LT (at' b j) (at' a i)=false):MI LT a b (out++a.extract ia (ia+k)) (ia+k) ib:=by
 refine⟨?_,?_,λx hx j h1 h2=>?_,λx hx j h1 h2=>?_⟩
 ·rw[bf,zV,p_,show ia+k-ia=k by lia];refine(h.pm.append_right _).trans ?_;rw[bz,bz];exact(List.perm_append_comm).append_left _
 ·rw[bf];refine List.pairwise_append.mpr ⟨h.sr,ez Sa _ _,λx hx y hy=>?_⟩;obtain⟨i,g1,g2,g3,rfl⟩:=qw hy;exact h.la x hx i g1 g3
 ·rw[bf]at hx;rcases List.mem_append.mp hx with hx|hx
  ·exact h.la x hx j (by lia) h2
  ·obtain⟨i,g1,g2,g3,rfl⟩:=qw hx;exact dF W Sa (by lia) h2
 ·rw[bf]at hx;rcases List.mem_append.mp hx with hx|hx
  ·exact h.lb x hx j h1 h2
  ·obtain⟨i,g1,g2,g3,rfl⟩:=qw hx;exact hb i g1 g2 g3 j h1 h2
theorem MI.takeB(W:Wo LT)(h:MI LT a b out ia ib)(Sb:Srt LT b.toList)(k:Nat)(hb:∀i,ib<=i->i<ib+k->i<b.size->∀j,ia<=j->j<a.size->LT (at' a j) (at' b i)=false):MI LT a b (out++b.extract ib (ib+k)) ia (ib+k):=by
 refine⟨?_,?_,λx hx j h1 h2=>?_,λx hx j h1 h2=>?_⟩
 ·rw[bf,zV,p_,show ib+k-ib=k by lia,<-bz];exact h.pm.append_right _
 ·rw[bf];refine List.pairwise_append.mpr ⟨h.sr,ez Sb _ _,λx hx y hy=>?_⟩;obtain⟨i,g1,g2,g3,rfl⟩:=qw hy;exact h.lb x hx i g1 g3
 ·rw[bf]at hx;rcases List.mem_append.mp hx with hx|hx
  ·exact h.la x hx j h1 h2
  ·obtain⟨i,g1,g2,g3,rfl⟩:=qw hx;exact hb i g1 g2 g3 j h1 h2
 ·rw[bf]at hx;rcases List.mem_append.mp hx with hx|hx
  ·exact h.lb x hx j (by lia) h2
  ·obtain⟨i,g1,g2,g3,rfl⟩:=qw hx;exact dF W Sb (by lia) h2
theorem kU{a out:Array ah}{i:Nat}(h:i<a.size):out.push (at' a i)=out++a.extract i (i+1):=by
 apply Array.toList_inj.mp;rw[Array.toList_push,bf,zV,show i+1-i=1 by lia]
 congr 1
 have hl:i<a.toList.length:=by rw[ba];exact h
 rw[fz hl];have e1:=qo (a:=a) (i:=i) h;rw[<-Array.getElem?_toList,List.getElem?_eq_getElem hl]at e1;injection e1 with e1
 rw[e1];rfl
theorem MI.pushA(W:Wo LT)(h:MI LT a b out ia ib)(Sa:Srt LT a.toList)(Sb:Srt LT b.toList)(hi:ia<a.size)(hb:ib<b.size->LT (at' b ib) (at' a ia)=false):MI LT a b (out.push (at' a ia)) (ia+1) ib:=by
 rw[kU hi];refine h.takeA W Sa 1 λi h1 h2 _ j g1 g2=>?_
 have:i=ia:=by lia
 subst this;exact W.neg _ _ _ (hb (by lia)) (dF W Sb g1 g2)
theorem MI.pushB(W:Wo LT)(h:MI LT a b out ia ib)(Sa:Srt LT a.toList)(Sb:Srt LT b.toList)(hi:ib<b.size)(hb:ia<a.size->LT (at' b ib) (at' a ia)=true):MI LT a b (out.push (at' b ib)) ia (ib+1):=by
 rw[kU hi];refine h.takeB W Sb 1 λi h1 h2 _ j g1 g2=>?_
 have:i=ib:=by lia
 subst this;exact W.neg _ _ _ (W.asym _ _ (hb (by lia))) (dF W Sa g1 g2)
def Mg(LT:ah->ah->Bool)(a b r:Array ah):Prop:=r.toList.Perm (a.toList++b.toList)/\Srt LT r.toList
theorem MI.done(W:Wo LT)(h:MI LT a b out ia ib)(Sa:Srt LT a.toList)(Sb:Srt LT b.toList)(he:ib=b.size\/ia=a.size):Mg LT a b (out++a.extract ia++b.extract ib):=by
 have ea:(a.extract ia).toList=a.toList.drop ia:=by
  rw[zV];exact List.take_of_length_le (by simp)
 have eb:(b.extract ib).toList=b.toList.drop ib:=by
  rw[zV];exact List.take_of_length_le (by simp)
 refine⟨?_,?_⟩
 ·rw[bf,bf,ea,eb];refine((h.pm.append_right _).append_right _).trans ?_;have e1:=bX ia a.toList;have e2:=bX ib b.toList;rcases he with he|he
  ·have z1:b.toList.drop ib=[]:=List.drop_eq_nil_of_le (by rw[ba];lia);have z2:b.toList.take ib=b.toList:=List.take_of_length_le (by rw[ba];lia);rw[z1,z2,dg,bz];refine(List.perm_append_comm.append_left _).trans ?_;rw[<-bz,e1]
  ·have z1:a.toList.drop ia=[]:=List.drop_eq_nil_of_le (by rw[ba];lia);have z2:a.toList.take ia=a.toList:=List.take_of_length_le (by rw[ba];lia);rw[z1,z2,dg,bz,e2]
 ·rw[bf,bf];refine List.pairwise_append.mpr ⟨List.pairwise_append.mpr ⟨h.sr,ez Sa _ _,λx hx y hy=>?_⟩,ez Sb _ _,λx hx y hy=>?_⟩
  ·obtain⟨i,g1,g2,g3,rfl⟩:=qw hy;exact h.la x hx i g1 g3
  ·obtain⟨i,g1,g2,g3,rfl⟩:=qw hy;rcases List.mem_append.mp hx with hx|hx
   ·exact h.lb x hx i g1 g3
   ·obtain⟨j,k1,k2,k3,rfl⟩:=qw hx;lia
theorem MI.last(W:Wo LT)(h:MI LT a b out ia ib)(Sa:Srt LT a.toList)(Sb:Srt LT b.toList)(hl:ia+1=a.size)(hb:∀j,j<b.size->LT (at' b j) (at' a ia)=true):Mg LT a b (out++b.extract ib++a.extract ia):=by
 have ea:(a.extract ia).toList=a.toList.drop ia:=by
  rw[zV];exact List.take_of_length_le (by simp)
 have eb:(b.extract ib).toList=b.toList.drop ib:=by
  rw[zV];exact List.take_of_length_le (by simp)
 refine⟨?_,?_⟩
 ·rw[bf,bf,ea,eb];refine((h.pm.append_right _).append_right _).trans ?_;have e1:=bX ia a.toList;have e2:=bX ib b.toList;rw[bz (a.toList.take ia),e2];refine(List.perm_append_comm.append_right _).trans ?_;rw[bz,e1];exact List.perm_append_comm
 ·rw[bf,bf];refine List.pairwise_append.mpr ⟨List.pairwise_append.mpr ⟨h.sr,ez Sb _ _,λx hx y hy=>?_⟩,ez Sa _ _,λx hx y hy=>?_⟩
  ·obtain⟨i,g1,g2,g3,rfl⟩:=qw hy;exact h.lb x hx i g1 g3
  ·obtain⟨i,g1,g2,g3,rfl⟩:=qw hy;rcases List.mem_append.mp hx with hx|hx
   ·exact h.la x hx i g1 g3
   ·obtain⟨j,k1,k2,k3,rfl⟩:=qw hx;have:i=ia:=by lia
    subst this;exact W.asym _ _ (hb j k3)
end
abbrev setG(st:aJ)(g:Nat):SortSt:=aJ.mk' (kindOf st) (ag st) (a9 st) g (failedOf st)
section
variable{prog:aF}{w:aD}{A:aE}{E:ae->af->Prop}{s:af}{κ:SortKind}{D:ah->Prop}{LT:ah->ah->Bool}
theorem Cmp.wo(C:Cmp prog w A s κ D LT):Wo LT:=⟨C.asym,C.neg⟩
theorem md(W:Wo LT){a:Array ah}(S:Srt LT a.toList){left:Bool}{key:ah}{base n:Nat}(hn:base+n<=a.size):∀i j,i<=j->j<n->bey LT left key (at' a (base+j))=true->bey LT left key (at' a (base+i))=true:=by
 intro i j FC hj h;have o:=dF W S (show base+i<=base+j by lia) (by lia);cases left with
 |true=>
  have h:LT (at' a (base+j)) key=true:=h;show LT (at' a (base+i)) key=true;exact W.le_lt o h
 |false=>
  have h:(!LT key (at' a (base+j)))=true:=h;show (!LT key (at' a (base+i)))=true;have h':LT key (at' a (base+j))=false:=by simpa using h
  rw[W.neg _ _ _ o h'];rfl
theorem share1{α γ:Type}{M:Model}{c:α->Prop} [∀u,Decidable (c u)]{X F:α->StateT aJ Sem γ}{Q:γ->aJ->Prop}{st:aJ}(hG:(∀u,wpS M A E s (F u) Q st)->∀u,wpS M A E s (if c u then X u else F u) Q st)(H:∀u,wpS M A E s (F u) Q st):∀u,wpS M A E s (if c u then X u else F u) Q st:=hG H
theorem jG{α β γ:Type}{M:Model}{c:Prop} [Decidable c]{X F:α->β->StateT aJ Sem γ}{x:α}{y:β}{Q:γ->aJ->Prop}{st:aJ}(C:α->β->Prop)(hG:(∀u v,C u v->wpS M A E s (F u v) Q st)->∀u,x=u->∀v,y=v->wpS M A E s (if c then X u v else F u v) Q st)(H:∀u v,C u v->wpS M A E s (F u v) Q st):∀u,x=u->∀v,y=v->wpS M A E s (if c then X u v else F u v) Q st:=hG H
theorem mi0{a b:Array ah}:MI LT a b #[] 0 0:=⟨by simp,by simp[Srt],by simp,by simp⟩
theorem Bv(C:Cmp prog w A s κ D LT){a b:Array ah}{st:aJ}{Q:Array ah->aJ->Prop}(hk:kindOf st=κ)(Da:∀i,i<a.size->D (at' a i))(Db:∀i,i<b.size->D (at' b i))(Sa:Srt LT a.toList)(Sb:Srt LT b.toList)
  (ha:0<a.size) (hb:0<b.size) (h0:LT (at' b 0) (at' a 0)=true) (hl:∀j,j<b.size->LT (at' b j) (at' a (a.size-1))=true) (h:∀r g,Mg LT a b r->Q r (setG st g)):wpS (ao prog w) A E s (nG a b) Q st:=by
 have W:=C.wo;have GF:∀{ia:Nat},ia+1=a.size->∀j,j<b.size->LT (at' b j) (at' a ia)=true:=λ{ia} e j hj=>by
  have:ia=a.size-1:=by lia
  rw[this];exact hl j hj
 unfold nG;refine av (wpS_lift (wpAny_rule ⟨rfl,?_⟩));refine av (qH (qo hb) ?_);have M1:MI LT a b #[at' b 0] 0 1:=(mi0 (LT:=LT)).pushB W Sa Sb hb λ_=>h0
 dsimp only;refine wpI (λe1=>?_) λe1=>?_
 ·exact aA (h _ (gallopOf st) (M1.done W Sa Sb (.inl (by simpa using e1))))
 refine wpI (λe2=>?_) λe2=>?_
 ·exact aA (h _ (gallopOf st) (M1.last W Sa Sb (by simpa using e2) (GF (by simpa using e2))))
 have Jh:1≠b.size:=by simpa using e1
 have Ji:1≠a.size:=by simpa using e2
 refine av (wpS_get ?_);refine av (wpS_mono (Q:=λc st'=>∃r g,c.1=some r/\Mg LT a b r/\st'=setG st g) ?_ ?_)
 ·refine wpS_forRange (λi c st'=>∃g,st'=setG st g/\c.1=none/\MI LT a b c.2.1 c.2.2.1 c.2.2.2.1/\c.2.2.1+1<a.size/\c.2.2.2.1<b.size/\i<=c.2.2.1+c.2.2.2.1) ?_ ?_ ⟨gallopOf st,rfl,rfl,M1,by show 0+1<a.size;lia,by show 1<b.size;lia,bH _⟩
  ·refine λi=>pr5 λc0 out ia ib mg st' _ hi x=>exE (λg y=>stE y.1 ?_) x
   clear x;have M:=y.2.2.1;have h1:=y.2.2.2.1;have h2:=y.2.2.2.2.1;have h3:=y.2.2.2.2.2;clear y;dsimp only at M h1 h2 h3 ⊢;refine av (wpS_mono (Q:=λc st'=>st'=setG st g/\((∃r,c.1=some r/\Mg LT a b r)\/(c.1=none/\MI LT a b c.2.1 c.2.2.1 c.2.2.2.1/\c.2.2.1+1<a.size/\c.2.2.2.1<b.size/\ia+ib+1<=c.2.2.1+c.2.2.2.1))) ?_ ?_)
   ·refine wpS_forRange (λj c st'=>st'=setG st g/\c.1=none/\MI LT a b c.2.1 c.2.2.1 c.2.2.2.1/\c.2.2.1+1<a.size/\c.2.2.2.1<b.size/\ia+ib+j<=c.2.2.1+c.2.2.2.1) ?_ ?_ ⟨rfl,rfl,M,h1,h2,aG _⟩
    ·refine λj=>pr6 λc0 out FT F8 ac bc st' _ hj y=>stE y.1 ?_
     have M:=y.2.2.1;have h1:=y.2.2.2.1;have h2:=y.2.2.2.2.1;have h3:=y.2.2.2.2.2;clear y;dsimp only at M h1 h2 h3 ⊢;refine av (qH (qo h2) ?_);refine av (qH (qo (show FT<a.size by lia)) ?_);refine av (iB C (Db _ h2) (Da _ (by lia)) hk ?_);dsimp only;refine wpI (λq=>?_) λq=>?_
     ·refine av (qH (qo h2) ?_);have M2:=M.pushB W Sa Sb h2 λ_=>q
      refine wpI (λe3=>?_) λe3=>?_
      ·exact aA ⟨rfl,.inl ⟨_,rfl,M2.done W Sa Sb (.inl (by simpa using e3))⟩⟩
      have Jj:F8+1≠b.size:=by simpa using e3
      refine wpI (λe4=>?_) λe4=>?_
      ·exact aA ⟨rfl,.inr ⟨rfl,M2,h1,by show F8+1<b.size;lia,by show ia+ib+1<=FT+(F8+1);lia⟩⟩
      ·exact aA ⟨rfl,rfl,M2,h1,by show F8+1<b.size;lia,by show ia+ib+(j+1)<=FT+(F8+1);lia⟩
     ·have q:=eq_false_of_ne_true q;refine av (qH (qo (show FT<a.size by lia)) ?_);have M2:=M.pushA W Sa Sb (by lia) λ_=>q
      refine wpI (λe3=>?_) λe3=>?_
      ·exact aA ⟨rfl,.inl ⟨_,rfl,M2.last W Sa Sb (by simpa using e3) (GF (by simpa using e3))⟩⟩
      have Jj:FT+1+1≠a.size:=by simpa using e3
      refine wpI (λe4=>?_) λe4=>?_
      ·exact aA ⟨rfl,.inr ⟨rfl,M2,by show FT+1+1<a.size;lia,h2,by show ia+ib+1<=FT+1+F8;lia⟩⟩
      ·exact aA ⟨rfl,rfl,M2,by show FT+1+1<a.size;lia,h2,by show ia+ib+(j+1)<=FT+1+F8;lia⟩
    ·rintro⟨c0,out,FT,F8,ac,bc⟩ st' ⟨rfl,rfl,M,h1,h2,h3⟩;dsimp only at M h1 h2 h3;exact absurd h3 (by lia)
   ·refine pr6 λc0 out FT F8 ac bc st' y=>stE y.1 ?_
    have hc:=y.2;clear y;dsimp only at hc ⊢;rcases hc with ⟨r,rfl,hm⟩|⟨rfl,M,h1,h2,h3⟩
    ·exact aA ⟨r,g,rfl,hm,rfl⟩
    dsimp only;refine av (wpS_lift (wpAny_rule ⟨rfl,?_⟩));refine av (wpS_mono (Q:=λc st'=>∃g,st'=setG st g/\((∃r,c.1=some r/\Mg LT a b r)\/(c.1=none/\MI LT a b c.2.1 c.2.2.1 c.2.2.2.1/\c.2.2.1+1<a.size/\c.2.2.2.1<b.size/\ia+ib+1<=c.2.2.1+c.2.2.2.1))) ?_ ?_)
    ·refine wpS_forRange (λj c st'=>∃g,st'=setG st g/\c.1=none/\MI LT a b c.2.1 c.2.2.1 c.2.2.2.1/\c.2.2.1+1<a.size/\c.2.2.2.1<b.size/\ia+ib+1+j<=c.2.2.1+c.2.2.2.1) ?_ ?_ ⟨g,rfl,rfl,M,h1,h2,h3⟩
     ·clear M h1 h2 h3;refine λj=>pr7 λc0 out FT F8 Gj ac bc st' _ hj x=>exE (λg y=>stE y.1 ?_) x
      clear x;have M:=y.2.2.1;have h1:=y.2.2.2.1;have h2:=y.2.2.2.2.1;have h3:=y.2.2.2.2.2;clear y;dsimp only at M h1 h2 h3 ⊢;revert Gj;refine share1 (λH Gj=>?_) ?_
      ·show wpS _ _ _ _ _ _ _;by_cases e0:¬ Gj>1
       ·rw[if_neg e0];exact H Gj
       ·rw[if_pos (Decidable.not_not.mp e0)];exact H (Gj-1)
      intro MZ;refine av (wpS_modify ?_);refine av (qH (qo h2) ?_);refine av (hJ C hk (Db _ h2) (λi=>at' a (FT+i)) (λi hi=>⟨qo (by lia),Da _ (by lia)⟩) (by lia) (md W Sa (by lia)) λk l1 l2 l3=>?_);dsimp only;have t2:∀i,FT<=i->i<FT+k->LT (at' b F8) (at' a i)=false:=λi g1 g2=>by
       have:=l2 (i-FT) (by lia);rw[show FT+(i-FT)=i by lia]at this;have this:(!LT (at' b F8) (at' a i))=true:=this
       simpa using this
      have t3:FT+k<a.size->LT (at' b F8) (at' a (FT+k))=true:=λz=>by
       have:=l3 k (aG _) (by lia);have this:(!LT (at' b F8) (at' a (FT+k)))=false:=this
       simpa using this
      generalize hu:out=u;generalize hv:FT=v;revert u v;refine jG (λGy ia'=>MI LT a b Gy ia' F8/\ia'+1<a.size/\FT<=ia'/\LT (at' b F8) (at' a ia')=true) (λH u hu v hv=>?_) ?_
      ·subst hu;subst hv;by_cases e4:¬ k>0
       ·rw[if_neg e4];refine H out FT ⟨M,h1,aG _,?_⟩;have:=t3 (by lia);rw[show k=0 by lia]at this;exact this
       ·rw[if_pos (Decidable.not_not.mp e4)];have M2:=M.takeA W Sa k λi g1 g2 _ j' g3 g4=>W.neg _ _ _ (t2 i g1 g2) (dF W Sb g3 g4)
        refine wpI (λe3=>?_) λe3=>?_
        ·exact aA ⟨_,rfl,.inl ⟨_,rfl,M2.last W Sa Sb (by simpa using e3) (GF (by simpa using e3))⟩⟩
        have Jj:FT+k+1≠a.size:=by simpa using e3
        refine wpI (λe9=>?_) λe9=>?_
        ·exact aA ⟨_,rfl,.inl ⟨_,rfl,M2.done W Sa Sb (.inr (by simpa using e9))⟩⟩
        have M6:FT+k≠a.size:=by simpa using e9
        exact H _ _ ⟨M2,by lia,by lia,t3 (by lia)⟩
      rintro Ij ia3 ⟨M2,Oj,FN,q2⟩
      try dsimp only
      refine av (qH (qo h2) ?_);have M3:=M2.pushB W Sa Sb h2 λ_=>q2
      refine wpI (λe5=>?_) λe5=>?_
      ·exact aA ⟨_,rfl,.inl ⟨_,rfl,M3.done W Sa Sb (.inl (by simpa using e5))⟩⟩
      have LC:F8+1≠b.size:=by simpa using e5
      refine av (qH (qo (show ia3<a.size by lia)) ?_);generalize Ij.push (at' b F8)=out5 at M3 ⊢;have hY:∃n,F8+1=n:=⟨_,rfl⟩
      obtain⟨GV,hY⟩:=hY;rw[hY]at M3 LC ⊢;refine av (hJ C hk (Da _ (by lia)) (λi=>at' b (GV+i)) (λi hi=>⟨qo (by lia),Db _ (by lia)⟩) (by lia) (md W Sb (by lia)) λk' l1 l2 l3=>?_);dsimp only;have t2:∀i,GV<=i->i<GV+k'->LT (at' b i) (at' a ia3)=true:=λi g1 g2=>by
       have:=l2 (i-GV) (by lia);rw[show GV+(i-GV)=i by lia]at this;exact this
      have t3:GV+k'<b.size->LT (at' b (GV+k')) (at' a ia3)=false:=λz=>l3 k' (aG _) (by lia)
      generalize hu:out5=u;generalize hv:GV=v;revert u v;refine jG (λGy ib'=>MI LT a b Gy ia3 ib'/\ib'<b.size/\GV<=ib'/\LT (at' b ib') (at' a ia3)=false) (λH u hu v hv=>?_) ?_
      ·subst hu;subst hv;by_cases e6:¬ k'>0
       ·rw[if_neg e6];refine H out5 GV ⟨M3,by lia,aG _,?_⟩;have:=t3 (by lia);rw[show k'=0 by lia]at this;exact this
       ·rw[if_pos (Decidable.not_not.mp e6)];have M4:=M3.takeB W Sb k' λi g1 g2 _ j' g3 g4=>W.neg _ _ _ (W.asym _ _ (t2 i g1 g2)) (dF W Sa g3 g4)
        refine wpI (λe8=>?_) λe8=>?_
        ·exact aA ⟨_,rfl,.inl ⟨_,rfl,M4.done W Sa Sb (.inl (by simpa using e8))⟩⟩
        have M7:GV+k'≠b.size:=by simpa using e8
        exact H _ _ ⟨M4,by lia,by lia,t3 (by lia)⟩
      rintro K0 ib4 ⟨M4,Ol,Om,q5⟩
      try dsimp only
      refine av (qH (qo (show ia3<a.size by lia)) ?_);have M5:=M4.pushA W Sa Sb (show ia3<a.size by lia) λ_=>q5
      refine wpI (λe7=>?_) λe7=>?_
      ·exact aA ⟨_,rfl,.inl ⟨_,rfl,M5.last W Sa Sb (by simpa using e7) (GF (by simpa using e7))⟩⟩
      have M8:ia3+1+1≠a.size:=by simpa using e7
      split
      ·exact aA ⟨_,rfl,.inr ⟨rfl,M5,by show ia3+1+1<a.size;lia,by show ib4<b.size;lia,by show ia+ib+1<=ia3+1+ib4;lia⟩⟩
      ·exact aA ⟨_,rfl,rfl,M5,by show ia3+1+1<a.size;lia,by show ib4<b.size;lia,by show ia+ib+1+(j+1)<=ia3+1+ib4;lia⟩
     ·clear M h1 h2 h3;rintro⟨c0,out,FT,F8,Gj,ac,bc⟩ st' ⟨g,rfl,rfl,M,h1,h2,h3⟩;dsimp only at M h1 h2 h3;exact absurd h3 (by lia)
    ·refine pr7 λc0 out FT F8 Gj ac bc st' x=>exE (λg y=>stE y.1 ?_) x
     clear x;have hc:=y.2;clear y;dsimp only at hc ⊢;rcases hc with ⟨r,rfl,hm⟩|⟨rfl,M,h1,h2,h3⟩
     ·exact aA ⟨r,g,rfl,hm,rfl⟩
     dsimp only;refine av (wpS_modify ?_);exact aA ⟨Gj+1,rfl,rfl,M,h1,h2,by show i+1<=FT+F8;lia⟩
  ·rintro⟨c0,out,ia,ib,mg⟩ st' ⟨g,rfl,rfl,M,h1,h2,h3⟩;dsimp only at M h1 h2 h3;exact absurd h3 (by lia)
 ·rintro⟨c0,out,ia,ib,mg⟩ st' ⟨r,g,hr,hm,rfl⟩;dsimp only at hr ⊢;subst hr;exact aA (h r g hm)
end
section
variable{LT:ah->ah->Bool}
structure MH(LT:ah->ah->Bool)(a b out:Array ah)(na nb:Nat):Prop where
 pm:out.toList.Perm (a.toList.drop na++b.toList.drop nb)
 sr:Srt LT out.toList.reverse
 la:∀x∈out.toList,∀j,j<na->LT x (at' a j)=false
 lb:∀x∈out.toList,∀j,j<nb->LT x (at' b j)=false
variable{a b out:Array ah}{na nb:Nat}
theorem ni{l:List ah}{m n:Nat}(h:m<=n):l.drop m=(l.drop m).take (n-m)++l.drop n:=by
 have:=(bX (n-m) (l.drop m)).symm;rw[List.drop_drop,show m+(n-m)=n by lia]at this;exact this
theorem MH.takeA(W:Wo LT)(h:MH LT a b out na nb)(Sa:Srt LT a.toList)(LD:na<=a.size)(m:Nat)(hm:m<=na)(hb:∀i,m<=i->i<na->∀j,j<nb->LT (at' a i) (at' b j)=false):MH LT a b (out++(a.extract m na).reverse) m nb:=by
 have mem:∀{x},x∈(out++(a.extract m na).reverse).toList->x∈out.toList\/x∈(a.extract m na).toList:=λ{x} hx=>by
  rw[bf,Array.toList_reverse]at hx;rcases List.mem_append.mp hx with hx|hx
  ·exact .inl hx
  ·exact .inr (List.mem_reverse.mp hx)
 refine⟨?_,?_,λx hx j h1=>?_,λx hx j h1=>?_⟩
 ·rw[bf,Array.toList_reverse,zV];have e:=ni (l:=a.toList) hm;generalize (a.toList.drop m).take (na-m)=T at e ⊢;rw[e];refine(h.pm.append (List.reverse_perm _)).trans ?_;refine List.perm_append_comm.trans ?_;rw[bz]
 ·rw[bf,Array.toList_reverse,List.reverse_append,List.reverse_reverse];refine List.pairwise_append.mpr ⟨ez Sa _ _,h.sr,λx hx y hy=>?_⟩;obtain⟨i,g1,g2,g3,rfl⟩:=qw hx;exact h.la y (List.mem_reverse.mp hy) i g2
 ·rcases mem hx with hx|hx
  ·exact h.la x hx j (by lia)
  ·obtain⟨i,g1,g2,g3,rfl⟩:=qw hx;exact dF W Sa (by lia) g3
 ·rcases mem hx with hx|hx
  ·exact h.lb x hx j h1
  ·obtain⟨i,g1,g2,g3,rfl⟩:=qw hx;exact hb i g1 g2 j h1
theorem MH.takeB(W:Wo LT)(h:MH LT a b out na nb)(Sb:Srt LT b.toList)(LF:nb<=b.size)(m:Nat)(hm:m<=nb)(hb:∀i,m<=i->i<nb->∀j,j<na->LT (at' b i) (at' a j)=false):MH LT a b (out++(b.extract m nb).reverse) na m:=by
 have mem:∀{x},x∈(out++(b.extract m nb).reverse).toList->x∈out.toList\/x∈(b.extract m nb).toList:=λ{x} hx=>by
  rw[bf,Array.toList_reverse]at hx;rcases List.mem_append.mp hx with hx|hx
  ·exact .inl hx
  ·exact .inr (List.mem_reverse.mp hx)
 refine⟨?_,?_,λx hx j h1=>?_,λx hx j h1=>?_⟩
 ·rw[bf,Array.toList_reverse,zV];have e:=ni (l:=b.toList) hm;generalize (b.toList.drop m).take (nb-m)=T at e ⊢;rw[e];refine(h.pm.append (List.reverse_perm _)).trans ?_;rw[bz];exact List.perm_append_comm.append_left _
 ·rw[bf,Array.toList_reverse,List.reverse_append,List.reverse_reverse];refine List.pairwise_append.mpr ⟨ez Sb _ _,h.sr,λx hx y hy=>?_⟩;obtain⟨i,g1,g2,g3,rfl⟩:=qw hx;exact h.lb y (List.mem_reverse.mp hy) i g2
 ·rcases mem hx with hx|hx
  ·exact h.la x hx j h1
  ·obtain⟨i,g1,g2,g3,rfl⟩:=qw hx;exact hb i g1 g2 j h1
 ·rcases mem hx with hx|hx
  ·exact h.lb x hx j (by lia)
  ·obtain⟨i,g1,g2,g3,rfl⟩:=qw hx;exact dF W Sb (by lia) g3
theorem pK{a out:Array ah}{i:Nat}(h:i<a.size):out.push (at' a i)=out++(a.extract i (i+1)).reverse:=by
 have:=kU (out:=(#[]:Array ah)) h;have e:a.extract i (i+1) = #[at' a i]:=by
  have h2:(#[]:Array ah)++a.extract i (i+1)=a.extract i (i+1):=by simp
  rw[h2]at this;rw[<-this];rfl
 rw[e];simp
theorem MH.pushA(W:Wo LT)(h:MH LT a b out (na+1) nb)(Sa:Srt LT a.toList)(Sb:Srt LT b.toList)(hi:na<a.size)(LF:nb<=b.size)(hb:0<nb->LT (at' b (nb-1)) (at' a na)=true):MH LT a b (out.push (at' a na)) na nb:=by
 rw[pK hi];refine h.takeA W Sa (by lia) na (by lia) λi h1 h2 j g1=>?_
 have:i=na:=by lia
 subst this;exact W.neg _ _ _ (dF W Sb (show j<=nb-1 by lia) (by lia)) (W.asym _ _ (hb (by lia)))
theorem MH.pushB(W:Wo LT)(h:MH LT a b out na (nb+1))(Sa:Srt LT a.toList)(Sb:Srt LT b.toList)(hi:nb<b.size)(LD:na<=a.size)(hb:0<na->LT (at' b nb) (at' a (na-1))=false):MH LT a b (out.push (at' b nb)) na nb:=by
 rw[pK hi];refine h.takeB W Sb (by lia) nb (by lia) λi h1 h2 j g1=>?_
 have:i=nb:=by lia
 subst this;exact W.neg _ _ _ (dF W Sa (show j<=na-1 by lia) (by lia)) (hb (by lia))
theorem ka(a:Array ah)(n:Nat):(a.extract 0 n).toList=a.toList.take n:=by
 rw[zV,List.drop_zero];rfl
theorem MH.done(W:Wo LT)(h:MH LT a b out na nb)(Sa:Srt LT a.toList)(Sb:Srt LT b.toList)(he:na=0\/nb=0):Mg LT a b (a.extract 0 na++b.extract 0 nb++out.reverse):=by
 refine⟨?_,?_⟩
 ·rw[bf,bf,Array.toList_reverse,ka,ka];refine((List.reverse_perm _).trans h.pm).append_left _ |>.trans ?_;have e1:=bX na a.toList;have e2:=bX nb b.toList;rcases he with he|he
  ·subst he;rw[List.take_zero,List.drop_zero,List.nil_append];refine List.perm_append_comm.trans ?_;rw[bz];refine(List.perm_append_comm.append_left _).trans ?_;rw[e2]
  ·subst he;rw[List.take_zero,List.drop_zero,dg,<-bz,e1]
 ·rw[bf,bf,Array.toList_reverse];refine List.pairwise_append.mpr ⟨List.pairwise_append.mpr ⟨ez Sa _ _,ez Sb _ _,λx hx y hy=>?_⟩,h.sr,λx hx y hy=>?_⟩
  ·obtain⟨i,g1,g2,g3,rfl⟩:=qw hx;obtain⟨j,k1,k2,k3,rfl⟩:=qw hy;lia
  ·have hy:=List.mem_reverse.mp hy;rcases List.mem_append.mp hx with hx|hx
   ·obtain⟨i,g1,g2,g3,rfl⟩:=qw hx;exact h.la y hy i g2
   ·obtain⟨i,g1,g2,g3,rfl⟩:=qw hx;exact h.lb y hy i g2
theorem MH.first(W:Wo LT)(h:MH LT a b out na nb)(Sa:Srt LT a.toList)(Sb:Srt LT b.toList)(hl:nb=1)(hb:∀j,j<a.size->LT (at' b 0) (at' a j)=true):Mg LT a b (b.extract 0 nb++a.extract 0 na++out.reverse):=by
 subst hl;refine⟨?_,?_⟩
 ·rw[bf,bf,Array.toList_reverse,ka,ka];refine((List.reverse_perm _).trans h.pm).append_left _ |>.trans ?_;have e1:=bX na a.toList;have e2:=bX 1 b.toList;rw[bz,<-bz (a.toList.take na),e1];refine List.perm_append_comm.trans ?_;rw[bz];refine(List.perm_append_comm.append_left _).trans ?_;rw[e2]
 ·rw[bf,bf,Array.toList_reverse];refine List.pairwise_append.mpr ⟨List.pairwise_append.mpr ⟨ez Sb _ _,ez Sa _ _,λx hx y hy=>?_⟩,h.sr,λx hx y hy=>?_⟩
  ·obtain⟨i,g1,g2,g3,rfl⟩:=qw hx;obtain⟨j,k1,k2,k3,rfl⟩:=qw hy;have:i=0:=by lia
   subst this;exact W.asym _ _ (hb j k3)
  ·have hy:=List.mem_reverse.mp hy;rcases List.mem_append.mp hx with hx|hx
   ·obtain⟨i,g1,g2,g3,rfl⟩:=qw hx;exact h.lb y hy i g2
   ·obtain⟨i,g1,g2,g3,rfl⟩:=qw hx;exact h.la y hy i g2
theorem mh0{a b:Array ah}:MH LT a b #[] a.size b.size:=⟨by
 rw[List.drop_eq_nil_of_le (by simp),List.drop_eq_nil_of_le (by simp)];simp,by simp[Srt],by simp,by simp⟩
end
section
variable{prog:aF}{w:aD}{A:aE}{E:ae->af->Prop}{s:af}{κ:SortKind}{D:ah->Prop}{LT:ah->ah->Bool}
theorem oY(W:Wo LT){a:Array ah}(S:Srt LT a.toList){left:Bool}{key:ah}{n:Nat}(hn:n<=a.size):∀i j,i<=j->j<n->bey LT left key (at' a j)=true->bey LT left key (at' a i)=true:=by
 intro i j h1 h2 h3;have:=md W S (left:=left) (key:=key) (base:=0) (n:=n) (by lia) i j h1 h2;rw[Nat.zero_add,Nat.zero_add]at this;exact this h3
theorem wc(C:Cmp prog w A s κ D LT){a b:Array ah}{st:aJ}{Q:Array ah->aJ->Prop}(hk:kindOf st=κ)(Da:∀i,i<a.size->D (at' a i))(Db:∀i,i<b.size->D (at' b i))(Sa:Srt LT a.toList)(Sb:Srt LT b.toList)
  (ha:0<a.size) (hb:0<b.size) (h0:LT (at' b 0) (at' a 0)=true) (hl:∀j,j<b.size->LT (at' b j) (at' a (a.size-1))=true) (h:∀r g,Mg LT a b r->Q r (setG st g)):wpS (ao prog w) A E s (nK a b) Q st:=by
 have W:=C.wo;have fst:∀j,j<a.size->LT (at' b 0) (at' a j)=true:=λj hj=>W.lt_le h0 (dF W Sa (bH j) hj)
 unfold nK;refine av (wpS_lift (wpAny_rule ⟨rfl,?_⟩));refine av (qH (qo (show a.size-1<a.size by lia)) ?_);have M1:MH LT a b #[at' a (a.size-1)] (a.size-1) b.size:=by
  have M0:MH LT a b #[] (a.size-1+1) b.size:=by rw[show a.size-1+1=a.size by lia];exact mh0
  exact M0.pushA W Sa Sb (by lia) (aG _) λ_=>hl _ (by lia)
 dsimp only;refine wpI (λe1=>?_) λe1=>?_
 ·exact aA (h _ (gallopOf st) (M1.done W Sa Sb (.inl (by simpa using e1))))
 refine wpI (λe2=>?_) λe2=>?_
 ·exact aA (h _ (gallopOf st) (M1.first W Sa Sb (by simpa using e2) fst))
 have Jh:a.size-1≠0:=by simpa using e1
 have Ji:b.size≠1:=by simpa using e2
 refine av (wpS_get ?_);refine av (wpS_mono (Q:=λc st'=>∃r g,c.1=some r/\Mg LT a b r/\st'=setG st g) ?_ ?_)
 ·refine wpS_forRange (λi c st'=>∃g,st'=setG st g/\c.1=none/\MH LT a b c.2.2.2.1 c.2.1 c.2.2.1/\(1<=c.2.1/\c.2.1<a.size)/\(2<=c.2.2.1/\c.2.2.1<=b.size)/\c.2.1+c.2.2.1+i<=a.size+b.size) ?_ ?_ ⟨gallopOf st,rfl,rfl,M1,by show 1<=a.size-1/\a.size-1<a.size;lia,by show 2<=b.size/\b.size<=b.size;lia,by show a.size-1+b.size+0<=_;lia⟩
  ·refine λi=>pr5 λc0 na nb out mg st' _ hi x=>exE (λg y=>stE y.1 ?_) x
   clear x;have M:=y.2.2.1;have h1:=y.2.2.2.1;have h2:=y.2.2.2.2.1;have h3:=y.2.2.2.2.2;clear y;dsimp only at M h1 h2 h3 ⊢;refine av (wpS_mono (Q:=λc st'=>st'=setG st g/\((∃r,c.1=some r/\Mg LT a b r)\/(c.1=none/\MH LT a b c.2.2.2.1 c.2.1 c.2.2.1/\(1<=c.2.1/\c.2.1<a.size)/\(2<=c.2.2.1/\c.2.2.1<=b.size)/\c.2.1+c.2.2.1+1<=na+nb))) ?_ ?_)
   ·refine wpS_forRange (λj c st'=>st'=setG st g/\c.1=none/\MH LT a b c.2.2.2.1 c.2.1 c.2.2.1/\(1<=c.2.1/\c.2.1<a.size)/\(2<=c.2.2.1/\c.2.2.1<=b.size)/\c.2.1+c.2.2.1+j<=na+nb) ?_ ?_ ⟨rfl,rfl,M,h1,h2,aG _⟩
    ·clear M;refine λj=>pr6 λc0 GG G7 out ac bc st' _ hj y=>stE y.1 ?_
     have M:=y.2.2.1;have g1:=y.2.2.2.1;have g2:=y.2.2.2.2.1;have g3:=y.2.2.2.2.2;clear y;dsimp only at M g1 g2 g3 ⊢;refine av (qH (qo (show G7-1<b.size by lia)) ?_);refine av (qH (qo (show GG-1<a.size by lia)) ?_);refine av (iB C (Db _ (by lia)) (Da _ (by lia)) hk ?_);obtain⟨GO,rfl⟩:∃n,GG=n+1:=⟨GG-1,by lia⟩
     obtain⟨FU,rfl⟩:∃n,G7=n+1:=⟨G7-1,by lia⟩
     simp only[Nat.add_sub_cancel];refine wpI (λq=>?_) λq=>?_
     ·refine av (qH (qo (show GO<a.size by lia)) ?_);have M2:=M.pushA W Sa Sb (by lia) (by lia) λ_=>q
      refine wpI (λe3=>?_) λe3=>?_
      ·exact aA ⟨rfl,.inl ⟨_,rfl,M2.done W Sa Sb (.inl (by simpa using e3))⟩⟩
      have Jj:GO≠0:=by simpa using e3
      refine wpI (λe4=>?_) λe4=>?_
      ·exact aA ⟨rfl,.inr ⟨rfl,M2,by show 1<=GO/\GO<a.size;lia,g2,by show GO+(FU+1)+1<=na+nb;lia⟩⟩
      ·exact aA ⟨rfl,rfl,M2,by show 1<=GO/\GO<a.size;lia,g2,by show GO+(FU+1)+(j+1)<=na+nb;lia⟩
     ·have q:=eq_false_of_ne_true q;refine av (qH (qo (show FU<b.size by lia)) ?_);have M2:=M.pushB W Sa Sb (by lia) (by lia) λ_=>q
      refine wpI (λe3=>?_) λe3=>?_
      ·exact aA ⟨rfl,.inl ⟨_,rfl,M2.first W Sa Sb (by simpa using e3) fst⟩⟩
      have Jj:FU≠1:=by simpa using e3
      refine wpI (λe4=>?_) λe4=>?_
      ·exact aA ⟨rfl,.inr ⟨rfl,M2,g1,by show 2<=FU/\FU<=b.size;lia,by show GO+1+FU+1<=na+nb;lia⟩⟩
      ·exact aA ⟨rfl,rfl,M2,g1,by show 2<=FU/\FU<=b.size;lia,by show GO+1+FU+(j+1)<=na+nb;lia⟩
    ·clear M;rintro⟨c0,GG,G7,out,ac,bc⟩ st' ⟨rfl,rfl,M,g1,g2,g3⟩;dsimp only at M g1 g2 g3;exact absurd g3 (by lia)
   ·refine pr6 λc0 GG G7 out ac bc st' y=>stE y.1 ?_
    have hc:=y.2;clear y;dsimp only at hc ⊢;rcases hc with ⟨r,rfl,hm⟩|⟨rfl,M,g1,g2,g3⟩
    ·exact aA ⟨r,g,rfl,hm,rfl⟩
    dsimp only;refine av (wpS_lift (wpAny_rule ⟨rfl,?_⟩));refine av (wpS_mono (Q:=λc st'=>∃g,st'=setG st g/\((∃r,c.1=some r/\Mg LT a b r)\/(c.1=none/\MH LT a b c.2.2.2.1 c.2.1 c.2.2.1/\(1<=c.2.1/\c.2.1<a.size)/\(2<=c.2.2.1/\c.2.2.1<=b.size)/\c.2.1+c.2.2.1+1<=na+nb))) ?_ ?_)
    ·refine wpS_forRange (λj c st'=>∃g,st'=setG st g/\c.1=none/\MH LT a b c.2.2.2.1 c.2.1 c.2.2.1/\(1<=c.2.1/\c.2.1<a.size)/\(2<=c.2.2.1/\c.2.2.1<=b.size)/\c.2.1+c.2.2.1+1+j<=na+nb) ?_ ?_ ⟨g,rfl,rfl,M,g1,g2,g3⟩
     ·clear M g1 g2 g3;refine λj=>pr7 λc0 GG G7 out Gj ac bc st' _ hj x=>exE (λg y=>stE y.1 ?_) x
      clear x;have M:=y.2.2.1;have g1:=y.2.2.2.1;have g2:=y.2.2.2.2.1;have g3:=y.2.2.2.2.2;clear y;dsimp only at M g1 g2 g3 ⊢;obtain⟨FU,rfl⟩:∃n,G7=n+1:=⟨G7-1,by lia⟩
      revert Gj;refine share1 (λH Gj=>?_) ?_
      ·by_cases e0:¬ Gj>1
       ·rw[if_neg e0];exact H Gj
       ·rw[if_pos (Decidable.not_not.mp e0)];exact H (Gj-1)
      intro MZ;refine av (wpS_modify ?_);refine av (qH (qo (show FU+1-1<b.size by lia)) ?_);refine av (hJ C hk (Db _ (by lia)) (λi=>at' a i) (λi hi=>⟨by rw[Nat.zero_add];exact qo (by lia),Da _ (by lia)⟩) (by lia) (oY W Sa (by lia)) λk l1 l2 l3=>?_);simp only[Nat.add_sub_cancel]at l2 l3;dsimp only;have t2:∀i,i<k->LT (at' b FU) (at' a i)=false:=λi g1=>by
       have this:(!LT (at' b FU) (at' a i))=true:=l2 i g1
       simpa using this
      have t3:∀i,k<=i->i<GG->LT (at' b FU) (at' a i)=true:=λi z1 z2=>by
       have this:(!LT (at' b FU) (at' a i))=false:=l3 i z1 z2
       simpa using this
      generalize Oo:GG-k=ac2;generalize hu:out=u;generalize hv:GG=v;revert u v;refine jG (λGy JJ=>MH LT a b Gy JJ (FU+1)/\1<=JJ/\JJ<=GG/\LT (at' b FU) (at' a (JJ-1))=false) (λH u hu v hv=>?_) ?_
      ·subst hu;subst hv;by_cases e4:¬ ac2>0
       ·rw[if_neg e4];exact H out GG ⟨M,by lia,aG _,t2 _ (by lia)⟩
       ·rw[if_pos (Decidable.not_not.mp e4)];have M2:=M.takeA W Sa (by lia) k (by lia) λi g1 g2 j' g3=>W.neg _ _ _ (dF W Sb (show j'<=FU by lia) (by lia)) (W.asym _ _ (t3 i g1 g2))
        refine wpI (λe3=>?_) λe3=>?_
        ·exact aA ⟨_,rfl,.inl ⟨_,rfl,M2.done W Sa Sb (.inl (by simpa using e3))⟩⟩
        have Jj:k≠0:=by simpa using e3
        exact H _ _ ⟨M2,by lia,by lia,t2 _ (by lia)⟩
      rintro Ij GO ⟨M2,Oq,Ls,q2⟩;obtain⟨GP,rfl⟩:∃n,GO=n+1:=⟨GO-1,by lia⟩
      try dsimp only
      simp only[Nat.add_sub_cancel];refine av (qH (qo (show FU<b.size by lia)) ?_);have M3:=M2.pushB W Sa Sb (by lia) (by lia) λ_=>q2
      refine wpI (λe5=>?_) λe5=>?_
      ·exact aA ⟨_,rfl,.inl ⟨_,rfl,M3.first W Sa Sb (by simpa using e5) fst⟩⟩
      have LC:FU≠1:=by simpa using e5
      refine av (qH (qo (show GP<a.size by lia)) ?_);generalize Ij.push (at' b FU)=out5 at M3 ⊢;refine av (hJ C hk (Da _ (by lia)) (λi=>at' b i) (λi hi=>⟨by rw[Nat.zero_add];exact qo (by lia),Db _ (by lia)⟩) (by lia) (oY W Sb (by lia)) λk' l1' LG l3'=>?_);dsimp only;generalize Ot:FU-k'=bc2;generalize hu:out5=u;generalize hv:FU=v;revert u v;refine jG (λGy JK=>MH LT a b Gy (GP+1) JK/\2<=JK/\JK<=FU/\LT (at' b (JK-1)) (at' a GP)=true) (λH u hu v hv=>?_) ?_
      ·subst hu;subst hv;by_cases e6:¬ bc2>0
       ·rw[if_neg e6];exact H out5 FU ⟨M3,by lia,aG _,LG (FU-1) (by lia)⟩
       ·rw[if_pos (Decidable.not_not.mp e6)];have M4:=M3.takeB W Sb (by lia) k' (by lia) λi g1 g2 j' g3=>by
         have z:LT (at' b i) (at' a GP)=false:=l3' i g1 g2;exact W.neg _ _ _ (dF W Sa (show j'<=GP by lia) (by lia)) z
        refine wpI (λe8=>?_) λe8=>?_
        ·exact aA ⟨_,rfl,.inl ⟨_,rfl,M4.first W Sa Sb (by simpa using e8) fst⟩⟩
        have M7:k'≠1:=by simpa using e8
        refine wpI (λe9=>?_) λe9=>?_
        ·exact aA ⟨_,rfl,.inl ⟨_,rfl,M4.done W Sa Sb (.inr (by simpa using e9))⟩⟩
        have M6:k'≠0:=by simpa using e9
        exact H _ _ ⟨M4,by lia,by lia,LG (k'-1) (by lia)⟩
      rintro K0 nb4 ⟨M4,Ou,Ov,q5⟩
      try dsimp only
      refine av (qH (qo (show GP<a.size by lia)) ?_);have M5:=M4.pushA W Sa Sb (by lia) (by lia) λ_=>q5
      refine wpI (λe7=>?_) λe7=>?_
      ·exact aA ⟨_,rfl,.inl ⟨_,rfl,M5.done W Sa Sb (.inl (by simpa using e7))⟩⟩
      have M8:GP≠0:=by simpa using e7
      split
      ·exact aA ⟨_,rfl,.inr ⟨rfl,M5,by show 1<=GP/\GP<a.size;lia,by show 2<=nb4/\nb4<=b.size;lia,by show GP+nb4+1<=na+nb;lia⟩⟩
      ·exact aA ⟨_,rfl,rfl,M5,by show 1<=GP/\GP<a.size;lia,by show 2<=nb4/\nb4<=b.size;lia,by show GP+nb4+1+(j+1)<=na+nb;lia⟩
     ·clear M g1 g2 g3;rintro⟨c0,GG,G7,out,Gj,ac,bc⟩ st' ⟨g,rfl,rfl,M,g1,g2,g3⟩;dsimp only at M g1 g2 g3;exact absurd g3 (by lia)
    ·refine pr7 λc0 GG G7 out Gj ac bc st' x=>exE (λg y=>stE y.1 ?_) x
     clear x;have hc:=y.2;clear y;dsimp only at hc ⊢;rcases hc with ⟨r,rfl,hm⟩|⟨rfl,M,g1,g2,g3⟩
     ·exact aA ⟨r,g,rfl,hm,rfl⟩
     dsimp only;refine av (wpS_modify ?_);exact aA ⟨Gj+1,rfl,rfl,M,g1,g2,by show GG+G7+(i+1)<=a.size+b.size;lia⟩
  ·rintro⟨c0,na,nb,out,mg⟩ st' ⟨g,rfl,rfl,M,h1,h2,h3⟩;dsimp only at M h1 h2 h3;exact absurd h3 (by lia)
 ·rintro⟨c0,na,nb,out,mg⟩ st' ⟨r,g,hr,hm,rfl⟩;dsimp only at hr ⊢;subst hr;exact aA (h r g hm)
end
structure Rk(D:ah->Prop)(LT:ah->ah->Bool)(R:ah->Int):Prop where
 rk:∀x y,D x->D y->LT x y=decide (R x<R y)
structure SB(κ:SortKind)(p:Array (Nat×Nat×Nat))(a₁:Array ah)(lo:Nat)(st:aJ):Prop where
 kd:kindOf st=κ
 fl:failedOf st=none
 pn:a9 st=p
 pm:(ag st).Perm a₁
 lw:∀i,i<lo->at' (ag st) i=at' a₁ i
noncomputable def Kr(R:ah->Int)(xs:Array ah)(i:Nat):Int:=R (at' xs i)
def Seg(R:ah->Int)(xs:Array ah)(lo n:Nat):Prop:=∀i j,i<=j->j<n->Kr R xs (lo+i)<=Kr R xs (lo+j)
def Dsc(R:ah->Int)(xs:Array ah)(lo n:Nat):Prop:=∀i j,i<=j->j<n->Kr R xs (lo+j)<=Kr R xs (lo+i)
theorem hV{xs ys:Array ah}{i j:Nat}(h:xs[i]? = ys[j]?):at' xs i=at' ys j:=by
 unfold at';rw[Array.getD_eq_getD_getElem?,Array.getD_eq_getD_getElem?,h]
theorem oz{xs:Array ah}{src d:Nat}(hs:src<xs.size)(hd:d<=src)(k:Nat) :
  at' (bubble xs src d) k=if k=src-d then at' xs src else if src-d<k/\k<=src then at' xs (k-1)else at' xs k:=by
 have e:=getElem?_bubble hs d hd k;by_cases h1:k=src-d
 ·rw[if_pos h1]at e ⊢;exact hV e
 ·rw[if_neg h1]at e ⊢;by_cases h2:src-d<k/\k<=src
  ·rw[if_pos h2]at e ⊢;exact hV e
  ·rw[if_neg h2]at e ⊢;exact hV e
theorem oH{xs:Array ah}{i j:Nat}(hj:j<=xs.size)(k:Nat) :
  at' (aZ xs i j ((j-i)/2)) k=if i<=k/\k<j then at' xs (i+j-1-k)else at' xs k:=by
 have e:=getElem?_mirror_all (i:=i) hj k;by_cases h1:i<=k/\k<j
 ·rw[if_pos h1]at e ⊢;exact hV e
 ·rw[if_neg h1]at e ⊢;exact hV e
section
variable{prog:aF}{w:aD}{A:aE}{E:ae->af->Prop}{s:af}{κ:SortKind}{D:ah->Prop}{LT:ah->ah->Bool}{R:ah->Int}{p:Array (Nat×Nat×Nat)}{a₁:Array ah}{lo:Nat}
theorem m6{xs:Array ah}{src d:Nat}(hs:src<xs.size)(hd:d<=src)(k:Nat) :
  Kr R (bubble xs src d) k=if k=src-d then Kr R xs src else if src-d<k/\k<=src then Kr R xs (k-1)else Kr R xs k:=by
 unfold Kr;rw[oz hs hd];repeat' split
 all_goals rfl
theorem lY{xs:Array ah}{i j:Nat}(hj:j<=xs.size)(k:Nat) :
  Kr R (aZ xs i j ((j-i)/2)) k=if i<=k/\k<j then Kr R xs (i+j-1-k)else Kr R xs k:=by
 unfold Kr;rw[oH hj];split
 all_goals rfl
theorem ju{xs:Array ah}{i j:Nat}(hj:j<=xs.size)(heq:∀k,i<=k->k<j->Kr R xs k=Kr R xs (j-1))(k:Nat) :
  Kr R (aZ xs i j ((j-i)/2)) k=Kr R xs k:=by
 rw[lY hj];split
 ·rw[heq _ (by lia) (by lia),heq k (by lia) (by lia)]
 ·rfl
theorem SB.size{st:aJ}(h:SB κ p a₁ lo st):(ag st).size=a₁.size:=h.pm.size_eq
theorem SB.dom{st:aJ}(h:SB κ p a₁ lo st)(Da:∀x∈a₁.toList,D x){i:Nat}(hi:i<a₁.size):D (at' (ag st) i):=
 Da _ ((Array.perm_iff_toList_perm.mp h.pm).mem_iff.mp (jZ (by rw[h.size];exact hi)))
theorem SB.setArr{st:aJ}(h:SB κ p a₁ lo st){xs:Array ah}(hp:xs.Perm (ag st))(hl:∀i,i<lo->at' xs i=at' (ag st) i):SB κ p a₁ lo (setArr st xs):=
 ⟨h.kd,h.fl,h.pn,hp.trans h.pm,λi hi=>(hl i hi).trans (h.lw i hi)⟩
theorem SB.mir{st:aJ}(h:SB κ p a₁ lo st){i j:Nat}(hi:lo<=i)(hj:j<=a₁.size):SB κ p a₁ lo (PyProof.Rows.setArr st (aZ (ag st) i j ((j-i)/2))):=
 h.setArr (mirror_perm _ _ _ _) λk hk=>by
  rw[oH (by rw[h.size];exact hj),if_neg (by lia)]
theorem eM{st:aJ}{i j:Nat}{Q:Option Bool->aJ->Prop}(C:Cmp prog w A s κ D LT)(K:Rk D LT R)(Da:∀x∈a₁.toList,D x)(hB:SB κ p a₁ lo st)(hi:i<a₁.size)(hj:j<a₁.size)
  (h:Q (some (decide (Kr R (ag st) i<Kr R (ag st) j))) st):wpS (ao prog w) A E s (ltAt' i j) Q st:=by
 rw[ltAt'_eq];refine av (wpS_get ?_);refine av (qH (qo (by rw[hB.size];exact hi)) ?_);refine av (qH (qo (by rw[hB.size];exact hj)) ?_);refine iB C (hB.dom Da hi) (hB.dom Da hj) hB.kd ?_;rw[K.rk _ _ (hB.dom Da hi) (hB.dom Da hj)];exact h
structure Hf(R:ah->Int)(xs:Array ah)(lo k x l r:Nat):Prop where
 lr:l<=r
 rk:r<=k
 fu:r-l+x<=k
 low:∀i,lo<=i->i<lo+l->Kr R xs i<=Kr R xs (lo+k)
 upp:∀i,lo+r<=i->i<lo+k->Kr R xs (lo+k)<Kr R xs i
theorem Seg.at{xs:Array ah}{n:Nat}(S:Seg R xs lo n){i j:Nat}(a:lo<=i)(b:i<=j)(c:j<lo+n):Kr R xs i<=Kr R xs j:=by
 have z:=S (i-lo) (j-lo) (by lia) (by lia)
 rwa[Nat.add_sub_cancel' a,Nat.add_sub_cancel' (bB a b)]at z
theorem Hf.go{xs:Array ah}{k x l r:Nat}(h:Hf R xs lo k x l r)(S:Seg R xs lo k)(hl:l<r) :
  (Kr R xs (lo+k)<Kr R xs (lo+(l+r)/2)->Hf R xs lo k (x+1) l ((l+r)/2))/\(¬ Kr R xs (lo+k)<Kr R xs (lo+(l+r)/2)->Hf R xs lo k (x+1) ((l+r)/2+1) r):=by
 have:=h.rk;have:=h.fu;refine⟨λz=>⟨by lia,by lia,by lia,h.low,λi a b=>Int.lt_of_lt_of_le z (S.at (by lia) a (by lia))⟩,λz=>⟨by lia,h.rk,by lia,λi a b=>?_,h.upp⟩⟩;have:=S.at (i:=i) (j:=lo+(l+r)/2) a (by lia) (by lia);lia
theorem Hf.put{xs:Array ah}{k x l:Nat}(h:Hf R xs lo k x l l)(hk:lo+k<xs.size)(S:Seg R xs lo k) :
  Seg R (bubble xs (lo+k) (lo+k-(lo+l))) lo (k+1)/\∀i,i<lo->at' (bubble xs (lo+k) (lo+k-(lo+l))) i=at' xs i:=by
 have:=h.rk;have e:lo+k-(lo+k-(lo+l))=lo+l:=by lia
 refine⟨λi j FC hj=>?_,λi hi=>by rw[oz hk (by lia),if_neg (by lia),if_neg (by lia)]⟩;rw[m6 hk (by lia),m6 hk (by lia),e];by_cases ai:lo+i=lo+l<;>by_cases aj:lo+j=lo+l<;>by_cases bi:lo+l<lo+i/\lo+i<=lo+k<;>by_cases bj:lo+l<lo+j/\lo+j<=lo+k<;>simp only[ai,aj,bi,bj,if_true,if_false,and_self]<;>first
  | (exfalso;lia)
  |lia
  |exact h.low _ (by lia) (by lia)
  |exact Int.le_of_lt (h.upp _ (by lia) (by lia))
  |exact S.at (by lia) (by lia) (by lia)
theorem xk(C:Cmp prog w A s κ D LT)(K:Rk D LT R)(Da:∀x∈a₁.toList,D x){st:aJ}{n ok:Nat}{Q:Bool->aJ->Prop}(hn:lo+n<=a₁.size)(hok:ok<=n)(hB:SB κ p a₁ lo st)(hs:Seg R (ag st) lo ok)
  (h:∀st',SB κ p a₁ lo st'->Seg R (ag st') lo n->Q true st'):wpS (ao prog w) A E s (binarySort' lo n ok) Q st:=by
 rw[binarySort'_eq];have K1:Seg R (ag st) lo (min (max ok 1) n):=λi j a b=>by
  by_cases z:ok=0
  ·rw[show i=j by lia];exact Int.le_refl _
  ·exact hs i j a (by lia)
 refine av (wpS_mono (wpS_forRange (λk c t=>c=(none,())/\SB κ p a₁ lo t/\Seg R (ag t) lo (min k n)) (Q:=λc t=>c=(none,())/\SB κ p a₁ lo t/\Seg R (ag t) lo n) ?_ ?_ ⟨rfl,hB,K1⟩) λc t ⟨e,b,z⟩=>by rw[e];exact aA (h t b z))
 ·rintro k c t k1 k2 ⟨rfl,B,S⟩;rw[Nat.min_eq_left (Nat.le_of_lt k2)]at S;have kz:lo+k<a₁.size:=by lia
  have M9:lo+k<(ag t).size:=by rw[B.size];exact kz
  refine av (wpS_mono (wpS_forRange (λx c u=>u=t/\∃l r,c=(none,l,r)/\Hf R (ag t) lo k x l r) (Q:=λc u=>u=t/\∃x l,c=(none,l,l)/\Hf R (ag t) lo k x l l) ?_ ?_ ⟨rfl,0,k,rfl,bH _,aG _,by lia,λi a b=>by lia,λi a b=>by lia⟩) ?_)
  ·rintro x c u _ x2 ⟨rfl,l,r,rfl,f⟩;dsimp only;have:=f.lr;by_cases z:l >= r
   ·rw[if_pos z];obtain rfl:l=r:=by lia
    exact aA ⟨rfl,x,l,rfl,f⟩
   rw[if_neg z];have:=f.rk;refine av (eM C K Da B kz (by lia) ?_);obtain⟨g1,g2⟩:=f.go S (by lia);cases q:decide (Kr R (ag u) (lo+k)<Kr R (ag u) (lo+(l+r)/2))with
   |true=>exact aA ⟨rfl,_,_,rfl,g1 (of_decide_eq_true q)⟩
   |false=>exact aA ⟨rfl,_,_,rfl,g2 (of_decide_eq_false q)⟩
  ·rintro c u ⟨rfl,l,r,rfl,f⟩;have:=f.lr;have:=f.fu;obtain rfl:l=r:=by lia
   exact⟨rfl,_,l,rfl,f⟩
  ·rintro c u ⟨rfl,x,l,rfl,f⟩;obtain⟨g1,g2⟩:=f.put M9 S;dsimp only;rw[moveDown'_eq];refine av (wpS_modify (aA ⟨rfl,B.setArr (bubble_perm _ _ _) g2,?_⟩));rw[Nat.min_eq_left k2];exact g1
 ·rintro c t ⟨e,b,z⟩;rw[show min (max (max ok 1) n) n=n by lia]at z;exact⟨e,b,z⟩
end
section
variable{prog:aF}{w:aD}{A:aE}{E:ae->af->Prop}{s:af}{κ:SortKind}{D:ah->Prop}{LT:ah->ah->Bool}{R:ah->Int}{p:Array (Nat×Nat×Nat)}{a₁:Array ah}{lo:Nat}{xs:Array ah}
theorem Seg.one:Seg R xs lo 1:=λi j a b=>by rw[show i=j by lia];exact Int.le_refl _
theorem Seg.more{n:Nat}(S:Seg R xs lo n)(z:1<=n->Kr R xs (lo+n-1)<=Kr R xs (lo+n)):Seg R xs lo (n+1):=λi j a b=>by
 by_cases c:j=n
 ·subst c;by_cases d:i=j
  ·rw[d];exact Int.le_refl _
  ·have y:=S i (j-1) (by lia) (by lia);rw[show lo+(j-1)=lo+j-1 by lia]at y;exact Int.le_trans y (z (by lia))
 ·exact S i j a (by lia)
theorem Dsc.one:Dsc R xs lo 1:=λi j a b=>by rw[show i=j by lia];exact Int.le_refl _
theorem Dsc.more{n:Nat}(S:Dsc R xs lo n)(z:1<=n->Kr R xs (lo+n)<=Kr R xs (lo+n-1)):Dsc R xs lo (n+1):=λi j a b=>by
 by_cases c:j=n
 ·subst c;by_cases d:i=j
  ·rw[d];exact Int.le_refl _
  ·have y:=S i (j-1) (by lia) (by lia);rw[show lo+(j-1)=lo+j-1 by lia]at y;exact Int.le_trans (z (by lia)) y
 ·exact S i j a (by lia)
theorem Dsc.alike{ys:Array ah}{n:Nat}(S:Dsc R xs lo n)(e:∀k,Kr R ys k=Kr R xs k):Dsc R ys lo n:=λi j a b=>by rw[e,e];exact S i j a b
theorem jk{st:aJ}{a nrem:Nat}{β:Type}{mk:Nat->β}{Q:β->aJ->Prop}(hn:lo+nrem<=a₁.size)(ha:1<=a)(LH:a<=nrem)(S0:Seg R (ag st) lo a)
  {body:Nat->β->StateT aJ Sem (ForInStep β)}
  (hb:∀x n (Q':ForInStep β->aJ->Prop),lo+n<a₁.size->1<=n->(Kr R (ag st) (lo+n)<Kr R (ag st) (lo+n-1)->Q' (.done (mk n)) st)->(¬ Kr R (ag st) (lo+n)<Kr R (ag st) (lo+n-1)->Q' (.yield (mk (n+1))) st)->wpS (ao prog w) A E s (body x (mk n)) Q' st)
  (h:∀n,a<=n->n<=nrem->Seg R (ag st) lo n->(n≠nrem->Kr R (ag st) (lo+n)<Kr R (ag st) (lo+n-1))->Q (mk n) st) :
  wpS (ao prog w) A E s (forIn [a:nrem] (mk a) body) Q st:=
 wpS_forRange (λx c t=>t=st/\c=mk x/\Seg R (ag st) lo x) (λx c t x1 x2 ⟨e1,e2,S⟩=>by
   subst e1 e2;exact hb x x _ (by lia) (by lia) (λz=>h x x1 (by lia) S λ_=>z) λz=>⟨rfl,rfl,S.more λ_=>by lia⟩)
  (λc t ⟨e1,e2,S⟩=>by
   subst e1 e2;rw[Nat.max_eq_right LH]at S ⊢;exact h nrem LH (aG _) S λz=>absurd rfl z) ⟨rfl,rfl,S0⟩
theorem Dsc.turn{n:Nat}(S:Dsc R xs lo n)(hz:lo+n<=xs.size):Seg R (aZ xs lo (lo+n) ((lo+n-lo)/2)) lo n:=λi j a b=>by
 have y:=S (n-1-j) (n-1-i) (by lia) (by lia);rw[show lo+(n-1-j)=lo+(lo+n)-1-(lo+j)by lia,show lo+(n-1-i)=lo+(lo+n)-1-(lo+i)by lia]at y
 rwa[lY hz,lY hz,if_pos ⟨by lia,by lia⟩,if_pos ⟨by lia,by lia⟩]
def Flat(R:ah->Int)(xs:Array ah)(lo m FA:Nat):Prop:=∀i,lo+m-(FA+1)<=i->i<lo+m->Kr R xs i=Kr R xs (lo+m-1)
theorem Flat.zero{m:Nat}:Flat R xs lo m 0:=λi a b=>by rw[show i=lo+m-1 by lia]
theorem Flat.more{m FA:Nat}(f:Flat R xs lo m FA)(z:Kr R xs (lo+m)=Kr R xs (lo+m-1)):Flat R xs lo (m+1) (FA+1):=λi a b=>by
 rw[show lo+(m+1)-1=lo+m by lia];by_cases c:i=lo+m
 ·rw[c]
 ·rw[z];exact f i (by lia) (by lia)
theorem ng{st:aJ}{n nrem:Nat}{β:Type}{mk:Nat->Nat->β}{Q:β->aJ->Prop}(hn:lo+nrem<=a₁.size)(h1:1<=n)(LI:n<=nrem)(B0:SB κ p a₁ lo st)(S0:Dsc R (ag st) lo n)
  {body:Nat->β->StateT aJ Sem (ForInStep β)}
  (hb:∀x n FA t (Q':ForInStep β->aJ->Prop),SB κ p a₁ lo t->lo+n<a₁.size->1<=n ->
   (Kr R (ag t) (lo+n)<Kr R (ag t) (lo+n-1)->FA>0->Q' (.yield (mk (n+1) 0)) (setArr t (aZ (ag t) (lo+n-(FA+1)) (lo+n) ((lo+n-(lo+n-(FA+1)))/2)))) ->
   (Kr R (ag t) (lo+n)<Kr R (ag t) (lo+n-1)->¬ FA>0->Q' (.yield (mk (n+1) 0)) t) ->
   (Kr R (ag t) (lo+n-1)<Kr R (ag t) (lo+n)->Q' (.done (mk n FA)) t) ->
   (Kr R (ag t) (lo+n)=Kr R (ag t) (lo+n-1)->Q' (.yield (mk (n+1) (FA+1))) t) ->
   wpS (ao prog w) A E s (body x (mk n FA)) Q' t)
  (h:∀m FA t,SB κ p a₁ lo t->n<=m->m<=nrem->Dsc R (ag t) lo m->FA+1<=m->Flat R (ag t) lo m FA->Q (mk m FA) t) :
  wpS (ao prog w) A E s (forIn [n:nrem] (mk n 0) body) Q st:=
 wpS_forRange (λx c t=>∃FA,c=mk x FA/\SB κ p a₁ lo t/\Dsc R (ag t) lo x/\FA+1<=x/\Flat R (ag t) lo x FA) (λx c t x1 x2 ⟨FA,e,B,S,q,f⟩=>by
   subst e;have hz:lo+x<=(ag t).size:=by rw[B.size];lia
   refine hb x x FA t _ B (by lia) (by lia) (λz _=>?_) (λz _=>?_) (λ_=>h x FA t B x1 (by lia) S q f) λz=>⟨FA+1,rfl,B,S.more λ_=>Int.le_of_eq z,by lia,f.more z⟩
   ·exact⟨0,rfl,B.mir (by lia) (by lia),(S.more λ_=>Int.le_of_lt z).alike (ju hz f),by lia,Flat.zero⟩
   ·exact⟨0,rfl,B,S.more λ_=>Int.le_of_lt z,by lia,Flat.zero⟩)
  (λc t ⟨FA,e,B,S,q,f⟩=>by
   subst e;rw[Nat.max_eq_right LI]at S q f ⊢;exact h nrem FA t B LI (aG _) S q f) ⟨0,rfl,B0,S0,by lia,Flat.zero⟩
theorem AH(C:Cmp prog w A s κ D LT)(K:Rk D LT R)(Da:∀x∈a₁.toList,D x){st:aJ}{nrem:Nat}{Q:Option Nat->aJ->Prop}(hn:lo+nrem<=a₁.size)(h1:1<=nrem)(hB:SB κ p a₁ lo st)
  (h:∀m st',SB κ p a₁ lo st'->1<=m->m<=nrem->Seg R (ag st') lo m->Q (some m) st') :
  wpS (ao prog w) A E s (countRun' lo nrem) Q st:=by
 rw[countRun'_eq];refine av (jk (R:=R) (mk:=λn=>(none,n)) hn (aG 1) h1 Seg.one ?_ ?_)
 ·intro x n Q' hl n1 q1 q2;dsimp only;refine av (eM C K Da (hB) hl (by lia) ?_);cases z:decide (Kr R (ag st) (lo+n)<Kr R (ag st) (lo+n-1))with
  |true=>exact aA (q1 (of_decide_eq_true z))
  |false=>exact aA (q2 (of_decide_eq_false z))
 intro n n1 n2 S z;dsimp only;by_cases e:(n==nrem)=true
 ·rw[if_pos e];exact aA (h n st hB n1 n2 S)
 rw[if_neg e];have e':n≠nrem:=by simpa using e
 have lt:=z e';have hz:lo+n<=(ag st).size:=by rw[hB.size];lia
 by_cases g:n>1
 ·rw[if_pos g];refine av (eM C K Da hB (by lia) (by lia) ?_);cases y:decide (Kr R (ag st) lo<Kr R (ag st) (lo+n-1))with
  |true=>exact aA (h n st hB n1 n2 S)
  |false=>
   have y':=of_decide_eq_false y;have f:∀k,lo<=k->k<lo+n->Kr R (ag st) k=Kr R (ag st) (lo+n-1):=λk a b=>by
    have b1:=S.at (i:=lo) (j:=k) (aG _) a b;have b2:=S.at (i:=k) (j:=lo+n-1) a (by lia) (by lia);lia
   dsimp only;rw[if_neg bO];refine av (wpS_reverse ?_);have dB:SB κ p a₁ lo (setArr st (aZ (ag st) lo (lo+n) ((lo+n-lo)/2))):=hB.mir (aG _) (by lia);have dS:Dsc R (ag (setArr st (aZ (ag st) lo (lo+n) ((lo+n-lo)/2)))) lo (n+1):=Dsc.alike (xs:=ag st) (Dsc.more (λi j a b=>by rw[f (lo+i) (by lia) (by lia),f (lo+j) (by lia) (by lia)];exact Int.le_refl _) λ_=>Int.le_of_lt lt) (ju hz f);refine av (wpS_lift (wpAny_rule ⟨rfl,?_⟩));refine av (ng (mk:=λn q=>(none,n,q)) hn (by lia) (by lia) (dB) dS ?_ ?_)
   ·intro x n FA t Q' tB hl n1 q1 q2 q3 q4;dsimp only;refine av (eM C K Da tB hl (by lia) ?_);cases z:decide (Kr R (ag t) (lo+n)<Kr R (ag t) (lo+n-1))with
    |true=>
     by_cases y:FA>0
     ·dsimp only;rw[if_pos rfl,if_pos y];exact av (wpS_reverse (aA (q1 (of_decide_eq_true z) y)))
     ·dsimp only;rw[if_pos rfl,if_neg y];exact aA (q2 (of_decide_eq_true z) y)
    |false=>
     have z':=of_decide_eq_false z;refine av (eM C K Da tB (by lia) hl ?_);cases y:decide (Kr R (ag t) (lo+n-1)<Kr R (ag t) (lo+n))with
     |true=>exact aA (q3 (of_decide_eq_true y))
     |false=>
      have y':=of_decide_eq_false y;exact aA (q4 (by lia))
   ·intro m FA t tB m1 m2 tS nm f;have hz:lo+m<=(ag t).size:=by rw[tB.size];lia
    dsimp only;by_cases y:FA>0
    ·rw[if_pos y];refine av (wpS_reverse ?_);have MB:SB κ p a₁ lo (setArr t (aZ (ag t) (lo+m-(FA+1)) (lo+m) ((lo+m-(lo+m-(FA+1)))/2))):=tB.mir (by lia) (by lia);have MS:Dsc R (ag (setArr t (aZ (ag t) (lo+m-(FA+1)) (lo+m) ((lo+m-(lo+m-(FA+1)))/2)))) lo m:=tS.alike (ju hz f);refine av (wpS_reverse ?_);have TB:SB κ p a₁ lo (setArr (setArr t (aZ (ag t) (lo+m-(FA+1)) (lo+m) ((lo+m-(lo+m-(FA+1)))/2))) (aZ (ag (setArr t (aZ (ag t) (lo+m-(FA+1)) (lo+m) ((lo+m-(lo+m-(FA+1)))/2)))) lo (lo+m) ((lo+m-lo)/2))):=(MB).mir (aG _) (by lia);refine av (jk (R:=R) (mk:=λn=>(none,n)) hn (by lia) m2 (Dsc.turn (MS) (by show lo+m<=(ag (setArr t (aZ (ag t) (lo+m-(FA+1)) (lo+m) ((lo+m-(lo+m-(FA+1)))/2)))).size;rw[(MB).size];lia)) ?_ ?_)
     ·intro x n Q' hl n1 q1 q2;dsimp only;refine av (eM C K Da (TB) hl (by lia) ?_);cases z:decide (Kr R (ag (setArr (setArr t (aZ (ag t) (lo+m-(FA+1)) (lo+m) ((lo+m-(lo+m-(FA+1)))/2))) (aZ (ag (setArr t (aZ (ag t) (lo+m-(FA+1)) (lo+m) ((lo+m-(lo+m-(FA+1)))/2)))) lo (lo+m) ((lo+m-lo)/2)))) (lo+n)<Kr R (ag (setArr (setArr t (aZ (ag t) (lo+m-(FA+1)) (lo+m) ((lo+m-(lo+m-(FA+1)))/2))) (aZ (ag (setArr t (aZ (ag t) (lo+m-(FA+1)) (lo+m) ((lo+m-(lo+m-(FA+1)))/2)))) lo (lo+m) ((lo+m-lo)/2)))) (lo+n-1))with
      |true=>exact aA (q1 (of_decide_eq_true z))
      |false=>exact aA (q2 (of_decide_eq_false z))
     ·intro j j1 j2 j3 _;exact aA (h j _ TB (by lia) j2 j3)
    ·rw[if_neg y];refine av (wpS_reverse ?_);have TB:SB κ p a₁ lo (setArr t (aZ (ag t) lo (lo+m) ((lo+m-lo)/2))):=(tB).mir (aG _) (by lia);refine av (jk (R:=R) (mk:=λn=>(none,n)) hn (by lia) m2 (Dsc.turn (tS) (by show lo+m<=(ag t).size;rw[(tB).size];lia)) ?_ ?_)
     ·intro x n Q' hl n1 q1 q2;dsimp only;refine av (eM C K Da (TB) hl (by lia) ?_);cases z:decide (Kr R (ag (setArr t (aZ (ag t) lo (lo+m) ((lo+m-lo)/2)))) (lo+n)<Kr R (ag (setArr t (aZ (ag t) lo (lo+m) ((lo+m-lo)/2)))) (lo+n-1))with
      |true=>exact aA (q1 (of_decide_eq_true z))
      |false=>exact aA (q2 (of_decide_eq_false z))
     ·intro j j1 j2 j3 _;exact aA (h j _ TB (by lia) j2 j3)
 ·rw[if_neg g];obtain rfl:n=1:=by lia
  have dS:Dsc R (ag st) lo (1+1):=Dsc.one.more λ_=>Int.le_of_lt lt
  refine av (wpS_lift (wpAny_rule ⟨rfl,?_⟩));refine av (ng (mk:=λn q=>(none,n,q)) hn (by lia) (by lia) (hB) dS ?_ ?_)
  ·intro x n FA t Q' tB hl n1 q1 q2 q3 q4;dsimp only;refine av (eM C K Da tB hl (by lia) ?_);cases z:decide (Kr R (ag t) (lo+n)<Kr R (ag t) (lo+n-1))with
   |true=>
    by_cases y:FA>0
    ·dsimp only;rw[if_pos rfl,if_pos y];exact av (wpS_reverse (aA (q1 (of_decide_eq_true z) y)))
    ·dsimp only;rw[if_pos rfl,if_neg y];exact aA (q2 (of_decide_eq_true z) y)
   |false=>
    have z':=of_decide_eq_false z;refine av (eM C K Da tB (by lia) hl ?_);cases y:decide (Kr R (ag t) (lo+n-1)<Kr R (ag t) (lo+n))with
    |true=>exact aA (q3 (of_decide_eq_true y))
    |false=>
     have y':=of_decide_eq_false y;exact aA (q4 (by lia))
  ·intro m FA t tB m1 m2 tS nm f;have hz:lo+m<=(ag t).size:=by rw[tB.size];lia
   dsimp only;by_cases y:FA>0
   ·rw[if_pos y];refine av (wpS_reverse ?_);have MB:SB κ p a₁ lo (setArr t (aZ (ag t) (lo+m-(FA+1)) (lo+m) ((lo+m-(lo+m-(FA+1)))/2))):=tB.mir (by lia) (by lia);have MS:Dsc R (ag (setArr t (aZ (ag t) (lo+m-(FA+1)) (lo+m) ((lo+m-(lo+m-(FA+1)))/2)))) lo m:=tS.alike (ju hz f);refine av (wpS_reverse ?_);have TB:SB κ p a₁ lo (setArr (setArr t (aZ (ag t) (lo+m-(FA+1)) (lo+m) ((lo+m-(lo+m-(FA+1)))/2))) (aZ (ag (setArr t (aZ (ag t) (lo+m-(FA+1)) (lo+m) ((lo+m-(lo+m-(FA+1)))/2)))) lo (lo+m) ((lo+m-lo)/2))):=(MB).mir (aG _) (by lia);refine av (jk (R:=R) (mk:=λn=>(none,n)) hn (by lia) m2 (Dsc.turn (MS) (by show lo+m<=(ag (setArr t (aZ (ag t) (lo+m-(FA+1)) (lo+m) ((lo+m-(lo+m-(FA+1)))/2)))).size;rw[(MB).size];lia)) ?_ ?_)
    ·intro x n Q' hl n1 q1 q2;dsimp only;refine av (eM C K Da (TB) hl (by lia) ?_);cases z:decide (Kr R (ag (setArr (setArr t (aZ (ag t) (lo+m-(FA+1)) (lo+m) ((lo+m-(lo+m-(FA+1)))/2))) (aZ (ag (setArr t (aZ (ag t) (lo+m-(FA+1)) (lo+m) ((lo+m-(lo+m-(FA+1)))/2)))) lo (lo+m) ((lo+m-lo)/2)))) (lo+n)<Kr R (ag (setArr (setArr t (aZ (ag t) (lo+m-(FA+1)) (lo+m) ((lo+m-(lo+m-(FA+1)))/2))) (aZ (ag (setArr t (aZ (ag t) (lo+m-(FA+1)) (lo+m) ((lo+m-(lo+m-(FA+1)))/2)))) lo (lo+m) ((lo+m-lo)/2)))) (lo+n-1))with
     |true=>exact aA (q1 (of_decide_eq_true z))
     |false=>exact aA (q2 (of_decide_eq_false z))
    ·intro j j1 j2 j3 _;exact aA (h j _ TB (by lia) j2 j3)
   ·rw[if_neg y];refine av (wpS_reverse ?_);have TB:SB κ p a₁ lo (setArr t (aZ (ag t) lo (lo+m) ((lo+m-lo)/2))):=(tB).mir (aG _) (by lia);refine av (jk (R:=R) (mk:=λn=>(none,n)) hn (by lia) m2 (Dsc.turn (tS) (by show lo+m<=(ag t).size;rw[(tB).size];lia)) ?_ ?_)
    ·intro x n Q' hl n1 q1 q2;dsimp only;refine av (eM C K Da (TB) hl (by lia) ?_);cases z:decide (Kr R (ag (setArr t (aZ (ag t) lo (lo+m) ((lo+m-lo)/2)))) (lo+n)<Kr R (ag (setArr t (aZ (ag t) lo (lo+m) ((lo+m-lo)/2)))) (lo+n-1))with
     |true=>exact aA (q1 (of_decide_eq_true z))
     |false=>exact aA (q2 (of_decide_eq_false z))
    ·intro j j1 j2 j3 _;exact aA (h j _ TB (by lia) j2 j3)
end
theorem jD(a:Array ah)(i:Nat):at' a i=(a.toList[i]?).getD df:=by
 unfold at';rw[Array.getD_eq_getD_getElem?,Array.getElem?_toList]
theorem rC{a:Array ah}{i j m:Nat}(hj:j<=a.size)(hm:i+m<j):at' (a.extract i j) m=at' a (i+m):=by
 refine hV ?_;rw[Array.getElem?_extract,if_pos (by lia)]
noncomputable def putAll(s:Nat)(l:List ah)(n:Nat)(a:Array ah):Array Keyed:=(l.zipIdx n).foldl (λa (p:ah×Nat)=>a.setIfInBounds (s+p.2) p.1) a
theorem mw(s:Nat):∀(l:List ah) (n:Nat) (a:Array ah),s+n+l.length<=a.size->(putAll s l n a).toList=a.toList.take (s+n)++l++a.toList.drop (s+n+l.length)
 | [],n,a,_=>by
  show a.toList=_;simp
 |x::l,n,a,h=>by
  show (putAll s l (n+1) (a.setIfInBounds (s+n) x)).toList=_;rw[bA]at h;rw[mw s l (n+1) _ (by rw[Array.size_setIfInBounds];lia)];have hl:s+n<a.toList.length:=by rw[ba];lia
  rw[Array.toList_setIfInBounds,show s+(n+1)=s+n+1 by lia,List.take_set,List.drop_set,if_pos (by lia),bA,
   show s+n+1+l.length=s+n+(l.length+1)by lia]
  congr 1
  rw[show (x::l)=[x]++l from rfl,<-bz]
  congr 1
  rw[List.take_succ_eq_append_getElem hl,List.set_append_right _ _ (by rw[ef];lia),ef,Nat.min_eq_left (by lia),Nat.sub_self]
  rfl
theorem mI{s:Nat}{r a:Array ah}(h:s+r.size<=a.size)(t:Nat):at' (putAll s r.toList 0 a) t=if s<=t/\t<s+r.size then at' r (t-s)else at' a t:=by
 rw[jD,mw s _ _ _ (by rw[ba];lia),Nat.add_zero,ba];have h1:(a.toList.take s).length=s:=by rw[ef,ba];lia
 by_cases e1:t<s
 ·rw[if_neg (by lia),bz,List.getElem?_append_left (by lia),List.getElem?_take,if_pos e1,jD]
 ·rw[bz,List.getElem?_append_right (by lia),h1];by_cases e2:t<s+r.size
  ·rw[if_pos (by lia),List.getElem?_append_left (by rw[ba];lia),jD]
  ·rw[if_neg (by lia),List.getElem?_append_right (by rw[ba];lia),List.getElem?_drop,ba,jD]
   congr 2;lia
theorem pP{s e:Nat}{r x y a:Array ah}{m:Nat}(h1:s<=m)(h2:m<=e)(h3:e<=a.size)(hx:x=a.extract s m)(hy:y=a.extract m e)(hr:r.toList.Perm (x.toList++y.toList)):r.size=e-s/\(putAll s r.toList 0 a).Perm a:=by
 have hl:r.size=e-s:=by
  have:=hr.length_eq;rw[bP,ba,ba,ba,hx,hy,Array.size_extract,Array.size_extract]at this;lia
 refine⟨hl,Array.perm_iff_toList_perm.mpr ?_⟩;rw[mw s _ _ _ (by rw[ba];lia),Nat.add_zero,ba,hl];have Hi:x.toList++y.toList=(a.toList.drop s).take (e-s):=by
  rw[hx,hy,zV,zV,show e-s=(m-s)+(e-m)by lia,List.take_add,List.drop_drop,show s+(m-s)=m by lia]
 have e0:a.toList=a.toList.take s++(a.toList.drop s).take (e-s)++a.toList.drop (s+(e-s)):=by
  rw[bz,<-List.drop_drop,bX,bX]
 conv=>rhs;rw[e0]
 rw[Hi]at hr;exact(hr.append_left _).append_right _
section
variable{prog:aF}{w:aD}{A:aE}{E:ae->af->Prop}{s:af}{κ:SortKind}{D:ah->Prop}{LT:ah->ah->Bool}{R:ah->Int}
theorem EX{a r x y:Array ah}{sa s' sb e' en:Nat}(h1:sa<=s')(h2:s'<sb)(h3:sb<=e')(h4:e'<=en)(h5:en<=a.size)
  (SX:∀i j,sa<=i->i<=j->j<sb->Kr R a i<=Kr R a j) (SY:∀i j,sb<=i->i<=j->j<en->Kr R a i<=Kr R a j)
  (F1:∀i,sa<=i->i<s'->Kr R a i<=Kr R a sb) (Ow:sb<en) (F2:∀i,e'<=i->i<en->Kr R a (sb-1)<=Kr R a i)
  (hx:x=a.extract s' sb) (hy:y=a.extract sb e') (hr:r.toList.Perm (x.toList++y.toList)) (hs:∀i j,i<=j->j<r.size->Kr R r i<=Kr R r j) :
  ∀i j,sa<=i->i<=j->j<en->Kr R (putAll s' r.toList 0 a) i<=Kr R (putAll s' r.toList 0 a) j:=by
 have hp:=pP (by lia) h3 (by lia) hx hy hr;have mid:∀v,v<r.size->∃z,s'<=z/\z<e'/\at' r v=at' a z:=λv hv=>by
  have:=hr.mem_iff.mp (jZ hv);rw[List.mem_append,hx,hy]at this;rcases this with q|q
  ·obtain⟨z,z1,z2,z3,z4⟩:=qw q;exact⟨z,z1,by lia,z4⟩
  ·obtain⟨z,z1,z2,z3,z4⟩:=qw q;exact⟨z,by lia,z2,z4⟩
 intro i j hi FC hj;unfold Kr;rw[mI (by lia),mI (by lia)];by_cases ci:s'<=i/\i<s'+r.size
 ·rw[if_pos ci];by_cases cj:s'<=j/\j<s'+r.size
  ·rw[if_pos cj];exact hs _ _ (by lia) (by lia)
  ·rw[if_neg cj];obtain⟨z,z1,z2,z3⟩:=mid (i-s') (by lia);rw[z3];by_cases hz:z<sb
   ·exact Int.le_trans (SX z (sb-1) (by lia) (by lia) (by lia)) (F2 j (by lia) hj)
   ·exact SY z j (by lia) (by lia) hj
 ·rw[if_neg ci];by_cases cj:s'<=j/\j<s'+r.size
  ·rw[if_pos cj];obtain⟨z,z1,z2,z3⟩:=mid (j-s') (by lia);rw[z3];by_cases hz:z<sb
   ·exact SX i z hi (by lia) hz
   ·exact Int.le_trans (F1 i hi (by lia)) (SY sb z (by lia) (by lia) (by lia))
  ·rw[if_neg cj];by_cases c1:i<s'
   ·by_cases c2:j<s'
    ·exact SX i j hi FC (by lia)
    ·exact Int.le_trans (F1 i hi c1) (SY sb j (by lia) (by lia) hj)
   ·exact SY i j (by lia) FC hj
end
theorem yj{σ:Type}{M:Model}{A:aE}{E:ae->af->Prop}{s:af}{x:σ}{Q:PUnit->σ->Prop}{st:σ}(h:Q ⟨⟩ x):wpS M A E s (set x:StateT σ Sem PUnit) Q st:=by
 unfold wpS;exact aK ⟨rfl,h⟩
section
variable{prog:aF}{w:aD}{A:aE}{E:ae->af->Prop}{s:af}{κ:SortKind}{D:ah->Prop}{LT:ah->ah->Bool}{R:ah->Int}
noncomputable def gX(p:Array (Nat×Nat×Nat))(i sa na nb pw:Nat):Array (Nat×Nat×Nat):=(p.setIfInBounds i (sa,na+nb,pw)).eraseIdxIfInBounds (i+1)
theorem yJ(C:Cmp prog w A s κ D LT)(K:Rk D LT R){st:aJ}{i sa na pw sb nb LJ:Nat}{Q:Bool->aJ->Prop}(hk:kindOf st=κ)(hf:failedOf st=none)(Da:∀x∈(ag st).toList,D x)
  (h1:(a9 st)[i]? = some (sa,na,pw)) (h2:(a9 st)[i+1]? = some (sb,nb,LJ)) (HW:sb=sa+na) (LD:1<=na) (LF:1<=nb) (M_:sb+nb<=(ag st).size)
  (SX:Seg R (ag st) sa na) (SY:Seg R (ag st) sb nb)
  (h:∀st',kindOf st'=κ->failedOf st'=none->a9 st'=gX (a9 st) i sa na nb pw->(ag st').Perm (ag st)->(∀j,(j<sa\/sb+nb<=j)->at' (ag st') j=at' (ag st) j)->Seg R (ag st') sa (na+nb)->Q true st') :
  wpS (ao prog w) A E s (mergeAt' i) Q st:=by
 have dm:∀j,j<(ag st).size->D (at' (ag st) j):=λj hj=>Da _ (jZ hj)
 have rk:∀x y,x<(ag st).size->y<(ag st).size->LT (at' (ag st) x) (at' (ag st) y)=decide (Kr R (ag st) x<Kr R (ag st) y):=λx y hx hy=>K.rk _ _ (dm x hx) (dm y hy)
 have SX':∀i j,sa<=i->i<=j->j<sb->Kr R (ag st) i<=Kr R (ag st) j:=λi j a b c=>by
  have:=SX (i-sa) (j-sa) (by lia) (by lia)
  rwa[show sa+(i-sa)=i by lia,show sa+(j-sa)=j by lia]at this
 have SY':∀i j,sb<=i->i<=j->j<sb+nb->Kr R (ag st) i<=Kr R (ag st) j:=λi j a b c=>by
  have:=SY (i-sb) (j-sb) (by lia) (by lia)
  rwa[show sb+(i-sb)=i by lia,show sb+(j-sb)=j by lia]at this
 have W:=C.wo;unfold mergeAt';refine av (wpS_get ?_);rw[h1,h2];dsimp only;refine av (yj ?_);refine av (qH (qo (show sb<(ag st).size by lia)) ?_);refine av (hJ C (by exact hk) (dm sb (by lia)) (λj=>at' (ag st) (sa+j)) (λj hj=>⟨qo (show sa+j<(ag st).size by lia),dm _ (by lia)⟩) (by lia) ?_ ?_)
 ·intro i j FC hj hb;unfold bey at hb ⊢;simp only[bD,if_false]at hb ⊢;rw[rk _ _ (by lia) (by lia)]at hb ⊢;have:=SX' (sa+i) (sa+j) (by lia) (by lia) (by lia);simp only[bL,decide_eq_false_iff_not]at hb ⊢;lia
 intro k HU hk2 hk3;dsimp only;have F1:∀j,sa<=j->j<sa+k->Kr R (ag st) j<=Kr R (ag st) sb:=λj a b=>by
  have:=hk2 (j-sa) (by lia);unfold bey at this;simp only[bD,if_false]at this;rw[show sa+(j-sa)=j by lia,rk _ _ (by lia) (by lia)]at this;simp only[bL,decide_eq_false_iff_not]at this;lia
 have F1':∀j,sa+k<=j->j<sb->Kr R (ag st) sb<Kr R (ag st) j:=λj a b=>by
  have:=hk3 (j-sa) (by lia) (by lia);unfold bey at this;simp only[bD,if_false]at this;rw[show sa+(j-sa)=j by lia,rk _ _ (by lia) (by lia)]at this;simp only[Bool.not_eq_false',decide_eq_true_eq]at this;lia
 by_cases e1:(na-k==0)=true
 ·rw[if_pos e1];have Jh:na-k=0:=by simpa using e1
  refine aA (h _ hk hf rfl (Array.Perm.refl _) (λ_ _=>rfl) ?_);intro x y Hi hy;show Kr R (ag st) (sa+x)<=Kr R (ag st) (sa+y);by_cases c:y<na
  ·exact SX x y Hi c
  ·by_cases c2:x<na
   ·exact Int.le_trans (F1 _ (by lia) (by lia)) (SY' sb _ (by lia) (by lia) (by lia))
   ·exact SY' _ _ (by lia) (by lia) (by lia)
 rw[if_neg e1];have Jh:na-k≠0:=by simpa using e1
 rw[show sa+k+(na-k)-1=sb-1 by lia];refine av (qH (qo (show sb-1<(ag st).size by lia)) ?_);refine av (hJ C (by exact hk) (dm (sb-1) (by lia)) (λj=>at' (ag st) (sb+j)) (λj hj=>⟨qo (show sb+j<(ag st).size by lia),dm _ (by lia)⟩) (by lia) ?_ ?_)
 ·intro i j FC hj hb;unfold bey at hb ⊢;simp only[if_true]at hb ⊢;rw[rk _ _ (by lia) (by lia)]at hb ⊢;have:=SY' (sb+i) (sb+j) (by lia) (by lia) (by lia);simp only[decide_eq_true_eq]at hb ⊢;lia
 intro m hm1 hm2 hm3;dsimp only;have F2:∀j,sb<=j->j<sb+m->Kr R (ag st) j<Kr R (ag st) (sb-1):=λj a b=>by
  have:=hm2 (j-sb) (by lia);unfold bey at this;simp only[if_true]at this;rw[show sb+(j-sb)=j by lia,rk _ _ (by lia) (by lia)]at this
  simpa using this
 have F2':∀j,sb+m<=j->j<sb+nb->Kr R (ag st) (sb-1)<=Kr R (ag st) j:=λj a b=>by
  have:=hm3 (j-sb) (by lia) (by lia);unfold bey at this;simp only[if_true]at this;rw[show sb+(j-sb)=j by lia,rk _ _ (by lia) (by lia)]at this;simp only[decide_eq_false_iff_not]at this;lia
 by_cases e2:(m==0)=true
 ·exfalso;have Ji:m=0:=by simpa using e2
  have a1:=F1' (sb-1) (by lia) (by lia);have a2:=F2' sb (by lia) (by lia);lia
 rw[if_neg e2];have Ji:m≠0:=by simpa using e2
 have sx:((ag st).extract (sa+k) sb).size=na-k:=by rw[Array.size_extract];lia
 have sy:((ag st).extract sb (sb+m)).size=m:=by rw[Array.size_extract];lia
 have ax:∀j,j<na-k->at' ((ag st).extract (sa+k) sb) j=at' (ag st) (sa+k+j):=λj hj=>rC (by lia) (by lia)
 have ay:∀j,j<m->at' ((ag st).extract sb (sb+m)) j=at' (ag st) (sb+j):=λj hj=>rC (by lia) (by lia)
 have srt:∀(z:Array ah) (o:Nat),(∀j,j<z.size->o+j<(ag st).size/\at' z j=at' (ag st) (o+j))->(∀i j,i<=j->j<z.size->Kr R (ag st) (o+i)<=Kr R (ag st) (o+j))->Srt LT z.toList:=λz o hz hs=>by
  unfold Srt;rw[List.pairwise_iff_getElem];intro i j hi hj FC;rw[ba]at hi hj;have b1:=qo hi;have b2:=qo hj;rw[Array.getElem?_eq_getElem hi]at b1;rw[Array.getElem?_eq_getElem hj]at b2;injection b1 with b1
  injection b2 with b2
  rw[Array.getElem_toList,Array.getElem_toList,b1,b2,(hz i hi).2,(hz j hj).2,rk _ _ (hz j hj).1 (hz i hi).1];have:=hs i j (by lia) hj;simp only[decide_eq_false_iff_not];lia
 have Sx:Srt LT ((ag st).extract (sa+k) sb).toList:=srt _ (sa+k) (λj hj=>⟨by lia,ax j (by lia)⟩) (λi j FC hj=>SX' _ _ (by lia) (by lia) (by lia));have Sy:Srt LT ((ag st).extract sb (sb+m)).toList:=srt _ sb (λj hj=>⟨by lia,ay j (by lia)⟩) (λi j FC hj=>SY' _ _ (by lia) (by lia) (by lia));have h0:LT (at' ((ag st).extract sb (sb+m)) 0) (at' ((ag st).extract (sa+k) sb) 0)=true:=by
  rw[ax 0 (by lia),ay 0 (by lia),rk _ _ (by lia) (by lia)];exact decide_eq_true (F1' _ (by lia) (by lia))
 have hl:∀j,j<((ag st).extract sb (sb+m)).size->LT (at' ((ag st).extract sb (sb+m)) j) (at' ((ag st).extract (sa+k) sb) (((ag st).extract (sa+k) sb).size-1))=true:=λj hj=>by
  rw[ax _ (by lia),ay j (by lia),sx,rk _ _ (by lia) (by lia),show sa+k+(na-k-1)=sb-1 by lia];exact decide_eq_true (F2 _ (by lia) (by lia))
 have Dx:∀j,j<((ag st).extract (sa+k) sb).size->D (at' ((ag st).extract (sa+k) sb) j):=λj hj=>by
  rw[ax j (by lia)];exact dm _ (by lia)
 have Dy:∀j,j<((ag st).extract sb (sb+m)).size->D (at' ((ag st).extract sb (sb+m)) j):=λj hj=>by
  rw[ay j (by lia)];exact dm _ (by lia)
 have fin:∀r g,Mg LT ((ag st).extract (sa+k) sb) ((ag st).extract sb (sb+m)) r->wpS (ao prog w) A E s (do
   modify λs=>setArr s (putAll (sa+k) r.toList 0 (ag s))
   return (failedOf (<-get)).isNone) Q (setG (setPending st (gX (a9 st) i sa na nb pw)) g):=λr g M=>by
  refine av (wpS_modify ?_);refine av (wpS_get ?_);refine aA ?_;have hp:=pP (by lia) (by lia) (by lia) rfl rfl M.1;have e3:(failedOf (setArr (setG (setPending st (gX (a9 st) i sa na nb pw)) g) (putAll (sa+k) r.toList 0 (ag st)))).isNone=true:=by
   show (failedOf st).isNone=true;rw[hf];rfl
  show Q (failedOf (setArr (setG (setPending st (gX (a9 st) i sa na nb pw)) g) (putAll (sa+k) r.toList 0 (ag st)))).isNone _;rw[e3];refine h _ hk hf rfl hp.2 (λj hj=>?_) ?_
  ·show at' (putAll (sa+k) r.toList 0 (ag st)) j=_;rw[mI (by lia),if_neg (by lia)]
  ·have dr:∀j,j<r.size->D (at' r j):=λj hj=>by
    have:=M.1.mem_iff.mp (jZ hj);rw[List.mem_append]at this;rcases this with q|q
    ·obtain⟨z,z1,z2,z3,z4⟩:=qw q;rw[z4];exact dm z z3
    ·obtain⟨z,z1,z2,z3,z4⟩:=qw q;rw[z4];exact dm z z3
   have:=EX (R:=R) (a:=ag st) (sa:=sa) (s':=sa+k) (sb:=sb) (e':=sb+m) (en:=sb+nb) (by lia) (by lia) (by lia) (by lia) M_ SX' SY' F1 (by lia) F2' rfl rfl M.1 (λx y Hi hy=>by
    have:=dF W M.2 Hi hy;rw[K.rk _ _ (dr _ hy) (dr _ (by lia))]at this;simp only[decide_eq_false_iff_not]at this;unfold Kr;lia)
   intro x y Hi hy;exact this _ _ (by lia) (by lia) (by lia)
 by_cases e4:na-k<=m
 ·rw[if_pos e4];exact av (Bv C (by exact hk) Dx Dy Sx Sy (show 0<((ag st).extract (sa+k) sb).size by lia) (show 0<((ag st).extract sb (sb+m)).size by lia) h0 hl fin)
 ·rw[if_neg e4];exact av (wc C (by exact hk) Dx Dy Sx Sy (show 0<((ag st).extract (sa+k) sb).size by lia) (show 0<((ag st).extract sb (sb+m)).size by lia) h0 hl fin)
end
noncomputable def pr(x:Nat×Nat×Nat):Nat×Nat:=(x.1,x.2.1)
def Runs(R:ah->Int)(a:Array ah):Nat->List (Nat×Nat)->Nat->Prop
 |b,[],e=>b=e
 |b,x::l,e=>x.1=b/\1<=x.2/\Seg R a b x.2/\Runs R a (b+x.2) l e
section
variable{R:ah->Int}{a a':Array ah}
theorem Runs.le:∀{l:List (Nat×Nat)}{b e:Nat},Runs R a b l e->b+l.length<=e
 | [],b,e,h=>by simp only[List.length_nil];exact Nat.le_of_eq h
 |x::l,b,e,h=>by
  have:=h.2.2.2.le;have:=h.2.1;simp only[bA];lia
theorem Seg.congr{b n:Nat}(h:Seg R a b n)(hc:∀j,b<=j->j<b+n->at' a' j=at' a j):Seg R a' b n:=λi j FC hj=>by
 unfold Kr;rw[hc _ (by lia) (by lia),hc _ (by lia) (by lia)];exact h i j FC hj
theorem Runs.congr:∀{l:List (Nat×Nat)}{b e:Nat},Runs R a b l e->(∀j,b<=j->j<e->at' a' j=at' a j)->Runs R a' b l e
 | [],b,e,h,_=>h
 |x::l,b,e,h,hc=>by
  have:=h.2.2.2.le;exact⟨h.1,h.2.1,h.2.2.1.congr λj h1 h2=>hc j h1 (by lia),h.2.2.2.congr λj h1 h2=>hc j (by lia) h2⟩
theorem Runs.append:∀{l l':List (Nat×Nat)}{b e:Nat},Runs R a b (l++l') e↔∃m,Runs R a b l m/\Runs R a m l' e
 | [],l',b,e=>⟨λh=>⟨b,rfl,h⟩,λ⟨m,h1,h2⟩=>by cases h1;exact h2⟩
 |x::l,l',b,e=>by
  constructor
  ·rintro⟨h1,h2,h3,h4⟩;obtain⟨m,h5,h6⟩:=Runs.append.mp h4;exact⟨m,⟨h1,h2,h3,h5⟩,h6⟩
  ·rintro⟨m,⟨h1,h2,h3,h4⟩,h5⟩;exact⟨h1,h2,h3,Runs.append.mpr ⟨m,h4,h5⟩⟩
theorem Fd{α:Type}{l:List α}{i:Nat}{x y:α}(h1:l[i]? = some x)(h2:l[i+1]? = some y):∃u v,l=u++x::y::v/\u.length=i:=by
 obtain⟨hl,e2⟩:=List.getElem?_eq_some_iff.mp h2;obtain⟨M',e1⟩:=List.getElem?_eq_some_iff.mp h1;refine⟨l.take i,l.drop (i+2),?_,by rw[ef];lia⟩
 conv=>lhs;rw[<-bX i l]
 rw[fz M',fz hl,e1,e2]
theorem DA{p:Array (Nat×Nat×Nat)}{u v:List (Nat×Nat×Nat)}{x y:Nat×Nat×Nat}{sa na nb pw:Nat}(h:p.toList=u++x::y::v):(gX p u.length sa na nb pw).toList=u++(sa,na+nb,pw)::v:=by
 unfold gX;have hs:p.size=u.length+v.length+2:=by rw[<-ba,h];simp;lia
 rw[Array.eraseIdxIfInBounds_eq,dif_pos (by rw[Array.size_setIfInBounds];lia),Array.toList_eraseIdx,Array.toList_setIfInBounds,h];rw[List.set_append_right _ _ (aG _),Nat.sub_self];rw[List.eraseIdx_append_of_length_le (by lia)];rw[show u.length+1-u.length=1 by lia]
 rfl
end
structure SR(κ:SortKind)(R:ah->Int)(a₁:Array ah)(lo:Nat)(st:aJ):Prop where
 kd:kindOf st=κ
 fl:failedOf st=none
 pm:(ag st).Perm a₁
 rn:Runs R (ag st) 0 ((a9 st).toList.map pr) lo
 le:lo<=a₁.size
section
variable{prog:aF}{w:aD}{A:aE}{E:ae->af->Prop}{s:af}{κ:SortKind}{D:ah->Prop}{LT:ah->ah->Bool}{R:ah->Int}{a₁:Array ah}{lo:Nat}
theorem SR.sz{st:aJ}(h:SR κ R a₁ lo st):(ag st).size=a₁.size:=h.pm.size_eq
theorem SR.dom{st:aJ}(h:SR κ R a₁ lo st)(Da:∀x∈a₁.toList,D x):∀x∈(ag st).toList,D x:=λx hx=>Da x ((Array.perm_iff_toList_perm.mp h.pm).mem_iff.mp hx)
theorem SR.merge(C:Cmp prog w A s κ D LT)(K:Rk D LT R)(Da:∀x∈a₁.toList,D x){st:aJ}{i:Nat}{Q:Bool->aJ->Prop}(H:SR κ R a₁ lo st)(hi:i+1<(a9 st).size)
  (h:∀st',SR κ R a₁ lo st'->(∀j,lo<=j->at' (ag st') j=at' (ag st) j)->(a9 st').size+1=(a9 st).size->Q true st') :
  wpS (ao prog w) A E s (mergeAt' i) Q st:=by
 obtain⟨⟨sa,na,pw⟩,hx⟩:∃x,(a9 st)[i]? = some x:=⟨_,Array.getElem?_eq_getElem (by lia)⟩
 obtain⟨⟨sb,nb,LJ⟩,hy⟩:∃x,(a9 st)[i+1]? = some x:=⟨_,Array.getElem?_eq_getElem hi⟩
 obtain⟨u,v,hl,hu⟩:=Fd (l:=(a9 st).toList) (by rw[Array.getElem?_toList];exact hx) (by rw[Array.getElem?_toList];exact hy);have rn:=H.rn;rw[hl,List.map_append]at rn;obtain⟨m,r1,r2⟩:=Runs.append.mp rn;obtain⟨q1,q2,q3,q4,q5,q6,q7⟩:=r2;have q1:sa=m:=q1;have q2:1<=na:=q2;have q3:Seg R (ag st) m na:=q3;have q4:sb=m+na:=q4;have q5:1<=nb:=q5;have q6:Seg R (ag st) (m+na) nb:=q6;have q7:Runs R (ag st) (m+na+nb) (v.map pr) lo:=q7;have hle:=q7.le;have Na:=r1.le;have Gx:=H.le;have hz:=H.sz;subst q1;refine yJ C K H.kd H.fl (H.dom Da) hx hy q4 q2 q5 (by lia) q3 (by rw[q4];exact q6) λst' k1 k2 k3 k4 k5 k6=>?_
 have hp:(a9 st').toList=u++(sa,na+nb,pw)::v:=by rw[k3,<-hu];exact DA hl
 refine h st' ⟨k1,k2,k4.trans H.pm,?_,H.le⟩ (λj hj=>k5 j (.inr (by lia))) ?_
 ·rw[hp,List.map_append];refine Runs.append.mpr ⟨sa,r1.congr λj _ hj=>k5 j (.inl hj),rfl,show 1<=na+nb by lia,k6,?_⟩;show Runs R (ag st') (sa+(na+nb)) (v.map pr) lo;rw[<-Nat.add_assoc];exact q7.congr λj hj _=>k5 j (.inr (by lia))
 ·rw[<-ba,hp,<-ba,hl];simp;lia
end
section
variable{prog:aF}{w:aD}{A:aE}{E:ae->af->Prop}{s:af}{κ:SortKind}{D:ah->Prop}{LT:ah->ah->Bool}{R:ah->Int}{a₁:Array ah}{lo:Nat}
theorem oC{p:Array (Nat×Nat×Nat)}{i pw:Nat}:(p.modify i λx=>(x.1,x.2.1,pw)).toList.map pr=p.toList.map pr:=by
 apply List.ext_getElem?;intro k;rw[List.getElem?_map,List.getElem?_map,Array.getElem?_toList,Array.getElem?_toList,Array.getElem?_modify];split
 ·rename_i e
  subst e;cases p[i]? <;> rfl
 ·rfl
theorem SR.pend{st:aJ}{p:Array (Nat×Nat×Nat)}(H:SR κ R a₁ lo st)(hp:p.toList.map pr=(a9 st).toList.map pr):SR κ R a₁ lo (setPending st p):=
 ⟨H.kd,H.fl,H.pm,by show Runs R (ag st) 0 (p.toList.map pr) lo;rw[hp];exact H.rn,H.le⟩
theorem SR.push{st:aJ}{n:Nat}(H:SR κ R a₁ lo st)(h1:1<=n)(h2:lo+n<=a₁.size)(hs:Seg R (ag st) lo n):SR κ R a₁ (lo+n) (setPending st ((a9 st).push (lo,n,0))):=
 ⟨H.kd,H.fl,H.pm,by
  show Runs R (ag st) 0 (((a9 st).push (lo,n,0)).toList.map pr) (lo+n);rw[Array.toList_push,List.map_append];exact Runs.append.mpr ⟨lo,H.rn,rfl,h1,hs,rfl⟩,h2⟩
theorem SR.base{st:aJ}(H:SR κ R a₁ lo st):SB κ (a9 st) (ag st) lo st:=⟨H.kd,H.fl,rfl,Array.Perm.refl _,λ_ _=>rfl⟩
theorem SR.back{st st':aJ}(H:SR κ R a₁ lo st)(B:SB κ (a9 st) (ag st) lo st'):SR κ R a₁ lo st':=
 ⟨B.kd,B.fl,B.pm.trans H.pm,by rw[B.pn];exact H.rn.congr λj _ hj=>B.lw j hj,H.le⟩
theorem wC(C:Cmp prog w A s κ D LT)(K:Rk D LT R)(Da:∀x∈a₁.toList,D x){st:aJ}{Q:Unit->aJ->Prop}(hk:kindOf st=κ)(hf:failedOf st=none)(hp:a9 st = #[])(ha:ag st=a₁)(h2:2<=a₁.size)
  (h:∀st',(ag st').Perm a₁->failedOf st'=none->Seg R (ag st') 0 a₁.size->Q () st'):wpS (ao prog w) A E s sortRuns' Q st:=by
 have H0:SR κ R a₁ 0 st:=⟨hk,hf,by rw[ha],by rw[hp];rfl,by lia⟩
 rw[sortRuns'_eq];refine av (wpS_get ?_);dsimp only;rw[ha];generalize minRun' a₁.size a₁.size 0=mr;refine av (wpS_mono (wpS_forRange
  (I:=λx c st'=>∃lo,c=(none,lo)/\SR κ R a₁ lo st'/\x<=lo)
  (Q:=λc st'=>c=(none,a₁.size)/\SR κ R a₁ a₁.size st') ?step ?fin ⟨0,rfl,H0,aG _⟩) ?post)
 case fin=>
  rintro c st' ⟨lo,rfl,H,hx⟩;have:=H.le;have:lo=a₁.size:=by lia
  subst this;exact⟨rfl,H⟩
 case step=>
  rintro x c st' _ hx ⟨lo,rfl,H,Ox⟩;dsimp only;have hle:=H.le;by_cases e:lo >= a₁.size
  ·rw[if_pos e];have:lo=a₁.size:=by lia
   subst this;exact aA ⟨rfl,H⟩
  rw[if_neg e];have hz:=H.sz;refine av (AH C K (H.dom Da) (by lia) (by lia) H.base λm Hd B2 m1 m2 S2=>?_);dsimp only;by_cases e3:m<mr
  ·rw[if_pos e3];refine av (wpS_lift (wpAny_rule ⟨rfl,?_⟩));by_cases e4:m<=min (a₁.size-lo) mr
   ·refine av (xk C K (H.dom Da) (by lia) e4 B2 S2 λGg B3 S3=>?_);simp only[Bool.not_true,bD,if_false];have Hn:=H.back B3;refine av (wpS_get ?_);cases hb:(a9 Gg).back? with
    |none=>
     dsimp only;exact av (wpS_modify (aA ⟨_,rfl,Hn.push (by lia) (by lia) S3,by lia⟩))
    |some q=>
     obtain⟨s1,k1,w1⟩:=q;dsimp only;generalize power' _ _ _ _=pw;refine av (wpS_mono (wpS_forRange (I:=λ_ c st'=>c=(none,())/\SR κ R a₁ lo st'/\∀j,lo<=j->at' (ag st') j=at' (ag Gg) j)
      (Q:=λc st'=>c=(none,())/\SR κ R a₁ lo st'/\∀j,lo<=j->at' (ag st') j=at' (ag Gg) j) ?_ (λ_ _ h=>h) ⟨rfl,Hn,λ_ _=>rfl⟩) ?_)
     ·rintro y c st8 _ _ ⟨rfl,H8,c8⟩;refine av (wpS_get ?_);by_cases e1:(a9 st8).size>1
      ·rw[if_pos e1];obtain⟨⟨u1,u2,G8⟩,hy⟩:∃x,(a9 st8)[(a9 st8).size-2]? = some x:=⟨_,Array.getElem?_eq_getElem (by lia)⟩
       rw[hy];dsimp only;by_cases e2:G8<=pw
       ·rw[if_pos e2];exact aA ⟨rfl,H8,c8⟩
       ·rw[if_neg e2];refine av (H8.merge C K Da (by lia) λNb H9 c9 _=>?_);exact aA ⟨rfl,H9,λj hj=>(c9 j hj).trans (c8 j hj)⟩
      ·rw[if_neg e1];exact aA ⟨rfl,H8,c8⟩
     ·rintro c st8 ⟨rfl,H8,c8⟩;dsimp only;refine av (wpS_modify ?_);exact av (wpS_modify (aA ⟨_,rfl,(H8.pend oC).push (by lia) (by lia) (S3.congr λj hj _=>c8 j hj),by lia⟩))
   ·exfalso;lia
  ·rw[if_neg e3];have Hn:=H.back B2;refine av (wpS_get ?_);cases hb:(a9 Hd).back? with
   |none=>
    dsimp only;exact av (wpS_modify (aA ⟨_,rfl,Hn.push (m1) (by lia) S2,by lia⟩))
   |some q=>
    obtain⟨s1,k1,w1⟩:=q;dsimp only;generalize power' _ _ _ _=pw;refine av (wpS_mono (wpS_forRange (I:=λ_ c st'=>c=(none,())/\SR κ R a₁ lo st'/\∀j,lo<=j->at' (ag st') j=at' (ag Hd) j)
     (Q:=λc st'=>c=(none,())/\SR κ R a₁ lo st'/\∀j,lo<=j->at' (ag st') j=at' (ag Hd) j) ?_ (λ_ _ h=>h) ⟨rfl,Hn,λ_ _=>rfl⟩) ?_)
    ·rintro y c st8 _ _ ⟨rfl,H8,c8⟩;refine av (wpS_get ?_);by_cases e1:(a9 st8).size>1
     ·rw[if_pos e1];obtain⟨⟨u1,u2,G8⟩,hy⟩:∃x,(a9 st8)[(a9 st8).size-2]? = some x:=⟨_,Array.getElem?_eq_getElem (by lia)⟩
      rw[hy];dsimp only;by_cases e2:G8<=pw
      ·rw[if_pos e2];exact aA ⟨rfl,H8,c8⟩
      ·rw[if_neg e2];refine av (H8.merge C K Da (by lia) λNb H9 c9 _=>?_);exact aA ⟨rfl,H9,λj hj=>(c9 j hj).trans (c8 j hj)⟩
     ·rw[if_neg e1];exact aA ⟨rfl,H8,c8⟩
    ·rintro c st8 ⟨rfl,H8,c8⟩;dsimp only;refine av (wpS_modify ?_);exact av (wpS_modify (aA ⟨_,rfl,(H8.pend oC).push (m1) (by lia) (S2.congr λj hj _=>c8 j hj),by lia⟩))
 case post=>
  rintro c st' ⟨rfl,H⟩;dsimp only;have hl:=H.rn.le;rw[aV,ba]at hl;refine av (wpS_mono (wpS_forRange (I:=λx c st''=>c=(none,())/\SR κ R a₁ a₁.size st''/\((a9 st'').size<=1\/(a9 st'').size+x<=a₁.size))
   (Q:=λc st''=>c=(none,())/\SR κ R a₁ a₁.size st''/\(a9 st'').size<=1) ?_ ?_ ⟨rfl,H,.inr (by lia)⟩) ?_)
  ·rintro x c Gg _ hx ⟨rfl,H3,c3⟩;refine av (wpS_get ?_);by_cases e1:(a9 Gg).size<=1
   ·rw[if_pos e1];exact aA ⟨rfl,H3,e1⟩
   rw[if_neg e1];refine av (H3.merge C K Da ?_ λOy H4 c4 z4=>?_)
   ·(repeat' split)<;>lia
   ·exact aA ⟨rfl,H4,by lia⟩
  ·rintro c Gg ⟨rfl,H3,c3⟩;exact⟨rfl,H3,by lia⟩
  ·rintro c Gg ⟨rfl,H3,c3⟩;refine aA (h Gg H3.pm H3.fl ?_);have rn:=H3.rn;generalize hq:(a9 Gg).toList.map pr=q at rn;have Nc:q.length<=1:=by rw[<-hq,aV,ba];exact c3
   match q,rn,Nc with
   | [],rn,_=>exact absurd rn (by show ¬ (0=a₁.size);lia)
   | [x],rn,_=>
    obtain⟨_,_,r3,r4⟩:=rn;have r4:0+x.2=a₁.size:=r4;rw[<-r4,Nat.zero_add];exact r3
end
theorem oS{α:Type}{p q:α->Bool}{a:α}:∀{l:List α},(∀x∈l,p x=true->q x=true)->a∈l->p a=false->q a=true->l.countP p<l.countP q
 | [],_,h,_,_=>nomatch h
 |x::l,hi,h,h1,h2=>by
  rw[List.countP_cons,List.countP_cons];have le:=List.countP_mono_left (l:=l) (p:=p) (q:=q) λy hy=>hi y (aR _ hy)
  rcases aI.mp h with e|h
  ·subst e;rw[h1,h2];simp only[bD,if_false,if_true];lia
  ·have:=oS (λy hy=>hi y (aR _ hy)) h h1 h2;have:=hi x aM;cases e:p x with
   |true=>rw[this e];simp only[if_true];lia
   |false=>simp only[bD,if_false];split<;>lia
noncomputable def kf(LT:ah->ah->Bool)(l:List ah)(x:ah):Int:=(l.countP λz=>LT z x:Nat)
theorem Wo.rank{LT:ah->ah->Bool}(W:Wo LT)(l:List ah):Rk (·∈l) LT (kf LT l):=⟨λx y hx hy=>by
 unfold kf;cases e:LT x y with
 |true=>
  have:=oS (p:=λz=>LT z x) (q:=λz=>LT z y) (a:=x) (λz _ q=>W.lt_le (x:=z) (y:=x) (z:=y) q (W.asym x y e)) hx (W.irr x) e;exact(decide_eq_true (by lia)).symm
 |false=>
  have:=List.countP_mono_left (l:=l) (p:=λz=>LT z y) (q:=λz=>LT z x) λz _ q=>W.lt_le (x:=z) (y:=y) (z:=x) q e
  exact(decide_eq_false (by lia)).symm⟩
noncomputable def ltL:List Int->List Int->Bool
 | [],[]=>false
 | [],_::_=>true
 |_::_,[]=>false
 |a::x,b::y=>if a=b then ltL x y else decide (a<b)
theorem iG:∀{x y:List Int},ltL x y=true->ltL y x=false
 | [],[],h=>nomatch h
 | [],_::_,_=>rfl
 |_::_,[],h=>nomatch h
 |a::x,b::y,h=>by
  unfold ltL at h ⊢;by_cases e:a=b
  ·rw[if_pos e]at h;rw[if_pos e.symm];exact iG h
  ·rw[if_neg e]at h;have:=of_decide_eq_true h;rw[if_neg (λz=>e z.symm)];exact decide_eq_false (by lia)
theorem je:∀{x y z:List Int},ltL y x=false->ltL z y=false->ltL z x=false
 | [],_,[],_,_=>rfl
 |_::_,[],[],h,_=>nomatch h
 |_::_,_::_,[],_,h=>nomatch h
 | [],_,_::_,_,_=>rfl
 |_::_,[],_::_,h,_=>nomatch h
 |a::x,b::y,c::z,h1,h2=>by
  unfold ltL at h1 h2 ⊢;by_cases e1:b=a
  ·rw[if_pos e1]at h1;by_cases e2:c=b
   ·rw[if_pos e2]at h2;rw[if_pos (e2.trans e1)];exact je h1 h2
   ·rw[if_neg e2]at h2;have:=of_decide_eq_false h2;rw[if_neg (λq=>e2 (q.trans e1.symm))];exact decide_eq_false (by lia)
  ·rw[if_neg e1]at h1;have q1:=of_decide_eq_false h1;by_cases e2:c=b
   ·rw[if_neg (λq=>e1 (e2.symm.trans q))];exact decide_eq_false (by lia)
   ·rw[if_neg e2]at h2;have q2:=of_decide_eq_false h2;rw[if_neg (by lia)];exact decide_eq_false (by lia)
theorem wJ(f:ah->List Int):Wo λx y=>ltL (f x) (f y):=⟨λ_ _ h=>iG h,λ_ _ _ h1 h2=>je h1 h2⟩
theorem tJ:∀{x y:List Int},ltL x y=false->ltL y x=false->x=y
 | [],[],_,_=>rfl
 | [],_::_,h,_=>nomatch h
 |_::_,[],_,h=>nomatch h
 |a::x,b::y,h1,h2=>by
  unfold ltL at h1 h2;by_cases e:a=b
  ·rw[if_pos e]at h1;rw[if_pos e.symm]at h2;rw[e,tJ h1 h2]
  ·rw[if_neg e]at h1;rw[if_neg (λz=>e z.symm)]at h2;have:=of_decide_eq_false h1;have:=of_decide_eq_false h2;lia
theorem m5:∀x y:List Int,ltL x y=HT.lexLt x y
 | [],[]=>(HT.mS).symm
 | [],_::_=>(HT.oW ..).symm
 |_::_,[]=>(HT.og ..).symm
 |a::x,b::y=>by
  rw[HT.pj,<-m5 x y]
  rfl
section
variable{prog:aF}{w:aD}{A:aE}{E:ae->af->Prop}{s:af}
theorem w_{l b:Addr}{items FE:Array ae}{ns ms:List Int}{Q:Bool->af->Prop}(hl:IsTup s.heap l items)(hb:IsTup s.heap b FE)(hi:bp items.toList ns)(hj:bp FE.toList ms)
  (hu:A.units<cLine) (h:Q (ltL ns ms) s):aq (ao prog w) A (oneLt' true (.ref l) (.ref b)) Q E s:=by
 obtain⟨⟨c1,d1,a1,s1⟩,ho,hc,n,hd⟩:=id hl;obtain⟨⟨c2,d2,a2,s2⟩,Gw,F_,n2,hd2⟩:=id hb;simp only at hc hd F_ hd2;subst hc hd F_ hd2;rw[m5]at h;rw[oneLt'_eq];simp only[if_true];refine au (wpAny_cRoomFor hu ?_);refine au (wpAny_callSpecialIfBound?_slot ⟨_,ho,rfl⟩ PySem.F.slot_tuple_lt (call_meets PySem.F.slot_tuple_lt ⟨_,ho,rfl⟩ PySem.F.entry_tuple_lt (PySem.F.args_tuple_lt_2 _ _) (HT.sS l b items FE n n2 d1 d2 s1 s2 ns ms hi hj) ⟨ho,Gw,?_⟩));exact bQ h
end
end TS
namespace TS
open PySem PySem.W PyProof.Rows
def TupAt(h:Heap)(v:ae)(ns:List Int):Prop:=∃a o items n,v=.ref a/\h.get? a=some o/\o.cls=.type "tuple"/\o.data=.seq items n/\bp items.toList ns
inductive cw(h:Heap):List ae->List (List Int)->Prop
 |nil:cw h [] []
 |cons {v:ae}{vs:List ae}{k:List Int}{ks:List (List Int)}:TupAt h v k->cw h vs ks->cw h (v::vs) (k::ks)
theorem cw.mem{h:Heap}{vs:List ae}{ks:List (List Int)}(t:cw h vs ks):∀v∈vs,∃k,TupAt h v k:=by
 induction t with
 |nil=>intro v hv;cases hv
 |cons a t ih=>
  intro v hv;rcases aI.mp hv with e|hv
  ·subst e;exact⟨_,a⟩
  ·exact ih v hv
section
variable{M:Model}{A:aE}{E:ae->af->Prop}{s:af}
theorem pO{h:Heap}{v:ae}{k:List Int}(t:TupAt h v k):Looks M h (typeOf v) (.type "tuple"):=by
 obtain⟨a,o,items,n,rfl,ho,hc,_⟩:=t;have:Looks M h (typeOf (.ref a)) o.cls:=(Looks.ld ho).andThen .now
 rwa[hc]at this
theorem Cb{vs:List ae}{ks:List (List Int)}(t:cw s.heap vs ks):∀{Q:List (Option ae)->af->Prop},(∀os:List (Option ae),os.map Option.isSome=ks.map (λk=>!k.isEmpty)->Q os s)->aq M A (vs.mapM firstOfTuple') Q E s:=by
 induction t with
 |nil=>intro Q h;rw[List.mapM_nil];exact aK (h [] rfl)
 | @cons v vs k ks a t ih=>
  intro Q h;rw[List.mapM_cons];refine au ?_;rw[kas_first_eq];refine au ((pO a).here ?_);rw[if_neg (by first|decide|simp)];obtain⟨b,o,items,n,rfl,ho,hc,hd,hi⟩:=a;refine au (listItems_at ho hd (aK (au (ih λos e=>aK (h _ ?_)))));rw[aN,e,aN]
  congr 1
  obtain⟨l⟩:=items;cases hi with
  |nil=>rfl
  |cons _ _ _=>rfl
theorem wd{vs:List ae}{ks:List (List Int)}{Q:SortKind->af->Prop}(t:cw s.heap vs ([]::ks))(h:Q oneType' s):aq M A (keyKind' vs.toArray) Q E s:=by
 rw[keyKind'_eq,List.mapM_toArray,map_eq_pure_bind];refine au (au (Cb t λos e=>aK ?_));obtain⟨o,Ip,rfl,eo⟩:∃o Ip,os=o::Ip/\o.isSome=false:=by
  cases os with
  |nil=>cases e
  |cons o Ip=>rw[aN,aN]at e;exact⟨o,Ip,rfl,(List.cons.inj e).1⟩
 obtain rfl:o=none:=by cases o with
  |none=>rfl
  |some _=>cases eo
 rw[if_neg (by simp),if_neg (by simp),oneTypeOnly'_eq,List.mapM_toArray,map_eq_pure_bind];refine au (au (au (kas_mapM (r:=ae.type "tuple") _ (λv hv Q' hq=>by obtain⟨k,a⟩:=t.mem v hv;exact(pO a).here hq) (aK ?_))));have e0:(List.map (λ_=>ae.type "tuple") vs).toArray[0]? = some (ae.type "tuple"):=by
  cases t with
  |cons a t=>simp
 have e1:((List.map (λ_=>ae.type "tuple") vs).toArray.all λx=>x==ae.type "tuple")=true:=by
  simp only[List.all_toArray,List.all_map,cQ];intro _ _
  rfl
 rw[e0];simp only[e1,if_true];exact aK (aK h)
end
section
variable{M:Model}{A:aE}{E:ae->af->Prop}{s:af}
theorem cw.firsts{h:Heap}{vs:List ae}{ks:List (List Int)}(t:cw h vs ks)(GC:∀k∈ks,k≠[]):∃fs,KatTups h vs fs/\fs.length=vs.length/\∀v∈fs,∃i t,v=ae.int i t:=by
 induction t with
 |nil=>exact⟨[],trivial,rfl,λ_ h=>nomatch h⟩
 | @cons v vs k ks a t ih=>
  obtain⟨fs,k1,k2,k3⟩:=ih λk hk=>GC k (aR _ hk)
  obtain⟨b,o,items,n,rfl,ho,hc,hd,hi⟩:=a;obtain⟨l⟩:=items;cases hi with
  |nil=>exact absurd rfl (GC [] aM)
  |cons i t _=>exact⟨.int i t::fs,KatTups.cons ho hc hd rfl k1,by simp[k2],λw hw=>(aI.mp hw).elim (λz=>⟨i,t,z⟩) (k3 w)⟩
theorem kind_all{vs:List ae}{ks:List (List Int)}{Q:SortKind->af->Prop}(t:cw s.heap vs ks)(h1:0<vs.length)(GC:∀k∈ks,k≠[])(h:Q (tuples' true) s):aq M A (keyKind' vs.toArray) Q E s:=by
 obtain⟨fs,k1,k2,k3⟩:=t.firsts GC;refine kat_kind (T:=.type "int") (fs:=fs) k1 (by lia) (λv hv=>?_) (by decide) ?_
 ·obtain⟨i,t,rfl⟩:=k3 v hv;exact Looks.of_pure rfl
 ·have hb:((ae.type "int") != ae.type "tuple")=true:=by decide
  rw[hb];exact h
theorem mQ{prog:aF}{w:aD}{Q:Bool->af->Prop}{fin:Bool}:∀{xs ys:List ae}{ns ms:List Int} (i:Nat),bp xs ns->bp ys ms->fin=decide (xs.length<ys.length)->Q (ltL ns ms) s->KatLex prog w A true fin Q (xs.zip ys) i s
 |_,_,_,_,i,.nil,.nil,hf,h=>kat_nil (by rw[hf];exact h)
 |_,_,_,_,i,.nil,.cons _ _ _,hf,h=>kat_nil (by rw[hf];exact h)
 |_,_,_,_,i,.cons _ _ _,.nil,hf,h=>kat_nil (by rw[hf];exact h)
 |_,_,_,_,i,.cons (vs:=xs) (ns:=ns) a t hx,.cons (vs:=ys) (ns:=ms) b u hy,hf,h=>by
  rw[List.zip_cons_cons];refine kat_cons (SeqAt.EqAt.int_int _ _ _ _ prog w _ _ ?_);unfold ltL at h;by_cases hc:a=b
  ·rw[if_pos hc]at h;rw[show (a==b)=true by simp[hc]];exact kat_yes (mQ (i+1) hx hy (by rw[hf];simp) h)
  ·rw[if_neg hc]at h;rw[show (a==b)=false by simp[hc]];refine kat_no ?_;cases i with
   |zero=>exact oneLt_int h
   |succ i=>exact kat_one _ _ (lt_int h)
end
noncomputable def dw(h:Heap)(x:ah):List Int:=open Classical in if z:∃k,TupAt h x.1 k then z.choose else []
theorem TupAt.keep{h h':Heap}(k:∀b o,h.get? b=some o->h'.get? b=some o){v:ae}{ns:List Int}(t:TupAt h v ns):TupAt h' v ns:=by
 obtain⟨a,o,its,n,e1,e2,e3⟩:=t;exact⟨a,o,its,n,e1,k _ _ e2,e3⟩
theorem cw.keep{h h':Heap}(k:∀b o,h.get? b=some o->h'.get? b=some o){vs:List ae}{ks:List (List Int)}(t:cw h vs ks):cw h' vs ks:=by
 induction t with
 |nil=>exact .nil
 |cons a _ ih=>exact .cons (a.keep k) ih
theorem i5{h:Heap}{x:ah}(z:∃k,TupAt h x.1 k):TupAt h x.1 (dw h x):=by
 unfold dw;rw[dif_pos z];exact z.choose_spec
theorem D9{prog:aF}{w:aD}{A:aE}{s:af}{h0:Heap}{l:List ah}(hk:∀b o,h0.get? b=some o->s.heap.get? b=some o)(hl:∀x∈l,∃k,TupAt h0 x.1 k)(hu:A.units<cLine):Cmp prog w A s oneType' (·∈l) (λx y=>ltL (dw h0 x) (dw h0 y)):=
 ⟨λx y hx hy Q h=>by
  obtain⟨a,o,its,n,e1,e2,e3,e4,e5⟩:=(i5 (hl x hx)).keep hk;obtain⟨a',o',its',n',f1,f2,f3,f4,f5⟩:=(i5 (hl y hy)).keep hk;rw[keyLt'_oneType,e1,f1];exact w_ ⟨o,e2,e3,n,e4⟩ ⟨o',f2,f3,n',f4⟩ e5 f5 hu h,
  λ_ _ h=>iG h,λ_ _ _ h1 h2=>je h1 h2⟩
theorem vh{prog:aF}{w:aD}{A:aE}{s:af}{h0:Heap}{l:List ah}(hk:∀b o,h0.get? b=some o->s.heap.get? b=some o)(hl:∀x∈l,∃k,TupAt h0 x.1 k):Cmp prog w A s (tuples' true) (·∈l) (λx y=>ltL (dw h0 x) (dw h0 y)):=
 ⟨λx y hx hy Q h=>by
  obtain⟨a,o,its,n,e1,e2,e3,e4,e5⟩:=(i5 (hl x hx)).keep hk;obtain⟨a',o',its',n',f1,f2,f3,f4,f5⟩:=(i5 (hl y hy)).keep hk;rw[e1,f1];refine kat_lt e2 e4 f2 f4 (mQ 0 e5 f5 ?_ h);rw[ba,ba],
  λ_ _ h=>iG h,λ_ _ _ h1 h2=>je h1 h2⟩
end TS
namespace TS
open PySem PySem.W PySem.Spec PyProof.Rows
theorem rq{h:Heap}:∀(l:List ah),(∀x∈l,x.1=x.2/\∃k,TupAt h x.1 k)->cw h (l.map (·.2)) (l.map (dw h))
 | [],_=>.nil
 |x::l,z=>.cons (by have:=z x aM;show TupAt h x.2 _;rw[<-this.1];exact i5 this.2) (rq l λy hy=>z y (aR _ hy))
theorem yb{LT:ah->ah->Bool}{R:ah->Int}{a:Array ah}(S:Seg R a 0 a.size)(K:∀x∈a.toList,∀y∈a.toList,LT x y=decide (R x<R y)):a.toList.Pairwise λx y=>LT y x=false:=by
 rw[List.pairwise_iff_getElem];intro i j hi hj FC;rw[K _ (dH hj) _ (dH hi)];rw[ba]at hi hj;have:=S i j (by lia) hj;unfold Kr at this;have e1:=qo hi;have e2:=qo hj;rw[Array.getElem?_eq_getElem hi]at e1;rw[Array.getElem?_eq_getElem hj]at e2;injection e1 with e1
 injection e2 with e2
 rw[Nat.zero_add,Nat.zero_add,<-e1,<-e2]at this;rw[Array.getElem_toList,Array.getElem_toList];exact decide_eq_false (by lia)
section
variable{prog:aF}{w:aD}{A:aE}{E:ae->af->Prop}{s:af}
theorem xw{h0:Heap}{a:Addr}{vs:List ae}{ks:List (List Int)}{P:Fin->af->Prop}(Ga:s.heap.get? a=some (aQ "list" vs.toArray 0))(keep:∀b o,h0.get? b=some o->s.heap.get? b=some o)(K2:∀b o,h0.get? b=some o->b≠a)(h2:2<=vs.length)(hz:vs.length<=aO)(t:cw h0 vs ks)(K3:ks.head? = some []\/∀k∈ks,k≠[])(hu:A.units<cLine)
  (h:∀(out:List ae) (Hq:List (List Int)),out.Perm vs->cw h0 out Hq->Hq.Pairwise (λa b=>ltL b a=false)->P (.done (.ret .none)) {s with heap:=sortedHeap s.heap a vs out.toArray}) :
  aq (ao prog w) A (Builtin.«list.sort» ⟨[.ref a],[]⟩) P E s:=by
 rw[list_sort_plain];refine au (listItems_at  Ga rfl ?_);refine au (listUpdate_at  Ga rfl ?_ (by rw[a7];exact hz) (bH _));obtain⟨e1,Jb⟩:∃e1,(s.heap.update a (bq λ_=>#[])).get? a=some (aQ "list" #[] e1):=⟨_,get?_update_seq Ga (λ_=>#[])⟩
 refine au (seqEpoch_at Jb rfl ?_);refine au (wpAny_newTuple ?_ (by show vs.length<=_;exact hz));refine au (wpAny_newList ?_ (bH _));refine dh ?_;have FF:a<s.heap.objs.size:=aS Ga;have k6:∀b o,h0.get? b=some o->(((s.heap.update a (bq λ_=>#[])).push (aQ "tuple" vs.toArray 0)).push (aQ "list" #[] 0)).get? b=some o:=λb o q=>
  Heap.get?_push_of_some _ (Heap.get?_push_of_some _ (by rw[Heap.get?_update_ne _ _ _ _ (K2 b o q)];exact keep b o q))
 have Jc:(((s.heap.update a (bq λ_=>#[])).push (aQ "tuple" vs.toArray 0)).push (aQ "list" #[] 0)).get? a=some (aQ "list" #[] e1):=Heap.get?_push_of_some _ (Heap.get?_push_of_some _ Jb);show aq (ao prog w) _ _ _ _ {s with heap:=((s.heap.update a (bq λ_=>#[])).push (aQ "tuple" vs.toArray 0)).push (aQ "list" #[] 0)};dsimp only;have Ig:¬ vs.toArray.size<2:=by rw[a7];lia
 rw[if_neg Ig,if_neg Ig];have pz:(vs.toArray.zip vs.toArray)=pairsOf vs:=rfl;have hx:∀x∈(pairsOf vs).toList,x.1=x.2/\∃k,TupAt h0 x.1 k:=λx hx=>by
  rw[pairsOf_toList]at hx;obtain⟨b1,b2⟩:=mem_zip_self hx;exact⟨b1,t.mem _ b2⟩
 obtain⟨κ,kk,C⟩:∃κ,(∀Q:SortKind->af->Prop,Q κ {s with heap:=((s.heap.update a (bq λ_=>#[])).push (aQ "tuple" vs.toArray 0)).push (aQ "list" #[] 0)}->aq (ao prog w) A (keyKind' vs.toArray) Q E {s with heap:=((s.heap.update a (bq λ_=>#[])).push (aQ "tuple" vs.toArray 0)).push (aQ "list" #[] 0)})/\Cmp prog w A {s with heap:=((s.heap.update a (bq λ_=>#[])).push (aQ "tuple" vs.toArray 0)).push (aQ "list" #[] 0)} κ (·∈(pairsOf vs).toList) (λx y=>ltL (dw h0 x) (dw h0 y)):=by
  rcases K3 with hh|hh
  ·refine⟨oneType',λQ q=>?_,D9 k6 (λx z=>(hx x z).2) hu⟩;cases ks with
   |nil=>cases hh
   |cons k ks=>
    cases hh;exact wd (t.keep k6) q
  ·exact⟨tuples' true,λQ q=>kind_all (t.keep k6) (by lia) hh q,vh k6 λx z=>(hx x z).2⟩
 refine au (kk _ ?_);have K:=(wJ (dw h0)).rank (pairsOf vs).toList;refine au (bM (wC (Q:=λ_ st'=>(ag st').Perm (pairsOf vs)/\failedOf st'=none/\Seg (kf (λx y=>ltL (dw h0 x) (dw h0 y)) (pairsOf vs).toList) (ag st') 0 (pairsOf vs).size) C K (λ_ z=>z) rfl rfl rfl rfl (by rw[pairsOf_size];exact h2) λst' z1 z2 z3=>⟨z1,z2,z3⟩) ?_ λ_ _ e=>e);rintro⟨⟨⟩,st'⟩ s' ⟨rfl,pm,fl,sg⟩;dsimp only;have pl:=Array.perm_iff_toList_perm.mp pm;have om:((ag st').map (·.2))=((ag st').toList.map (·.2)).toArray:=by
  generalize ag st'=z;apply Array.toList_inj.mp;rw[Array.toList_map]
 have op:((ag st').toList.map (·.2)).Perm vs:=by
  have:=pl.map (·.2)
  rwa[pairsOf_toList,List.map_snd_zip (aG _)]at this
 have ht:=rq (ag st').toList λx z=>hx x (pl.mem_iff.mp z)
 have hs:=yb (LT:=λx y=>ltL (dw h0 x) (dw h0 y)) (R:=kf (λx y=>ltL (dw h0 x) (dw h0 y)) (pairsOf vs).toList) (a:=ag st') (by rw[pm.size_eq];exact sg) λx z1 y z2=>K.rk x y (pl.mem_iff.mp z1) (pl.mem_iff.mp z2)
 have fin:=h _ _ op ht (by rw[List.pairwise_map];exact hs);refine au (seqEpoch_at Jc rfl ?_);refine au (listUpdate_at Jc rfl ?_ (bH _) (by rw[om,a7,op.length_eq];lia));rw[fl];simp only[bne_self_eq_false,bD,if_false];refine aK ?_;rw[om];exact fin
theorem Cq{l:Addr}{vs:List ae}{ks:List (List Int)}{Q:ae->af->Prop}(hl:s.heap.IsList l vs.toArray\/IsTup s.heap l vs.toArray)(h2:2<=vs.length)(hz:vs.length<=aO)(t:cw s.heap vs ks)(K3:ks.head? = some []\/∀k∈ks,k≠[])(hu:A.in1.in1.units<cLine)
  (h:∀(out:List ae) (Hq:List (List Int)),out.Perm vs->cw s.heap out Hq->Hq.Pairwise (λa b=>ltL b a=false)->Q (.ref (s.heap.objs.size+1)) {s with heap:=sortedAll s.heap vs out.toArray}) :
  aq (ao prog w) A (call (.builtin "sorted") [.ref l]) Q E s:=by
 refine Calls.call_function_entry kind_sorted plain_sorted entry_sorted (args_sorted1 _) ?_;unfold Builtin.«sorted»;refine au (m:=checkCount "sorted" 1 1 _) (aK ?_);have col:∀{B:aE}{Q:List ae->af->Prop},Q vs {s with heap:=(s.heap.push (aQ "list" #[] 0)).update s.heap.objs.size (bq (· ++ vs.toArray))}->aq (ao prog w) B (collect (.ref l)) Q E s:=λh=>hl.elim (λhl=>collect_list hl h hz) λhl=>HT.nQ hl (by rw[a7];exact hz) h
 refine au (col ?_);refine au (wpAny_newList ?_ hz);have hsz:((s.heap.push (aQ "list" #[] 0)).update s.heap.objs.size (bq (· ++ vs.toArray))).objs.size=s.heap.objs.size+1:=by rw[Heap.size_update,size_push']
 have Ga:(((s.heap.push (aQ "list" #[] 0)).update s.heap.objs.size (bq (· ++ vs.toArray))).push (aQ "list" vs.toArray 0)).get? (s.heap.objs.size+1)=some (aQ "list" vs.toArray 0):=by rw[<-hsz];exact Heap.get?_push_size _ rfl
 have keep:∀b o,s.heap.get? b=some o->(((s.heap.push (aQ "list" #[] 0)).update s.heap.objs.size (bq (· ++ vs.toArray))).push (aQ "list" vs.toArray 0)).get? b=some o:=λb o q=>by
  have FF:b<s.heap.objs.size:=aS q;rw[Heap.get?_push_ne _ _ _ (by rw[hsz];exact bg (de FF)),Heap.get?_update_ne _ _ _ _ (bg FF),Heap.get?_push_ne _ _ _ (bg FF)];exact q
 show aq _ _ _ _ _ {s with heap:=((s.heap.push (aQ "list" #[] 0)).update s.heap.objs.size (bq (· ++ vs.toArray))).push (aQ "list" vs.toArray 0)};rw[hsz];refine au (dh (wpAny_call_entry slot_list_sort ⟨_,Ga,rfl⟩ entry_list_sort ?body (args_list_sort _)))
 case body=>
  have K2:∀b o,s.heap.get? b=some o->b≠s.heap.objs.size+1:=λb o q=>bg (de (aS q))
  refine xw (h0:=s.heap) Ga keep K2 h2 hz t K3 hu λout Hq a1 a2 a3=>⟨_,rfl,aK ⟨_,rfl,h out Hq a1 a2 a3⟩⟩
end
end TS
namespace L2
open PySem PySem.Spec PyProof.Rows TS
theorem tM:∀{vs:List ae}{a b:List Int},bp vs a->bp vs b->a=b
 |_,_,_,.nil,.nil=>rfl
 |_,_,_,.cons n t h,h'=>by
  cases h' with
  |cons n' t' JE=>rw[tM h JE]
theorem mZ{h:Heap}{v:ae}{a b:List Int}(x:TupAt h v a)(y:TupAt h v b):a=b:=by
 obtain⟨p,o,its,n,rfl,e2,_,e4,e5⟩:=x;obtain⟨p',o',its',n',f1,f2,_,f4,f5⟩:=y;cases f1;rw[e2]at f2;cases f2;rw[e4]at f4;cases f4;exact tM e5 f5
theorem lN{h:Heap}{f:Addr->List Int}:∀(ps:List Addr),(∀p∈ps,TupAt h (.ref p) (f p))->cw h (ps.map bh) (ps.map f)
 | [],_=>.nil
 |p::ps,z=>.cons (z p aM) (lN ps λq hq=>z q (aR _ hq))
theorem BA{h:Heap}{vs:List ae}{a b:List (List Int)}(x:cw h vs a)(y:cw h vs b):a=b:=by
 induction x generalizing b with
 |nil=>cases y;rfl
 |cons t _ ih=>
  cases y with
  |cons t' y'=>rw[mZ t t',ih y']
theorem uH{ps:List Addr}:∀{us:List ae},Vals (ps.map V.ref) us->us=ps.map ae.ref:=by
 induction ps with
 |nil=>intro us r;cases r;rfl
 |cons p ps ih=>
  intro us r;cases r with
  |cons h t=>rw[ih t,show _=bh p from h];rfl
theorem pY:∀(ps:List Addr),Vals (ps.map V.ref) (ps.map bh)
 | []=>.nil
 |p::ps=>.cons rfl (pY ps)
noncomputable def gy:ae->Addr
 | .ref a=>a
 |_=>0
def Fp(K:aB):List V->Hp->VK->Prop:=λvs H Q=>∃(l:Addr) (p:Addr) (ps:List Addr) (f:Addr->List Int),vs=[.ref l]/\(SqL K H l ((p::ps).map V.ref)\/SqT K H l ((p::ps).map V.ref))/\ps≠[]/\(f p=[]\/∀q∈p::ps,f q≠[]) /\
 (∀q∈p::ps,SqT K H q ((f q).map V.int))/\∀(D:Addr) (qs:List Addr),H D=none->qs.Perm (p::ps)->(qs.map f).Pairwise (λa b=>ltL b a=false)->Q (.ref D) (upd H D (.lst (qs.map V.ref)))
theorem BR{X:Cx}(hu:X.A.in1.in1.units<cLine):qQ X (.builtin "sorted") (Fp X.K):=by
 intro pins s σ H xs us Q I r h;obtain⟨l,p,ps,f,rfl,hl,GC,hf,hp,q⟩:=h;obtain⟨u,rfl,ru⟩:=r.one;cases ru;obtain⟨its,rv,pl,hz⟩:=show ∃its:List ae,Vals ((p::ps).map V.ref) its/\(s.heap.IsList l its.toArray\/IsTup s.heap l its.toArray)/\((p::ps).map V.ref).length<=aO from hl.elim (λhl=>have ⟨its,rv,pl,hz⟩:=I.list hl;⟨its,rv,.inl pl.isList,hz⟩) λhl=>have ⟨its,rv,pl,hz⟩:=I.tuple hl;⟨its,rv,.inr pl,hz⟩
 have ei:=uH rv;subst ei;have tp:∀z∈p::ps,TupAt s.heap (.ref z) (f z):=λz hz=>by
  obtain⟨its,r2,⟨o,e1,e2,n,e3⟩,_⟩:=I.tuple (hp z hz);exact⟨z,o,its.toArray,n,rfl,e1,e2,e3,by simpa using intsAre_of r2⟩
 have t:=lN (p::ps) tp;have Hh:((p::ps).map bh).length<=sizeLine:=by simpa using hz
 refine Cq pl (by cases ps with
  |nil=>exact absurd rfl GC
  |cons _ _=>simp) Hh t (by
   rcases hf with hf|hf
   ·left;rw[aN,hf];rfl
   ·right;intro k hk;obtain⟨q,hq,rfl⟩:=aU.mp hk;exact hf q hq) hu λout Hq op ot os=>?_
 have eo:out=(out.map gy).map ae.ref:=by
  rw[ck]
  conv=>lhs;rw[<-List.map_id out]
  refine List.map_congr_left λv hv=>?_
  obtain⟨a,_,rfl⟩:=aU.mp (op.mem_iff.mp hv)
  rfl
 have qp:(out.map gy).Perm (p::ps):=by
  have:=op.map gy
  rwa[ck,show (gy∘bh)=id from rfl,List.map_id]at this
 have ek:Hq=(out.map gy).map f:=by
  rw[eo]at ot;exact BA ot (lN _ λz hz=>tp z (qp.mem_iff.mp hz))
 subst ek;obtain⟨c,hc⟩:=sortedAll_at s.heap ((p::ps).map bh) out.toArray;have HD:s.heap.get? (s.heap.objs.size+1)=none:=Heap.get?_none_of_le (Nat.le_succ _);have q':=q (s.heap.objs.size+1) (out.map gy) (I.hok.free_of HD) qp os;refine⟨.ref (s.heap.objs.size+1),_,I.newList (s':={s with heap:=sortedAll s.heap ((p::ps).map bh) out.toArray}) (c:=c) (its:=out) rfl rfl (λb o _ e=>sortedAll_old e) (λm hm=>hm.keeps λb o e=>sortedAll_old e) HD (Nat.ne_of_gt (de I.lt)) hc (by have:=pY (out.map gy);rwa[<-eo]at this) (by rw[aV,aV,op.length_eq];exact Hh),rfl,q'⟩
def rN(K:aB):List V->Hp->VK->Prop:=λvs H Q=>∃(l:Addr) (as:List Addr) (ts:List (List Int)),vs=[.ref l]/\(SqL K H l (as.map V.ref)\/SqT K H l (as.map V.ref))/\as.length=ts.length/\2<=ts.length/\(ts[0]? = some []\/∀t∈ts,t≠[]) /\
 (∀(i:Nat) a t,as[i]? = some a->ts[i]? = some t->SqT K H a (t.map V.int)) /\
 ∀(D:Addr) (qs:List Addr) (f:Addr->List Int),H D=none->qs.Perm as->(∀(i:Nat) a t,as[i]? = some a->ts[i]? = some t->f a=t)->(qs.map f).Pairwise (λa b=>ltL b a=false)->Q (.ref D) (upd H D (.lst (qs.map V.ref)))
theorem CI{X:Cx}(hu:X.A.in1.in1.units<cLine):qQ X (.builtin "sorted") (rN X.K):=by
 intro pins s σ H xs us Q I r h;obtain⟨l,as,ts,rfl,hl,hlen,h2,h0,ht,q⟩:=h;have tp:∀(i:Nat) a t,as[i]? = some a->ts[i]? = some t->TupAt s.heap (.ref a) t:=λi a t ha hb=>by
  obtain⟨its,r2,⟨o,e1,e2,n,e3⟩,_⟩:=I.tuple (ht i a t ha hb);exact⟨a,o,its.toArray,n,rfl,e1,e2,e3,by simpa using intsAre_of r2⟩
 let f:Addr->List Int:=λa=>ts.getD (as.idxOf a) []
 have hf:∀(i:Nat) a t,as[i]? = some a->ts[i]? = some t->f a=t:=λi a t ha hb=>by
  have hm:a∈as:=List.mem_of_getElem? ha;have hi:=List.idxOf_lt_length_of_mem hm;have e1:as[as.idxOf a]? = some a:=by rw[List.getElem?_eq_getElem hi];simp
  have e2:ts[as.idxOf a]? = some (f a):=by
   have:as.idxOf a<ts.length:=by lia
   simp[f,this]
  exact mZ (tp _ _ _ e1 e2) (tp _ _ _ ha hb)
 match as,hlen with
 | [],hlen=>simp at hlen;lia
 |p::ps,hlen=>
  have GC:ps≠[]:=λz=>by subst z;simp at hlen;lia
  refine BR hu pins s σ H _ us Q I r ⟨l,p,ps,f,rfl,hl,GC,?_,λa ha=>?_,λD qs hD hp hs=>q D qs f hD hp hf hs⟩
  ·rcases h0 with h0|h0
   ·exact .inl (hf 0 p [] (by simp) h0)
   ·refine .inr λa ha=>?_
    obtain⟨i,hi,rfl⟩:=List.getElem_of_mem ha;have GD:i<ts.length:=by lia
    rw[hf i (p::ps)[i] ts[i] (by simp) (by simp)];exact h0 _ (dH GD)
  obtain⟨i,hi,rfl⟩:=List.getElem_of_mem ha;have GD:i<ts.length:=by lia
  have e:=ht i (p::ps)[i] ts[i] (by simp) (by simp)
  rwa[<-hf i (p::ps)[i] ts[i] (by simp) (by simp)]at e
def DG(K:aB):List V->Hp->VK->Prop:=λvs H Q=>∃(l:Addr) (xs:List V),vs=[.ref l]/\SqL K H l xs/\xs.length<2/\∀D,H D=none->Q (.ref D) (upd H D (.lst xs))
theorem CS{X:Cx}:qQ X (.builtin "sorted") (DG X.K):=by
 intro pins s σ H xs us Q I r h;obtain⟨l,ys,rfl,hl,h2,q⟩:=h;obtain⟨u,rfl,ru⟩:=r.one;cases ru;obtain⟨its,rv,pl,hz⟩:=I.list hl;have JI:=rv.length;refine Cj pl.isList (by lia) ?_;obtain⟨c,hc⟩:=sortedAll_at s.heap its its.toArray;have HD:s.heap.get? (s.heap.objs.size+1)=none:=Heap.get?_none_of_le (Nat.le_succ _);exact⟨.ref (s.heap.objs.size+1),_,I.newList (s':={s with heap:=sortedAll s.heap its its.toArray}) (c:=c) rfl rfl (λb o _ e=>sortedAll_old e) (λm hm=>hm.keeps λb o e=>sortedAll_old e) HD (Nat.ne_of_gt (de I.lt)) hc rv (by rw[bx];lia),rfl,q _ (I.hok.free_of HD)⟩
end L2
namespace L2
open PySem PySem.Spec PyProof.Rows
section
variable{X:Cx}
theorem oP{A:aE}{s:af}{bs:List Bool}{prog:aF}:∀y∈(bs.map bJ).toArray,SeqAt.EqAt A s y (.bool true) (y==.bool true):=by
 intro y hy;have Jk:y∈bs.map ae.bool:=by simpa using hy
 obtain⟨b,_,rfl⟩:=aU.mp Jk;have:=SeqAt.EqAt.bool_bool (A:=A) (s:=s) b true;have e2:(bJ b==bJ true)=(b==true):=by cases b<;>decide
 rw[e2];exact this
def DB(K:aB):V->List V->Hp->VK->Prop:=λx vs H Q=>∃(l:Addr) (bs:List Bool),x=.ref l/\vs=[.bl true]/\SqL K H l (bs.map V.bl)/\Q (.int ((bs.countP id:Nat):Int)) H
theorem ur:MtM X "list.count" (DB X.K):=by
 intro pins s σ H x vs v us Q I rx rv h;obtain⟨l,bs,rfl,rfl,hH,q⟩:=h;cases rx;obtain⟨u,rfl,ru⟩:=rv.one;cases ru;obtain⟨its,r,⟨o,n,e,hc,hd,hs⟩,hz⟩:=I.list hH;have ei:=kR (A:=X.A) r;subst ei;obtain⟨oc,od,oo,os⟩:=o;simp only at hc hd hs;subst hc hd hs;refine call_meets F.slot_list_count ⟨_,e,rfl⟩ F.entry_list_count (F.args_list_count_2 _ _) (SeqAt.list_countAt l _ n none os (.bool true) (λy=>y==.bool true)) ⟨e,oP (prog:=X.prog),?_⟩;refine⟨.int ((bs.countP id:Nat):Int),H,I.tok _,⟨s.toks,?_⟩,q⟩;have:(List.map bJ bs).countP (λy=>y==bJ true)=bs.countP id:=by
  rw[List.countP_map]
  congr 1
  funext b;cases b<;>rfl
 rw[show ((List.map bJ bs).toArray.toList)=List.map bJ bs from rfl,this]
def D3(K:aB):V->List V->Hp->VK->Prop:=λx vs H Q=>∃(l:Addr) (bs:List Bool) (j:Nat),x=.ref l/\vs=[.bl true]/\SqL K H l (bs.map V.bl)/\bs.findIdx? id=some j/\Q (.int (j:Int)) H
theorem BN:MtM X "list.index" (D3 X.K):=by
 intro pins s σ H x vs v us Q I rx rv h;obtain⟨l,bs,j,rfl,rfl,hH,hj,q⟩:=h;cases rx;obtain⟨u,rfl,ru⟩:=rv.one;cases ru;obtain⟨its,r,⟨o,n,e,hc,hd,hs⟩,hz⟩:=I.list hH;have ei:=kR (A:=X.A) r;subst ei;obtain⟨oc,od,oo,os⟩:=o;simp only at hc hd hs;subst hc hd hs;obtain⟨Nd,h1,h2⟩:=List.findIdx?_eq_some_iff_getElem.mp hj;have Hh:bs.length<=sizeLine:=by simpa using hz
 refine call_meets F.slot_list_index ⟨_,e,rfl⟩ F.entry_list_index (F.args_list_index_2 _ _) (SeqAt.list_indexAt l _ n none os (.bool true) (λy=>y==.bool true) j (by simpa using Nd) (by rw[bx]at Hh;lia) ?_ ?_) ⟨e,oP (prog:=X.prog),?_⟩
 ·have:bs[j]=true:=h1;simp[this]
 ·intro m hm hmj;have JG:m<bs.length:=by simpa using hm
  have:bs[m]=false:=by simpa using h2 m hmj
  simp[this]
 ·exact⟨.int (j:Int),H,I.tok _,⟨s.toks,rfl⟩,q⟩
end
theorem DC{its:List ae}{ns:List Int}(hi:bp its ns):∃ps:Array (Int×Tok),its.toArray=intItems ps/\ns=ps.toList.map Prod.fst:=by
 rcases hi.allInts.items with ⟨ps,hx⟩
 refine⟨ps,hx,?_⟩;have z:numsOf its.toArray.toList=ns:=hi.numsOf;rw[hx,nums_intItems]at z;exact z.symm
section
variable{X:Cx}
def lq(mx:Bool)(ns:List Int)(n:Int):Prop:=n∈ns/\∀m∈ns,if mx then m<=n else n<=m
theorem nH(hc:X.calm=true)(mx:Bool):qQ X (.builtin (if mx then "max" else "min")) (λxs H Q=>∃(l:Addr) (ns:List Int),xs=[.ref l]/\SqL X.K H l (ns.map V.int)/\ns≠[]/\∀n,lq mx ns n->Q (.int n) H):=by
 intro pins s σ H xs us Q I r h;obtain⟨l,ns,rfl,hl,GC,q⟩:=h;obtain⟨u,rfl,ru⟩:=r.one;cases ru;obtain⟨its,rv,pl,hz⟩:=I.list hl;obtain⟨xs,hx,e1⟩:=DC (intsAre_of rv);have JI:s.heap.IsList l (intItems xs):=by rw[<-hx];exact pl.isList
 have hsz:0<xs.size:=by
  cases ns with
  |nil=>exact absurd rfl GC
  |cons a r=>
   have:=congrArg List.length e1;simp at this;lia
 have JL:∀i,i<xs.size->∃h:i<ns.length,numAt xs i=ns[i]:=λi GD=>by
  subst e1;refine⟨by simpa using GD,?_⟩;simp[numAt,GD]
 cases mx with
 |true=>
  refine max_intList (I.ok.hd hc) JI hsz λv h' tk hv hk=>?_
  obtain⟨t,rfl⟩:=intItems_at hv;refine⟨.int _,H,I.kept hk,⟨_,rfl⟩,q _ ?_⟩;obtain⟨b1,b2⟩:=argBest_gt (numAt xs) (xs.size-1);obtain⟨z1,z2⟩:=JL _ (show argBest (λi j=>decide (numAt xs i>numAt xs j)) (xs.size-1)<xs.size by lia);refine⟨by rw[z2];exact dH _,λm hm=>?_⟩;obtain⟨j,hj,rfl⟩:=List.getElem_of_mem hm;have GN:j<xs.size:=by rw[e1]at hj;simpa using hj
  obtain⟨_,y2⟩:=JL j GN;rw[<-y2];exact b2 j (by lia)
 |false=>
  refine min_intList (I.ok.hd hc) JI hsz λv h' tk hv hk=>?_
  obtain⟨t,rfl⟩:=intItems_at hv;refine⟨.int _,H,I.kept hk,⟨_,rfl⟩,q _ ?_⟩;obtain⟨b1,b2⟩:=argBest_lt (numAt xs) (xs.size-1);obtain⟨z1,z2⟩:=JL _ (show argBest (λi j=>decide (numAt xs i<numAt xs j)) (xs.size-1)<xs.size by lia);refine⟨by rw[z2];exact dH _,λm hm=>?_⟩;obtain⟨j,hj,rfl⟩:=List.getElem_of_mem hm;have GN:j<xs.size:=by rw[e1]at hj;simpa using hj
  obtain⟨_,y2⟩:=JL j GN;rw[<-y2];exact b2 j (by lia)
end
end L2
namespace EV
open PySem PySem.Spec PySem.P PyProof.Rows L2
theorem insI_perm(i:Int):∀l,(insI i l).Perm (i::l)
 | []=>.refl _
 |j::r=>by
  unfold insI;split
  ·exact .refl _
  ·exact((insI_perm i r).cons j).trans (.swap ..)
theorem sortI_perm:∀l,(sortI l).Perm l
 | []=>.refl _
 |i::r=>(insI_perm i _).trans ((sortI_perm r).cons i)
theorem sH(i:Int):∀{l:List Int},l.Pairwise (·<=·)->(insI i l).Pairwise (·<=·)
 | [],_=>by simp[insI]
 |j::r,h=>by
  unfold insI;obtain⟨h1,h2⟩:=List.pairwise_cons.mp h;split
  ·rename_i FC
   refine List.pairwise_cons.mpr ⟨λx hx=>?_,h⟩;rcases aI.mp hx with rfl|hx
   ·exact FC
   ·exact Int.le_trans FC (h1 x hx)
  ·rename_i FC
   refine List.pairwise_cons.mpr ⟨λx hx=>?_,sH i h2⟩;rcases aI.mp ((insI_perm i r).mem_iff.mp hx)with rfl|hx
   ·lia
   ·exact h1 x hx
theorem mE:∀l:List Int,(sortI l).Pairwise (·<=·)
 | []=>.nil
 |i::r=>sH i (mE r)
theorem jJ{l m:List Int}(h1:m.Perm l)(h2:m.Pairwise (·<=·)):m=sortI l:=PySem.W.ksm_same (h1.trans (sortI_perm l).symm) h2 (mE l)
theorem mq(p:Int×Int):∀l,(fv p l).Perm (p::l)
 | []=>.refl _
 |j::r=>by
  unfold fv;split
  ·exact((mq p r).cons j).trans (.swap ..)
  ·exact .refl _
theorem ja:∀l,(qq l).Perm l
 | []=>.refl _
 |i::r=>(mq i _).trans ((ja r).cons i)
theorem ua{a b:Int×Int}:ltP a b=true↔a.1<b.1\/(a.1=b.1/\a.2<b.2):=by
 unfold ltP;by_cases h:a.1=b.1
 ·simp[h]
 ·simp[h]
theorem sX{a b:Int×Int}:ltP a b=false↔b.1<a.1\/(a.1=b.1/\b.2<=a.2):=by
 rw[<-Bool.not_eq_true,ua];lia
theorem pJ(p:Int×Int):∀{l:List (Int×Int)},l.Pairwise (λa b=>ltP b a=false)->(fv p l).Pairwise (λa b=>ltP b a=false)
 | [],_=>by simp[fv]
 |j::r,h=>by
  unfold fv;obtain⟨h1,h2⟩:=List.pairwise_cons.mp h;split
  ·rename_i FC
   rw[ua]at FC;refine List.pairwise_cons.mpr ⟨λx hx=>?_,pJ p h2⟩;rcases aI.mp ((mq p r).mem_iff.mp hx)with rfl|hx
   ·rw[sX];lia
   ·exact h1 x hx
  ·rename_i FC
   have G9:ltP j p=false:=by simpa using FC
   refine List.pairwise_cons.mpr ⟨λx hx=>?_,h⟩;rcases aI.mp hx with rfl|hx
   ·exact G9
   ·have:=h1 x hx;rw[sX]at this G9 ⊢;lia
theorem kZ:∀l:List (Int×Int),(qq l).Pairwise (λa b=>ltP b a=false)
 | []=>.nil
 |i::r=>pJ i (kZ r)
theorem sT:∀(a b:List Int),dE a b=TS.ltL a b
 | [],[]=>rfl
 | [],_::_=>rfl
 |_::_,[]=>rfl
 |a::r,b::t=>by
  unfold dE TS.ltL;rw[sT r t]
theorem lC(p:List Int):∀l,(fo p l).Perm (p::l)
 | []=>.refl _
 |j::r=>by
  unfold fo;split
  ·exact((lC p r).cons j).trans (.swap ..)
  ·exact .refl _
theorem i3:∀l,(cq l).Perm l
 | []=>.refl _
 |i::r=>(lC i _).trans ((i3 r).cons i)
theorem nh(p:List Int):∀{l:List (List Int)},l.Pairwise (λa b=>TS.ltL b a=false)->(fo p l).Pairwise (λa b=>TS.ltL b a=false)
 | [],_=>by simp[fo]
 |j::r,h=>by
  unfold fo;obtain⟨h1,h2⟩:=List.pairwise_cons.mp h;rw[sT];split
  ·rename_i FC
   refine List.pairwise_cons.mpr ⟨λx hx=>?_,nh p h2⟩;rcases aI.mp ((lC p r).mem_iff.mp hx)with rfl|hx
   ·exact TS.iG FC
   ·exact h1 x hx
  ·rename_i FC
   have G9:TS.ltL j p=false:=by simpa using FC
   refine List.pairwise_cons.mpr ⟨λx hx=>?_,h⟩;rcases aI.mp hx with rfl|hx
   ·exact G9
   ·exact TS.je G9 (h1 x hx)
theorem oE:∀l:List (List Int),(cq l).Pairwise (λa b=>TS.ltL b a=false)
 | []=>.nil
 |i::r=>nh i (oE r)
theorem pW{l m:List (List Int)}(h1:m.Perm l)(h2:m.Pairwise (λa b=>TS.ltL b a=false)):m=cq l:=
 (h1.trans (i3 l).symm).eq_of_pairwise (λa b _ _ z1 z2=>TS.tJ z2 z1) h2 (oE l)
theorem oD(mx:Bool):∀(i:Int) (r:List Int) (n:Int),lq mx (i::r) n->n=eU mx i r
 |i,[],n,h=>by
  obtain⟨h1,_⟩:=h
  simpa[eU]using h1
 |i,j::r,n,h=>by
  obtain⟨h1,h2⟩:=h;unfold eU;refine oD mx _ r n ⟨?_,?_⟩
  ·have hi:=h2 i (by simp);have hj:=h2 j (by simp);rcases aI.mp h1 with rfl|h1
   ·cases mx<;>simp at hi hj ⊢ <;> left<;>first|lia|(intro _;lia)
   ·rcases aI.mp h1 with rfl|h1
    ·cases mx<;>simp at hi hj ⊢ <;> left<;>first|lia|(intro _;lia)
    ·exact aR _ h1
  ·intro m hm;rcases aI.mp hm with rfl|hm
   ·have hi:=h2 i (by simp);have hj:=h2 j (by simp);cases mx<;>simp at hi hj ⊢ <;> split<;>assumption
   ·exact h2 m (by simp[hm])
section
variable{X:Cx}{g:Gc}
theorem qy.tups{H:Hp}{ds:List D}:∀{vs:List V}{ts:List (List Int)},qy g H ds vs->tups? ds=some ts->ds=ts.map gj/\∃as:List Addr,vs=as.map V.ref/\as.length=ts.length/\∀(i:Nat) a t,as[i]? = some a->ts[i]? = some t->SqT g.K H a (t.map V.int)/\Rep g H (gj t) (.ref a):=by
 induction ds with
 |nil=>intro vs ts h e;cases h;cases e;exact⟨rfl,[],rfl,rfl,λi a p h=>by cases h⟩
 |cons d ds ih=>
  intro vs ts h e;cases h with
  |cons h t=>cases d with
   |tup xs=>
    obtain⟨n,e0,e⟩:=aL.mp (show (ints? xs).bind (λn=>(tups? ds).map (n :: ·))=some ts from e);obtain⟨ms,e1,rfl⟩:=bK.mp e;obtain⟨h1,as,h2,h3,h4⟩:=ih t e1;have hh:=h;cases h with
    | @tup a _ _ q r=>
     obtain⟨rfl,e2⟩:=r.ints e0;refine⟨by rw[h1,e2];rfl,a::as,by rw[h2];rfl,congrArg (· + 1) h3,λi b p hb hp=>?_⟩;cases i with
     |zero=>cases hb;cases hp;exact⟨q,by rw[e2]at hh;exact hh⟩
     |succ i=>exact h4 i b p hb hp
   |_=>cases (show none=some ts from e)
theorem qy.pairs{H:Hp}{ds:List D}:∀{vs:List V}{ps:List (Int×Int)},qy g H ds vs->pairs? ds=some ps->ds=ps.map pairD/\∃as:List Addr,vs=as.map V.ref/\as.length=ps.length/\∀(i:Nat) a p,as[i]? = some a->ps[i]? = some p->SqT g.K H a [.int p.1,.int p.2]:=by
 induction ds with
 |nil=>intro vs ps h e;cases h;cases e;exact⟨rfl,[],rfl,rfl,λi a p h=>by cases h⟩
 |cons d ds ih=>
  intro vs ps h e;have no:∀{P:Prop},pairs? (d::ds)=none->P:=λz=>by rw[z]at e;cases e
  cases h with
  |cons h t=>cases d with
   |tup xs=>cases xs with
    |nil=>exact no rfl
    |cons a xs=>cases a with
     |int x=>cases xs with
      |nil=>exact no rfl
      |cons b xs=>cases b with
       |int y=>cases xs with
        |cons _ _=>exact no rfl
        |nil=>
         obtain⟨ms,e1,rfl⟩:=bK.mp (show (pairs? ds).map ((x,y) :: ·)=some ps from e);obtain⟨h1,as,h2,h3,h4⟩:=ih t e1;cases h with
         | @tup a xs _ q r=>
          obtain⟨rfl,_⟩:=r.ints (ns:=[x,y]) rfl;refine⟨by rw[h1];rfl,a::as,by rw[h2];rfl,congrArg (· + 1) h3,λi b p hb hp=>?_⟩;cases i with
          |zero=>cases hb;cases hp;exact q
          |succ i=>exact h4 i b p hb hp
       |_=>exact no rfl
     |_=>exact no rfl
   |_=>exact no rfl
theorem kh{H:Hp}:∀{ts:List (List Int)}{as:List Addr},as.length=ts.length->(∀(i:Nat) a t,as[i]? = some a->ts[i]? = some t->Rep g H (gj t) (.ref a))->qy g H (ts.map gj) (as.map V.ref)
 | [],[],_,_=>.nil
 |t::ts,a::as,e,h=>.cons (h 0 a t rfl rfl) (kh (by simpa using e) λi b u hb hu=>h (i+1) b u (by simpa using hb) (by simpa using hu))
theorem sW:∀{xs:List D}{ps:List (Int×Int)},pairs? xs=some ps->tups? xs=some (ps.map λp=>[p.1,p.2])
 | [],_,h=>by cases h;rfl
 | .tup [.int i,.int j]::r,ps,h=>by
  simp only[pairs?,bK]at h;obtain⟨qs,h1,rfl⟩:=h;show (some [i,j]).bind (λn=>(tups? r).map (n :: ·))=_;rw[sW h1];rfl
theorem pD(p:Int×Int):∀qs:List (Int×Int),fo [p.1,p.2] (qs.map λp=>[p.1,p.2])=(fv p qs).map λp=>[p.1,p.2]
 | []=>rfl
 |q::r=>by
  have e:dE [q.1,q.2] [p.1,p.2]=ltP q p:=by
   simp only[dE,ltP];by_cases h:q.1=p.1
   ·rw[if_pos h,if_pos h];by_cases h':q.2=p.2
    ·rw[if_pos h',h'];simp
    ·rw[if_neg h']
   ·rw[if_neg h,if_neg h]
  rw[aN,fo,fv,e,pD p r];cases ltP q p<;>rfl
theorem sD:∀qs:List (Int×Int),cq (qs.map λp=>[p.1,p.2])=(qq qs).map λp=>[p.1,p.2]
 | []=>rfl
 |q::r=>by rw[aN,cq,qq,sD r,pD]
theorem n_{xs:List D}{ps:List (Int×Int)}(h:pairs? xs=some ps)(h2:2<=ps.length):cJ xs=.ok (.lst ((qq ps).map pairD)):=by
 rw[cJ,sW h];have e:fE (ps.map λp=>[p.1,p.2])=true:=by
  match ps,h2 with
  |p::q::r,_=>simp[fE]
 show (if fE _=true then _ else _)=_;rw[e,if_pos rfl,sD,ck]
 rfl
theorem uF(hK:X.K=g.K)(hu:X.A.units+64<cLine)(hc:X.calm=true):qQ X (.builtin "sorted") (rB1 g .sorted):=fR (((AM.or (CS.or (CI (show X.A.units+1+1<cLine by lia)))).or Bo).or (Cr hc)) λS ds d vs H Q hs rs h q=>by
 obtain⟨x,rfl,h'⟩:=km (λ_ _=>rfl) h;by_cases LK:∃xs,x=.tup xs
 ·obtain⟨xs,rfl⟩:=LK;have h':(if xs.length<64 then (match ints? xs with
   |some ns=>R.ok (.lst ((sortI ns).map D.int))
   |none=>cJ xs)else .no)=R.ok d:=h'
  split at h'
  ·rename_i hz
   cases rs with
   |cons r rs=>
    cases rs;obtain⟨a,us,rfl,h1,r1⟩:=r.tup;cases e:ints? xs with
    |some ns=>
     rw[e]at h';cases h';obtain⟨rfl,rfl⟩:=r1.ints e;refine .inl (.inr ⟨a,ns,rfl,by rw[hK];exact h1,by simpa using hz,λp ms hp pm pw=>?_⟩);rw[jJ pm pw];exact q _ _ (qY hp) (eZ hs hp (qy.ofInts _)) λ_=>ff (qf.refl _) hp (qy.ofInts _)
    |none=>
     rw[e]at h';have h:cJ xs=.ok d:=h';refine .inl (.inl (.inr (.inr ?_)));obtain⟨ts,e,h⟩:=iN h;split at h
     ·rename_i hh
      cases h;obtain⟨rfl,as,rfl,hl,hp⟩:=r1.tups e;have Jl:2<=ts.length/\(ts[0]? = some []\/∀t∈ts,t≠[]):=by
       match ts,hh with
       |p::q::r,hh=>
        refine⟨by simp,?_⟩;rw[fE,bR]at hh;rcases hh with hh|hh
        ·exact .inl (by simpa using hh)
        ·exact .inr λt ht=>by simpa using cQ.mp hh t ht
      refine⟨a,as,ts,rfl,.inr (by rw[hK];exact h1),hl,Jl.1,Jl.2,λi b t hb ht=>by rw[hK];exact eA dj (hp i b t hb ht).1,λD qs f hn pm hf ps=>?_⟩;have e1:as.map f=ts:=by
       refine List.ext_getElem (by simp[hl]) λi h1 h2=>?_
       rw[List.getElem_map];have:i<as.length:=by simpa using h1
       exact hf i as[i] ts[i] (by simp[this]) (by simp[h2])
      have e2:qs.map f=cq ts:=pW (by have:=pm.map f;rwa[e1]at this) ps;have hR:qy g (hid H S) ((cq ts).map gj) (qs.map V.ref):=by
       rw[<-e2];refine kh (by simp) λi b t hb ht=>?_
       have hm:b∈as:=pm.mem_iff.mp (List.mem_of_getElem? hb);obtain⟨j,hj,rfl⟩:=List.getElem_of_mem hm;have GN:j<ts.length:=by lia
       have e3:t=ts[j]:=by
        have e4:=hf j as[j] ts[j] (by simp[hj]) (by simp[GN]);rw[List.getElem?_map,hb]at ht;simp at ht;rw[<-ht,e4]
       rw[e3];exact(hp j as[j] ts[j] (by simp[hj]) (by simp[GN])).2
      exact q _ _ (qY hn) (eZ hs hn hR) λ_=>ff (qf.refl _) hn hR
     ·cases h
  ·cases h'
 by_cases LL:∃kvs,x=.dic kvs
 ·obtain⟨kvs,rfl⟩:=LL;have h':(if kvs.length<64 then R.ok (D.lst ((sortI (kvs.map (·.1))).map D.int))else .no)=R.ok d:=h';split at h'
  ·rename_i hz
   cases h';cases rs with
   |cons r rs=>
    cases rs;obtain⟨a,rfl,h1⟩:=r.dic;refine .inr ⟨a,kvs,rfl,h1,hz,λp ms hp pm pw=>?_⟩;rw[jJ pm pw];exact q _ _ (qY hp) (eZ hs hp (qy.ofInts _)) λ_=>ff (qf.refl _) hp (qy.ofInts _)
  ·cases h'
 refine .inl (.inl ?_);have h':(c_ x λxs=>if xs.length<64 then (match ints? xs with
   |some ns=>.ok (.lst ((sortI ns).map D.int))
   |none=>match pairs? xs with
    |some ps=>.ok (.lst ((qq ps).map pairD))
    |none=>cJ xs)else cJ xs)=.ok d:=by cases x<;>first|exact absurd ⟨_,rfl⟩ LK|exact absurd ⟨_,rfl⟩ LL|exact h'
 obtain⟨xs,rfl,h2⟩:=j7 h'
 replace h:=h2
 cases rs with
 |cons r rs=>
  cases rs;obtain⟨a,us,rfl,h1,r1⟩:=r.lst;have big:cJ xs=.ok d->rN X.K [.ref a] H Q:=λh=>by
   obtain⟨ts,e,h⟩:=iN h;split at h
   ·rename_i hh
    cases h;obtain⟨rfl,as,rfl,hl,hp⟩:=r1.tups e;have Jl:2<=ts.length/\(ts[0]? = some []\/∀t∈ts,t≠[]):=by
     match ts,hh with
     |p::q::r,hh=>
      refine⟨by simp,?_⟩;rw[fE,bR]at hh;rcases hh with hh|hh
      ·exact .inl (by simpa using hh)
      ·exact .inr λt ht=>by simpa using cQ.mp hh t ht
    refine⟨a,as,ts,rfl,.inl (by rw[hK];exact h1),hl,Jl.1,Jl.2,λi b t hb ht=>by rw[hK];exact eA dj (hp i b t hb ht).1,λD qs f hn pm hf ps=>?_⟩;have e1:as.map f=ts:=by
     refine List.ext_getElem (by simp[hl]) λi h1 h2=>?_
     rw[List.getElem_map];have:i<as.length:=by simpa using h1
     exact hf i as[i] ts[i] (by simp[this]) (by simp[h2])
    have e2:qs.map f=cq ts:=pW (by have:=pm.map f;rwa[e1]at this) ps;have hR:qy g (hid H S) ((cq ts).map gj) (qs.map V.ref):=by
     rw[<-e2];refine kh (by simp) λi b t hb ht=>?_
     have hm:b∈as:=pm.mem_iff.mp (List.mem_of_getElem? hb);obtain⟨j,hj,rfl⟩:=List.getElem_of_mem hm;have GN:j<ts.length:=by lia
     have e3:t=ts[j]:=by
      have e4:=hf j as[j] ts[j] (by simp[hj]) (by simp[GN]);rw[List.getElem?_map,hb]at ht;simp at ht;rw[<-ht,e4]
     rw[e3];exact(hp j as[j] ts[j] (by simp[hj]) (by simp[GN])).2
    exact q _ _ (qY hn) (eZ hs hn hR) λ_=>ff (qf.refl _) hn hR
   ·cases h
  by_cases hz:xs.length<64
  ·rw[if_pos hz]at h;cases e:ints? xs with
   |some ns=>
    rw[e]at h;cases h;obtain⟨rfl,rfl⟩:=r1.ints e;refine .inl ⟨a,ns,rfl,by rw[hK];exact h1,by simpa using hz,λp ms hp pm pw=>?_⟩;rw[jJ pm pw];exact q _ _ (qY hp) (eZ hs hp (qy.ofInts _)) λ_=>ff (qf.refl _) hp (qy.ofInts _)
   |none=>
    rw[e]at h;cases e2:pairs? xs with
    |none=>rw[e2]at h;exact .inr (.inr (big h))
    |some ps=>
     rw[e2]at h;cases h;obtain⟨rfl,as,rfl,hl,hp⟩:=r1.pairs e2;by_cases h2:2<=ps.length
     ·exact .inr (.inr (big (n_ e2 h2)))
     ·have e3:qq ps=ps:=by
       match ps,h2 with
       | [],_=>rfl
       | [_],_=>rfl
       |_::_::r,h=>exact absurd (show 2<=r.length+1+1 by lia) h
      refine .inr (.inl ⟨a,as.map V.ref,rfl,by rw[hK];exact h1,by rw[aV];lia,λp hn=>?_⟩);rw[e3]at q;exact q _ _ (qY hn) (eZ hs hn r1) λ_=>ff (qf.refl _) hn r1
  ·rw[if_neg hz]at h;exact .inr (.inr (big h))
theorem sG(hK:X.K=g.K)(hc:X.calm=true)(mx:Bool):qQ X (.builtin (if mx then "max" else "min")) (rB1 g (if mx then .max else .min)):=by
 have two:∀{S:Sh}{H:Hp}{x y:D}{vs:List V}{i j:Int},x=.int i->y=.int j->fP g H S [x,y] vs->vs=[.int i,.int j]:=by
  intro S H x y vs i j hx hy rs;subst hx hy;cases rs with
  |cons r1 rs=>
   cases rs with
   |cons r2 rs=>cases rs;rw[r1.int,r2.int]
 have one:∀{S:Sh}{H:Hp}{x d:D}{vs:List V},fP g H S [x] vs->(c_ x λxs=>cW (ints? xs) λns=>iW mx ns)=.ok d->∃(l:Addr) (ns:List Int),vs=[.ref l]/\SqL X.K H l (ns.map V.int)/\ns≠[]/\∀n,lq mx ns n->d=.int n:=by
  intro S H x d vs rs hA;obtain⟨xs,rfl,hB⟩:=j7 hA;obtain⟨ns,e,hC⟩:=iN hB;clear hA hB;have h:iW mx ns=.ok d:=hC;clear hC;cases rs with
  |cons r rs=>
   cases rs;obtain⟨a,us,rfl,h1,r1⟩:=r.lst;obtain⟨rfl,rfl⟩:=r1.ints e
   match ns,h with
   |i::r,h=>
    cases h;exact⟨a,i::r,rfl,by rw[hK];exact h1,by simp,λn hb=>by rw[oD _ _ _ _ hb]⟩
 have inv:∀{b:B1}{ds:List D}{d:D},b1 b ds=.ok d->(∃x,ds=[x]/\b11 b x=.ok d)\/∃x y,ds=[x,y]/\b12 b x y=.ok d:=by
  intro b ds d h
  match ds,h with
  | [x],h=>exact .inl ⟨x,rfl,h⟩
  | [x,y],h=>exact .inr ⟨x,y,rfl,h⟩
  | [],h=>cases h
  |_::_::_::_,h=>cases h
 cases mx
 ·exact fR ((yP hc).or (nH hc false)) λS ds d vs H Q hs rs h q=>by
   rcases inv h with ⟨x,rfl,h'⟩|⟨x,y,rfl,h'⟩
   ·obtain⟨l,ns,e1,e2,e3,e4⟩:=one rs h';exact .inr ⟨l,ns,e1,e2,e3,λn hb=>q _ _ (qf.refl _) (by rw[e4 n hb];exact .int _) (by simp)⟩
   ·obtain⟨i,j,hx,hy,h'⟩:=tP h';cases h';exact .inl ⟨i,j,two hx hy rs,q _ _ (qf.refl _) (.int _) (by simp)⟩
 ·exact fR ((xM hc).or (nH hc true)) λS ds d vs H Q hs rs h q=>by
   rcases inv h with ⟨x,rfl,h'⟩|⟨x,y,rfl,h'⟩
   ·obtain⟨l,ns,e1,e2,e3,e4⟩:=one rs h';exact .inr ⟨l,ns,e1,e2,e3,λn hb=>q _ _ (qf.refl _) (by rw[e4 n hb];exact .int _) (by simp)⟩
   ·obtain⟨i,j,hx,hy,h'⟩:=tP h';cases h';exact .inl ⟨i,j,two hx hy rs,q _ _ (qf.refl _) (.int _) (by simp)⟩
theorem AN:qQ X (.builtin "abs") (rB1 g .abs):=jW (λ_=>rfl) λ_ _=>rfl
theorem xI:qQ X (.type "int") (rB1 g .int):=jW (λ_=>rfl) λ_ _=>rfl
theorem Ak:qQ X (.type "bool") (rB1 g .bool):=jW (λ_=>rfl) λ_ _=>rfl
theorem B'(hK:X.K=g.K)(hc:X.calm=true):qQ X (.builtin "sum") (rB1 g .sum):=jW (λ_=>rfl) λ_ _=>rfl
theorem rW(hK:X.K=g.K)(hu:X.A.units+64<cLine):∀b,(X.calm=true\/b=.len\/b=.abs\/b=.tuple\/b=.list\/b=.int\/b=.bool)->qQ X (b1V b) (rB1 g b)
 | .len,_=>yo hK
 | .tuple,_=>xH hK
 | .list,_=>wg hK
 | .sorted,h=>uF hK hu (by simpa using h)
 | .all,h=>tm hK (by simpa using h) true
 | .any,h=>tm hK (by simpa using h) false
 | .sum,h=>B' hK (by simpa using h)
 | .min,h=>sG hK (by simpa using h) false
 | .max,h=>sG hK (by simpa using h) true
 | .abs,_=>AN
 | .int,_=>xI
 | .bool,_=>Ak
theorem rE{H:Hp}{ds:List D}{vs:List V}(r:qy g H ds vs):ds.isEmpty=vs.isEmpty:=by cases r<;>rfl
theorem vX(hK:X.K=g.K){S:Sh}{H:Hp}{d:D}{v:V}{b:Bool}(r:zz g H S d v)(e:truth d=.ok b):mB X.K v H b:=by
 cases d with
 |non=>cases r.rep;cases e;exact rfl
 |bl c=>cases r.rep;cases e;exact rfl
 |int i=>cases r.rep;cases e;exact rfl
 |tup xs=>
  cases e;obtain⟨a,vs,rfl,h1,r1⟩:=r.tup;exact .inr (.inl ⟨vs,by rw[hK];exact h1,by rw[rE r1]⟩)
 |lst xs=>
  cases e;obtain⟨a,vs,rfl,h1,r1⟩:=r.lst;exact .inl ⟨vs,by rw[hK];exact h1,by rw[rE r1]⟩
 |_=>cases e
theorem vB(hK:X.K=g.K):qQ X (.builtin "isinstance") (λxs H Q=>∃S d v n t,xs=[v,.ty n]/\zz g H S d v/\tyD d=some t/\n∈["int","bool","str","list","tuple"]/\Q (.bl (gk t n)) H):=by
 intro pins s σ H xs us Q I r h;obtain⟨S,d,v,n,t,rfl,rd,ht,hn,q⟩:=h;obtain⟨u,cu,rfl,rx,rc⟩:=r.two;cases rc;have fin:∀tk,EP X pins σ Q (.bool (gk t n)) {s with toks:=tk}:=λtk=>⟨.bl _,H,I.tok tk,rfl,q⟩
 have kb:t∈["NoneType","bool","int","str","list","tuple","dict"]->bF X.K (.type t) (.type n)=some (gk t n):=λh=>Fe h hn
 cases d with
 |non=>cases ht;cases rd.rep;exact g_ I rx .non (kb (by simp)) fin
 |bl c=>cases ht;cases rd.rep;exact g_ I rx (.bl c) (kb (by simp)) fin
 |int i=>cases ht;cases rd.rep;exact g_ I rx (.int i) (kb (by simp)) fin
 |str i=>cases ht;cases rd.rep;exact g_ I rx (.str i) (kb (by simp)) fin
 |tup xs=>
  cases ht;obtain⟨a,vs,rfl,h1,_⟩:=rd.tup;cases rx;obtain⟨its,_,⟨o,e1,e2,_⟩,_⟩:=I.tuple (by rw[hK];exact h1);exact bS PySem.W.kitx_tuple I.kIn ⟨o,e1,e2⟩ (kb (by simp)) (λz=>nomatch z) fin
 |lst xs=>
  cases ht;obtain⟨a,vs,rfl,h1,_⟩:=rd.lst;cases rx;obtain⟨its,_,pl,_⟩:=I.list (by rw[hK];exact h1);obtain⟨o,e1,e2,_⟩:=pl.isList;exact bS PySem.W.kitx_list I.kIn ⟨o,e1,e2⟩ (kb (by simp)) (λz=>nomatch z) fin
 |dic=>
  cases ht;cases rd.rep with
  |dic h1=>exact g_ I rx (.dK h1) (kb (by simp)) fin
 |_=>cases ht
end
theorem Dn{o:O2}{a b:Int}{c:Str}:opI o a b≠.ex c:=by
 cases o<;>simp only[opI]<;>(try split)<;>intro h<;>cases h
theorem Ao{o:O2}{a b:D}{c:Str}:op2 o a b≠.ex c:=by
 unfold op2;split
 ·exact Dn
 all_goals ((try split)<;>intro h<;>cases h)
theorem oh{n:Bool}{a b:D}{c:Str}:isB n a b≠.ex c:=by
 unfold isB;split<;>intro h<;>cases h
theorem mv{a b:D}{c:Str}:dC a b≠.ex c:=by
 unfold dC;split<;>(try split)<;>intro h<;>cases h
theorem oK{a b:D}{c:Str}:((dC a b).bind λr=>R.ok !r)≠.ex c:=by
 intro h;cases e:dC a b with
 |ok r=>rw[e]at h;cases h
 |ex z=>exact mv e
 |no=>rw[e]at h;cases h
theorem wD{o:C2}{a b:D}{c:Str}:qm o a b≠.ex c:=by
 cases o with
 |is=>rw[zS];split<;>first|(intro h;cases h;done)|exact oh
 |isnot=>rw[zg];split<;>first|(intro h;cases h;done)|exact oh
 |isin=>rw[zr];split<;>(try split)<;>first|(intro h;cases h;done)|(intro h;cases h;done)|exact mv|exact oK
 |notin=>rw[zl];split<;>(try split)<;>first|(intro h;cases h;done)|(intro h;cases h;done)|exact mv|exact oK
 |eq=>rw[zR];split<;>first|(intro h;cases h;done)|(intro h;cases h;done)
 |ne=>rw[zT];split<;>first|(intro h;cases h;done)|(intro h;cases h;done)
 |_=>cases a<;>first|(intro h;cases h;done)|(cases b<;>first|(intro h;cases h;done)|(intro h;cases h;done)|(rw[zQ];split<;>(intro h;cases h;done)))
theorem ue{a:D}{c:Str}:truth a≠.ex c:=by
 unfold truth;split<;>intro h<;>cases h
theorem ug{a b:D}{c:Str}:ixD a b≠.ex c:=by
 unfold ixD;split<;>(try split)<;>intro h<;>cases h
theorem xC{a:D}{l h:Option Int}{c:Str}:slD a l h≠.ex c:=by
 unfold slD;split<;>(try split)<;>intro h<;>cases h
theorem i9{x:D}{k:List D->R D}{c:Str}(h:∀xs,k xs≠.ex c):c_ x k≠.ex c:=by
 cases x with
 |lst xs=>exact h xs
 |_=>intro z;cases z
theorem rj{x y:D}{k:Int->Int->R D}{c:Str}(h:∀i j,k i j≠.ex c):iiR x y k≠.ex c:=by
 cases x with
 |int i=>
  cases y with
  |int j=>exact h i j
  |_=>intro z;cases z
 |_=>intro z;cases z
theorem fQ{α β:Type}{o:Option α}{k:α->R β}{c:Str}(h:∀a,k a≠.ex c):cW o k≠.ex c:=by
 cases o with
 |some a=>exact h a
 |none=>intro z;cases z
theorem dZ{α:Type}{a:α}{c:Str}:R.ok a≠.ex c:=by intro z;cases z
theorem eI{α:Type}{c:Str}:(R.no:R α)≠.ex c:=by intro z;cases z
theorem ml{xs:List D}{c:Str}:cJ xs≠.ex c:=fQ λ_=>by
 split
 ·exact dZ
 ·exact eI
theorem rT{mx:Bool}{ns:List Int}{c:Str}:iW mx ns≠.ex c:=by
 cases ns
 ·exact eI
 ·exact dZ
theorem D4{b:B1}{d:D}{c:Str}:b11 b d≠.ex c:=by
 cases b with
 |len=>exact fQ λ_=>dZ
 |tuple=>exact fQ λ_=>dZ
 |list=>exact fQ λ_=>dZ
 |all=>exact i9 λ_=>fQ λ_=>dZ
 |any=>exact i9 λ_=>fQ λ_=>dZ
 |sorted=>
  by_cases h:∃xs,d=.tup xs
  ·obtain⟨xs,rfl⟩:=h;show (if xs.length<64 then (match ints? xs with
    |some ns=>R.ok (D.lst ((sortI ns).map D.int))
    |none=>cJ xs)else R.no)≠R.ex c
   split
   ·split
    ·exact dZ
    ·exact ml
   ·exact eI
  by_cases h':∃kvs,d=.dic kvs
  ·obtain⟨kvs,rfl⟩:=h';show (if kvs.length<64 then R.ok (D.lst ((sortI (kvs.map (·.1))).map D.int))else R.no)≠R.ex c;split
   ·exact dZ
   ·exact eI
  have e:b11 .sorted d=c_ d λxs=>if xs.length<64 then (match ints? xs with
    |some ns=>.ok (.lst ((sortI ns).map D.int))
    |none=>match pairs? xs with
     |some ps=>.ok (.lst ((qq ps).map pairD))
     |none=>cJ xs)else cJ xs:=by cases d<;>first|exact absurd ⟨_,rfl⟩ h|exact absurd ⟨_,rfl⟩ h'|rfl
  rw[e];refine i9 λ_=>?_
  split
  ·split
   ·exact dZ
   ·split
    ·exact dZ
    ·exact ml
  ·exact ml
 |abs=>exact eI
 |int=>exact eI
 |bool=>exact eI
 |sum=>exact eI
 |min=>exact i9 λ_=>fQ λ_=>rT
 |max=>exact i9 λ_=>fQ λ_=>rT
theorem D1{b:B1}{ds:List D}{c:Str}:b1 b ds≠.ex c:=by
 match ds with
 | []=>exact eI
 | [_]=>exact D4
 | [x,y]=>
  cases b with
  |min=>exact rj λ_ _=>dZ
  |max=>exact rj λ_ _=>dZ
  |_=>exact eI
 |_::_::_::_=>exact eI
structure bC(g:Gc)(c:Cc)(e:E)(S:Sh)(H:Hp)(d:D)(v:V)(H':Hp):Prop where
 same:qf H H'
 rb:zz g H' S d v
 st:esc e=true->Rep g (hid H' S) d v
 fr:fresh c e=true->Fr g H S H' d v
 frc:eD c e=true->cX d=true->Fr g H S H' d v
structure SE(g:Gc)(c:Cc)(τ:Env)(σ:L2.St)(H:Hp)(S:Sh):Prop where
 len:τ.length=σ.length
 val:∀(i:Nat) (d:D),τ[i]? = some (some d)->∃v,σ[i]? = some (some v)/\zz g H S d v/\∀x,c.N[i]? = some x->c.own.contains x=false->Rep g (hid H S) d v
 sub:Sub S H
theorem SE.up{g:Gc}{c:Cc}{τ:Env}{σ:L2.St}{H H':Hp}{S:Sh}(s:SE g c τ σ H S)(e:qf H H'):SE g c τ σ H' S:=
 ⟨s.len,λi d h=>let ⟨v,h1,h2,h3⟩:=s.val i d h;⟨v,h1,h2.mono e,λx a b=>(h3 x a b).mono (qh e)⟩,s.sub.same e⟩
def tR{α:Type}(g:Gc)(E:XK)(H:Hp)(r:R α)(k:α->Prop):Prop:=match r with
 | .ok a=>k a
 | .ex c=>∀H' C,qf H H'->g.clA c=some C->E (.ref C) none H'
 | .no=>False
theorem tR.up{α:Type}{g:Gc}{E:XK}{H H':Hp}{r:R α}{k:α->Prop}(h:tR g E H r k)(e:qf H H'):tR g E H' r k:=by
 cases r with
 |ok a=>exact h
 |ex c=>exact λH2 C e2 hc=>h H2 C (e.trans e2) hc
 |no=>exact h
theorem tR.imp{α:Type}{g:Gc}{E:XK}{H:Hp}{r:R α}{k k':α->Prop}(h:tR g E H r k)(i:∀a,k a->k' a):tR g E H r k':=by
 cases r with
 |ok a=>exact i a h
 |ex c=>exact h
 |no=>exact h
section
variable(w:W)(g:Gc)(c:Cc)(E:XK)
def tE(e:EV.E):TE:=λσ H Q=>∃τ S,SE g c τ σ H S/\tR g E H (evE w e τ) λd=>∀v H',bC g c e S H d v H'->Q v H'
def tT(t:T):TT:=λσ H Q=>∃τ S,SE g c τ σ H S/\tR g E H (evT w t τ) λb=>∀H',qf H H'->Q b H'
def tA(es:Es):TA:=λσ H Q=>∃τ S,SE g c τ σ H S/\tR g E H (zo w es τ) λds=>∀vs H',qf H H'->fP g H' S ds vs->(eT es=true->qy g (hid H' S) ds vs)->Q vs H'
def tOe(o:OE):TO:=λσ H Q=>∃τ S,SE g c τ σ H S/\tR g E H (evO w o τ) λi=>∀H',qf H H'->Q i H'
def Goes(g:Gc)(J:L2.It)(ds:List D)(H:Hp)(S:Sh):Prop:=
 (∀i,ds.length<=i->J.stop i H)/\∀i d,ds[i]? = some d->J.go i H/\∀x H',J.yld i H x H'->qf H H'/\Rep g (hid H' S) d x
def tIt(it:It):TI:=λσ H R=>∃τ S,SE g c τ σ H S/\tR g E H (evI w it τ) λds=>∀J H',qf H H' ->
 (∀H2 S2,qf H' H2->qf (hid H' S) (hid H2 S2)->Sub S2 H2->Goes g J ds H2 S2)->(owned it=false->∀H2 S2,qf (hid H' S) (hid H2 S2)->Sub S2 H2->Goes g J ds H2 S2)->R J H'
end
theorem PE.imp{X:Cx}{e:Expr}{t t':TE}(h:PE X e t)(i:∀σ H Q,t' σ H Q->t σ H Q):PE X e t':=λpins s σ H Q I q=>h pins s σ H Q I (i _ _ _ q)
theorem PT.imp{X:Cx}{e:Expr}{t t':TT}(h:PT X e t)(i:∀σ H Q,t' σ H Q->t σ H Q):PT X e t':=λpins s σ H Q I q=>h pins s σ H Q I (i _ _ _ q)
theorem PW.imp{X:Cx}{e:Expr}{t t':TT}(h:PW X e t)(i:∀σ H Q,t' σ H Q->t σ H Q):PW X e t':=λwh pins s σ H Q I q=>h wh pins s σ H Q I (i _ _ _ q)
theorem PA.imp{X:Cx}{e:List Expr}{t t':TA}(h:PA X e t)(i:∀σ H Q,t' σ H Q->t σ H Q):PA X e t':=λpos pins s σ H Q I q=>h pos pins s σ H Q I (i _ _ _ q)
theorem PO.imp{X:Cx}{e:Option Expr}{t t':TO}(h:PO X e t)(i:∀σ H Q,t' σ H Q->t σ H Q):PO X e t':=λpins s σ H Q I q=>h pins s σ H Q I (i _ _ _ q)
theorem PI.imp{X:Cx}{tg e:Expr}{t t':TI}(h:PI X tg e t)(i:∀σ H Q,t' σ H Q->t σ H Q):PI X tg e t':=λpins s σ H Q I q=>h pins s σ H Q I (i _ _ _ q)
theorem PS.imp{X:Cx}{e:Stmt}{t t':TS}(h:PS X e t)(i:∀D σ H,t' D σ H->t D σ H):PS X e t':=λpins s σ H Q I q=>h pins s σ H Q I (i _ _ _ q)
theorem PSs.imp{X:Cx}{e:List Stmt}{t t':TS}(h:PSs X e t)(i:∀D σ H,t' D σ H->t D σ H):PSs X e t':=λpins s σ H Q I q=>h pins s σ H Q I (i _ _ _ q)
section
variable{w:W}{g:Gc}{c:Cc}{E:XK}{τ:Env}{σ:L2.St}{H H0:Hp}{S:Sh}
theorem zc{α:Type}{e:EV.E}{f:D->R α}{P:α->Prop}{Q:VK}(se:SE g c τ σ H S)(h:tR g E H ((evE w e τ).bind f) P)(k:∀d v H',evE w e τ=.ok d->bC g c e S H d v H'->tR g E H' (f d) P->Q v H'):tE w g c E e σ H Q:=by
 refine⟨τ,S,se,?_⟩;cases q:evE w e τ with
 |ok d=>rw[q]at h;exact λv H' p=>k d v H' q p (tR.up h p.same)
 |ex x=>rw[q]at h;exact h
 |no=>rw[q]at h;exact h
theorem jM{α:Type}{t:T}{f:Bool->R α}{P:α->Prop}{Q:Bool->Hp->Prop}(se:SE g c τ σ H S)(h:tR g E H ((evT w t τ).bind f) P)(k:∀b H',evT w t τ=.ok b->qf H H'->tR g E H' (f b) P->Q b H'):tT w g c E t σ H Q:=by
 refine⟨τ,S,se,?_⟩;cases q:evT w t τ with
 |ok d=>rw[q]at h;exact λH' p=>k d H' q p (tR.up h p)
 |ex x=>rw[q]at h;exact h
 |no=>rw[q]at h;exact h
theorem gH{α:Type}{es:Es}{f:List D->R α}{P:α->Prop}{Q:List V->Hp->Prop}(se:SE g c τ σ H S)(h:tR g E H ((zo w es τ).bind f) P)
  (k:∀ds vs H',zo w es τ=.ok ds->qf H H'->fP g H' S ds vs->(eT es=true->qy g (hid H' S) ds vs)->tR g E H' (f ds) P->Q vs H'):tA w g c E es σ H Q:=by
 refine⟨τ,S,se,?_⟩;cases q:zo w es τ with
 |ok d=>rw[q]at h;exact λvs H' p r r'=>k d vs H' q p r r' (tR.up h p)
 |ex x=>rw[q]at h;exact h
 |no=>rw[q]at h;exact h
theorem tN{α:Type}{o:OE}{f:Option Int->R α}{P:α->Prop}{Q:Option Int->Hp->Prop}(se:SE g c τ σ H S)(h:tR g E H ((evO w o τ).bind f) P)(k:∀b H',evO w o τ=.ok b->qf H H'->tR g E H' (f b) P->Q b H'):tOe w g c E o σ H Q:=by
 refine⟨τ,S,se,?_⟩;cases q:evO w o τ with
 |ok d=>rw[q]at h;exact λH' p=>k d H' q p (tR.up h p)
 |ex x=>rw[q]at h;exact h
 |no=>rw[q]at h;exact h
theorem nq{e:EV.E}(h:fresh c e=true):eD c e=true:=by
 cases e<;>first|exact h|cases h
theorem bC.of{e:EV.E}{d:D}{v:V}{H':Hp}(s:qf H H')(r:Rep g (hid H' S) d v)(f:eD c e=false):bC g c e S H d v H':=⟨s,.inl r,λ_=>r,(λz=>by rw[nq z]at f;cases f),λz=>by rw[f]at z;cases z⟩
theorem bC.new{e:EV.E}{d:D}{v:V}{H':Hp}(s:qf H H')(r:Rep g (hid H' S) d v)(f:Fr g H S H' d v):bC g c e S H d v H':=⟨s,.inl r,λ_=>r,λ_=>f,λ_ _=>f⟩
theorem Fr.low{d:D}{v:V}{H1 H':Hp}(f:Fr g H1 S H' d v)(e:qf H H1):Fr g H S H' d v:=by
 obtain⟨a,o,h1,h3,h4,h5⟩:=f;exact⟨a,o,h1,e.free h3,h4,h5⟩
end
noncomputable def b1N:B1->Str
 | .len=>"len"
 | .tuple=>"tuple"
 | .list=>"list"
 | .sorted=>"sorted"
 | .all=>"all"
 | .any=>"any"
 | .sum=>"sum"
 | .min=>"min"
 | .max=>"max"
 | .abs=>"abs"
 | .int=>"int"
 | .bool=>"bool"
theorem E9:∀b,bV (b1N b)=some (b1V b)
 | .len | .tuple | .list | .sorted | .all | .any | .sum | .min | .max | .abs | .int | .bool=>by decide +kernel
def spF(w:W)(g:Gc)(x:Str)(fr:Bool):Sp:=λvs H Q E=>∃S ds,Sub S H/\qy g (hid H S) ds vs /\
 tR g E H (w.call x ds) λd=>∀v H',qf H H'->Rep g (hid H' S) d v->(fr=true->cX d=true->Fr g H S H' d v)->Q v H'
structure jC(w:W)(g:Gc)(P:aF)(wl:aD)(mg:Str->Option ae)(base:Heap)(A:aE)(calm:Bool)(x:Str)(f:Addr)(fr:Bool):Prop where
 at_:mg x=some (.ref f)
 kp:cR g.K (.ref f)=true
 fn:∃k fd ps,Binds g.K fd ps []/\((calm=true/\fH P wl g.K mg base (CX1 P wl) k f fd ps (spF w g x fr)/\cC k A)\/(calm=false/\i_ P wl g.K mg base (CX1 P wl) k f fd ps (spF w g x fr)/\fb k A))
def GM(w:W)(g:Gc)(P:aF)(wl:aD)(mg:Str->Option ae)(base:Heap)(A:aE)(calm:Bool)(x:Str):GK->Prop
 | .fn fr=>∃f,g.fnA x=some f/\jC w g P wl mg base A calm x f fr
 | .val=>∃u v d,mg x=some u/\RelV v u/\w.glb x=some d/\∀H,Rep g H d v
 | .bi b=>mg x=none/\x=b1N b/\∃id,b1V b=.builtin id
 | .rng=>mg x=none/\x = "range"
 | .enum=>mg x=none/\x = "enumerate"
 | .zip=>mg x=none/\x = "zip"
 | .isi=>mg x=none/\x = "isinstance"
 | .ty n b=>mg x=none/\bV x=some (.type n)/\(n∈["int","bool","str","list","tuple"]\/n = "ValueError")/\∀b',b=some b'->x=b1N b'/\b1V b'=.type n
 | .exc=>∃C,mg x=some (.ref C)/\g.clA x=some C
 | .exk=>∃C,mg x=some (.ref C)/\g.clA x=some C
 | .set=>mg x=none/\bV x=some (.type "set")
 | .rvd=>mg x=none/\x = "reversed"
structure XO(w:W)(g:Gc)(c:Cc)(E:XK)(X:Cx):Prop where
 K:X.K=g.K
 nm:X.env.scope.names=c.nm
 N:X.N=c.N
 nd:c.N.Nodup
 calm:c.calm=true->X.calm=true
 units:X.A.units+64<cLine
 fn:∀x,(c.fnc=true\/c.oc.contains x=true)->X.fn x=true
 kind:X.env.scope.kind=.function
 pass:Passes (CX1 X.prog X.w) X E
 gok:∀x k,c.G.lookup x=some k->GM w g X.prog X.w X.mg X.base X.A X.calm x k
 fns:X.calm=true->∀x f,g.fnA x=some f->∃fr,jC w g X.prog X.w X.mg X.base X.A X.calm x f fr
 -- what isinstance says of a caught error
 sub:∀k cl b,w.sub k cl=some b->∃C cv,g.clA k=some C/\dq g.K C/\bF g.K (.ref C) cv=some b/\match cl with
  | .ty n=>n = "ValueError"/\cv=.type n
  | .ex x=>∃D,g.clA x=some D/\cv=.ref D
section
variable{w:W}{g:Gc}{c:Cc}{E:XK}{X:Cx}
theorem zt{x:Str}{i:Nat}(h:loc c x=some i):c.N[i]? = some x/\(c.nm.lookup x=some .local\/c.nm.lookup x=some .cell\/c.nm.lookup x=some .free)/\(x==("__debug__" : Str))=false/\(x==("__classdict__" : Str))=false:=by
 unfold loc at h;split at h
 ·cases h
 ·rename_i hd
  have FJ:(x==("__debug__" : Str))=false/\(x==("__classdict__" : Str))=false:=by simpa using hd
  have fin:∀{j},(if c.N[j]? = some x then some j else none)=some i->c.N[i]? = some x:=λ{j} z=>by
   split at z
   ·cases z;assumption
   ·cases z
  split at h
  ·rename_i q;exact⟨fin h,.inl q,FJ⟩
  ·rename_i q;exact⟨fin h,.inr (.inl q),FJ⟩
  ·rename_i q;exact⟨fin h,.inr (.inr q),FJ⟩
  ·cases h
theorem zf{x:Str}{k:GK}(h:glob c x=some k):c.nm.lookup x=some .globalImplicit/\c.G.lookup x=some k/\(x==("__debug__" : Str))=false/\x≠"__name__":=by
 unfold glob at h;split at h
 ·cases h
 ·rename_i hd
  have FJ:(x==("__debug__" : Str))=false/\(x==("__name__" : Str))=false:=by simpa using hd
  split at h
  ·rename_i q;exact⟨q,h,FJ.1,by simpa using FJ.2⟩
  ·cases h
theorem XO.gl(O:XO w g c E X){x:Str}{k:GK}(h:glob c x=some k):Gl X x:=by
 show X.env.scope.names.lookup x=_;rw[O.nm];exact(zf h).1
theorem XO.gm(O:XO w g c E X){x:Str}{k:GK}(h:glob c x=some k):GM w g X.prog X.w X.mg X.base X.A X.calm x k:=O.gok x k (zf h).2.1
theorem qu{e:Expr}{es:List Expr}{env:PySem.Env}(h:isStar e=false):aX (e::es) env=(false,eval e env)::aX es env:=by
 cases e<;>first|rfl|(exact Bool.noConfusion h)
theorem jo{es:List Expr}{env:PySem.Env}{pos:Pos}:(∀e∈es,isStar e=false)->(backTo pos (aX es env)).any (·.1)=false:=by
 induction es with
 |nil=>intro _;rfl
 |cons e es ih=>
  intro h;rw[qu (h e aM)];show (false||(backTo pos (aX es env)).any (·.1))=false;rw[ih λe he=>h e (aR _ he)]
  rfl
theorem gv:∀{n:Nat}{es:List Expr}{ir:Es},cEs n c es=some ir->∀e∈es,isStar e=false
 | 0,_,_,h=>by simp[cEs]at h
 |n+1,[],_,_=>by simp
 |n+1,e::es,ir,h=>by
  simp only[cEs]at h;cases hs:isStar e with
  |true=>simp[hs]at h
  |false=>
   simp only[hs,bD,if_false,aP,aL]at h;obtain⟨_,_,r,hr,_⟩:=h;intro x hx;rcases aI.mp hx with rfl|hx
   ·exact hs
   ·exact gv hr x hx
theorem DU{x:Str}{f:Addr}{fr:Bool}{e:Expr}{es:List Expr}{p pos:Pos}{t:TA}(O:XO w g c E X)(C:jC w g X.prog X.w X.mg X.base X.A X.calm x f fr)(hg:Gl X x)(hd:(x==("__debug__" : Str))=false)(ha:PA X (e::es) t)
  (hs:∀z∈e::es,isStar z=false):PE X (.Call (.Name x p) (e::es) [] pos) (mK (spF w g x fr) [] E t):=by
 obtain⟨k,fd,ps,hb,h⟩:=C.fn;have he:=qu (es:=es) (env:=X.env) (hs e aM);have hp:=jo (env:=X.env) (pos:=pos) λz hz=>hs z (aR _ hz)
 rw[<-O.K]at hb h;rcases h with ⟨_,F,r⟩|⟨_,F,r⟩
 ·exact xi F r hg C.at_ (by rw[O.K];exact C.kp) hb .nil O.pass ha hd he hp
 ·exact AZ F r hg C.at_ (by rw[O.K];exact C.kp) hb .nil O.pass ha hd he hp
end
end EV
namespace L2
open PySem PySem.Spec PyProof.Rows
section
variable{X:Cx}
end
end L2
namespace EV
open PySem PySem.Spec PySem.P PyProof.Rows L2
section
variable{w:W}{g:Gc}{c:Cc}{E:XK}{X:Cx}{a b d f:Expr}{ia ib GQ Ik:EV.E}{pos p2:Pos}{ta tb:T}
theorem j4{e:Expr}{v:V}{dd:D}(h:PE X e (tC v))(r:∀H,Rep g H dd v):PE X e (tE w g c E (.con dd)):=PE.imp h λσ H Q ⟨τ,S,se,k⟩=>k v H (bC.of (qf.refl _) (r _) rfl)
theorem mm{x:Str}{i:Nat}(O:XO w g c E X)(h:loc c x=some i):PE X (.Name x pos) (tE w g c E (if c.own.contains x then .own i else .var i)):=by
 obtain⟨h1,h2,h3,h4⟩:=zt h;refine PE.imp (f_ (i:=i) (by rw[O.N];exact h1) (by unfold fi;rw[O.nm];exact h2) h3 h4) λσ H Q ⟨τ,S,se,k⟩=>?_
 have key:∀e,evE w e τ=zu τ i->eD c e=false->(esc e=true->c.own.contains x=false)->tR g E H (evE w e τ) (λd=>∀v H',bC g c e S H d v H'->Q v H')->fK i σ H Q:=λe e1 e2 e3 k=>by
  rw[e1]at k;unfold zu at k;cases q:τ[i]? with
  |none=>rw[q]at k;exact k.elim
  |some o=>
   cases o with
   |none=>rw[q]at k;exact k.elim
   |some d=>
    rw[q]at k;obtain⟨v,z1,z2,z3⟩:=se.val i d q;exact⟨v,z1,k v H ⟨qf.refl _,z2,λz=>z3 x h1 (e3 z),(λz=>by rw[nq z]at e2;cases e2),λz=>by rw[e2]at z;cases z⟩⟩
 cases ho:c.own.contains x with
 |true=>rw[ho]at k;exact key (.own i) (by simp[qZ,zh,zj,zi,ze,qF,zk,qC,qL,qG,qJ,qO,qS,qP,qK,qB,qN,qE,qx,qI,qA,qT,qW,qM,qV,qU,qR]) rfl (by intro z;cases z) k
 |false=>rw[ho]at k;exact key (.var i) (by simp[qZ,zh,zj,zi,ze,qF,zk,qC,qL,qG,qJ,qO,qS,qP,qK,qB,qN,qE,qx,qI,qA,qT,qW,qM,qV,qU,qR]) rfl (λ_=>ho) k
theorem xZ{x:Str}(O:XO w g c E X)(h:glob c x=some .val):PE X (.Name x pos) (tE w g c E (.glb x)):=by
 obtain⟨u,v,d,h1,h2,h3,h4⟩:=O.gm h;refine PE.imp (lM (O.gl h) h1 h2 (zf h).2.2.1) λσ H Q ⟨τ,S,se,k⟩=>?_
 simp only[qZ,zh,zj,zi,ze,qF,zk,qC,qL,qG,qJ,qO,qS,qP,qK,qB,qN,qE,qx,qI,qA,qT,qW,qM,qV,qU,qR,h3]at k;exact k v H (bC.of (qf.refl _) (h4 _) rfl)
theorem pe{τ:EV.Env}{e:EV.E}{d:D}(h:isL e=true)(he:evE w e τ=.ok d):lB d=true:=by
 cases e<;>first|(cases h;done)|skip
 ·simp only[qZ,zh,zj,zi,ze,qF,zk,qC,qL,qG,qJ,qO,qS,qP,qK,qB,qN,qE,qx,qI,qA,qT,qW,qM,qV,qU,qR]at he;cases q:zo w ‹_› τ with
  |ok ds=>rw[q]at he;cases he;rfl
  |ex z=>rw[q]at he;cases he
  |no=>rw[q]at he;cases he
 ·simp only[qZ,zh,zj,zi,ze,qF,zk,qC,qL,qG,qJ,qO,qS,qP,qK,qB,qN,qE,qx,qI,qA,qT,qW,qM,qV,qU,qR]at he;cases q:evI w ‹_› τ with
  |ok ds=>
   rw[q]at he;simp only[R.bind_ok]at he;split at he
   ·cases he
   ·generalize cH _ _ _ _=r at he;cases r with
    |ok o=>cases he;rfl
    |ex z=>cases he
    |no=>cases he
  |ex z=>rw[q]at he;cases he
  |no=>rw[q]at he;cases he
theorem AO(O:XO w g c E X){op:Operator}{o:O2}(ho:o2 op=some o)(ha:PE X a (tE w g c E ia))(hb:PE X b (tE w g c E ib)):PE X (.BinOp a op b pos) (tE w g c E (.op o ia ib)):=
 PE.imp (uP (uX O.K ho) ha hb) λσ H Q ⟨τ,S,se,k⟩=>by
  simp only[qZ,zh,zj,zi,ze,qF,zk,qC,qL,qG,qJ,qO,qS,qP,qK,qB,qN,qE,qx,qI,qA,qT,qW,qM,qV,qU,qR]at k;refine zc se k λda va H1 e1 p1 k1=>zc (se.up p1.same) k1 λdb vb H2 e2 p2 k2=>⟨S,da,db,(se.up (p1.same.trans p2.same)).sub,p1.rb.mono p2.same,p2.rb,?_⟩
  cases q:op2 o da db with
  |ok r=>
   rw[q]at k2;have fw:fresh c (.op o ia ib)=true->∀{v H'},(lB da=true->Fr g H2 S H' r v)->Fr g H S H' r v:=λz {v H'} f=>by
    replace z:(oI o&&isL ia||o==.add&&isL ib)=true:=z;simp only[bR,aW,beq_iff_eq]at z
    refine(f ?_).low (p1.same.trans p2.same);rcases z with z|⟨rfl,z⟩
    ·exact pe z.2 e1
    ·have:=pe z e2;cases db<;>first|(cases this;done)|skip
     cases da<;>first|rfl|(cases q;done)
   exact λv H' s r f=>k2 v H' ⟨(p1.same.trans p2.same).trans s,.inl r,λ_=>r,λz=>fw z f,λz _=>fw z f⟩
  |ex z=>exact Ao q
  |no=>rw[q]at k2;exact k2
theorem Bc(ha:PE X a (tE w g c E ia)):PE X (.UnaryOp .USub a pos) (tE w g c E (.neg ia)):=
 PE.imp (BF Aa ha) λσ H Q ⟨τ,S,se,k⟩=>by
  simp only[qZ,zh,zj,zi,ze,qF,zk,qC,qL,qG,qJ,qO,qS,qP,qK,qB,qN,qE,qx,qI,qA,qT,qW,qM,qV,qU,qR]at k;refine zc se k λda va H1 e1 p1 k1=>?_
  cases da with
  |int i=>exact⟨i,p1.rb.int,k1 _ _ (bC.of p1.same (.int _) rfl)⟩
  |_=>exact k1.elim
theorem pG(O:XO w g c E X)(ix:Bool){x:Str}{i:Nat}{ap cp p q:Pos}{kk:Nat}(h:loc c x=some i)(hl:(ap.endLine==cp.line)=true) :
  PE X (.Call (.Attribute (.Name x p) (if ix then "index" else "count") ap) [.Constant (.bool true) kk q] [] cp) (tE w g c E (.mth ix (if c.own.contains x then .own i else .var i))):=by
 have FI:=qu (e:=.Constant (.bool true) kk q) (es:=[]) (env:=X.env) rfl;have pa:PA X [.Constant (.bool true) kk q] _:=zU o7 eG FI;have hK:=O.K;cases ix with
 |false=>
  refine PE.imp (hU (X:=X) (apos:=ap) (cpos:=cp) PySem.F.plainAttrs_list PySem.F.slot_list_count (by rfl) ur (mm O h) pa rfl (by rw[FI];rfl) hl FI rfl) λσ H Q ⟨τ,S,se,k⟩=>?_
  simp only[qZ,zh,zj,zi,ze,qF,zk,qC,qL,qG,qJ,qO,qS,qP,qK,qB,qN,qE,qx,qI,qA,qT,qW,qM,qV,qU,qR]at k;refine zc se k λda va H1 e1 p1 k1=>?_
  cases da with
  |lst xs=>
   obtain⟨a,vs,rfl,h1,h2⟩:=p1.rb.lst;simp only[kg,c_]at k1;cases e:bools? xs with
   |none=>rw[e]at k1;exact k1.elim
   |some bs=>
    rw[e]at k1;have:=h2.bools e;subst this;exact⟨.inl ⟨rfl,_,by rw[hK];exact h1⟩,a,bs,rfl,rfl,by rw[hK];exact h1,k1 _ _ (bC.of p1.same (.int _) rfl)⟩
  |_=>exact k1.elim
 |true=>
  refine PE.imp (hU (X:=X) (apos:=ap) (cpos:=cp) PySem.F.plainAttrs_list PySem.F.slot_list_index (by rfl) BN (mm O h) pa rfl (by rw[FI];rfl) hl FI rfl) λσ H Q ⟨τ,S,se,k⟩=>?_
  simp only[qZ,zh,zj,zi,ze,qF,zk,qC,qL,qG,qJ,qO,qS,qP,qK,qB,qN,qE,qx,qI,qA,qT,qW,qM,qV,qU,qR]at k;refine zc se k λda va H1 e1 p1 k1=>?_
  cases da with
  |lst xs=>
   obtain⟨a,vs,rfl,h1,h2⟩:=p1.rb.lst;simp only[kg,c_]at k1;cases e:bools? xs with
   |none=>rw[e]at k1;exact k1.elim
   |some bs=>
    rw[e]at k1;have:=h2.bools e;subst this;simp only[cW]at k1;rw[if_pos trivial]at k1;cases ej:bs.findIdx? id with
    |none=>rw[ej]at k1;exact k1.elim
    |some j=>
     rw[ej]at k1;exact⟨.inl ⟨rfl,_,by rw[hK];exact h1⟩,a,bs,j,rfl,rfl,by rw[hK];exact h1,ej,k1 _ _ (bC.of p1.same (.int _) rfl)⟩
  |_=>exact k1.elim
theorem DZ(O:XO w g c E X){o:Expr}{m:Str}{ap cp:Pos}{as:List Expr}{e:EV.E}(h:cMt c o m ap as cp=some e):PE X (.Call (.Attribute o m ap) as [] cp) (tE w g c E e):=by
 unfold cMt at h;split at h
 ·split at h
  ·split at h
   ·split at h
    ·split at h
     ·rename_i hx
      split at h
      ·rename_i hb
       simp only[aW]at hb;obtain⟨rfl,hl⟩:=hb;split at h
       ·rename_i hm
        subst hm;cases h;exact pG O false hx hl
       ·split at h
        ·rename_i hm
         subst hm;cases h;exact pG O true hx hl
        ·cases h
      ·cases h
     ·cases h
    ·cases h
   ·cases h
  ·cases h
 ·cases h
theorem By(ha:PE X a (tE w g c E ia)):PE X (.UnaryOp .Not a pos) (tE w g c E (.not ia)):=
 PE.imp (yA ha) λσ H Q ⟨τ,S,se,k⟩=>by
  simp only[qZ,zh,zj,zi,ze,qF,zk,qC,qL,qG,qJ,qO,qS,qP,qK,qB,qN,qE,qx,qI,qA,qT,qW,qM,qV,qU,qR]at k;refine zc se k λda va H1 e1 p1 k1=>?_
  cases da with
  |bl i=>exact⟨i,p1.rb.bl,k1 _ _ (bC.of p1.same (.bl _) rfl)⟩
  |_=>exact k1.elim
theorem bC.pass{e e':EV.E}{S:Sh}{H H1 H':Hp}{dd:D}{v:V}(s:qf H H1)(p:bC g c e S H1 dd v H')(h:esc e=true)(f:eD c e'=false):bC g c e' S H dd v H':=bC.of (s.trans p.same) (p.st h) f
theorem bC.passC{e e':EV.E}{S:Sh}{H H1 H':Hp}{dd:D}{v:V}(s:qf H H1)(p:bC g c e S H1 dd v H')(h:esc e=true)(f:fresh c e'=false)(fc:eD c e'=true->eD c e=true):bC g c e' S H dd v H':=⟨s.trans p.same,.inl (p.st h),λ_=>p.st h,(λz=>by rw[f]at z;cases z),λz l=>(p.frc (fc z) l).low s⟩
theorem Am{rest:List Expr}{ir:EV.E}(ha:PE X a (tE w g c E ia))(hb:PE X (.BoolOp .And (b::rest) pos) (tE w g c E ir))(he:esc ir=true):PE X (.BoolOp .And (a::b::rest) pos) (tE w g c E (.and ia ir)):=
 PE.imp (uE ha hb) λσ H Q ⟨τ,S,se,k⟩=>by
  simp only[qZ,zh,zj,zi,ze,qF,zk,qC,qL,qG,qJ,qO,qS,qP,qK,qB,qN,qE,qx,qI,qA,qT,qW,qM,qV,qU,qR]at k;refine zc se k λda va H1 e1 p1 k1=>?_
  cases da with
  |bl i=>
   refine⟨i,p1.rb.bl,?_⟩;cases i with
   |true=>
    refine⟨τ,S,se.up p1.same,tR.imp k1 λd hk v H' p=>hk v H' (p.pass p1.same he rfl)⟩
   |false=>exact k1 _ _ (bC.of p1.same (.bl _) rfl)
  |_=>exact k1.elim
theorem yy{rest:List Expr}{ir:EV.E}(ha:PE X a (tE w g c E ia))(hb:PE X (.BoolOp .Or (b::rest) pos) (tE w g c E ir))(he:esc ir=true):PE X (.BoolOp .Or (a::b::rest) pos) (tE w g c E (.or ia ir)):=
 PE.imp (CD ha hb) λσ H Q ⟨τ,S,se,k⟩=>by
  simp only[qZ,zh,zj,zi,ze,qF,zk,qC,qL,qG,qJ,qO,qS,qP,qK,qB,qN,qE,qx,qI,qA,qT,qW,qM,qV,qU,qR]at k;refine zc se k λda va H1 e1 p1 k1=>?_
  cases da with
  |bl i=>
   refine⟨i,p1.rb.bl,?_⟩;cases i with
   |false=>
    refine⟨τ,S,se.up p1.same,tR.imp k1 λd hk v H' p=>hk v H' (p.pass p1.same he rfl)⟩
   |true=>exact k1 _ _ (bC.of p1.same (.bl _) rfl)
  |_=>exact k1.elim
theorem gC{op:CmpOp}{b:Expr}(h:zx b=true):behindInMarks op b=false:=by cases b<;>first|rfl|(exact Bool.noConfusion h)
theorem eB{o:C2}{S:Sh}{H:Hp}{da db:D}{va vb:V}{r:R Bool}{P:Bool->Prop}{Q:VK}(ra:zz g H S da va)(rb:zz g H S db vb)(q:tR g E H (qm o da db) P)(k:∀z,qm o da db=.ok z->P z->Q (.bl z) H):rCm g o va vb H Q:=by
 refine⟨S,da,db,ra,rb,?_⟩;cases e:qm o da db with
 |ok z=>rw[e]at q;exact k z e q
 |ex z=>exact wD e
 |no=>rw[e]at q;exact q
theorem tR.bnd{α β:Type}{H:Hp}{r:R α}{f:α->R β}{P:β->Prop}(h:tR g E H (r.bind f) P):tR g E H r λa=>tR g E H (f a) P:=by
 cases r with
 |ok a=>exact h
 |ex z=>exact h
 |no=>exact h
theorem Cd(O:XO w g c E X){op:CmpOp}(ha:PE X a (tE w g c E ia))(hb:PE X b (tE w g c E ib))(hs:zx b=true):PE X (.Compare a [op] [b] pos) (tE w g c E (.cmp (c2 op) ia ib)):=
 PE.imp (vW (eh O.K O.units op) ha hb (gC hs)) λσ H Q ⟨τ,S,se,k⟩=>by
  simp only[qZ,zh,zj,zi,ze,qF,zk,qC,qL,qG,qJ,qO,qS,qP,qK,qB,qN,qE,qx,qI,qA,qT,qW,qM,qV,qU,qR]at k;refine zc se k λda va H1 e1 p1 k1=>zc (se.up p1.same) k1 λdb vb H2 e2 p2 k2=>?_
  exact eB (r:=.no) (p1.rb.mono p2.same) p2.rb (tR.bnd k2) λz _ q=>q _ _ (bC.of (p1.same.trans p2.same) (.bl _) rfl)
theorem Ai(O:XO w g c E X){op:CmpOp}(ha:PE X a (tE w g c E ia))(hb:PE X b (tE w g c E ib))(hs:zx b=true):PT X (.Compare a [op] [b] pos) (tT w g c E (.cmp (c2 op) ia ib)):=
 PT.imp (v_ (eh O.K O.units op) ha hb (gC hs)) λσ H Q ⟨τ,S,se,k⟩=>by
  simp only[fD,fM,fg,fA,fG,fB,fI]at k;refine zc se k λda va H1 e1 p1 k1=>zc (se.up p1.same) k1 λdb vb H2 e2 p2 k2=>?_
  exact eB (r:=.no) (p1.rb.mono p2.same) p2.rb k2 λz _ q=>⟨z,rfl,q _ (p1.same.trans p2.same)⟩
theorem vo(O:XO w g c E X){op FO:CmpOp}(ha:PE X a (tE w g c E ia))(hb:PE X b (tE w g c E ib))(hd:PE X d (tE w g c E GQ))(FY:zx d=true):PE X (.Compare a [op,FO] [b,d] pos) (tE w g c E (.cmp2 (c2 op) (c2 FO) ia ib GQ)):=
 PE.imp (wN (eh O.K O.units op) (eh O.K O.units FO) ha hb hd (gC FY)) λσ H Q ⟨τ,S,se,k⟩=>by
  simp only[qZ,zh,zj,zi,ze,qF,zk,qC,qL,qG,qJ,qO,qS,qP,qK,qB,qN,qE,qx,qI,qA,qT,qW,qM,qV,qU,qR]at k;refine zc se k λda va H1 e1 p1 k1=>zc (se.up p1.same) k1 λdb vb H2 e2 p2 k2=>?_
  have s2:=p1.same.trans p2.same;refine eB (r:=.no) (p1.rb.mono p2.same) p2.rb (tR.bnd k2) λz _ q=>⟨z,rfl,?_⟩
  cases z with
  |true=>
   exact zc (se.up s2) q λdd vd H3 e3 p3 k3=>eB (r:=.no) (p2.rb.mono p3.same) p3.rb (tR.bnd k3) λz _ q=>q _ _ (bC.of (s2.trans p3.same) (.bl _) rfl)
  |false=>exact q _ _ (bC.of s2 (.bl _) rfl)
theorem xa(O:XO w g c E X){op FO:CmpOp}(ha:PE X a (tE w g c E ia))(hb:PE X b (tE w g c E ib))(hd:PE X d (tE w g c E GQ))(FY:zx d=true):PT X (.Compare a [op,FO] [b,d] pos) (tT w g c E (.cmp2 (c2 op) (c2 FO) ia ib GQ)):=
 PT.imp (BG (eh O.K O.units op) (eh O.K O.units FO) ha hb hd (gC FY)) λσ H Q ⟨τ,S,se,k⟩=>by
  simp only[fD,fM,fg,fA,fG,fB,fI]at k;refine zc se k λda va H1 e1 p1 k1=>zc (se.up p1.same) k1 λdb vb H2 e2 p2 k2=>?_
  have s2:=p1.same.trans p2.same;refine eB (r:=.no) (p1.rb.mono p2.same) p2.rb (tR.bnd k2) λz _ q=>⟨z,rfl,?_⟩
  cases z with
  |true=>
   exact zc (se.up s2) q λdd vd H3 e3 p3 k3=>eB (r:=.no) (p2.rb.mono p3.same) p3.rb k3 λz _ q=>⟨z,rfl,q _ (s2.trans p3.same)⟩
  |false=>exact⟨false,rfl,q _ s2⟩
theorem Ac(O:XO w g c E X){op FO FP:CmpOp}(ha:PE X a (tE w g c E ia))(hb:PE X b (tE w g c E ib))(hd:PE X d (tE w g c E GQ))(hf:PE X f (tE w g c E Ik))(FY:zx f=true):PE X (.Compare a [op,FO,FP] [b,d,f] pos) (tE w g c E (.cmp3 (c2 op) (c2 FO) (c2 FP) ia ib GQ Ik)):=
 PE.imp (CP (eh O.K O.units op) (eh O.K O.units FO) (eh O.K O.units FP) ha hb hd hf (gC FY)) λσ H Q ⟨τ,S,se,k⟩=>by
  simp only[qZ,zh,zj,zi,ze,qF,zk,qC,qL,qG,qJ,qO,qS,qP,qK,qB,qN,qE,qx,qI,qA,qT,qW,qM,qV,qU,qR]at k;refine zc se k λda va H1 e1 p1 k1=>zc (se.up p1.same) k1 λdb vb H2 e2 p2 k2=>?_
  have s2:=p1.same.trans p2.same;refine eB (r:=.no) (p1.rb.mono p2.same) p2.rb (tR.bnd k2) λz _ q=>⟨z,rfl,?_⟩
  cases z with
  |true=>
   refine zc (se.up s2) q λdd vd H3 e3 p3 k3=>eB (r:=.no) (p2.rb.mono p3.same) p3.rb (tR.bnd k3) λz _ q=>⟨z,rfl,?_⟩
   have s3:=s2.trans p3.same;cases z with
   |true=>exact zc (se.up s3) q λdf vf H4 e4 p4 k4=>eB (r:=.no) (p3.rb.mono p4.same) p4.rb (tR.bnd k4) λz _ q=>q _ _ (bC.of (s3.trans p4.same) (.bl _) rfl)
   |false=>exact q _ _ (bC.of s3 (.bl _) rfl)
  |false=>exact q _ _ (bC.of s2 (.bl _) rfl)
theorem wq{a b c d:Expr}{ta tb tc td:TE}{pos:Pos}{op FO FP:CmpOp}{r r' G6:R2}(ho:OpR X (a_ op) r)(Gn:OpR X (a_ FO) r')(Ih:OpR X (a_ FP) G6)(ha:PE X a ta)(hb:PE X b tb)(hc:PE X c tc)(hd:PE X d td)
  (hm:lastMarks [op,FO,FP] [b,c,d]=false):PT X (.Compare a [op,FO,FP] [b,c,d] pos) (kF (rM r r' G6 ta tb tc td)):=by
 intro pins s σ H Q I h;refine isTrue_chain (thn (ha pins s σ H _ I h) λv s1 ⟨x,H1,I1,r1,q1⟩=>test_link (thn (hb pins s1 σ H1 _ I1 q1) λu s2 ⟨y,H2,I2,r2,q2⟩=>
  thn (ho pins s2 σ H2 x y v u _ I2 r1 r2 q2) λd s3 ⟨z,H3,I3,r3,k,e,q3⟩=>?_)) hm
 subst e;cases r3;refine bQ ?_;cases k with
 |false=>
  obtain⟨k',e',q'⟩:=q3;cases e';exact ite_ff ⟨H3,I3,q'⟩
 |true=>
  refine ite_tt (test_link (thn (hc pins s3 σ H3 _ I3 q3) λw' s4 ⟨z',H4,I4,r4,q4⟩=>thn (Gn pins s4 σ H4 y z' u w' _ I4 r2 r4 q4) λd' s5 ⟨z2,H5,I5,r5,k2,e2,q5⟩=>?_));subst e2;cases r5;refine bQ ?_;cases k2 with
  |false=>
   obtain⟨k',e',q'⟩:=q5;cases e';exact ite_ff ⟨H5,I5,q'⟩
  |true=>
   refine ite_tt (test_last (thn (hd pins s5 σ H5 _ I5 q5) λJe s6 ⟨z3,H6,I6,r6,q6⟩=>thn (Ih pins s6 σ H6 z' z3 w' Je _ I6 r4 r6 q6) λOz s7 ⟨z4,H7,I7,r7,k4,e4,q7⟩=>?_));subst e4;cases r7;exact bQ ⟨H7,I7,q7⟩
theorem R.bind_assoc{α β γ:Type}(r:R α)(f:α->R β)(h:β->R γ):(r.bind f).bind h=r.bind λa=>(f a).bind h:=by cases r<;>rfl
theorem yu(O:XO w g c E X){op FO FP:CmpOp}(ha:PE X a (tE w g c E ia))(hb:PE X b (tE w g c E ib))(hd:PE X d (tE w g c E GQ))(hf:PE X f (tE w g c E Ik))(FY:zx f=true):PT X (.Compare a [op,FO,FP] [b,d,f] pos) (tT w g c E (.val (.cmp3 (c2 op) (c2 FO) (c2 FP) ia ib GQ Ik))):=
 PT.imp (wq (eh O.K O.units op) (eh O.K O.units FO) (eh O.K O.units FP) ha hb hd hf (gC FY)) λσ H Q ⟨τ,S,se,k⟩=>by
  simp only[fD,fM,fg,fA,fG,fB,fI,qZ,zh,zj,zi,ze,qF,zk,qC,qL,qG,qJ,qO,qS,qP,qK,qB,qN,qE,qx,qI,qA,qT,qW,qM,qV,qU,qR,R.bind_assoc]at k;refine zc se k λda va H1 e1 p1 k1=>zc (se.up p1.same) k1 λdb vb H2 e2 p2 k2=>?_
  have s2:=p1.same.trans p2.same;refine eB (r:=.no) (p1.rb.mono p2.same) p2.rb (tR.bnd k2) λz _ q=>⟨z,rfl,?_⟩
  cases z with
  |true=>
   simp only[if_true,R.bind_assoc]at q;refine zc (se.up s2) q λdd vd H3 e3 p3 k3=>eB (r:=.no) (p2.rb.mono p3.same) p3.rb (tR.bnd k3) λz _ q=>⟨z,rfl,?_⟩
   have s3:=s2.trans p3.same;cases z with
   |true=>
    simp only[if_true,R.bind_assoc]at q;exact zc (se.up s3) q λdf vf H4 e4 p4 k4=>eB (r:=.no) (p3.rb.mono p4.same) p4.rb (tR.bnd k4) λz _ q=>⟨z,rfl,q _ (s3.trans p4.same)⟩
   |false=>exact⟨false,rfl,q _ s3⟩
  |false=>exact⟨false,rfl,q _ s2⟩
theorem v7(ht:PT X d (tT w g c E ta))(ha:PE X a (tE w g c E ia))(hb:PE X b (tE w g c E ib))(h1:esc ia=true)(h2:esc ib=true):PE X (.IfExp d a b pos) (tE w g c E (.ite ta ia ib)):=
 PE.imp (yi ht ha hb) λσ H Q ⟨τ,S,se,k⟩=>by
  simp only[qZ,zh,zj,zi,ze,qF,zk,qC,qL,qG,qJ,qO,qS,qP,qK,qB,qN,qE,qx,qI,qA,qT,qW,qM,qV,qU,qR]at k;refine jM se k λz H1 e1 s1 k1=>?_
  cases z with
  |true=>exact⟨τ,S,se.up s1,tR.imp k1 λdd hk v H' p=>hk v H' (p.passC s1 h1 rfl λz=>(jA z).1)⟩
  |false=>exact⟨τ,S,se.up s1,tR.imp k1 λdd hk v H' p=>hk v H' (p.passC s1 h2 rfl λz=>(jA z).2)⟩
theorem ES{e:Expr}{ie:EV.E}(h:PE X e (tE w g c E ie)):PE X e (tE w g c E (gY c ie)):=by
 unfold gY;split
 ·rename_i f es
  split
  ·rename_i hg
   refine PE.imp h λσ H Q ⟨τ,S,se,k⟩=>⟨τ,S,se,?_⟩
   have e1:evE w (.lstc f es) τ=(evE w (.call f es) τ).bind λd=>if cX d then .ok d else .no:=by
    simp only[qZ,zh,zj,zi,ze,qF,zk,qC,qL,qG,qJ,qO,qS,qP,qK,qB,qN,qE,qx,qI,qA,qT,qW,qM,qV,qU,qR];cases zo w es τ<;>rfl
   rw[e1]at k;cases q:evE w (.call f es) τ with
   |ok d=>
    rw[q]at k;simp only[R.bind_ok]at k;cases hl:cX d with
    |true=>
     rw[hl,if_pos rfl]at k;exact λv H' p=>k v H' ⟨p.same,p.rb,λ_=>p.st rfl,λz=>p.frc z hl,λz _=>p.frc z hl⟩
    |false=>rw[hl]at k;exact k.elim
   |ex z=>rw[q]at k;exact k
   |no=>rw[q]at k;exact k
  ·exact h
 ·exact h
theorem B_:PA X [] (tA w g c E .nil):=PA.imp eG λσ H Q ⟨τ,S,se,k⟩=>k [] H (qf.refl _) .nil λ_=>.nil
theorem xS{es:List Expr}{ies:Es}(ha:PE X a (tE w g c E ia))(hr:PA X es (tA w g c E ies))(hs:isStar a=false):PA X (a::es) (tA w g c E (.cons ia ies)):=
 PA.imp (zU ha hr (qu hs)) λσ H Q ⟨τ,S,se,k⟩=>by
  simp only[zo]at k;refine zc se k λda va H1 e1 p1 k1=>gH (se.up p1.same) k1 λds vs H2 e2 s2 r2 Nf k2=>k2 _ _ (p1.same.trans s2) (.cons (p1.rb.mono s2) r2) λz=>?_
  simp only[eT,aW]at z;exact .cons ((p1.st z.1).mono (qh s2)) (Nf z.2)
theorem jt:∀{es:Es}{τ:Env}{ds:List D}{l:List Expr}{n:Nat},cEs n c l=some es->zo w es τ=.ok ds->ds.length=l.length
 |_,_,_,l,0,h,_=>by simp[cEs]at h
 |es,τ,ds,[],n+1,h,e=>by
  simp only[cEs,cz]at h;subst h;simp only[zo,R.ok.injEq]at e;subst e;rfl
 |es,τ,ds,x::l,n+1,h,e=>by
  simp only[cEs]at h;cases hs:isStar x with
  |true=>simp[hs]at h
  |false=>
   simp only[hs,bD,if_false,aP,aL]at h;obtain⟨i1,_,r,hr,h⟩:=h;cases h;simp only[zo]at e;cases q:evE w i1 τ with
   |ok z=>
    rw[q]at e;simp only[R.bind_ok]at e;cases q2:zo w r τ with
    |ok zs=>
     rw[q2]at e;cases e;simp[jt hr q2]
    |ex z=>rw[q2]at e;cases e
    |no=>rw[q2]at e;cases e
   |ex z=>rw[q]at e;cases e
   |no=>rw[q]at e;cases e
theorem lG{n:Nat}(h:n<=100000):n<=sizeLine:=bB h (by rw[bx];decide)
theorem EI{es:List Expr}{ies:Es}{k:Nat}(ha:PA X es (tA w g c E ies))(he:eT ies=true)(hl:∀τ ds,zo w ies τ=.ok ds->ds.length<=100000):PE X (.Tuple es k pos) (tE w g c E (.tup ies)):=
 PE.imp (E8 ha) λσ H Q ⟨τ,S,se,k⟩=>by
  simp only[qZ,zh,zj,zi,ze,qF,zk,qC,qL,qG,qJ,qO,qS,qP,qK,qB,qN,qE,qx,qI,qA,qT,qW,qM,qV,qU,qR]at k;refine gH se k λds vs H1 e1 s1 r1 r1' k1=>?_
  have r:=r1' he;exact⟨by rw[<-r.length];exact lG (hl _ _ e1),λp hp=>k1 _ _ (bC.of (s1.trans (qY hp)) (iX (se.sub.same s1) hp r) rfl)⟩
theorem wz{es:List Expr}{ies:Es}(ha:PA X es (tA w g c E ies))(he:eT ies=true)(hl:∀τ ds,zo w ies τ=.ok ds->ds.length<=100000):PE X (.List es pos) (tE w g c E (.lst ies)):=
 PE.imp (yN ha) λσ H Q ⟨τ,S,se,k⟩=>by
  simp only[qZ,zh,zj,zi,ze,qF,zk,qC,qL,qG,qJ,qO,qS,qP,qK,qB,qN,qE,qx,qI,qA,qT,qW,qM,qV,qU,qR]at k;refine gH se k λds vs H1 e1 s1 r1 r1' k1=>?_
  have r:=r1' he;exact⟨by rw[<-r.length];exact lG (hl _ _ e1),λp hp=>k1 _ _ (bC.new (s1.trans (qY hp)) (eZ (se.sub.same s1) hp r) (ff s1 hp r))⟩
theorem Bn{b:Expr}(h:isSlice b=false):sO b:=λo i=>by cases b<;>first|rfl|(exact Bool.noConfusion h)
theorem v9(O:XO w g c E X)(ha:PE X a (tE w g c E ia))(hb:PE X b (tE w g c E ib))(hs:isSlice b=false):PE X (.Subscript a b pos) (tE w g c E (.ix ia ib)):=
 PE.imp (uG (CM O.K O.units) ha hb (Bn hs)) λσ H Q ⟨τ,S,se,k⟩=>by
  simp only[qZ,zh,zj,zi,ze,qF,zk,qC,qL,qG,qJ,qO,qS,qP,qK,qB,qN,qE,qx,qI,qA,qT,qW,qM,qV,qU,qR]at k;refine zc se k λda va H1 e1 p1 k1=>zc (se.up p1.same) k1 λdb vb H2 e2 p2 k2=>⟨S,da,db,p1.rb.mono p2.same,p2.rb,?_⟩
  cases q:ixD da db with
  |ok r=>rw[q]at k2;exact λv r=>k2 v H2 (bC.of (p1.same.trans p2.same) r rfl)
  |ex z=>exact ug q
  |no=>rw[q]at k2;exact k2
theorem Fh(O:XO w g c E X){lo hi:Option Expr}{il ih:OE}(ha:PE X a (tE w g c E ia))(hl:PO X lo (tOe w g c E il))(hh:PO X hi (tOe w g c E ih)):PE X (.Subscript a (.Slice lo hi none p2) pos) (tE w g c E (.sl ia il ih)):=
 PE.imp (CO (B6 O.K) ha hl hh) λσ H Q ⟨τ,S,se,k⟩=>by
  simp only[qZ,zh,zj,zi,ze,qF,zk,qC,qL,qG,qJ,qO,qS,qP,qK,qB,qN,qE,qx,qI,qA,qT,qW,qM,qV,qU,qR]at k;refine zc se k λda va H1 e1 p1 k1=>tN (se.up p1.same) k1 λl H2 e2 s2 k2=>tN (se.up (p1.same.trans s2)) k2 λh H3 e3 s3 k3=>?_
  have s:=(p1.same.trans s2).trans s3;refine⟨S,da,se.sub.same s,p1.rb.mono (s2.trans s3),?_⟩;cases q:slD da l h with
  |ok r=>rw[q]at k3;exact λv H' s' r=>k3 v H' (bC.of (s.trans s') r rfl)
  |ex z=>exact xC q
  |no=>rw[q]at k3;exact k3
theorem yp:PO X none (tOe w g c E .none):=PO.imp Ds λσ H Q ⟨τ,S,se,k⟩=>k H (qf.refl _)
theorem yQ(ha:PE X a (tE w g c E ia)):PO X (some a) (tOe w g c E (.some ia)):=PO.imp (v8 ha) λσ H Q ⟨τ,S,se,k⟩=>by
 simp only[evO]at k;refine zc se k λda va H1 e1 p1 k1=>?_
 cases da with
 |int i=>exact⟨i,p1.rb.int,k1 _ p1.same⟩
 |_=>exact k1.elim
theorem AS(O:XO w g c E X){x:Str}{fr:Bool}{e:Expr}{es:List Expr}{ies:Es}(h:glob c x=some (.fn fr))(ha:PA X (e::es) (tA w g c E ies))(he:eT ies=true)(hs:∀z∈e::es,isStar z=false):PE X (.Call (.Name x p2) (e::es) [] pos) (tE w g c E (.call x ies)):=by
 obtain⟨f,h1,h2⟩:=O.gm h;refine PE.imp (DU O h2 (O.gl h) (zf h).2.2.1 ha hs) λσ H Q ⟨τ,S,se,k⟩=>?_
 simp only[qZ,zh,zj,zi,ze,qF,zk,qC,qL,qG,qJ,qO,qS,qP,qK,qB,qN,qE,qx,qI,qA,qT,qW,qM,qV,qU,qR]at k;refine gH se k λds vs H1 e1 s1 r1 r1' k1=>⟨S,ds,se.sub.same s1,by rw[dg];exact r1' he,tR.imp k1 λdd hk v H' s' r f=>hk v H' ⟨s1.trans s',.inl r,λ_=>r,(λz=>by cases z),λz l=>?_⟩⟩
 simp only[eD,(zf h).2.1,beq_iff_eq,cz,GK.fn.injEq]at z;exact(f z l).low s1
theorem vz(ha:PE X a (tE w g c E ia))(hb:PE X b (tE w g c E ib)):PE X (.Dict [some a] [b] pos) (tE w g c E (.dic1 ia ib)):=by
 refine PE.imp (CZ (w6 ha hb uQ) rfl rfl (by simp) (by simp)) λσ H Q ⟨τ,S,se,k⟩ p hp=>?_
 simp only[qZ,zh,zj,zi,ze,qF,zk,qC,qL,qG,qJ,qO,qS,qP,qK,qB,qN,qE,qx,qI,qA,qT,qW,qM,qV,qU,qR]at k;have s0:qf H (upd H p (.dK [])):=qY hp;show tE w g c E ia σ (upd H p (.dK [])) λx H1=>tE w g c E ib σ H1 λy H2=>_
 refine zc (se.up s0) (tR.up k s0) λda va H1 e1 p1 k1=>?_
 refine zc ((se.up s0).up p1.same) k1 λdb vb H2 e2 p2 k2=>?_
 cases da with
 |int i=>cases db with
  |int j=>
   have h1:=p1.rb.int;have h2:=p2.rb.int;subst h1 h2;refine⟨p2.same _ _ (p1.same _ _ zm),[(Sum.inl i,.int j)],rfl,by simp,k2 _ _ ?_⟩;have sm:qf H (upd H2 p (.dK (bI [(i,j)]))):=λb o hb=>by
    rw[qg (λz=>by rw[z,hp]at hb;cases hb)];exact p2.same _ _ (p1.same _ _ (s0 _ _ hb))
   exact bC.new (d:=.dic [(i,j)]) sm (.dic (bZ.mpr ⟨se.sub.free hp,zm⟩)) ⟨p,_,rfl,hp,zm,.dic [(i,j)]⟩
  |_=>exact k2.elim
 |_=>exact k2.elim
theorem DM:PE X (.Dict [] [] pos) (tE w g c E .dic):=PE.imp yz λσ H Q ⟨τ,S,se,k⟩ p hp=>by
 simp only[qZ,zh,zj,zi,ze,qF,zk,qC,qL,qG,qJ,qO,qS,qP,qK,qB,qN,qE,qx,qI,qA,qT,qW,qM,qV,qU,qR]at k;exact k _ _ (bC.new (qY hp) (EJ (kvs:=[]) se.sub hp) (uk (kvs:=[]) (qf.refl _) hp))
theorem pS{b:B1}{S:Sh}{H0 H:Hp}{ds:List D}{vs:List V}{Q:VK}{ies:Es}(s:qf H0 H)(hS:Sub S H)(r:fP g H S ds vs)(k:tR g E H (b1 b ds) λd=>∀v H',bC g c (.bi b ies) S H0 d v H'->Q v H'):rB1 g b vs H Q:=by
 refine⟨S,ds,hS,r,?_⟩;cases q:b1 b ds with
 |ok d=>
  rw[q]at k;have fw:fresh c (.bi b ies)=true->b=.list\/b=.sorted:=λz=>by cases b<;>first|exact .inl rfl|exact .inr rfl|exact Bool.noConfusion z
  exact λv H' s' r' f=>k v H' ⟨s.trans s',.inl r',λ_=>r',λz=>(f (fw z)).low s,λz _=>(f (fw z)).low s⟩
 |ex z=>exact D1 q
 |no=>rw[q]at k;exact k
theorem xO(O:XO w g c E X){x:Str}{b:B1}{e:Expr}{es:List Expr}{ies:Es}(h:glob c x=some (.bi b))(hc:X.calm=true\/b=.len\/b=.abs)(ha:PA X (e::es) (tA w g c E ies))(hs:∀z∈e::es,isStar z=false):PE X (.Call (.Name x p2) (e::es) [] pos) (tE w g c E (.bi b ies)):=by
 obtain⟨h1,h2,id,h3⟩:=O.gm h;have hb:=E9 b;rw[<-h2,h3]at hb;have Gk:=rW (X:=X) (g:=g) O.K O.units b (by rcases hc with z|z|z;exact .inl z;exact .inr (.inl z);exact .inr (.inr (.inl z)));rw[h3]at Gk;refine PE.imp (oV Gk (O.gl h) h1 hb ha (zf h).2.2.2 (zf h).2.2.1 (qu (hs e aM)) (jo λz hz=>hs z (aR _ hz))) λσ H Q ⟨τ,S,se,k⟩=>?_
 simp only[qZ,zh,zj,zi,ze,qF,zk,qC,qL,qG,qJ,qO,qS,qP,qK,qB,qN,qE,qx,qI,qA,qT,qW,qM,qV,qU,qR]at k;exact gH se k λds vs H1 e1 s1 r1 r1' k1=>pS (ies:=ies) s1 (se.sub.same s1) r1 k1
theorem AW(O:XO w g c E X){x:Str}{n:String}{b:B1}{e:Expr}{es:List Expr}{ies:Es}(h:glob c x=some (.ty n (some b)))(ha:PA X (e::es) (tA w g c E ies))(hs:∀z∈e::es,isStar z=false):PE X (.Call (.Name x p2) (e::es) [] pos) (tE w g c E (.bi b ies)):=by
 obtain⟨h1,h2,_,h3⟩:=O.gm h;obtain⟨_,h4⟩:=h3 b rfl;have Gk:=rW (X:=X) (g:=g) O.K O.units b (by cases b<;>simp[b1V]at h4 ⊢);rw[h4]at Gk;refine PE.imp (Fv Gk (O.gl h) h1 h2 ha (zf h).2.2.2 (zf h).2.2.1 (qu (hs e aM)) (jo λz hz=>hs z (aR _ hz))) λσ H Q ⟨τ,S,se,k⟩=>?_
 simp only[qZ,zh,zj,zi,ze,qF,zk,qC,qL,qG,qJ,qO,qS,qP,qK,qB,qN,qE,qx,qI,qA,qT,qW,qM,qV,qU,qR]at k;exact gH se k λds vs H1 e1 s1 r1 r1' k1=>pS (ies:=ies) s1 (se.sub.same s1) r1 k1
end
end EV
namespace L2
open PySem PySem.Spec PyProof.Rows
open AutoSeq1 (wpAny_loadPart')
noncomputable def kO(K:aB)(l:Addr):It:=
 ⟨λi H=>∃xs x,SqT K H l xs/\xs[i]? = some x,
  λi H v H'=>∃p x,H p=none/\v=.ref p/\H'=upd H p (.tup [.int i,x])/\∀xs,SqT K H l xs->xs[i]? = some x,
  λi H=>∃xs,SqT K H l xs/\xs.length<=i⟩
theorem Dc{prog:aF}{w:aD}{A:aE}(hh:A.handled=none)(it l:Addr)(GC:l≠it)(items:Array ae) :
  Draws prog w A it [it,l] items.size (λi v=>items[i]? = some v) (λi h=>h.IsTupleIter it l i/\h.IsTuple l items) where
 live:=λ_ _ st=>let ⟨o,ho,_⟩:=st.1;⟨o,ho⟩
 frame:=λ_ _ _ st hk=>⟨st.1.at λo e=>hk it (by simp) o e,let ⟨o,e,r⟩:=st.2;⟨o,hk l (by simp) o e,r⟩⟩
 item:=λi s Q E hi st hQ=>uI st.1 st.2 (x:=items[i]) (by simp[hi]) λh' K4 FY=>hQ _ h' s.toks (by simp[hi]) ⟨K4,st.2.extBut FY.extBut GC⟩ FY
 done:=λs Q E st hE=>p8 hh st.1 st.2 (by simp) hE
abbrev ej1(h:Heap)(l:Addr):Heap:=h.push {cls:=.type "tuple_iterator",data:=.fields #[.ref l,.int 0 0]}
abbrev ej2(h:Heap)(l:Addr):Heap:=(ej1 h l).push {cls:=.type "enumerate",data:=.fields #[.none,.bool false,.ref h.objs.size,rawInt 0,.none,.none]}
theorem yX(l:Addr)(xs:Array ae) :
  Meets (Builtin.«enumerate.__new__» ⟨[.type "enumerate",.ref l],[]⟩) (λ_ R s=>s.heap.IsTuple l xs/\R (.ok (.ret (.ref (ej1 s.heap l).objs.size))) {s with heap:=ej2 s.heap l}):=
 .of_wp λprog w A R s h=>by
  obtain⟨hp,g,d,tk,os⟩:=s;obtain⟨hl,h⟩:=h;have FK:=sub_enumerate;have hL:Heap.IsTuple (af.heap ⟨hp,g,d,tk,os⟩) l xs:=hl;obtain⟨⟨c,OA,dt,sl⟩,hl,hc,n,hd⟩:=hl
  replace hc:c=.type "tuple":=hc
  replace hd:dt=.seq xs n:=hd
  subst hc hd
  wp_walk using wpAny_loadPart' hl
  refine wpAny_stack_any λst=>aK ?_
  split
  ·rename_i c _ _ _ _ _
   cases (c==ae.type "enumerate")
   ·wp_walk using wpAny_loadPart' hl,wpAny_pyIter_tuple hL
    exact⟨_,rfl,h⟩
   ·wp_walk using wpAny_loadPart' hl,wpAny_pyIter_tuple hL
    exact⟨_,rfl,h⟩
  ·wp_walk using wpAny_loadPart' hl,wpAny_pyIter_tuple hL
   exact⟨_,rfl,h⟩
theorem Fm{prog:aF}{w:aD}{A:aE}{E:ae->af->Prop}{s:af}{l:Addr}{xs:Array ae}{Q:ae->af->Prop}(hl:s.heap.IsTuple l xs)
  (h:∀h',IsEnum h' (s.heap.objs.size+1) s.heap.objs.size 0 .none->h'.IsTupleIter s.heap.objs.size l 0->h'.objs.size=s.heap.objs.size+2->(∀b o,s.heap.get? b=some o->h'.get? b=some o)->Q (.ref (s.heap.objs.size+1)) {s with heap:=h'}) :
  aq (ao prog w) A (call (.type "enumerate") [.ref l]) Q E s:=by
 refine callType_new F.called_enumerate (by decide) (F.typeCall_enumerate_1 _) (F.newCall_enumerate_1 _) (λobj=>F.args_object_init_2 obj _) F.entry_enumerate_new (yX l xs) ⟨hl,?_⟩;have z1:(ej1 s.heap l).objs.size=s.heap.objs.size+1:=Heap.size_push ..;have g2:(ej2 s.heap l).get? (ej1 s.heap l).objs.size=some _:=Heap.get?_push_size _ rfl;show _/\_;rw[z1]at g2;rw[z1];exact⟨⟨_,g2,rfl⟩,h _ g2 ⟨_,Heap.get?_push_of_some _ (Heap.get?_push_size _ rfl),rfl,rfl⟩ (by rw[Heap.size_push,z1]) λb o x=>Heap.get?_push_of_some _ (Heap.get?_push_of_some _ x)⟩
theorem vM{P:aF}{w:aD}{K:aB}{es:List Expr}{ek:Nat}{Gb:Pos}{e it l:Addr}(n1:e≠it)(n2:l≠e)(n3:l≠it) :
  Turn P w K (.Tuple es ek Gb) (kO K l) [e,it] e (λi h=>(∃old,IsEnum h e it ((i:Nat):Int) old)/\h.IsTupleIter it l i) where
 mem:=by simp
 obj:=λi h st b hb=>by
  obtain⟨⟨old,hz⟩,o1,e1,_,d1⟩:=st;have Gv:b=e\/b=it:=by simpa using hb
  rcases Gv with q|q
  ·subst q;exact⟨_,hz,λv q=>by cases q⟩
  ·subst q;exact⟨o1,e1,λv q=>by rw[d1]at q;cases q⟩
 keep:=λi h h' st k=>by
  obtain⟨⟨old,hz⟩,h1⟩:=st;exact⟨⟨old,k e (by simp) _ hz⟩,h1.at λo q=>k it (by simp) o q⟩
 item:=by
  intro X hP hw hK hc i pins s σ H E I hf st hg;subst hP hw hK;obtain⟨⟨old,hz⟩,h1⟩:=st;obtain⟨xs,x,q1,hx⟩:=hg;obtain⟨its,r1,p1,z1⟩:=I.tuple q1;have p1:s.heap.IsTuple l its.toArray:=p1;obtain⟨u1,JH,KP⟩:=r1.get hx;have hi:i<its.toArray.size:=by
   have:=(List.getElem?_eq_some_iff.mp JH).1;simpa using this
  refine wpAny_pyNext_enum_itemD (Dc (A:=X.A.in1) (show X.A.in1.handled=none from I.ok.hd hc) it l n3 its.toArray) hz ⟨h1,p1⟩ hi n1 (by simp[n1,Ne.symm n2]) λx' h' tk G0 a1 a2 a3 a4 hk=>?_
  have ex:x'=u1:=by
   have e1:its.toArray[i]? = some u1:=by simpa using JH
   rw[e1]at G0;exact(bT G0).symm
  subst ex;have IQ:∀b o,b∉[e,it]->s.heap.get? b=some o->h'.get? b=some o:=λb o hb q=>hk b o (λz=>hb (by simp[z])) (λz=>hb (by simp[z])) q
  have I1:Inv X pins σ (upd H s.heap.objs.size (.tup [.int i,x])) {s with heap:=h',toks:=tk+1}:=I.turnNew (tk:=tk+1) (its:=[.int i tk,x']) hf IQ (aG _) ⟨_,a3,rfl,_,rfl⟩ (.cons ⟨_,rfl⟩ (.cons KP .nil)) (by show 2<=aO;decide);have Ie:H s.heap.objs.size=none:=I.hok.fresh (aG _);have KQ:∀b∈[e,it],b≠s.heap.objs.size:=λb hb q=>by
   have Gv:b=e\/b=it:=by simpa using hb
   obtain⟨o1,e1,_,d1⟩:=h1;have:b<s.heap.objs.size:=by
    rcases Gv with q|q
    ·subst q;exact aS hz
    ·subst q;exact aS e1
   rw[q]at this;exact bU _ this
  have FR:∀b∈[e,it],(upd H s.heap.objs.size (.tup [.int i,x])) b=none:=λb hb=>by rw[qg (KQ b hb)];exact(hf b hb).1
  refine⟨_,rfl,?_⟩;refine wpAny_letOwnedTupleGo_enum (s:={s with heap:=h',toks:=tk+1}) a1 λIg Hh FY=>?_
  obtain⟨f0,f1,f2,f3,f4,f5⟩:=hf e (by simp);refine⟨.ref s.heap.objs.size,_,I1.turned (t':=tk+1) (it:=e) (λb o hb q=>(FY.2 b hb).trans q) (FR e (by simp)) f1 f3 f4 f5,rfl,⟨_,x,Ie,rfl,rfl,λzs hq=>by rw[I.tuple_inj hq q1];exact hx⟩,⟨⟨x',?_⟩,a2.1.at λo q=>(FY.2 it (Ne.symm n1)).trans q⟩,FR⟩
  ·have:((i+1:Nat):Int)=(i:Int)+1:=by push_cast;rfl
   rw[this];exact Hh
 done:=by
  intro X hP hw hK hc i pins s σ H E I hf st hg;subst hP hw hK;obtain⟨⟨old,hz⟩,h1⟩:=st;obtain⟨xs,q1,hx⟩:=hg;obtain⟨its,r1,p1,z1⟩:=I.tuple q1;have p1:s.heap.IsTuple l its.toArray:=p1;have hl:=r1.length;have hT:s.TypeIs (.ref e) "enumerate":=⟨_,hz,rfl⟩
  unfold pyNext;refine au (wpAny_attempt (wpAny_callSpecial?_slot (name:=ak "__next__") hT F.slot_enumerate_next (wpAny_call_entry F.slot_enumerate_next hT F.entry_enumerate_next ?_ (F.args_enumerate_next_1 _))));show aq _ _ (field (.ref e) 2>>=_) _ _ _;refine au (wpAny_field hz rfl (x:=.ref it) rfl ?_);refine au (p8 (I.ok.hd hc) h1 p1 (by simp;lia) λh' x he' G0=>?_);obtain⟨o,ho,Hc⟩:=G0;refine au (wpAny_isInstance (T:="StopIteration") (b:=true) ⟨o,ho,Hc⟩ isSubtype_stop ?_);exact aK ⟨rfl,I.turnAll (tk:=s.toks) hf λb o hb q=>he' b o (λz=>hb (by simp[z])) q⟩
 self:=λ_ _ _ _ _ st h=>by
  obtain⟨⟨old,hz⟩,_⟩:=st;exact wpAny_pyIter_enum hz h
def Ek(K:aB)(ta:TA):TI:=λσ H R=>ta σ H λvs H1=>∃(l:Addr),vs=[.ref l]/\(((∃xs,SqL K H1 l xs)/\R (Ite K l) H1)\/((∃xs,SqT K H1 l xs)/\R (kO K l) H1))
theorem vC{X:Cx}{es:List Expr}{ek:Nat}{Gb p pos:Pos}{a:Expr}{ta:TA}(hg:Gl X "enumerate")(hm:X.mg "enumerate" = none)(hv:bV "enumerate" = some (.type "enumerate"))(ha:PA X [a] ta)
  (hs:aX [a] X.env=[(false,eval a X.env)]):PI X (.Tuple es ek Gb) (.Call (.Name "enumerate" p) [a] [] pos) (Ek X.K ta):=by
 intro pins s σ H R I h;refine Call_ (gK (hn:=by decide) (hd:=by decide) I hg hm hv (PyProof.Rows.callWith_type1 (thn (ha pos pins s σ H _ I h) λus s1 ⟨vs,H1,I1,r1,q1⟩=>?_) (by rw[hs];rfl) (by rfl)));obtain⟨l,e,q1⟩:=q1;subst e;have fp:∀b∈[s1.heap.objs.size+1,s1.heap.objs.size],dO X pins H1 b:=λb hb=>by
  have Gv:b=s1.heap.objs.size+1\/b=s1.heap.objs.size:=by simpa using hb
  have:s1.heap.objs.size<=b:=by
   rcases Gv with q|q
   ·rw[q];exact Nat.le_succ _
   ·rw[q];exact aG _
  exact I1.fpOk this (I1.hok.fresh this)
 cases r1 with
 |cons r rr=>
  cases rr;cases r;rcases q1 with ⟨⟨xs,q2⟩,q⟩|⟨⟨xs,q2⟩,q⟩
  ·obtain⟨Jm,v1,p1,_⟩:=I1.list q2;have Jn:l<s1.heap.objs.size:=by obtain⟨_,e,_⟩:=p1.isList;exact aS e
   refine call_enumerate_list p1.isList λh' hE hI hsz k=>?_
   have I2:Inv X pins σ H1 {s1 with heap:=h'}:=I1.kept (t':=s1.toks) k;refine wpAny_pyIter_enum hE ?_;exact⟨_,_,_,_,H1,rfl,I2,DE (P:=X.prog) (w:=X.w) (K:=X.K) (e:=s1.heap.objs.size+1) (it:=s1.heap.objs.size) (l:=l) (Nat.succ_ne_self _) (bg (de Jn)) (bg Jn),⟨⟨_,hE⟩,hI⟩,fp,q⟩
  ·obtain⟨Jm,v1,p1,_⟩:=I1.tuple q2;have p1:s1.heap.IsTuple l Jm.toArray:=p1;have Jn:l<s1.heap.objs.size:=by obtain⟨_,e,_⟩:=p1;exact aS e
   refine Fm p1 λh' hE hI hsz k=>?_
   have I2:Inv X pins σ H1 {s1 with heap:=h'}:=I1.kept (t':=s1.toks) k;refine wpAny_pyIter_enum hE ?_;exact⟨_,_,_,_,H1,rfl,I2,vM (P:=X.prog) (w:=X.w) (K:=X.K) (e:=s1.heap.objs.size+1) (it:=s1.heap.objs.size) (l:=l) (Nat.succ_ne_self _) (bg (de Jn)) (bg Jn),⟨⟨_,hE⟩,hI⟩,fp,q⟩
end L2
namespace EV
open PySem PySem.Spec PySem.P PyProof.Rows L2
section
variable{w:W}{g:Gc}{c:Cc}{E:XK}{X:Cx}{a b d f:Expr}{ia ib GQ Ik:EV.E}{pos p2:Pos}{ta tb:T}
def uo(w:W)(g:Gc)(d:D)(vc:V)(bb:Bool):Cl->Prop
 | .ty n=>vc=.ty n/\((n∈["int","bool","str","list","tuple"]/\∃t,tyD d=some t/\bb=gk t n)\/∃k,d=.exn k/\w.sub k (.ty n)=some bb)
 | .ex x=>∃D k,g.clA x=some D/\vc=.ref D/\d=.exn k/\w.sub k (.ex x)=some bb
def clV(g:Gc)(vc:V):Cl->Prop
 | .ty n=>vc=.ty n/\(n∈["int","bool","str","list","tuple"]\/n = "ValueError")
 | .ex x=>∃D,g.clA x=some D/\vc=.ref D
theorem BZ(O:XO w g c E X):qQ X (.builtin "isinstance") (λxs H Q=>∃(S:Sh) (d:D) (v:V) (cl:Cl) (vc:V) (bb:Bool),xs=[v,vc]/\zz g H S d v/\uo w g d vc bb cl/\Q (.bl bb) H):=by
 have k:=(vB (X:=X) (g:=g) O.K).or (yS (X:=X));refine qQ.imp k λxs H Q ⟨S,d,v,cl,vc,bb,e,rd,h,q⟩=>?_
 have exn:∀(kk:Str) (cv:ae),d=.exn kk->mf vc=some cv->(∃C,g.clA kk=some C/\dq g.K C/\bF g.K (.ref C) cv=some bb)->∃x c cv t b,xs=[x,c]/\mf c=some cv/\TyX X.K H x t/\bF X.K t cv=some b/\Q (.bl b) H:=λkk cv ed hv ⟨C,h1,h2,h3⟩=>by
  subst ed;cases rd.rep with
  | @exn _ a C' z1 z2=>
   rw[h1]at z1;cases z1;exact⟨_,vc,cv,.ref C,bb,e,hv,.inr ⟨a,C,rfl,rfl,z2,by rw[O.K];exact h2⟩,by rw[O.K];exact h3,q⟩
 cases cl with
 |ty n=>
  obtain⟨rfl,⟨hn,t,ht,rfl⟩|⟨kk,rfl,hk⟩⟩:=h
  ·exact .inl ⟨S,d,v,n,t,e,rd,ht,hn,q⟩
  ·obtain⟨C,cv,z1,z2,z3,z4,z5⟩:=O.sub kk (.ty n) bb hk;exact .inr (exn kk (.type n) rfl rfl ⟨C,z1,z2,z5▸z3⟩)
 |ex x=>
  obtain⟨D,kk,h1,rfl,rfl,hk⟩:=h;obtain⟨C,cv,z1,z2,z3,D',z4,z5⟩:=O.sub kk (.ex x) bb hk;rw[h1]at z4;cases z4;exact .inr (exn kk (.ref D) rfl rfl ⟨C,z1,z2,z5▸z3⟩)
theorem AR{x:D}{cl:Cl}:(∃t n,tyD x=some t/\cl=.ty n/\n≠"ValueError"/\dD w x cl=.ok (.bl (gk t n)))\/(∃k b,x=.exn k/\w.sub k cl=some b/\dD w x cl=.ok (.bl b))\/dD w x cl=.no:=by
 unfold dD;cases e:tyD x with
 |some t=>
  cases cl with
  |ty n=>
   by_cases hn:n = "ValueError"
   ·exact .inr (.inr (by simp[hn]))
   ·exact .inl ⟨t,n,rfl,rfl,hn,by simp[hn]⟩
  |ex y=>exact .inr (.inr rfl)
 |none=>
  cases x with
  |exn k=>
   cases q:w.sub k cl with
   |none=>exact .inr (.inr (by simp[q]))
   |some b=>exact .inr (.inl ⟨k,b,rfl,q,by simp[q]⟩)
  |fn y=>exact .inr (.inr (by cases cl<;>rfl))
  |_=>cases e
theorem xc(O:XO w g c E X){x:Str}{k:Expr}{cl:Cl}(h:glob c x=some .isi)(ha:PE X a (tE w g c E ia))(hk:lD c k=some cl)(hs:isStar a=false):PE X (.Call (.Name x p2) [a,k] [] pos) (tE w g c E (.isi ia cl)):=by
 obtain⟨h1,rfl⟩:=O.gm h;obtain⟨y,q,rfl⟩:∃y q,k=.Name y q:=by
  cases k<;>first|exact⟨_,_,rfl⟩|(cases hk)
 obtain⟨vc,hv,hc⟩:∃vc,PE X (.Name y q) (tC vc)/\clV g vc cl:=by
  simp only[lD]at hk;split at hk
  ·rename_i n b e
   cases hk;obtain⟨z1,z2,z3,_⟩:=O.gm e;exact⟨.ty n,xy (O.gl e) z1 z2 rfl (zf e).2.2.2 (zf e).2.2.1,rfl,z3⟩
  ·rename_i e
   cases hk;obtain⟨C,z1,z2⟩:=O.gm e;exact⟨.ref C,lM (O.gl e) z1 rfl (zf e).2.2.1,C,z2,rfl⟩
  ·rename_i e
   cases hk;obtain⟨C,z1,z2⟩:=O.gm e;exact⟨.ref C,lM (O.gl e) z1 rfl (zf e).2.2.1,C,z2,rfl⟩
  ·cases hk
 refine PE.imp (oV (BZ O) (O.gl h) h1 (by decide +kernel) (zU ha (zU hv eG rfl) (qu hs)) (by decide) (by decide) (qu hs) rfl) λσ H Q ⟨τ,S,se,k⟩=>?_
 simp only[qZ,zh,zj,zi,ze,qF,zk,qC,qL,qG,qJ,qO,qS,qP,qK,qB,qN,qE,qx,qI,qA,qT,qW,qM,qV,qU,qR]at k;refine zc se k λda va H1 e1 p1 k1=>?_
 rcases AR (w:=w) (x:=da) (cl:=cl)with ⟨t,n,z1,rfl,z2,z3⟩|⟨kk,bb,rfl,z2,z3⟩|z3
 ·rw[z3]at k1;obtain⟨rfl,hc|hc⟩:=hc
  ·exact⟨S,da,va,.ty n,.ty n,_,rfl,p1.rb,⟨rfl,.inl ⟨hc,t,z1,rfl⟩⟩,k1 _ _ (bC.of p1.same (.bl _) rfl)⟩
  ·exact absurd hc z2
 ·rw[z3]at k1;refine⟨S,.exn kk,va,cl,vc,bb,rfl,p1.rb,?_,k1 _ _ (bC.of p1.same (.bl _) rfl)⟩;cases cl with
  |ty n=>exact⟨hc.1,.inr ⟨kk,rfl,z2⟩⟩
  |ex x=>obtain⟨D,z4,z5⟩:=hc;exact⟨D,kk,z4,z5,rfl,z2⟩
 ·rw[z3]at k1;exact k1.elim
theorem Bm(O:XO w g c E X)(ha:PE X a (tE w g c E ia))(he:∀whole,isTrue a X.env whole=(do let v <-whole;standAt a.pos;holding [v] (truthy v))):PT X a (tT w g c E (.val ia)):=
 PT.imp (AQ ha he) λσ H Q ⟨τ,S,se,k⟩=>by
  simp only[fD,fM,fg,fA,fG,fB,fI]at k;refine zc se k λda va H1 e1 p1 k1=>?_
  cases q:truth da with
  |ok z=>rw[q]at k1;exact⟨z,vX O.K p1.rb q,k1 _ p1.same⟩
  |ex z=>exact absurd q ue
  |no=>rw[q]at k1;exact k1.elim
theorem vw(ha:PT X a (tT w g c E ta)):PT X (.UnaryOp .Not a pos) (tT w g c E (.not ta)):=
 PT.imp (yK ha) λσ H Q ⟨τ,S,se,k⟩=>by
  simp only[fD,fM,fg,fA,fG,fB,fI]at k;exact jM se k λz H1 e1 s1 k1=>k1 _ s1
theorem uc{rest:List Expr}(ha:PT X a (tT w g c E ta))(hb:PW X (.BoolOp .And (b::rest) pos) (tT w g c E tb)):PW X (.BoolOp .And (a::b::rest) pos) (tT w g c E (.and ta tb)):=
 PW.imp (BQ ha hb) λσ H Q ⟨τ,S,se,k⟩=>by
  simp only[fD,fM,fg,fA,fG,fB,fI]at k;refine jM se k λz H1 e1 s1 k1=>?_
  cases z with
  |true=>exact⟨τ,S,se.up s1,tR.imp k1 λb hk H' s=>hk H' (s1.trans s)⟩
  |false=>exact k1 _ s1
theorem B7{rest:List Expr}(ha:PT X a (tT w g c E ta))(hb:PW X (.BoolOp .Or (b::rest) pos) (tT w g c E tb)):PW X (.BoolOp .Or (a::b::rest) pos) (tT w g c E (.or ta tb)):=
 PW.imp (Dj ha hb) λσ H Q ⟨τ,S,se,k⟩=>by
  simp only[fD,fM,fg,fA,fG,fB,fI]at k;refine jM se k λz H1 e1 s1 k1=>?_
  cases z with
  |false=>exact⟨τ,S,se.up s1,tR.imp k1 λb hk H' s=>hk H' (s1.trans s)⟩
  |true=>exact k1 _ s1
theorem PI.or{tg e:Expr}{t t':TI}(h:PI X tg e t)(h':PI X tg e t'):PI X tg e (λσ H R=>t σ H R\/t' σ H R):=λpins s σ H R I q=>by
 rcases q with q|q
 ·exact h pins s σ H R I q
 ·exact h' pins s σ H R I q
theorem tI{K:aB}{a:Addr}{vs:List V}{ds:List D}{H:Hp}{S:Sh}(hl:SqL K H a vs)(r:qy g (hid H S) ds vs):Goes g (Itl K a) ds H S:=by
 refine⟨λi hi=>⟨vs,hl,by rw[<-r.length];exact hi⟩,λi d hd=>?_⟩;obtain⟨v,h1,h2⟩:=r.get hd;refine⟨⟨vs,v,hl,h1⟩,λx H' ⟨e,hx⟩=>?_⟩;subst e;have:=hx vs hl;rw[h1]at this;cases this;exact⟨qf.refl _,h2⟩
theorem pv{K:aB}{a:Addr}{vs:List V}{ds:List D}{H:Hp}{S:Sh}(hl:SqT K H a vs)(r:qy g (hid H S) ds vs):Goes g (Itt K a) ds H S:=by
 refine⟨λi hi=>⟨vs,hl,by rw[<-r.length];exact hi⟩,λi d hd=>?_⟩;obtain⟨v,h1,h2⟩:=r.get hd;refine⟨⟨vs,v,hl,h1⟩,λx H' ⟨e,hx⟩=>?_⟩;subst e;have:=hx vs hl;rw[h1]at this;cases this;exact⟨qf.refl _,h2⟩
theorem lP:∀{xs:List D}{k i:Nat}{d:D},(dP k xs)[i]? = some d->∃x,xs[i]? = some x/\d=.tup [.int ((k+i:Nat):Int),x]
 | [],_,_,_,h=>by simp[dP]at h
 |x::r,k,0,d,h=>by simp[dP]at h;exact⟨x,rfl,by rw[<-h];rfl⟩
 |x::r,k,i+1,d,h=>by
  simp only[dP,List.getElem?_cons_succ]at h;obtain⟨y,h1,h2⟩:=lP h;exact⟨y,by simpa using h1,by rw[h2,show k+1+i=k+(i+1)by lia]⟩
theorem my:∀(xs:List D) (k:Nat),(dP k xs).length=xs.length
 | [],_=>rfl
 |x::r,k=>by simp[dP,my r]
theorem mY{K:aB}{a:Addr}{vs:List V}{ds:List D}{H:Hp}{S:Sh}(hl:SqL K H a vs)(r:qy g (hid H S) ds vs)(hS:Sub S H):Goes g (Ite K a) (dP 0 ds) H S:=by
 refine⟨λi hi=>⟨vs,hl,by rw[<-r.length,<-my ds 0];exact hi⟩,λi d hd=>?_⟩;obtain⟨y,h0,rfl⟩:=lP hd;obtain⟨v,h1,h2⟩:=r.get h0;refine⟨⟨vs,v,hl,h1⟩,λx H' ⟨p,z,hp,e1,e2,hx⟩=>?_⟩;subst e1 e2;have:=hx vs hl;rw[h1]at this;cases this;refine⟨qY hp,?_⟩;rw[Nat.zero_add];exact iX hS hp (.cons (.int _) (.cons h2 .nil))
theorem mV{K:aB}{a:Addr}{vs:List V}{ds:List D}{H:Hp}{S:Sh}(hl:SqT K H a vs)(r:qy g (hid H S) ds vs)(hS:Sub S H):Goes g (kO K a) (dP 0 ds) H S:=by
 refine⟨λi hi=>⟨vs,hl,by rw[<-r.length,<-my ds 0];exact hi⟩,λi d hd=>?_⟩;obtain⟨y,h0,rfl⟩:=lP hd;obtain⟨v,h1,h2⟩:=r.get h0;refine⟨⟨vs,v,hl,h1⟩,λx H' ⟨p,z,hp,e1,e2,hx⟩=>?_⟩;subst e1 e2;have:=hx vs hl;rw[h1]at this;cases this;refine⟨qY hp,?_⟩;rw[Nat.zero_add];exact iX hS hp (.cons (.int _) (.cons h2 .nil))
theorem jK{lo:Int}{n:Nat}{H:Hp}{S:Sh}:Goes g (Itr lo n) (dA lo n) H S:=by
 refine⟨λi hi=>by show n<=i;simpa[dA]using hi,λi d hd=>?_⟩;unfold dA at hd;rw[List.getElem?_map]at hd;cases q:(bW n)[i]? with
 |none=>rw[q]at hd;cases hd
 |some j=>
  rw[q]at hd;cases hd;have hi:=(List.getElem?_eq_some_iff.mp q)
  obtain⟨h1,h2⟩:=hi;simp at h1 h2;subst h2;exact⟨h1,λx H' ⟨e1,e2⟩=>by subst e1 e2;exact⟨qf.refl _,.int _⟩⟩
theorem wx(O:XO w g c E X){tg:Expr}(ha:PE X a (tE w g c E ia)):PI X tg a (tIt w g c E (.seq ia)):=
 PI.imp (PI.or (EF ha) (Ec ha)) λσ H R ⟨τ,S,se,k⟩=>by
  have k0:=k;simp only[evI]at k;cases q:evE w ia τ with
  |ex z=>exact .inl ⟨τ,S,se,by rw[q]at k ⊢;exact k⟩
  |no=>rw[q]at k;exact k.elim
  |ok dd=>
   cases dd with
   |lst ds=>
    refine .inl (zc se k λda va H1 e1 p1 k1=>?_);rw[q]at e1;cases e1;obtain⟨ad,vs,rfl,h1,r1⟩:=p1.rb.lst;rw[<-O.K]at h1;refine⟨ad,rfl,⟨vs,h1⟩,k1 _ H1 p1.same (λH2 S2 s1 s2 _=>tI (s1.seq h1) (r1.mono s2)) λho H2 S2 s2 _=>?_⟩;have he:esc ia=true:=by
     cases ia<;>first|rfl|(exact Bool.noConfusion ho)
    cases p1.st he with
    |lst h2 r2=>exact tI (by rw[O.K];exact(s2.trans dj).seq h2) (r2.mono s2)
   |tup ds=>
    refine .inr (zc se k λda va H1 e1 p1 k1=>?_);rw[q]at e1;cases e1;cases p1.rb.strong (by intro _ z;cases z)with
    |tup h2 r2=>
     refine⟨_,rfl,⟨_,by rw[O.K];exact eA dj h2⟩,k1 _ H1 p1.same (λH2 S2 s1 s2 _=>pv (by rw[O.K];exact eA (s2.trans dj) h2) (r2.mono s2)) λho H2 S2 s2 _=>pv (by rw[O.K];exact eA (s2.trans dj) h2) (r2.mono s2)⟩
   |_=>rw[q]at k;exact k.elim
theorem l0{j:Int}(h:qD j=true):-1000000<=j/\j<=1000000:=by simpa[qD]using h
theorem uj(O:XO w g c E X){x:Str}{tg:Expr}(h:glob c x=some .rng)(ha:PE X a (tE w g c E ia))(hs:isStar a=false):PI X tg (.Call (.Name x p2) [a] [] pos) (tIt w g c E (.rng ia)):=by
 obtain⟨h1,rfl⟩:=O.gm h;refine PI.imp (vg (O.gl h) h1 (zU ha eG (qu hs)) (qu hs)) λσ H R ⟨τ,S,se,k⟩=>?_
 simp only[evI]at k;refine zc se k λda va H1 e1 p1 k1=>?_
 cases da with
 |int j=>
  simp only at k1;cases q:qD j with
  |true=>
   rw[q,if_pos rfl]at k1;obtain⟨z1,z2⟩:=l0 q;exact⟨j,by rw[p1.rb.int],by lia,by lia,k1 _ H1 p1.same (λ_ _ _ _ _=>jK) λ_ _ _ _ _=>jK⟩
  |false=>rw[q]at k1;exact k1.elim
 |_=>exact k1.elim
theorem yL(O:XO w g c E X){x:Str}{tg:Expr}(h:glob c x=some .rng)(ha:PE X a (tE w g c E ia))(hb:PE X b (tE w g c E ib))(hs:isStar a=false)(FY:isStar b=false):PI X tg (.Call (.Name x p2) [a,b] [] pos) (tIt w g c E (.rng2 ia ib)):=by
 obtain⟨h1,rfl⟩:=O.gm h;refine PI.imp (uM (O.gl h) h1 (zU ha (zU hb eG (qu FY)) (qu hs)) (by rw[qu hs,qu FY];rfl) (qu FY)) λσ H R ⟨τ,S,se,k⟩=>?_
 simp only[evI]at k;refine zc se k λda va H1 e1 p1 k1=>zc (se.up p1.same) k1 λdb vb H2 e2 p2 k2=>?_
 cases da with
 |int i=>
  cases db with
  |int j=>
   simp only at k2;cases q:qD i&&qD j with
   |true=>
    rw[q,if_pos rfl]at k2;simp only[aW]at q;obtain⟨z1,z2⟩:=l0 q.1;obtain⟨z3,z4⟩:=l0 q.2;exact⟨i,j,by rw[p1.rb.int,p2.rb.int],⟨by lia,by lia,by lia,by lia⟩,k2 _ H2 (p1.same.trans p2.same) (λ_ _ _ _ _=>jK) λ_ _ _ _ _=>jK⟩
   |false=>rw[q]at k2;exact k2.elim
  |_=>exact k2.elim
 |_=>exact k2.elim
theorem DN(O:XO w g c E X){x:Str}{es:List Expr}{ek:Nat}{Gb:Pos}(h:glob c x=some .enum)(ha:PE X a (tE w g c E ia))(hs:isStar a=false):PI X (.Tuple es ek Gb) (.Call (.Name x p2) [a] [] pos) (tIt w g c E (.enum ia)):=by
 obtain⟨h1,rfl⟩:=O.gm h;refine PI.imp (vC (O.gl h) h1 (by decide +kernel) (zU ha eG (qu hs)) (qu hs)) λσ H R ⟨τ,S,se,k⟩=>?_
 simp only[evI]at k;refine zc se k λda va H1 e1 p1 k1=>?_
 cases da with
 |lst ds=>
  obtain⟨ad,vs,rfl,h1,r1⟩:=p1.rb.lst;rw[<-O.K]at h1;refine⟨ad,rfl,.inl ⟨⟨vs,h1⟩,k1 _ H1 p1.same (λH2 S2 s1 s2 s3=>mY (s1.seq h1) (r1.mono s2) s3) λho H2 S2 s2 s3=>?_⟩⟩;have he:esc ia=true:=by
   cases ia<;>first|rfl|(exact Bool.noConfusion ho)
  cases p1.st he with
  |lst h2 r2=>exact mY (by rw[O.K];exact(s2.trans dj).seq h2) (r2.mono s2) s3
 |tup ds=>
  obtain⟨ad,vs,rfl,h1,r1⟩:=p1.rb.tup;rw[<-O.K]at h1;refine⟨ad,rfl,.inr ⟨⟨vs,h1⟩,k1 _ H1 p1.same (λH2 S2 s1 s2 s3=>mV (eA s1 h1) (r1.mono s2) s3) λho H2 S2 s2 s3=>?_⟩⟩;have he:esc ia=true:=by
   cases ia<;>first|rfl|(exact Bool.noConfusion ho)
  cases p1.st he with
  |tup h2 r2=>exact mV (by rw[O.K];exact eA (s2.trans dj) h2) (r2.mono s2) s3
 |_=>exact k1.elim
theorem Bf(O:XO w g c E X){x:Str}{es:List Expr}{ek:Nat}{Gb:Pos}(h:glob c x=some .zip)(ha:PE X a (tE w g c E ia))(hb:PE X b (tE w g c E ib))(hs:isStar a=false)(FY:isStar b=false):PI X (.Tuple es ek Gb) (.Call (.Name x p2) [a,b] [] pos) (tIt w g c E (.zip ia ib)):=λpins s σ H R I ⟨τ,S,se,kk⟩=>by
 simp only[evI]at kk;exact bt kk
end
def iF:List Nat->TGs
 | []=>oN
 |i::is=>nA (fN i) (iF is)
def gT(K:aB):Tg->TG
 | .nm i=>fN i
 | .tp is=>ph K is.length (iF is)
section
variable{w:W}{g:Gc}{c:Cc}{E:XK}{X:Cx}
theorem zy{x:Str}{i:Nat}(h:cL c x=some i):loc c x=some i/\(c.nm.lookup x=some .local\/(c.nm.lookup x=some .cell/\(c.fnc=true\/c.oc.contains x=true))):=by
 unfold cL at h;split at h
 ·rename_i q;exact⟨h,.inl q⟩
 ·rename_i q
  split at h
  ·rename_i z;exact⟨h,.inr ⟨q,by simpa using z⟩⟩
  ·cases h
 ·cases h
theorem nY(O:XO w g c E X){x:Str}{i:Nat}{pos:Pos}(h:cL c x=some i):PG X (.Name x pos) (fN i):=by
 obtain⟨h1,h2⟩:=zy h;obtain⟨h3,_⟩:=zt h1;refine D6 (by rw[O.N];exact O.nd) (by rw[O.N];exact h3) (by unfold L2.Loc;rw[O.nm];rcases h2 with z|z;exact .inl z;exact .inr z.1) ?_;rcases h2 with z|z
 ·exact .inr (by rw[O.nm];exact z)
 ·exact .inl (O.fn x z.2)
theorem n8:∀{es:List Expr}{xs:List Str},gR es=some xs->∃ps:List Pos,es=(xs.zip ps).map (λp=>Expr.Name p.1 p.2)/\ps.length=xs.length
 | [],xs,h=>by simp[gR]at h;subst h;exact⟨[],rfl,rfl⟩
 |e::es,xs,h=>by
  cases e with
  |Name y p=>
   simp only[gR,bK]at h;obtain⟨ys,h1,rfl⟩:=h;obtain⟨ps,h2,h3⟩:=n8 h1;exact⟨p::ps,by rw[h2];rfl,by simp[h3]⟩
  |_=>simp[gR]at h
theorem oZ(O:XO w g c E X):∀{xs:List Str}{ps:List Pos}{is:List Nat},ps.length=xs.length->xs.mapM (cL c)=some is ->
  PGs X ((xs.zip ps).map λp=>Expr.Name p.1 p.2) (iF is)/\(assignEach ((xs.zip ps).map λp=>Expr.Name p.1 p.2) X.env).length=is.length/\(assignEach ((xs.zip ps).map λp=>Expr.Name p.1 p.2) X.env).findIdx? (·.1)=none
 | [],ps,is,_,h=>by
  simp at h;subst h;exact⟨vY,rfl,rfl⟩
 |x::xs,[],_,h,_=>by simp at h
 |x::xs,p::ps,is,hl,h=>by
  simp only[List.mapM_cons,aP,aL]at h;obtain⟨i,h1,js,h2,h3⟩:=h;cases h3;obtain⟨r1,r2,r3⟩:=oZ O (xs:=xs) (ps:=ps) (by simpa using hl) h2;refine⟨Ck (nY O h1) r1 rfl,?_,?_⟩
  ·show (assignEach ((xs.zip ps).map λp=>Expr.Name p.1 p.2) X.env).length+1=js.length+1;rw[r2]
  ·show List.findIdx? (·.1) ((false,_)::assignEach ((xs.zip ps).map λp=>Expr.Name p.1 p.2) X.env)=none;rw[List.findIdx?_cons];simp only[bD,if_false];rw[r3];rfl
theorem ji(O:XO w g c E X){e:Expr}{tg:Tg}(h:cTg c e=some tg):PG X e (gT X.K tg):=by
 cases e with
 |Name x p=>
  simp only[cTg]at h;split at h
  ·cases h
  ·simp only[bK]at h;obtain⟨i,h1,rfl⟩:=h;exact nY O h1
 |Tuple es k p=>
  simp only[cTg]at h;split at h
  ·rename_i hc
   simp only[aP,aL]at h;obtain⟨xs,h1,h⟩:=h;split at h
   ·cases h
   ·simp only[aL]at h;obtain⟨is,h2,h⟩:=h;split at h
    ·cases h;obtain⟨ps,rfl,hl⟩:=n8 h1;obtain⟨r1,r2,r3⟩:=oZ O hl h2;exact xp (O.calm hc) r1 r2 r3
    ·cases h
  ·cases h
 |_=>simp[cTg]at h
def iP(c:Cc):Tg->Prop
 | .nm i=>∀x,c.N[i]? = some x->c.own.contains x=false
 | .tp is=>∀i∈is,∀x,c.N[i]? = some x->c.own.contains x=false
theorem n5{α β:Type}{f:α->Option β}:∀{xs:List α}{ys:List β},xs.mapM f=some ys->∀y∈ys,∃x∈xs,f x=some y
 | [],ys,h,y,hy=>by simp at h;subst h;simp at hy
 |x::xs,ys,h,y,hy=>by
  simp only[List.mapM_cons,aP,aL]at h;obtain⟨z,h1,zs,h2,h3⟩:=h;cases h3;rcases aI.mp hy with rfl|hy
  ·exact⟨x,aM,h1⟩
  ·obtain⟨x',h4,h5⟩:=n5 h2 y hy;exact⟨x',aR _ h4,h5⟩
theorem lS{e:Expr}{tg:Tg}(h:cTg c e=some tg):iP c tg:=by
 have one:∀{x:Str}{i:Nat},c.own.contains x=false->cL c x=some i->∀y,c.N[i]? = some y->c.own.contains y=false:=λ{x i} ho hl y hy=>by
  obtain⟨h3,_⟩:=zt (zy hl).1;rw[h3]at hy;cases hy;exact ho
 cases e with
 |Name x p=>
  simp only[cTg]at h;split at h
  ·cases h
  ·rename_i ho
   simp only[bK]at h;obtain⟨i,h1,rfl⟩:=h;exact one (by simpa using ho) h1
 |Tuple es k p=>
  simp only[cTg]at h;split at h
  ·simp only[aP,aL]at h;obtain⟨xs,h1,h⟩:=h;split at h
   ·cases h
   ·rename_i ho
    simp only[aL]at h;obtain⟨is,h2,h⟩:=h;split at h
    ·cases h;intro i hi;obtain⟨x,hx,hl⟩:=n5 h2 i hi;refine one ?_ hl;cases q:c.own.contains x with
     |false=>rfl
     |true=>exact absurd (b_.mpr ⟨x,hx,q⟩) ho
    ·cases h
  ·cases h
 |_=>simp[cTg]at h
section
variable{τ τ':Env}{σ:L2.St}{H:Hp}{S:Sh}
theorem SE.set{i:Nat}{d:D}{v:V}(se:SE g c τ σ H S)(r:Rep g (hid H S) d v):SE g c (τ.set i (some d)) (σ.set i (some v)) H S:=by
 refine⟨by simp[se.len],λj e h=>?_,se.sub⟩;by_cases FC:i=j
 ·subst FC;by_cases hi:i<τ.length
  ·simp[hi]at h;subst h;have GD:i<σ.length:=by rw[<-se.len];exact hi
   exact⟨v,by simp[GD],.inl r,λ_ _ _=>r⟩
  ·rw[List.set_eq_of_length_le (by lia)]at h;rw[List.getElem?_eq_none (by lia)]at h;cases h
 ·rw[List.getElem?_set_ne FC]at h ⊢;exact se.val j e h
theorem SE.setAll{is:List Nat}:∀{ds:List D}{vs:List V}{τ:Env}{σ:L2.St}{Q:L2.St->Hp->Prop},SE g c τ σ H S->qy g (hid H S) ds vs->setAll is ds τ=.ok τ'->(∀σ',SE g c τ' σ' H S->Q σ' H)->iF is vs σ H Q:=by
 induction is with
 |nil=>
  intro ds vs τ σ Q se r h k;cases r with
  |nil=>cases (show R.ok τ=R.ok τ' from h);exact⟨rfl,k σ se⟩
  |cons _ _=>cases (show R.no=R.ok τ' from h)
 |cons i is ih=>
  intro ds vs τ σ Q se r h k;cases r with
  |nil=>cases (show R.no=R.ok τ' from h)
  |cons r rs=>exact⟨_,_,rfl,ih (se.set r) rs h k⟩
theorem Dp(O:X.K=g.K){tg:Tg}{d:D}{v:V}{Q:L2.St->Hp->Prop}(se:SE g c τ σ H S)(r:Rep g (hid H S) d v)(h:store tg d τ=.ok τ')(k:∀σ',SE g c τ' σ' H S->Q σ' H):gT X.K tg v σ H Q:=by
 cases tg with
 |nm i=>
  simp only[store,R.ok.injEq]at h;subst h;exact k _ (se.set r)
 |tp is=>
  cases d with
  |tup ds=>
   simp only[store]at h;split at h
   ·rename_i hl
    cases r with
    |tup h1 r1=>exact⟨_,_,rfl,by rw[O];exact eA dj h1,by rw[<-r1.length];exact hl,se.setAll r1 h k⟩
   ·cases h
  |_=>simp[store]at h
end
end
abbrev dU(c:Cc)(sc:a8):Cc:={c with nm:=jP sc.names c.nm,N:=cy sc.names,fnc:=false,oc:=iS sc.names}
section
variable{w:W}{g:Gc}{c:Cc}{E:XK}{X:Cx}
theorem XO.comp(O:XO w g c E X){sc:a8}(hk:sc.kind=.function)(Hj:(cy sc.names).Nodup)(cl:List (Str×Addr))(C:Addr)(s₀:af)(H₀:Hp)(fp:List Addr):XO w g (dU c sc) E0 (zJ X (cy sc.names) sc cl C s₀ H₀ fp) where
 K:=O.K
 nm:=by
  show (relabel sc X.env).names=jP sc.names c.nm;unfold relabel jP;simp only
  congr 1
  funext p;have h1:(X.env.scope.kind==ScopeKind.function)=true:=by rw[O.kind];rfl
  have h2:X.env.kindOf p.1=c.nm.lookup p.1:=by show X.env.scope.names.lookup p.1=_;rw[O.nm]
  obtain⟨n,k⟩:=p;simp only at h2;simp only[h1,h2,Bool.and_true]
 N:=rfl
 nd:=Hj
 calm:=O.calm
 units:=O.units
 fn:=λx z=>z.elim (λz=>by cases z) λz=>z
 kind:=hk
 pass:=lZ rfl rfl
 gok:=O.gok
 fns:=O.fns
 sub:=O.sub
theorem Ei{α:Type}{τ:Env}{σ:L2.St}{H:Hp}{S:Sh}{it:It}{f:List D->R α}{P:α->Prop}{R':L2.It->Hp->Prop}(se:SE g c τ σ H S)(h:tR g E H ((evI w it τ).bind f) P)
  (k:∀ds J H',evI w it τ=.ok ds->qf H H'->(∀H2 S2,qf H' H2->qf (hid H' S) (hid H2 S2)->Sub S2 H2->Goes g J ds H2 S2)->(owned it=false->∀H2 S2,qf (hid H' S) (hid H2 S2)->Sub S2 H2->Goes g J ds H2 S2)->tR g E H' (f ds) P->R' J H'):tIt w g c E it σ H R':=by
 refine⟨τ,S,se,?_⟩;cases q:evI w it τ with
 |ok d=>rw[q]at h;exact λJ H' s k1 k2=>k d J H' q s k1 k2 (tR.up h s)
 |ex x=>rw[q]at h;exact h
 |no=>rw[q]at h;exact h
theorem vV{α:Type}{r:R α}{x:Str}:noEx r≠.ex x:=by cases r<;>intro h<;>cases h
theorem AX{α:Type}{r:R α}{a:α}(h:noEx r=.ok a):r=.ok a:=by cases r<;>first|exact h|cases h
theorem nT{body:D->Env->R (Env×List D)}(hb:∀d τ x,body d τ≠.ex x):∀{ds:List D}{τ:Env}{acc:List D}{x:Str},cH body ds τ acc≠.ex x
 | [],_,_,_,h=>by cases h
 |d::r,τ,acc,x,h=>by
  simp only[cH]at h;cases q:body d τ with
  |ok p=>rw[q]at h;exact nT hb h
  |ex y=>exact hb _ _ _ q
  |no=>rw[q]at h;cases h
theorem SE.caps{sc:a8}{cap:List (Option Nat)}{τ:Env}{σ:L2.St}{H:Hp}{S:Sh}(O:XO w g c E X)(hc:nD X (cy sc.names) cap sc)(se:SE g c τ σ H S):SE g (dU c sc) (dY cap τ) (L2.caps cap σ) H S:=by
 refine⟨by simp[dY,L2.caps],λi d h=>?_,se.sub⟩;unfold dY at h;rw[List.getElem?_map]at h;cases q:cap[i]? with
 |none=>rw[q]at h;cases h
 |some o=>
  cases o with
  |none=>rw[q]at h;cases h
  |some j=>
   rw[q]at h;simp only[Option.map_some,Option.bind_some,cz]at h;cases q2:τ[j]? with
   |none=>rw[q2]at h;cases h
   |some z=>
    rw[q2]at h;cases z with
    |none=>cases h
    |some d'=>
     have:d'=d:=by simpa using h
     subst this;obtain⟨v,h1,h2,h3⟩:=se.val j d' q2;refine⟨v,?_,h2,λx hx ho=>?_⟩
     ·unfold L2.caps;rw[List.getElem?_map,q];simp[h1]
     ·obtain⟨y,e1,e2,_⟩:=hc.2 i j q;have G0:(cy sc.names)[i]? = some x:=hx;rw[e1]at G0;cases G0;exact h3 _ (by rw[<-O.N];exact e2) ho
theorem jc{H:Hp}{S:Sh}{p:Addr}{o:HO}(h:S.h p=true):hid (upd H p o) S=hid H S:=by
 funext b;unfold hid;by_cases hb:b=p
 ·subst hb;rw[if_pos h,if_pos h]
 ·rw[qg hb]
theorem SE.grow{c:Cc}{τ:Env}{σ:L2.St}{H:Hp}{S:Sh}{p:Addr}{o:HO}(se:SE g c τ σ H S)(h:S.h p=true)(ho:S.o p=false):SE g c τ σ (upd H p o) S:=by
 refine⟨se.len,λi d e=>?_,λa ha n=>?_⟩
 ·obtain⟨v,h1,h2,h3⟩:=se.val i d e;refine⟨v,h1,?_,λx hx hy=>by rw[jc h];exact h3 x hx hy⟩;rcases h2 with h2|⟨a,o',z1,z2,z4,z5⟩
  ·exact .inl (by rw[jc h];exact h2)
  ·refine .inr ⟨a,o',z1,z2,?_,by rw[jc h];exact z5⟩;rw[qg (λz=>by rw[z,ho]at z1;cases z1)];exact z4
 ·by_cases hb:a=p
  ·subst hb;rw[zm]at n;cases n
  ·rw[qg hb]at n;exact se.sub a ha n
theorem SE.hide{c:Cc}{τ:Env}{σ:L2.St}{H:Hp}{S:Sh}{p:Addr}{vs:List V}(se:SE g c τ σ H S)(hp:H p=none):SE g c τ σ (upd H p (.lst vs)) (cZ S p):=by
 refine⟨se.len,λi d e=>?_,λa ha n=>?_⟩
 ·obtain⟨v,h1,h2,h3⟩:=se.val i d e;refine⟨v,h1,?_,λx hx hy=>(h3 x hx hy).mono (jH hp)⟩;rcases h2 with h2|⟨a,o',z1,z2,z4,z5⟩
  ·exact .inl (h2.mono (jH hp))
  ·exact .inr ⟨a,o',z1,z2,qY hp _ _ z4,z5.mono (jH hp)⟩
 ·by_cases hb:a=p
  ·subst hb;rw[zm]at n;cases n
  ·rw[qg hb]at n;refine se.sub a ?_ n;rcases ha with ha|ha
   ·refine .inl ?_;have ha:(S.h a||a==p)=true:=ha
    simpa[hb]using ha
   ·exact .inr ha
theorem tY(O:XO w g c E X){sc:a8}{cap:List (Option Nat)}{FZ:It}{FQ:Tg}{tt:T}{F7:EV.E}(hS:el X (cy sc.names) cap sc)(he:esc F7=true){σ:L2.St}{H:Hp}{Q:VK}(hq:tE w g c E (.comp FZ cap FQ tt F7) σ H Q) :
  kM cap (tIt w g c E FZ) (gT X.K FQ) (tT w g (dU c sc) E0 tt) (λacc=>jn acc (tE w g (dU c sc) E0 F7)) σ H Q:=by
 obtain⟨τ,S,se,k⟩:=hq;simp only[qZ,zh,zj,zi,ze,qF,zk,qC,qL,qG,qJ,qO,qS,qP,qK,qB,qN,qE,qx,qI,qA,qT,qW,qM,qV,qU,qR]at k;refine Ei se k λds J H1 e1 s1 kW _ k1 acc FX=>?_
 by_cases hz:SZ<ds.length
 ·rw[if_pos hz]at k1;exact k1.elim
 rw[if_neg hz]at k1;generalize FV:(λx σ=>noEx ((store FQ x σ).bind λσ'=>(evT w tt σ').bind λr=>if r=true then (evE w F7 σ').bind λd=>R.ok (σ',[d])else R.ok (σ',[])))=body at k1;have LM:∀d τ x,body d τ≠.ex x:=λd τ x=>by rw[<-FV];exact vV
 cases hl:cH body ds (dY cap τ) []with
 |ex z=>exact absurd hl (nT LM)
 |no=>rw[hl]at k1;exact k1.elim
 |ok out=>
  rw[hl]at k1;simp only[R.bind_ok]at k1;have k1:∀v H',bC g c (.comp FZ cap FQ tt F7) S H (.lst out) v H'->Q v H':=k1;have Jo:=se.sub.same s1;have Jp:S.o acc=false:=Jo.freeO FX;have HE:(cZ S acc).h acc=true:=by show (S.h acc||acc==acc)=true;simp
  -- what holds between two turns
  refine⟨λi m σ' H'=>m=ds.length-i/\i<=ds.length/\∃τ' o,cH body (ds.drop i) τ' o=.ok out/\SE g (dU c sc) τ' σ' H' (cZ S acc)/\o.length<=i/\qf H1 H'/\∃vs,H' acc=some (.lst vs)/\qy g (hid H' (cZ S acc)) o vs,
   ⟨ds.length,rfl,bH _,dY cap τ,[],hl,(se.up s1).caps O hS.cap |>.hide FX,aG _,qY FX,[],zm,.nil⟩,?_⟩
  rintro i m σ' H' ⟨rfl,GD,τ',o,Gx,LN,OB,JM,vs,hv,hr⟩;have keep:qf (hid H1 S) (hid H' (cZ S acc)):=λb u hb=>by
   obtain⟨z1,z2⟩:=bZ.mp hb;refine bZ.mpr ⟨?_,JM _ _ z2⟩;show (S.h b||b==acc)=false;rw[z1]
   simpa using λz:b=acc=>by rw[z,FX]at z2;cases z2
  obtain⟨g1,g2⟩:=kW H' (cZ S acc) JM keep LN.sub;by_cases FF:i<ds.length
  ·have hd:ds[i]? = some ds[i]:=List.getElem?_eq_getElem FF;obtain⟨K5,go2⟩:=g2 i ds[i] hd;refine .inr ⟨K5,λσ'' H''=>∃τ' o,cH body (ds.drop (i+1)) τ' o=.ok out/\SE g (dU c sc) τ' σ'' H'' (cZ S acc)/\o.length<=i+1/\qf H1 H''/\∃vs,H'' acc=some (.lst vs)/\qy g (hid H'' (cZ S acc)) o vs,
    λσ'' H'' z=>⟨ds.length-(i+1),by lia,rfl,FF,z⟩,λx H2 hy=>?_⟩
   obtain⟨s2,rx⟩:=go2 x H2 hy;rw[fz FF]at Gx;simp only[cH]at Gx;cases q:body ds[i] τ' with
   |ex z=>exact absurd q (LM _ _ _)
   |no=>rw[q]at Gx;cases Gx
   |ok p=>
    rw[q]at Gx;simp only[R.bind_ok]at Gx;rw[<-FV]at q;have q:=AX q;cases q1:store FQ ds[i] τ' with
    |ex z=>rw[q1]at q;cases q
    |no=>rw[q1]at q;cases q
    |ok τ1=>
     rw[q1]at q;simp only[R.bind_ok]at q;refine Dp O.K (LN.up s2) rx q1 λσ1 JN=>?_
     cases q2:evT w tt τ1 with
     |ex z=>rw[q2]at q;cases q
     |no=>rw[q2]at q;cases q
     |ok r=>
      rw[q2]at q;simp only[R.bind_ok]at q;refine⟨τ1,cZ S acc,JN,?_⟩;rw[q2];intro H3 s3;have LO:=s3 _ _ (s2 _ _ hv);have LP:=JM.trans (s2.trans s3);cases r with
      |false=>
       simp only[bD,if_false,R.ok.injEq]at q;subst q;rw[if_neg bO];exact⟨τ1,o++[],Gx,JN.up s3,by simp;lia,LP,vs,LO,by rw[dg];exact hr.mono (qh (s2.trans s3))⟩
      |true=>
       simp only[if_true]at q;rw[if_pos rfl];cases q3:evE w F7 τ1 with
       |ex z=>rw[q3]at q;cases q
       |no=>rw[q3]at q;cases q
       |ok dd=>
        rw[q3]at q;simp only[R.bind_ok,R.ok.injEq]at q;subst q;refine⟨τ1,cZ S acc,JN.up s3,?_⟩;rw[q3];intro v H4 p4;have Ng:=p4.same _ _ LO;have Nh:=hr.mono (qh ((s2.trans s3).trans p4.same));have Hh:vs.length<sizeLine:=by
         rw[<-hr.length,bx];have:ds.length<=SZ:=Nat.le_of_not_lt hz;unfold SZ at this;lia
        refine⟨vs,Ng,Hh,τ1,o++[dd],Gx,(JN.up (s3.trans p4.same)).grow HE Jp,by simp;lia,λb u hb=>?_,vs++[v],zm,?_⟩
        ·rw[qg (λz=>by rw[z,FX]at hb;cases hb)];exact p4.same _ _ (LP _ _ hb)
        ·rw[jc HE];exact Nh.append (.cons (p4.st he) .nil)
  ·have e:i=ds.length:=by lia
   subst e;refine .inl ⟨g1 ds.length (aG _),?_⟩;rw[List.drop_length]at Gx;simp only[cH,R.ok.injEq]at Gx;subst Gx;have rep:Rep g (hid H' S) (.lst o) (.ref acc):=.lst (SqL.of (bZ.mpr ⟨Jo.free FX,hv⟩)) (hr.mono sA);exact k1 _ _ (bC.new (s1.trans JM) rep ⟨acc,_,rfl,s1.free FX,hv,.lst hr⟩)
theorem yR(O:XO w g c E X)(Jq:X.calm=true){sc:a8}{cap:List (Option Nat)}{FL it elt:Expr}{ifs:List Expr}{pos:Pos}{FZ:It}{FQ:Tg}{tt:T}{F7:EV.E}(hS:el X (cy sc.names) cap sc)(Hj:(cy sc.names).Nodup)
  (hi:PI X FL it (tIt w g c E FZ)) (hb:∀cl C s₀ H₀ fp,PG (zJ X (cy sc.names) sc cl C s₀ H₀ fp) FL (gT X.K FQ)/\PTs (zJ X (cy sc.names) sc cl C s₀ H₀ fp) ifs (tT w g (dU c sc) E0 tt)/\PE (zJ X (cy sc.names) sc cl C s₀ H₀ fp) elt (tE w g (dU c sc) E0 F7))
  (he:esc F7=true) (hs:zx it=true):PE X (.ListComp elt [⟨FL,it,ifs,0⟩] sc pos) (tE w g c E (.comp FZ cap FQ tt F7)):=by
 exact PE.imp (Af (tb:=λacc=>jn acc (tE w g (dU c sc) E0 F7)) Jq hS hi (λcl C s₀ H₀ fp=>⟨(hb cl C s₀ H₀ fp).1,(hb cl C s₀ H₀ fp).2.1,λacc=>rK rfl (hb cl C s₀ H₀ fp).2.2⟩) (by simp) (λx=>by cases it<;>first|rfl|(exact Bool.noConfusion hs))) λσ H Q q=>tY O hS he q
end
end EV
namespace L2
open PySem PySem.Spec PyProof.Rows
section
variable{prog:aF}{w:aD}{A:aE}{E:ae->af->Prop}{s:af}
end
section
variable{X:Cx}{tg:Expr}
end
end L2
namespace EV
open PySem PySem.Spec PySem.P PyProof.Rows L2
section
variable{prog:aF}{w:aD}{A:aE}{E:ae->af->Prop}{s:af}
end
section
variable{X:Cx}
end
section
variable{w:W}{g:Gc}{c:Cc}{E:XK}{X:Cx}{a b:Expr}{ia ib:EV.E}{pos p2 p3 pos3:Pos}
end
structure Snd(w:W)(g:Gc)(n:Nat):Prop where
 e:∀{c:Cc}{E:XK}{X:Cx} (O:XO w g c E X) {x:Expr}{ir:EV.E},cE n c x=some ir->PE X x (tE w g c E ir)
 bo:∀{c:Cc}{E:XK}{X:Cx} (O:XO w g c E X) {op:PySem.BoolOp}{vs:List Expr}{pos:Pos}{ir:EV.E},cBo n c op vs=some ir->PE X (.BoolOp op vs pos) (tE w g c E ir)/\esc ir=true
 o:∀{c:Cc}{E:XK}{X:Cx} (O:XO w g c E X) {x:Option Expr}{ir:OE},cO n c x=some ir->PO X x (tOe w g c E ir)
 es:∀{c:Cc}{E:XK}{X:Cx} (O:XO w g c E X) {x:List Expr}{ir:Es},cEs n c x=some ir->PA X x (tA w g c E ir)
 i:∀{c:Cc}{E:XK}{X:Cx} (O:XO w g c E X) {tg x:Expr}{ir:It},cI n c x=some ir->gO ir tg=true->PI X tg x (tIt w g c E ir)
 t:∀{c:Cc}{E:XK}{X:Cx} (O:XO w g c E X) {x:Expr}{ir:T},cT n c x=some ir->PT X x (tT w g c E ir)
 ts:∀{c:Cc}{E:XK}{X:Cx} (O:XO w g c E X) {op:PySem.BoolOp}{vs:List Expr}{pos:Pos}{ir:T},cTs n c op vs=some ir->PW X (.BoolOp op vs pos) (tT w g c E ir)
 ifs:∀{c:Cc}{E:XK}{X:Cx} (O:XO w g c E X) {x:List Expr}{ir:T},fX n c x=some ir->PTs X x (tT w g c E ir)
section
variable{w:W}{g:Gc}{n:Nat}
theorem Snd.ifs_succ(ih:Snd w g n){c:Cc}{E:XK}{X:Cx}(O:XO w g c E X){x:List Expr}{ir:T}(h:fX (n+1) c x=some ir):PTs X x (tT w g c E ir):=by
 match x with
 | []=>
  simp only[fX,cz]at h;subst h;intro pins s σ H Q I ⟨τ,S,se,q⟩;exact DS pins s σ H Q I (q H (qf.refl _))
 | [t]=>simp only[fX]at h;exact yq (ih.t O h)
 |_::_::_=>simp[fX]at h
theorem Snd.bo_succ(ih:Snd w g n){c:Cc}{E:XK}{X:Cx}(O:XO w g c E X){op:PySem.BoolOp}{vs:List Expr}{pos:Pos}{ir:EV.E}(h:cBo (n+1) c op vs=some ir):PE X (.BoolOp op vs pos) (tE w g c E ir)/\esc ir=true:=by
 match vs with
 | []=>simp[cBo]at h
 | [a]=>
  simp only[cBo,aP,aL]at h;obtain⟨ia,h1,h⟩:=h;split at h
  ·rename_i he
   cases h;exact⟨BD (ih.e O h1),he⟩
  ·cases h
 |a::b::r=>
  simp only[cBo,aP,aL]at h;obtain⟨ia,h1,K6,h2,h⟩:=h;obtain⟨r1,r2⟩:=ih.bo O (pos:=pos) h2;cases op with
  |And=>cases h;exact⟨Am (ih.e O h1) r1 r2,rfl⟩
  |Or=>cases h;exact⟨yy (ih.e O h1) r1 r2,rfl⟩
theorem Snd.o_succ(ih:Snd w g n){c:Cc}{E:XK}{X:Cx}(O:XO w g c E X){x:Option Expr}{ir:OE}(h:cO (n+1) c x=some ir):PO X x (tOe w g c E ir):=by
 cases x with
 |none=>simp only[cO,cz]at h;subst h;exact yp
 |some e=>
  simp only[cO,bK]at h;obtain⟨ie,h1,rfl⟩:=h;exact yQ (ih.e O h1)
theorem Snd.es_succ(ih:Snd w g n){c:Cc}{E:XK}{X:Cx}(O:XO w g c E X){x:List Expr}{ir:Es}(h:cEs (n+1) c x=some ir):PA X x (tA w g c E ir):=by
 match x with
 | []=>simp only[cEs,cz]at h;subst h;exact B_
 |e::r=>
  have hs:=gv h e aM;simp only[cEs,hs,bD,if_false,aP,aL]at h;obtain⟨ie,h1,K6,h2,h⟩:=h;cases h;exact xS (ih.e O h1) (ih.es O h2) hs
theorem Snd.ts_succ(ih:Snd w g n){c:Cc}{E:XK}{X:Cx}(O:XO w g c E X){op:PySem.BoolOp}{vs:List Expr}{pos:Pos}{ir:T}(h:cTs (n+1) c op vs=some ir):PW X (.BoolOp op vs pos) (tT w g c E ir):=by
 match vs with
 | []=>simp[cTs]at h
 | [a]=>
  simp only[cTs]at h;cases op with
  |And=>exact xU (ih.t O h)
  |Or=>exact ER (ih.t O h)
 |a::b::r=>
  simp only[cTs,aP,aL]at h;obtain⟨ia,h1,K6,h2,h⟩:=h;cases op with
  |And=>cases h;exact uc (ih.t O h1) (ih.ts O h2)
  |Or=>cases h;exact B7 (ih.t O h1) (ih.ts O h2)
theorem Snd.t_succ(ih:Snd w g n){c:Cc}{E:XK}{X:Cx}(O:XO w g c E X){x:Expr}{ir:T}(h:cT (n+1) c x=some ir):PT X x (tT w g c E ir):=by
 unfold cT at h;split at h
 ·simp only[bK]at h;obtain⟨ia,h1,rfl⟩:=h;exact vw (ih.t O h1)
 ·exact(ih.ts O h).pt
 ·cases h
 ·split at h
  ·simp only[aP,aL]at h;obtain⟨ia,h1,ib,h2,h⟩:=h;split at h
   ·rename_i hs;cases h;exact Ai O (ih.e O h1) (ih.e O h2) hs
   ·cases h
  ·simp only[aP,aL]at h;obtain⟨ia,h1,ib,h2,GQ,h3,h⟩:=h;split at h
   ·rename_i hs
    simp only[aW]at hs;cases h;exact xa O (ih.e O h1) (ih.e O h2) (ih.e O h3) hs.2
   ·cases h
  ·simp only[aP,aL]at h;obtain⟨ia,h1,ib,h2,GQ,h3,Ik,h4,h⟩:=h;split at h
   ·rename_i hs
    simp only[aW]at hs;cases h;exact yu O (ih.e O h1) (ih.e O h2) (ih.e O h3) (ih.e O h4) hs.2
   ·cases h
  ·cases h
 ·rename_i n1 n2 n3 n4
  simp only[bK]at h;obtain⟨ia,h1,rfl⟩:=h;refine Bm O (ih.e O h1) λwhole=>?_
  cases x with
  |UnaryOp op a p=>cases op<;>first|rfl|exact(n1 _ _ rfl).elim
  |BoolOp op vs p=>exact(n2 _ _ _ rfl).elim
  |IfExp a b d p=>exact(n3 _ _ _ _ rfl).elim
  |Compare a ops bs p=>exact(n4 _ _ _ _ rfl).elim
  |_=>rfl
theorem Snd.i_succ(ih:Snd w g n){c:Cc}{E:XK}{X:Cx}(O:XO w g c E X){tg x:Expr}{ir:It}(h:cI (n+1) c x=some ir)(ht:gO ir tg=true):PI X tg x (tIt w g c E ir):=by
 have sq:∀{x:Expr}{ir:It},(cE n c x).map It.seq=some ir->PI X tg x (tIt w g c E ir):=λ{x ir} h=>by
  simp only[bK]at h;obtain⟨ia,h1,rfl⟩:=h;exact wx O (ih.e O h1)
 have tup:isTup tg=true->∃es k p,tg=.Tuple es k p:=λh=>by cases tg<;>first|exact⟨_,_,_,rfl⟩|(exact Bool.noConfusion h)
 unfold cI at h;split at h
 ·rename_i f p as q
  split at h
  ·exact sq h
  ·split at h
   ·rename_i hg
    split at h
    ·rename_i a
     split at h
     ·cases h
     ·rename_i hs
      simp only[bK]at h;obtain⟨ia,h1,rfl⟩:=h;exact uj O hg (ih.e O h1) (by simpa using hs)
    ·rename_i a b
     split at h
     ·cases h
     ·rename_i hs
      have hs:isStar a=false/\isStar b=false:=by simpa using hs
      simp only[aP,aL]at h;obtain⟨ia,h1,ib,h2,h⟩:=h;cases h;exact yL O hg (ih.e O h1) (ih.e O h2) hs.1 hs.2
    ·cases h
   ·rename_i hg
    split at h
    ·rename_i a
     split at h
     ·cases h
     ·rename_i hs
      simp only[bK]at h;obtain⟨ia,h1,rfl⟩:=h;obtain⟨es,k,p',rfl⟩:=tup ht;exact DN O hg (ih.e O h1) (by simpa using hs)
    ·cases h
   ·rename_i hg
    split at h
    ·rename_i a b
     split at h
     ·cases h
     ·rename_i hs
      have hs:isStar a=false/\isStar b=false:=by simpa using hs
      simp only[aP,aL]at h;obtain⟨ia,h1,ib,h2,h⟩:=h;cases h;obtain⟨es,k,p',rfl⟩:=tup ht;exact Bf O hg (ih.e O h1) (ih.e O h2) hs.1 hs.2
    ·cases h
   ·exact sq h
 ·exact sq h
end
section
variable{w:W}{g:Gc}{c:Cc}{E:XK}{X:Cx}{a:Expr}{ia:EV.E}{pos p2 p3 pos3:Pos}
end
section
variable{w:W}{g:Gc}{n:Nat}
theorem Snd.call_name(ih:Snd w g n){c:Cc}{E:XK}{X:Cx}(O:XO w g c E X){f:Str}{p pos:Pos}{as:List Expr}{ir:EV.E}(h:cE (n+1) c (.Call (.Name f p) as [] pos)=some ir):PE X (.Call (.Name f p) as [] pos) (tE w g c E ir):=by
 unfold cE at h;dsimp only at h;split at h
 ·cases h
 ·split at h
  ·rename_i fr hg
   simp only[aP,aL]at h;obtain⟨ies,h1,h⟩:=h;split at h
   ·rename_i hc
    simp only[aW,bL]at hc;cases h
    match as with
    | []=>simp at hc
    |e::es=>exact AS O hg (ih.es O h1) hc.1 (gv h1)
   ·cases h
  ·rename_i b hg
   split at h
   ·rename_i a hs;cases hs
   simp only[aP,aL]at h;obtain⟨ies,h1,h⟩:=h;split at h
   ·rename_i hc
    simp only[aW,bL,bR,beq_iff_eq]at hc;cases h
    match as with
    | []=>simp at hc
    |e::es=>exact xO O hg (by rcases hc.2 with (z|z)|z;exact .inl (O.calm z);exact .inr (.inl z);exact .inr (.inr z)) (ih.es O h1) (gv h1)
   ·cases h
  ·rename_i t b hg
   have plain:∀{ies:Es},cEs n c as=some ies->as.isEmpty=false->PE X (.Call (.Name f p) as [] pos) (tE w g c E (.bi b ies)):=λ{ies} h1 he=>by
    match as with
    | []=>simp at he
    |e::es=>exact AW O hg (ih.es O h1) (gv h1)
   simp only[aP,aL]at h;obtain⟨ies,h1,h⟩:=h;split at h
   ·rename_i hc
    cases h;exact plain h1 (by simpa using hc)
   ·cases h
  ·rename_i hg
   split at h
   ·rename_i a k
    split at h
    ·cases h
    ·rename_i hs
     simp only[aP,aL]at h;obtain⟨ia,h1,cl,h2,h⟩:=h;cases h;exact xc O hg (ih.e O h1) h2 (by simpa using hs)
   ·cases h
  ·cases h
theorem jz:∀{n:Nat}{c:Cc}{l:List Expr}{es:Es},cEs n c l=some es->l.length<=n
 | 0,_,_,_,h=>by simp[cEs]at h
 |n+1,_,[],_,_=>by simp
 |n+1,c,x::l,es,h=>by
  have hs:=gv h x aM;simp only[cEs,hs,bD,if_false,aP,aL]at h;obtain⟨_,_,r,hr,_⟩:=h;have:=jz hr
  simpa using this
theorem lL{c:Cc}{elt:Expr}{gs:List cA}{sc:a8}{p:Pos}{ir:EV.E}(h:cE (n+1) c (.ListComp elt gs sc p)=some ir) :
  ∃FL it ifs FZ FQ G2 ie,gs=[⟨FL,it,ifs,0⟩]/\(c.calm=true/\zx it=true)/\(iO (λx=>c.nm.lookup x) c.N (cy sc.names) (h9 c sc.names) sc=true/\(cy sc.names).Nodup)/\cI n c it=some FZ/\cTg (dU c sc) FL=some FQ/\fX n (dU c sc) ifs=some G2/\cE n (dU c sc) elt=some ie/\(esc ie=true/\gO FZ FL=true)/\ir=.comp FZ (h9 c sc.names) FQ G2 ie:=by
 unfold cE at h;dsimp only at h;split at h
 ·rename_i FL it ifs KY
  split at h
  ·cases h
  ·rename_i hs
   have hs:(KY=0/\c.calm=true)/\zx it=true:=by simpa using hs
   obtain⟨⟨rfl,Il⟩,Jy⟩:=hs;split at h
   ·cases h
   ·rename_i hk
    have hk:iO (λx=>c.nm.lookup x) c.N (cy sc.names) (h9 c sc.names) sc=true/\(cy sc.names).Nodup:=by simpa using hk
    simp only[aP,aL]at h;obtain⟨FZ,h1,FQ,h2,G2,h3,ie,h4,h⟩:=h;split at h
    ·rename_i he
     simp only[aW]at he;cases h;exact⟨FL,it,ifs,FZ,FQ,G2,ie,rfl,⟨Il,Jy⟩,hk,h1,h2,h3,h4,he,rfl⟩
    ·cases h
 ·cases h
theorem Snd.e_succ(ih:Snd w g n)(hn:n<=100000){c:Cc}{E:XK}{X:Cx}(O:XO w g c E X){x:Expr}{ir:EV.E}(h:cE (n+1) c x=some ir):PE X x (tE w g c E ir):=by
 have h0:=h;unfold cE at h;split at h
 ·-- Name
  rename_i y p
  split at h
  ·rename_i i hl
   have:=mm (w:=w) (E:=E) (pos:=p) O hl;cases ho:c.own.contains y with
   |true=>rw[ho]at h this;cases h;exact this
   |false=>rw[ho]at h this;cases h;exact this
  ·split at h
   ·rename_i hg;cases h;exact xZ O hg
   ·cases h
   ·cases h
 ·split at h
  ·cases h;exact j4 rF λ_=>.int _
  ·cases h;exact j4 o7 λ_=>.bl _
  ·cases h;exact j4 DR λ_=>.non
  ·cases h;exact j4 vm λ_=>.str _
  ·cases h
 ·simp only[aP,aL]at h;obtain⟨o,ho,ia,h1,ib,h2,h⟩:=h;cases h;exact AO O ho (ih.e O h1) (ih.e O h2)
 ·rename_i op a p
  simp only[aP,aL]at h;obtain⟨ia,h1,h⟩:=h;cases op with
  |USub=>cases h;exact Bc (ih.e O h1)
  |Invert=>cases h
  |Not=>cases h;exact By (ih.e O h1)
  |UAdd=>cases h
 ·exact(ih.bo O h).1
 ·split at h
  ·simp only[aP,aL]at h;obtain⟨ia,h1,ib,h2,h⟩:=h;split at h
   ·rename_i hs;cases h;exact Cd O (ih.e O h1) (ih.e O h2) hs
   ·cases h
  ·simp only[aP,aL]at h;obtain⟨ia,h1,ib,h2,GQ,h3,h⟩:=h;split at h
   ·rename_i hs
    simp only[aW]at hs;cases h;exact vo O (ih.e O h1) (ih.e O h2) (ih.e O h3) hs.2
   ·cases h
  ·simp only[aP,aL]at h;obtain⟨ia,h1,ib,h2,GQ,h3,Ik,h4,h⟩:=h;split at h
   ·rename_i hs
    simp only[aW]at hs;cases h;exact Ac O (ih.e O h1) (ih.e O h2) (ih.e O h3) (ih.e O h4) hs.2
   ·cases h
  ·cases h
 ·split at h
  ·split at h
   ·rename_i hk
    rw[List.isEmpty_iff]at hk;subst hk;cases h;exact DM
   ·cases h
  ·split at h
   ·split at h
    ·split at h
     ·rename_i hk
      simp only[aW,List.isEmpty_iff]at hk;obtain⟨rfl,rfl⟩:=hk;simp only[aP,aL]at h;obtain⟨ik,h1,iv,h2,h⟩:=h;cases h;exact vz (ih.e O h1) (ih.e O h2)
     ·cases h
    ·cases h
   ·cases h
 ·simp only[aP,aL]at h;obtain⟨it,h1,ia,h2,ib,h3,h⟩:=h;split at h
  ·rename_i hs
   simp only[aW]at hs;cases h;exact v7 (ih.t O h1) (ih.e O h2) (ih.e O h3) hs.1 hs.2
  ·cases h
 ·simp only[aP,aL]at h;obtain⟨ies,h1,h⟩:=h;split at h
  ·rename_i hs;cases h
   exact EI (ih.es O h1) hs λτ ds e=>by rw[jt h1 e];exact bB (jz h1) hn
  ·cases h
 ·simp only[aP,aL]at h;obtain⟨ies,h1,h⟩:=h;split at h
  ·rename_i hs;cases h
   exact wz (ih.es O h1) hs λτ ds e=>by rw[jt h1 e];exact bB (jz h1) hn
  ·cases h
 ·split at h
  ·rename_i lo hi st' sp
   split at h
   ·cases h
   ·simp only[aP,aL]at h;obtain⟨ia,h1,il,h2,OC,h3,h⟩:=h;cases h;exact Fh O (ih.e O h1) (ih.o O h2) (ih.o O h3)
  ·split at h
   ·cases h
   ·rename_i hs
    simp only[aP,aL]at h;obtain⟨ia,h1,ib,h2,h⟩:=h;cases h;exact v9 O (ih.e O h1) (ih.e O h2) (by simpa using hs)
 ·-- ListComp
  rename_i elt gs sc p
  obtain⟨FL,it,ifs,FZ,FQ,G2,ie,rfl,hs,hk,h1,h2,h3,h4,he,rfl⟩:=lL h0;have hS:el X (cy sc.names) (h9 c sc.names) sc:=el.of (by
   have e1:(λx=>c.nm.lookup x)=X.env.kindOf:=by funext x;show _=X.env.scope.names.lookup x;rw[O.nm]
   rw[<-e1,O.N];exact hk.1)
  refine yR O (O.calm hs.1) hS hk.2 (ih.i O h1 he.2) (λcl C s₀ H₀ fp=>?_) he.1 hs.2;have OY:=O.comp hS.kind hk.2 cl C s₀ H₀ fp;exact⟨ji OY h2,ih.ifs OY h3,ih.e OY h4⟩
 ·split at h
  ·split at h
   ·exact ih.call_name O h0
   ·split at h
    ·rename_i hm
     cases h;exact DZ O hm
    ·cases h
   ·cases h
  ·cases h
 ·cases h
theorem Aw:Snd w g 0:=⟨λ_ _ _ h=>(by cases h),λ_ _ _ _ _ h=>(by cases h),λ_ _ _ h=>(by cases h),λ_ _ _ h=>(by cases h),λ_ _ _ _ h=>(by cases h),λ_ _ _ h=>(by cases h),λ_ _ _ _ _ h=>(by cases h),λ_ _ _ h=>(by cases h)⟩
theorem snd:∀n,n<=100000->Snd w g n
 | 0,_=>Aw
 |n+1,h=>
  have ih:=snd n (Nat.le_of_succ_le h)
  ⟨λO _ _ q=>ih.e_succ (Nat.le_of_succ_le h) O q,λO _ _ _ _ q=>ih.bo_succ O q,λO _ _ q=>ih.o_succ O q,λO _ _ q=>ih.es_succ O q,λO _ _ _ q t=>ih.i_succ O q t,λO _ _ q=>ih.t_succ O q,λO _ _ _ _ q=>ih.ts_succ O q,λO _ _ q=>ih.ifs_succ O q⟩
end
def za(c:Cc)(i:Nat):Prop:=∃x,c.N[i]? = some x/\c.own.contains x=true
structure SS(g:Gc)(c:Cc)(H0:Hp)(B:Sh)(τ:Env)(σ:L2.St)(H:Hp)(S:Sh):Prop where
 se:SE g c τ σ H S
 lenN:τ.length=c.N.length
 same:qf H0 H
 sub0:Sub B H0
 hd:∀a,S.h a=(B.h a||S.o a)
 new:∀a,S.o a=true->H0 a=none
 own:∀i d,za c i->τ[i]? = some (some d)->∃a o,σ[i]? = some (some (.ref a))/\S.o a=true/\H a=some o/\dN g (hid H S) d o
 inj:∀i j d e a,za c i->za c j->τ[i]? = some (some d)->τ[j]? = some (some e)->σ[i]? = some (some (.ref a))->σ[j]? = some (some (.ref a))->i=j
 frz:c.frz=true->(∀i,za c i->σ[i]? = B.z[i]?)/\qf B.y H
section
variable{g:Gc}{c:Cc}{H0:Hp}{B:Sh}{τ:Env}{σ:L2.St}{H H':Hp}{S:Sh}
theorem SS.up(s:SS g c H0 B τ σ H S)(e:qf H H'):SS g c H0 B τ σ H' S:=
 ⟨s.se.up e,s.lenN,s.same.trans e,s.sub0,s.hd,s.new,λi d hi h=>let ⟨a,o,h1,h2,h4,h5⟩:=s.own i d hi h;⟨a,o,h1,h2,e _ _ h4,h5.mono (qh e)⟩,s.inj,λz=>⟨(s.frz z).1,(s.frz z).2.trans e⟩⟩
theorem SS.set{i:Nat}{d:D}{v:V}(s:SS g c H0 B τ σ H S)(hi:¬ za c i)(r:Rep g (hid H S) d v):SS g c H0 B (τ.set i (some d)) (σ.set i (some v)) H S:=by
 refine⟨s.se.set r,by simp[s.lenN],s.same,s.sub0,s.hd,s.new,λj e hj h=>?_,λj k e f a hj hk h1 h2 h3 h4=>?_,λz=>⟨λj hj=>?_,(s.frz z).2⟩⟩
 ·have FC:i≠j:=λz=>hi (z▸hj)
  rw[List.getElem?_set_ne FC]at h ⊢;exact s.own j e hj h
 ·have FC:i≠j:=λz=>hi (z▸hj)
  have G_:i≠k:=λz=>hi (z▸hk)
  rw[List.getElem?_set_ne FC]at h1 h3;rw[List.getElem?_set_ne G_]at h2 h4;exact s.inj j k e f a hj hk h1 h2 h3 h4
 ·rw[List.getElem?_set_ne (λz:i=j=>hi (z▸hj))];exact(s.frz z).1 j hj
theorem SS.setAll{is:List Nat}:∀{ds:List D}{vs:List V}{τ τ':Env}{σ:L2.St}{Q:L2.St->Hp->Prop},SS g c H0 B τ σ H S->(∀i∈is,¬ za c i)->qy g (hid H S) ds vs->EV.setAll is ds τ=.ok τ'->(∀σ',SS g c H0 B τ' σ' H S->Q σ' H)->iF is vs σ H Q:=by
 induction is with
 |nil=>
  intro ds vs τ τ' σ Q se _ r h k;cases r with
  |nil=>cases (show R.ok τ=R.ok τ' from h);exact⟨rfl,k σ se⟩
  |cons _ _=>cases (show R.no=R.ok τ' from h)
 |cons i is ih=>
  intro ds vs τ τ' σ Q se ho r h k;cases r with
  |nil=>cases (show R.no=R.ok τ' from h)
  |cons r rs=>exact⟨_,_,rfl,ih (se.set (ho i aM) r) (λj hj=>ho j (aR _ hj)) rs h k⟩
theorem Bw{tg:Tg}(h:iP c tg):match tg with | .nm i=>¬ za c i | .tp is=>∀i∈is,¬ za c i:=by
 cases tg with
 |nm i=>rintro⟨x,h1,h2⟩;rw[h x h1]at h2;cases h2
 |tp is=>rintro i hi ⟨x,h1,h2⟩;rw[h i hi x h1]at h2;cases h2
theorem SS.store{X:Cx}(O:X.K=g.K){tg:Tg}{d:D}{v:V}{τ':Env}{Q:L2.St->Hp->Prop}(s:SS g c H0 B τ σ H S)(hf:iP c tg)(r:Rep g (hid H S) d v)(h:EV.store tg d τ=.ok τ')(k:∀σ',SS g c H0 B τ' σ' H S->Q σ' H):gT X.K tg v σ H Q:=by
 have ho:=Bw hf;cases tg with
 |nm i=>
  simp only[EV.store,R.ok.injEq]at h;subst h;exact k _ (s.set ho r)
 |tp is=>
  cases d with
  |tup ds=>
   simp only[EV.store]at h;split at h
   ·rename_i hl
    cases r with
    |tup h1 r1=>exact⟨_,_,rfl,by rw[O];exact eA dj h1,by rw[<-r1.length];exact hl,s.setAll ho r1 h k⟩
   ·cases h
  |_=>simp[EV.store]at h
noncomputable def pN(S:Sh)(a:Addr):Sh:=⟨λb=>S.o b||b==a,λb=>S.h b||b==a,S.z,S.y⟩
theorem SS.setOwn{i:Nat}{d:D}{v:V}(s:SS g c H0 B τ σ H S)(hz:c.frz=false)(hi:za c i)(FF:i<τ.length)(e:qf H H')(f:Fr g H S H' d v):∃S',SS g c H0 B (τ.set i (some d)) (σ.set i (some v)) H' S'/\qf (hid H S) (hid H' S'):=by
 obtain⟨a,oo,rfl,h1,h2,h3⟩:=f;have up:qf (hid H S) (hid H' (pN S a)):=λb o hb=>by
  obtain⟨z1,z2⟩:=bZ.mp hb;refine bZ.mpr ⟨?_,e _ _ z2⟩;show (S.h b||b==a)=false;rw[z1]
  simpa using λz:b=a=>by rw[z,h1]at z2;cases z2
 have Gm:i<σ.length:=by rw[<-s.se.len];exact FF
 refine⟨pN S a,⟨⟨by simp[s.se.len],λj e' hj=>?_,λb hb n=>?_⟩,by simp[s.lenN],s.same.trans e,s.sub0,λb=>?_,λb hb=>?_,λj e' hj h=>?_,λj k e1 e2 b hj hk q1 q2 q3 q4=>?_,λz=>by rw[hz]at z;cases z⟩,up⟩
 ·by_cases FC:i=j
  ·subst FC;simp[FF]at hj;subst hj;refine⟨.ref a,by simp[Gm],.inr ⟨a,oo,by show (S.o a||a==a)=true;simp,rfl,h2,h3⟩,λx hx hn=>?_⟩;obtain⟨y,Jr,HF⟩:=hi;rw[Jr]at hx;cases hx;rw[hn]at HF;cases HF
  ·rw[List.getElem?_set_ne FC]at hj ⊢;obtain⟨u,z1,z2,z3⟩:=s.se.val j e' hj;refine⟨u,z1,?_,λx hx hn=>(z3 x hx hn).mono up⟩;rcases z2 with z2|⟨a',o',y1,y2,y4,y5⟩
   ·exact .inl (z2.mono up)
   ·exact .inr ⟨a',o',by show (S.o a'||a'==a)=true;rw[y1];rfl,y2,e _ _ y4,y5.mono up⟩
 ·have hb:(S.h b||b==a)=true\/(S.o b||b==a)=true:=hb;by_cases GX:b=a
  ·rw[GX,h2]at n;cases n
  ·have:S.h b=true\/S.o b=true:=by
    rcases hb with z|z
    ·exact .inl (by simpa[GX]using z)
    ·exact .inr (by simpa[GX]using z)
   exact(s.se.sub.same e) b this n
 ·show (S.h b||b==a)=(B.h b||(S.o b||b==a))
  rw[s.hd b,Bool.or_assoc]
 ·have hb:(S.o b||b==a)=true:=hb;by_cases GX:b=a
  ·rw[GX];exact s.same.free h1
  ·exact s.new b (by simpa[GX]using hb)
 ·by_cases FC:i=j
  ·subst FC;simp[FF]at h;subst h;exact⟨a,oo,by simp[Gm],by show (S.o a||a==a)=true;simp,h2,h3⟩
  ·rw[List.getElem?_set_ne FC]at h ⊢;obtain⟨a',o',y1,y2,y4,y5⟩:=s.own j e' hj h;exact⟨a',o',y1,by show (S.o a'||a'==a)=true;rw[y2];rfl,e _ _ y4,y5.mono up⟩
 ·have other:∀j e1 b,i≠j->za c j->τ[j]? = some (some e1)->σ[j]? = some (some (.ref b))->b≠a:=λj e1 b FC hj q1 q3 z=>by
   obtain⟨a',o',y1,y2,y4,y5⟩:=s.own j e1 hj q1;rw[q3]at y1;cases y1;rw[z,h1]at y4;cases y4
  by_cases FC:i=j
  ·by_cases G_:i=k
   ·rw[<-FC,<-G_]
   ·subst FC;rw[List.getElem?_set_ne G_]at q2 q4;have Ni:b=a:=by
     have:(σ.set i (some (.ref a)))[i]? = some (some (.ref a)):=by simp[Gm]
     rw[this]at q3;cases q3;rfl
    exact absurd Ni (other k e2 b G_ hk q2 q4)
  ·by_cases G_:i=k
   ·subst G_;rw[List.getElem?_set_ne FC]at q1 q3;have Nj:b=a:=by
     have:(σ.set i (some (.ref a)))[i]? = some (some (.ref a)):=by simp[Gm]
     rw[this]at q4;cases q4;rfl
    exact absurd Nj (other j e1 b FC hj q1 q3)
   ·rw[List.getElem?_set_ne FC]at q1 q3;rw[List.getElem?_set_ne G_]at q2 q4;exact s.inj j k e1 e2 b hj hk q1 q2 q3 q4
theorem SS.changeO{i:Nat}{a:Addr}{d0 d1:D}{o1:HO}(s:SS g c H0 B τ σ H S)(hz:c.frz=false)(hi:za c i)(h0:τ[i]? = some (some d0))(ha:σ[i]? = some (some (.ref a)))(r:dN g (hid H S) d1 o1):SS g c H0 B (τ.set i (some d1)) σ (upd H a o1) S/\qf (hid H S) (hid (upd H a o1) S):=by
 have FF:i<τ.length:=(List.getElem?_eq_some_iff.mp h0).1;obtain⟨a',o0,y1,y2,y4,y5⟩:=s.own i d0 hi h0;rw[ha]at y1;cases y1;have hh:S.h a=true:=by rw[s.hd,y2,Bool.or_true]
 have he:hid (upd H a o1) S=hid H S:=jc hh;have other:∀j e,i≠j->za c j->τ[j]? = some (some e)->∀b,σ[j]? = some (some (.ref b))->b≠a:=λj e FC hj h b hb z=>by
  subst z;exact FC (s.inj i j d0 e b hi hj h0 h ha hb)
 refine⟨⟨⟨by simp[s.se.len],λj e hj=>?_,λb hb n=>?_⟩,by simp[s.lenN],λb o hb=>?_,s.sub0,s.hd,s.new,λj e hj h=>?_,λj k e1 e2 b hj hk q1 q2 q3 q4=>?_,λz=>by rw[hz]at z;cases z⟩,by rw[he];exact qf.refl _⟩
 ·by_cases FC:i=j
  ·subst FC;simp[FF]at hj;subst hj;refine⟨.ref a,ha,.inr ⟨a,o1,y2,rfl,zm,by rw[he];exact r⟩,λx hx hn=>?_⟩;obtain⟨y,Jr,HF⟩:=hi;rw[Jr]at hx;cases hx;rw[hn]at HF;cases HF
  ·rw[List.getElem?_set_ne FC]at hj;obtain⟨u,z1,z2,z3⟩:=s.se.val j e hj;by_cases ho:za c j
   ·obtain⟨b,ob,w1,w2,w4,w5⟩:=s.own j e ho hj;rw[z1]at w1;cases w1;refine⟨_,z1,.inr ⟨b,ob,w2,rfl,by rw[qg (other j e FC ho hj b z1)];exact w4,by rw[he];exact w5⟩,λx hx hn=>?_⟩;obtain⟨y,Jr,HF⟩:=ho;rw[Jr]at hx;cases hx;rw[hn]at HF;cases HF
   ·have st:Rep g (hid H S) e u:=by
     cases q:c.N[j]? with
     |some x=>
      refine z3 x q ?_;cases q2:c.own.contains x with
      |false=>rfl
      |true=>exact absurd ⟨x,q,q2⟩ ho
     |none=>
      have h1:=(List.getElem?_eq_some_iff.mp hj).1;have h2:=List.getElem?_eq_none_iff.mp q;have h3:=s.lenN;lia
    exact⟨u,z1,.inl (by rw[he];exact st),λ_ _ _=>by rw[he];exact st⟩
 ·by_cases GX:b=a
  ·subst GX;rw[zm]at n;cases n
  ·rw[qg GX]at n;exact s.se.sub b hb n
 ·by_cases GX:b=a
  ·subst GX;rw[s.new b y2]at hb;cases hb
  ·rw[qg GX];exact s.same _ _ hb
 ·by_cases FC:i=j
  ·subst FC;simp[FF]at h;subst h;exact⟨a,o1,ha,y2,zm,by rw[he];exact r⟩
  ·rw[List.getElem?_set_ne FC]at h;obtain⟨b,ob,w1,w2,w4,w5⟩:=s.own j e hj h;exact⟨b,ob,w1,w2,by rw[qg (other j e FC hj h b w1)];exact w4,by rw[he];exact w5⟩
 ·have f:∀k e,(τ.set i (some d1))[k]? = some (some e)->∃e',τ[k]? = some (some e'):=λk e h=>by
   by_cases G_:i=k
   ·subst G_;exact⟨d0,h0⟩
   ·rw[List.getElem?_set_ne G_]at h;exact⟨e,h⟩
  obtain⟨Jh,Nk⟩:=f j e1 q1;obtain⟨Ji,Nl⟩:=f k e2 q2;exact s.inj j k Jh Ji b hj hk Nk Nl q3 q4
theorem SS.change{i:Nat}{a:Addr}{d0:D}{vs:List V}{ds:List D}(s:SS g c H0 B τ σ H S)(hz:c.frz=false)(hi:za c i)(h0:τ[i]? = some (some d0))(ha:σ[i]? = some (some (.ref a)))(r:qy g (hid H S) ds vs):SS g c H0 B (τ.set i (some (.lst ds))) σ (upd H a (.lst vs)) S/\qf (hid H S) (hid (upd H a (.lst vs)) S):=s.changeO hz hi h0 ha (.lst r)
end
def b8(g:Gc)(c:Cc)(E:XK)(fr:Bool)(H0:Hp)(B:Sh)(H:Hp)(S:Sh)(D:Ends):O->Prop
 | .nx τ'=>∀σ' H' S',SS g c H0 B τ' σ' H' S'->qf (hid H S) (hid H' S')->D.nx σ' H'
 | .bk τ'=>∀σ' H' S',SS g c H0 B τ' σ' H' S'->qf (hid H S) (hid H' S')->D.bk σ' H'
 | .ct τ'=>∀σ' H' S',SS g c H0 B τ' σ' H' S'->qf (hid H S) (hid H' S')->D.ct σ' H'
 | .rt d=>∀v H',qf H0 H'->Rep g (hid H' B) d v->(fr=true->cX d=true->Fr g H0 B H' d v)->D.rt v H'
 | .ex k=>∀H' C,qf H0 H'->g.clA k=some C->E (.ref C) none H'
 | .no=>False
section
variable(w:W)(g:Gc)(c:Cc)(E:XK)(fr:Bool)
def tS(s:EV.S):TS:=λD σ H=>∃H0 B τ S,SS g c H0 B τ σ H S/\b8 g c E fr H0 B H S D (evS w s τ)
def tSs(s:Ss):TS:=λD σ H=>∃H0 B τ S,SS g c H0 B τ σ H S/\b8 g c E fr H0 B H S D (qe w s τ)
end
structure XS(w:W)(g:Gc)(c:Cc)(E:XK)(X:Cx):Prop extends XO w g c E X where
 thr:c.thr=true->Throws X E
 exc:∀x C,c.G.lookup x=some .exc->g.clA x=some C->mF g.K C
 cat:∀k x,w.cat k x=true->∀C D,g.clA k=some C->g.clA x=some D->bY g.K (.ref C) (.ref D)=some true
 frm:X.ex=[]/\X.stack=X.env::X.outer/\X.env.frame=some X.env.locals
 gh:∀x k,c.GH.lookup x=some k->k≠.exc/\∀v,GM w g X.prog X.w X.mg X.base (X.A.mark v) false x k
section
variable{w:W}{g:Gc}{c:Cc}{E:XK}{fr:Bool}{X:Cx}{H0:Hp}{B:Sh}{τ:Env}{σ:L2.St}{H H':Hp}{S:Sh}{Ed:Ends}
theorem b8.up{o:O}{S':Sh}(h:b8 g c E fr H0 B H S Ed o)(e:qf (hid H S) (hid H' S')):b8 g c E fr H0 B H' S' Ed o:=by
 cases o with
 |nx t=>exact λσ' H2 S2 s e2=>h σ' H2 S2 s (e.trans e2)
 |bk t=>exact λσ' H2 S2 s e2=>h σ' H2 S2 s (e.trans e2)
 |ct t=>exact λσ' H2 S2 s e2=>h σ' H2 S2 s (e.trans e2)
 |rt d=>exact h
 |ex k=>exact h
 |no=>exact h
theorem s_e{e:EV.E}{f:D->O}{Q:VK}(ss:SS g c H0 B τ σ H S)(h:b8 g c E fr H0 B H S Ed ((evE w e τ).out f))(k:∀d v H',evE w e τ=.ok d->bC g c e S H d v H'->b8 g c E fr H0 B H S Ed (f d)->Q v H'):tE w g c E e σ H Q:=by
 refine⟨τ,S,ss.se,?_⟩;cases q:evE w e τ with
 |ok d=>rw[q]at h;exact λv H' p=>k d v H' q p h
 |ex x=>rw[q]at h;exact λH' C s hc=>h H' C (ss.same.trans s) hc
 |no=>rw[q]at h;exact h
theorem s_t{t:T}{f:Bool->O}{Q:Bool->Hp->Prop}(ss:SS g c H0 B τ σ H S)(h:b8 g c E fr H0 B H S Ed ((evT w t τ).out f))(k:∀b H',evT w t τ=.ok b->qf H H'->b8 g c E fr H0 B H S Ed (f b)->Q b H'):tT w g c E t σ H Q:=by
 refine⟨τ,S,ss.se,?_⟩;cases q:evT w t τ with
 |ok d=>rw[q]at h;exact λH' p=>k d H' q p h
 |ex x=>rw[q]at h;exact λH' C s hc=>h H' C (ss.same.trans s) hc
 |no=>rw[q]at h;exact h
theorem s_a{es:Es}{f:List D->O}{Q:List V->Hp->Prop}(ss:SS g c H0 B τ σ H S)(h:b8 g c E fr H0 B H S Ed ((zo w es τ).out f))(k:∀ds vs H',zo w es τ=.ok ds->qf H H'->fP g H' S ds vs->b8 g c E fr H0 B H S Ed (f ds)->Q vs H'):tA w g c E es σ H Q:=by
 refine⟨τ,S,ss.se,?_⟩;cases q:zo w es τ with
 |ok d=>rw[q]at h;exact λvs H' p r _=>k d vs H' q p r h
 |ex x=>rw[q]at h;exact λH' C s hc=>h H' C (ss.same.trans s) hc
 |no=>rw[q]at h;exact h
theorem pV(ss:SS g c H0 B τ σ H S){b:Addr}(h:S.h b=false):B.h b=false:=by
 have:=ss.hd b;rw[h]at this;cases q:B.h b with
 |false=>rfl
 |true=>rw[q]at this;cases this
theorem rB(ss:SS g c H0 B τ σ H S):qf (hid H' S) (hid H' B):=λb o h=>by
 obtain⟨z1,z2⟩:=bZ.mp h;exact bZ.mpr ⟨pV ss z1,z2⟩
theorem sJ:∀{is:List Nat}{ds:List EV.D}{τ:Env}{x:Str},setAll is ds τ≠.ex x
 | [],[],_,_,h=>by cases h
 | [],_::_,_,_,h=>by cases h
 |_::_,[],_,_,h=>by cases h
 |i::is,d::ds,τ,x,h=>by simp only[setAll]at h;exact sJ h
theorem iR{e:Expr}{t:Option Expr}{l:Nat}{env:PySem.Env}(h:fC e=false):swapsWith e t l env=pure false:=by
 cases e<;>first|rfl|(exact Bool.noConfusion h)
theorem Bu{e:Expr}{ie:EV.E}{pos:Pos}(he:PE X e (tE w g c E ie))(hc:fC e=false):PS X (.Expr e pos) (tS w g c E fr (.exp ie)):=
 PS.imp (jO he (iR hc)) λD σ H ⟨H0,B,τ,S,ss,h⟩=>by
  simp only[zO,zW,cG,cD,zw,cB,zP,zY,cF,zC,zA,zD,zI,zG,zH,zK,zM,zN]at h;exact s_e ss h λd v H' _ p k=>k σ H' S (ss.up p.same) (qh p.same)
theorem BC{pos:Pos}(hf:fr=false):PS X (.Return none pos) (tS w g c E fr .retN):=PS.imp D0 λD σ H ⟨H0,B,τ,S,ss,h⟩=>h _ _ ss.same .non (by rw[hf];intro z;cases z)
theorem kJ(ss:SS g c H0 B τ σ H S){a:Addr}{d:EV.D}{o:HO}(h1:H0 a=none)(h2:H' a=some o)(h3:dN g (hid H' (cZ S a)) d o):Rep g (hid H' B) d (.ref a)/\Fr g H0 B H' d (.ref a):=by
 have up:qf (hid H' (cZ S a)) (hid H' (cZ B a)):=λb o hb=>by
  obtain⟨z1,z2⟩:=bZ.mp hb;refine bZ.mpr ⟨?_,z2⟩;have z1:(S.h b||b==a)=false:=z1;simp only[Bool.or_eq_false_iff]at z1;show (B.h b||b==a)=false;rw[pV ss z1.1,z1.2];rfl
 exact⟨h3.rep (up.trans sA) (bZ.mpr ⟨ss.sub0.free h1,h2⟩),⟨a,o,rfl,h1,h2,h3.mono up⟩⟩
theorem nR(ss:SS g c H0 B τ σ H S){a:Addr}{d:EV.D}{o1:HO}(y1:S.o a=true)(y3:dN g (hid H' S) d o1):dN g (hid H' (cZ S a)) d o1:=y3.mono λb o hb=>by
 have hh:S.h a=true:=by rw[ss.hd,y1,Bool.or_true]
 obtain⟨z1,z2⟩:=bZ.mp hb;refine bZ.mpr ⟨?_,z2⟩;show (S.h b||b==a)=false;rw[z1]
 simpa using λz:b=a=>by rw[z,hh]at z1;cases z1
theorem sI{e:Expr}{ie:EV.E}{pos:Pos}(he:PE X e (tE w g c E ie))(hf:fr=true->eD c ie=true):PS X (.Return (some e) pos) (tS w g c E fr (.ret ie)):=
 PS.imp (kT he) λD σ H ⟨H0,B,τ,S,ss,h⟩=>by
  simp only[zO,zW,cG,cD,zw,cB,zP,zY,cF,zC,zA,zD,zI,zG,zH,zK,zM,zN]at h;refine s_e ss h λd v H' _ p k=>?_
  have k:∀v H',qf H0 H'->Rep g (hid H' B) d v->(fr=true->cX d=true->Fr g H0 B H' d v)->D.rt v H':=k;have s1:=ss.up p.same;by_cases hz:fr=true/\cX d=true
  ·obtain⟨a,o,rfl,h1,h2,h3⟩:=p.frc (hf hz.1) hz.2;obtain⟨r1,r2⟩:=kJ (H':=H') ss (ss.same.free h1) h2 h3;exact k _ H' s1.same r1 λ_ _=>r2
  ·rcases p.rb with r|⟨a,o,y1,rfl,y2,y3⟩
   ·exact k v H' s1.same (r.mono (rB ss)) λz l=>absurd ⟨z,l⟩ hz
   ·obtain⟨r1,r2⟩:=kJ (H':=H') ss (ss.new a y1) y2 (nR ss y1 y3);exact k _ H' s1.same r1 λ_ _=>r2
theorem Be{e:Expr}{ie:EV.E}{pos:Pos}(he:PE X e (tE w g c E ie)):PS X (.Return (some e) pos) (tS w g c E fr (.retn ie)):=
 PS.imp (kT he) λD σ H ⟨H0,B,τ,S,ss,h⟩=>by
  simp only[zO,zW,cG,cD,zw,cB,zP,zY,cF,zC,zA,zD,zI,zG,zH,zK,zM,zN]at h;refine s_e ss h λd v H' _ p k=>?_
  have s1:=ss.up p.same;cases hl:cX d with
  |true=>rw[hl]at k;exact k.elim
  |false=>
   rw[hl]at k;have k:∀v H',qf H0 H'->Rep g (hid H' B) d v->(fr=true->cX d=true->Fr g H0 B H' d v)->D.rt v H':=k;rcases p.rb with r|⟨a,o,y1,rfl,y2,y3⟩
   ·exact k v H' s1.same (r.mono (rB ss)) λ_ l=>by rw[hl]at l;cases l
   ·cases y3<;>cases hl
theorem uJ(O:XO w g c E X){x:Str}{i:Nat}{p pos:Pos}(h:loc c x=some i)(ho:c.own.contains x=true):PS X (.Return (some (.Name x p)) pos) (tS w g c E fr (.ret (.own i))):=by
 obtain⟨h1,h2,h3,h4⟩:=zt h;refine PS.imp (kT (f_ (i:=i) (by rw[O.N];exact h1) (by unfold fi;rw[O.nm];exact h2) h3 h4)) λD σ H ⟨H0,B,τ,S,ss,h⟩=>?_
 simp only[zO,zW,cG,cD,zw,cB,zP,zY,cF,zC,zA,zD,zI,zG,zH,zK,zM,zN,qZ,zh,zj,zi,ze,qF,zk,qC,qL,qG,qJ,qO,qS,qP,qK,qB,qN,qE,qx,qI,qA,qT,qW,qM,qV,qU,qR,zu]at h;cases q:τ[i]? with
 |none=>rw[q]at h;exact h.elim
 |some o=>
  cases o with
  |none=>rw[q]at h;exact h.elim
  |some d=>
   rw[q]at h;obtain⟨a,o,z1,y1,y2,y3⟩:=ss.own i d ⟨x,h1,ho⟩ q;obtain⟨r1,r2⟩:=kJ (H':=H) ss (ss.new a y1) y2 (nR ss y1 y3);exact⟨_,z1,h _ H ss.same r1 λ_ _=>r2⟩
theorem lX{e:Expr}{ie:EV.E}{i:Nat}{st:Stmt}{te:TE}(hp:PS X st (jV te (fN i)))(hr:∀σ H Q,tE w g c E ie σ H Q->te σ H Q)(FF:i<c.N.length)(hk:(za c i/\fresh c ie=true/\c.frz=false)\/(¬ za c i/\esc ie=true)):PS X st (tS w g c E fr (.set (.nm i) ie)):=
 PS.imp hp λD σ H ⟨H0,B,τ,S,ss,h⟩=>by
  simp only[zO,zW,cG,cD,zw,cB,zP,zY,cF,zC,zA,zD,zI,zG,zH,zK,zM,zN,store]at h;refine hr σ H _ (s_e ss h λd v H' _ p k=>?_);have k:∀σ' H2 S2,SS g c H0 B (τ.set i (some d)) σ' H2 S2->qf (hid H S) (hid H2 S2)->D.nx σ' H2:=k;rcases hk with ⟨ho,hf,Ge⟩|⟨ho,he⟩
  ·obtain⟨S',s1,s2⟩:=ss.setOwn Ge ho (by rw[ss.lenN];exact FF) p.same (p.fr hf);exact k _ _ S' s1 s2
  ·exact k _ _ S ((ss.up p.same).set ho (p.st he)) (qh p.same)
theorem tw(O:XO w g c E X){tg e:Expr}{FQ:Tg}{ie:EV.E}{pos:Pos}(he:PE X e (tE w g c E ie))(hg:PG X tg (gT X.K FQ))(hf:iP c FQ)(GY:esc ie=true)(hs:swapsWithSole [tg] e pos.line X.env=pure false)(hw:cU [tg] e X.env=pure none)(h1:(assignEach [tg] X.env).map (·.2)=[assign tg X.env]) :
  PS X (.Assign [tg] e pos) (tS w g c E fr (.set FQ ie)):=
 PS.imp (rm he hg hs hw h1) λD σ H ⟨H0,B,τ,S,ss,h⟩=>by
  simp only[zO,zW,cG,cD,zw,cB,zP,zY,cF,zC,zA,zD,zI,zG,zH,zK,zM,zN]at h;refine s_e ss h λd v H' _ p k=>?_
  cases q:store FQ d τ with
  |ok τ'=>
   rw[q]at k;exact(ss.up p.same).store O.K hf (p.st GY) q λσ' s1=>k σ' H' S s1 (qh p.same)
  |ex z=>cases FQ<;>simp only[store]at q<;>first|cases q|(split at q<;>first|cases q|(split at q<;>first|(exact absurd q (sJ))|cases q))
  |no=>rw[q]at k;exact k.elim
theorem vS{env:PySem.Env}{x y:Str}{px py pt Gz:Pos}{kt k2:Nat}{a b:Expr}(bk:env.blockKind=.function)(kx:env.kindOf x=some .local)(ky:env.kindOf y=some .local)(hl:px.line=py.line)(Hi:x≠y)(ha:isStar a=false)(hb:isStar b=false)(h1:[a,b].all (foldedForSure 8)=false)(h2:[a,b].all (constantsAlone 8)=false) :
  cU [.Tuple [.Name x px,.Name y py] kt pt] (.Tuple [a,b] k2 Gz) env=pure (some [x,y]):=by
 have ed:[x,y].eraseDups=[x,y]:=by
  have:(y==x)=false:=by simpa using λz:y=x=>Hi z.symm
  simp[List.eraseDups_cons,this]
 have b1:(env.blockKind != .function)=false:=by rw[bk];rfl
 have hp:(Expr.Name x px).pos=px:=rfl;unfold cU;simp only[b1,List.filterMap_cons,List.filterMap_nil,List.head?_cons,Option.map_some,Option.getD_some,hp,kx,ky,hl,beq_self_eq_true,Bool.and_self,if_true,ed,h1,h2];rw[if_neg (by simp),if_neg,if_neg (by simp),if_neg bO,if_neg bO];simp only[List.any_cons,List.any_nil,Bool.or_false,bR];rintro(h|h)
 ·split at h
  ·cases ha
  ·cases h
 ·split at h
  ·cases hb
  ·cases h
theorem yE(O:XO w g c E X)(hc:X.calm=true){x y:Str}{i j:Nat}{a b:Expr}{ia ib:EV.E}{px py pt pos:Pos}{kt k2 Gz}(hx:cL c x=some i)(hy:cL c y=some j)(lx:c.nm.lookup x=some .local)(ly:c.nm.lookup y=some .local)(FC:i≠j)
  (ha:PE X a (tE w g c E ia)) (hb:PE X b (tE w g c E ib)) (Iu:isStar a=false) (HW:isStar b=false) (Iy:[a,b].all (foldedForSure 8)=false) (Iz:[a,b].all (constantsAlone 8)=false) (hl:(px.line==py.line)=true) (hi:¬ za c i) (Nm:esc ia=true) (hk:(za c j/\fresh c ib=true/\c.frz=false)\/(¬ za c j/\esc ib=true)) :
  PS X (.Assign [.Tuple [.Name x px,.Name y py] kt pt] (.Tuple [a,b] k2 Gz) pos) (tS w g c E fr (.par i j ia ib)):=by
 obtain⟨l1,_⟩:=zy hx;obtain⟨l3,_⟩:=zt l1;obtain⟨m1,_⟩:=zy hy;obtain⟨m3,_⟩:=zt m1;have FI:=qu (es:=[]) (env:=X.env) HW;have G':=qu (es:=[b]) (env:=X.env) Iu;have Hi:x≠y:=λz=>by subst z;rw[hx]at hy;cases hy;exact FC rfl
 have hw:cU [.Tuple [.Name x px,.Name y py] kt pt] (.Tuple [a,b] k2 Gz) X.env=pure (some [x,y]):=by
  refine vS ?_ ?_ ?_ (eq_of_beq hl) Hi Iu HW Iy Iz
  ·unfold Env.blockKind;rw[O.kind];rfl
  ·show X.env.scope.names.lookup x=_;rw[O.nm,lx]
  ·show X.env.scope.names.lookup y=_;rw[O.nm,ly]
 refine PS.imp (Cg (i:=i) (j:=j) hc (by rw[O.N];exact O.nd) (by rw[O.N];exact l3) (by rw[O.N];exact m3) FC (by rw[O.nm];exact lx) (by rw[O.nm];exact ly) (zU ha (zU hb eG FI) G') hw rfl) λD σ H ⟨H0,B,τ,S,ss,h⟩=>?_
 simp only[zO,zW,cG,cD,zw,cB,zP,zY,cF,zC,zA,zD,zI,zG,zH,zK,zM,zN]at h;refine s_e ss h λd v H1 _ p1 k1=>?_
 refine s_e (ss.up p1.same) (b8.up k1 (qh p1.same)) λd2 v2 H2 _ p2 k2=>?_
 refine⟨v,v2,rfl,?_⟩;have k2:∀σ' H' S',SS g c H0 B ((τ.set i (some d)).set j (some d2)) σ' H' S'->qf (hid H1 S) (hid H' S')->D.nx σ' H':=k2;have s1:=(ss.up p1.same).set hi (p1.st Nm);have FF:j<(τ.set i (some d)).length:=by rw[List.length_set,ss.lenN];exact(List.getElem?_eq_some_iff.mp m3).1
 rcases hk with ⟨ho,hf,Ge⟩|⟨ho,he⟩
 ·obtain⟨S',z1,z2⟩:=s1.setOwn Ge ho FF p2.same (p2.fr hf);exact k2 _ _ S' z1 z2
 ·exact k2 _ _ S ((s1.up p2.same).set ho (p2.st he)) (qh p2.same)
end
section
variable{w:W}{g:Gc}{c:Cc}{E:XK}{fr:Bool}{X:Cx}{H0:Hp}{B:Sh}{τ:Env}{σ:L2.St}{H H':Hp}{S:Sh}{Ed:Ends}
theorem iA{i:Nat}{d:EV.D}(h:zu τ i=.ok d):τ[i]? = some (some d):=by
 unfold zu at h;split at h
 ·rename_i q;cases h;exact q
 ·cases h
theorem vZ(O:XO w g c E X)(Ge:c.frz=false){x:Str}{i:Nat}{a:Expr}{ia:EV.E}{p ap cp pos:Pos}(h:loc c x=some i)(ho:c.own.contains x=true)(ha:PE X a (tE w g c E ia))(GY:esc ia=true)(hs:isStar a=false)(hl:(ap.endLine==cp.line)=true) :
  PS X (.Expr (.Call (.Attribute (.Name x p) "append" ap) [a] [] cp) pos) (tS w g c E fr (.app i ia)):=by
 obtain⟨h1,h2,h3,h4⟩:=zt h;have hv:PE X (.Name x p) (fK i):=f_ (i:=i) (by rw[O.N];exact h1) (by unfold fi;rw[O.nm];exact h2) h3 h4;have FI:=qu (es:=[]) (env:=X.env) hs;have hb:=hU (X:=X) (apos:=ap) (cpos:=cp) PySem.F.plainAttrs_list PySem.F.slot_list_append PySem.F.type_list_append nJ hv (zU ha eG FI) rfl (by rw[FI];rfl) hl FI rfl;refine PS.imp (jO hb rfl) λD σ H ⟨H0,B,τ,S,ss,k⟩=>?_
 simp only[zO,zW,cG,cD,zw,cB,zP,zY,cF,zC,zA,zD,zI,zG,zH,zK,zM,zN]at k;cases q:zu τ i with
 |ex z=>unfold zu at q;split at q<;>cases q
 |no=>rw[q]at k;exact k.elim
 |ok d0=>
  rw[q]at k;have q':=iA q;have hi:za c i:=⟨x,h1,ho⟩
  obtain⟨ad,oo,z1,y1,y2,y3⟩:=ss.own i d0 hi q';cases y3 with
  |dic kvs=>exact k.elim
  | @lst ds vs y3=>
  refine⟨_,z1,.inl ⟨rfl,vs,SqL.of y2⟩,s_e ss k λd v H1 _ p1 k1=>?_⟩
  try simp only at k1
  by_cases hz:ds.length<SZ
  ·rw[if_pos hz]at k1;have s1:=ss.up p1.same;have Hr:=p1.same _ _ y2;obtain⟨s2,s3⟩:=s1.change (vs:=vs++[v]) (ds:=ds++[d]) Ge hi q' z1 ((y3.mono (qh p1.same)).append (.cons (p1.st GY) .nil));exact⟨ad,vs,v,rfl,rfl,Hr,by rw[<-y3.length,bx];unfold SZ at hz;lia,k1 _ _ S s2 ((qh p1.same).trans s3)⟩
  ·rw[if_neg hz]at k1;exact k1.elim
theorem wO(O:XO w g c E X)(Ge:c.frz=false){x:Str}{i:Nat}{a:Expr}{ia:EV.E}{p ap cp pos:Pos}(h:loc c x=some i)(ho:c.own.contains x=true)(ha:PE X a (tE w g c E ia))(GY:esc ia=true)(hs:isStar a=false)(hl:(ap.endLine==cp.line)=true) :
  PS X (.Expr (.Call (.Attribute (.Name x p) "update" ap) [a] [] cp) pos) (tS w g c E fr (.dupd i ia)):=by
 obtain⟨h1,h2,h3,h4⟩:=zt h;have hv:PE X (.Name x p) (fK i):=f_ (i:=i) (by rw[O.N];exact h1) (by unfold fi;rw[O.nm];exact h2) h3 h4;have FI:=qu (es:=[]) (env:=X.env) hs;have hb:=hU (X:=X) (apos:=ap) (cpos:=cp) PySem.F.plainAttrs_dict PySem.F.slot_dict_update PySem.F.type_dict_update vD hv (zU ha eG FI) rfl (by rw[FI];rfl) hl FI rfl;refine PS.imp (jO hb rfl) λD σ H ⟨H0,B,τ,S,ss,k⟩=>?_
 simp only[zO,zW,cG,cD,zw,cB,zP,zY,cF,zC,zA,zD,zI,zG,zH,zK,zM,zN]at k;cases q:zu τ i with
 |ex z=>unfold zu at q;split at q<;>cases q
 |no=>rw[q]at k;exact k.elim
 |ok d0=>
  rw[q]at k;have q':=iA q;have hi:za c i:=⟨x,h1,ho⟩
  obtain⟨ad,oo,z1,y1,y2,y3⟩:=ss.own i d0 hi q';cases y3 with
  |lst r=>exact k.elim
  |dic kvs=>
   refine⟨_,z1,.inr (.inr (.inl ⟨rfl,.inl ⟨_,y2⟩⟩)),s_e ss k λd v H1 _ p1 k1=>?_⟩;cases d with
   |dic ms=>
    simp only at k1;by_cases hz:kvs.length+ms.length<SZ
    ·rw[if_pos hz]at k1;have s1:=ss.up p1.same;have Hr:=p1.same _ _ y2;have hr:=p1.st GY;cases hr with
     | @dic b _ Gv=>
      obtain⟨b1,b2⟩:=bZ.mp Gv;obtain⟨s2,s3⟩:=s1.changeO (d1:=.dic (cY kvs ms)) (o1:=.dK (bI (cY kvs ms))) Ge hi q' z1 (.dic _);have KS:ad≠b:=λz=>by
       have:S.h ad=true:=by rw[ss.hd,y1,Bool.or_true]
       rw[z,b1]at this;cases this
      refine⟨ad,b,bI kvs,bI ms,rfl,rfl,KS,Hr,b2,?_,?_⟩
      ·rw[mH,mH,bx];unfold SZ at hz;lia
      ·rw[sk];exact k1 _ _ S s2 ((qh p1.same).trans s3)
    ·rw[if_neg hz]at k1;exact k1.elim
   |_=>exact k1.elim
theorem wH(O:XO w g c E X)(Ge:c.frz=false){x y:Str}{i j:Nat}{p ap cp px q1 pos:Pos}{k0}(hx:cL c x=some i)(hy:loc c y=some j)(Nn:c.own.contains x=false)(Np:c.own.contains y=true)(hl:(ap.endLine==cp.line)=true) :
  PS X (.Assign [.Name x px] (.Call (.Attribute (.Name y p) "pop" ap) [.Constant (.int 0) k0 q1] [] cp) pos) (tS w g c E fr (.pop0 i j)):=by
 obtain⟨h1,h2,h3,h4⟩:=zt hy;obtain⟨l1,l2⟩:=zy hx;obtain⟨l3,_⟩:=zt l1;have hv:PE X (.Name y p) (fK j):=f_ (i:=j) (by rw[O.N];exact h1) (by unfold fi;rw[O.nm];exact h2) h3 h4;have FI:aX [Expr.Constant (.int 0) k0 q1] X.env=(false,eval (Expr.Constant (.int 0) k0 q1) X.env)::aX [] X.env:=rfl;have hb:=hU (X:=X) (apos:=ap) (cpos:=cp) PySem.F.plainAttrs_list PySem.F.slot_list_pop PySem.F.type_list_pop ui hv (zU rF eG FI) rfl rfl hl FI rfl;refine PS.imp (lz (i:=i) (by rw[O.N];exact O.nd) (by rw[O.N];exact l3) (by unfold L2.Loc;rw[O.nm];rcases l2 with z|z;exact .inl z;exact .inr z.1) hb (iR rfl) (by
  rcases l2 with z|z
  ·exact .inr (by rw[O.nm];exact z)
  ·exact .inl (O.fn x z.2))) λD σ H ⟨H0,B,τ,S,ss,k⟩=>?_
 simp only[zO,zW,cG,cD,zw,cB,zP,zY,cF,zC,zA,zD,zI,zG,zH,zK,zM,zN]at k;cases q:zu τ j with
 |ex z=>unfold zu at q;split at q<;>cases q
 |no=>rw[q]at k;exact k.elim
 |ok d0=>
  rw[q]at k;have q':=iA q;have hi:za c j:=⟨y,h1,Np⟩
  obtain⟨ad,oo,z1,y1,y2,y3⟩:=ss.own j d0 hi q';cases y3 with
  |dic kvs=>exact k.elim
  | @lst ds vs y3=>
   cases ds with
   |nil=>exact k.elim
   |cons d ds=>
    cases y3 with
    | @cons _ _ v vs r rs=>
     obtain⟨s2,s3⟩:=ss.change (vs:=vs) (ds:=ds) Ge hi q' z1 rs;have KI:¬ za c i:=λ⟨z,z1,z2⟩=>by rw[l3]at z1;cases z1;rw[Nn]at z2;cases z2
     have s4:=s2.set KI (r.mono s3);exact⟨_,z1,.inl ⟨rfl,_,SqL.of y2⟩,ad,v::vs,0,0,v,rfl,rfl,y2,by decide,by decide,by simp[seqIndex?],rfl,k _ _ S s4 s3⟩
theorem xt(O:XO w g c E X)(Ge:c.frz=false){x:Str}{i:Nat}{k e:Expr}{ik ie:EV.E}{p sp pos:Pos}(h:loc c x=some i)(ho:c.own.contains x=true)(hk:PE X k (tE w g c E ik))(he:PE X e (tE w g c E ie))(GY:esc ie=true)(I_:isSlice k=false)(hc:fC e=false) :
  PS X (.Assign [.Subscript (.Name x p) k sp] e pos) (tS w g c E fr (.seti i ik ie)):=by
 obtain⟨h1,h2,h3,h4⟩:=zt h;have hv:PE X (.Name x p) (fK i):=f_ (i:=i) (by rw[O.N];exact h1) (by unfold fi;rw[O.nm];exact h2) h3 h4;have hg:PG X (.Subscript (.Name x p) k sp) (tH (fK i) (tE w g c E ik) (λx y v H Q=>pd x y v H Q\/nW x y v H Q)):=u_ hv hk (set_list.or (AD O.units)) (by intro v;cases k<;>first|rfl|(exact Bool.noConfusion I_));refine PS.imp (rm he hg (by simp only[swapsWithSole];exact iR hc) rfl rfl) λD σ H ⟨H0,B,τ,S,ss,k⟩=>?_
 simp only[zO,zW,cG,cD,zw,cB,zP,zY,cF,zC,zA,zD,zI,zG,zH,zK,zM,zN]at k;refine s_e ss k λd v H1 _ p1 k1=>?_
 cases q:zu τ i with
 |ex z=>unfold zu at q;split at q<;>cases q
 |no=>rw[q]at k1;exact k1.elim
 |ok d0=>
  rw[q]at k1;have q':=iA q;have hi:za c i:=⟨x,h1,ho⟩
  have s1:=ss.up p1.same;obtain⟨ad,oo,z1,y1,y2,y3⟩:=s1.own i d0 hi q';refine⟨_,z1,s_e s1 (b8.up k1 (qh p1.same)) λn vn H2 _ p2 k2=>?_⟩;cases y3 with
  | @lst ds vs y3=>
   cases n with
   |int j=>
    simp only at k2;cases qj:ixN ds.length j with
    |none=>rw[qj]at k2;exact k2.elim
    |some m=>
     rw[qj]at k2;have s2:=s1.up p2.same;have Hr:=p2.same _ _ y2;obtain⟨s3,s4⟩:=s2.change (vs:=vs.set m v) (ds:=ds.set m d) Ge hi q' z1 ((y3.mono (qh p2.same)).set ((p1.st GY).mono (qh p2.same)) m);exact .inl ⟨ad,vs,j,m,rfl,p2.rb.int,Hr,by rw[<-y3.length];exact qj,k2 _ _ S s3 ((qh p2.same).trans s4)⟩
   |_=>exact k2.elim
  |dic kvs=>
   cases n with
   |int j=>
    cases d with
    |int z=>
     simp only at k2;by_cases hz:kvs.length<SZ
     ·rw[if_pos hz]at k2;have s2:=s1.up p2.same;have Hr:=p2.same _ _ y2;obtain⟨s3,s4⟩:=s2.changeO (d1:=.dic (cM kvs j z)) (o1:=.dK (bI (cM kvs j z))) Ge hi q' z1 (.dic _);have hv:=p1.rb.int;subst hv;refine .inr ⟨ad,kvs,j,z,rfl,p2.rb.int,rfl,Hr,?_,k2 _ _ S s3 ((qh p2.same).trans s4)⟩;rw[bx];unfold SZ at hz;lia
     ·rw[if_neg hz]at k2;exact k2.elim
    |_=>exact k2.elim
   |_=>exact k2.elim
theorem CF:PSs X [] (tSs w g c E fr .nil):=PSs.imp Cn λD σ H ⟨H0,B,τ,S,ss,h⟩=>by
 simp only[qe]at h;exact h σ H S ss (qf.refl _)
theorem pZ{s:Stmt}{r:List Stmt}{is:EV.S}{ir:Ss}(h1:PS X s (tS w g c E fr is))(h2:PSs X r (tSs w g c E fr ir)):PSs X (s::r) (tSs w g c E fr (.cons is ir)):=
 PSs.imp (yC h1 h2) λD σ H ⟨H0,B,τ,S,ss,h⟩=>by
  simp only[qe]at h;refine⟨H0,B,τ,S,ss,?_⟩;cases q:evS w is τ with
  |nx τ'=>rw[q]at h;exact λσ' H' S' s' e=>⟨H0,B,τ',S',s',b8.up h e⟩
  |bk τ'=>rw[q]at h;exact h
  |ct τ'=>rw[q]at h;exact h
  |rt d=>rw[q]at h;exact h
  |ex k=>rw[q]at h;exact h
  |no=>rw[q]at h;exact h
theorem xB{t:Expr}{a b:List Stmt}{it:T}{ia ib:Ss}{pos:Pos}(ht:PT X t (tT w g c E it))(ha:PSs X a (tSs w g c E fr ia))(hb:PSs X b (tSs w g c E fr ib)):PS X (.If t a b pos) (tS w g c E fr (.ite it ia ib)):=
 PS.imp (CQ ht ha hb) λD σ H ⟨H0,B,τ,S,ss,h⟩=>by
  simp only[zO,zW,cG,cD,zw,cB,zP,zY,cF,zC,zA,zD,zI,zG,zH,zK,zM,zN]at h;refine s_t ss h λz H1 _ s1 k1=>?_
  cases z with
  |true=>exact⟨H0,B,τ,S,ss.up s1,b8.up k1 (qh s1)⟩
  |false=>exact⟨H0,B,τ,S,ss.up s1,b8.up k1 (qh s1)⟩
theorem PS.nox'{st:Stmt}{t:TS}(h:PS X.nox st t):PS X st t:=λpins s σ H D I hw=>
 bM (h pins s σ H D (I.wish _) hw) (λ_ _ q=>q.unwish) λ_ _ z=>bt z
theorem XO.nox(O:XO w g c E X):XO w g c E0 X.nox:=⟨O.K,O.nm,O.N,O.nd,O.calm,O.units,O.fn,O.kind,lZ rfl rfl,O.gok,O.fns,O.sub⟩
theorem XS.nox(O:XS w g c E X):XS w g c E0 X.nox:=⟨O.toXO.nox,λ_ _ _ _ _ _ _ _ _ _ _ z=>bt z,O.exc,O.cat,O.frm,O.gh⟩
theorem rH{o:O}(h:b8 g c E fr H0 B H S Ed o.noEx):b8 g c E0 fr H0 B H S Ed o/\(∀k,o≠.ex k)/\o≠.no:=by
 cases o with
 |ex k=>exact h.elim
 |no=>exact h.elim
 |nx t=>exact⟨h,(λ_ z=>by cases z),(λz=>by cases z)⟩
 |bk t=>exact⟨h,(λ_ z=>by cases z),(λz=>by cases z)⟩
 |ct t=>exact⟨h,(λ_ z=>by cases z),(λz=>by cases z)⟩
 |rt t=>exact⟨h,(λ_ z=>by cases z),(λz=>by cases z)⟩
noncomputable def frozen(c:Cc)(b:Bool):Cc:={c with frz:=c.frz||b}
theorem XS.froze(O:XS w g c E X){b:Bool}:XS w g (frozen c b) E X:=
 ⟨⟨O.K,O.nm,O.N,O.nd,O.calm,O.units,O.fn,O.kind,O.pass,O.gok,O.fns,O.sub⟩,O.thr,O.exc,O.cat,O.frm,O.gh⟩
noncomputable def eV(B:Sh)(b:Bool)(σ:L2.St)(H:Hp):Sh:=if b=true then ⟨B.o,B.h,σ,H⟩else B
theorem ki{b:Bool}:(eV B b σ H).h=B.h:=by unfold eV;split<;>rfl
theorem Er{b:Bool}{H1:Hp}:hid H1 (eV B b σ H)=hid H1 B:=by funext a;unfold hid;rw[ki]
theorem SS.froze(b:Bool)(ss:SS g c H0 B τ σ H S):SS g (frozen c b) H0 (eV B b σ H) τ σ H S:=by
 refine⟨⟨ss.se.len,ss.se.val,ss.se.sub⟩,ss.lenN,ss.same,?_,?_,ss.new,ss.own,ss.inj,λz=>?_⟩
 ·unfold eV;split
  ·exact ss.sub0
  ·exact ss.sub0
 ·rw[ki];exact ss.hd
 ·cases b with
  |true=>exact⟨λi _=>rfl,qf.refl _⟩
  |false=>
   have z:(c.frz||false)=true:=z;rw[Bool.or_false]at z;exact ss.frz z
theorem SS.thaw{b:Bool}{σ1:L2.St}{H1:Hp}{τ1:Env}{S1:Sh}(s0:SS g c H0 B τ1 σ1 H1 S1)(ss:SS g (frozen c b) H0 (eV B b σ1 H1) τ σ H S):SS g c H0 B τ σ H S:=by
 refine⟨⟨ss.se.len,ss.se.val,ss.se.sub⟩,ss.lenN,ss.same,s0.sub0,?_,ss.new,ss.own,ss.inj,λz=>?_⟩
 ·have:=ss.hd;rw[ki]at this;exact this
 ·have f:=ss.frz (by show (c.frz||b)=true;rw[z];rfl);cases b with
  |true=>exact⟨λi hi=>(f.1 i hi).trans ((s0.frz z).1 i hi),(s0.frz z).2.trans f.2⟩
  |false=>exact f
theorem SS.iced{b:Bool}{σ1:L2.St}{H1:Hp}(hb:b=true)(ss:SS g (frozen c b) H0 (eV B b σ1 H1) τ σ H S):qf H1 H:=by
 subst hb;exact(ss.frz (by show (c.frz||true)=true;rw[Bool.or_true])).2
theorem y8(O:XO w g c E X)(hc:X.calm=true){tg it:Expr}{b:List Stmt}{FQ:Tg}{FZ:It}{ib:Ss}{pos:Pos}(hi:PI X.nox tg it (tIt w g c E0 FZ))(hg:PG X.nox tg (gT X.K FQ))(hf:iP c FQ)(hb:PSs X.nox b (tSs w g (frozen c (owned FZ)) E0 fr ib))(hs:zx it=true) :
  PS X (.For tg it b [] pos) (tS w g c E fr (.for FQ FZ ib)):=by
 refine PS.nox' (PS.imp (CY (X:=X.nox) PassesOwn.never hc hi hg hb (λx=>by cases it<;>first|rfl|(exact Bool.noConfusion hs))) λD σ H ⟨H0,B,τ,S,ss,h⟩=>?_);simp only[zO,zW,cG,cD,zw,cB,zP,zY,cF,zC,zA,zD,zI,zG,zH,zK,zM,zN]at h;obtain⟨h,GL,GZ⟩:=rH h;cases q:evI w FZ τ with
 |ex z=>rw[q]at GL;exact absurd rfl (GL z)
 |no=>rw[q]at GZ;exact absurd rfl GZ
 |ok ds=>
  rw[q]at h GL GZ;simp only[R.out_ok]at h GL GZ;refine⟨τ,S,ss.se,?_⟩;rw[q];intro J H1 s1 kW kS;generalize hr:dM FQ (λσ=>qe w ib σ) ds τ=r at h GL GZ;refine⟨λi m σ' H'=>m=ds.length-i/\i<=ds.length/\∃τ' S',SS g (frozen c (owned FZ)) H0 (eV B (owned FZ) σ H1) τ' σ' H' S'/\qf (hid H1 S) (hid H' S')/\dM FQ (λσ=>qe w ib σ) (ds.drop i) τ'=r,⟨ds.length,rfl,bH _,τ,S,(ss.up s1).froze _,qf.refl _,hr⟩,?_⟩;rintro i m σ' H' ⟨rfl,GD,τ',S',Hs,e',hl⟩;have gg:Goes g J ds H' S':=by
   cases hw:owned FZ with
   |false=>exact kS hw H' S' e' Hs.se.sub
   |true=>exact kW H' S' (Hs.iced hw) e' Hs.se.sub
  obtain⟨g1,g2⟩:=gg;have eH:qf (hid H S) (hid H' S'):=(qh s1).trans e';by_cases FF:i<ds.length
  ·have hd:ds[i]? = some ds[i]:=List.getElem?_eq_getElem FF;obtain⟨K5,go2⟩:=g2 i ds[i] hd;refine .inr ⟨K5,λσ2 H2=>∃τ' S',SS g (frozen c (owned FZ)) H0 (eV B (owned FZ) σ H1) τ' σ2 H2 S'/\qf (hid H1 S) (hid H2 S')/\dM FQ (λσ=>qe w ib σ) (ds.drop (i+1)) τ'=r,λσ2 H2 z=>⟨ds.length-(i+1),by lia,rfl,FF,z⟩,λx H2 hy=>?_⟩;obtain⟨s2,rx⟩:=go2 x H2 hy;rw[fz FF]at hl;simp only[dM]at hl;cases q1:store FQ ds[i] τ' with
   |ex z=>rw[q1]at hl;exact absurd hl.symm (GL z)
   |no=>rw[q1]at hl;exact absurd hl.symm GZ
   |ok τ1=>
    rw[q1]at hl;simp only[R.out_ok]at hl;refine(Hs.up s2).store O.K hf rx q1 λσ1 Nq=>⟨H0,_,τ1,S',Nq,?_⟩
    cases q2:qe w ib τ1 with
    |nx τ2=>rw[q2]at hl;exact λσ2 H3 S3 s3 e3=>⟨τ2,S3,s3,(e'.trans (qh s2)).trans e3,hl⟩
    |ct τ2=>rw[q2]at hl;exact λσ2 H3 S3 s3 e3=>⟨τ2,S3,s3,(e'.trans (qh s2)).trans e3,hl⟩
    |bk τ2=>
     rw[q2]at hl;simp only at hl;rw[<-hl]at h;exact λσ2 H3 S3 s3 e3=>h σ2 H3 S3 ((ss.up s1).thaw s3) ((eH.trans (qh s2)).trans e3)
    |rt d=>
     rw[q2]at hl;simp only at hl;rw[<-hl]at h;refine λv H3 s3 r3 f3=>h v H3 s3 (by rw[Er]at r3;exact r3) λz=>?_
     have f3:=f3 z;unfold eV at f3;split at f3
     ·exact f3
     ·exact f3
    |ex z=>rw[q2]at hl;exact absurd hl.symm (GL z)
    |no=>rw[q2]at hl;exact absurd hl.symm GZ
  ·have e:i=ds.length:=by lia
   subst e;rw[List.drop_length]at hl;simp only[dM]at hl;rw[<-hl]at h;exact .inl ⟨g1 ds.length (aG _),h σ' H' S' ((ss.up s1).thaw Hs) eH⟩
theorem Ab{t:Expr}{b:List Stmt}{it:T}{ib:Ss}{pos:Pos}(ht:PT X.nox t (tT w g c E0 it))(hb:PSs X.nox b (tSs w g c E0 fr ib)):PS X (.While t b [] pos) (tS w g c E fr (.while it ib)):=by
 refine PS.nox' (PS.imp (Bh (X:=X.nox) PassesOwn.never ht hb) λD σ H ⟨H0,B,τ,S,ss,h⟩=>?_);simp only[zO,zW,cG,cD,zw,cB,zP,zY,cF,zC,zA,zD,zI,zG,zH,zK,zM,zN]at h;obtain⟨h,GL,GZ⟩:=rH h;generalize hr:eF (λσ=>evT w it σ) (λσ=>qe w ib σ) fF τ=r at h GL GZ;refine⟨λm σ' H'=>∃τ' S',SS g c H0 B τ' σ' H' S'/\qf (hid H S) (hid H' S')/\eF (λσ=>evT w it σ) (λσ=>qe w ib σ) m τ'=r,⟨fF,τ,S,ss,qf.refl _,hr⟩,?_⟩;rintro m σ' H' ⟨τ',S',Hs,e',hl⟩;cases m with
 |zero=>simp only[eF]at hl;exact absurd hl.symm GZ
 |succ m=>
  simp only[eF]at hl;cases q:evT w it τ' with
  |ex z=>rw[q]at hl;exact absurd hl.symm (GL z)
  |no=>rw[q]at hl;exact absurd hl.symm GZ
  |ok z=>
   rw[q]at hl;simp only[R.out_ok]at hl;refine⟨τ',S',Hs.se,?_⟩;rw[q];intro H1 s1;cases z with
   |false=>
    simp only[bD,if_false]at hl;rw[if_neg bO];rw[<-hl]at h;exact h σ' H1 S' (Hs.up s1) (e'.trans (qh s1))
   |true=>
    simp only[if_true]at hl;rw[if_pos rfl];refine⟨λσ2 H2=>∃τ' S',SS g c H0 B τ' σ2 H2 S'/\qf (hid H S) (hid H2 S')/\eF (λσ=>evT w it σ) (λσ=>qe w ib σ) m τ'=r,λσ2 H2 z=>⟨m,Nat.lt_succ_self m,z⟩,H0,B,τ',S',Hs.up s1,?_⟩;have e1:=e'.trans (qh (S:=S') s1);cases q2:qe w ib τ' with
    |nx τ2=>rw[q2]at hl;exact λσ2 H3 S3 s3 e3=>⟨τ2,S3,s3,e1.trans e3,hl⟩
    |ct τ2=>rw[q2]at hl;exact λσ2 H3 S3 s3 e3=>⟨τ2,S3,s3,e1.trans e3,hl⟩
    |bk τ2=>
     rw[q2]at hl;simp only at hl;rw[<-hl]at h;exact λσ2 H3 S3 s3 e3=>h σ2 H3 S3 s3 (e1.trans e3)
    |rt d=>rw[q2]at hl;simp only at hl;rw[<-hl]at h;exact h
    |ex z=>rw[q2]at hl;exact absurd hl.symm (GL z)
    |no=>rw[q2]at hl;exact absurd hl.symm GZ
theorem D7(O:XS w g c E X)(hc:X.calm=true)(ht:c.thr=true){x:Str}{a:Expr}{as:List Expr}{ies:Es}{np cp pos:Pos}{n:Nat}(h:glob c x=some .exc)(ha:PA X (a::as) (tA w g c E ies))(GY:cEs n c (a::as)=some ies)(hn:(a::as).length<=100000) :
  PS X (.Raise (some (.Call (.Name x np) (a::as) [] cp)) none pos) (tS w g c E fr (.raise x ies)):=by
 obtain⟨C,h1,h2⟩:=O.gm h;have hs:=gv GY;refine PS.imp (yF hc (O.thr ht) (by rw[O.K];exact O.exc x C (zf h).2.1 h2) (O.gl h) h1 ha (zf h).2.2.1 (qu (hs a aM)) (jo λz hz=>hs z (aR _ hz))) λD σ H ⟨H0,B,τ,S,ss,k⟩=>?_
 simp only[zO,zW,cG,cD,zw,cB,zP,zY,cF,zC,zA,zD,zI,zG,zH,zK,zM,zN]at k;refine s_a ss k λds vs H1 e1 s1 r k1=>⟨?_,k1 H1 C (ss.same.trans s1) h2⟩
 have:vs.length=ds.length:=(Paired.length r).symm;rw[this,jt GY e1];exact lG hn
end
section
variable{w:W}{g:Gc}{c:Cc}{E:XK}{fr:Bool}{X:Cx}{H0:Hp}{B:Sh}{τ:Env}{σ:L2.St}{H H':Hp}{S:Sh}{Ed:Ends}
theorem xT{s:Stmt}:PS X s (tS w g c E fr .unk):=λpins s σ H D I ⟨H0,B,τ,S,ss,h⟩=>by
 simp only[zO,zW,cG,cD,zw,cB,zP,zY,cF,zC,zA,zD,zI,zG,zH,zK,zM,zN]at h;exact h.elim
theorem E2(O:XO w g c E X)(Ge:c.frz=false){x:Str}{i:Nat}{k a:Expr}{ik ia:EV.E}{p ap cp pos:Pos}(h:loc c x=some i)(ho:c.own.contains x=true)(hk:PE X k (tE w g c E ik))(ha:PE X a (tE w g c E ia))(GY:esc ia=true)(Nr:isStar k=false)(hs:isStar a=false)(hl:(ap.endLine==cp.line)=true) :
  PS X (.Expr (.Call (.Attribute (.Name x p) "insert" ap) [k,a] [] cp) pos) (tS w g c E fr (.ins i ik ia)):=by
 obtain⟨h1,h2,h3,h4⟩:=zt h;have hv:PE X (.Name x p) (fK i):=f_ (i:=i) (by rw[O.N];exact h1) (by unfold fi;rw[O.nm];exact h2) h3 h4;have FI:=qu (es:=[]) (env:=X.env) hs;have G':=qu (es:=[a]) (env:=X.env) Nr;have hb:=hU (X:=X) (apos:=ap) (cpos:=cp) PySem.F.plainAttrs_list PySem.F.slot_list_insert PySem.F.type_list_insert CN hv (zU hk (zU ha eG FI) G') rfl (by rw[G',FI];rfl) hl G' (by rw[FI];rfl);refine PS.imp (jO hb rfl) λD σ H ⟨H0,B,τ,S,ss,z⟩=>?_
 simp only[zO,zW,cG,cD,zw,cB,zP,zY,cF,zC,zA,zD,zI,zG,zH,zK,zM,zN]at z;cases q:zu τ i with
 |ex y=>unfold zu at q;split at q<;>cases q
 |no=>rw[q]at z;exact z.elim
 |ok d0=>
  rw[q]at z;have q':=iA q;have hi:za c i:=⟨x,h1,ho⟩
  obtain⟨ad,oo,z1,y1,y2,y3⟩:=ss.own i d0 hi q';cases y3 with
  |dic kvs=>exact z.elim
  | @lst ds vs y3=>
  refine⟨_,z1,.inl ⟨rfl,vs,SqL.of y2⟩,s_e ss z λn vn H1 _ p1 k1=>?_⟩;have s1:=ss.up p1.same;refine s_e s1 (b8.up k1 (qh p1.same)) λd v H2 _ p2 k2=>?_
  simp only[iY]at k2;cases n with
  |int j=>
   simp only at k2;split at k2
   ·rename_i hj
    have s2:=s1.up p2.same;have Hr:=p2.same _ _ (p1.same _ _ y2);have LR:=(y3.mono (qh p1.same)).mono (qh p2.same);obtain⟨s3,s4⟩:=s2.change (vs:=vs.take j.toNat++v::vs.drop j.toNat) (ds:=ds.take j.toNat++d::ds.drop j.toNat) Ge hi q' z1 ((LR.take _).append (.cons (p2.st GY) (LR.drop _)));have hn:=y3.length;exact⟨ad,vs,j,v,rfl,by rw[p1.rb.int],Hr,by rw[<-hn,bx];have:=hj.2.2;unfold SZ at this;lia,hj.1,by rw[<-hn];exact hj.2.1,k2 _ _ S s3 ((qh p2.same).trans s4)⟩
   ·exact k2.elim
  |_=>exact k2.elim
theorem SS.cong{c':Cc}(hN:c'.N=c.N)(ho:c'.own=c.own)(hz:c'.frz=c.frz)(s:SS g c H0 B τ σ H S):SS g c' H0 B τ σ H S:=by
 cases c;cases c';simp only at hN ho hz;subst hN ho hz;exact⟨⟨s.se.len,s.se.val,s.se.sub⟩,s.lenN,s.same,s.sub0,s.hd,s.new,s.own,s.inj,s.frz⟩
theorem tW{i:Option Nat}{k:Str}:(dR τ i k).length=τ.length:=by
 cases i<;>simp[dR]
theorem SS.hand{σ':L2.St}{k:Str}{i:Option Nat}(ss:SS g c H0 B τ σ H S)(hz:c.frz=false)(he:c.own=[])(hs:qf H0 H')(hl:σ'.length=c.N.length)(hv:∀(j:Nat) (d:EV.D),(dR τ i k)[j]? = some (some d)->∃v,σ'[j]? = some (some v)/\Rep g (hid H' B) d v) :
  SS g (iq c) H0 B (dR τ i k) σ' H' ⟨λ_=>false,B.h,B.z,B.y⟩:=by
 have hh:hid H' ⟨λ_=>false,B.h,B.z,B.y⟩=hid H' B:=rfl;have no:∀j,¬ za (iq c) j:=λj ⟨x,_,h2⟩=>by
  have h2:c.own.contains x=true:=h2;rw[he]at h2;cases h2
 refine⟨⟨by rw[tW,ss.lenN,hl],λj d h=>?_,λa ha=>?_⟩,by rw[tW];exact ss.lenN,hs,ss.sub0,(λa=>by simp),(λa ha=>by cases ha),λj d hj=>(no j hj).elim,λj _ d _ a hj=>(no j hj).elim,(λz=>by have z:c.frz=true:=z;rw[hz]at z;cases z)⟩
 ·obtain⟨v,h1,h2⟩:=hv j d h;exact⟨v,h1,.inl h2,λ_ _ _=>h2⟩
 ·refine(ss.sub0.same hs) a ?_;rcases ha with ha|ha
  ·exact .inl ha
  ·cases ha
def EhT(w:W)(g:Gc)(b:Ss)(τ:Env)(H0:Hp):XK:=λcls o H'=>∃k C,cls=.ref C/\o=none/\g.clA k=some C/\qe w b τ=.ex k/\qf H0 H'
theorem m4{ib:Ss}{x:Str}{i:Option Nat}{ih:Ss}{c':Cc}(hN:c'.N=c.N)(ho:c'.own=c.own)(hz:c'.frz=c.frz)(h:b8 g c E fr H0 B H S Ed (evS w (.try ib x i ih) τ)):b8 g c' (EhT w g ib τ H0) fr H0 B H S Ed (qe w ib τ):=by
 simp only[zO,zW,cG,cD,zw,cB,zP,zY,cF,zC,zA,zD,zI,zG,zH,zK,zM,zN]at h;have c1:∀{τ':Env}{σ':L2.St}{H':Hp}{S':Sh},SS g c' H0 B τ' σ' H' S'->SS g c H0 B τ' σ' H' S':=λs=>s.cong hN.symm ho.symm hz.symm
 cases q:qe w ib τ with
 |nx τ'=>rw[q]at h;exact λσ' H' S' s e=>h σ' H' S' (c1 s) e
 |bk τ'=>rw[q]at h;exact λσ' H' S' s e=>h σ' H' S' (c1 s) e
 |ct τ'=>rw[q]at h;exact λσ' H' S' s e=>h σ' H' S' (c1 s) e
 |rt d=>rw[q]at h;exact h
 |ex k=>exact λH' C s hc=>⟨k,C,rfl,rfl,hc,q,s⟩
 |no=>rw[q]at h;exact h
theorem m7{ib ih:Ss}{x:Str}{i:Option Nat}{k:Str}(h:b8 g c E fr H0 B H S Ed (evS w (.try ib x i ih) τ))(q:qe w ib τ=.ex k):w.cat k x=true/\∃d,qe w ih (dR τ i k)=.rt d/\∀v H',qf H0 H'->Rep g (hid H' B) d v->(fr=true->cX d=true->Fr g H0 B H' d v)->Ed.rt v H':=by
 simp only[zO,zW,cG,cD,zw,cB,zP,zY,cF,zC,zA,zD,zI,zG,zH,zK,zM,zN]at h;rw[q]at h;simp only at h;split at h
 ·rename_i hc
  refine⟨hc,?_⟩;cases z:qe w ih (dR τ i k)with
  |rt d=>rw[z]at h;exact⟨d,rfl,h⟩
  |nx _=>rw[z]at h;exact h.elim
  |bk _=>rw[z]at h;exact h.elim
  |ct _=>rw[z]at h;exact h.elim
  |ex _=>rw[z]at h;exact h.elim
  |no=>rw[z]at h;exact h.elim
 ·exact h.elim
theorem XS.inTry(O:XS w g c E X){Eh:XK}{pn:List (Addr×Obj)}{Et:ae->af->Prop}(hp:Passes (CX1 X.prog X.w) (X.inTry pn Et) Eh):XS w g {c with thr:=false} Eh (X.inTry pn Et):=
 ⟨⟨O.K,O.nm,O.N,O.nd,O.calm,O.units,O.fn,O.kind,hp,O.gok,O.fns,O.sub⟩,(λz=>by cases z),O.exc,O.cat,O.frm,O.gh⟩
theorem XS.held(O:XS w g c E X)(x:Addr):XS w g (iq c) E0 (X.held x):=
 ⟨⟨O.K,O.nm,O.N,O.nd,(λz=>by cases z),O.units,O.fn,O.kind,lZ rfl rfl,(λy k z=>(O.gh y k z).2 _),(λz=>by cases z),O.sub⟩,(λz=>by cases z),(λy C z _=>absurd rfl (O.gh y .exc z).1),O.cat,O.frm,(λy k z=>by cases z)⟩
theorem Cy(O:XS w g c E X){x:Str}{b:List Stmt}{b₀:Stmt}{FG:List Stmt}{ib ih:Ss}{np hpos pos:Pos}(Ge:c.frz=false)(he:c.own=[])(hg:glob c x=some .exc\/glob c x=some .exk)
  (hb:∀(Eh:XK) pn Et,XS w g {c with thr:=false} Eh (X.inTry pn Et)->PSs (X.inTry pn Et) b (tSs w g {c with thr:=false} Eh fr ib)) (hs:∀y,PSs (X.held y) (b₀::FG) (tSs w g (iq c) E0 fr ih)) :
  PS X (.Try b [.ExceptHandler (some (.Name x np)) none (b₀::FG) hpos] [] [] pos) (tS w g c E fr (.try ib x none ih)):=by
 have hG:∃C,X.mg x=some (.ref C)/\g.clA x=some C/\Gl X x/\(x==("__debug__" : Str))=false:=by
  rcases hg with h|h
  ·obtain⟨C,h1,h2⟩:=O.gm h;exact⟨C,h1,h2,O.gl h,(zf h).2.2.1⟩
  ·obtain⟨C,h1,h2⟩:=O.gm h;exact⟨C,h1,h2,O.gl h,(zf h).2.2.1⟩
 obtain⟨C,hm,hc,K7,hd⟩:=hG;intro pins s σ H D I ⟨H0,B,τ,S,ss,h⟩;refine um (Eh:=EhT w g ib τ H0) O.frm.1 O.frm.2.1 O.frm.2.2 K7 hm (λpn Et hp=>hb _ pn Et (O.inTry hp)) hs hd pins s σ H D I ⟨⟨H0,B,τ,S,SS.cong (c:=c) rfl rfl rfl ss,m4 (c:=c) rfl rfl rfl h⟩,λσ' cls H' hl hE=>?_⟩;obtain⟨k,C',rfl,_,hk,q,sm⟩:=hE;obtain⟨z1,d,z2,z3⟩:=m7 h q;refine⟨by rw[O.K];exact O.cat k x z1 C' C hk hc,H0,B,dR τ none k,⟨λ_=>false,B.h,B.z,B.y⟩,ss.hand Ge he sm (by rw[hl,O.N]) (λj d hj=>?_),?_⟩
 ·simp only[dR,List.getElem?_map]at hj;cases z:τ[j]? with
  |none=>rw[z]at hj;cases hj
  |some o=>rw[z]at hj;cases hj
 ·rw[z2];exact λv H'' s' r f=>z3 v H'' s' r f
theorem DT(O:XS w g c E X){x n:Str}{i:Nat}{b:List Stmt}{b₀:Stmt}{FG:List Stmt}{ib ih:Ss}{np hpos pos:Pos}(Ge:c.frz=false)(he:c.own=[])(hg:glob c x=some .exc\/glob c x=some .exk)(hi:c.N[i]? = some n)(hn:c.nm.lookup n=some .local)
  (hb:∀(Eh:XK) pn Et,XS w g {c with thr:=false} Eh (X.inTry pn Et)->PSs (X.inTry pn Et) b (tSs w g {c with thr:=false} Eh fr ib)) (hs:∀y,PSs (X.held y) (b₀::FG) (tSs w g (iq c) E0 fr ih)) :
  PS X (.Try b [.ExceptHandler (some (.Name x np)) (some n) (b₀::FG) hpos] [] [] pos) (tS w g c E fr (.try ib x (some i) ih)):=by
 have hG:∃C,X.mg x=some (.ref C)/\g.clA x=some C/\Gl X x/\(x==("__debug__" : Str))=false:=by
  rcases hg with h|h
  ·obtain⟨C,h1,h2⟩:=O.gm h;exact⟨C,h1,h2,O.gl h,(zf h).2.2.1⟩
  ·obtain⟨C,h1,h2⟩:=O.gm h;exact⟨C,h1,h2,O.gl h,(zf h).2.2.1⟩
 obtain⟨C,hm,hc,K7,hd⟩:=hG;intro pins s σ H D I ⟨H0,B,τ,S,ss,h⟩;have FF:i<c.N.length:=(List.getElem?_eq_some_iff.mp hi).1;refine yZ (Eh:=EhT w g ib τ H0) (i:=i) O.frm.1 O.frm.2.1 O.frm.2.2 (by rw[O.N];exact O.nd) (by rw[O.N];exact hi) (by rw[O.nm];exact hn) K7 hm (λpn Et hp=>hb _ pn Et (O.inTry hp)) hs hd pins s σ H D I ⟨⟨H0,B,τ,S,SS.cong (c:=c) rfl rfl rfl ss,m4 (c:=c) rfl rfl rfl h⟩,λσ' cls H' x' hl hE hx=>?_⟩;obtain⟨k,C',rfl,_,hk,q,sm⟩:=hE;obtain⟨z1,d,z2,z3⟩:=m7 h q;have s2:qf H' (upd H' x' (ip x' (.ref C'))):=qY hx;refine⟨by rw[O.K];exact O.cat k x z1 C' C hk hc,H0,B,dR τ (some i) k,⟨λ_=>false,B.h,B.z,B.y⟩,ss.hand Ge he (sm.trans s2) (by rw[List.length_set,hl,O.N]) (λj d hj=>?_),?_⟩
 ·simp only[dR]at hj;have GD:i<σ'.length:=by rw[hl,O.N];exact FF
  by_cases FC:i=j
  ·subst FC;have Gm:i<(τ.map λ_=>(none:Option EV.D)).length:=by rw[aV,ss.lenN];exact FF
   rw[List.getElem?_set_self Gm]at hj;cases hj;refine⟨.ref x',by rw[List.getElem?_set_self GD],.exn hk (bZ.mpr ⟨ss.sub0.free (sm.free hx),zm⟩)⟩
  ·rw[List.getElem?_set_ne FC,List.getElem?_map]at hj;cases z:τ[j]? with
   |none=>rw[z]at hj;cases hj
   |some o=>rw[z]at hj;cases hj
 ·rw[z2];exact λv H'' s' r f=>z3 v H'' s' r f
end
theorem Di{e:Expr}{x:Str}{ap cp:Pos}{k a:Expr}(h:lU e=some (x,ap,k,a,cp)):∃p,e=.Call (.Attribute (.Name x p) "insert" ap) [k,a] [] cp:=by
 unfold lU at h;split at h
 ·split at h
  ·split at h
   ·split at h
    ·split at h
     ·rename_i hk
      simp only[aW,List.isEmpty_iff,beq_iff_eq]at hk;obtain⟨rfl,rfl⟩:=hk;cases h;exact⟨_,rfl⟩
     ·cases h
    ·cases h
   ·cases h
  ·cases h
 ·cases h
theorem CW{x y:Str}{px py pt Gz:Pos}{kt k2:Nat}{a b:Expr}{env:PySem.Env}(h:env.kindOf x≠some .local):cU [.Tuple [.Name x px,.Name y py] kt pt] (.Tuple [a,b] k2 Gz) env=pure none:=by
 have hx:(env.kindOf x==some aY.local)=false:=by simpa using h
 unfold cU;simp only;split
 ·rfl
 ·split
  ·rfl
  ·split
   ·rfl
   ·rename_i hq
    exfalso;refine hq ?_;rw[List.filterMap_cons_none (by simp only[hx,Bool.false_and];rfl)];have:∀l:List Expr,∀f:Expr->Option Str,(l.filterMap f).length<=l.length:=λl f=>List.length_filterMap_le f l
    simp only[bR,bne_iff_ne,ne_eq];left;intro z;have q:([Expr.Name x px,Expr.Name y py]:List Expr).length<=([Expr.Name y py]:List Expr).length:=by rw[<-z];exact this _ _
    simp at q
theorem Dq{ts:List Expr}{k:Nat}{p:Pos}{e:Expr}{env:PySem.Env}(h:isTup e=true->lT e=true):cU [.Tuple ts k p] e env=pure none:=by
 cases e<;>first|rfl|skip
 rename_i vs k2 p2
 have h:vs.all (foldedForSure 8)=true:=h rfl;unfold cU;simp only[h,if_true];split
 ·rfl
 ·split
  ·rfl
  ·split
   ·rfl
   ·rfl
theorem nr{ts:List Expr}{e:Expr}{x y:Str}{a b:Expr}(h:lO ts e=some (x,y,a,b)):∃px py k2 Gz,ts=[.Name x px,.Name y py]/\e=.Tuple [a,b] k2 Gz/\isStar a=false/\isStar b=false/\[a,b].all (foldedForSure 8)=false/\[a,b].all (constantsAlone 8)=false/\(px.line==py.line)=true:=by
 unfold lO at h;split at h
 ·split at h
  ·split at h
   ·rename_i hc
    simp only[aW,bL]at hc;cases h;exact⟨_,_,_,_,rfl,rfl,hc.1.1.1.1,hc.1.1.1.2,hc.1.1.2,hc.1.2,hc.2⟩
   ·cases h
  ·cases h
 ·cases h
section
variable{w:W}{g:Gc}{c:Cc}{E:XK}{fr:Bool}{X:Cx}
theorem uD{n:Nat}{c:Cc}{elt:Expr}{gs:List cA}{sc:a8}{p:Pos}{ie:EV.E}(h:cE n c (.ListComp elt gs sc p)=some ie)(IA:kc (.ListComp elt gs sc p)=false):gY c ie=ie:=by
 match n,h with
 | 0,h=>cases h
 |m+1,h=>
  obtain⟨FL,it,ifs,FZ,FQ,G2,LU,rfl,Il,HU,h1,h2,h3,h4,he,rfl⟩:=lL h
  rfl
theorem Bj(O:XO w g c E X){n:Nat}(hn:n<=100000){x:Str}{i:Nat}{elt:Expr}{gs:List cA}{sc:a8}{p p' pos:Pos}{ie:EV.E}(hl:cL c x=some i)(h:cE n c (.ListComp elt gs sc p)=some ie)(IA:kc (.ListComp elt gs sc p)=false)(hk:(za c i/\fresh c ie=true/\c.frz=false)\/(¬ za c i/\esc ie=true)) :
  PS X (.Assign [.Name x p'] (.ListComp elt gs sc p) pos) (tS w g c E fr (.set (.nm i) ie)):=by
 obtain⟨l1,l2⟩:=zy hl;obtain⟨l3,_⟩:=zt l1;have FF:i<c.N.length:=(List.getElem?_eq_some_iff.mp l3).1;have hN:X.N.Nodup:=by rw[O.N];exact O.nd
 have JC:X.N[i]? = some x:=by rw[O.N];exact l3
 have hx:L2.Loc X.env.scope x:=by unfold L2.Loc;rw[O.nm];rcases l2 with z|z;exact .inl z;exact .inr z.1
 have hf:X.fn x=true\/X.env.scope.names.lookup x=some .local:=by
  rcases l2 with z|z
  ·exact .inr (by rw[O.nm];exact z)
  ·exact .inl (O.fn x z.2)
 cases hb:(X.env.blockKind==.function&&X.env.kindOf x==some .local&&p'.line==p.line && !(sc.names.any λ(n,k)=>n==x&&(k==.local||k==.cell)))with
 |false=>
  have hs:swapsWith (.ListComp elt gs sc p) (some (.Name x p')) pos.line X.env=pure false:=by rw[<-hb];rfl
  exact lX (e:=.ListComp elt gs sc p) (lz hN JC hx ((snd n hn).e O h) hs hf) (λ_ _ _ z=>z) FF hk
 |true=>
  have hs:swapsWith (.ListComp elt gs sc p) (some (.Name x p')) pos.line X.env=pure true:=by rw[<-hb];rfl
  match n,h with
  | 0,h=>cases h
  |m+1,h=>
   have ih:=snd (w:=w) (g:=g) m (Nat.le_of_succ_le hn);obtain⟨FL,it,ifs,FZ,FQ,G2,LU,rfl,Il,HU,h1,h2,h3,h4,he,rfl⟩:=lL h;have hS:el X (cy sc.names) (h9 c sc.names) sc:=el.of (by
    have e1:(λx=>c.nm.lookup x)=X.env.kindOf:=by funext x;show _=X.env.scope.names.lookup x;rw[O.nm]
    rw[<-e1,O.N];exact HU.1)
   refine lX (e:=.ListComp elt [⟨FL,it,ifs,0⟩] sc p) (xV (tb:=λacc=>jn acc (tE w g (dU c sc) E0 LU)) hN JC hx (O.calm Il.1) hS (ih.i O h1 he.2) (λcl C s₀ H₀ fp=>?_) (by simp) hs hf (λx=>by
    have q:=Il.2;cases it<;>first|rfl|cases q)) (λσ H Q q=>tY O hS he.1 q) FF hk
   have OY:=O.comp hS.kind HU.2 cl C s₀ H₀ fp;exact⟨ji OY h2,ih.ifs OY h3,λacc=>rK rfl (ih.e OY h4)⟩
end
structure jg(w:W)(g:Gc)(n:Nat):Prop where
 s:∀{c:Cc}{E:XK}{X:Cx} (O:XS w g c E X) {fr:Bool}{x:Stmt}{ir:EV.S},cS n c fr x=some ir->PS X x (tS w g c E fr ir)
 ss:∀{c:Cc}{E:XK}{X:Cx} (O:XS w g c E X) {fr:Bool}{x:List Stmt}{ir:Ss},cSs n c fr x=some ir->PSs X x (tSs w g c E fr ir)
section
variable{w:W}{g:Gc}{n:Nat}
theorem jg.ss_succ(ih:jg w g n){c:Cc}{E:XK}{X:Cx}(O:XS w g c E X){fr:Bool}{x:List Stmt}{ir:Ss}(h:cSs (n+1) c fr x=some ir):PSs X x (tSs w g c E fr ir):=by
 match x with
 | []=>simp only[cSs,cz]at h;subst h;exact CF
 |s::r=>
  simp only[cSs,aP,aL]at h;obtain⟨K6,h2,h⟩:=h;cases h;cases h1:cS n c fr s with
  |none=>exact pZ xT (ih.ss O h2)
  |some is=>exact pZ (ih.s O h1) (ih.ss O h2)
theorem lj{c:Cc}{x:Str}{i:Nat}(h:c.N[i]? = some x):za c i↔c.own.contains x=true:=⟨λ⟨y,h1,h2⟩=>by rw[h]at h1;cases h1;exact h2,λh2=>⟨x,h,h2⟩⟩
theorem Bs{e:Expr}{x m:Str}{ap cp:Pos}{a:Expr}(h:ku e=some (x,m,ap,a,cp)):∃p,e=.Call (.Attribute (.Name x p) m ap) [a] [] cp:=by
 unfold ku at h;split at h
 ·split at h
  ·split at h
   ·split at h
    ·split at h
     ·rename_i hk;cases h;rw[List.isEmpty_iff]at hk;subst hk;exact⟨_,rfl⟩
     ·cases h
    ·cases h
   ·cases h
  ·cases h
 ·cases h
theorem DO{e:Expr}{x:Str}{ap cp:Pos}(h:lI e=some (x,ap,cp)):∃p k q,e=.Call (.Attribute (.Name x p) "pop" ap) [.Constant (.int 0) k q] [] cp:=by
 unfold lI at h;split at h
 ·split at h
  ·split at h
   ·split at h
    ·split at h
     ·split at h
      ·split at h
       ·rename_i hk
        simp only[aW,List.isEmpty_iff,beq_iff_eq,decide_eq_true_eq]at hk;obtain⟨⟨rfl,rfl⟩,rfl⟩:=hk;cases h;exact⟨_,_,_,rfl⟩
       ·cases h
      ·cases h
     ·cases h
    ·cases h
   ·cases h
  ·cases h
 ·cases h
theorem uY{e:Expr}{x:Str}{a:Expr}{as:List Expr}(h:raiseOf e=some (x,a,as)):∃p q,e=.Call (.Name x p) (a::as) [] q:=by
 unfold raiseOf at h;split at h
 ·split at h
  ·split at h
   ·split at h
    ·rename_i hk;cases h;rw[List.isEmpty_iff]at hk;subst hk;exact⟨_,_,rfl⟩
    ·cases h
   ·cases h
  ·cases h
 ·cases h
theorem jg.s_succ(ih:jg w g n)(hn:n<=100000){c:Cc}{E:XK}{X:Cx}(O:XS w g c E X){fr:Bool}{x:Stmt}{ir:EV.S}(h:cS (n+1) c fr x=some ir):PS X x (tS w g c E fr ir):=by
 have K:=snd (w:=w) (g:=g) n hn;unfold cS at h;split at h
 ·rename_i OD e pos
  split at h
  ·rename_i t0
   split at h
   ·-- x = e
    rename_i y p
    split at h
    ·rename_i hp
     obtain⟨p0,k0,q0,rfl⟩:=DO hp;simp only[aP,aL]at h;obtain⟨i,hl,j,hj,h⟩:=h;split at h
     ·rename_i hc
      simp only[aW,bL]at hc;cases h;obtain⟨⟨⟨c1,c2⟩,c3⟩,c4⟩:=hc;exact wH O.toXO c4 hl hj c2 c1 (by simpa using c3)
     ·cases h
    split at h
    ·cases h
    rename_i IA
    have IA:kc e=false:=by simpa using IA
    simp only[aP,aL]at h;obtain⟨i,hl,ie,h1,h⟩:=h;obtain⟨l1,l2⟩:=zy hl;obtain⟨l3,_⟩:=zt l1;have ho:=lj l3;have hk:∃ig,((za c i/\fresh c ig=true/\c.frz=false)\/(¬ za c i/\esc ig=true))/\ir=.set (.nm i) ig/\(ig=ie\/ig=gY c ie):=by
     split at h
     ·rename_i hy
      split at h
      ·rename_i hf;cases h;exact⟨_,.inl ⟨ho.mpr hy,by simpa using hf⟩,rfl,.inr rfl⟩
      ·cases h
     ·rename_i hy
      split at h
      ·rename_i hf;cases h;exact⟨_,.inr ⟨λz=>hy (ho.mp z),hf⟩,rfl,.inl rfl⟩
      ·cases h
    obtain⟨ig,hk,rfl,LV⟩:=hk;have hE:PE X e (tE w g c E ig):=by
     rcases LV with rfl|rfl
     ·exact K.e O.toXO h1
     ·exact ES (K.e O.toXO h1)
    cases hc:fC e with
    |false=>
     refine lX (e:=e) (lz (i:=i) (by rw[O.N];exact O.nd) (by rw[O.N];exact l3) (by unfold L2.Loc;rw[O.nm];rcases l2 with z|z;exact .inl z;exact .inr z.1) hE (iR hc) ?_) (λ_ _ _ z=>z) (List.getElem?_eq_some_iff.mp l3).1 hk;rcases l2 with z|z
     ·exact .inr (by rw[O.nm];exact z)
     ·exact .inl (O.fn y z.2)
    |true=>
     cases e with
     |ListComp elt gs sc p=>
      have eg:ig=ie:=by
       rcases LV with z|z
       ·exact z
       ·rw[z];exact uD h1 IA
      subst eg;exact Bj O.toXO hn hl h1 IA hk
     |SetComp elt gs sc p=>match n,h1 with
      | 0,h1=>cases h1
      |m+1,h1=>cases h1
     |DictComp a b gs sc p=>match n,h1 with
      | 0,h1=>cases h1
      |m+1,h1=>cases h1
     |_=>cases hc
   ·-- (a, b) = e
    rename_i ts k p
    split at h
    ·rename_i x y a b hp
     split at h
     ·rename_i hx
      simp only[aP,aL]at h;obtain⟨tg,h1,ie,h2,h⟩:=h;split at h
      ·cases h
      ·rename_i hc
       cases h;obtain⟨px,py,k2,Gz,rfl,rfl,Iu,HW,Iy,Iz,hl⟩:=nr hp;refine tw O.toXO (K.e O.toXO h2) (ji O.toXO h1) (lS h1) (by simpa using hc) rfl ?_ rfl;refine CW (λz=>?_);rw[show X.env.kindOf x=X.env.scope.names.lookup x from rfl,O.nm]at z;rw[z]at hx;cases hx
     simp only[aP,aL]at h;obtain⟨i,hx,j,hy,ia,h1,ib,h2,h⟩:=h;obtain⟨px,py,k2,Gz,rfl,rfl,Iu,HW,Iy,Iz,hl⟩:=nr hp;split at h
     ·cases h
     ·rename_i hc
      simp only[bR,bL,not_or,Bool.not_eq_true,Bool.not_eq_false]at hc;obtain⟨⟨⟨⟨⟨⟨⟨c1,c2⟩,c3⟩,c4⟩,c5⟩,c6⟩,c7⟩,c8⟩:=hc;obtain⟨l1,_⟩:=zy hx;obtain⟨l3,_⟩:=zt l1;obtain⟨m1,_⟩:=zy hy;obtain⟨m3,_⟩:=zt m1;have oi:=lj l3;have oj:=lj m3;have hk:((za c j/\fresh c ib=true/\c.frz=false)\/(¬ za c j/\esc ib=true))/\ir=.par i j ia ib:=by
       split at h
       ·rename_i Jk
        split at h
        ·rename_i hf;cases h;exact⟨.inl ⟨oj.mpr Jk,by simpa using hf⟩,rfl⟩
        ·cases h
       ·rename_i Jk
        split at h
        ·rename_i hf;cases h;exact⟨.inr ⟨λz=>Jk (oj.mp z),hf⟩,rfl⟩
        ·cases h
      obtain⟨hk,rfl⟩:=hk;exact yE O.toXO (O.calm c1) hx hy (eq_of_beq c2) (eq_of_beq c3) (by simpa using c4) (K.e O.toXO h1) (K.e O.toXO h2) c7 c8 Iy Iz hl (λz=>by have:=oi.mp z;rw[c5]at this;cases this) c6 hk
    split at h
    ·cases h
    simp only[aP,aL]at h;obtain⟨tg,h1,ie,h2,h⟩:=h;split at h
    ·cases h
    ·rename_i hc
     have hc:((isTup e=true->lT e=true)/\fC e=false)/\esc ie=true:=by simpa using hc
     cases h;refine tw O.toXO (K.e O.toXO h2) (ji O.toXO h1) (lS h1) hc.2 (by simp only[swapsWithSole];exact iR hc.1.2) ?_ rfl;exact Dq hc.1.1
   ·-- x[k] = e
    split at h
    ·simp only[aP,aL]at h;obtain⟨i,hl,ie,h1,ik,h2,h⟩:=h;split at h
     ·rename_i hc
      simp only[aW,bL]at hc;cases h;exact xt O.toXO hc.2 (zy hl).1 hc.1.1.1.1 (K.e O.toXO h2) (K.e O.toXO h1) hc.1.1.1.2 hc.1.1.2 hc.1.2
     ·cases h
    ·cases h
   ·cases h
  ·cases h
 ·split at h
  ·-- x.insert(k, a)
   rename_i he
   obtain⟨p,rfl⟩:=Di he;simp only[aP,aL]at h;obtain⟨i,hl,ik,h0,ia,h1,h⟩:=h;split at h
   ·rename_i hc
    simp only[aW,bL,beq_iff_eq]at hc;cases h;obtain⟨⟨⟨⟨⟨c2,c3⟩,c4⟩,c5⟩,c6⟩,c7⟩:=hc;exact E2 O.toXO c7 (zy hl).1 c2 (K.e O.toXO h0) (K.e O.toXO h1) c3 c4 c5 (by simpa using c6)
   ·cases h
  split at h
  ·-- x.append(a)
   rename_i he
   obtain⟨p,rfl⟩:=Bs he;simp only[aP,aL]at h;obtain⟨i,hl,ia,h1,h⟩:=h;split at h
   ·rename_i hm
    have hm:=eq_of_beq hm;subst hm;split at h
    ·rename_i hc
     simp only[aW,bL]at hc;cases h;obtain⟨⟨⟨⟨c2,c3⟩,c4⟩,c5⟩,c6⟩:=hc;exact wO O.toXO c6 (zy hl).1 c2 (K.e O.toXO h1) c3 c4 (by simpa using c5)
    ·cases h
   split at h
   ·rename_i hc
    simp only[aW,bL,beq_iff_eq]at hc;cases h;obtain⟨⟨⟨⟨⟨rfl,c2⟩,c3⟩,c4⟩,c5⟩,c6⟩:=hc;exact vZ O.toXO c6 (zy hl).1 c2 (K.e O.toXO h1) c3 c4 (by simpa using c5)
   ·cases h
  ·split at h
   ·cases h
   ·rename_i hc
    simp only[aP,aL]at h;obtain⟨ie,h1,h⟩:=h;cases h;exact Bu (K.e O.toXO h1) (by simpa using hc)
 ·split at h
  ·-- return e
   rename_i e
   simp only[aP,aL]at h;obtain⟨ie,h1,h⟩:=h;split at h
   ·rename_i hf
    split at h
    ·rename_i y p
     split at h
     ·rename_i ho
      simp only[bK]at h;obtain⟨i,hl,rfl⟩:=h;exact uJ O.toXO hl ho
     ·cases h
    ·split at h
     ·rename_i G3
      cases h;exact sI (K.e O.toXO h1) λ_=>G3
     ·cases h;exact Be (K.e O.toXO h1)
   ·rename_i hf
    cases h;exact sI (K.e O.toXO h1) λz=>absurd z hf
  ·split at h
   ·cases h
   ·rename_i hf
    cases h;exact BC (by simpa using hf)
 ·simp only[aP,aL]at h;obtain⟨it,h1,ia,h2,ib,h3,h⟩:=h;cases h;exact xB (K.t O.toXO h1) (ih.ss O h2) (ih.ss O h3)
 ·split at h
  ·cases h
  ·rename_i Nt it0 b0 Ha pos0 hc
   have hc:(Ha=[]/\c.calm=true)/\zx it0=true:=by simpa using hc
   obtain⟨⟨rfl,JO⟩,F_⟩:=hc;simp only[aP,aL]at h;obtain⟨tg,h1,it,h2,h⟩:=h;split at h
   ·cases h
   ·rename_i ho
    have ho:gO it Nt=true:=by simpa using ho
    simp only[aL]at h;obtain⟨ib,h3,h⟩:=h;cases h;exact y8 O.toXO (O.calm JO) (K.i O.toXO.nox h2 ho) (ji O.toXO.nox h1) (lS h1) (ih.ss O.nox.froze h3) F_
 ·split at h
  ·cases h
  ·rename_i Ha _ hc
   have hc:Ha=[]/\c.calm=true:=by simpa using hc
   obtain⟨rfl,hc⟩:=hc;simp only[aP,aL]at h;obtain⟨it,h1,ib,h2,h⟩:=h;cases h;exact Ab (K.t O.toXO.nox h1) (ih.ss O.nox h2)
 ·split at h
  ·split at h
   ·rename_i hr
    obtain⟨p0,q0,rfl⟩:=uY hr;split at h
    ·cases h
    ·rename_i hc
     simp only[bR,bL,not_or,Bool.not_eq_false,Option.isNone_iff_eq_none]at hc;obtain⟨⟨rfl,JO⟩,F_⟩:=hc;split at h
     ·rename_i hg
      simp only[aP,aL]at h;obtain⟨ies,h1,h⟩:=h;cases h;exact D7 O (O.calm JO) F_ hg (K.es O.toXO h1) h1 (bB (jz h1) hn)
     ·cases h
   ·cases h
  ·cases h
 ·-- try
  split at h
  ·split at h
   ·rename_i b0 Ha fin0 pos0 hs0 y0 h0 hp0 ty0 x0 np0
    split at h
    ·cases h
    ·rename_i hc
     have hc:((((((Ha=[]/\fin0=[])/\c.calm=true)/\c.fnc=true)/\h0≠[])/\c.own=[])/\c.frz=false):=by simpa using hc
     obtain⟨⟨⟨⟨⟨⟨rfl,rfl⟩,JO⟩,F_⟩,K8⟩,LW⟩,JP⟩:=hc;simp only[aP,aL]at h;obtain⟨ib,h1,OF,h2,h⟩:=h;split at h
     ·cases h
     ·rename_i hg
      have hg:glob c x0=some .exc\/glob c x0=some .exk:=by
       by_cases z:glob c x0=some .exc
       ·exact .inl z
       ·exact .inr (by simpa[z]using hg)
      match h0,K8,h2 with
      | [],K8,_=>exact absurd rfl K8
      |b₀::FG,_,h2=>
       split at h
       ·cases h;exact Cy O JP LW hg (λEh pn Et O'=>ih.ss O' h1) (λy=>ih.ss (O.held y) h2)
       ·simp only[aL]at h;obtain⟨i,hl,h⟩:=h;split at h
        ·rename_i hn
         cases h;exact DT O JP LW hg (zt (zy hl).1).1 (by simpa using hn) (λEh pn Et O'=>ih.ss O' h1) (λy=>ih.ss (O.held y) h2)
        ·cases h
   ·cases h
  ·cases h
 ·cases h
theorem pq:∀n,n<=100000->jg w g n
 | 0,_=>⟨λ_ _ _ _ h=>(by cases h),λ_ _ _ _ h=>by simp[cSs]at h⟩
 |n+1,h=>
  have ih:=pq n (Nat.le_of_succ_le h)
  ⟨λO _ _ _ q=>ih.s_succ (Nat.le_of_succ_le h) O q,λO _ _ _ q=>ih.ss_succ O q⟩
end
section
variable{w:W}{g:Gc}{c:Cc}{E:XK}{fr:Bool}{X:Cx}{H0:Hp}{B:Sh}{τ:Env}{σ:L2.St}{H H':Hp}{S:Sh}{n:Nat}
def lJ(g:Gc)(E:XK)(fr:Bool)(H0:Hp)(B:Sh)(D:Ends):O->Prop
 | .nx _=>∀σ' H',qf H0 H'->D.nx σ' H'
 | .rt d=>∀v H',qf H0 H'->Rep g (hid H' B) d v->(fr=true->cX d=true->Fr g H0 B H' d v)->D.rt v H'
 | .ex k=>∀H' C,qf H0 H'->g.clA k=some C->E (.ref C) none H'
 |_=>False
theorem lJ.out{D:Ends}{o:O}(h:lJ g E fr H0 B D o):b8 g c E fr H0 B H S D o:=by
 cases o with
 |nx t=>exact λσ' H' S' ss _=>h σ' H' ss.same
 |rt d=>exact h
 |ex k=>exact h
 |bk t=>exact h.elim
 |ct t=>exact h.elim
 |no=>exact h.elim
def yV(w:W)(g:Gc)(c:Cc)(E:XK)(fr:Bool)(s:Ss):TS:=λD σ H=>∃H0 B τ S,SS g c H0 B τ σ H S/\lJ g E fr H0 B D (qe w s τ)
theorem Ep(hn:n<=100000)(O:XS w g c E X){x:List Stmt}{ir:Ss}(h:h_ n c fr x=some ir):PSs X x (yV w g c E fr ir):=
 PSs.imp ((pq n hn).ss O h) λD σ H ⟨H0,B,τ,S,ss,z⟩=>⟨H0,B,τ,S,ss,z.out⟩
end
def GM0(p:Pr)(g:Gc)(mg:Str->Option ae)(x:Str):GK->Prop
 | .fn _=>∃f,g.fnA x=some f
 | .val=>∃u v d,mg x=some u/\RelV v u/\p.glb x=some d/\∀H,Rep g H d v
 | .bi b=>mg x=none/\x=b1N b/\∃id,b1V b=.builtin id
 | .rng=>mg x=none/\x = "range"
 | .enum=>mg x=none/\x = "enumerate"
 | .zip=>mg x=none/\x = "zip"
 | .isi=>mg x=none/\x = "isinstance"
 | .ty n b=>mg x=none/\bV x=some (.type n)/\(n∈["int","bool","str","list","tuple"]\/n = "ValueError")/\∀b',b=some b'->x=b1N b'/\b1V b'=.type n
 | .exc=>∃C,mg x=some (.ref C)/\g.clA x=some C/\mF g.K C
 | .exk=>∃C,mg x=some (.ref C)/\g.clA x=some C
 | .set=>mg x=none/\bV x=some (.type "set")
 | .rvd=>mg x=none/\x = "reversed"
structure Ground(p:Pr)(g:Gc)(G GH GU:List (Str×GK))(mg:Str->Option ae):Prop where
 fn:∀x f,g.fnA x=some f->∃st own fr fd fnn,p.fns x=some fnn/\cFn G GH own fr st=some fnn/\Fun g.K x x st f fd/\Binds g.K fd (argNames (qt st)) []/\cR g.K (.ref f)=true/\mg x=some (.ref f)/\G.lookup x=some (.fn fr)
 gl:∀x k,G.lookup x=some k->GM0 p g mg x k
 gu:∀x k,GU.lookup x=some k->(∀fr,k≠.fn fr)/\k≠.exc/\GM0 p g mg x k
 gh:∀x k,GH.lookup x=some k->GU.lookup x=some k\/∃fr f st own fd fnn,k=.fn fr/\g.fnA x=some f/\p.fns x=some fnn/\gU GU own fr st=some fnn/\Fun g.K x x st f fd/\Binds g.K fd (argNames (qt st)) []/\cR g.K (.ref f)=true/\mg x=some (.ref f)
 sub:∀k cl b,p.sub k cl=some b->∃C cv,g.clA k=some C/\dq g.K C/\bF g.K (.ref C) cv=some b/\match cl with
  | .ty n=>n = "ValueError"/\cv=.type n
  | .ex x=>∃D,g.clA x=some D/\cv=.ref D
 cat:∀k x,p.cat k x=true->∀C D,g.clA k=some C->g.clA x=some D->bY g.K (.ref C) (.ref D)=some true
abbrev wAt(p:Pr)(k:Nat):W:=⟨qa p k,p.glb,p.sub,p.cat⟩
theorem m9{N ps:List Str}{sc:a8}(h:gZ N ps sc=true):gr N ps sc:=by
 unfold gZ at h;simp only[aW,beq_iff_eq,bL,decide_eq_true_eq,cQ,bR,bne_iff_ne,ne_eq]at h;obtain⟨⟨⟨⟨⟨⟨h1,h2⟩,h3⟩,h4⟩,h5⟩,h6⟩,h7⟩:=h;exact⟨h1,h2,h3,h4,h5,h6,h7⟩
theorem DD{G GH:List (Str×GK)}{own:List Str}{fr:Bool}{st:Stmt}{fnn:Fn}(h:cFn G GH own fr st=some fnn):gZ (eR (qt st) (qr st)) (argNames (qt st)) (qr st)=true/\(argNames (qt st)).any own.contains=false /\
  ∃b,h_ i4 ⟨(qr st).names,eR (qt st) (qr st),own,G,true,true,true,GH,[],false⟩ fr (dQ st)=some b/\fnn=⟨(argNames (qt st)).length,(eR (qt st) (qr st)).length,fr,b⟩:=by
 unfold cFn at h;dsimp only at h;split at h
 ·cases h
 ·rename_i hc
  simp only[bR,bL,not_or,Bool.not_eq_false,Bool.not_eq_true]at hc;simp only[aP,aL,cz]at h;obtain⟨b,h1,h2⟩:=h;exact⟨hc.1,hc.2,b,h1,h2.symm⟩
theorem Eu{GU:List (Str×GK)}{own:List Str}{fr:Bool}{st:Stmt}{fnn:Fn}(h:gU GU own fr st=some fnn):gZ (eR (qt st) (qr st)) (argNames (qt st)) (qr st)=true/\(argNames (qt st)).any own.contains=false /\
  ∃b,h_ i4 ⟨(qr st).names,eR (qt st) (qr st),own,GU,false,true,false,[],[],false⟩ fr (dQ st)=some b/\fnn=⟨(argNames (qt st)).length,(eR (qt st) (qr st)).length,fr,b⟩:=by
 unfold gU at h;dsimp only at h;split at h
 ·cases h
 ·rename_i hc
  simp only[bR,bL,not_or,Bool.not_eq_false,Bool.not_eq_true]at hc;simp only[aP,aL,cz]at h;obtain⟨b,h1,h2⟩:=h;exact⟨hc.1,hc.2,b,h1,h2.symm⟩
section
variable{P:aF}{w:aD}{K:aB}{mg:Str->Option ae}{base:Heap}{N:List Str}{qual:Str}{scope:a8}{f:Addr}{cd:ae}{A:aE}{outer:List PySem.Env}{s₀:af}{H₀:Hp}{E:XK}
theorem EB:Passes (CX1 P w) (fV (CX1 P w) P w K mg base N qual scope f cd A outer s₀ H₀ E) E:=by
 intro pins σ H s e s' I h;obtain⟨x,cls,H',rfl,I',F,q⟩:=jF rfl rfl I rfl h;exact cx.leaves (env:=(fV (CX1 P w) P w K mg base N qual scope f cd A outer s₀ H₀ E).env) (outer:=outer) I' rfl rfl rfl F q
end
theorem GM0.gm{p:Pr}{g:Gc}{mg:Str->Option ae}{x:Str}{k:GK}{P:aF}{wl:aD}{base:Heap}{A:aE}{calm:Bool}{n:Nat}(h:GM0 p g mg x k)(hf:∀fr,k≠.fn fr):GM (wAt p n) g P wl mg base A calm x k:=by
 cases k with
 |fn Js=>exact absurd rfl (hf Js)
 |exc=>obtain⟨C,h1,h2,_⟩:=h;exact⟨C,h1,h2⟩
 |val=>exact h
 |bi b=>exact h
 |rng=>exact h
 |enum=>exact h
 |zip=>exact h
 |isi=>exact h
 |ty n b=>exact h
 |exk=>exact h
 |set=>exact h
 |rvd=>exact h
theorem tO{w:W}{g:Gc}{c:Cc}{E:XK}{X:Cx}{N ps own:List Str}{sc:a8}{fr:Bool}{body:List Stmt}{b:Ss}(LX:c.N=N)(Nu:c.own=own)(Nv:c.frz=false)(FS:gr N ps sc)(c2:ps.any own.contains=false)(c3:h_ i4 c fr body=some b)
  (O:XS w g c E X) {vs:List V}{ds:List D}{B:Sh}{H:Hp}{Q:VK} (hB:Sub B H) (rv:qy g (hid H B) ds vs) (hl:ds.length=ps.length)
  (h:tR g E H (match qe w b (ds.map some++cb (N.length-ps.length) none)with
   | .nx _=>if fr then .no else .ok .non
   | .rt d=>.ok d
   | .ex c=>.ex c
   |_=>.no) (λd=>∀v H',qf H H'->Rep g (hid H' B) d v->(fr=true->cX d=true->Fr g H B H' d v)->Q v H')) :
  ∃t,PSs X body t/\t {nx:=λ_ H'=>Q .non H',rt:=Q} (start N vs) H:=by
 have OG:ps.length<=N.length:=by have:=congrArg List.length FS.pre;rw[ef]at this;lia
 refine⟨_,Ep (by decide) O c3,H,B,ds.map some++cb (N.length-ps.length) none,⟨λ_=>false,B.h,B.z,B.y⟩,?_,?_⟩
 ·-- at the start
  have hh:hid H ⟨λ_=>false,B.h,B.z,B.y⟩=hid H B:=rfl;have OH:=rv.length;have par:∀i d,(ds.map some++cb (N.length-ps.length) none)[i]? = some (some d)->i<ps.length/\ds[i]? = some d:=λi d hi=>by
   by_cases FF:i<ds.length
   ·rw[List.getElem?_append_left (by simpa using FF),List.getElem?_map]at hi;refine⟨by lia,?_⟩;cases q:ds[i]? with
    |none=>rw[q]at hi;cases hi
    |some e=>rw[q]at hi;simpa using hi
   ·rw[List.getElem?_append_right (by simpa using FF)]at hi;rw[List.getElem?_replicate]at hi;split at hi<;>cases hi
  have noOwn:∀i d,za c i->(ds.map some++cb (N.length-ps.length) none)[i]? = some (some d)->False:=λi d ⟨y,h1,h2⟩ hi=>by
   obtain⟨FF,_⟩:=par i d hi;rw[LX]at h1;rw[Nu]at h2;have:N.take ps.length=ps:=FS.pre;have hy:ps[i]? = some y:=by
    rw[<-this,List.getElem?_take,if_pos FF];exact h1
   have:=List.any_eq_false.mp c2 y (List.mem_of_getElem? hy);exact this h2
  refine⟨⟨by simp[L2.start];lia,λi d hi=>?_,λa ha=>?_⟩,by simp[LX];lia,qf.refl _,hB,(λa=>by simp),(λa ha=>by cases ha),(λi d ho hi=>(noOwn i d ho hi).elim),λi j d e a ho _ hi _ _ _=>(noOwn i d ho hi).elim,λz=>by rw[Nv]at z;cases z⟩
  ·obtain⟨FF,hd⟩:=par i d hi;obtain⟨v,h1,h2⟩:=rv.get hd;have Gm:i<vs.length:=by lia
   refine⟨v,?_,.inl h2,λ_ _ _=>h2⟩;unfold L2.start;rw[List.getElem?_append_left (by simpa using Gm),List.getElem?_map,h1]
   rfl
  ·refine hB a ?_;rcases ha with ha|ha
   ·exact .inl ha
   ·cases ha
 ·-- at the end
  cases q:qe w b (ds.map some++cb (N.length-ps.length) none)with
  |nx τ'=>
   rw[q]at h;simp only at h;cases fr with
   |true=>exact h.elim
   |false=>exact λσ' H' hs=>h .non H' hs .non (by intro z;cases z)
  |rt d=>rw[q]at h;exact h
  |ex z=>rw[q]at h;exact h
  |bk z=>rw[q]at h;exact h.elim
  |ct z=>rw[q]at h;exact h.elim
  |no=>rw[q]at h;exact h.elim
section
variable{p:Pr}{g:Gc}{G GH GU:List (Str×GK)}{mg:Str->Option ae}{P:aF}{wl:aD}{base:Heap}
theorem Ground.okU(T:Ground p g G GH GU mg):∀(k:Nat) (x:Str) (f:Addr) (st:Stmt) (own:List Str) (fr:Bool) (fd:bN) (fnn:Fn),p.fns x=some fnn->gU GU own fr st=some fnn->Fun g.K x x st f fd ->
  i_ P wl g.K mg base (CX1 P wl) k f fd (argNames (qt st)) (spF (wAt p k) g x fr)
 | 0,x,f,st,own,fr,fd,fnn,_,_,_=>⟨λvs H Q E ⟨S,ds,_,_,h⟩=>h.elim,λA outer s H args us vs Q E _ _ _ _ ⟨S,ds,_,_,h⟩=>h.elim⟩
 |k+1,x,f,st,own,fr,fd,fnn,hf,hc,F=>by
  obtain⟨c1,c2,b,c3,rfl⟩:=Eu hc;have FS:=m9 c1;generalize hN:eR (qt st) (qr st)=N at *;generalize Nw:argNames (qt st)=ps at *;have call:∀ds,qa p (k+1) x ds=zE (wAt p k) ⟨ps.length,N.length,fr,b⟩ ds:=λds=>by simp only[qa,hf]
  have lenOf:∀vs H Q E,spF (wAt p (k+1)) g x fr vs H Q E->vs.length=ps.length:=λvs H Q E ⟨S,ds,_,r,h⟩=>by
   have h:tR g E H (qa p (k+1) x ds) _:=h;rw[call]at h;unfold zE at h;by_cases hl:ds.length=ps.length
   ·rw[<-r.length];exact hl
   ·rw[if_neg hl]at h;exact h.elim
  obtain⟨oc,od,kV,doc,pm,an,cdv,ct,osl,rfl,lk,Gq⟩:=F.ex;refine wt lk Gq FS lenOf λA outer s H vs Q E hr Gu=>?_
  obtain⟨B,ds,hB,rv,h⟩:=Gu;have h:tR g E H (qa p (k+1) x ds) (λd=>∀v H',qf H H'->Rep g (hid H' B) d v->(fr=true->cX d=true->Fr g H B H' d v)->Q v H'):=h;rw[call]at h;unfold zE at h;by_cases hl:ds.length=ps.length
  ·rw[if_pos hl]at h;have O:XS (wAt p k) g ⟨(qr st).names,N,own,GU,false,true,false,[],[],false⟩ E (fV (CX1 P wl) P wl g.K mg base N x (qr st) f cdv A outer s H E):=
    ⟨⟨rfl,rfl,rfl,FS.nd,(λz=>by cases z),by have:=hr.un;show (A.deeper _).units+64<_;lia,λ_ _=>rfl,FS.kind,EB,λy ky hy=>(T.gu y ky hy).2.2.gm (T.gu y ky hy).1,(λz=>by cases z),T.sub⟩,(λz=>by cases z),λy C hy _=>absurd rfl (T.gu y .exc hy).2.1,T.cat,⟨rfl,rfl,rfl⟩,λy k z=>by cases z⟩
   exact tO rfl rfl rfl FS c2 c3 O hB rv hl h
  ·rw[if_neg hl]at h;exact h.elim
theorem Ground.ok(T:Ground p g G GH GU mg):∀(k:Nat) (x:Str) (f:Addr) (st:Stmt) (own:List Str) (fr:Bool) (fd:bN) (fnn:Fn),p.fns x=some fnn->cFn G GH own fr st=some fnn->Fun g.K x x st f fd ->
  fH P wl g.K mg base (CX1 P wl) k f fd (argNames (qt st)) (spF (wAt p k) g x fr)
 | 0,x,f,st,own,fr,fd,fnn,_,_,_=>⟨λvs H Q E ⟨S,ds,_,_,h⟩=>h.elim,λA outer s H args us vs Q E _ _ _ _ ⟨S,ds,_,_,h⟩=>h.elim⟩
 |k+1,x,f,st,own,fr,fd,fnn,hf,hc,F=>by
  obtain⟨c1,c2,b,c3,rfl⟩:=DD hc;have FS:=m9 c1;generalize hN:eR (qt st) (qr st)=N at *;generalize Nw:argNames (qt st)=ps at *;have call:∀ds,qa p (k+1) x ds=zE (wAt p k) ⟨ps.length,N.length,fr,b⟩ ds:=λds=>by simp only[qa,hf]
  have lenOf:∀vs H Q E,spF (wAt p (k+1)) g x fr vs H Q E->vs.length=ps.length:=λvs H Q E ⟨S,ds,_,r,h⟩=>by
   have h:tR g E H (qa p (k+1) x ds) _:=h;rw[call]at h;unfold zE at h;by_cases hl:ds.length=ps.length
   ·rw[<-r.length];exact hl
   ·rw[if_neg hl]at h;exact h.elim
  refine F.ok1 FS lenOf λcdv A outer s H vs Q E hr Gu=>?_
  obtain⟨B,ds,hB,rv,h⟩:=Gu;have h:tR g E H (qa p (k+1) x ds) (λd=>∀v H',qf H H'->Rep g (hid H' B) d v->(fr=true->cX d=true->Fr g H B H' d v)->Q v H'):=h;rw[call]at h;unfold zE at h;by_cases hl:ds.length=ps.length
  ·rw[if_pos hl]at h
   -- the ground of the body
   have calls:∀y fy,g.fnA y=some fy->∃fry,G.lookup y=some (.fn fry)/\jC (wAt p k) g P wl mg base (A.deeper (envOfC x (qr st) s.heap.objs.size f cdv)) true y fy fry:=λy fy hy=>by
    obtain⟨K9,Im,fry,Jt,K_,z1,z2,z3,z4,z5,z6,z7⟩:=T.fn y fy hy;exact⟨fry,z7,z6,z5,k,Jt,_,z4,.inl ⟨rfl,Ground.ok T k y fy K9 Im fry Jt K_ z1 z2 z3,hr⟩⟩
   have O:XS (wAt p k) g ⟨(qr st).names,N,own,G,true,true,true,GH,[],false⟩ E (eC (CX1 P wl) P wl g.K mg base N x (qr st) f cdv A outer s H E):=by
    refine⟨⟨rfl,rfl,rfl,FS.nd,λ_=>rfl,hr.units,λ_ _=>rfl,FS.kind,AA,λy ky hy=>?_,λ_ y fy hy=>?_,T.sub⟩,λ_=>wX,λy C hy hC=>?_,T.cat,⟨rfl,rfl,rfl⟩,λy ky hy=>?_⟩
    ·have:=T.gl y ky hy;by_cases hf:∃fr,ky=.fn fr
     ·obtain⟨Js,rfl⟩:=hf;obtain⟨fy,h1⟩:=this;obtain⟨fry,h2,h3⟩:=calls y fy h1;have hy:G.lookup y=some (.fn Js):=hy;rw[hy]at h2;cases h2;exact⟨fy,h1,h3⟩
     ·exact this.gm λfr z=>hf ⟨fr,z⟩
    ·obtain⟨fry,_,h3⟩:=calls y fy hy;exact⟨fry,h3⟩
    ·obtain⟨C',_,h2,h3⟩:=T.gl y .exc hy;rw[h2]at hC;cases hC;exact h3
    ·rcases T.gh y ky hy with z|⟨Js,fy,K9,Im,Jt,K_,rfl,z1,z2,z3,z4,z5,z6,z7⟩
     ·obtain⟨u1,u2,u3⟩:=T.gu y ky z;exact⟨u2,λv=>u3.gm u1⟩
     ·exact⟨by simp,λv=>⟨fy,z1,z7,z6,k,Jt,_,z5,.inr ⟨rfl,Ground.okU T k y fy K9 Im Js Jt K_ z2 z3 z4,hr.mark v⟩⟩⟩
   exact tO rfl rfl rfl FS c2 c3 O hB rv hl h
  ·rw[if_neg hl]at h;exact h.elim
end
end EV
namespace WB
open PySem PySem.Spec PyProof.Rows L2
structure Dd(K:aB)(n:Str)(st:Stmt)(f:Addr):Prop where
 a:aw K ar n=some (some (.ref f))
 l:∃oc od an sl kV dc pm cd ct,K.lookup f=some ⟨oc,od,.func (cm n n (qt st) (dQ st) (qr st) .none kV dc pm an cd ct),sl⟩/\PySem.W.codeIn K cd n=true
 k:cR K (.ref f)=true
theorem qX{K:aB}{n:Str}{st:Stmt}{f:Addr}{od an:Option Addr}{sl:Array (Option ae)}{oc kV dc pm cd ct:ae}(a:aw K ar n=some (some (.ref f)))
  (l:K.lookup f=some ⟨oc,od,.func (cm n n (qt st) (dQ st) (qr st) .none kV dc pm an cd ct),sl⟩) (c:PySem.W.codeIn K cd n=true) (k:cR K (.ref f)=true):Dd K n st f:=
 ⟨a,⟨oc,od,an,sl,kV,dc,pm,cd,ct,l,c⟩,k⟩
theorem Dd.fn{K:aB}{n:Str}{st:Stmt}{f:Addr}(d:Dd K n st f):∃fd,Fun K n n st f fd:=by
 obtain⟨oc,od,an,sl,kV,dc,pm,cd,ct,l,c⟩:=d.l;exact⟨_,rS (st:=st) l c d.k⟩
theorem mL{K:aB}{C:Addr}{c:ae}{dd:Option Addr}{cd:PySem.ClassData}{sl:Array (Option ae)}(s1:PySem.W.findIn K (.ref C) "__getattribute__" = some (some (.builtin "BaseException.__getattribute__")))
  (s2:PySem.W.findIn K (.ref C) "__getattr__" = some none) (s3:PySem.W.findIn K (.ref C) "__class__" = some (some (.builtin "object.__class__"))) (s4:PySem.W.mroIn K C (.type "BaseException")=some true) (s5:PySem.W.mroIn K C (.type "object")=some true)
  (s6:K.lookup C=some ⟨c,dd,.cls cd,sl⟩):dq K C:=⟨s1,s2,s3,s4,s5,⟨c,dd,cd,sl,s6⟩⟩
theorem rO{K:aB}{C:Addr}:bF K (.ref C) (.ref C)=some true:=by
 unfold bF;rw[if_pos (beq_self_eq_true _)]
theorem oQ{K:aB}{C:Addr}(s:aH K (.ref C) (.type "ValueError")=some true):bF K (.ref C) (.type "ValueError")=some true:=by
 unfold bF;rw[if_neg (λz=>by have:=eq_of_beq z;cases this)];show (if PySem.W.kitMeta "ValueError" = true then aH K (.ref C) (.type "ValueError")else none)=_;rw[if_pos (by decide +kernel)];exact s
theorem rQ{K:aB}{C D:Addr}{x:PySem.ClassData}(u:aH K (.ref D) (.type "BaseException")=some true)(c:PySem.W.clsIn K D=some x)(t:PySem.W.typeIn K (.ref D)=some (.type "type"))(s:aH K (.ref C) (.ref D)=some true) :
  bY K (.ref C) (.ref D)=some true:=by
 unfold bY;rw[u,if_pos (by decide)];show (if ((PySem.W.clsIn K D).isSome&&PySem.W.typeIn K (.ref D)==some (.type "type"))=true then aH K (.ref C) (.ref D)else none)=_;rw[c,t,if_pos (by rw[beq_self_eq_true];rfl)];exact s
theorem pU{us:List ae}(h:us.length=1):∃a,us=[a]:=List.length_eq_one_iff.mp h
theorem su{n:Nat}{us:List ae}(h:us.length=n+1):∃a r,us=a::r/\r.length=n:=by
 cases us with
 |nil=>cases h
 |cons a r=>exact⟨a,r,rfl,Nat.succ.inj h⟩
theorem tV{us:List ae}(h:us.length=2):∃a b,us=[a,b]:=by
 obtain⟨a,r,e,h⟩:=su h;obtain⟨b,q⟩:=pU h;subst q;exact⟨a,b,e⟩
theorem EY{us:List ae}(h:us.length=3):∃a b c,us=[a,b,c]:=by
 obtain⟨a,r,e,h⟩:=su h;obtain⟨b,c,q⟩:=tV h;subst q;exact⟨a,b,c,e⟩
structure Dk(K:aB)(n:Str)(D:Addr):Prop where
 a:aw K ar n=some (some (.ref D))
 c:∃x,PySem.W.clsIn K D=some x
 t:PySem.W.typeIn K (.ref D)=some (.type "type")
theorem dJ{K:aB}{n:Str}{D:Addr}{x:PySem.ClassData}(a:aw K ar n=some (some (.ref D)))(c:PySem.W.clsIn K D=some x)(t:PySem.W.typeIn K (.ref D)=some (.type "type")):Dk K n D:=⟨a,⟨x,c⟩,t⟩
theorem Dk.kit{K:aB}{n:Str}{C D:Addr}{b:Bool}(d:Dk K n D)(s:aH K (.ref C) (.ref D)=some b)(ne:C≠D):bF K (.ref C) (.ref D)=some b:=by
 obtain⟨x,c⟩:=d.c;unfold bF;rw[if_neg (λz=>ne (by have:=eq_of_beq z;injection this))];show (if ((PySem.W.clsIn K D).isSome&&PySem.W.typeIn K (.ref D)==some (.type "type"))=true then aH K (.ref C) (.ref D)else none)=_;rw[c,d.t,if_pos (by rw[beq_self_eq_true];rfl)];exact s
end WB
namespace EV
open PySem PySem.Spec PySem.P PyProof.Rows L2
structure Ent where
 x:Str
 st:Stmt
 own:List Str
 fr:Bool
 fn:Fn
noncomputable def prT(tab:List Ent)(vals:List (Str×D))(dz:List (Str×Str))(subs:List ((Str×Cl)×Bool):=[]):Pr:=⟨λx=>(tab.find? (·.x==x)).map (·.fn),λx=>vals.lookup x,λk c=>subs.lookup (k,c),λk x=>dz.contains (k,x)⟩
noncomputable def unx:GK->GK
 | .exc=>.exk
 |k=>k
noncomputable def fj(oth:List (Str×GK)):List (Str×GK):=oth.map λy=>(y.1,unx y.2)
noncomputable def gn(us:List Ent)(oth:List (Str×GK)):List (Str×GK):=us.map (λe=>(e.x,GK.fn e.fr))++fj oth
theorem sE{x:Str}{k:GK}:∀{oth:List (Str×GK)},(fj oth).lookup x=some k->∃k0,oth.lookup x=some k0/\k=unx k0
 | [],h=>by cases h
 | (y,k1)::r,h=>by
  have h:List.lookup x ((y,unx k1)::fj r)=some k:=h;rw[bE]at h;split at h
  ·rename_i q;cases h;exact⟨k1,by rw[bE,q],rfl⟩
  ·rename_i q
   obtain⟨k0,h1,h2⟩:=sE h;exact⟨k0,by rw[bE,q];exact h1,h2⟩
theorem p6{x:Str}{k:GK}{oth:List (Str×GK)}:∀{us:List Ent},(gn us oth).lookup x=some k->(∃e∈us,e.x=x/\k=.fn e.fr)\/(fj oth).lookup x=some k
 | [],h=>.inr h
 |a::r,h=>by
  have h:List.lookup x ((a.x,GK.fn a.fr)::gn r oth)=some k:=h;rw[bE]at h;split at h
  ·rename_i q;cases h;exact .inl ⟨a,aM,(eq_of_beq q).symm,rfl⟩
  ·rcases p6 h with ⟨e,h1,h2⟩|h1
   ·exact .inl ⟨e,aR _ h1,h2⟩
   ·exact .inr h1
noncomputable def e_(K:aB)(ns:List Str)(x:Str):Option Addr:=if ns.contains x then (match aw K ar x with
 |some (some (.ref f))=>some f
 |_=>none)else none
noncomputable def gOf(K:aB)(fns cls:List Str):Gc:=⟨K,e_ K fns,e_ K cls⟩
theorem iI{K:aB}{ns:List Str}{x:Str}{f:Addr}(h:aw K ar x=some (some (.ref f)))(hx:ns.contains x=true):e_ K ns x=some f:=by
 unfold e_;rw[if_pos hx,h]
theorem kY{K:aB}{ns:List Str}{x:Str}{f:Addr}(h:e_ K ns x=some f):ns.contains x=true/\aw K ar x=some (some (.ref f)):=by
 unfold e_ at h;split at h
 ·rename_i hx
  split at h
  ·rename_i q;cases h;exact⟨hx,q⟩
  ·cases h
 ·cases h
def Bnd(e:Ent):Prop:=∀(kV doc pm:ae) (an:Option Addr) (cdv ct:ae) (us:List ae),us.length=(argNames (qt e.st)).length->bindArgs (cm e.x e.x (qt e.st) (dQ e.st) (qr e.st) .none kV doc pm an cdv ct) ⟨us,[]⟩=pure ((argNames (qt e.st)).zip us)
structure jd(K:aB)(G:List (Str×GK))(e:Ent):Prop where
 dd:∃f,WB.Dd K e.x e.st f
 bnd:Bnd e
def sF(K:aB)(vals:List (Str×D))(x:Str):GK->Prop
 | .fn _=>True
 | .val=>∃u v d,aw K ar x=some (some u)/\RelV v u/\vals.lookup x=some d/\∀g H,g.K=K->Rep g H d v
 | .bi b=>aw K ar x=some none/\x=b1N b/\∃id,b1V b=.builtin id
 | .rng=>aw K ar x=some none/\x = "range"
 | .enum=>aw K ar x=some none/\x = "enumerate"
 | .zip=>aw K ar x=some none/\x = "zip"
 | .isi=>aw K ar x=some none/\x = "isinstance"
 | .ty n b=>aw K ar x=some none/\bV x=some (.type n)/\(n∈["int","bool","str","list","tuple"]\/n = "ValueError")/\∀b',b=some b'->x=b1N b'/\b1V b'=.type n
 | .exc=>∃C,aw K ar x=some (some (.ref C))/\PySem.W.excIn K C iu "ValueError.__new__" = true
 | .exk=>∃C,aw K ar x=some (some (.ref C))
 | .set=>aw K ar x=some none/\bV x=some (.type "set")
 | .rvd=>aw K ar x=some none/\x = "reversed"
def oU(K:aB)(cls:List Str)(y:(Str×Cl)×Bool):Prop:=∃C cv,cls.contains y.1.1=true/\aw K ar y.1.1=some (some (.ref C))/\dq K C/\bF K (.ref C) cv=some y.2/\match y.1.2 with
 | .ty n=>n = "ValueError"/\cv=.type n
 | .ex x=>∃D,cls.contains x=true/\aw K ar x=some (some (.ref D))/\cv=.ref D
theorem tX{α β:Type} [BEq α] [LawfulBEq α]{a:α}{b:β}:∀{l:List (α×β)},l.lookup a=some b->(a,b)∈l
 | (c,d)::r,h=>by
  rw[bE]at h;split at h
  ·rename_i q;cases h;rw[eq_of_beq q];exact aM
  ·exact aR _ (tX h)
theorem tL{tab:List Ent}{e:Ent}(hn:(tab.map (·.x)).Nodup)(he:e∈tab):tab.find? (·.x==e.x)=some e:=by
 induction tab with
 |nil=>simp at he
 |cons a r ih=>
  simp only[aN,List.nodup_cons]at hn;rw[List.find?_cons];rcases aI.mp he with rfl|h
  ·simp
  ·have:(a.x==e.x)=false:=by
    cases q:a.x==e.x with
    |false=>rfl
    |true=>
     have:=eq_of_beq q;exact absurd (this▸aU.mpr ⟨e,h,rfl⟩) hn.1
   rw[this];exact ih hn.2 h
theorem CU{K:aB}{h:Heap}{mg:Str->Option ae}(X:K.In h)(N:h.Ns ar mg){tab:List Ent}{oth G:List (Str×GK)}{vals:List (Str×D)}(hG:G=tab.map (λe=>(e.x,GK.fn e.fr))++oth)
  (Hj:(tab.map (·.x)).Nodup) (ho:∀x k,oth.lookup x=some k->sF K vals x k) (LY:∀x fr,oth.lookup x≠some (.fn fr)) {us:List Ent} (Hb:∀e∈us,e∈tab) (Nx:∀e∈us,gU (fj oth) e.own e.fr e.st=some e.fn) (hc:∀e∈tab,cFn G (gn us oth) e.own e.fr e.st=some e.fn) (he:∀e∈tab,jd K G e) (cls:List Str) {dz:List (Str×Str)} (K':∀y∈dz,∃C D,aw K ar y.1=some (some (.ref C))/\aw K ar y.2=some (some (.ref D))/\bY K (.ref C) (.ref D)=some true) (HV:∀x,(oth.lookup x=some .exc\/oth.lookup x=some .exk)->cls.contains x=true)
  {subs:List ((Str×Cl)×Bool)} (FK:∀y∈subs,oU K cls y) :
  Ground (prT tab vals dz subs) (gOf K (tab.map (·.x)) cls) G (gn us oth) (fj oth) mg:=by
 have lk:∀x k,G.lookup x=some k->(∃e∈tab,e.x=x/\k=.fn e.fr)\/oth.lookup x=some k:=by
  subst hG;clear Hj hc he Hb
  induction tab with
  |nil=>intro x k hx;exact .inr hx
  |cons a r ih=>
   intro x k hx;simp only[aN,List.cons_append,bE]at hx;split at hx
   ·rename_i q;cases hx;exact .inl ⟨a,aM,(eq_of_beq q).symm,rfl⟩
   ·rcases ih x k hx with ⟨e,h1,h2⟩|h1
    ·exact .inl ⟨e,aR _ h1,h2⟩
    ·exact .inr h1
 have Ny:∀e∈tab,G.lookup e.x=some (.fn e.fr):=by
  subst hG;clear hc he lk Hb
  induction tab with
  |nil=>intro e h;simp at h
  |cons a r ih=>
   intro e hm;simp only[aN,List.nodup_cons]at Hj;simp only[aN,List.cons_append,bE];rcases aI.mp hm with rfl|hm
   ·rw[beq_self_eq_true]
   ·have:(e.x==a.x)=false:=by
     cases q:e.x==a.x with
     |false=>rfl
     |true=>exact absurd ((eq_of_beq q)▸aU.mpr ⟨e,hm,rfl⟩) Hj.1
    rw[this];exact ih Hj.2 e hm
 have Iz:∀k x,dz.contains (k,x)=true->∀C D,e_ K cls k=some C->e_ K cls x=some D->bY K (.ref C) (.ref D)=some true:=λk x z C D h1 h2=>by
  obtain⟨C',D',e1,e2,e3⟩:=K' (k,x) (by simpa using z);have a1:=(kY h1).2;have a2:=(kY h2).2;rw[e1]at a1;rw[e2]at a2;cases a1;cases a2;exact e3
 have La:∀e∈tab,∃f fd,e_ K (tab.map (·.x)) e.x=some f/\Fun K e.x e.x e.st f fd/\Binds K fd (argNames (qt e.st)) []/\cR K (.ref f)=true/\mg e.x=some (.ref f):=λe hm=>by
  obtain⟨⟨f',d⟩,hb⟩:=he e hm;obtain⟨fd,F⟩:=d.fn;exact⟨f',fd,iI d.a (by simpa using aU.mpr ⟨e,hm,rfl⟩),F,F.binds hb,d.k,PySem.W.mg_of X N d.a⟩
 have L7:∀e∈tab,(prT tab vals dz subs).fns e.x=some e.fn:=λe hm=>by show (tab.find? (·.x==e.x)).map (·.fn)=_;rw[tL Hj hm];rfl
 have gl:∀x k,oth.lookup x=some k->GM0 (prT tab vals dz subs) (gOf K (tab.map (·.x)) cls) mg x k:=λx k hk=>by
  have:=ho x k hk;cases k with
  |fn fr=>exact absurd hk (LY x fr)
  |val=>obtain⟨u,v,d,h1,h2,h3,h4⟩:=this;exact⟨u,v,d,PySem.W.mg_of X N h1,h2,h3,λH=>h4 _ H rfl⟩
  |bi b=>exact⟨dG X N this.1,this.2⟩
  |rng=>exact⟨dG X N this.1,this.2⟩
  |enum=>exact⟨dG X N this.1,this.2⟩
  |zip=>exact⟨dG X N this.1,this.2⟩
  |isi=>exact⟨dG X N this.1,this.2⟩
  |ty n b=>exact⟨dG X N this.1,this.2⟩
  |exc=>obtain⟨C,h1,h2⟩:=this;exact⟨C,PySem.W.mg_of X N h1,iI h1 (HV x (.inl hk)),h2⟩
  |exk=>obtain⟨C,h1⟩:=this;exact⟨C,PySem.W.mg_of X N h1,iI h1 (HV x (.inr hk))⟩
  |set=>exact⟨dG X N this.1,this.2⟩
  |rvd=>exact⟨dG X N this.1,this.2⟩
 refine⟨λx f hf=>?_,λx k hx=>?_,λx k hx=>?_,λx k hx=>?_,λk cl b z=>?_,Iz⟩
 ·obtain⟨h1,h2⟩:=kY hf;obtain⟨e,hm,rfl⟩:=aU.mp (by simpa using h1:x∈tab.map (·.x));obtain⟨f',fd,z1,z2,z3,z4,z5⟩:=La e hm;have hf:e_ K (tab.map (·.x)) e.x=some f:=hf;rw[hf]at z1;cases z1;exact⟨e.st,e.own,e.fr,fd,e.fn,L7 e hm,hc e hm,z2,z3,z4,z5,Ny e hm⟩
 ·rcases lk x k hx with ⟨e,hm,rfl,rfl⟩|hk
  ·obtain⟨f',fd,z1,_⟩:=La e hm;exact⟨f',z1⟩
  ·exact gl x k hk
 ·obtain⟨k0,h1,rfl⟩:=sE hx;have:=gl x k0 h1;cases k0 with
  |fn fr=>exact absurd h1 (LY x fr)
  |exc=>obtain⟨C,z1,z2,_⟩:=this;exact⟨by simp[unx],by simp[unx],⟨C,z1,z2⟩⟩
  |_=>exact⟨by simp[unx],by simp[unx],this⟩
 ·rcases p6 hx with ⟨e,hm,rfl,rfl⟩|hk
  ·obtain⟨f',fd,z1,z2,z3,z4,z5⟩:=La e (Hb e hm);exact .inr ⟨e.fr,f',e.st,e.own,fd,e.fn,rfl,z1,L7 e (Hb e hm),Nx e hm,z2,z3,z4,z5⟩
  ·exact .inl hk
 ·have z:subs.lookup (k,cl)=some b:=z;obtain⟨C,cv,h0,h1,h2,h3,h4⟩:=FK _ (tX z);refine⟨C,cv,iI h1 h0,h2,h3,?_⟩;cases cl with
  |ty n=>exact h4
  |ex x=>obtain⟨D,d0,d1,d2⟩:=h4;exact⟨D,iI d1 d0,d2⟩
theorem E5{l:PySem.W.OpenLaw}{q:aF}{loose:List Str}{XP:(Str->Option ae)->Heap->Prop}{YP:aD->Heap->Prop}{d:DefRec}{K:Params->aB}{tab:List Ent}{G:List (Str×GK)}{vals:List (Str×D)}{cls:List Str}{dz:List (Str×Str)}{subs:List ((Str×Cl)×Bool)}{GH GU:List (Str×GK)}{e:Ent}{k:Nat}
  (hn:l.most=some 63) (HP:d.params.defaults=[]) (hd:d.name=e.x) (hr:cC k callerA) (hY:∀(w:aD) (h:Heap),YP w h->(K w.params).In h) (hm:e∈tab) (Hj:(tab.map (·.x)).Nodup) (hx:e.x = "law") (G3:e.fr=false) (hp:argNames (qt e.st)=[("_law_script" : Str)])
  (hG:∀(w:aD) (mg:Str->Option ae) (h:Heap),(K w.params).In h->h.Ns ar mg->Ground (prT tab vals dz subs) (gOf (K w.params) (tab.map (·.x)) cls) G GH GU mg/\jd (K w.params) G e) (hc:cFn G GH e.own e.fr e.st=some e.fn)
  (Lb:∀ns:List Int,ns.length<=63->qa (prT tab vals dz subs) k "law" [.lst (ns.map D.int)]=.ok (.bl true)) :
  PySem.W.WalkO q loose XP YP l.row.toRowW d [] (λf vs=>PySem.call f vs):=by
 refine L2.DQ (n:=63) (k:=k) (x:="_law_script") (CX:=λw=>CX1 l.prog w) (sp:=λw=>spF (wAt (prT tab vals dz subs) k) (gOf (K w.params) (tab.map (·.x)) cls) "law" false) hn (by decide) HP hr hY (λw mg fa h KX N Iy=>?_) (λw H a ns hl _ hS=>?_) λw H s e s' z=>?_
 ·obtain⟨T,⟨f,dd⟩,hb⟩:=hG w mg h KX N;have e1:=Iy.symm.trans (hd▸PySem.W.mg_of KX N dd.a);cases e1;obtain⟨oc,od,an,sl,kV,dc,pm,cd,ct,lk,Gq⟩:=dd.l;refine⟨cm e.x e.x (qt e.st) (dQ e.st) (qr e.st) .none kV dc pm an cd ct,λs u=>.of_eq ?_,λbase _ _=>?_⟩
  ·have:=hb kV dc pm an cd ct [u] (by rw[hp];rfl);rw[hp]at this;exact this
  ·have:=T.ok (P:=l.prog) (wl:=w) (base:=base) k e.x fa e.st e.own e.fr _ e.fn (by show (tab.find? (·.x==e.x)).map (·.fn)=_;rw[tL Hj hm];rfl) hc (rS (st:=e.st) lk Gq dd.k);rw[hp,hx,G3]at this;rw[hx];exact this
 ·refine⟨⟨λ_=>false,λ_=>false,[],λ_=>none⟩,[.lst (ns.map D.int)],(λa z=>by rcases z with z|z<;>cases z),.cons (.lst (xs:=ns.map V.int) ?_ (qy.ofInts _)) .nil,?_⟩
  ·have:hid H ⟨λ_=>false,λ_=>false,[],λ_=>none⟩=H:=by funext b;unfold hid;rw[if_neg (by simp)]
   rw[this];exact hS
  ·show tR _ _ _ (qa (prT tab vals dz subs) k "law" [.lst (ns.map D.int)]) _;rw[Lb ns hl];intro v H' _ r _;cases r;rfl
 ·obtain⟨_,_,_,_,_,_,_,_,_,z⟩:=z;exact z
end EV
namespace KG
open EV
open PySem (Str)
open L2 (atI ixN ltP)
abbrev prD:Int×Int->D:=EV.pairD
theorem qi{w:W}{f:Fn}{ds:List D}{d:D}{τ:Env}(hl:ds.length=f.ps)(hτ:ds.map some++cb (f.N-f.ps) none=τ)(h:qe w f.body τ=.rt d):zE w f ds=.ok d:=by
 rw[zE,if_pos hl,hτ,h]
theorem cK{w:W}{s:S}{r:Ss}{τ σ:Env}{o:O}(h:evS w s τ=.nx σ)(h':qe w r σ=o):qe w (.cons s r) τ=o:=by rw[qe,h];exact h'
theorem Bk{w:W}{tg:Tg}{it:It}{b r:Ss}{τ:Env}{o:O}{ds:List D}(I:List D->Env->Prop)(h:evI w it τ=.ok ds)(h0:I ds τ)
  (hs:∀x t σ,I (x::t) σ->∃σ1 σ2,store tg x σ=.ok σ1/\qe w b σ1=.nx σ2/\I t σ2) (hn:∀σ,I [] σ->qe w r σ=o):qe w (.cons (.for tg it b) r) τ=o:=by
 have key:∀(l:List D) (σ:Env),I l σ->∃σ',dM tg (λσ=>qe w b σ) l σ=.nx σ'/\I [] σ':=by
  intro l
  induction l with
  |nil=>intro σ q;exact⟨σ,rfl,q⟩
  |cons x t ih=>
   intro σ q;obtain⟨σ1,σ2,a,b',c⟩:=hs x t σ q;obtain⟨σ',d,e⟩:=ih σ2 c;exact⟨σ',by rw[dM,a];simp only[R.out_ok];rw[b'];exact d,e⟩
 obtain⟨σ',a,b'⟩:=key ds τ h0;rw[qe,zY,h];simp only[R.out_ok];rw[a];exact hn σ' b'
theorem fL{w:W}{it:It}{cap:List (Option Nat)}{t:T}{elt:E}{τ c:Env}{ds:List D}{g:D->List D}(h:evI w it τ=.ok ds)(hz:ds.length<=SZ)(hc:dY cap τ=none::none::c)
  (hb:∀x∈ds,((evT w t (none::some x::c)).bind λr=>if r then (evE w elt (none::some x::c)).bind λd=>.ok [d]else .ok [])=.ok (g x)):evE w (.comp it cap (.nm 1) t elt) τ=.ok (.lst (ds.flatMap g)):=by
 have key:∀(l:List D) (v:Option D) (acc:List D),(∀x∈l,x∈ds)->cH (λx σ=>noEx ((store (.nm 1) x σ).bind λσ'=>(evT w t σ').bind λr=>if r then (evE w elt σ').bind λd=>.ok (σ',[d])else .ok (σ',[]))) l (none::v::c) acc=.ok (acc++l.flatMap g):=by
  intro l
  induction l with
  |nil=>intro v acc _;simp[cH]
  |cons x r ih=>
   intro v acc hm;have q:=hb x (hm x aM);rw[cH];have e:noEx ((store (.nm 1) x (none::v::c)).bind λσ'=>(evT w t σ').bind λr=>if r then (evE w elt σ').bind λd=>.ok (σ',[d])else .ok (σ',[]))=.ok (none::some x::c,g x):=by
    simp only[store,R.bind_ok,List.set_cons_succ,List.set_cons_zero];cases ht:evT w t (none::some x::c)with
    |ok b=>
     rw[ht]at q;simp only[R.bind_ok]at q ⊢;cases b
     ·simp at q ⊢;rw[<-q];rfl
     ·simp only[if_true]at q ⊢;cases he:evE w elt (none::some x::c)with
      |ok d=>rw[he]at q;simp only[R.bind_ok,R.ok.injEq]at q ⊢;rw[<-q];rfl
      |ex=>rw[he]at q;cases q
      |no=>rw[he]at q;cases q
    |ex=>rw[ht]at q;cases q
    |no=>rw[ht]at q;cases q
   rw[e];simp only[R.bind_ok];rw[ih (some x) _ λy hy=>hm y (aR _ hy),ee,bz]
 rw[qA,h];simp only[R.bind_ok];rw[if_neg (by lia),hc,key ds none [] λ_ h=>h]
 rfl
theorem En{w:W}{i:Int}:dD w (.int i) (.ty "int")=.ok (.bl true):=rfl
theorem Cf{w:W}{i:Int}:dD w (.int i) (.ty "bool")=.ok (.bl false):=rfl
theorem uW{w:W}{i:List D}:dD w (.tup i) (.ty "tuple")=.ok (.bl true):=rfl
theorem yO{w:W}{i:List D}:dD w (.tup i) (.ty "bool")=.ok (.bl false)/\dD w (.tup i) (.ty "int")=.ok (.bl false)/\dD w (.tup i) (.ty "str")=.ok (.bl false)/\dD w (.tup i) (.ty "list")=.ok (.bl false):=⟨rfl,rfl,rfl,rfl⟩
theorem wU{w:W}{i:Bool}:dD w (.bl i) (.ty "bool")=.ok (.bl true):=rfl
theorem Bb(i:Int):(D.int i).asks=true:=rfl
theorem uO(t:Int×Int):(prD t).asks=true:=rfl
theorem nM:∀ns:List Int,plainAll (ns.map D.int)=true
 | []=>rfl
 |_::r=>nM r
theorem tj:∀ns:List Int,fZ (ns.map D.int)=0
 | []=>rfl
 |_::r=>by show max 0 (fZ _)=0;rw[tj r];rfl
theorem yw(ns:List Int):(D.tup (ns.map D.int)).asks=true:=by
 simp[D.asks,D.plain,D.deep,nM,tj]
noncomputable def mn(a b:Int):Int:=if b<a then b else a
noncomputable def mx(a b:Int):Int:=if a<b then b else a
noncomputable def cV(ts:List (Int×Int))(a b:Int):Bool:=ts.any λt=>t.1==mn a b&&t.2==mx a b
theorem Ez(ts:List (Int×Int))(u v:Int):qm .isin (.tup [.int u,.int v]) (.tup (ts.map prD))=.ok (ts.any λt=>t.1==u&&t.2==v):=by
 simp only[zS,zg,zr,zl,zR,zT,zQ];simp only[seq?];rw[if_pos (by simp only[aW,cQ,aU];exact⟨rfl,λx ⟨t,_,e⟩=>e▸uO t⟩),inD,List.any_map]
 congr 2;funext t;show ((t.1==u)&&((t.2==v)&&true))=_;rw[Bool.and_true]
theorem o5(ns:List Int)(a:Int):qm .isin (.int a) (.tup (ns.map D.int))=.ok (ns.any λt=>t==a):=by
 simp only[zS,zg,zr,zl,zR,zT,zQ];simp only[seq?];rw[if_pos (by simp only[aW,cQ,aU];exact⟨rfl,λx ⟨t,_,e⟩=>e▸Bb t⟩),inD,List.any_map]
 rfl
structure GW(m:Int)(ts:List (Int×Int)):Prop where
 lo:1<=m
 hi:m<=8
 lt:ts.Pairwise λs t=>ltP s t=true
 ok:∀t∈ts,0<=t.1/\t.1<t.2/\t.2<m
 len:ts.length<=28
structure GS(m:Int)(s:List Int):Prop where
 lt:s.Pairwise (· < ·)
 ok:∀i∈s,0<=i/\i<m
 len:s.length<=8
abbrev wb(m:Int)(ts:List (Int×Int)):D:=.tup [.int m,.tup (ts.map prD)]
abbrev tu(s:List Int):D:=.tup (s.map D.int)
theorem fW{xs:List D}{i:Nat}(h:i<xs.length):atI xs (i:Int)=some xs[i]:=by
 rw[atI,ixN,if_pos (by lia),if_pos (by lia)];simp[h]
theorem all_true(xs:List D):bools? (xs.flatMap λ_=>[.bl true])=some (cb xs.length true):=by
 induction xs with
 |nil=>rfl
 |cons x r ih=>show (bools? (r.flatMap λ_=>[.bl true])).map (true :: ·)=_;rw[ih];rfl
theorem E4(n:Nat):(cb n true).all id=true:=by simp
theorem y7{s t:Int×Int}(h:ltP s t=true):qm .lt (prD s) (prD t)=.ok true:=by
 show R.ok (dE [s.1,s.2] [t.1,t.2])=_;rw[ltP]at h;simp only[dE];by_cases e:s.1=t.1
 ·rw[if_pos e]at h ⊢;by_cases e2:s.2=t.2
  ·rw[e2]at h;simp at h
  ·rw[if_neg e2,h]
 ·rw[if_neg e]at h ⊢;rw[h]
noncomputable def rng(m:Int):List Int:=(bW m.toNat).map λ(i:Nat)=>(i:Int)
theorem zZ(m:Int):dA 0 m.toNat=(rng m).map D.int:=by
 rw[dA,rng,ck];simp
theorem zp(m:Int):(rng m).length=m.toNat:=by simp[rng]
theorem b7{m i:Int}:i∈rng m↔0<=i/\i<m:=by
 simp only[rng,aU,List.mem_range];constructor
 ·rintro⟨a,h,rfl⟩;lia
 ·intro h;exact⟨i.toNat,by lia,by lia⟩
theorem ft(m:Int):(rng m).Pairwise (· < ·):=by
 rw[rng,List.pairwise_map];exact List.pairwise_lt_range.imp λh=>by lia
theorem sj(c:Int->Bool)(ns:List Int):(ns.map D.int).flatMap (λx=>match x with | .int i=>if c i then [D.int i]else []|_=>[])=(ns.filter c).map D.int:=by
 induction ns with
 |nil=>rfl
 |cons a r ih=>
  rw[aN,ee,ih,List.filter_cons];show (if c a=true then [D.int a]else [])++_=_;cases c a<;>rfl
theorem uq(x y:Int)(h:0<y)(h':y<=2^64):small (x%y)=true:=by
 have a:=Int.emod_nonneg x (show y≠0 by lia);have b:=Int.emod_lt_of_pos x h;simp only[small,aW,decide_eq_true_eq];lia
noncomputable def st(c j:Int):Int:=
 ((((c%2147483647+977 * j+1) * 48271%2147483647) * ((c%2147483647+977 * j+1) * 48271%2147483647)%2147483629+40692 * (j+3)) * 69621%2147483647)/8
theorem GW.sub{m:Int}{ts ps:List (Int×Int)}(h:GW m ps)(s:ts.Sublist ps):GW m ts:=
 ⟨h.lo,h.hi,h.lt.sublist s,λt ht=>h.ok t (s.subset ht),bB s.length_le h.len⟩
theorem eq_int(a b:Int):qm .eq (.int a) (.int b)=.ok (decide (a=b)):=by
 show R.ok (a==b)=_;congr 1
theorem lt_int(a b:Int):qm .lt (.int a) (.int b)=.ok (decide (a<b)):=rfl
theorem ints_map(ns:List Int):ints? (ns.map D.int)=some ns:=by
 induction ns with
 |nil=>rfl
 |cons a r ih=>show (ints? (r.map D.int)).map (a :: ·)=_;rw[ih];rfl
theorem E7{f:Int->D}(ns:List Int):(ns.map D.int).flatMap (λx=>match x with | .int i=>[f i]|_=>[])=ns.map f:=by
 induction ns with
 |nil=>rfl
 |cons a r ih=>rw[aN,ee,ih];rfl
noncomputable instance (m:Int) (ts:List (Int×Int)):Decidable (GW m ts):=
 decidable_of_iff (1<=m/\m<=8/\ts.Pairwise (λs t=>ltP s t=true)/\(∀t∈ts,0<=t.1/\t.1<t.2/\t.2<m)/\ts.length<=28) ⟨λ⟨a,b,c,d,e⟩=>⟨a,b,c,d,e⟩,λ⟨a,b,c,d,e⟩=>⟨a,b,c,d,e⟩⟩
def Ends(J:Env->Prop)(Q:D->Prop):O->Prop
 | .nx σ=>J σ
 | .rt d=>Q d
 |_=>False
section
variable{w:W}{J K:Env->Prop}{Q:D->Prop}{s:S}{r:Ss}{τ σ:Env}
theorem eS(h:J τ):Ends J Q (qe w .nil τ):=by rw[qe];exact h
theorem zB(h:evS w s τ=.nx σ)(h':Ends J Q (qe w r σ)):Ends J Q (qe w (.cons s r) τ):=by rw[qe,h];exact h'
theorem pf(h:Ends K Q (evS w s τ))(h':∀σ,K σ->Ends J Q (qe w r σ)):Ends J Q (qe w (.cons s r) τ):=by
 rw[qe];cases q:evS w s τ with
 |nx σ=>rw[q]at h;exact h' σ h
 |rt d=>rw[q]at h;exact h
 |_=>rw[q]at h;exact h.elim
theorem jm{e:E}{d:D}(h:evE w e τ=.ok d)(hq:Q d):Ends J Q (qe w (.cons (.ret e) r) τ):=by
 rw[qe,zw,h];exact hq
theorem gq{tg:Tg}{it:It}{b:Ss}{ds:List D}(I:List D->Env->Prop)(h:evI w it τ=.ok ds)(h0:I ds τ)(hs:∀x t σ,I (x::t) σ->∃σ1,store tg x σ=.ok σ1/\Ends (I t) Q (qe w b σ1))(hn:∀σ,I [] σ->Ends J Q (qe w r σ)):Ends J Q (qe w (.cons (.for tg it b) r) τ):=by
 have key:∀(l:List D) (σ:Env),I l σ->Ends (I []) Q (dM tg (λσ=>qe w b σ) l σ):=by
  intro l
  induction l with
  |nil=>intro σ q;exact q
  |cons x t ih=>
   intro σ q;obtain⟨σ1,a,b'⟩:=hs x t σ q;rw[dM,a];simp only[R.out_ok];cases z:qe w b σ1 with
   |nx σ2=>rw[z]at b';exact ih σ2 b'
   |rt d=>rw[z]at b';exact b'
   |_=>rw[z]at b';exact b'.elim
 have hk:=key ds τ h0;refine pf (K:=I []) ?_ hn;rw[zY,h];simp only[R.out_ok];cases z:dM tg (λσ=>qe w b σ) ds τ with
 |nx σ2=>rw[z]at hk;exact hk
 |rt d=>rw[z]at hk;exact hk
 |_=>rw[z]at hk;exact hk.elim
end
theorem uz{s t:Int×Int}(h:ltP t s=false)(hn:s≠t):ltP s t=true:=by
 simp only[ltP]at h ⊢;by_cases e:s.1=t.1
 ·rw[if_pos e.symm]at h;rw[if_pos e];have:s.2≠t.2:=λz=>hn (Prod.ext e z)
  simp at h ⊢;lia
 ·rw[if_neg (λz=>e z.symm)]at h;rw[if_neg e];simp at h ⊢;lia
theorem oJ{l:List (Int×Int)}(h:l.Pairwise λa b=>ltP b a=false)(hn:l.Nodup):l.Pairwise λs t=>ltP s t=true:=
 List.Pairwise.imp₂ (λa b h1 h2=>uz h1 h2) h hn
theorem lK:∀ts:List (Int×Int),pairs? (ts.map prD)=some ts
 | []=>rfl
 |t::r=>by show (pairs? (r.map prD)).map (t :: ·)=_;rw[lK r];rfl
theorem lg(xs:List D):b1 .sorted [.lst xs]=(if xs.length<64 then (match ints? xs with
  |some ns=>.ok (.lst ((sortI ns).map D.int))
  |none=>match pairs? xs with
   |some ps=>.ok (.lst ((qq ps).map pairD))
   |none=>cJ xs)else cJ xs):=rfl
theorem vK(ts:List (Int×Int))(h:ts.length<64):b1 .sorted [.lst (ts.map prD)]=.ok (.lst ((qq ts).map prD)):=by
 rw[lg,if_pos (by simpa using h)];cases ts with
 |nil=>rfl
 |cons t r=>
  have e:ints? ((t::r).map prD)=none:=rfl;rw[e];simp only;rw[lK]
noncomputable def hd(m:Int)(ts:List (Int×Int))(a:Int):List Int:=(rng m).filter λb=>b==a||cV ts a b
noncomputable def mk(m:Int)(ts:List (Int×Int))(s:List Int)(a:Int):List Int:=s.filter λx=>(hd m ts a).any λt=>t==x
end KG
noncomputable def KG.Z:=aC @EV.qe.eq_1 (aC @EV.qe.eq_2 (aC @EV.zO (aC @EV.zW (aC @EV.cD (aC @EV.zw (aC @EV.cB (aC @EV.zP (aC @EV.zC (aC @EV.qZ (aC @EV.zh (aC @EV.zj (aC @EV.zi (aC @EV.ze (aC @EV.zk (aC @EV.qC (aC @EV.qL (aC @EV.qG (aC @EV.qJ (aC @EV.qO (aC @EV.qP (aC @EV.qK (aC @EV.qB (aC @EV.qN (aC @EV.qE (aC @EV.qx (aC @EV.qI (aC @EV.zo.eq_1 (aC @EV.zo.eq_2 (aC @EV.fD (aC @EV.fM (aC @EV.fg (aC @EV.fA (aC @EV.fG (aC @EV.fB (aC @EV.fI (aC @EV.evI.eq_1 (aC @EV.evI.eq_2 (aC @EV.evI.eq_3 (aC @EV.evI.eq_4 (aC @EV.evI.eq_5 (aC @EV.evO.eq_1 (aC @EV.evO.eq_2 (aC @EV.opI.eq_1 (aC @EV.opI.eq_2 (aC @EV.opI.eq_3 (aC @EV.opI.eq_4 (aC @EV.opI.eq_5 (aC @EV.opI.eq_6 (aC @EV.opI.eq_7 (aC @EV.opI.eq_8 (aC @EV.opI.eq_9 (aC @EV.opI.eq_10 (aC @EV.opI.eq_11 (aC @EV.b11.eq_1 (aC @EV.b11.eq_2 (aC @EV.b11.eq_3 (aC @EV.b11.eq_4 (aC @EV.b11.eq_5 (aC @EV.b11.eq_6 (aC @EV.b11.eq_7 (aC @EV.b11.eq_8 (aC @EV.b11.eq_9 (aC @EV.b11.eq_10 (aC @EV.b11.eq_11 (aC @EV.b11.eq_12 (aC @EV.b11.eq_13 (aC @EV.b11.eq_14 (aC @EV.b12.eq_1 (aC @EV.b12.eq_2 (aC @EV.b12.eq_3 (aC @EV.cW.eq_1 (aC @EV.cW.eq_2 (aC @EV.c_.eq_1 (aC @EV.c_.eq_2 (aC @EV.iiR.eq_1 (aC @EV.iiR.eq_2 (aC @EV.zu.eq_1 (aC @EV.store.eq_1 (aC @EV.store.eq_2 (aC @EV.store.eq_3 (aC @EV.setAll.eq_1 (aC @EV.setAll.eq_2 (aC @EV.setAll.eq_3 (aC @EV.truth.eq_1 (aC @EV.truth.eq_2 (aC @EV.truth.eq_3 (aC @EV.truth.eq_4 (aC @EV.truth.eq_5 (aC @EV.truth.eq_6 (aC @KG.En (aC @KG.Cf (aC @KG.uW (aC @KG.yO (@KG.wU))))))))))))))))))))))))))))))))))))))))))))))))))))))))))))))))))))))))))))))))))))))))))))))
namespace KG
open EV
open PySem (Str)
open L2 (atI ixN ltP)
noncomputable def ke:Fn:=⟨1,1,false,(.cons (.ret (.and (.isi (.var 0) (.ty "int")) (.not (.isi (.var 0) (.ty "bool"))))) .nil)⟩
noncomputable def zL:Fn:=⟨3,3,false,(.cons (.ret (.and (.call "is_whole" (.cons (.var 0) .nil)) (.cmp2 .le .le (.var 1) (.var 0) (.var 2)))) .nil)⟩
noncomputable def iy:Fn:=⟨1,1,false,(.cons (.ret (.and (.isi (.var 0) (.ty "tuple")) (.cmp .eq (.bi .len (.cons (.var 0) .nil)) (.con (.int 2))))) .nil)⟩
noncomputable def i6:Fn:=⟨1,1,false,(.cons (.ret (.bi .all (.cons (.comp (.rng (.op .sub (.bi .len (.cons (.var 0) .nil)) (.con (.int 1)))) [none,none,some 0] (.nm 1) .yes (.cmp .lt (.ix (.var 2) (.var 1)) (.ix (.var 2) (.op .add (.var 1) (.con (.int 1)))))) .nil))) .nil)⟩
noncomputable def fJ:Fn:=⟨1,3,false,(.cons (.ite (.not (.val (.call "is_pair" (.cons (.var 0) .nil)))) (.cons (.ret (.con (.bl false))) .nil) .nil) (.cons (.set (.tp [1,2]) (.var 0)) (.cons (.ite (.or (.not (.val (.call "is_between" (.cons (.var 1) (.cons (.con (.int 1)) (.cons (.glb "MOST") .nil)))))) (.not (.val (.isi (.var 2) (.ty "tuple"))))) (.cons (.ret (.con (.bl false))) .nil) .nil) (.cons (.ret (.and (.bi .all (.cons (.comp (.seq (.var 2)) [none,none,some 1] (.nm 1) .yes (.call "is_tie" (.cons (.var 1) (.cons (.var 2) .nil)))) .nil)) (.call "rises" (.cons (.var 2) .nil)))) .nil))))⟩
noncomputable def eJ:Fn:=⟨2,4,false,(.cons (.ite (.not (.val (.call "is_pair" (.cons (.var 0) .nil)))) (.cons (.ret (.con (.bl false))) .nil) .nil) (.cons (.set (.tp [2,3]) (.var 0)) (.cons (.ret (.and (.call "is_whole" (.cons (.var 2) .nil)) (.and (.call "is_whole" (.cons (.var 3) .nil)) (.cmp3 .le .lt .lt (.con (.int 0)) (.var 2) (.var 3) (.var 1))))) .nil)))⟩
noncomputable def gS:Fn:=⟨1,1,false,(.cons (.ite (.not (.val (.call "is_web" (.cons (.var 0) .nil)))) (.cons (.raise "NoWeb" (.cons (.con (.str "a web is due")) .nil)) .nil) .nil) .nil)⟩
noncomputable def gG:Fn:=⟨1,1,false,(.cons (.exp (.call "need_web" (.cons (.var 0) .nil))) (.cons (.ret (.bi .tuple (.cons (.comp (.rng (.ix (.var 0) (.con (.int 0)))) [none,none,some 0] (.nm 1) .yes (.call "hood_of" (.cons (.var 2) (.cons (.var 1) .nil)))) .nil))) .nil))⟩
noncomputable def fO:Fn:=⟨2,4,false,(.cons (.set (.tp [2,3]) (.var 0)) (.cons (.ret (.bi .tuple (.cons (.comp (.rng (.var 2)) [none,none,some 1,some 3] (.nm 1) (.or (.cmp .eq (.var 1) (.var 2)) (.val (.call "are_tied" (.cons (.var 3) (.cons (.var 2) (.cons (.var 1) .nil)))))) (.var 1)) .nil))) .nil))⟩
noncomputable def fq:Fn:=⟨3,3,false,(.cons (.ret (.cmp .isin (.tup (.cons (.bi .min (.cons (.var 1) (.cons (.var 2) .nil))) (.cons (.bi .max (.cons (.var 1) (.cons (.var 2) .nil))) .nil))) (.var 0))) .nil)⟩
noncomputable def i8:Fn:=⟨2,2,false,(.cons (.ret (.bi .tuple (.cons (.comp (.seq (.var 1)) [none,none,some 0] (.nm 1) (.cmp .isin (.var 1) (.var 2)) (.var 1)) .nil))) .nil)⟩
noncomputable def iC:Fn:=⟨2,2,false,(.cons (.ret (.comp (.seq (.var 0)) [none,none,some 1] (.nm 1) .yes (.call "mark_of" (.cons (.var 1) (.cons (.var 2) .nil))))) .nil)⟩
noncomputable def gf:Fn:=⟨1,3,false,(.cons (.set (.nm 1) (.lst (.cons (.tup .nil) .nil))) (.cons (.for (.nm 2) (.rng (.ix (.var 0) (.con (.int 0)))) (.cons (.set (.nm 1) (.op .add (.var 1) (.comp (.seq (.var 1)) [none,none,some 2] (.nm 1) .yes (.op .add (.var 1) (.tup (.cons (.var 2) .nil)))))) .nil)) (.cons (.ret (.bi .sorted (.cons (.var 1) .nil))) .nil)))⟩
noncomputable def gP:Fn:=⟨1,2,false,(.cons (.set (.nm 1) (.call "hoods" (.cons (.var 0) .nil))) (.cons (.ret (.comp (.seq (.call "all_some" (.cons (.var 0) .nil))) [none,none,some 1] (.nm 1) (.cmp .notin (.tup .nil) (.call "marks_of" (.cons (.var 2) (.cons (.var 1) .nil)))) (.var 1))) .nil))⟩
noncomputable def jj:Fn:=⟨1,1,false,(.cons (.ret (.bi .len (.cons (.call "first_fewest" (.cons (.var 0) .nil)) .nil))) .nil)⟩
noncomputable def jh:Fn:=⟨1,1,false,(.cons (.ret (.ix (.call "all_fewest" (.cons (.var 0) .nil)) (.con (.int 0)))) .nil)⟩
noncomputable def jr:Fn:=⟨1,3,true,(.cons (.exp (.call "need_web" (.cons (.var 0) .nil))) (.cons (.set (.nm 1) (.call "all_holding" (.cons (.var 0) .nil))) (.cons (.set (.nm 2) (.bi .min (.cons (.comp (.seq (.var 1)) [none,none] (.nm 1) .yes (.bi .len (.cons (.var 1) .nil))) .nil))) (.cons (.ret (.comp (.seq (.var 1)) [none,none,some 2] (.nm 1) (.cmp .eq (.bi .len (.cons (.var 1) .nil)) (.var 2)) (.var 1))) .nil))))⟩
noncomputable def pT:Fn:=⟨2,2,false,(.cons (.ite (.cmp .lt (.var 1) (.bi .len (.cons (.var 0) .nil))) (.cons (.ret (.ix (.var 0) (.var 1))) .nil) .nil) (.cons (.ret (.con (.int 0))) .nil))⟩
noncomputable def zF:Fn:=⟨2,3,false,(.cons (.set (.nm 2) (.op .mod (.op .mul (.op .add (.op .add (.op .mod (.var 0) (.con (.int 2147483647))) (.op .mul (.con (.int 977)) (.var 1))) (.con (.int 1))) (.con (.int 48271))) (.con (.int 2147483647)))) (.cons (.set (.nm 2) (.op .mod (.op .mul (.var 2) (.var 2)) (.con (.int 2147483629)))) (.cons (.set (.nm 2) (.op .mod (.op .mul (.op .add (.var 2) (.op .mul (.con (.int 40692)) (.op .add (.var 1) (.con (.int 3))))) (.con (.int 69621))) (.con (.int 2147483647)))) (.cons (.ret (.op .fdiv (.var 2) (.con (.int 8)))) .nil))))⟩
noncomputable def rz:Fn:=⟨2,10,false,(.cons (.set (.nm 2) (.op .add (.con (.int 1)) (.op .mod (.var 0) (.var 1)))) (.cons (.set (.nm 3) (.op .fdiv (.var 0) (.var 1))) (.cons (.set (.nm 4) (.op .mod (.var 3) (.con (.int 6)))) (.cons (.set (.nm 5) (.lst .nil)) (.cons (.for (.nm 6) (.rng2 (.con (.int 1)) (.var 2)) (.cons (.for (.nm 7) (.rng (.var 6)) (.cons (.set (.nm 8) (.op .band (.op .shr (.op .fdiv (.var 3) (.con (.int 6))) (.op .add (.op .fdiv (.op .mul (.var 6) (.op .sub (.var 6) (.con (.int 1)))) (.con (.int 2))) (.var 7))) (.con (.int 1)))) (.cons (.ite (.cmp .eq (.var 4) (.con (.int 3))) (.cons (.set (.nm 8) (.op .fdiv (.op .mod (.call "_law_stir" (.cons (.var 0) (.cons (.op .add (.op .mul (.con (.int 8)) (.var 7)) (.var 6)) .nil))) (.con (.int 3))) (.con (.int 2)))) .nil) .nil) (.cons (.ite (.cmp .eq (.var 4) (.con (.int 4))) (.cons (.set (.nm 8) (.op .fdiv (.op .add (.op .mod (.call "_law_stir" (.cons (.var 0) (.cons (.op .add (.op .mul (.con (.int 8)) (.var 7)) (.var 6)) .nil))) (.con (.int 4))) (.con (.int 2))) (.con (.int 3)))) .nil) .nil) (.cons (.ite (.cmp .eq (.var 4) (.con (.int 5))) (.cons (.set (.nm 9) (.lst (.cons (.cmp .eq (.var 6) (.op .add (.var 7) (.con (.int 1)))) (.cons (.or (.cmp .eq (.var 6) (.op .add (.var 7) (.con (.int 1)))) (.cmp .eq (.op .sub (.var 6) (.var 7)) (.op .sub (.var 2) (.con (.int 1))))) (.cons (.cmp .eq (.var 7) (.con (.int 0))) (.cons (.con (.bl true)) (.cons (.and (.cmp .eq (.var 6) (.op .add (.var 7) (.con (.int 1)))) (.cmp .lt (.op .mod (.var 7) (.con (.int 3))) (.con (.int 2)))) .nil))))))) (.cons (.set (.nm 8) (.bi .int (.cons (.ix (.var 9) (.op .mod (.op .fdiv (.var 3) (.con (.int 6))) (.con (.int 5)))) .nil))) .nil)) .nil) (.cons (.ite (.cmp .eq (.var 8) (.con (.int 1))) (.cons (.app 5 (.tup (.cons (.var 7) (.cons (.var 6) .nil)))) .nil) .nil) .nil)))))) .nil)) (.cons (.ret (.tup (.cons (.var 2) (.cons (.bi .tuple (.cons (.bi .sorted (.cons (.own 5) .nil)) .nil)) .nil)))) .nil))))))⟩
noncomputable def Bg:Fn:=⟨1,4,false,(.cons (.set (.nm 1) (.comp (.rng (.ix (.var 0) (.con (.int 0)))) [none,none] (.nm 1) .yes (.op .shl (.con (.int 1)) (.var 1)))) (.cons (.for (.tp [2,3]) (.seq (.ix (.var 0) (.con (.int 1)))) (.cons (.seti 1 (.var 2) (.op .bor (.ix (.own 1) (.var 2)) (.op .shl (.con (.int 1)) (.var 3)))) (.cons (.seti 1 (.var 3) (.op .bor (.ix (.own 1) (.var 3)) (.op .shl (.con (.int 1)) (.var 2)))) .nil))) (.cons (.ret (.own 1)) .nil)))⟩
noncomputable def xQ:Fn:=⟨2,2,false,(.cons (.ret (.bi .tuple (.cons (.comp (.rng (.var 0)) [none,none,some 1] (.nm 1) (.cmp .eq (.op .band (.op .shr (.var 2) (.var 1)) (.con (.int 1))) (.con (.int 1))) (.var 1)) .nil))) .nil)⟩
noncomputable def mG:Fn:=⟨2,2,false,(.cons (.ret (.call "is_between" (.cons (.var 1) (.cons (.con (.int 0)) (.cons (.op .sub (.ix (.var 0) (.con (.int 0))) (.con (.int 1))) .nil))))) .nil)⟩
noncomputable def kL:Fn:=⟨2,2,false,(.cons (.ite (.not (.val (.isi (.var 1) (.ty "tuple")))) (.cons (.ret (.con (.bl false))) .nil) .nil) (.cons (.ret (.and (.bi .all (.cons (.comp (.seq (.var 1)) [none,none,some 0] (.nm 1) .yes (.call "is_place" (.cons (.var 2) (.cons (.var 1) .nil)))) .nil)) (.call "rises" (.cons (.var 1) .nil)))) .nil))⟩
noncomputable def rJ:Fn:=⟨2,2,false,(.cons (.ite (.not (.val (.call "is_some" (.cons (.var 0) (.cons (.var 1) .nil))))) (.cons (.raise "NoPlaces" (.cons (.con (.str "a rising tuple of places of the web is due")) .nil)) .nil) .nil) .nil)⟩
structure Web(p:Pr):Prop where
 is_whole:p.fns "is_whole" = some ke
 is_between:p.fns "is_between" = some zL
 is_pair:p.fns "is_pair" = some iy
 rises:p.fns "rises" = some i6
 is_web:p.fns "is_web" = some fJ
 is_tie:p.fns "is_tie" = some eJ
 need_web:p.fns "need_web" = some gS
 MOST:p.glb "MOST" = some (.int 8)
structure Base(p:Pr):Prop extends Web p where
 all_some:p.fns "all_some" = some gf
 _law_cell_at:p.fns "_law_cell_at" = some pT
 _law_stir:p.fns "_law_stir" = some zF
 _law_web:p.fns "_law_web" = some rz
 _law_some:p.fns "_law_some" = some xQ
structure nL(p:Pr):Prop where
 _law_cell_at:p.fns "_law_cell_at" = some pT
 _law_stir:p.fns "_law_stir" = some zF
 _law_web:p.fns "_law_web" = some rz
theorem Base.draw{p:Pr}(B:Base p):nL p:=⟨B._law_cell_at,B._law_stir,B._law_web⟩
structure Hds(p:Pr):Prop where
 hoods:p.fns "hoods" = some gG
 hood_of:p.fns "hood_of" = some fO
 are_tied:p.fns "are_tied" = some fq
structure Nbr(p:Pr):Prop where
 hoods:p.fns "hoods" = some gG
 hood_of:p.fns "hood_of" = some fO
 are_tied:p.fns "are_tied" = some fq
 mark_of:p.fns "mark_of" = some i8
 marks_of:p.fns "marks_of" = some iC
structure sZ(p:Pr):Prop extends Nbr p where
 _law_masks:p.fns "_law_masks" = some Bg
noncomputable instance {p:Pr}:CoeOut (Base p) (Web p):=⟨λb=>b.toWeb⟩
theorem Nbr.hds{p:Pr}(O:Nbr p):Hds p:=⟨O.hoods,O.hood_of,O.are_tied⟩
noncomputable instance {p:Pr}:CoeOut (Base p) (nL p):=⟨λb=>b.draw⟩
noncomputable instance {p:Pr}:CoeOut (Nbr p) (Hds p):=⟨λb=>b.hds⟩
noncomputable instance {p:Pr}:CoeOut (sZ p) (Nbr p):=⟨λb=>b.toNbr⟩
structure kP(p:Pr):Prop where
 is_place:p.fns "is_place" = some mG
 is_some:p.fns "is_some" = some kL
structure gL(p:Pr):Prop where
 is_place:p.fns "is_place" = some mG
 is_some:p.fns "is_some" = some kL
 need_some:p.fns "need_some" = some rJ
theorem gL.a{p:Pr}(b:gL p):kP p:=⟨b.is_place,b.is_some⟩
noncomputable instance {p:Pr}:CoeOut (gL p) (kP p):=⟨λb=>b.a⟩
section
variable{p:Pr}
theorem qc{k:Nat}{x:Str}{f:Fn}{ds:List D}(h:p.fns x=some f):qa p (k+1) x ds=zE ⟨qa p k,p.glb,p.sub,p.cat⟩ f ds:=by
 rw[qa,h]
theorem sh{k:Nat}{x:Str}{f:Fn}{ds:List D}{τ:Env}{Q:D->Prop}(hf:p.fns x=some f)(hl:ds.length=f.ps)(hτ:ds.map some++cb (f.N-f.ps) none=τ)(h:Ends (λ_=>False) Q (qe (wAt p k) f.body τ)):∃d,qa p (k+1) x ds=.ok d/\Q d:=by
 rw[qc hf,zE,if_pos hl,hτ];cases z:qe ⟨qa p k,p.glb,p.sub,p.cat⟩ f.body τ with
 |rt d=>rw[z]at h;exact⟨d,rfl,h⟩
 |nx _=>rw[z]at h;exact h.elim
 |_=>rw[z]at h;exact h.elim
section
variable(B:Web p)
include B
theorem is_whole{k:Nat}(i:Int):qa p (k+1) "is_whole" [.int i]=.ok (.bl true):=by rw[qc B.is_whole];rfl
theorem is_between{k:Nat}(i a b:Int)(h:a<=i/\i<=b):qa p (k+2) "is_between" [.int i,.int a,.int b]=.ok (.bl true):=by
 rw[qc B.is_between];refine qi rfl rfl ?_;simp[KG.Z,zL,is_whole B,qm,j9,h.1,h.2]
theorem is_pair{k:Nat}(a b:D):qa p (k+1) "is_pair" [.tup [a,b]]=.ok (.bl true):=by
 rw[qc B.is_pair];refine qi rfl rfl ?_;simp[KG.Z,iy,b1,seq?,qm,D.asks,D.plain,D.deep,D.eqv]
theorem is_tie{k:Nat}(a b m:Int)(h:0<=a/\a<b/\b<m):qa p (k+2) "is_tie" [.tup [.int a,.int b],.int m]=.ok (.bl true):=by
 rw[qc B.is_tie];refine qi rfl rfl ?_;simp[KG.Z,eJ,is_pair B,is_whole B,qm,j9,h.1,h.2.1,h.2.2]
theorem rises{k:Nat}(xs:List D)(hz:xs.length<=28)(h:∀(i:Nat) (q:i+1<xs.length),qm .lt xs[i] xs[i+1]=.ok true):qa p (k+1) "rises" [.tup xs]=.ok (.bl true):=by
 rw[qc B.rises];refine qi rfl rfl ?_;have hr:qD ((xs.length:Int)-1)=true:=by simp[qD];lia
 have hc:evE ⟨qa p k,p.glb,p.sub,p.cat⟩ (.comp (.rng (.op .sub (.bi .len (.cons (.var 0) .nil)) (.con (.int 1)))) [none,none,some 0] (.nm 1) .yes (.cmp .lt (.ix (.var 2) (.var 1)) (.ix (.var 2) (.op .add (.var 1) (.con (.int 1)))))) [some (.tup xs)]=.ok (.lst ((dA 0 ((xs.length:Int)-1).toNat).flatMap λ_=>[.bl true])):=by
  refine fL (c:=[some (.tup xs)]) ?_ ?_ rfl ?_
  ·simp[KG.Z,b1,seq?,op2,hr]
  ·simp[dA,SZ];lia
  ·intro x hx;simp only[dA,aU,List.mem_range]at hx;obtain⟨i,hi,rfl⟩:=hx;have e1:atI xs ((0:Int)+(i:Int))=some xs[i]:=by rw[Int.zero_add];exact fW (by lia)
   have e2:atI xs ((0:Int)+(i:Int)+1)=some xs[i+1]:=by rw[Int.zero_add];exact fW (i:=i+1) (by lia)
   have e3:=h i (by lia);simp only[Int.zero_add]at e1 e2;simp[KG.Z,ixD,op2,e1,e2,e3]
 simp[KG.Z,i6,hc,b1,all_true,E4]
theorem is_web{k:Nat}{m:Int}{ts:List (Int×Int)}(h:GW m ts):qa p (k+3) "is_web" [wb m ts]=.ok (.bl true):=by
 rw[qc B.is_web];refine qi rfl rfl ?_;have hr:=rises B (k:=k+1) (ts.map prD) (by simpa using h.len) (λi q=>by
  rw[List.getElem_map,List.getElem_map];exact y7 (List.pairwise_iff_getElem.mp h.lt i (i+1) (by simp at q;lia) (by simpa using q) (by lia)))
 have hc:evE ⟨qa p (k+2),p.glb,p.sub,p.cat⟩ (.comp (.seq (.var 2)) [none,none,some 1] (.nm 1) .yes (.call "is_tie" (.cons (.var 1) (.cons (.var 2) .nil)))) [some (wb m ts),some (.int m),some (.tup (ts.map prD))]=.ok (.lst ((ts.map prD).flatMap λ_=>[.bl true])):=by
  refine fL (c:=[some (.int m)]) ?_ ?_ rfl ?_
  ·simp[KG.Z,seq?]
  ·simp[SZ];have:=h.len;lia
  ·intro x hx;rw[aU]at hx;obtain⟨t,ht,rfl⟩:=hx;have e:=is_tie B (k:=k) t.1 t.2 m (h.ok t ht);have e':qa p (k+2) "is_tie" [prD t,.int m]=.ok (.bl true):=e;simp[KG.Z,e']
 simp[KG.Z,fJ,is_pair B,is_between B m 1 8 ⟨h.lo,h.hi⟩,B.MOST,hc,b1,all_true,hr]
theorem need_web{k:Nat}{m:Int}{ts:List (Int×Int)}(h:GW m ts):qa p (k+4) "need_web" [wb m ts]=.ok .non:=by
 rw[qc B.need_web];simp only[zE];simp[KG.Z,gS,is_web B h]
end
theorem kQ(hf:p.fns "_law_stir" = some zF){k:Nat}(c j:Int):qa p (k+1) "_law_stir" [.int c,.int j]=.ok (.int (st c j)):=by
 have s1:small 977=true:=by decide
 have s2:small 48271=true:=by decide
 have s3:small 40692=true:=by decide
 have s4:small 69621=true:=by decide
 have s5:=uq ((c%2147483647+977 * j+1) * 48271) 2147483647 (by decide) (by decide);rw[qc hf];refine qi rfl rfl ?_;simp[KG.Z,zF,op2,s1,s2,s3,s4,s5,st]
section
variable(B:Base p)
include B
end
section
variable(B:Web p)(S:kP p)
include B S
theorem is_place{k:Nat}(i m:Int)(t:D)(h:0<=i/\i<m):qa p (k+3) "is_place" [.tup [.int m,t],.int i]=.ok (.bl true):=by
 rw[qc S.is_place];refine qi rfl rfl ?_;simp[KG.Z,mG,ixD,atI,ixN,op2,is_between B i 0 (m-1) (by lia)]
theorem is_some{k:Nat}{m:Int}{t:D}{s:List Int}(h:GS m s):qa p (k+4) "is_some" [.tup [.int m,t],tu s]=.ok (.bl true):=by
 rw[qc S.is_some];refine qi rfl rfl ?_;have hr:=rises B (k:=k+2) (s.map D.int) (by simp;have:=h.len;lia) (λi q=>by
  rw[List.getElem_map,List.getElem_map];have:=List.pairwise_iff_getElem.mp h.lt i (i+1) (by simp at q;lia) (by simpa using q) (by lia);simp[qm,j9,this])
 have hc:evE ⟨qa p (k+3),p.glb,p.sub,p.cat⟩ (.comp (.seq (.var 1)) [none,none,some 0] (.nm 1) .yes (.call "is_place" (.cons (.var 2) (.cons (.var 1) .nil)))) [some (.tup [.int m,t]),some (tu s)]=.ok (.lst ((s.map D.int).flatMap λ_=>[.bl true])):=by
  refine fL (c:=[some (.tup [.int m,t])]) ?_ ?_ rfl ?_
  ·simp[KG.Z,seq?]
  ·simp[SZ];have:=h.len;lia
  ·intro x hx;rw[aU]at hx;obtain⟨i,hi,rfl⟩:=hx;simp[KG.Z,is_place B S i m t (h.ok i hi)]
 simp[KG.Z,kL,hc,b1,all_true,hr]
omit S in
theorem need_some(S:gL p){k:Nat}{m:Int}{t:D}{s:List Int}(h:GS m s):qa p (k+5) "need_some" [.tup [.int m,t],tu s]=.ok .non:=by
 rw[qc S.need_some];simp only[zE];simp[KG.Z,rJ,is_some B S h]
end
theorem sQ(hA:p.fns "are_tied" = some fq){k:Nat}(ts:List (Int×Int))(a b:Int):qa p (k+1) "are_tied" [.tup (ts.map prD),.int a,.int b]=.ok (.bl (cV ts a b)):=by
 rw[qc hA];refine qi rfl rfl ?_;simp[KG.Z,fq,b1,Ez,cV,mn,mx]
theorem oG(hH:p.fns "hood_of" = some fO)(hA:p.fns "are_tied" = some fq){k:Nat}{m:Int}{ts:List (Int×Int)}(h:GW m ts)(a:Int):qa p (k+2) "hood_of" [wb m ts,.int a]=.ok (tu (hd m ts a)):=by
 rw[qc hH];refine qi rfl rfl ?_;have h1:=h.lo;have h2:=h.hi;have hc:evE ⟨qa p (k+1),p.glb,p.sub,p.cat⟩ (.comp (.rng (.var 2)) [none,none,some 1,some 3] (.nm 1) (.or (.cmp .eq (.var 1) (.var 2)) (.val (.call "are_tied" (.cons (.var 3) (.cons (.var 2) (.cons (.var 1) .nil)))))) (.var 1)) [some (wb m ts),some (.int a),some (.int m),some (.tup (ts.map prD))]=.ok (.lst ((hd m ts a).map D.int)):=by
  rw[hd,<-sj,<-zZ];refine fL (c:=[some (.int a),some (.tup (ts.map prD))]) ?_ ?_ rfl ?_
  ·have:qD m=true:=by simp[qD];lia
   simp[KG.Z,this]
  ·simp[dA,SZ];lia
  ·intro x hx;rw[zZ,aU]at hx;obtain⟨b,hb,rfl⟩:=hx;have e:qm .eq (.int b) (.int a)=.ok (b==a):=rfl;simp[KG.Z,e,sQ hA];by_cases q:b=a
   ·simp[q]
   ·simp[q];cases cV ts a b<;>simp
 simp[KG.Z,fO,hc,b1,seq?]
section
variable(B:Web p)(O:Hds p)
include O
theorem are_tied{k:Nat}(ts:List (Int×Int))(a b:Int):qa p (k+1) "are_tied" [.tup (ts.map prD),.int a,.int b]=.ok (.bl (cV ts a b)):=sQ O.are_tied ts a b
theorem hood_of{k:Nat}{m:Int}{ts:List (Int×Int)}(h:GW m ts)(a:Int):qa p (k+2) "hood_of" [wb m ts,.int a]=.ok (tu (hd m ts a)):=oG O.hood_of O.are_tied h a
include B
theorem hoods{k:Nat}{m:Int}{ts:List (Int×Int)}(h:GW m ts):qa p (k+5) "hoods" [wb m ts]=.ok (.tup ((rng m).map λa=>tu (hd m ts a))):=by
 rw[qc O.hoods];refine qi rfl rfl ?_;have h1:=h.lo;have h2:=h.hi;have hc:evE ⟨qa p (k+4),p.glb,p.sub,p.cat⟩ (.comp (.rng (.ix (.var 0) (.con (.int 0)))) [none,none,some 0] (.nm 1) .yes (.call "hood_of" (.cons (.var 2) (.cons (.var 1) .nil)))) [some (wb m ts)]=.ok (.lst ((rng m).map λa=>tu (hd m ts a))):=by
  rw[<-E7,<-zZ];refine fL (c:=[some (wb m ts)]) ?_ ?_ rfl ?_
  ·have:qD m=true:=by simp[qD];lia
   simp[KG.Z,this,ixD,atI,ixN]
  ·simp[dA,SZ];lia
  ·intro x hx;rw[zZ,aU]at hx;obtain⟨b,hb,rfl⟩:=hx;simp[KG.Z,hood_of O h]
 simp[KG.Z,gG,need_web B h,hc,b1,seq?]
end
section
variable(O:Nbr p)
include O
theorem mark_of{k:Nat}(n s:List Int)(hz:s.length<=8):qa p (k+1) "mark_of" [tu n,tu s]=.ok (tu (s.filter λx=>n.any λt=>t==x)):=by
 rw[qc O.mark_of];refine qi rfl rfl ?_;have hc:evE ⟨qa p k,p.glb,p.sub,p.cat⟩ (.comp (.seq (.var 1)) [none,none,some 0] (.nm 1) (.cmp .isin (.var 1) (.var 2)) (.var 1)) [some (tu n),some (tu s)]=.ok (.lst ((s.filter λx=>n.any λt=>t==x).map D.int)):=by
  rw[<-sj];refine fL (c:=[some (tu n)]) ?_ ?_ rfl ?_
  ·simp[KG.Z,seq?]
  ·simp[SZ];lia
  ·intro x hx;rw[aU]at hx;obtain⟨b,hb,rfl⟩:=hx;simp[KG.Z,o5];by_cases q:b∈n<;>simp[q]
 simp[KG.Z,i8,hc,b1,seq?]
theorem marks_of{k:Nat}(ns:List Int)(f:Int->List Int)(s:List Int)(hz:s.length<=8)(hn:ns.length<=8):qa p (k+2) "marks_of" [.tup (ns.map λa=>tu (f a)),tu s]=.ok (.lst (ns.map λa=>tu (s.filter λx=>(f a).any λt=>t==x))):=by
 rw[qc O.marks_of];refine qi rfl rfl ?_;have hc:evE ⟨qa p (k+1),p.glb,p.sub,p.cat⟩ (.comp (.seq (.var 0)) [none,none,some 1] (.nm 1) .yes (.call "mark_of" (.cons (.var 1) (.cons (.var 2) .nil)))) [some (.tup (ns.map λa=>tu (f a))),some (tu s)]=.ok (.lst ((ns.map λa=>tu (f a)).flatMap λx=>match qa p (k+1) "mark_of" [x,tu s]with | .ok d=>[d]|_=>[])):=by
  refine fL (c:=[some (tu s)]) ?_ ?_ rfl ?_
  ·simp[KG.Z,seq?]
  ·simp[SZ];lia
  ·intro x hx;rw[aU]at hx;obtain⟨b,hb,rfl⟩:=hx;simp[KG.Z,mark_of O (f b) s hz]
 have he:((ns.map λa=>tu (f a)).flatMap λx=>match qa p (k+1) "mark_of" [x,tu s]with | .ok d=>[d]|_=>[])=ns.map λa=>tu (s.filter λx=>(f a).any λt=>t==x):=by
  clear hc hn
  induction ns with
  |nil=>rfl
  |cons a r ih=>rw[aN,ee,ih,mark_of O (f a) s hz];rfl
 simp[KG.Z,iC,hc,he]
end
end
theorem iz{α:Type}{w:W}{it:It}{cap:List (Option Nat)}{t:T}{elt:E}{τ c:Env}{l:List α}{f:α->D}(q:α->Bool)(g:α->D)(h:evI w it τ=.ok (l.map f))(hz:l.length<=SZ)(hc:dY cap τ=none::none::c)
  (hb:∀a∈l,evT w t (none::some (f a)::c)=.ok (q a)/\(q a=true->evE w elt (none::some (f a)::c)=.ok (g a))):evE w (.comp it cap (.nm 1) t elt) τ=.ok (.lst ((l.filter q).map g)):=by
 have key:∀(r:List α) (v:Option D) (acc:List D),(∀x∈r,x∈l)->cH (λx σ=>noEx ((store (.nm 1) x σ).bind λσ'=>(evT w t σ').bind λr=>if r then (evE w elt σ').bind λd=>.ok (σ',[d])else .ok (σ',[]))) (r.map f) (none::v::c) acc=.ok (acc++(r.filter q).map g):=by
  intro r
  induction r with
  |nil=>intro v acc _;simp[cH]
  |cons x r ih=>
   intro v acc hm;obtain⟨h1,h2⟩:=hb x (hm x aM);rw[aN,cH];have e:noEx ((store (.nm 1) (f x) (none::v::c)).bind λσ'=>(evT w t σ').bind λr=>if r then (evE w elt σ').bind λd=>.ok (σ',[d])else .ok (σ',[]))=.ok (none::some (f x)::c,if q x then [g x]else []):=by
    simp only[store,R.bind_ok,List.set_cons_succ,List.set_cons_zero,h1];cases hq:q x with
    |false=>rfl
    |true=>simp only[if_true,h2 hq,R.bind_ok];rfl
   rw[e];simp only[R.bind_ok];rw[ih (some (f x)) _ λy hy=>hm y (aR _ hy),List.filter_cons,bz];cases q x<;>simp
 rw[qA,h];simp only[R.bind_ok];rw[if_neg (by simp;lia),hc,key l none [] λ_ h=>h]
 rfl
theorem iT{α:Type}{w:W}{it:It}{cap:List (Option Nat)}{elt:E}{τ c:Env}{l:List α}{f:α->D}(g:α->D)(h:evI w it τ=.ok (l.map f))(hz:l.length<=SZ)(hc:dY cap τ=none::none::c)
  (hb:∀a∈l,evE w elt (none::some (f a)::c)=.ok (g a)):evE w (.comp it cap (.nm 1) .yes elt) τ=.ok (.lst (l.map g)):=by
 have:=iz (t:=.yes) (elt:=elt) (f:=f) (λ_=>true) g h hz hc λa ha=>⟨rfl,λ_=>hb a ha⟩
 rwa[List.filter_eq_self.mpr (λ_ _=>rfl)]at this
theorem kH{w:W}{e:E}{τ:Env}{xs:List D}(h:evE w e τ=.ok (.lst xs)):evI w (.seq e) τ=.ok xs:=by rw[evI.eq_1,h];rfl
theorem EU{w:W}{e:E}{τ:Env}{xs:List D}(h:evE w e τ=.ok (.tup xs)):evI w (.seq e) τ=.ok xs:=by rw[evI.eq_1,h];rfl
theorem BE{α:Type}(l:List α)(f:α->Bool):bools? (l.map λa=>D.bl (f a))=some (l.map f):=by
 induction l with
 |nil=>rfl
 |cons a r ih=>rw[aN,bools?,ih];rfl
theorem rh{α:Type}(l:List α)(f:α->Bool):b1 .all [.lst (l.map λa=>D.bl (f a))]=.ok (.bl (l.all f)):=by
 rw[b1,b11];simp only[c_];rw[BE];simp only[cW];rw[List.all_map];rfl
theorem gN(s:List Int):b1 .len [tu s]=.ok (.int s.length):=by
 show R.ok (D.int ((s.map D.int).length:Nat))=_;rw[aV]
theorem tK(xs:List D):b1 .len [.lst xs]=.ok (.int xs.length):=rfl
theorem kC(xs:List D):b1 .len [.tup xs]=.ok (.int xs.length):=rfl
theorem Ar{x:Int}{r:List Int}:b1 .min [.lst ((x::r).map D.int)]=.ok (.int (eU false x r)):=by
 rw[b1,b11];simp only[c_];rw[ints_map];rfl
theorem ne_int(a b:Int):qm .ne (.int a) (.int b)=.ok (!decide (a=b)):=by
 show R.ok (!(a==b))=_
 congr 1
theorem D2(l:List Int)(f:Int->List Int):qm .notin (.tup []) (.lst (l.map λa=>tu (f a)))=.ok (l.all λa=>!(f a).isEmpty):=by
 simp only[zS,zg,zr,zl,zR,zT,zQ];simp only[seq?];rw[if_pos (by simp only[aW,cQ,aU];exact⟨rfl,λx ⟨t,_,e⟩=>e▸yw _⟩),inD,List.any_map]
 congr 1
 rw[List.not_any_eq_all_not]
 congr 1;funext a
 show (!D.eqv (tu (f a)) (.tup []))=_;rw[show D.eqv (tu (f a)) (.tup [])=eqvAll ((f a).map D.int) []from rfl];cases f a<;>rfl
theorem ix0{α:Type}(f:α->D)(a:α)(r:List α):ixD (.lst ((a::r).map f)) (.int 0)=.ok (f a):=by
 have:=fW (xs:=(a::r).map f) (i:=0) (by simp);simp only[ixD];rw[show (0:Int)=((0:Nat):Int)from rfl,this];rfl
theorem Df(ns:List Int)(lo hi:Option Int):∃cs:List Int,cutD (ns.map D.int) lo hi=cs.map D.int/\cs.length<=ns.length:=by
 refine⟨(ns.drop _).take _,by rw[cutD,<-List.map_drop,<-List.map_take],by simp;lia⟩
theorem fx{α:Type}{f:α->D}{r:List D}{x:D}{l:List α}(e:x::r=l.map f):∃a l',l=a::l'/\x=f a/\r=l'.map f:=by
 cases l with
 |nil=>cases e
 |cons a l'=>rw[aN]at e;injection e with e1 e2;exact⟨a,l',rfl,e1,e2⟩
theorem l4{w:W}{f:Fn}{ds:List D}{τ:Env}{Q:D->Prop}(hl:ds.length=f.ps)(hτ:ds.map some++cb (f.N-f.ps) none=τ)(h:Ends (λ_=>False) Q (qe w f.body τ)):∃d,zE w f ds=.ok d/\Q d:=by
 rw[zE,if_pos hl,hτ];cases z:qe w f.body τ with
 |rt d=>rw[z]at h;exact⟨d,rfl,h⟩
 |nx _=>rw[z]at h;exact h.elim
 |_=>rw[z]at h;exact h.elim
noncomputable def BJ:Fn:=⟨2,2,false,(.cons (.exp (.call "need_web" (.cons (.var 0) .nil))) (.cons (.exp (.call "need_some" (.cons (.var 0) (.cons (.var 1) .nil)))) (.cons (.ret (.call "spare_by" (.cons (.call "marks_of" (.cons (.call "hoods" (.cons (.var 0) .nil)) (.cons (.var 1) .nil))) (.cons (.var 1) .nil)))) .nil)))⟩
noncomputable def Ex:Fn:=⟨2,2,false,(.cons (.ret (.bi .tuple (.cons (.comp (.seq (.var 1)) [none,none,some 0] (.nm 1) (.cmp .notin (.tup (.cons (.var 1) .nil)) (.var 2)) (.var 1)) .nil))) .nil)⟩
noncomputable def fU:Fn:=⟨2,5,false,(.cons (.set (.nm 2) (.lst (.cons (.var 1) .nil))) (.cons (.for (.tp [3,4]) (.seq (.ix (.var 0) (.con (.int 1)))) (.cons (.ite (.cmp .isin (.var 1) (.tup (.cons (.var 3) (.cons (.var 4) .nil)))) (.cons (.app 2 (.op .sub (.op .add (.var 3) (.var 4)) (.var 1))) .nil) .nil) .nil)) (.cons (.ret (.bi .tuple (.cons (.bi .sorted (.cons (.own 2) .nil)) .nil))) .nil)))⟩
noncomputable def wL:Fn:=⟨3,3,false,(.cons (.ret (.bi .tuple (.cons (.comp (.seq (.call "_law_hood" (.cons (.var 0) (.cons (.var 2) .nil)))) [none,none,some 1] (.nm 1) (.cmp .isin (.var 1) (.var 2)) (.var 1)) .nil))) .nil)⟩
noncomputable def gJ:Fn:=⟨2,4,false,(.cons (.ite (.cmp .is (.var 1) (.con .non)) (.cons (.ret (.cmp .is (.var 0) (.con .non))) .nil) .nil) (.cons (.ite (.val (.isi (.var 1) (.ty "bool"))) (.cons (.ret (.and (.isi (.var 0) (.ty "bool")) (.cmp .eq (.var 0) (.var 1)))) .nil) .nil) (.cons (.ite (.val (.isi (.var 1) (.ty "int"))) (.cons (.ret (.and (.isi (.var 0) (.ty "int")) (.and (.not (.isi (.var 0) (.ty "bool"))) (.cmp .eq (.var 0) (.var 1))))) .nil) .nil) (.cons (.ite (.val (.isi (.var 1) (.ty "str"))) (.cons (.ret (.and (.isi (.var 0) (.ty "str")) (.cmp .eq (.var 0) (.var 1)))) .nil) .nil) (.cons (.ite (.or (.cmp .ne (.isi (.var 1) (.ty "list")) (.isi (.var 0) (.ty "list"))) (.cmp .ne (.isi (.var 1) (.ty "tuple")) (.isi (.var 0) (.ty "tuple")))) (.cons (.ret (.con (.bl false))) .nil) .nil) (.cons (.ite (.cmp .ne (.bi .len (.cons (.var 0) .nil)) (.bi .len (.cons (.var 1) .nil))) (.cons (.ret (.con (.bl false))) .nil) .nil) (.cons (.for (.tp [2,3]) (.zip (.var 0) (.var 1)) (.cons (.ite (.not (.val (.call "_law_same" (.cons (.var 2) (.cons (.var 3) .nil))))) (.cons (.ret (.con (.bl false))) .nil) .nil) .nil)) (.cons (.ret (.con (.bl true))) .nil))))))))⟩
noncomputable def BS:Fn:=⟨1,3,false,(.cons (.set (.nm 1) (.lst .nil)) (.cons (.for (.nm 2) (.rng (.var 0)) (.cons (.set (.nm 1) (.op .add (.var 1) (.comp (.rng2 (.op .add (.var 2) (.con (.int 1))) (.var 0)) [none,none,some 2] (.nm 1) .yes (.tup (.cons (.var 2) (.cons (.var 1) .nil)))))) .nil)) (.cons (.ret (.var 1)) .nil)))⟩
noncomputable def yY:Fn:=⟨2,5,false,(.cons (.set (.nm 2) (.lst .nil)) (.cons (.for (.tp [3,4]) (.enum (.call "_law_pairs" (.cons (.var 0) .nil))) (.cons (.ite (.and (.cmp .eq (.op .mod (.var 1) (.con (.int 2))) (.con (.int 0))) (.cmp .eq (.op .mod (.op .shr (.op .fdiv (.var 1) (.con (.int 2))) (.var 3)) (.con (.int 2))) (.con (.int 1)))) (.cons (.app 2 (.var 4)) .nil) .nil) (.cons (.ite (.and (.cmp .eq (.op .mod (.var 1) (.con (.int 2))) (.con (.int 1))) (.cmp .lt (.op .mod (.call "_law_stir" (.cons (.var 1) (.cons (.var 3) .nil))) (.con (.int 5))) (.op .add (.con (.int 1)) (.op .mod (.op .fdiv (.var 1) (.con (.int 2))) (.con (.int 3)))))) (.cons (.app 2 (.var 4)) .nil) .nil) .nil))) (.cons (.ret (.tup (.cons (.var 0) (.cons (.bi .tuple (.cons (.own 2) .nil)) .nil)))) .nil)))⟩
noncomputable def Dz:Fn:=⟨2,2,false,(.cons (.ite (.cmp .eq (.op .mod (.var 1) (.con (.int 2))) (.con (.int 0))) (.cons (.ret (.bi .tuple (.cons (.comp (.rng (.var 0)) [none,none,some 1] (.nm 1) (.cmp .eq (.op .mod (.op .shr (.op .fdiv (.var 2) (.con (.int 2))) (.var 1)) (.con (.int 2))) (.con (.int 1))) (.var 1)) .nil))) .nil) .nil) (.cons (.ret (.bi .tuple (.cons (.comp (.rng (.var 0)) [none,none,some 1] (.nm 1) (.cmp .lt (.op .mod (.call "_law_stir" (.cons (.var 2) (.cons (.op .add (.var 1) (.con (.int 60))) .nil))) (.con (.int 4))) (.op .add (.con (.int 1)) (.op .mod (.op .fdiv (.var 2) (.con (.int 2))) (.con (.int 3))))) (.var 1)) .nil))) .nil))⟩
structure Lw(p:Pr):Prop where
 _law_stir:p.fns "_law_stir" = some zF
 _law_pairs:p.fns "_law_pairs" = some BS
 _law_web_by:p.fns "_law_web_by" = some yY
 _law_some_by:p.fns "_law_some_by" = some Dz
structure Lh(p:Pr):Prop where
 _law_hood:p.fns "_law_hood" = some fU
 _law_holders:p.fns "_law_holders" = some wL
section
variable{p:Pr}
noncomputable def un(m:Int)(ts:List (Int×Int))(s:List Int):List Int:=(rng m).filter λa=>decide (mk m ts s a=[])
theorem xA(a:D):qm .is a .non=.ok (eN a):=by cases a<;>rfl
theorem same_int(hf:p.fns "_law_same" = some gJ){k:Nat}(i:Int):qa p (k+1) "_law_same" [.int i,.int i]=.ok (.bl true):=by
 rw[qc hf];refine qi rfl rfl ?_;simp[KG.Z,gJ,xA,eN,eq_int]
theorem rG{i x:Int}{l:List Int}:x∈insI i l↔x=i\/x∈l:=by
 induction l with
 |nil=>simp[insI]
 |cons a r ih=>
  rw[insI];split
  ·simp
  ·simp only[aI,ih];constructor<;>rintro(h|h|h)<;>simp[h]
theorem o6{x:Int}{l:List Int}:x∈sortI l↔x∈l:=by
 induction l with
 |nil=>simp[sortI]
 |cons a r ih=>rw[sortI,rG,ih,aI]
theorem vH{i:Int}{l:List Int}(h:l.Pairwise (· < ·))(hn:i∉l):(insI i l).Pairwise (· < ·):=by
 induction l with
 |nil=>simp[insI]
 |cons a r ih=>
  rw[List.pairwise_cons]at h;have h0:i≠a:=λe=>hn (e▸aM)
  rw[insI];split
  ·rename_i q
   rw[List.pairwise_cons];refine⟨λb hb=>?_,List.pairwise_cons.mpr h⟩;rcases aI.mp hb with rfl|hb
   ·lia
   ·have:=h.1 b hb;lia
  ·rename_i q
   rw[List.pairwise_cons];refine⟨λb hb=>?_,ih h.2 λe=>hn (aR _ e)⟩;rcases rG.mp hb with rfl|hb
   ·lia
   ·exact h.1 b hb
theorem y_{l:List Int}(h:l.Nodup):(sortI l).Pairwise (· < ·):=by
 induction l with
 |nil=>simp[sortI]
 |cons a r ih=>
  rw[List.nodup_cons]at h;rw[sortI];exact vH (ih h.2) λe=>h.1 (o6.mp e)
theorem t_:∀{a b:List Int},a.Pairwise (· < ·)->b.Pairwise (· < ·)->(∀x,x∈a↔x∈b)->a=b
 | [],[],_,_,_=>rfl
 | [],y::_,_,_,h=>absurd ((h y).mpr aM) (by simp)
 |x::_,[],_,_,h=>absurd ((h x).mp aM) (by simp)
 |x::r,y::t,ha,hb,h=>by
  rw[List.pairwise_cons]at ha hb;have e:x=y:=by
   rcases aI.mp ((h x).mp aM)with q|q
   ·exact q
   ·rcases aI.mp ((h y).mpr aM)with q'|q'
    ·exact q'.symm
    ·have:=hb.1 x q;have:=ha.1 y q';lia
  subst e;rw[t_ ha.2 hb.2 λz=>⟨λq=>by
   rcases aI.mp ((h z).mp (aR _ q))with e|e
   ·subst e;have:=ha.1 z q;lia
   ·exact e,λq=>by
   rcases aI.mp ((h z).mpr (aR _ q))with e|e
   ·subst e;have:=hb.1 z q;lia
   ·exact e⟩]
noncomputable def nbf(a:Int)(t:Int×Int):List Int:=if t.1=a\/t.2=a then [t.1+t.2-a]else []
theorem D8{m:Int}{ts:List (Int×Int)}(h:GW m ts){a:Int}(ha:0<=a/\a<m):sortI (a::ts.flatMap (nbf a))=hd m ts a:=by
 have Gd:∀x t,t∈ts->x∈nbf a t->(t.1=a/\t.2=x/\a<x\/t.2=a/\t.1=x/\x<a):=by
  intro x t ht hx;have:=h.ok t ht;rw[nbf]at hx;split at hx
  ·simp only[List.mem_singleton]at hx;lia
  ·cases hx
 apply t_
 ·apply y_;rw[List.nodup_cons];constructor
  ·intro q;obtain⟨t,ht,q⟩:=List.mem_flatMap.mp q;have:=Gd a t ht q;lia
  ·rw[List.Nodup,List.pairwise_flatMap];constructor
   ·intro t ht;rw[nbf];split<;>simp
   ·refine List.Pairwise.imp_of_mem ?_ h.lt;intro s t hs ht q x hx y hy e;subst e;have h1:=Gd _ s hs hx;have h2:=Gd _ t ht hy;have:s=t:=Prod.ext (by lia) (by lia);subst this;rw[ltP]at q;simp at q
 ·exact(ft m).sublist List.filter_sublist
 ·intro x;rw[o6,aI,List.mem_flatMap,hd,bu,b7];simp only[bR,beq_iff_eq,cV,b_,aW];constructor
  ·rintro(rfl|⟨t,ht,q⟩)
   ·exact⟨ha,.inl rfl⟩
   ·have h1:=Gd x t ht q;have h2:=h.ok t ht;refine⟨by lia,.inr ⟨t,ht,?_⟩⟩;rw[mn,mx];split<;>split<;>lia
  ·rintro⟨hx,rfl|⟨t,ht,q1,q2⟩⟩
   ·exact .inl rfl
   ·by_cases e:x=a
    ·exact .inl e
    ·refine .inr ⟨t,ht,?_⟩;rw[mn]at q1;rw[mx]at q2;rw[nbf];split at q1<;>split at q2<;>first|lia|(rw[if_pos (by lia),List.mem_singleton];lia)
theorem l7{w:W}{i:Nat}{e:E}{τ:Env}{xs:List D}{d:D}(h:zu τ i=.ok (.lst xs))(he:evE w e τ=.ok d)(hz:xs.length<SZ):evS w (.app i e) τ=.nx (τ.set i (some (.lst (xs++[d])))):=by
 rw[zW,h];simp only[R.out_ok];rw[he];simp only[R.out_ok,hz,if_true]
theorem nc(hf:p.fns "_law_hood" = some fU){k:Nat}{m:Int}{ts:List (Int×Int)}(h:GW m ts){a:Int}(ha:0<=a/\a<m):qa p (k+1) "_law_hood" [wb m ts,.int a]=.ok (tu (hd m ts a)):=by
 rw[qc hf];have hl:=h.len;refine qi (τ:=[some (wb m ts),some (.int a),none,none,none]) rfl rfl ?_;refine cK (σ:=[some (wb m ts),some (.int a),some (.lst [.int a]),none,none]) (by simp[KG.Z]) ?_;refine Bk (ds:=ts.map prD) (λr σ=>∃(ps:List (Int×Int)) (ns:List Int) (v u:Option D),r=ps.map prD/\ns++ps.flatMap (nbf a)=a::ts.flatMap (nbf a)/\ns.length+ps.length<=29/\σ=[some (wb m ts),some (.int a),some (.lst (ns.map D.int)),v,u]) ?_ ⟨ts,[a],none,none,rfl,rfl,by simp;lia,rfl⟩ ?_ ?_
 ·have e:ixD (wb m ts) (.int 1)=.ok (.tup (ts.map prD)):=rfl;simp[KG.Z,e,seq?]
 ·rintro x t σ ⟨ps,ns,v,u,e,e',hz,rfl⟩;cases ps with
  |nil=>cases e
  |cons y ps=>
   rw[aN]at e;injection e with e1 e2
   subst e1 e2;have Nz:=o5 [y.1,y.2] a;have Ju:qm .isin (.int a) (.tup [.int y.1,.int y.2])=.ok (y.1==a||(y.2==a||false)):=Nz;have hs:ns.length<SZ:=by simp at hz;simp[SZ];lia
   by_cases q:y.1=a\/y.2=a
   ·refine⟨[some (wb m ts),some (.int a),some (.lst (ns.map D.int)),some (.int y.1),some (.int y.2)],[some (wb m ts),some (.int a),some (.lst ((ns++[y.1+y.2-a]).map D.int)),some (.int y.1),some (.int y.2)],rfl,?_,ps,ns++[y.1+y.2-a],_,_,rfl,?_,?_,rfl⟩
    ·simp[KG.Z,Ju,op2,hs];rw[if_pos q]
    ·rw[<-e',ee,nbf,if_pos q];simp
    ·simp at hz ⊢;lia
   ·refine⟨[some (wb m ts),some (.int a),some (.lst (ns.map D.int)),some (.int y.1),some (.int y.2)],[some (wb m ts),some (.int a),some (.lst (ns.map D.int)),some (.int y.1),some (.int y.2)],rfl,?_,ps,ns,_,_,rfl,?_,?_,rfl⟩
    ·have q1:¬ y.1=a:=λe=>q (.inl e)
     have q2:¬ y.2=a:=λe=>q (.inr e)
     simp[KG.Z,Ju,q1,q2]
    ·rw[<-e',ee,nbf,if_neg q];rfl
    ·simp at hz ⊢;lia
 ·rintro σ ⟨ps,ns,v,u,e,e',hz,rfl⟩;cases ps with
  |cons y ps=>cases e
  |nil=>
   simp only[List.flatMap_nil,dg]at e';subst e';have e1:=ints_map (a::ts.flatMap (nbf a));have e2:=D8 h ha;have e3:b1 .sorted [.lst ((a::ts.flatMap (nbf a)).map D.int)]=.ok (.lst ((hd m ts a).map D.int)):=by
    rw[lg,if_pos (by simp at hz ⊢;lia),e1];simp only;rw[e2]
   have e4:b1 .tuple [.lst ((hd m ts a).map D.int)]=.ok (tu (hd m ts a)):=rfl;simp only[aN]at e3;simp[KG.Z,e3,e4]
theorem GS.none{m:Int}:GS m []:=⟨List.Pairwise.nil,by simp,by simp⟩
end
section
variable{p:Pr}{k:Nat}{M c:Int}{n:Int}{ts:List (Int×Int)}{a b:Int}{i:Int}{v3 v4:Option D}{Q:D->Prop}
end
end KG
namespace KG
open EV
open PySem (Str Builtin.bitAnd Builtin.bitOr)
open L2 (atI ixN ltP)
noncomputable def bs(m:Int)(n:Nat):List Int:=(rng m).filter λi=>n.testBit i.toNat
theorem oX{m:Int}(h:m<=8)(n:Nat):GS m (bs m n):=
 ⟨(ft m).sublist List.filter_sublist,λi hi=>b7.mp (bu.mp hi).1,bB (List.length_filter_le _ _) (by rw[zp];lia)⟩
theorem y9{m:Int}{n:Nat}{i:Int}:i∈bs m n↔(0<=i/\i<m)/\n.testBit i.toNat=true:=by
 rw[bs,bu,b7]
noncomputable def subs:Nat->List (List Int)
 | 0=>[[]]
 |j+1=>subs j++(subs j).map (· ++ [(j:Int)])
theorem p5(m:Int)(h1:1<=m)(h2:m<=8):subs m.toNat=(bW (2^m.toNat)).map (bs m):=by
 have:m=1\/m=2\/m=3\/m=4\/m=5\/m=6\/m=7\/m=8:=by lia
 rcases this with rfl|rfl|rfl|rfl|rfl|rfl|rfl|rfl<;>decide +kernel
theorem l6:∀j,(subs j).length=2^j
 | 0=>rfl
 |j+1=>by rw[subs,bP,aV,l6 j,Nat.pow_succ];lia
theorem tG:∀ts:List (List Int),tups? (ts.map tu)=some ts
 | []=>rfl
 |t::r=>by
  show (ints? (t.map D.int)).bind (λn=>(tups? (r.map tu)).map (n :: ·))=_;rw[ints_map,tG r];rfl
theorem kn:∀j,1<=j->∃b r,subs j=[]::b::r
 | 1,_=>⟨_,_,rfl⟩
 |j+2,_=>by
  obtain⟨b,r,e⟩:=kn (j+1) (by lia);rw[subs,e];exact⟨_,_,rfl⟩
theorem vq(j:Nat)(h:1<=j):fE (subs j)=true:=by
 obtain⟨b,r,e⟩:=kn j h;rw[e];rfl
theorem pI{m:Nat}(h:m<=8):2^m<=256:=Nat.pow_le_pow_right (by decide) h
theorem DH{j:Nat}(h1:1<=j):b1 .sorted [.lst ((subs j).map tu)]=.ok (.lst ((cq (subs j)).map tu)):=by
 have hT:cJ ((subs j).map tu)=.ok (.lst ((cq (subs j)).map tu)):=by
  rw[cJ,tG];show (if fE (subs j)=true then _ else _)=_;rw[vq j h1];rfl
 rw[lg];obtain⟨b,r,e⟩:=kn j h1;have hi:ints? ((subs j).map tu)=none:=by rw[e];rfl
 have hp:pairs? ((subs j).map tu)=none:=by rw[e];rfl
 rw[hi,hp];simp only;rw[hT];split<;>rfl
theorem nS{p:Pr}(hf:p.fns "all_some" = some gf){k:Nat}{m:Int}{t:D}(h1:1<=m)(h2:m<=8):qa p (k+1) "all_some" [.tup [.int m,t]]=.ok (.lst ((cq (subs m.toNat)).map tu)):=by
 obtain⟨d,e,rfl⟩:∃d,qa p (k+1) "all_some" [.tup [.int m,t]]=.ok d/\d=.lst ((cq (subs m.toNat)).map tu):=by
  refine sh (k:=k) (τ:=[some (.tup [.int m,t]),none,none]) hf rfl rfl ?_;refine zB (σ:=[some (.tup [.int m,t]),some (.lst ((subs 0).map tu)),none]) (by simp[KG.Z];rfl) ?_;have hm:qD m=true:=by simp[qD];lia
  have hx:ixD (.tup [.int m,t]) (.int 0)=.ok (.int m):=rfl;refine gq (ds:=(rng m).map D.int) (λr σ=>∃(j:Nat) (v2:Option D),j<=m.toNat/\r=((List.range' j (m.toNat-j)).map λ(i:Nat)=>(i:Int)).map D.int/\σ=[some (.tup [.int m,t]),some (.lst ((subs j).map tu)),v2]) (by rw[<-zZ];simp[KG.Z,hm,hx]) ⟨0,none,by lia,by rw[rng,List.range_eq_range'];rfl,rfl⟩ ?_ ?_
  ·rintro x r σ ⟨j,v2,hj,e,rfl⟩;by_cases Lc:j=m.toNat
   ·subst Lc;simp at e
   ·have ej:m.toNat-j=(m.toNat-(j+1))+1:=by lia
    rw[ej,List.range'_succ,aN,aN]at e;injection e with e1 e2
    subst e1 e2;refine⟨[some (.tup [.int m,t]),some (.lst ((subs j).map tu)),some (.int j)],rfl,?_⟩;have hl:=l6 j;have hp:=pI (m:=j) (by lia);have hc:evE (wAt p k) (.comp (.seq (.var 1)) [none,none,some 2] (.nm 1) .yes (.op .add (.var 1) (.tup (.cons (.var 2) .nil)))) [some (.tup [.int m,t]),some (.lst ((subs j).map tu)),some (.int j)]=.ok (.lst (((subs j).map (· ++ [(j:Int)])).map tu)):=by
     have he:((subs j).map tu).flatMap (λx=>match x with | .tup xs=>[D.tup (xs++[.int j])]|_=>[])=((subs j).map (· ++ [(j:Int)])).map tu:=by
      generalize subs j=l
      induction l with
      |nil=>rfl
      |cons a r ih=>rw[aN,ee,ih];simp[tu]
     rw[<-he];refine fL (c:=[some (.int j)]) ?_ ?_ rfl ?_
     ·simp[KG.Z,seq?]
     ·simp[SZ];lia
     ·intro x hx;rw[aU]at hx;obtain⟨s,hs,rfl⟩:=hx;have I_:s.length<=j:=by
       have:∀(n:Nat) (s:List Int),s∈subs n->s.length<=n:=by
        intro n
        induction n with
        |zero=>intro s hs;simp[subs]at hs;subst hs;simp
        |succ n ih=>
         intro s hs;rw[subs,List.mem_append,aU]at hs;rcases hs with hs|⟨u,hu,rfl⟩
         ·have:=ih s hs;lia
         ·have:=ih u hu;simp;lia
       exact this j s hs
      have e:op2 .add (tu s) (.tup [.int j])=.ok (.tup (s.map D.int++[.int j])):=by
       rw[op2,if_pos (by simp[SZ];lia)]
      simp[KG.Z,e]
    have e3:op2 .add (.lst ((subs j).map tu)) (.lst (((subs j).map (· ++ [(j:Int)])).map tu))=.ok (.lst ((subs (j+1)).map tu)):=by
     rw[op2,if_pos (by simp[SZ];lia),subs,List.map_append]
    refine zB (σ:=[some (.tup [.int m,t]),some (.lst ((subs (j+1)).map tu)),some (.int j)]) (by rw[zO,ze,hc,qZ];simp only[zu,List.getElem?_cons_succ,List.getElem?_cons_zero,R.bind_ok];rw[e3];rfl) (eS ⟨j+1,_,by lia,rfl,rfl⟩)
  ·rintro σ ⟨j,v2,hj,e,rfl⟩;have:j=m.toNat:=by
    have:=congrArg List.length e;simp at this;lia
   subst this;exact jm (d:=.lst ((cq (subs m.toNat)).map tu)) (by simp[KG.Z,DH (j:=m.toNat) (by lia)]) rfl
 exact e
section
variable{p:Pr}(B:Base p)
include B
theorem all_some{k:Nat}{m:Int}{t:D}(h1:1<=m)(h2:m<=8):qa p (k+1) "all_some" [.tup [.int m,t]]=.ok (.lst ((cq (subs m.toNat)).map tu)):=nS B.all_some h1 h2
end
end KG
namespace KG
open EV
open PySem (Str)
open L2 (atI ixN ltP)
section
variable{p:Pr}(B:Base p)
include B
end
abbrev ln(N:List Nat):D:=.lst (N.map λ(x:Nat)=>D.int (x:Int))
theorem BL(ts:List (Int×Int))(a b:Int):cV ts a b=cV ts b a:=by
 rw[cV,cV]
 congr 1;funext t
 rw[Bool.eq_iff_iff];simp only[mn,mx,aW,beq_iff_eq];split<;>split<;>lia
theorem o3{m:Int}{ts:List (Int×Int)}{a b:Int}:b∈hd m ts a↔(0<=b/\b<m)/\(b=a\/cV ts a b=true):=by
 rw[hd,bu,b7];simp
theorem pA{m:Int}(h1:1<=m)(h2:m<=8){s:List Int}(hs:s∈cq (subs m.toNat)):∃n,n<2^m.toNat/\s=bs m n:=by
 have:=(i3 _).mem_iff.mp hs;rw[p5 m h1 h2,aU]at this;obtain⟨n,hn,rfl⟩:=this;exact⟨n,List.mem_range.mp hn,rfl⟩
theorem Fl{m:Int}(h1:1<=m)(h2:m<=8){n:Nat}(hn:n<2^m.toNat):bs m n∈cq (subs m.toNat):=by
 refine(i3 _).mem_iff.mpr ?_;rw[p5 m h1 h2,aU];exact⟨n,List.mem_range.mpr hn,rfl⟩
theorem sub_len{m:Int}(h2:m<=8):(cq (subs m.toNat)).length<=256:=by
 rw[(i3 _).length_eq,l6];exact pI (by lia)
noncomputable def hz(m:Int)(ts:List (Int×Int))(s:List Int):Bool:=(rng m).all λa=>!(mk m ts s a).isEmpty
noncomputable def hl(m:Int)(ts:List (Int×Int)):List (List Int):=(cq (subs m.toNat)).filter (hz m ts)
theorem tU{p:Pr}(B:Web p)(O:Nbr p)(ha:p.fns "all_some" = some gf)(hf:p.fns "all_holding" = some gP){k:Nat}{m:Int}{ts:List (Int×Int)}(h:GW m ts):qa p (k+6) "all_holding" [wb m ts]=.ok (.lst ((hl m ts).map tu)):=by
 have h1:=h.lo;have h2:=h.hi;rw[qc hf];refine qi (τ:=[some (wb m ts),none]) rfl rfl ?_;have e0:=hoods B O (k:=k) h;have hc:evE ⟨qa p (k+5),p.glb,p.sub,p.cat⟩ (.comp (.seq (.call "all_some" (.cons (.var 0) .nil))) [none,none,some 1] (.nm 1) (.cmp .notin (.tup .nil) (.call "marks_of" (.cons (.var 2) (.cons (.var 1) .nil)))) (.var 1)) [some (wb m ts),some (.tup ((rng m).map λa=>tu (hd m ts a)))]=.ok (.lst ((hl m ts).map tu)):=by
  refine iz (f:=tu) (c:=[some (.tup ((rng m).map λa=>tu (hd m ts a)))]) (hz m ts) tu (kH ?_) ?_ rfl ?_
  ·simp[KG.Z,nS ha (k:=k+4) (t:=.tup (ts.map prD)) h1 h2]
  ·have:=sub_len h2;simp[SZ];lia
  ·intro s hs;obtain⟨n,hn,rfl⟩:=pA h1 h2 hs;have e1:=marks_of O (k:=k+3) (rng m) (hd m ts) (bs m n) (oX h2 n).len (by rw[zp];lia);have e2:=D2 (rng m) (λa=>(bs m n).filter λx=>(hd m ts a).any λt=>t==x);refine⟨?_,λ_=>rfl⟩;rw[fg];have a1:evE ⟨qa p (k+5),p.glb,p.sub,p.cat⟩ (.call "marks_of" (.cons (.var 2) (.cons (.var 1) .nil))) [none,some (tu (bs m n)),some (.tup ((rng m).map λa=>tu (hd m ts a)))]=.ok (.lst ((rng m).map λa=>tu ((bs m n).filter λx=>(hd m ts a).any λt=>t==x))):=by
    rw[qE];show qa p (k+5) "marks_of" [.tup ((rng m).map λa=>tu (hd m ts a)),tu (bs m n)]=_;exact e1
   have a0:evE ⟨qa p (k+5),p.glb,p.sub,p.cat⟩ (.tup .nil) [none,some (tu (bs m n)),some (.tup ((rng m).map λa=>tu (hd m ts a)))]=.ok (.tup []):=by simp[KG.Z]
   rw[a1,a0];simp only[R.bind_ok];rw[e2]
   rfl
 show qe _ (.cons (.set (.nm 1) (.call "hoods" (.cons (.var 0) .nil))) (.cons (.ret _) .nil)) _=_;refine cK (σ:=[some (wb m ts),some (.tup ((rng m).map λa=>tu (hd m ts a)))]) (by simp[KG.Z,e0]) ?_;rw[qe,zw,hc]
 rfl
theorem all_holding{p:Pr}(B:Base p)(O:sZ p)(hf:p.fns "all_holding" = some gP){k:Nat}{m:Int}{ts:List (Int×Int)}(h:GW m ts):qa p (k+6) "all_holding" [wb m ts]=.ok (.lst ((hl m ts).map tu)):=tU B.toWeb O.toNbr B.all_some hf h
theorem oB{m:Int}{ts:List (Int×Int)}(h:GW m ts):∃s r,hl m ts=s::r:=by
 have h1:=h.lo;have h2:=h.hi;have hm:bs m (2^m.toNat-1)∈hl m ts:=by
  rw[hl,bu];refine⟨Fl h1 h2 (by have:=Nat.two_pow_pos m.toNat;lia),?_⟩;rw[hz,cQ];intro a ha;obtain⟨a0,am⟩:=b7.mp ha;have:a∈mk m ts (bs m (2^m.toNat-1)) a:=by
   rw[mk,bu];refine⟨y9.mpr ⟨⟨a0,am⟩,by rw[Nat.testBit_two_pow_sub_one];simp;lia⟩,?_⟩;simp only[b_,beq_iff_eq,exists_eq_right,o3];exact⟨⟨a0,am⟩,by simp⟩
  cases q:mk m ts (bs m (2^m.toNat-1)) a with
  |nil=>rw[q]at this;cases this
  |cons _ _=>rfl
 cases q:hl m ts with
 |nil=>rw[q]at hm;cases hm
 |cons s r=>exact⟨s,r,rfl⟩
theorem yG{m:Int}{ts:List (Int×Int)}(h:GW m ts){s:List Int}(hs:s∈hl m ts):GS m s:=by
 obtain⟨n,_,rfl⟩:=pA h.lo h.hi (bu.mp hs).1;exact oX h.hi n
theorem xb{m:Int}{ts:List (Int×Int)}(h:GW m ts):(hl m ts).length<=256:=bB (List.length_filter_le _ _) (sub_len h.hi)
structure Fw(p:Pr):Prop where
 all_some:p.fns "all_some" = some gf
 all_holding:p.fns "all_holding" = some gP
 all_fewest:p.fns "all_fewest" = some jr
 first_fewest:p.fns "first_fewest" = some jh
 fewest:p.fns "fewest" = some jj
structure Sp(p:Pr):Prop where
 spare:p.fns "spare" = some BJ
 spare_by:p.fns "spare_by" = some Ex
noncomputable def ow(m:Int)(ts:List (Int×Int))(s:List Int)(x:Int):List Int:=(rng m).filter λa=>decide (mk m ts s a=[x])
noncomputable def sp(m:Int)(ts:List (Int×Int))(s:List Int):List Int:=s.filter λx=>decide (ow m ts s x=[])
section
variable{p:Pr}(B:Web p)(O:Nbr p)(S:gL p)
include B O S
end
noncomputable def lsm(L:List (List Int)):Int:=match L.map (λs=>(s.length:Int))with
 | []=>0
 |x::r=>eU false x r
noncomputable def few(L:List (List Int)):List (List Int):=L.filter λs=>decide ((s.length:Int)=lsm L)
theorem xW(i:Int)(r:List Int):eU false i r∈i::r:=by
 induction r generalizing i with
 |nil=>simp[eU]
 |cons j r ih=>
  rw[eU];have:=ih (if j<i then j else i);simp only[bD,if_false];rcases aI.mp this with e|e
  ·rw[e];split<;>simp
  ·exact aR _ (aR _ e)
theorem DJ{L:List (List Int)}(h:L≠[]):∃s r,few L=s::r/\(s.length:Int)=lsm L:=by
 obtain⟨a,r,rfl⟩:∃a r,L=a::r:=by cases L with|nil=>exact absurd rfl h|cons a r=>exact⟨a,r,rfl⟩
 have hm:lsm (a::r)∈(a::r).map λs=>(s.length:Int):=by
  rw[lsm,aN];exact xW _ _
 obtain⟨s,hs,e⟩:=aU.mp hm;have:s∈few (a::r):=bu.mpr ⟨hs,by simpa using e⟩;cases q:few (a::r)with
 |nil=>rw[q]at this;cases this
 |cons t u=>
  have ht:t∈few (a::r):=by rw[q];exact aM
  exact⟨t,u,rfl,by simpa using (bu.mp ht).2⟩
section
variable{w:W}{τ:Env}{L:List (List Int)}
theorem E6(hL:L≠[])(hz:L.length<=256)(h:τ[1]? = some (some (.lst (L.map tu)))):evE w (.bi .min (.cons (.comp (.seq (.var 1)) [none,none] (.nm 1) .yes (.bi .len (.cons (.var 1) .nil))) .nil)) τ=.ok (.int (lsm L)):=by
 have h1:evE w (.comp (.seq (.var 1)) [none,none] (.nm 1) .yes (.bi .len (.cons (.var 1) .nil))) τ=.ok (.lst ((L.map λs=>(s.length:Int)).map D.int)):=by
  rw[ck];refine iT (f:=tu) (c:=[]) (λs=>.int s.length) (kH (by rw[qZ,zu,h])) (by simp[SZ];lia) rfl λs _=>?_
  simp[KG.Z,gN]
 have h2:b1 .min [.lst ((L.map λs=>(s.length:Int)).map D.int)]=.ok (.int (lsm L)):=by
  cases L with
  |nil=>exact absurd rfl hL
  |cons a r=>rw[lsm,aN];exact Ar
 rw[qx,zo,h1];simp only[R.bind_ok,zo,h2]
theorem CA(hz:L.length<=256)(h:τ[1]? = some (some (.lst (L.map tu))))(h2:τ[2]? = some (some (.int (lsm L)))):evE w (.comp (.seq (.var 1)) [none,none,some 2] (.nm 1) (.cmp .eq (.bi .len (.cons (.var 1) .nil)) (.var 2)) (.var 1)) τ=.ok (.lst ((few L).map tu)):=by
 refine iz (f:=tu) (c:=[some (.int (lsm L))]) (λs=>decide ((s.length:Int)=lsm L)) tu (kH (by rw[qZ,zu,h])) (by simp[SZ];lia) (by simp[dY,h2]) λs _=>⟨?_,λ_=>rfl⟩
 simp[KG.Z,gN,eq_int]
end
theorem all_fewest{p:Pr}(B:Web p)(O:Nbr p)(F:Fw p){k:Nat}{m:Int}{ts:List (Int×Int)}(h:GW m ts):qa p (k+7) "all_fewest" [wb m ts]=.ok (.lst ((few (hl m ts)).map tu)):=by
 obtain⟨a,r,hL⟩:=oB h;have hn:hl m ts≠[]:=by rw[hL];simp
 have hz:=xb h;have e0:=tU B O F.all_some F.all_holding (k:=k) h;have e1:=need_web B (k:=k+2) h;rw[qc F.all_fewest];refine qi (τ:=[some (wb m ts),none,none]) rfl rfl ?_;show qe _ (.cons (.exp _) (.cons (.set (.nm 1) _) (.cons (.set (.nm 2) _) (.cons (.ret _) .nil)))) _=_;refine cK (σ:=[some (wb m ts),none,none]) (by simp[KG.Z,e1]) ?_;refine cK (σ:=[some (wb m ts),some (.lst ((hl m ts).map tu)),none]) (by simp[KG.Z,e0]) ?_;refine cK (σ:=[some (wb m ts),some (.lst ((hl m ts).map tu)),some (.int (lsm (hl m ts)))]) (by rw[zO,E6 hn hz rfl];rfl) ?_;rw[qe,zw,CA hz rfl rfl];rfl
theorem first_fewest{p:Pr}(B:Web p)(O:Nbr p)(F:Fw p){k:Nat}{m:Int}{ts:List (Int×Int)}(h:GW m ts){s:List Int}{r:List (List Int)}(e:few (hl m ts)=s::r):qa p (k+8) "first_fewest" [wb m ts]=.ok (tu s):=by
 have e1:=all_fewest B O F (k:=k) h;rw[e]at e1;have e2:=ix0 tu s r;rw[aN]at e1 e2;rw[qc F.first_fewest];refine qi rfl rfl ?_;simp[KG.Z,jh,e1,e2]
theorem fewest{p:Pr}(B:Web p)(O:Nbr p)(F:Fw p){k:Nat}{m:Int}{ts:List (Int×Int)}(h:GW m ts){s:List Int}{r:List (List Int)}(e:few (hl m ts)=s::r):qa p (k+9) "fewest" [wb m ts]=.ok (.int s.length):=by
 rw[qc F.fewest];refine qi rfl rfl ?_;simp[KG.Z,jj,first_fewest B O F (k:=k) h e,gN]
theorem EH{m:Int}{ts:List (Int×Int)}{s:List Int}:hz m ts s=decide (un m ts s=[]):=by
 rw[Bool.eq_iff_iff,decide_eq_true_eq,un,List.filter_eq_nil_iff,hz,cQ];refine forall_congr' λa=>forall_congr' λ_=>?_
 cases mk m ts s a<;>simp
theorem wF{m:Int}{ts:List (Int×Int)}{s:List Int}(hs:s∈hl m ts):un m ts s=[]:=by
 rw[hl,bu]at hs;have:=hs.2;rw[EH]at this
 simpa using this
noncomputable def iV:Fn:=⟨2,5,false,(.cons (.set (.tp [2,3]) (.var 0)) (.cons (.set (.nm 4) (.lst (.cons (.con .non) (.cons (.var 2) (.cons (.tup (.cons (.var 2) .nil)) (.cons (.tup (.cons (.var 2) (.cons (.bi .list (.cons (.var 3) .nil)) .nil))) (.cons (.tup (.cons (.con (.int 0)) (.cons (.tup .nil) .nil))) (.cons (.tup (.cons (.con (.int 9)) (.cons (.tup .nil) .nil))) (.cons (.tup (.cons (.con (.bl true)) (.cons (.tup .nil) .nil))) (.cons (.tup (.cons (.var 2) (.cons (.op .add (.var 3) (.tup (.cons (.tup (.cons (.con (.int 0)) (.cons (.con (.int 0)) .nil))) .nil))) .nil))) .nil)))))))))) (.cons (.set (.nm 4) (.op .add (.var 4) (.lst (.cons (.tup (.cons (.var 2) (.cons (.op .add (.var 3) (.tup (.cons (.tup (.cons (.op .sub (.var 2) (.con (.int 1))) (.cons (.var 2) .nil))) .nil))) .nil))) (.cons (.tup (.cons (.var 2) (.cons (.op .add (.var 3) (.tup (.cons (.tup (.cons (.con (.int 1)) (.cons (.con (.int 0)) .nil))) .nil))) .nil))) (.cons (.lst (.cons (.var 2) (.cons (.var 3) .nil))) (.cons (.tup (.cons (.var 2) (.cons (.var 3) (.cons (.tup .nil) .nil)))) (.cons (.con (.str "1")) .nil)))))))) (.cons (.set (.nm 4) (.op .add (.var 4) (.lst (.cons (.tup (.cons (.var 2) (.cons (.con .non) .nil))) (.cons (.tup (.cons (.var 2) (.cons (.tup (.cons (.tup (.cons (.con (.int 0)) .nil)) .nil)) .nil))) (.cons (.tup (.cons (.neg (.con (.int 1))) (.cons (.tup .nil) .nil))) (.cons (.tup (.cons (.var 2) (.cons (.op .add (.var 3) (.tup (.cons (.con .non) .nil))) .nil))) (.cons (.tup (.cons (.var 2) (.cons (.tup (.cons (.tup (.cons (.con (.int 0)) (.cons (.con (.int 1)) .nil))) (.cons (.tup (.cons (.con (.int 0)) (.cons (.con (.int 1)) .nil))) .nil))) .nil))) .nil)))))))) (.cons (.ret (.ix (.op .add (.var 4) (.lst (.cons (.tup (.cons (.con (.str "1")) (.cons (.tup .nil) .nil))) (.cons .dic (.cons (.tup (.cons (.var 2) (.cons (.tup (.cons (.tup (.cons (.con (.bl false)) (.cons (.con (.int 1)) .nil))) .nil)) .nil))) (.cons (.tup (.cons (.op .pow (.con (.int 10)) (.con (.int 30))) (.cons (.tup .nil) .nil))) .nil)))))) (.op .mod (.var 1) (.con (.int 22))))) .nil)))))⟩
noncomputable def od:D->Bool
 | .int _=>false
 | .fn _=>false
 | .exn _=>false
 |_=>true
noncomputable def nt:D->Bool
 | .tup _=>false
 | .fn _=>false
 | .exn _=>false
 |_=>true
theorem pick{l:List D}{P:D->Prop}(hL:∀d∈l,P d)(i:Int)(h:0<=i/\i<l.length):∃d,ixD (.lst l) (.int i)=.ok d/\P d:=by
 obtain⟨j,rfl⟩:∃j:Nat,i=j:=⟨i.toNat,by lia⟩
 have hj:j<l.length:=by lia
 refine⟨l[j],?_,hL _ (dH hj)⟩;simp only[ixD];rw[fW hj]
theorem pR(xs ys:List D)(h:xs.length+ys.length<=SZ):op2 .add (.tup xs) (.tup ys)=.ok (.tup (xs++ys)):=by
 rw[op2,if_pos ⟨rfl,h⟩]
noncomputable def eE(m T:Int)(TS:List D):List D:=[.non,.int m,.tup [.int m],.tup [.int m,.lst (TS)],.tup [.int 0,.tup []],.tup [.int 9,.tup []],.tup [.bl true,.tup []],.tup [.int m,.tup (TS++[.tup [.int 0,.int 0]])],.tup [.int m,.tup (TS++[.tup [.int (m-1),.int m]])],.tup [.int m,.tup (TS++[.tup [.int 1,.int 0]])],.lst [.int m,.tup (TS)],.tup [.int m,.tup (TS),.tup []],.str "1",.tup [.int m,.non],.tup [.int m,.tup [.tup [.int 0]]],.tup [.int (-1),.tup []],.tup [.int m,.tup (TS++[.non])],.tup [.int m,.tup [.tup [.int 0,.int 1],.tup [.int 0,.int 1]]],.tup [.str "1",.tup []],.dic [],.tup [.int m,.tup [.tup [.bl false,.int 1]]],.tup [.int T,.tup []]]
section
variable{p:Pr}(B:Web p)
include B
theorem mX{k:Nat}{d:D}(h:od d=true):qa p (k+1) "is_whole" [d]=.ok (.bl false):=by
 rw[qc B.is_whole];cases d<;>first|(cases h;done)|rfl
theorem we{k:Nat}(i a b:Int):qa p (k+2) "is_between" [.int i,.int a,.int b]=.ok (.bl (decide (a<=i/\i<=b))):=by
 have e1:qm .le (.int a) (.int i)=.ok (decide (a<=i)):=rfl;have e2:qm .le (.int i) (.int b)=.ok (decide (i<=b)):=rfl;by_cases q:a<=i
 ·have e1:qm .le (.int a) (.int i)=.ok true:=by rw[e1,decide_eq_true q]
  by_cases q2:i<=b
  ·have e2:qm .le (.int i) (.int b)=.ok true:=by rw[e2,decide_eq_true q2]
   rw[qc B.is_between];refine qi rfl rfl ?_;simp[KG.Z,zL,is_whole B,e1,e2,q,q2]
  ·have e2:qm .le (.int i) (.int b)=.ok false:=by rw[e2,decide_eq_false q2]
   rw[qc B.is_between];refine qi rfl rfl ?_;simp[KG.Z,zL,is_whole B,e1,e2,q,q2]
 ·have e1:qm .le (.int a) (.int i)=.ok false:=by rw[e1,decide_eq_false q]
  rw[qc B.is_between];refine qi rfl rfl ?_;simp[KG.Z,zL,is_whole B,e1,q]
theorem pL{k:Nat}{d:D}(h:od d=true)(a b:D):qa p (k+2) "is_between" [d,a,b]=.ok (.bl false):=by
 rw[qc B.is_between];refine qi rfl rfl ?_;simp[KG.Z,zL,mX B h]
theorem hZ{k:Nat}{d:D}(h:nt d=true):qa p (k+1) "is_pair" [d]=.ok (.bl false):=by
 rw[qc B.is_pair];cases d<;>first|(cases h;done)|rfl
theorem rD{k:Nat}(xs:List D):qa p (k+1) "is_pair" [.tup xs]=.ok (.bl (decide ((xs.length:Int)=2))):=by
 have e:=kC xs;have e2:=eq_int (xs.length:Int) 2;rw[qc B.is_pair];refine qi rfl rfl ?_;simp[KG.Z,iy,e,e2]
theorem p9{k:Nat}(a b m:Int):qa p (k+2) "is_tie" [.tup [.int a,.int b],.int m]=.ok (.bl (decide (0<=a/\a<b/\b<m))):=by
 have e1:qm .le (.int 0) (.int a)=.ok (decide (0<=a)):=rfl;have e2:qm .lt (.int a) (.int b)=.ok (decide (a<b)):=rfl;have e3:qm .lt (.int b) (.int m)=.ok (decide (b<m)):=rfl;by_cases q1:0<=a
 ·rw[decide_eq_true q1]at e1;by_cases q2:a<b
  ·rw[decide_eq_true q2]at e2;by_cases q3:b<m
   ·rw[decide_eq_true q3]at e3;rw[qc B.is_tie];refine qi rfl rfl ?_;simp[KG.Z,eJ,is_pair B,is_whole B,e1,e2,e3,q1,q2,q3]
   ·rw[decide_eq_false q3]at e3;rw[qc B.is_tie];refine qi rfl rfl ?_;simp[KG.Z,eJ,is_pair B,is_whole B,e1,e2,e3,q1,q2,q3]
  ·rw[decide_eq_false q2]at e2;rw[qc B.is_tie];refine qi rfl rfl ?_;simp[KG.Z,eJ,is_pair B,is_whole B,e1,e2,q1,q2]
 ·rw[decide_eq_false q1]at e1;rw[qc B.is_tie];refine qi rfl rfl ?_;simp[KG.Z,eJ,is_pair B,is_whole B,e1,q1]
theorem pQ{k:Nat}{d:D}{m:D}(h:∀k,qa p (k+1) "is_pair" [d]=.ok (.bl false)):qa p (k+2) "is_tie" [d,m]=.ok (.bl false):=by
 rw[qc B.is_tie];refine qi rfl rfl ?_;simp[KG.Z,eJ,h]
theorem Dt{k:Nat}{a b:D}{m:D}(h:od a=true):qa p (k+2) "is_tie" [.tup [a,b],m]=.ok (.bl false):=by
 rw[qc B.is_tie];refine qi rfl rfl ?_;simp[KG.Z,eJ,is_pair B,mX B h]
theorem wj{k:Nat}(xs:List D)(hz:xs.length<=100)(b:Nat->Bool)(h:∀(i:Nat) (q:i+1<xs.length),qm .lt xs[i] xs[i+1]=.ok (b i)):qa p (k+1) "rises" [.tup xs]=.ok (.bl ((bW (xs.length-1)).all b)):=by
 rw[qc B.rises];refine qi (τ:=[some (.tup xs)]) rfl rfl ?_;have hr:qD ((xs.length:Int)-1)=true:=by simp[qD];lia
 have hc:evE ⟨qa p k,p.glb,p.sub,p.cat⟩ (.comp (.rng (.op .sub (.bi .len (.cons (.var 0) .nil)) (.con (.int 1)))) [none,none,some 0] (.nm 1) .yes (.cmp .lt (.ix (.var 2) (.var 1)) (.ix (.var 2) (.op .add (.var 1) (.con (.int 1)))))) [some (.tup xs)]=.ok (.lst ((bW (xs.length-1)).map λi=>.bl (b i))):=by
  refine iT (f:=λ(i:Nat)=>D.int (i:Int)) (c:=[some (.tup xs)]) (λi=>.bl (b i)) ?_ ?_ rfl ?_
  ·have e:dA 0 (xs.length-1)=(bW (xs.length-1)).map λ(i:Nat)=>D.int (i:Int):=by
    rw[dA];simp
   simp[KG.Z,b1,seq?,op2,hr,e]
  ·simp[SZ];lia
  ·intro i hi;have hi:=List.mem_range.mp hi;have e1:atI xs (i:Int)=some xs[i]:=fW (by lia);have e2:atI xs ((i:Int)+1)=some xs[i+1]:=fW (i:=i+1) (by lia);have e3:=h i (by lia);simp[KG.Z,ixD,op2,e1,e2,e3]
 have h3:=rh (bW (xs.length-1)) b;show qe _ (.cons (.ret (.bi .all (.cons _ .nil))) .nil) _=_;rw[qe,zw,qx,zo,hc];simp only[R.bind_ok,zo,h3,R.out_ok]
theorem gQ{k:Nat}{d:D}(h:∀k,qa p (k+1) "is_pair" [d]=.ok (.bl false)):qa p (k+3) "is_web" [d]=.ok (.bl false):=by
 have h:=h (k+1);rw[qc B.is_web];refine qi rfl rfl ?_;simp[KG.Z,fJ,h]
theorem mh{k:Nat}{a b:D}(h:∀k,qa p (k+2) "is_between" [a,.int 1,.int 8]=.ok (.bl false)):qa p (k+3) "is_web" [.tup [a,b]]=.ok (.bl false):=by
 rw[qc B.is_web];refine qi rfl rfl ?_;simp[KG.Z,fJ,is_pair B,B.MOST,h]
theorem mW{k:Nat}{m:Int}(h:1<=m/\m<=8){b:D}(hb:nt b=true):qa p (k+3) "is_web" [.tup [.int m,b]]=.ok (.bl false):=by
 have e:∀w:W,dD w b (.ty "tuple")=.ok (.bl false):=λw=>by cases b<;>first|(cases hb;done)|rfl
 rw[qc B.is_web];refine qi rfl rfl ?_;simp[KG.Z,fJ,is_pair B,is_between B m 1 8 h,B.MOST,e]
theorem ma{k:Nat}{m:Int}(h:1<=m/\m<=8){ys:List (D×Bool)}{xs:List D}(hx:xs=ys.map (·.1))(hz:xs.length<=100)(hf:∀y∈ys,qa p (k+2) "is_tie" [y.1,.int m]=.ok (.bl y.2))(hb:ys.all (·.2)=false\/qa p (k+2) "rises" [.tup xs]=.ok (.bl false)):qa p (k+3) "is_web" [.tup [.int m,.tup xs]]=.ok (.bl false):=by
 rw[qc B.is_web];refine qi (τ:=[some (.tup [.int m,.tup xs]),none,none]) rfl rfl ?_;have hc:evE ⟨qa p (k+2),p.glb,p.sub,p.cat⟩ (.comp (.seq (.var 2)) [none,none,some 1] (.nm 1) .yes (.call "is_tie" (.cons (.var 1) (.cons (.var 2) .nil)))) [some (.tup [.int m,.tup xs]),some (.int m),some (.tup xs)]=.ok (.lst (ys.map λx=>.bl x.2)):=by
  refine iT (f:=λ(x:D×Bool)=>x.1) (c:=[some (.int m)]) (λ(x:D×Bool)=>.bl x.2) (by rw[<-hx];exact EU rfl) (by rw[hx]at hz;simp at hz;simp[SZ];lia) rfl λx hx=>?_
  have e:=hf x hx;simp[KG.Z,e]
 have h3:=rh ys (·.2);show qe _ (.cons (.ite _ _ _) (.cons (.set (.tp [1,2]) _) (.cons (.ite _ _ _) (.cons (.ret (.and (.bi .all (.cons _ .nil)) _)) .nil)))) _=_;refine cK (σ:=[some (.tup [.int m,.tup xs]),none,none]) (by simp[KG.Z,is_pair B]) ?_;refine cK (σ:=[some (.tup [.int m,.tup xs]),some (.int m),some (.tup xs)]) (by simp[KG.Z]) ?_;refine cK (σ:=[some (.tup [.int m,.tup xs]),some (.int m),some (.tup xs)]) (by simp[KG.Z,is_between B m 1 8 h,B.MOST]) ?_;rw[qe,zw,qC,qx,zo,hc];simp only[R.bind_ok,zo,h3];rcases hb with hb|hb
 ·rw[hb];rfl
 ·cases q:ys.all (·.2)with
  |false=>rfl
  |true=>simp[KG.Z,hb]
theorem BP(hf:p.fns "_law_no_web" = some iV){k:Nat}{m:Int}{ts:List (Int×Int)}(h:GW m ts)(n:Int):∃d,qa p (k+1) "_law_no_web" [wb m ts,.int n]=.ok d/\∀k,qa p (k+3) "is_web" [d]=.ok (.bl false):=by
 have hm:1<=m/\m<=8:=⟨h.lo,h.hi⟩
 have hl:=h.len;have hz:(ts.map prD).length<=99:=by simp;lia
 have old:∀(k:Nat) (x:D),x∈ts.map prD->qa p (k+2) "is_tie" [x,.int m]=.ok (.bl true):=λk x hx=>by
  obtain⟨t,ht,rfl⟩:=aU.mp hx;exact is_tie B t.1 t.2 m (h.ok t ht)
 -- a tie more that is none
 have more:∀(x:D),(∀k,qa p (k+2) "is_tie" [x,.int m]=.ok (.bl false))->∀k,qa p (k+3) "is_web" [.tup [.int m,.tup (ts.map prD++[x])]]=.ok (.bl false):=λx hx k=>by
  refine ma B hm (ys:=ts.map (λt=>(prD t,true))++[(x,false)]) (by simp) (by simp at hz ⊢;lia) (λy hy=>?_) (.inl (by simp));rcases List.mem_append.mp hy with z|z
  ·obtain⟨t,ht,rfl⟩:=aU.mp z;exact is_tie B t.1 t.2 m (h.ok t ht)
  ·rw[List.mem_singleton.mp z];exact hx k
 have hT:op2 .pow (.int 10) (.int 30)=.ok (.int (10^30)):=by rw[op2,opI,if_pos (by decide)];rfl
 have hb:¬ ((1:Int)<=10^30/\(10:Int)^30<=8):=by decide
 generalize (10:Int)^30=T at *;have hL:∀d∈eE m T (ts.map prD),∀k,qa p (k+3) "is_web" [d]=.ok (.bl false):=by
  have num:∀(i:Int) (b:D),¬ (1<=i/\i<=8)->∀k,qa p (k+3) "is_web" [.tup [.int i,b]]=.ok (.bl false):=λi b hi k=>mh B λk=>by rw[we B,decide_eq_false hi]
  have len:∀xs:List D,(xs.length:Int)≠2->∀k,qa p (k+3) "is_web" [.tup xs]=.ok (.bl false):=λxs hx k=>gQ B λk=>by rw[rD B,decide_eq_false hx]
  have one:∀x:D,(∀k,qa p (k+2) "is_tie" [x,.int m]=.ok (.bl false))->∀k,qa p (k+3) "is_web" [.tup [.int m,.tup [x]]]=.ok (.bl false):=λx hx k=>ma B hm (ys:=[(x,false)]) rfl (by simp) (λy hy=>by rw[List.mem_singleton.mp hy];exact hx k) (.inl rfl)
  have tv:∀a b:Int,¬ (0<=a/\a<b/\b<m)->∀k,qa p (k+2) "is_tie" [.tup [.int a,.int b],.int m]=.ok (.bl false):=λa b q k=>by rw[p9 B,decide_eq_false q]
  simp only[eE,List.forall_mem_cons];refine⟨λk=>gQ B λk=>hZ B rfl,λk=>gQ B λk=>hZ B rfl,len _ (by simp),λk=>mW B hm rfl,num 0 _ (by decide),num 9 _ (by decide),λk=>mh B λk=>pL B rfl _ _,more _ (tv 0 0 (by lia)),more _ (tv (m-1) m (by lia)),more _ (tv 1 0 (by lia)),λk=>gQ B λk=>hZ B rfl,len _ (by simp),λk=>gQ B λk=>hZ B rfl,λk=>mW B hm rfl,one _ λk=>pQ B λk=>by rw[rD B];rfl,num (-1) _ (by decide),more _ λk=>pQ B λk=>hZ B rfl,?_,λk=>mh B λk=>pL B rfl _ _,λk=>gQ B λk=>hZ B rfl,one _ λk=>Dt B rfl,num T _ hb,by simp⟩;intro k;refine ma B hm (ys:=[(.tup [.int 0,.int 1],decide (1<m)),(.tup [.int 0,.int 1],decide (1<m))]) rfl (by simp) (λy hy=>?_) ?_
  ·simp only[aI,b9,or_false,or_self]at hy;rw[hy,p9 B];simp
  ·refine .inr ?_;have:=wj B (k:=k+1) [.tup [.int 0,.int 1],.tup [.int 0,.int 1]] (by simp) (λ_=>false) λi q=>by
    have:i=0:=by simp at q;lia
    subst this;rfl
   rw[this];rfl
 obtain⟨d,e,hd⟩:=pick hL (n%22) ⟨by lia,by show n%22<22;lia⟩;refine⟨d,?_,hd⟩;rw[qc hf];refine qi (τ:=[some (.tup [.int m,.tup (ts.map prD)]),some (.int n),none,none,none]) rfl rfl ?_;have a1:∀x:D,op2 .add (.tup (ts.map prD)) (.tup [x])=.ok (.tup (ts.map prD++[x])):=λx=>pR _ _ (by simp[SZ];lia)
 have a2:b1 .list [.tup (ts.map prD)]=.ok (.lst (ts.map prD)):=rfl;have a3:op2 .mod (.int n) (.int 22)=.ok (.int (n%22)):=rfl;have a4:op2 .sub (.int m) (.int 1)=.ok (.int (m-1)):=rfl;have a5:∀xs ys:List D,xs.length+ys.length<=100->op2 .add (.lst xs) (.lst ys)=.ok (.lst (xs++ys)):=λxs ys q=>by rw[op2,if_pos ⟨rfl,by simp[SZ];lia⟩]
 generalize ts.map prD=TS at *;show qe _ (.cons _ (.cons _ (.cons _ (.cons _ (.cons _ .nil))))) _=_;refine cK (σ:=[some (.tup [.int m,.tup TS]),some (.int n),some (.int m),some (.tup TS),none]) (by simp[KG.Z]) ?_;refine cK (σ:=[some (.tup [.int m,.tup TS]),some (.int n),some (.int m),some (.tup TS),some (.lst ((eE m T TS).take 8))]) (by simp[KG.Z,a1,a2,eE]) ?_;refine cK (σ:=[some (.tup [.int m,.tup TS]),some (.int n),some (.int m),some (.tup TS),some (.lst ((eE m T TS).take 13))]) (by simp[KG.Z,a1,a4,a5,eE]) ?_;refine cK (σ:=[some (.tup [.int m,.tup TS]),some (.int n),some (.int m),some (.tup TS),some (.lst ((eE m T TS).take 18))]) (by simp[KG.Z,a1,a5,eE,qF]) ?_;rw[qe,zw,qB];have f1:evE ⟨qa p k,p.glb,p.sub,p.cat⟩ (.op .add (.var 4) (.lst (.cons (.tup (.cons (.con (.str "1")) (.cons (.tup .nil) .nil))) (.cons .dic (.cons (.tup (.cons (.var 2) (.cons (.tup (.cons (.tup (.cons (.con (.bl false)) (.cons (.con (.int 1)) .nil))) .nil)) .nil))) (.cons (.tup (.cons (.op .pow (.con (.int 10)) (.con (.int 30))) (.cons (.tup .nil) .nil))) .nil)))))) [some (.tup [.int m,.tup TS]),some (.int n),some (.int m),some (.tup TS),some (.lst ((eE m T TS).take 18))]=.ok (.lst (eE m T TS)):=by simp[KG.Z,hT,a5,eE,qM]
 rw[f1];have f2:evE ⟨qa p k,p.glb,p.sub,p.cat⟩ (.op .mod (.var 1) (.con (.int 22))) [some (.tup [.int m,.tup TS]),some (.int n),some (.int m),some (.tup TS),some (.lst ((eE m T TS).take 18))]=.ok (.int (n%22)):=by simp[KG.Z,a3]
 rw[f2];simp only[R.bind_ok];rw[e];rfl
end
end KG
namespace K43
open PySem PySem.Spec PyProof.Rows L2 EV
noncomputable def top(i:Nat):Stmt:=PySem.Challenge.pw_holdplaces_k43_whole_bounds_by_ends.main.body.getD i (.Pass ⟨0,0,0,0⟩)
abbrev ke:Fn:=KG.ke
abbrev zL:Fn:=KG.zL
abbrev iy:Fn:=KG.iy
abbrev i6:Fn:=KG.i6
noncomputable def vR:Fn:=⟨2,2,false,(.cons (.while (.cmp .gt (.var 0) (.con (.int 0))) (.cons (.par 0 1 (.op .mod (.var 1) (.var 0)) (.var 0)) .nil)) (.cons (.ret (.var 1)) .nil))⟩
noncomputable def xh:Fn:=⟨2,3,false,(.cons (.set (.nm 2) (.call "common_divisor" (.cons (.var 0) (.cons (.var 1) .nil)))) (.cons (.ret (.tup (.cons (.op .fdiv (.var 0) (.var 2)) (.cons (.op .fdiv (.var 1) (.var 2)) .nil)))) .nil))⟩
noncomputable def xK:Fn:=⟨1,1,false,(.cons (.ret (.op .fdiv (.op .sub (.op .add (.ix (.var 0) (.con (.int 0))) (.ix (.var 0) (.con (.int 1)))) (.con (.int 1))) (.ix (.var 0) (.con (.int 1))))) .nil)⟩
abbrev fJ:Fn:=KG.fJ
abbrev eJ:Fn:=KG.eJ
abbrev gS:Fn:=KG.gS
abbrev gG:Fn:=KG.gG
abbrev fO:Fn:=KG.fO
abbrev fq:Fn:=KG.fq
noncomputable def iw:Fn:=⟨2,6,false,(.cons (.set (.nm 2) (.dic1 (.var 1) (.con (.int 0)))) (.cons (.set (.nm 3) (.lst (.cons (.var 1) .nil))) (.cons (.while (.val (.own 3)) (.cons (.pop0 4 3) (.cons (.for (.nm 5) (.seq (.call "hood_of" (.cons (.var 0) (.cons (.var 4) .nil)))) (.cons (.ite (.cmp .notin (.var 5) (.own 2)) (.cons (.seti 2 (.var 5) (.op .add (.ix (.own 2) (.var 4)) (.con (.int 1)))) (.cons (.app 3 (.var 5)) .nil)) .nil) .nil)) .nil))) (.cons (.ret (.own 2)) .nil))))⟩
noncomputable def gA:Fn:=⟨1,5,true,(.cons (.exp (.call "need_web" (.cons (.var 0) .nil))) (.cons (.set (.nm 1) (.lst .nil)) (.cons (.set (.nm 2) .dic) (.cons (.for (.nm 3) (.rng (.ix (.var 0) (.con (.int 0)))) (.cons (.ite (.cmp .notin (.var 3) (.own 2)) (.cons (.set (.nm 4) (.call "ways_from" (.cons (.var 0) (.cons (.var 3) .nil)))) (.cons (.dupd 2 (.var 4)) (.cons (.app 1 (.bi .tuple (.cons (.bi .sorted (.cons (.var 4) .nil)) .nil))) .nil))) .nil) .nil)) (.cons (.ret (.own 1)) .nil)))))⟩
noncomputable def jx:Fn:=⟨1,3,false,(.cons (.exp (.call "need_web" (.cons (.var 0) .nil))) (.cons (.set (.tp [1,2]) (.var 0)) (.cons (.ret (.and (.cmp .eq (.bi .len (.cons (.call "pieces" (.cons (.var 0) .nil)) .nil)) (.con (.int 1))) (.cmp .eq (.bi .len (.cons (.var 2) .nil)) (.op .sub (.var 1) (.con (.int 1)))))) .nil)))⟩
noncomputable def gF:Fn:=⟨1,1,false,(.cons (.ite (.not (.val (.call "is_tree" (.cons (.var 0) .nil)))) (.cons (.raise "NotTree" (.cons (.con (.str "a tree is due")) .nil)) .nil) .nil) .nil)⟩
noncomputable def jB:Fn:=⟨1,1,false,(.cons (.exp (.call "need_tree" (.cons (.var 0) .nil))) (.cons (.ret (.bi .tuple (.cons (.comp (.enum (.call "hoods" (.cons (.var 0) .nil))) [none,none,none] (.tp [1,2]) (.cmp .eq (.bi .len (.cons (.var 2) .nil)) (.con (.int 2))) (.var 1)) .nil))) .nil))⟩
noncomputable def jR:Fn:=⟨1,2,false,(.cons (.set (.nm 1) (.bi .len (.cons (.call "ends" (.cons (.var 0) .nil)) .nil))) (.cons (.ret (.call "rounded_up" (.cons (.call "lowest" (.cons (.op .sub (.op .add (.ix (.var 0) (.con (.int 0))) (.con (.int 2))) (.var 1)) (.cons (.con (.int 3)) .nil))) .nil))) .nil))⟩
abbrev i8:Fn:=KG.i8
abbrev iC:Fn:=KG.iC
abbrev gf:Fn:=KG.gf
abbrev gP:Fn:=KG.gP
abbrev jj:Fn:=KG.jj
abbrev jh:Fn:=KG.jh
abbrev jr:Fn:=KG.jr
noncomputable def nv:Fn:=⟨1,2,false,(.cons (.set (.nm 1) (.lst (.cons (.isi (.var 0) (.ex "NoWeb")) (.cons (.isi (.var 0) (.ex "NoPlaces")) (.cons (.isi (.var 0) (.ex "NoPlace")) (.cons (.isi (.var 0) (.ex "NoNumber")) .nil)))))) (.cons (.set (.nm 1) (.op .add (.var 1) (.lst (.cons (.isi (.var 0) (.ex "NotUntied")) (.cons (.isi (.var 0) (.ex "NoShares")) (.cons (.isi (.var 0) (.ex "NotTree")) (.cons (.isi (.var 0) (.ex "NotTold")) .nil))))))) (.cons (.set (.nm 1) (.op .add (.var 1) (.lst (.cons (.isi (.var 0) (.ex "NoCrowds")) (.cons (.isi (.var 0) (.ex "NoText")) (.cons (.isi (.var 0) (.ex "NoLine")) (.cons (.isi (.var 0) (.ex "NoDeed")) .nil))))))) (.cons (.set (.nm 1) (.op .add (.var 1) (.lst (.cons (.isi (.var 0) (.ex "NotAll")) (.cons (.isi (.var 0) (.ex "TooGreat")) .nil))))) (.cons (.ite (.or (.not (.val (.isi (.var 0) (.ty "ValueError")))) (.cmp .ne (.mth false (.var 1)) (.con (.int 1)))) (.cons (.ret (.neg (.con (.int 1)))) .nil) .nil) (.cons (.ret (.mth true (.var 1))) .nil))))))⟩
abbrev fU:Fn:=KG.fU
abbrev gJ:Fn:=KG.gJ
abbrev zF:Fn:=KG.zF
noncomputable def jN:Fn:=⟨2,6,false,(.cons (.set (.nm 2) (.lst .nil)) (.cons (.for (.nm 3) (.rng (.var 0)) (.cons (.ins 2 (.op .mod (.call "_law_stir" (.cons (.var 1) (.cons (.op .add (.var 3) (.con (.int 40))) .nil))) (.op .add (.var 3) (.con (.int 1)))) (.var 3)) .nil)) (.cons (.set (.nm 4) (.lst .nil)) (.cons (.for (.nm 5) (.rng2 (.con (.int 1)) (.var 0)) (.cons (.app 4 (.bi .tuple (.cons (.bi .sorted (.cons (.lst (.cons (.ix (.own 2) (.var 5)) (.cons (.ix (.own 2) (.op .mod (.call "_law_stir" (.cons (.var 1) (.cons (.var 5) .nil))) (.var 5))) .nil))) .nil)) .nil))) .nil)) (.cons (.ret (.tup (.cons (.var 0) (.cons (.bi .tuple (.cons (.bi .sorted (.cons (.own 4) .nil)) .nil)) .nil)))) .nil)))))⟩
abbrev iV:Fn:=KG.iV
noncomputable def nj:Fn:=⟨1,2,false,(.cons (.try (.cons (.ret (.call "by_ends" (.cons (.var 0) .nil))) .nil) "PlaceError" (some 1) (.cons (.ret (.tup (.cons (.con (.str "no")) (.cons (.call "_law_kinds" (.cons (.var 1) .nil)) .nil)))) .nil)) .nil)⟩
noncomputable def lQ:Fn:=⟨1,2,false,(.cons (.ite (.cmp .lt (.ix (.var 0) (.con (.int 0))) (.con (.int 3))) (.cons (.ret (.con (.int 1))) .nil) .nil) (.cons (.set (.nm 1) (.op .sub (.op .add (.ix (.var 0) (.con (.int 0))) (.con (.int 2))) (.bi .len (.cons (.comp (.rng (.ix (.var 0) (.con (.int 0)))) [none,none,some 0] (.nm 1) (.cmp .eq (.bi .len (.cons (.call "_law_hood" (.cons (.var 2) (.cons (.var 1) .nil))) .nil)) (.con (.int 2))) (.var 1)) .nil)))) (.cons (.ret (.ix (.comp (.rng (.op .add (.var 1) (.con (.int 1)))) [none,none,some 1] (.nm 1) (.cmp .ge (.op .mul (.con (.int 3)) (.var 1)) (.var 2)) (.var 1)) (.con (.int 0)))) .nil)))⟩
noncomputable def kj:Fn:=⟨1,1,false,(.cons (.ret (.and (.call "_law_same" (.cons (.call "_law_told" (.cons (.var 0) .nil)) (.cons (.call "_law_due" (.cons (.var 0) .nil)) .nil))) (.cmp .ge (.call "fewest" (.cons (.var 0) .nil)) (.call "by_ends" (.cons (.var 0) .nil))))) .nil)⟩
noncomputable def fT:Fn:=⟨1,7,false,(.cons (.for (.nm 1) (.seq (.op .add (.sl (.var 0) .none (.some (.con (.int 6)))) (.lst (.cons (.con (.int 0)) (.cons (.con (.int 3)) (.cons (.con (.int 129)) .nil)))))) (.cons (.set (.nm 2) (.op .add (.con (.int 1)) (.op .mod (.op .fdiv (.var 1) (.con (.int 64))) (.con (.int 8))))) (.cons (.set (.nm 3) (.call "_law_tree_by" (.cons (.var 2) (.cons (.op .fdiv (.var 1) (.con (.int 512))) .nil)))) (.cons (.ite (.not (.val (.call "_law_right" (.cons (.var 3) .nil)))) (.cons (.ret (.con (.bl false))) .nil) .nil) (.cons (.ite (.and (.cmp .gt (.var 2) (.con (.int 2))) (.cmp .lt (.var 2) (.con (.int 8)))) (.cons (.set (.nm 4) (.ix (.comp (.rng (.var 2)) [none,none,some 3] (.nm 1) (.cmp .eq (.bi .len (.cons (.call "_law_hood" (.cons (.var 2) (.cons (.var 1) .nil))) .nil)) (.con (.int 2))) (.var 1)) (.con (.int 0)))) (.cons (.ite (.cmp .lt (.call "by_ends" (.cons (.tup (.cons (.op .add (.var 2) (.con (.int 1))) (.cons (.bi .tuple (.cons (.bi .sorted (.cons (.op .add (.ix (.var 3) (.con (.int 1))) (.tup (.cons (.tup (.cons (.var 4) (.cons (.var 2) .nil))) .nil))) .nil)) .nil)) .nil))) .nil)) (.call "by_ends" (.cons (.var 3) .nil))) (.cons (.ret (.con (.bl false))) .nil) .nil) .nil)) .nil) (.cons (.ite (.and (.cmp .lt (.var 2) (.con (.int 8))) (.cmp .ne (.call "_law_told" (.cons (.tup (.cons (.op .add (.var 2) (.con (.int 1))) (.cons (.ix (.var 3) (.con (.int 1))) .nil))) .nil)) (.tup (.cons (.con (.str "no")) (.cons (.con (.int 6)) .nil))))) (.cons (.ret (.con (.bl false))) .nil) .nil) (.cons (.ite (.cmp .ne (.call "_law_told" (.cons (.call "_law_no_web" (.cons (.var 3) (.cons (.call "_law_stir" (.cons (.var 1) (.cons (.con (.int 1)) .nil))) .nil))) .nil)) (.tup (.cons (.con (.str "no")) (.cons (.con (.int 0)) .nil)))) (.cons (.ret (.con (.bl false))) .nil) .nil) .nil))))))) (.cons (.for (.nm 2) (.rng2 (.con (.int 1)) (.con (.int 9))) (.cons (.set (.nm 5) (.tup (.cons (.var 2) (.cons (.bi .tuple (.cons (.comp (.rng (.op .sub (.var 2) (.con (.int 1)))) [none,none] (.nm 1) .yes (.tup (.cons (.var 1) (.cons (.op .add (.var 1) (.con (.int 1))) .nil)))) .nil)) .nil)))) (.cons (.set (.nm 6) (.tup (.cons (.var 2) (.cons (.bi .tuple (.cons (.comp (.rng2 (.con (.int 1)) (.var 2)) [none,none] (.nm 1) .yes (.tup (.cons (.con (.int 0)) (.cons (.var 1) .nil)))) .nil)) .nil)))) (.cons (.ite (.or (.not (.val (.call "_law_right" (.cons (.var 5) .nil)))) (.or (.not (.val (.call "_law_right" (.cons (.var 6) .nil)))) (.or (.cmp .ne (.call "by_ends" (.cons (.var 5) .nil)) (.call "fewest" (.cons (.var 5) .nil))) (.cmp .ne (.call "by_ends" (.cons (.var 6) .nil)) (.con (.int 1)))))) (.cons (.ret (.con (.bl false))) .nil) .nil) .nil)))) (.cons (.ret (.con (.bl true))) .nil)))⟩
abbrev x9:Ent:=⟨"is_whole",top 17,[],false,ke⟩
abbrev BV:Ent:=⟨"is_between",top 18,[],false,zL⟩
abbrev uR:Ent:=⟨"is_pair",top 19,[],false,iy⟩
abbrev wR:Ent:=⟨"rises",top 20,[],false,i6⟩
abbrev uv:Ent:=⟨"common_divisor",top 22,[],false,vR⟩
abbrev uA:Ent:=⟨"lowest",top 23,[],false,xh⟩
abbrev BY:Ent:=⟨"rounded_up",top 24,[],false,xK⟩
abbrev AG:Ent:=⟨"is_web",top 27,[],false,fJ⟩
abbrev Du:Ent:=⟨"is_tie",top 28,[],false,eJ⟩
abbrev Eg:Ent:=⟨"need_web",top 29,[],false,gS⟩
abbrev A_:Ent:=⟨"hoods",top 30,[],false,gG⟩
abbrev uh:Ent:=⟨"hood_of",top 31,[],false,fO⟩
abbrev An:Ent:=⟨"are_tied",top 32,[],false,fq⟩
abbrev AB:Ent:=⟨"ways_from",top 33,[ak "ways",ak "waiting"],false,iw⟩
abbrev uS:Ent:=⟨"pieces",top 34,[ak "seen",ak "found"],true,gA⟩
abbrev uC:Ent:=⟨"is_tree",top 35,[],false,jx⟩
abbrev x_:Ent:=⟨"need_tree",top 37,[],false,gF⟩
abbrev EG:Ent:=⟨"ends",top 38,[],false,jB⟩
abbrev w8:Ent:=⟨"by_ends",top 39,[],false,jR⟩
abbrev E_:Ent:=⟨"mark_of",top 41,[],false,i8⟩
abbrev wM:Ent:=⟨"marks_of",top 42,[],false,iC⟩
abbrev vL:Ent:=⟨"all_some",top 43,[],false,gf⟩
abbrev Fs:Ent:=⟨"all_holding",top 44,[],false,gP⟩
abbrev Ap:Ent:=⟨"fewest",top 46,[],false,jj⟩
abbrev ED:Ent:=⟨"first_fewest",top 47,[],false,jh⟩
abbrev w9:Ent:=⟨"all_fewest",top 48,[],true,jr⟩
abbrev p7:Ent:=⟨"_law_kinds",top 50,[],false,nv⟩
abbrev El:Ent:=⟨"_law_hood",top 51,[ak "_law_found"],false,fU⟩
abbrev yB:Ent:=⟨"_law_same",top 52,[],false,gJ⟩
abbrev vt:Ent:=⟨"_law_stir",top 53,[],false,zF⟩
abbrev Bd:Ent:=⟨"_law_tree_by",top 54,[ak "_law_order",ak "_law_ties"],false,jN⟩
abbrev BM:Ent:=⟨"_law_no_web",top 55,[],false,iV⟩
abbrev B8:Ent:=⟨"_law_told",top 56,[],false,nj⟩
abbrev Ft:Ent:=⟨"_law_due",top 57,[],false,lQ⟩
abbrev xj:Ent:=⟨"_law_right",top 58,[],false,kj⟩
abbrev gD:Ent:=⟨"law",top 59,[],false,fT⟩
abbrev tab:List Ent:=[x9,BV,uR,wR,uv,uA,BY,AG,Du,Eg,A_,uh,An,AB,uS,uC,x_,EG,w8,E_,wM,vL,Fs,Ap,ED,w9,p7,El,yB,vt,Bd,BM,B8,Ft,xj,gD]
abbrev oth:List (Str×GK):=[(ak "PlaceError",GK.exk),(ak "NoWeb",GK.exc),(ak "NoPlaces",GK.exk),(ak "NoPlace",GK.exk),(ak "NoNumber",GK.exk),(ak "NotAll",GK.exk),(ak "NotUntied",GK.exk),(ak "NoShares",GK.exk),(ak "NotTree",GK.exc),(ak "NotTold",GK.exk),(ak "NoCrowds",GK.exk),(ak "NoText",GK.exk),(ak "NoLine",GK.exk),(ak "NoDeed",GK.exk),(ak "TooGreat",GK.exk),(ak "MOST",GK.val),(ak "len",GK.bi .len),(ak "tuple",GK.ty "tuple" (some .tuple)),(ak "list",GK.ty "list" (some .list)),(ak "int",GK.ty "int" (some .int)),(ak "bool",GK.ty "bool" (some .bool)),(ak "str",GK.ty "str" none),(ak "sorted",GK.bi .sorted),(ak "all",GK.bi .all),(ak "min",GK.bi .min),(ak "max",GK.bi .max),(ak "range",GK.rng),(ak "enumerate",GK.enum),(ak "zip",GK.zip),(ak "isinstance",GK.isi),(ak "ValueError",GK.ty "ValueError" none)]
abbrev vals:List (Str×D):=[(ak "MOST",(.int 8))]
abbrev G:List (Str×GK):=tab.map (λe=>(e.x,GK.fn e.fr))++oth
abbrev dz:List (Str×Str):=[(ak "NoWeb",ak "PlaceError"),(ak "NotTree",ak "PlaceError")]
abbrev us:List Ent:=[p7]
abbrev subs:List ((Str×Cl)×Bool):=[((ak "NoWeb",.ty "ValueError"),true),((ak "NoWeb",.ex (ak "NoWeb")),true),((ak "NoWeb",.ex (ak "NoPlaces")),false),((ak "NoWeb",.ex (ak "NoPlace")),false),((ak "NoWeb",.ex (ak "NoNumber")),false),((ak "NoWeb",.ex (ak "NotUntied")),false),((ak "NoWeb",.ex (ak "NoShares")),false),((ak "NoWeb",.ex (ak "NotTree")),false),((ak "NoWeb",.ex (ak "NotTold")),false),((ak "NoWeb",.ex (ak "NoCrowds")),false),((ak "NoWeb",.ex (ak "NoText")),false),((ak "NoWeb",.ex (ak "NoLine")),false),((ak "NoWeb",.ex (ak "NoDeed")),false),((ak "NoWeb",.ex (ak "NotAll")),false),((ak "NoWeb",.ex (ak "TooGreat")),false),((ak "NotTree",.ty "ValueError"),true),((ak "NotTree",.ex (ak "NoWeb")),false),((ak "NotTree",.ex (ak "NoPlaces")),false),((ak "NotTree",.ex (ak "NoPlace")),false),((ak "NotTree",.ex (ak "NoNumber")),false),((ak "NotTree",.ex (ak "NotUntied")),false),((ak "NotTree",.ex (ak "NoShares")),false),((ak "NotTree",.ex (ak "NotTree")),true),((ak "NotTree",.ex (ak "NotTold")),false),((ak "NotTree",.ex (ak "NoCrowds")),false),((ak "NotTree",.ex (ak "NoText")),false),((ak "NotTree",.ex (ak "NoLine")),false),((ak "NotTree",.ex (ak "NoDeed")),false),((ak "NotTree",.ex (ak "NotAll")),false),((ak "NotTree",.ex (ak "TooGreat")),false)]
abbrev p:Pr:=prT tab vals dz subs
theorem pC:p.fns "by_ends" = some jR:=by kernel_rfl
theorem nU:p.fns "_law_kinds" = some nv:=by kernel_rfl
theorem oF:p.fns "_law_told" = some nj:=by kernel_rfl
theorem pH:p.fns "_law_due" = some lQ:=by kernel_rfl
theorem uL:p.fns "_law_right" = some kj:=by kernel_rfl
theorem wI:p.fns "law" = some fT:=by kernel_rfl
end K43
namespace KG
open EV
open PySem (Str)
open L2 (atI ixN ltP)
section
variable(m:Int)(ts:List (Int×Int))
noncomputable def fr(h:List Int)(a:Int):Bool:=decide (((hd m ts a).filter λx=>h.any λt=>t==x)=[])
end
section
variable{m:Int}{ts:List (Int×Int)}
theorem vE{a:Int}(ha:0<=a/\a<m):a∈hd m ts a:=by
 rw[hd,bu,b7];exact⟨ha,by simp⟩
end
noncomputable def both(s:List Int)(t:Int×Int):Bool:=(s.any λx=>x==t.1)&&(s.any λx=>x==t.2)
section
variable{m:Int}{ts:List (Int×Int)}
theorem wW{s:List Int}{x:Int}:(s.any λt=>t==x)=true↔x∈s:=by
 simp only[b_,beq_iff_eq,exists_eq_right]
end
section
variable{m:Int}{ts:List (Int×Int)}
end
section
variable{p:Pr}(B:Web p)(O:Nbr p)(S:gL p)
include B O S
end
end KG
namespace KG
open EV
open PySem (Str)
open L2 (atI ixN ltP atK cM cY)
def inR(m:Int)(ts:List (Int×Int))(r:Int):Nat->Int->Prop
 | 0,v=>v=r
 |k+1,v=>inR m ts r k v\/∃u,inR m ts r k u/\v∈hd m ts u
def eP(m:Int)(ts:List (Int×Int))(r v d:Int):Prop:=∃k:Nat,d=k/\inR m ts r k v/\∀j,j<k->¬ inR m ts r j v
def Key(kvs:List (Int×Int))(v:Int):Prop:=∃d,(v,d)∈kvs
section
variable{m:Int}{ts:List (Int×Int)}{r:Int}
theorem eP.uniq{v d e:Int}(h:eP m ts r v d)(h':eP m ts r v e):d=e:=by
 obtain⟨j,rfl,a1,a2⟩:=h;obtain⟨k,rfl,b1,b2⟩:=h';rcases Nat.lt_trichotomy j k with z|z|z
 ·exact absurd a1 (b2 j z)
 ·rw[z]
 ·exact absurd b1 (a2 k z)
theorem eP.le{v d:Int}(h:eP m ts r v d){k:Nat}(q:inR m ts r k v):d<=k:=by
 obtain⟨j,rfl,a1,a2⟩:=h;by_cases z:j<=k
 ·lia
 ·exact absurd q (a2 k (by lia))
theorem o9{u w:Int}(h:w∈hd m ts u):0<=w/\w<m:=b7.mp (bu.mp h).1
structure Bfs(m:Int)(ts:List (Int×Int))(r:Int)(kvs:List (Int×Int))(q:List Int):Prop where
 nd:(kvs.map (·.1)).Nodup
 ok:∀p∈kvs,eP m ts r p.1 p.2/\0<=p.1/\p.1<m
 rt:Key kvs r
 qk:∀u∈q,Key kvs u
 dn:∀p∈kvs,p.1∉q->∀w∈hd m ts p.1,Key kvs w
 so:∀v rr,q=v::rr->∃dv,(v,dv)∈kvs/\(∀u∈rr,∀du,(u,du)∈kvs->du<=dv+1)/\∀(k:Nat) w,(k:Int)<=dv->inR m ts r k w->Key kvs w
 sr:q.Pairwise λa b=>∀da db,(a,da)∈kvs->(b,db)∈kvs->da<=db
structure Bin(m:Int)(ts:List (Int×Int))(r v dv:Int)(kvs:List (Int×Int))(q l:List Int):Prop where
 nd:(kvs.map (·.1)).Nodup
 ok:∀p∈kvs,eP m ts r p.1 p.2/\0<=p.1/\p.1<m
 rt:Key kvs r
 vk:(v,dv)∈kvs
 qk:∀u∈q,Key kvs u
 dn:∀p∈kvs,p.1∉q->p.1≠v->∀w∈hd m ts p.1,Key kvs w
 pr:∀u∈hd m ts v,u∈l\/Key kvs u
 lh:∀u∈l,u∈hd m ts v
 bd:∀u∈q,∀du,(u,du)∈kvs->dv<=du/\du<=dv+1
 ev:∀(k:Nat) w,(k:Int)<=dv->inR m ts r k w->Key kvs w
 sr:q.Pairwise λa b=>∀da db,(a,da)∈kvs->(b,db)∈kvs->da<=db
theorem Bfs.start(h0:0<=r)(h:r<m):Bfs m ts r [(r,0)] [r]:=by
 have d0:eP m ts r r 0:=⟨0,rfl,rfl,λj z=>by lia⟩
 refine⟨by simp,λp hp=>?_,⟨0,by simp⟩,λu hu=>?_,λp hp hn=>?_,λv rr e=>?_,by simp⟩
 ·simp at hp;subst hp;exact⟨d0,h0,h⟩
 ·simp at hu;subst hu;exact⟨0,by simp⟩
 ·simp at hp;subst hp;simp at hn
 ·cases e;refine⟨0,by simp,λu hu=>by simp at hu,λk w hk q=>?_⟩;have:k=0:=by lia
  subst this;have q:w=r:=q;subst q;exact⟨0,by simp⟩
theorem Bfs.take{kvs:List (Int×Int)}{v:Int}{q:List Int}(b:Bfs m ts r kvs (v::q)):∃dv,Bin m ts r v dv kvs q (hd m ts v):=by
 obtain⟨dv,h1,h2,h3⟩:=b.so v q rfl;have sr:=List.pairwise_cons.mp b.sr;refine⟨dv,b.nd,b.ok,b.rt,h1,λu hu=>b.qk u (by simp[hu]),λp hp hn hv=>b.dn p hp (by simp[hn,hv]),λu hu=>.inl hu,λu hu=>hu,λu hu du FJ=>⟨sr.1 u hu dv du h1 FJ,h2 u hu du FJ⟩,h3,sr.2⟩
theorem i7{kvs:List (Int×Int)}{u d w:Int}(h:Key kvs w):Key (kvs++[(u,d)]) w:=by
 obtain⟨e,h⟩:=h;exact⟨e,by simp[h]⟩
theorem Bin.old{v dv u:Int}{kvs:List (Int×Int)}{q l:List Int}(b:Bin m ts r v dv kvs q (u::l))(h:Key kvs u):Bin m ts r v dv kvs q l:=
 ⟨b.nd,b.ok,b.rt,b.vk,b.qk,b.dn,λw hw=>by
  rcases b.pr w hw with z|z
  ·rcases aI.mp z with rfl|z
   ·exact .inr h
   ·exact .inl z
  ·exact .inr z,λw hw=>b.lh w (by simp[hw]),b.bd,b.ev,b.sr⟩
theorem Bin.new{v dv u:Int}{kvs:List (Int×Int)}{q l:List Int}(b:Bin m ts r v dv kvs q (u::l))(h:¬ Key kvs u):Bin m ts r v dv (kvs++[(u,dv+1)]) (q++[u]) l:=by
 have hu:=b.lh u aM;obtain⟨u0,u1⟩:=o9 hu;have dvd:=(b.ok _ b.vk).1;obtain⟨kv,rfl,k1,k2⟩:=dvd;have du:eP m ts r u ((kv:Int)+1):=⟨kv+1,by lia,.inr ⟨v,k1,hu⟩,λj hj y=>h (b.ev j u (by lia) y)⟩
 have nu:u∉kvs.map (·.1):=λz=>by
  obtain⟨p,hp,e⟩:=aU.mp z;exact h ⟨p.2,by rw[<-e];exact hp⟩
 have old:∀{w d:Int},(w,d)∈kvs++[(u,(kv:Int)+1)]->w≠u->(w,d)∈kvs:=λ{w d} hw hn=>by
  rcases List.mem_append.mp hw with z|z
  ·exact z
  ·simp at z;exact absurd z.1 hn
 have new:∀{d:Int},(u,d)∈kvs++[(u,(kv:Int)+1)]->d=kv+1:=λ{d} hw=>by
  rcases List.mem_append.mp hw with z|z
  ·exact absurd ⟨d,z⟩ h
  ·simp at z;exact z
 refine⟨?_,λp hp=>?_,i7 b.rt,by simp[b.vk],λw hw=>?_,λp hp hn hv w hw=>?_,λw hw=>?_,λw hw=>b.lh w (by simp[hw]),λw hw d FJ=>?_,λk w hk y=>i7 (b.ev k w hk y),?_⟩
 ·rw[List.map_append];refine List.nodup_append.mpr ⟨b.nd,by simp,λa ha c hc e=>?_⟩;simp at hc;subst hc e;exact nu ha
 ·rcases List.mem_append.mp hp with z|z
  ·exact b.ok p z
  ·simp at z;subst z;exact⟨du,u0,u1⟩
 ·rcases List.mem_append.mp hw with z|z
  ·exact i7 (b.qk w z)
  ·simp at z;subst z;exact⟨(kv:Int)+1,by simp⟩
 ·have NA:p.1≠u:=λe=>hn (by simp[e])
  have NB:=old (w:=p.1) (d:=p.2) hp NA;exact i7 (b.dn p NB (λz=>hn (by simp[z])) hv w hw)
 ·rcases b.pr w hw with z|z
  ·rcases aI.mp z with rfl|z
   ·exact .inr ⟨(kv:Int)+1,by simp⟩
   ·exact .inl z
  ·exact .inr (i7 z)
 ·by_cases e:w=u
  ·subst e;have:=new FJ;lia
  ·rcases List.mem_append.mp hw with z|z
   ·exact b.bd w z d (old FJ e)
   ·simp at z;exact absurd z e
 ·refine List.pairwise_append.mpr ⟨?_,by simp,?_⟩
  ·refine(List.Pairwise.and_mem.mp b.sr).imp λ{x y} ⟨hx,hy,z⟩ dx dy h1 h2=>?_
   have nx:x≠u:=λe=>h (e▸b.qk x hx)
   have ny:y≠u:=λe=>h (e▸b.qk y hy)
   exact z dx dy (old h1 nx) (old h2 ny)
  ·intro x hx y hy dx dy h1 h2;simp at hy;subst hy;have nx:x≠y:=λe=>h (e▸b.qk x hx)
   have:=(b.bd x hx dx (old h1 nx)).2;have:=new h2;lia
theorem Bin.done{v dv:Int}{kvs:List (Int×Int)}{q:List Int}(b:Bin m ts r v dv kvs q []):Bfs m ts r kvs q:=by
 have dn:∀p∈kvs,p.1∉q->∀w∈hd m ts p.1,Key kvs w:=λp hp hn w hw=>by
  by_cases e:p.1=v
  ·rw[e]at hw;rcases b.pr w hw with z|z
   ·cases z
   ·exact z
  ·exact b.dn p hp hn e w hw
 refine⟨b.nd,b.ok,b.rt,b.qk,dn,λv2 rr e=>?_,b.sr⟩;subst e;obtain⟨d2,h2⟩:=b.qk v2 aM;have b2:=b.bd v2 aM d2 h2;have sr:=List.pairwise_cons.mp b.sr;refine⟨d2,h2,λu hu du FJ=>by have:=(b.bd u (by simp[hu]) du FJ).2;lia,λk w hk y=>?_⟩;by_cases z:(k:Int)<=dv
 ·exact b.ev k w z y
 ·have dvd:=(b.ok _ b.vk).1;obtain⟨kv,rfl,k1,k2⟩:=dvd;have:k=kv+1:=by lia
  subst this;rcases y with y|⟨u,y,hw⟩
  ·exact b.ev kv w (by lia) y
  ·obtain⟨du,JQ⟩:=b.ev kv u (by lia) y;have le:=(b.ok _ JQ).1.le y;have le:du<=kv:=le;refine dn (u,du) JQ (λhq=>?_) w hw;rcases aI.mp hq with e|hq
   ·have e:u=v2:=e;subst e;have:=((b.ok _ JQ).1).uniq (b.ok _ h2).1;have:du=d2:=this;lia
   ·have:=sr.1 u hq d2 du h2 JQ;lia
structure dW(m:Int)(ts:List (Int×Int))(r:Int)(kvs:List (Int×Int)):Prop where
 nd:(kvs.map (·.1)).Nodup
 ok:∀p∈kvs,eP m ts r p.1 p.2/\0<=p.1/\p.1<m
 all:∀k w,inR m ts r k w->Key kvs w
theorem Bfs.ways{kvs:List (Int×Int)}(b:Bfs m ts r kvs []):dW m ts r kvs:=by
 refine⟨b.nd,b.ok,λk=>?_⟩
 induction k with
 |zero=>intro w h;have h:w=r:=h;subst h;exact b.rt
 |succ k ih=>
  rintro w (h|⟨u,h,hw⟩)
  ·exact ih w h
  ·obtain⟨d,hu⟩:=ih u h;exact b.dn (u,d) hu (by simp) w hw
theorem DF{kvs:List (Int×Int)}(nd:(kvs.map (·.1)).Nodup){v d:Int}:atK kvs v=some d↔(v,d)∈kvs:=by
 rw[atK]
 induction kvs with
 |nil=>simp
 |cons p l ih=>
  rw[aN,List.nodup_cons]at nd;rw[List.find?_cons];by_cases e:p.1=v
  ·rw[decide_eq_true e];constructor
   ·intro h;cases h;rw[<-e];exact aM
   ·intro h;rcases aI.mp h with z|z
    ·rw[<-z];rfl
    ·exact absurd (aU.mpr ⟨(v,d),z,e.symm⟩) nd.1
  ·rw[decide_eq_false e];rw[ih nd.2];constructor
   ·intro h;exact aR _ h
   ·intro h;rcases aI.mp h with z|z
    ·exact absurd (by rw[<-z]) e
    ·exact z
theorem jl(kvs:List (Int×Int))(v:Int):(kvs.any λp=>decide (p.1=v))=true↔Key kvs v:=by
 rw[b_];constructor
 ·rintro⟨p,hp,e⟩;exact⟨p.2,by rw[<-of_decide_eq_true e];exact hp⟩
 ·rintro⟨d,h⟩;exact⟨(v,d),h,by simp⟩
theorem dW.mem{kvs:List (Int×Int)}(a:dW m ts r kvs){v:Int}:v∈kvs.map (·.1)↔∃k,inR m ts r k v:=by
 constructor
 ·intro h;obtain⟨p,hp,rfl⟩:=aU.mp h;obtain⟨k,_,i,_⟩:=(a.ok p hp).1;exact⟨k,i⟩
 ·rintro⟨k,h⟩;obtain⟨d,FJ⟩:=a.all k v h;exact aU.mpr ⟨(v,d),FJ,rfl⟩
end
theorem uZ{w:W}{τ:Env}{J K:Env->Prop}{Q:D->Prop}{t:T}{b r:Ss}(I:Nat->Env->Prop){n:Nat}(h0:I n τ)(hn:n<fF)
  (ht:∀n σ,I n σ->∃v,evT w t σ=.ok v/\(v=true->∃k,n=k+1/\Ends (I k) Q (qe w b σ))/\(v=false->K σ)) (hr:∀σ,K σ->Ends J Q (qe w r σ)):Ends J Q (qe w (.cons (.while t b) r) τ):=by
 have key:∀(f n:Nat) (σ:Env),I n σ->n<f->Ends K Q (eF (λσ=>evT w t σ) (λσ=>qe w b σ) f σ):=by
  intro f
  induction f with
  |zero=>intro n σ _ h;lia
  |succ f ih=>
   intro n σ hi hf;obtain⟨v,e,a1,a2⟩:=ht n σ hi;rw[eF,e];simp only[R.out_ok];cases v with
   |false=>simp only[bD,if_false];exact a2 rfl
   |true=>
    obtain⟨k,rfl,hb⟩:=a1 rfl;simp only[if_true];cases z:qe w b σ with
    |nx σ2=>rw[z]at hb;exact ih k σ2 hb (by lia)
    |rt d=>rw[z]at hb;exact hb
    |_=>rw[z]at hb;exact hb.elim
 refine pf (K:=K) ?_ hr;have hk:=key fF n τ h0 hn;rw[cF];cases z:eF (λσ=>evT w t σ) (λσ=>qe w b σ) fF τ with
 |nx σ2=>rw[z]at hk;exact hk
 |rt d=>rw[z]at hk;exact hk
 |_=>rw[z]at hk;exact hk.elim
noncomputable def iw:Fn:=⟨2,6,false,(.cons (.set (.nm 2) (.dic1 (.var 1) (.con (.int 0)))) (.cons (.set (.nm 3) (.lst (.cons (.var 1) .nil))) (.cons (.while (.val (.own 3)) (.cons (.pop0 4 3) (.cons (.for (.nm 5) (.seq (.call "hood_of" (.cons (.var 0) (.cons (.var 4) .nil)))) (.cons (.ite (.cmp .notin (.var 5) (.own 2)) (.cons (.seti 2 (.var 5) (.op .add (.ix (.own 2) (.var 4)) (.con (.int 1)))) (.cons (.app 3 (.var 5)) .nil)) .nil) .nil)) .nil))) (.cons (.ret (.own 2)) .nil))))⟩
theorem j6{m:Int}{l:List Int}(nd:l.Nodup)(h:∀x∈l,0<=x/\x<m):l.length<=m.toNat:=by
 have s:∀x∈l,x∈rng m:=λx hx=>b7.mpr (h x hx)
 have key:∀{L M:List Int},L.Nodup->(∀x∈L,x∈M)->L.length<=M.length:=by
  intro L
  induction L with
  |nil=>intros;exact bH _
  |cons x L ih=>
   intro M h s;have hx:=s x aM;have h1:=List.nodup_cons.mp h;have:=ih (M:=M.erase x) h1.2 λy hy=>(List.mem_erase_of_ne (a:=y) (b:=x) (λe=>h1.1 (by rw[<-e];exact hy))).mpr (s y (aR _ hy))
   rw[List.length_erase_of_mem hx]at this;have:0<M.length:=List.length_pos_of_mem hx;rw[bA];lia
 have:=key nd s
 rwa[zp]at this
theorem vN{kvs:List (Int×Int)}{u d:Int}(h:¬ Key kvs u):cM kvs u d=kvs++[(u,d)]:=by
 rw[cM,if_neg (λz=>h ((jl kvs u).mp z))]
section
variable{p:Pr}(L8:p.fns "hood_of" = some fO)(L9:p.fns "are_tied" = some fq)(hf:p.fns "ways_from" = some iw)
include L8 L9 hf
theorem ways_from{k:Nat}{m:Int}{ts:List (Int×Int)}(h:GW m ts){r:Int}(h0:0<=r)(h1:r<m):∃kvs,dW m ts r kvs/\qa p (k+3) "ways_from" [wb m ts,.int r]=.ok (.dic kvs):=by
 have h8:=h.hi;have Ld:∀a:Int,0<=a->a<m->qa p (k+2) "hood_of" [wb m ts,.int a]=.ok (tu (hd m ts a)):=λa _ _=>oG L8 L9 (k:=k) h a
 rw[qc hf];have main:Ends (λ_=>False) (λd=>∃kvs,dW m ts r kvs/\d=.dic kvs) (qe (wAt p (k+2)) iw.body [some (wb m ts),some (.int r),none,none,none,none]):=by
  refine zB (σ:=[some (wb m ts),some (.int r),some (.dic [(r,0)]),none,none,none]) rfl ?_;refine zB (σ:=[some (wb m ts),some (.int r),some (.dic [(r,0)]),some (.lst ([r].map D.int)),none,none]) rfl ?_;refine uZ (K:=λσ=>∃kvs v5 v6,dW m ts r kvs/\σ=[some (wb m ts),some (.int r),some (.dic kvs),some (.lst []),v5,v6])
   (λn σ=>∃kvs q v5 v6,Bfs m ts r kvs q/\n=q.length+(m.toNat-kvs.length)/\n<=8/\σ=[some (wb m ts),some (.int r),some (.dic kvs),some (.lst (q.map D.int)),v5,v6]) ⟨[(r,0)],[r],none,none,.start h0 h1,rfl,by simp;lia,rfl⟩ (by simp[fF];lia) ?_ ?_
  ·rintro n σ ⟨kvs,q,v5,v6,b,rfl,L_,rfl⟩;cases q with
   |nil=>exact⟨false,rfl,λz=>(by cases z),λ_=>⟨kvs,v5,v6,b.ways,rfl⟩⟩
   |cons v q=>
    refine⟨true,rfl,λ_=>⟨q.length+(m.toNat-kvs.length),by rw[bA];lia,?_⟩,λz=>(by cases z)⟩;obtain⟨dv,hv⟩:=b.qk v aM;obtain⟨Hk,bin⟩:=b.take;obtain⟨_,v0,v1⟩:=b.ok _ hv;refine zB (σ:=[some (wb m ts),some (.int r),some (.dic kvs),some (.lst (q.map D.int)),some (.int v),v6]) rfl ?_;have hh:=Ld v v0 v1;refine gq (ds:=(hd m ts v).map D.int) (λl σ=>∃(us:List Int) (FD:List (Int×Int)) (q':List Int) (v6:Option D),l=us.map D.int/\Bin m ts r v Hk FD q' us/\q'.length+(m.toNat-FD.length)=q.length+(m.toNat-kvs.length)/\σ=[some (wb m ts),some (.int r),some (.dic FD),some (.lst (q'.map D.int)),some (.int v),v6]) ?_ ⟨_,kvs,q,v6,rfl,bin,rfl,rfl⟩ ?_ ?_
    ·generalize wb m ts=WB at *;have e:seq? (tu (hd m ts v))=some ((hd m ts v).map D.int):=rfl;generalize tu (hd m ts v)=TH at *;simp[KG.Z,hh,e]
    ·rintro x t σ ⟨us,FD,q',NC,e,bn,hm,rfl⟩;obtain⟨u,us,rfl,rfl,rfl⟩:=fx e;refine⟨[some (wb m ts),some (.int r),some (.dic FD),some (.lst (q'.map D.int)),some (.int v),some (.int u)],rfl,?_⟩;have kl:=j6 bn.nd λy hy=>by
      obtain⟨p,hp,rfl⟩:=aU.mp hy;exact(bn.ok p hp).2
     rw[aV]at kl;have ND:ixD (.dic FD) (.int v)=.ok (.int Hk):=by
      simp only[ixD,(DF bn.nd).mpr bn.vk]
     by_cases z:Key FD u
     ·have c1:qm .notin (.int u) (.dic FD)=.ok false:=by
       simp only[zS,zg,zr,zl,zR,zT,zQ,seq?,dC,R.bind_ok,(jl FD u).mpr z];rfl
      refine zB (σ:=[some (wb m ts),some (.int r),some (.dic FD),some (.lst (q'.map D.int)),some (.int v),some (.int u)]) ?_ (eS ⟨us,FD,q',_,rfl,bn.old z,hm,rfl⟩);generalize wb m ts=WB at *;generalize D.dic FD=DK at *;generalize D.lst (q'.map D.int)=LQ at *;simp[KG.Z,c1]
     ·have c1:qm .notin (.int u) (.dic FD)=.ok true:=by
       have:(FD.any λp=>decide (p.1=u))=false:=by
        cases q:(FD.any λp=>decide (p.1=u))with
        |false=>rfl
        |true=>exact absurd ((jl FD u).mp q) z
       simp only[zS,zg,zr,zl,zR,zT,zQ,seq?,dC,R.bind_ok,this];rfl
      have bw:=bn.new z;have L':=j6 bw.nd λy hy=>by
       obtain⟨p,hp,rfl⟩:=aU.mp hy;exact(bw.ok p hp).2
      rw[aV,bP]at L';simp only[bA,List.length_nil]at L';have ql:q'.length<=8:=by rw[bA]at L_;lia
      have qz:(q'.map D.int).length<SZ:=by rw[aV];simp[SZ];lia
      have kz:FD.length<SZ:=by simp[SZ];lia
      have pn:=vN (d:=Hk+1) z;have a1:op2 .add (.int Hk) (.int 1)=.ok (.int (Hk+1)):=rfl;refine zB (σ:=[some (wb m ts),some (.int r),some (.dic (FD++[(u,Hk+1)])),some (.lst ((q'++[u]).map D.int)),some (.int v),some (.int u)]) ?_ (eS ⟨us,_,_,_,rfl,bw,by rw[bP,bP];simp only[bA,List.length_nil];lia,rfl⟩);rw[List.map_append];have NF:evS (wAt p (k+2)) (.seti 2 (.var 5) (.op .add (.ix (.own 2) (.var 4)) (.con (.int 1)))) [some (wb m ts),some (.int r),some (.dic FD),some (.lst (q'.map D.int)),some (.int v),some (.int u)]=.nx [some (wb m ts),some (.int r),some (.dic (FD++[(u,Hk+1)])),some (.lst (q'.map D.int)),some (.int v),some (.int u)]:=by
       have e1:evE (wAt p (k+2)) (.op .add (.ix (.own 2) (.var 4)) (.con (.int 1))) [some (wb m ts),some (.int r),some (.dic FD),some (.lst (q'.map D.int)),some (.int v),some (.int u)]=.ok (.int (Hk+1)):=by
        generalize wb m ts=WB at *;generalize D.dic FD=DK at *;generalize D.lst (q'.map D.int)=LQ at *;simp[KG.Z,ND,a1]
       rw[cG,e1];show (if FD.length<SZ then EV.O.nx _ else EV.O.no)=_;rw[if_pos kz,pn];rfl
      have Hd:evS (wAt p (k+2)) (.app 3 (.var 5)) [some (wb m ts),some (.int r),some (.dic (FD++[(u,Hk+1)])),some (.lst (q'.map D.int)),some (.int v),some (.int u)]=.nx [some (wb m ts),some (.int r),some (.dic (FD++[(u,Hk+1)])),some (.lst (q'.map D.int++[.int u])),some (.int v),some (.int u)]:=by
       rw[l7 (xs:=q'.map D.int) (d:=.int u) rfl rfl qz];rfl
      have t1:evT (wAt p (k+2)) (.cmp .notin (.var 5) (.own 2)) [some (wb m ts),some (.int r),some (.dic FD),some (.lst (q'.map D.int)),some (.int v),some (.int u)]=.ok true:=by
       generalize wb m ts=WB at *;generalize D.dic FD=DK at *;generalize D.lst (q'.map D.int)=LQ at *;simp[KG.Z,c1]
      rw[zP,t1];simp only[R.out_ok,if_true];rw[qe,NF];show qe _ (.cons _ .nil) _=_;rw[qe,Hd];rfl
    ·rintro σ ⟨us,FD,q',NC,e,bn,hm,rfl⟩;cases us with
     |nil=>exact eS ⟨FD,q',_,_,bn.done,hm.symm,by rw[bA]at L_;lia,rfl⟩
     |cons _ _=>cases e
  ·rintro σ ⟨kvs,v5,v6,wy,rfl⟩;exact jm (d:=.dic kvs) rfl ⟨kvs,wy,rfl⟩
 obtain⟨d,e,kvs,wy,rfl⟩:=l4 (w:=wAt p (k+2)) (f:=iw) (ds:=[wb m ts,.int r]) rfl rfl main;exact⟨kvs,wy,e⟩
end
theorem sM{kvs:List (Int×Int)}{u d:Int}:(cM kvs u d).map (·.1)=if (kvs.any λp=>decide (p.1=u))=true then kvs.map (·.1)else kvs.map (·.1)++[u]:=by
 rw[cM];split
 ·rw[ck];refine List.map_congr_left λp _=>?_
  show (if p.1=u then (p.1,d)else p).1=p.1;split<;>rfl
 ·rw[List.map_append];rfl
theorem BX{kvs:List (Int×Int)}{u d:Int}(h:(kvs.map (·.1)).Nodup):((cM kvs u d).map (·.1)).Nodup:=by
 rw[sM];split
 ·exact h
 ·rename_i z
  refine List.nodup_append.mpr ⟨h,by simp,λa ha c hc e=>?_⟩;simp at hc;subst hc e;obtain⟨p,hp,e⟩:=aU.mp ha;exact z (b_.mpr ⟨p,hp,by simpa using e⟩)
section
variable{m:Int}{ts:List (Int×Int)}{r:Int}
def Lss(kvs FD:List (Int×Int)):Prop:=∀x e,atK kvs x=some e->∃e',atK FD x=some e'/\e'<=e
theorem Lss.refl(kvs:List (Int×Int)):Lss kvs kvs:=λx e h=>⟨e,h,Int.le_refl _⟩
end
section
variable{p:Pr}(hH:p.fns "_law_hood" = some fU)(hf:p.fns "_law_ways" = some f__law_ways)
include hH hf
end
section
variable{m:Int}{ts:List (Int×Int)}
theorem jL{a x:Int}(ha:0<=a/\a<m)(h:x∈hd m ts a):a∈hd m ts x:=by
 rw[o3]at h ⊢;exact⟨ha,h.2.imp Eq.symm λe=>by rw[BL];exact e⟩
def Rch(m:Int)(ts:List (Int×Int))(r v:Int):Prop:=∃k,inR m ts r k v
theorem Rch.refl(r:Int):Rch m ts r r:=⟨0,rfl⟩
theorem Rch.step{r u v:Int}(h:Rch m ts r u)(q:v∈hd m ts u):Rch m ts r v:=by
 obtain⟨k,h⟩:=h;exact⟨k+1,.inr ⟨u,h,q⟩⟩
theorem Rch.trans{a b c:Int}(h:Rch m ts a b)(h':Rch m ts b c):Rch m ts a c:=by
 obtain⟨k,h'⟩:=h'
 induction k generalizing c with
 |zero=>
  have e:c=b:=h';rw[e];exact h
 |succ k ih=>
  rcases h' with q|⟨u,q,hw⟩
  ·exact ih q
  ·exact(ih q).step hw
theorem Rch.symm{a b:Int}(ha:0<=a/\a<m)(h:Rch m ts a b):Rch m ts b a/\0<=b/\b<m:=by
 obtain⟨k,h⟩:=h
 induction k generalizing b with
 |zero=>
  have e:b=a:=h;rw[e];exact⟨.refl a,ha⟩
 |succ k ih=>
  rcases h with q|⟨u,q,hw⟩
  ·exact ih q
  ·obtain⟨i1,i2⟩:=ih q;have:=jL (m:=m) (ts:=ts) i2 hw;exact⟨Rch.trans (Rch.step (.refl b) this) i1,o9 hw⟩
theorem dW.key{r v:Int}{kvs:List (Int×Int)}(a:dW m ts r kvs):Key kvs v↔Rch m ts r v:=by
 constructor
 ·rintro⟨d,h⟩;obtain⟨k,_,i,_⟩:=(a.ok _ h).1;exact⟨k,i⟩
 ·rintro⟨k,h⟩;exact a.all k v h
noncomputable def ks(kvs:List (Int×Int)):List Int:=sortI (kvs.map (·.1))
theorem r_{kvs:List (Int×Int)}{v:Int}:v∈ks kvs↔Key kvs v:=by
 rw[ks,(sortI_perm _).mem_iff,aU];constructor
 ·rintro⟨p,hp,rfl⟩;exact⟨p.2,hp⟩
 ·rintro⟨d,h⟩;exact⟨(v,d),h,rfl⟩
theorem tZ{a b:Int}{x y:List (Int×Int)}(ha:0<=a/\a<m)(hx:dW m ts a x)(hy:dW m ts b y)(h:Rch m ts a b):ks x=ks y:=by
 have hs:=(h.symm ha).1;have pm:(x.map (·.1)).Perm (y.map (·.1)):=(List.perm_ext_iff_of_nodup hx.nd hy.nd).mpr λv=>by
  rw[hx.mem,hy.mem];exact⟨λq=>hs.trans q,λq=>h.trans q⟩
 exact jJ ((sortI_perm _).trans pm) (mE _)
noncomputable def ddp(S:Int->List Int):List Int->List (List Int)->List (List Int)
 | [],acc=>acc
 |a::l,acc=>ddp S l (if S a∈acc then acc else acc++[S a])
theorem ud{kvs:List (Int×Int)}{u d x:Int}:Key (cM kvs u d) x↔Key kvs x\/x=u:=by
 have e:∀l:List (Int×Int),Key l x↔x∈l.map (·.1):=λl=>by
  rw[aU];constructor
  ·rintro⟨d,h⟩;exact⟨(x,d),h,rfl⟩
  ·rintro⟨p,hp,rfl⟩;exact⟨p.2,hp⟩
 rw[e,e,sM];split
 ·rename_i h
  obtain⟨p,hp,f⟩:=b_.mp h;constructor
  ·exact .inl
  ·rintro(h|rfl)
   ·exact h
   ·exact aU.mpr ⟨p,hp,by simpa using f⟩
 ·simp
theorem kD{x:Int}:∀(ms kvs:List (Int×Int)),Key (cY kvs ms) x↔Key kvs x\/Key ms x
 | [],kvs=>by
  show Key kvs x↔_;constructor
  ·exact .inl
  ·rintro(h|⟨d,h⟩)
   ·exact h
   ·cases h
 |p::l,kvs=>by
  show Key (cY (cM kvs p.1 p.2) l) x↔_;rw[kD l,ud];constructor
  ·rintro((h|rfl)|⟨d,h⟩)
   ·exact .inl h
   ·exact .inr ⟨p.2,aM⟩
   ·exact .inr ⟨d,aR _ h⟩
  ·rintro(h|⟨d,h⟩)
   ·exact .inl (.inl h)
   ·rcases aI.mp h with e|h
    ·exact .inl (.inr (by rw[<-e]))
    ·exact .inr ⟨d,h⟩
theorem ou:∀(ms kvs:List (Int×Int)),(kvs.map (·.1)).Nodup->((cY kvs ms).map (·.1)).Nodup
 | [],kvs,h=>h
 |p::l,kvs,h=>ou l (cM kvs p.1 p.2) (BX h)
end
noncomputable def gA(b:Bool):Fn:=⟨1,5,b,(.cons (.exp (.call "need_web" (.cons (.var 0) .nil))) (.cons (.set (.nm 1) (.lst .nil)) (.cons (.set (.nm 2) .dic) (.cons (.for (.nm 3) (.rng (.ix (.var 0) (.con (.int 0)))) (.cons (.ite (.cmp .notin (.var 3) (.own 2)) (.cons (.set (.nm 4) (.call "ways_from" (.cons (.var 0) (.cons (.var 3) .nil)))) (.cons (.dupd 2 (.var 4)) (.cons (.app 1 (.bi .tuple (.cons (.bi .sorted (.cons (.var 4) .nil)) .nil))) .nil))) .nil) .nil)) (.cons (.ret (.own 1)) .nil)))))⟩
theorem Ay{kvs:List (Int×Int)}(h:kvs.length<64):b1 .sorted [.dic kvs]=.ok (.lst ((ks kvs).map D.int)):=by
 show (if kvs.length<64 then R.ok (D.lst ((sortI (kvs.map (·.1))).map D.int))else .no)=_;rw[if_pos h];rfl
section
variable{p:Pr}{b:Bool}(B:Web p)(hf:p.fns "pieces" = some (gA b))
include B hf
theorem pieces{k:Nat}{m:Int}{ts:List (Int×Int)}(h:GW m ts){W:Int->List (Int×Int)}(hW:∀a,0<=a->a<m->dW m ts a (W a)/\qa p (k+4) "ways_from" [wb m ts,.int a]=.ok (.dic (W a))) :
  qa p (k+5) "pieces" [wb m ts]=.ok (.lst ((ddp (λa=>ks (W a)) (rng m) []).map tu)):=by
 have h8:=h.hi;have hl:=h.lo;have hx:ixD (wb m ts) (.int 0)=.ok (.int m):=rfl;have hm:qD m=true:=by simp[qD];lia
 have e1:=need_web B (k:=k) h;have wl:∀a,0<=a->a<m->(W a).length<=8:=λa a0 a1=>by
  have w:=(hW a a0 a1).1;have:=j6 w.nd λy hy=>by
   obtain⟨q,hq,rfl⟩:=aU.mp hy;exact(w.ok q hq).2
  rw[aV]at this;lia
 rw[qc hf];have main:Ends (λ_=>False) (λd=>d=.lst ((ddp (λa=>ks (W a)) (rng m) []).map tu)) (qe (wAt p (k+4)) (gA b).body [some (wb m ts),none,none,none,none]):=by
  refine zB (σ:=[some (wb m ts),none,none,none,none]) (by generalize wb m ts=WB at *;simp[KG.Z,e1]) ?_;refine zB (σ:=[some (wb m ts),some (.lst []),none,none,none]) rfl ?_;refine zB (σ:=[some (wb m ts),some (.lst []),some (.dic []),none,none]) rfl ?_;refine gq (ds:=(rng m).map D.int) (λl σ=>∃(as:List Int) (acc:List (List Int)) (seen:List (Int×Int)) (v3 v4:Option D),l=as.map D.int/\(∀a∈as,0<=a/\a<m)/\ddp (λa=>ks (W a)) as acc=ddp (λa=>ks (W a)) (rng m) []/\acc.length+as.length<=8/\(seen.map (·.1)).Nodup/\(∀x,Key seen x->0<=x/\x<m)/\(∀x,0<=x->x<m->(Key seen x↔ks (W x)∈acc))/\σ=[some (wb m ts),some (.lst (acc.map tu)),some (.dic seen),v3,v4]) ?_ ⟨rng m,[],[],none,none,rfl,λa ha=>b7.mp ha,rfl,by rw[zp];simp;lia,by simp,λx ⟨d,z⟩=>(by cases z),λx _ _=>⟨λ⟨d,z⟩=>(by cases z),λz=>(by cases z)⟩,rfl⟩ ?_ ?_
  ·rw[<-zZ];generalize wb m ts=WB at *;simp[KG.Z,hx,hm]
  ·rintro x l σ ⟨as,acc,seen,v3,v4,e,has,FJ,hlen,nd,rg,iff,rfl⟩;obtain⟨a,as,rfl,rfl,rfl⟩:=fx e;obtain⟨a0,a1⟩:=has a aM;refine⟨[some (wb m ts),some (.lst (acc.map tu)),some (.dic seen),some (.int a),v4],rfl,?_⟩;rw[ddp]at FJ;rw[bA]at hlen;by_cases z:Key seen a
   ·have c1:qm .notin (.int a) (.dic seen)=.ok false:=by
     simp only[zS,zg,zr,zl,zR,zT,zQ,seq?,dC,R.bind_ok,(jl seen a).mpr z];rfl
    rw[if_pos ((iff a a0 a1).mp z)]at FJ;refine zB (σ:=[some (wb m ts),some (.lst (acc.map tu)),some (.dic seen),some (.int a),v4]) ?_ (eS ⟨as,acc,seen,_,_,rfl,λy hy=>has y (aR _ hy),FJ,by lia,nd,rg,iff,rfl⟩);generalize wb m ts=WB at *;generalize D.dic seen=DK at *;generalize D.lst (acc.map tu)=LQ at *;simp[KG.Z,c1]
   ·have c1:qm .notin (.int a) (.dic seen)=.ok true:=by
     have:(seen.any λp=>decide (p.1=a))=false:=by
      cases q:(seen.any λp=>decide (p.1=a))with
      |false=>rfl
      |true=>exact absurd ((jl seen a).mp q) z
     simp only[zS,zg,zr,zl,zR,zT,zQ,seq?,dC,R.bind_ok,this];rfl
    have nz:ks (W a)∉acc:=λq=>z ((iff a a0 a1).mpr q)
    rw[if_neg nz]at FJ;obtain⟨wa,ca⟩:=hW a a0 a1;have sl:=j6 nd λy hy=>by
     obtain⟨q,hq,rfl⟩:=aU.mp hy;exact rg q.1 ⟨q.2,hq⟩
    rw[aV]at sl;have OI:=wl a a0 a1;have kz:seen.length+(W a).length<SZ:=by simp[SZ];lia
    have sd:=Ay (kvs:=W a) (by lia);have az:(acc.map tu).length<SZ:=by rw[aV];simp[SZ];lia
    refine zB (σ:=[some (wb m ts),some (.lst ((acc++[ks (W a)]).map tu)),some (.dic (cY seen (W a))),some (.int a),some (.dic (W a))]) ?_ (eS ⟨as,_,_,_,_,rfl,λy hy=>has y (aR _ hy),FJ,by rw[bP];simp only[bA,List.length_nil];lia,ou _ _ nd,λx hx=>?_,λx x0 x1=>?_,rfl⟩)
    ·have s1:evS (wAt p (k+4)) (.set (.nm 4) (.call "ways_from" (.cons (.var 0) (.cons (.var 3) .nil)))) [some (wb m ts),some (.lst (acc.map tu)),some (.dic seen),some (.int a),v4]=.nx [some (wb m ts),some (.lst (acc.map tu)),some (.dic seen),some (.int a),some (.dic (W a))]:=by
      generalize wb m ts=WB at *;generalize D.dic seen=DK at *;generalize D.dic (W a)=DW at *;generalize D.lst (acc.map tu)=LQ at *;simp[KG.Z,ca]
     have s2:evS (wAt p (k+4)) (.dupd 2 (.var 4)) [some (wb m ts),some (.lst (acc.map tu)),some (.dic seen),some (.int a),some (.dic (W a))]=.nx [some (wb m ts),some (.lst (acc.map tu)),some (.dic (cY seen (W a))),some (.int a),some (.dic (W a))]:=by
      show (if seen.length+(W a).length<SZ then EV.O.nx _ else EV.O.no)=_;rw[if_pos kz];rfl
     have s3:evS (wAt p (k+4)) (.app 1 (.bi .tuple (.cons (.bi .sorted (.cons (.var 4) .nil)) .nil))) [some (wb m ts),some (.lst (acc.map tu)),some (.dic (cY seen (W a))),some (.int a),some (.dic (W a))]=.nx [some (wb m ts),some (.lst (acc.map tu++[tu (ks (W a))])),some (.dic (cY seen (W a))),some (.int a),some (.dic (W a))]:=by
      have t1:evE (wAt p (k+4)) (.bi .tuple (.cons (.bi .sorted (.cons (.var 4) .nil)) .nil)) [some (wb m ts),some (.lst (acc.map tu)),some (.dic (cY seen (W a))),some (.int a),some (.dic (W a))]=.ok (tu (ks (W a))):=by
       have t2:b1 .tuple [.lst ((ks (W a)).map D.int)]=.ok (tu (ks (W a))):=rfl;generalize wb m ts=WB at *;generalize D.dic (cY seen (W a))=DK at *;generalize D.dic (W a)=DW at *;generalize D.lst (acc.map tu)=LQ at *;generalize tu (ks (W a))=TT at *;simp[KG.Z,sd,t2]
      rw[l7 (xs:=acc.map tu) (d:=tu (ks (W a))) rfl t1 az];rfl
     have t1:evT (wAt p (k+4)) (.cmp .notin (.var 3) (.own 2)) [some (wb m ts),some (.lst (acc.map tu)),some (.dic seen),some (.int a),v4]=.ok true:=by
      generalize wb m ts=WB at *;generalize D.dic seen=DK at *;generalize D.lst (acc.map tu)=LQ at *;simp[KG.Z,c1]
     rw[zP,t1];simp only[R.out_ok,if_true];rw[qe,s1];show qe _ (.cons _ (.cons _ .nil)) _=_;rw[qe,s2];show qe _ (.cons _ .nil) _=_;rw[qe,s3,List.map_append];rfl
    ·rcases(kD (W a) seen).mp hx with q|⟨d,q⟩
     ·exact rg x q
     ·exact(wa.ok _ q).2
    ·rw[kD,iff x x0 x1,wa.key,List.mem_append];constructor
     ·rintro(q|q)
      ·exact .inl q
      ·exact .inr (by rw[tZ ⟨a0,a1⟩ wa (hW x x0 x1).1 q];simp)
     ·rintro(q|q)
      ·exact .inl q
      ·simp only[aI,b9,or_false]at q;have:x∈ks (W x):=r_.mpr ((hW x x0 x1).1.key.mpr (.refl x));rw[q]at this;exact .inr (wa.key.mp (r_.mp this))
  ·rintro σ ⟨as,acc,seen,v3,v4,e,has,FJ,hlen,nd,rg,iff,rfl⟩;cases as with
   |cons _ _=>cases e
   |nil=>
    rw[ddp]at FJ;subst FJ;exact jm (d:=.lst ((ddp (λa=>ks (W a)) (rng m) []).map tu)) rfl rfl
 obtain⟨d,e,rfl⟩:=l4 (w:=wAt p (k+4)) (f:=gA b) (ds:=[wb m ts]) rfl rfl main;exact e
end
end KG
namespace KG
open EV
open PySem (Str)
open L2 (atI ixN ltP)
noncomputable def rg2(lo hi:Int):List Int:=(bW (hi-lo).toNat).map λ(i:Nat)=>lo+(i:Int)
theorem gM{lo hi i:Int}:i∈rg2 lo hi↔lo<=i/\i<hi:=by
 simp only[rg2,aU,List.mem_range];constructor
 ·rintro⟨a,h,rfl⟩;lia
 ·intro h;exact⟨(i-lo).toNat,by lia,by lia⟩
theorem nO(lo hi:Int):dA lo (hi-lo).toNat=(rg2 lo hi).map D.int:=by
 rw[dA,rg2,ck];rfl
section
variable{p:Pr}
end
noncomputable def srt(t:Int×Int):Int×Int:=if t.1<=t.2 then t else (t.2,t.1)
theorem Co(a b:Int):sortI [a,b]=[(srt (a,b)).1,(srt (a,b)).2]:=by
 show insI a [b]=_;rw[insI,srt];by_cases h:a<=b
 ·rw[if_pos h,if_pos h]
 ·rw[if_neg h,if_neg h];rfl
theorem xn{a b c d:Int}(h:srt (a,b)=srt (c,d)):(a=c/\b=d)\/(a=d/\b=c):=by
 unfold srt at h;split at h<;>split at h<;>(injection h with h1 h2;lia)
structure Iok(m:Int)(I:List (Int×Int)):Prop where
 ok:∀t∈I,0<=t.1/\t.1<m/\0<=t.2/\t.2<m/\t.1≠t.2
 pw:I.Pairwise λs t=>¬ (s.1=t.1/\s.2=t.2)/\¬ (s.1=t.2/\s.2=t.1)
 len:I.length<=8
noncomputable instance (m:Int) (I:List (Int×Int)):Decidable (Iok m I):=
 decidable_of_iff ((∀t∈I,0<=t.1/\t.1<m/\0<=t.2/\t.2<m/\t.1≠t.2)/\I.Pairwise (λs t=>¬ (s.1=t.1/\s.2=t.2)/\¬ (s.1=t.2/\s.2=t.1))/\I.length<=8) ⟨λ⟨a,b,c⟩=>⟨a,b,c⟩,λ⟨a,b,c⟩=>⟨a,b,c⟩⟩
section
variable{m:Int}{o:List Int}
theorem jT(hp:o.Perm (rng m)){i:Int}(h0:0<=i)(h:i<m):0<=o.getD i.toNat 0/\o.getD i.toNat 0<m:=by
 have hl:i.toNat<o.length:=by rw[hp.length_eq,zp];lia
 have e:o.getD i.toNat 0=o[i.toNat]:=by simp[List.getD,hl]
 rw[e];exact b7.mp (hp.mem_iff.mp (dH hl))
theorem iE(hp:o.Perm (rng m)){i j:Int}(h0:0<=i)(h:i<m)(g0:0<=j)(g:j<m)(e:o.getD i.toNat 0=o.getD j.toNat 0):i=j:=by
 have nd:o.Nodup:=hp.nodup_iff.mpr ((ft m).imp λh=>Int.ne_of_lt h);have hl:i.toNat<o.length:=by rw[hp.length_eq,zp];lia
 have gl:j.toNat<o.length:=by rw[hp.length_eq,zp];lia
 have e1:o.getD i.toNat 0=o[i.toNat]:=by simp[List.getD,hl]
 have e2:o.getD j.toNat 0=o[j.toNat]:=by simp[List.getD,gl]
 rw[e1,e2]at e;have key:=List.pairwise_iff_getElem.mp nd;rcases Nat.lt_trichotomy i.toNat j.toNat with z|z|z
 ·exact absurd e (key _ _ hl gl z)
 ·lia
 ·exact absurd e.symm (key _ _ gl hl z)
noncomputable def zb(o:List Int)(t:Int×Int):Int×Int:=srt (o.getD t.1.toNat 0,o.getD t.2.toNat 0)
theorem uy(h1:1<=m)(h2:m<=8)(hp:o.Perm (rng m)){I:List (Int×Int)}(hI:Iok m I):GW m (qq (I.map (zb o))):=by
 have pm:=ja (I.map (zb o));have nd:(I.map (zb o)).Nodup:=by
  rw[List.Nodup,List.pairwise_map];refine hI.pw.imp_of_mem λ{s t} hs ht h e=>?_
  obtain⟨a1,a2,a3,a4,_⟩:=hI.ok s hs;obtain⟨b1,b2,b3,b4,_⟩:=hI.ok t ht;rcases xn e with ⟨e1,e2⟩|⟨e1,e2⟩
  ·exact h.1 ⟨iE hp a1 a2 b1 b2 e1,iE hp a3 a4 b3 b4 e2⟩
  ·exact h.2 ⟨iE hp a1 a2 b3 b4 e1,iE hp a3 a4 b1 b2 e2⟩
 refine⟨h1,h2,oJ (kZ _) (pm.nodup_iff.mpr nd),λt ht=>?_,?_⟩
 ·obtain⟨s,hs,rfl⟩:=aU.mp (pm.mem_iff.mp ht);obtain⟨a1,a2,a3,a4,a5⟩:=hI.ok s hs;have b1:=jT hp a1 a2;have b2:=jT hp a3 a4;have b3:o.getD s.1.toNat 0≠o.getD s.2.toNat 0:=λe=>a5 (iE hp a1 a2 a3 a4 e)
  rw[zb,srt];split<;>(simp only;simp only at *;lia)
 ·rw[pm.length_eq,aV];have:=hI.len;lia
theorem E1(hl:(o.length:Int)=m){i:Int}(h0:0<=i)(h:i<m):ixD (.lst (o.map D.int)) (.int i)=.ok (.int (o.getD i.toNat 0)):=by
 obtain⟨j,rfl⟩:∃j:Nat,i=j:=⟨i.toNat,by lia⟩
 have hj:j<o.length:=by lia
 have:=fW (xs:=o.map D.int) (i:=j) (by simpa using hj);simp only[ixD];rw[this];simp[hj]
end
theorem rP(j:Nat):rng ((j:Int)+1)=rng (j:Int)++[(j:Int)]:=by
 rw[rng,rng,show ((j:Int)+1).toNat=j+1 by lia,show ((j:Int)).toNat=j by lia,List.range_succ,List.map_append];rfl
theorem o8(m:Int):rng m=rg2 0 m:=by
 rw[rng,rg2,Int.sub_zero];simp
theorem kB{lo hi:Int}(h:lo<hi):rg2 lo hi=lo::rg2 (lo+1) hi:=by
 rw[rg2,rg2,show (hi-lo).toNat=(hi-(lo+1)).toNat+1 by lia,List.range_succ_eq_map,aN,ck]
 congr 1
 ·simp
 ·refine List.map_congr_left λi _=>?_
  simp only[Function.comp];lia
abbrev TE(m c:Int)(o:List Int)(v3 v4:Option D):Env:=[some (.int m),some (.int c),some (.lst (o.map D.int)),v3,v4]
noncomputable def jN:Fn:=⟨2,6,false,(.cons (.set (.nm 2) (.lst .nil)) (.cons (.for (.nm 3) (.rng (.var 0)) (.cons (.ins 2 (.op .mod (.call "_law_stir" (.cons (.var 1) (.cons (.op .add (.var 3) (.con (.int 40))) .nil))) (.op .add (.var 3) (.con (.int 1)))) (.var 3)) .nil)) (.cons (.set (.nm 4) (.lst .nil)) (.cons (.for (.nm 5) (.rng2 (.con (.int 1)) (.var 0)) (.cons (.app 4 (.bi .tuple (.cons (.bi .sorted (.cons (.lst (.cons (.ix (.own 2) (.var 5)) (.cons (.ix (.own 2) (.op .mod (.call "_law_stir" (.cons (.var 1) (.cons (.var 5) .nil))) (.var 5))) .nil))) .nil)) .nil))) .nil)) (.cons (.ret (.tup (.cons (.var 0) (.cons (.bi .tuple (.cons (.bi .sorted (.cons (.own 4) .nil)) .nil)) .nil)))) .nil)))))⟩
abbrev TB(m c:Int)(o:List Int)(v3 v4 v5:Option D):Env:=[some (.int m),some (.int c),some (.lst (o.map D.int)),v3,v4,v5]
noncomputable def It(c m:Int):List (Int×Int):=(rg2 1 m).map λi=>(i,st c i%i)
theorem Aj(lo hi:Int):(rg2 lo hi).Pairwise (· < ·):=by
 rw[rg2,List.pairwise_map];exact List.pairwise_lt_range.imp λz=>by lia
theorem rX(c m:Int)(h2:m<=8):Iok m (It c m):=by
 have hm:∀i,i∈rg2 1 m->1<=i/\i<m/\0<=st c i%i/\st c i%i<i:=λi hi=>by
  obtain⟨a,b⟩:=gM.mp hi;exact⟨a,b,Int.emod_nonneg _ (by lia),Int.emod_lt_of_pos _ (by lia)⟩
 refine⟨λt ht=>?_,?_,?_⟩
 ·obtain⟨i,hi,rfl⟩:=aU.mp ht;obtain⟨a,b,c1,d⟩:=hm i hi;refine⟨?_,?_,?_,?_,?_⟩<;>(simp only;lia)
 ·rw[It,List.pairwise_map];refine(List.Pairwise.and_mem.mp (Aj 1 m)).imp λ{i j} ⟨hi,hj,z⟩=>?_
  obtain⟨a,b,c1,d⟩:=hm i hi;obtain⟨a',b',c',d'⟩:=hm j hj;constructor
  ·rintro⟨e1,e2⟩;simp only at e1 e2;lia
  ·rintro⟨e1,e2⟩;simp only at e1 e2;lia
 ·rw[It,aV,rg2,aV,List.length_range];lia
theorem xJ{p:Pr}(hS:p.fns "_law_stir" = some zF)(hf:p.fns "_law_tree_by" = some jN){k:Nat}(m c:Int)(h1:1<=m)(h2:m<=8):∃o,o.Perm (rng m)/\qa p (k+2) "_law_tree_by" [.int m,.int c]=.ok (wb m (qq ((It c m).map (zb o)))):=by
 suffices hs:∃d,qa p (k+2) "_law_tree_by" [.int m,.int c]=.ok d/\∃o,o.Perm (rng m)/\d=wb m (qq ((It c m).map (zb o)))by
  obtain⟨d,e,o,g,rfl⟩:=hs;exact⟨o,g,e⟩
 refine sh (k:=k+1) (τ:=[some (.int m),some (.int c),none,none,none,none]) hf rfl rfl ?_;refine zB (σ:=TB m c [] none none none) rfl ?_;have hm:qD m=true:=by simp[qD];lia
 refine gq (ds:=(rng m).map D.int) (λr σ=>∃(j:Nat) (o:List Int) (v3:Option D),(j:Int)<=m/\r=(rg2 (j:Int) m).map D.int/\o.Perm (rng (j:Int))/\σ=TB m c o v3 none none) (by rw[<-zZ];simp[KG.Z,hm]) ⟨0,[],none,by lia,by rw[o8];rfl,by simp[rng],rfl⟩ ?_ ?_
 ·rintro x t σ ⟨j,o,v3,hj,e,hp,rfl⟩;have FF:(j:Int)<m:=by
   by_cases z:(j:Int)<m
   ·exact z
   ·rw[rg2,show (m-(j:Int)).toNat=0 by lia]at e;cases e
  rw[kB FF,aN]at e;injection e with e1 e2
  subst e1 e2;refine⟨TB m c o (some (.int (j:Nat))) none none,rfl,?_⟩;have e5:=kQ hS (k:=k) c ((j:Int)+40);have z1:op2 .add (.int (j:Nat)) (.int 40)=.ok (.int ((j:Int)+40)):=rfl;have z2:op2 .add (.int (j:Nat)) (.int 1)=.ok (.int ((j:Int)+1)):=rfl;have z3:op2 .mod (.int (st c ((j:Int)+40))) (.int ((j:Int)+1))=.ok (.int (st c ((j:Int)+40)%((j:Int)+1))):=by
   show opI .mod _ _=_;rw[opI,if_pos (by lia)]
  have q0:=Int.emod_nonneg (st c ((j:Int)+40)) (show ((j:Int)+1)≠0 by lia);have q1:=Int.emod_lt_of_pos (st c ((j:Int)+40)) (show (0:Int)<(j:Int)+1 by lia);have hl:o.length=j:=by rw[hp.length_eq,zp];lia
  generalize st c ((j:Int)+40)%((j:Int)+1)=q at *;have hk:evE (wAt p (k+1)) (.op .mod (.call "_law_stir" (.cons (.var 1) (.cons (.op .add (.var 3) (.con (.int 40))) .nil))) (.op .add (.var 3) (.con (.int 1)))) (TB m c o (some (.int (j:Nat))) none none)=.ok (.int q):=by
   dsimp only[TB];generalize st c ((j:Int)+40)=QQ at *;generalize (j:Int)+40=J1 at *;generalize (j:Int)+1=J2 at *;generalize (j:Int)=J at *;simp[KG.Z,z1,z2,z3,e5]
  refine zB (σ:=TB m c (o.take q.toNat++(j:Int)::o.drop q.toNat) (some (.int (j:Nat))) none none) ?_ (eS ⟨j+1,_,_,by lia,by rw[show (((j+1:Nat)):Int)=(j:Int)+1 by lia],?_,rfl⟩)
  ·rw[zD];show ((evE (wAt p (k+1)) _ (TB m c o (some (.int (j:Nat))) none none)).out _)=_;rw[hk];show iY (.lst (o.map D.int)) (.int q) (.int (j:Nat)) 2 (TB m c o (some (.int (j:Nat))) none none)=_;rw[iY];rw[if_pos ⟨q0,by rw[aV,hl];lia,by simp[SZ,hl];lia⟩,<-List.map_take,<-List.map_drop,<-aN,<-List.map_append]
   rfl
  ·rw[show (((j+1:Nat)):Int)=(j:Int)+1 by lia,rP];have a1:(o.take q.toNat++(j:Int)::o.drop q.toNat).Perm ((j:Int)::o):=by
    have:=List.perm_middle (a:=(j:Int)) (l₁:=o.take q.toNat) (l₂:=o.drop q.toNat)
    rwa[bX]at this
   exact a1.trans ((hp.cons _).trans (List.perm_append_comm (l₁:=[(j:Int)]) (l₂:=rng (j:Int))))
 ·rintro σ ⟨j,o,v3,hj,e,hp,rfl⟩;have Lc:(j:Int)=m:=by
   by_cases z:(j:Int)<m
   ·rw[kB z]at e;cases e
   ·lia
  rw[Lc]at hp;have hl:(o.length:Int)=m:=by rw[hp.length_eq,zp];lia
  have ho:=λ(i:Int) (h0:0<=i) (h:i<m)=>E1 (o:=o) hl h0 h
  refine zB (σ:=TB m c o v3 (some (.lst [])) none) rfl ?_;have NG:=rX c m h2;refine gq (ds:=(rg2 1 m).map D.int) (λr σ=>∃(pre us:List Int) (v5:Option D),r=us.map D.int/\pre++us=rg2 1 m/\σ=TB m c o v3 (some (.lst (((pre.map λi=>(i,st c i%i)).map (zb o)).map prD))) v5) ?_ ⟨[],rg2 1 m,none,rfl,rfl,rfl⟩ ?_ ?_
  ·have s1:qD (1:Int)=true:=by decide
   rw[<-nO];dsimp only[TB];generalize D.lst (o.map D.int)=OL at *;simp[KG.Z,hm,s1]
  ·rintro x t σ ⟨pre,us,v5,e,Hb,rfl⟩;obtain⟨i,us,rfl,rfl,rfl⟩:=fx e;have hi:i∈rg2 1 m:=by rw[<-Hb];simp
   obtain⟨i1,i2⟩:=gM.mp hi;have t0:0<=st c i%i:=Int.emod_nonneg _ (by lia);have t1:st c i%i<i:=Int.emod_lt_of_pos _ (by lia);refine⟨TB m c o v3 (some (.lst (((pre.map λi=>(i,st c i%i)).map (zb o)).map prD))) (some (.int i)),rfl,?_⟩;have a0:=ho i (by lia) i2;have a1:=ho (st c i%i) t0 (by lia);have e5:=kQ hS (k:=k) c i;have z3:op2 .mod (.int (st c i)) (.int i)=.ok (.int (st c i%i)):=by
    show opI .mod _ _=_;rw[opI,if_pos (by lia)]
   have pl:pre.length<=8:=by
    have:=congrArg List.length Hb;rw[bP,rg2,aV,List.length_range]at this;lia
   have pz:((((pre.map λi=>(i,st c i%i)).map (zb o)).map prD)).length<SZ:=by simp[SZ];lia
   have hE:evE (wAt p (k+1)) (.bi .tuple (.cons (.bi .sorted (.cons (.lst (.cons (.ix (.own 2) (.var 5)) (.cons (.ix (.own 2) (.op .mod (.call "_law_stir" (.cons (.var 1) (.cons (.var 5) .nil))) (.var 5))) .nil))) .nil)) .nil)) (TB m c o v3 (some (.lst (((pre.map λi=>(i,st c i%i)).map (zb o)).map prD))) (some (.int i)))=.ok (prD (zb o (i,st c i%i))):=by
    have Le:b1 .sorted [.lst [.int (o.getD i.toNat 0),.int (o.getD (st c i%i).toNat 0)]]=.ok (.lst ((sortI [o.getD i.toNat 0,o.getD (st c i%i).toNat 0]).map D.int)):=rfl;have NH:b1 .tuple [.lst ((sortI [o.getD i.toNat 0,o.getD (st c i%i).toNat 0]).map D.int)]=.ok (prD (zb o (i,st c i%i))):=by rw[Co];rfl
    dsimp only[TB];generalize D.lst ((sortI [o.getD i.toNat 0,o.getD (st c i%i).toNat 0]).map D.int)=Y at *;generalize prD (zb o (i,st c i%i))=Z at *;generalize D.lst (((pre.map λi=>(i,st c i%i)).map (zb o)).map prD)=L4 at *;generalize D.lst (o.map D.int)=OL at *;generalize o.getD (st c i%i).toNat 0=A2 at *;generalize o.getD i.toNat 0=A1 at *;generalize st c i%i=R1 at *;generalize st c i=S1 at *;simp[KG.Z,a0,a1,e5,z3,Le,NH]
   refine zB (σ:=TB m c o v3 (some (.lst ((((pre++[i]).map λi=>(i,st c i%i)).map (zb o)).map prD))) (some (.int i))) ?_ (eS ⟨pre++[i],us,_,rfl,by simpa using Hb,rfl⟩);rw[l7 (xs:=(((pre.map λi=>(i,st c i%i)).map (zb o)).map prD)) (d:=prD (zb o (i,st c i%i))) rfl hE pz];simp only[List.map_append,aN,List.map_nil]
   rfl
  ·rintro σ ⟨pre,us,v5,e,Hb,rfl⟩;cases us with
   |cons _ _=>cases e
   |nil=>
    rw[dg]at Hb;subst Hb;show Ends _ _ (qe (wAt p (k+1)) (.cons (.ret _) .nil) (TB m c o v3 (some (.lst (((It c m).map (zb o)).map prD))) v5));refine jm (d:=wb m (qq ((It c m).map (zb o)))) ?_ ⟨o,hp,rfl⟩;have t2:=vK ((It c m).map (zb o)) (by rw[aV];have:=NG.len;lia);have t3:b1 .tuple [.lst ((qq ((It c m).map (zb o))).map prD)]=.ok (.tup ((qq ((It c m).map (zb o))).map prD)):=rfl;dsimp only[TB];show _=R.ok (D.tup [.int m,.tup ((qq ((It c m).map (zb o))).map prD)]);generalize D.lst (((It c m).map (zb o)).map prD)=L1 at *;generalize D.lst ((qq ((It c m).map (zb o))).map prD)=L2 at *;generalize D.tup ((qq ((It c m).map (zb o))).map prD)=L3 at *;generalize D.lst (o.map D.int)=OL at *;simp[KG.Z,t2,t3]
end KG
namespace KG
open EV
open PySem (Str)
open L2 (atI ixN ltP atK cM cY)
section
variable{m:Int}{ts:List (Int×Int)}
structure Tree(m:Int)(ts:List (Int×Int)):Prop where
 gw:GW m ts
 len:(ts.length:Int)=m-1
 con:∀a b,0<=a->a<m->0<=b->b<m->Rch m ts a b
theorem l9{a b:Int}(h:srt (a,b)∈ts)(ha:0<=a/\a<m):a∈hd m ts b:=by
 refine bu.mpr ⟨b7.mpr ha,?_⟩;rw[bR];right;rw[cV,b_];refine⟨_,h,?_⟩;rw[srt,mn,mx,aW,beq_iff_eq,beq_iff_eq];split<;>split<;>split<;>(constructor<;>first|lia|rfl|(simp only;lia))
theorem Al{c:Int}{o:List Int}(h1:1<=m)(h2:m<=8)(hp:o.Perm (rng m)):Tree m (qq ((It c m).map (zb o))):=by
 have pm:=ja ((It c m).map (zb o));have up:∀n:Nat,(n:Int)<m->Rch m (qq ((It c m).map (zb o))) (o.getD 0 0) (o.getD n 0):=by
  intro n
  induction n using Nat.strongRecOn with
  |ind n ih=>
   intro hn;by_cases z:n=0
   ·subst z;exact .refl _
   ·have t0:0<=st c (n:Int)%(n:Int):=Int.emod_nonneg _ (by lia);have t1:st c (n:Int)%(n:Int)<n:=Int.emod_lt_of_pos _ (by lia);have ht:zb o ((n:Int),st c (n:Int)%(n:Int))∈qq ((It c m).map (zb o)):=by
     refine pm.mem_iff.mpr (aU.mpr ⟨_,aU.mpr ⟨(n:Int),gM.mpr ⟨by lia,hn⟩,rfl⟩,rfl⟩)
    generalize st c (n:Int)%(n:Int)=q at *;have:=ih q.toNat (by lia) (by lia);refine this.step ?_;have hm:=jT hp (i:=(n:Int)) (by lia) hn;have JG:0<=o.getD n 0/\o.getD n 0<m:=by simpa using hm
    refine l9 ?_ JG;have e:zb o ((n:Int),q)=srt (o.getD n 0,o.getD q.toNat 0):=by simp[zb]
    rwa[e]at ht
 have at_:∀a,0<=a->a<m->∃n:Nat,(n:Int)<m/\o.getD n 0=a:=λa a0 a1=>by
  obtain⟨n,hn,e⟩:=List.getElem_of_mem (hp.mem_iff.mpr (b7.mpr ⟨a0,a1⟩));refine⟨n,by rw[hp.length_eq,zp]at hn;lia,?_⟩;simp[List.getD,hn,e]
 have g:=uy h1 h2 hp (rX c m h2);have z0:0<=o.getD 0 0/\o.getD 0 0<m:=by simpa using jT hp (i:=0) (by lia) (by lia)
 refine⟨g,?_,λa b a0 a1 b0 b1=>?_⟩
 ·rw[pm.length_eq,aV,It,aV,rg2,aV,List.length_range];lia
 ·obtain⟨i,hi,rfl⟩:=at_ a a0 a1;obtain⟨j,hj,rfl⟩:=at_ b b0 b1;exact((up i hi).symm z0).1.trans (up j hj)
noncomputable def dv(kvs:List (Int×Int))(v:Int):Int:=(atK kvs v).getD 0
end
end KG
namespace KG
open EV
open PySem (Str)
open L2 (atI ixN ltP atK)
theorem iZ{f g:Int->Nat}:∀l:List Int,(∀v∈l,f v<=g v)->(l.map f).sum<=(l.map g).sum
 | [],_=>aG _
 |v::l,h=>by
  rw[aN,aN,List.sum_cons,List.sum_cons];exact Nat.add_le_add (h v aM) (iZ l λv hv=>h v (aR _ hv))
theorem sum_add(f g:Int->Nat):∀l:List Int,(l.map λv=>f v+g v).sum=(l.map f).sum+(l.map g).sum
 | []=>rfl
 |v::l=>by
  rw[aN,aN,aN,List.sum_cons,List.sum_cons,List.sum_cons,sum_add f g l];lia
theorem gx(c:Nat):∀l:List Int,(l.map λ_=>c).sum=c * l.length
 | []=>rfl
 |v::l=>by
  rw[aN,List.sum_cons,gx c l,bA,Nat.mul_add];lia
theorem iD(q:Int->Bool)(f:Int->Nat):∀l:List Int,(l.map λv=>if q v then f v else 0).sum=((l.filter q).map f).sum
 | []=>rfl
 |v::l=>by
  rw[aN,List.sum_cons,iD q f l,List.filter_cons];split<;>simp
theorem nk(p q:Int->Bool):∀l:List Int,(l.filter λb=>p b||q b).length<=(l.filter p).length+(l.filter q).length
 | []=>aG _
 |b::l=>by
  have:=nk p q l;simp only[List.filter_cons];cases p b<;>cases q b<;>simp<;>lia
theorem j8{q:Int->Bool}{c:Int}:∀{l:List Int},l.Pairwise (· < ·)->(∀x∈l,q x=true->x=c)->(l.filter q).length<=1:=by
 intro l hl h;have s:(l.filter q).Pairwise (· < ·):=hl.sublist List.filter_sublist;have m:∀x∈l.filter q,x=c:=λx hx=>h x (bu.mp hx).1 (bu.mp hx).2
 generalize l.filter q=r at *
 match r,s,m with
 | [],_,_=>exact bH _
 | [_],_,_=>exact aG _
 |x::y::_,s,m=>
  rw[List.pairwise_cons]at s;have:=s.1 y aM;have a:=m x aM;have b:=m y (aR _ aM);lia
noncomputable def hm1(t:Int×Int)(v b:Int):Bool:=t.1==mn v b&&t.2==mx v b
theorem kE{t:Int×Int}{v b:Int}(ht:t.1<t.2)(h:hm1 t v b=true):(v=t.1/\b=t.2)\/(v=t.2/\b=t.1):=by
 rw[hm1,aW,beq_iff_eq,beq_iff_eq,mn,mx]at h;obtain⟨h1,h2⟩:=h;split at h1<;>split at h2<;>lia
theorem CV{t:Int×Int}(ht:t.1<t.2)(m v:Int):((rng m).filter (hm1 t v)).length<=(if v==t.1 then 1 else 0)+(if v==t.2 then 1 else 0):=by
 by_cases a:v=t.1
 ·have:=j8 (q:=hm1 t v) (c:=t.2) (ft m) λx _ hx=>by rcases kE ht hx with z|z<;>lia
  rw[if_pos (by simpa using a)];lia
 ·by_cases b:v=t.2
  ·have:=j8 (q:=hm1 t v) (c:=t.1) (ft m) λx _ hx=>by rcases kE ht hx with z|z<;>lia
   rw[if_pos (c:=(v==t.2)=true) (by simpa using b)];lia
  ·have:(rng m).filter (hm1 t v)=[]:=by
    rw[List.filter_eq_nil_iff];intro x _ hx;rcases kE ht hx with z|z<;>lia
   rw[this];exact bH _
theorem sV(m c:Int):((rng m).map λv=>if v==c then 1 else 0).sum<=1:=by
 rw[iD (λv=>v==c) (λ_=>1),gx];have:=j8 (q:=λv=>v==c) (c:=c) (ft m) λx _ hx=>by simpa using hx
 lia
theorem oR(m:Int):∀ts:List (Int×Int),(∀t∈ts,t.1<t.2)->((rng m).map λv=>(hd m ts v).length).sum<=m.toNat+2 * ts.length
 | [],_=>by
  have:=iZ (f:=λv=>(hd m [] v).length) (g:=λ_=>1) (rng m) λv _=>by
   refine j8 (c:=v) (ft m) λx _ hx=>?_
   simpa[cV]using hx
  rw[gx,zp]at this;simp only[List.length_nil];lia
 |t::ts,h=>by
  have ih:=oR m ts λt ht=>h t (aR _ ht)
  have ht:=h t aM;have st:∀v∈rng m,(hd m (t::ts) v).length<=(hd m ts v).length+((if v==t.1 then 1 else 0)+(if v==t.2 then 1 else 0)):=λv _=>by
   have a:=CV ht m v;have b:=nk (λb=>b==v||cV ts v b) (hm1 t v) (rng m);have e:hd m (t::ts) v=(rng m).filter λb=>(b==v||cV ts v b)||hm1 t v b:=by
    rw[hd];refine List.filter_congr λx _=>?_
    rw[cV,List.any_cons,hm1,cV];cases x==v<;>cases (t.1==mn v x&&t.2==mx v x)<;>simp
   rw[e];rw[hd];lia
  have s:=iZ (rng m) st;rw[sum_add,sum_add]at s;have a:=sV m t.1;have b:=sV m t.2;rw[bA];lia
variable{m:Int}{ts:List (Int×Int)}
theorem alone{v:Int}(h:∀x∈hd m ts v,x=v):∀{k:Nat}{u:Int},inR m ts v k u->u=v
 | 0,_,z=>z
 |k+1,_,.inl z=>alone h z
 |k+1,u,.inr ⟨x,z,hu⟩=>by
  have e:=alone h z;subst e;exact h u hu
theorem lp(T:Tree m ts)(hm:2<=m){v:Int}(v0:0<=v)(v1:v<m):2<=(hd m ts v).length:=by
 have sv:v∈hd m ts v:=vE ⟨v0,v1⟩;by_cases z:∀x∈hd m ts v,x=v
 ·exfalso;obtain⟨k,hk⟩:=T.con v (if v=0 then 1 else 0) v0 v1 (by split<;>lia) (by split<;>lia);have:=alone z hk;split at this<;>lia
 ·have ⟨x,hx,hn⟩:∃x,x∈hd m ts v/\x≠v:=by
   apply Classical.byContradiction;intro h;exact z λx hx=>Classical.byContradiction λhn=>h ⟨x,hx,hn⟩
  have:=List.Nodup.length_le_of_subset (l₁:=[v,x]) (l₂:=hd m ts v) (by simp;exact λe=>hn e.symm) (by
   intro y hy;rcases aI.mp hy with rfl|hy
   ·exact sv
   ·rw[List.mem_singleton.mp hy];exact hx)
  exact this
theorem rl(T:Tree m ts):((rng m).map λv=>(hd m ts v).length).sum+2<=3 * m.toNat:=by
 have:=oR m ts λt ht=>(T.gw.ok t ht).2.1
 have l:=T.len;have lo:=T.gw.lo;lia
noncomputable def enz(m:Int)(ts:List (Int×Int)):List Int:=(rng m).filter λv=>decide (((hd m ts v).length:Int)=2)
theorem wK:(enz m ts).length=(((rng m).map λv=>if decide (((hd m ts v).length:Int)=2)then 1 else 0)).sum:=by
 rw[iD (λv=>decide (((hd m ts v).length:Int)=2)) (λ_=>1),gx,enz,Nat.one_mul]
theorem mU(T:Tree m ts)(hm:2<=m):∃a r,enz m ts=a::r:=by
 cases q:enz m ts with
 |cons a r=>exact⟨a,r,rfl⟩
 |nil=>
  exfalso;rw[enz,List.filter_eq_nil_iff]at q;have:=iZ (f:=λ_=>3) (g:=λv=>(hd m ts v).length) (rng m) λv hv=>by
   obtain⟨v0,v1⟩:=b7.mp hv;have a:=lp T hm v0 v1;have b:=q v hv;simp only[decide_eq_true_eq]at b;lia
  have s:=rl T;rw[gx,zp]at this;lia
theorem vv(T:Tree m ts){s:List Int}(g:GS m s)(hu:un m ts s=[]):m+2<=3 * s.length+(enz m ts).length:=by
 have lo:=T.gw.lo;have Ma:∀v∈rng m,∃d∈s,v∈hd m ts d:=λv hv=>by
  rw[un,List.filter_eq_nil_iff]at hu;have:=hu v hv;simp only[decide_eq_true_eq]at this;cases q:mk m ts s v with
  |nil=>exact absurd q this
  |cons d r=>
   have FJ:d∈mk m ts s v:=by rw[q];exact aM
   rw[mk,bu]at FJ;exact⟨d,FJ.1,jL (b7.mp hv) (wW.mp FJ.2)⟩
 by_cases h2:m=1
 ·subst h2;obtain⟨d,FJ,_⟩:=Ma 0 (b7.mpr ⟨by lia,by lia⟩);have:0<s.length:=List.length_pos_of_mem FJ;lia
 ·have hm:2<=m:=by lia
  have q:∀v∈rng m,3+(if s.any (· == v)then (hd m ts v).length else 0)<=(hd m ts v).length+((if decide (((hd m ts v).length:Int)=2)then 1 else 0)+(if s.any (· == v)then 3 else 0)):=λv hv=>by
   obtain⟨v0,v1⟩:=b7.mp hv;have a:=lp T hm v0 v1;by_cases z:s.any (· == v)=true
   ·rw[if_pos z,if_pos z];lia
   ·rw[if_neg z,if_neg z];by_cases y:((hd m ts v).length:Int)=2
    ·rw[if_pos (by simpa using y)];lia
    ·rw[if_neg (by simpa using y)];lia
  have h:=iZ (rng m) q;rw[sum_add,sum_add,sum_add,gx,<-wK,iD (λv=>s.any (· == v)) (λv=>(hd m ts v).length),iD (λv=>s.any (· == v)) (λ_=>3),gx,zp]at h;have nd:(rng m).Nodup:=(ft m).imp λz=>by lia
  have OJ:((rng m).filter λv=>s.any (· == v)).length<=s.length:=List.Nodup.length_le_of_subset (nd.sublist List.filter_sublist) λx hx=>by
   have:=(bu.mp hx).2;rw[b_]at this;obtain⟨y,hy,e⟩:=this;rw[beq_iff_eq]at e;exact e▸hy
  have OM:m.toNat<=(((rng m).filter λv=>s.any (· == v)).map λv=>(hd m ts v).length).sum:=by
   have:=List.Nodup.length_le_of_subset (l₂:=((rng m).filter λv=>s.any (· == v)).flatMap (hd m ts)) nd λx hx=>by
    obtain⟨d,hs,G0⟩:=Ma x hx;exact List.mem_flatMap.mpr ⟨d,bu.mpr ⟨b7.mpr (g.ok d hs),b_.mpr ⟨d,hs,by simp⟩⟩,G0⟩
   rw[zp,List.length_flatMap]at this;exact this
  have:=rl T;lia
theorem mR{e v x:Int}(h:x∈hd m ts v):x∈hd (m+1) (qq (ts++[(e,m)])) v:=by
 rw[hd,bu]at h ⊢;obtain⟨a,b⟩:=h;obtain⟨a0,a1⟩:=b7.mp a;refine⟨b7.mpr ⟨a0,by lia⟩,?_⟩;rw[bR]at b ⊢;rcases b with b|b
 ·exact .inl b
 ·right;rw[cV,b_]at b ⊢;obtain⟨t,ht,q⟩:=b;exact⟨t,(ja _).mem_iff.mpr (List.mem_append_left _ ht),q⟩
theorem kG{e r:Int}:∀{k:Nat}{v:Int},inR m ts r k v->inR (m+1) (qq (ts++[(e,m)])) r k v
 | 0,_,h=>h
 |k+1,_,.inl h=>.inl (kG h)
 |k+1,_,.inr ⟨u,h,hu⟩=>.inr ⟨u,kG h,mR hu⟩
theorem xE(T:Tree m ts)(h8:m<8){e:Int}(e0:0<=e)(e1:e<m):Tree (m+1) (qq (ts++[(e,m)])):=by
 have pm:=ja (ts++[(e,m)]);have lo:=T.gw.lo;have hn:(e,m)∉ts:=λz=>by have:=T.gw.ok _ z;simp only at this;lia
 have nd:ts.Nodup:=T.gw.lt.imp λz e=>by subst e;simp[ltP]at z
 have g:GW (m+1) (qq (ts++[(e,m)])):=⟨by lia,by lia,oJ (kZ _) (pm.nodup_iff.mpr (List.nodup_append.mpr ⟨nd,by simp,λa ha b hb z=>by rw[List.mem_singleton.mp hb]at z;exact hn (z▸ha)⟩)),λt ht=>by
   rcases List.mem_append.mp (pm.mem_iff.mp ht)with z|z
   ·have:=T.gw.ok t z;exact⟨this.1,this.2.1,by lia⟩
   ·rw[List.mem_singleton.mp z];exact⟨e0,e1,by simp only;lia⟩,by
   rw[pm.length_eq,bP];have:=T.len;simp only[bA,List.length_nil];lia⟩
 have old:∀a b,0<=a->a<m->0<=b->b<m->Rch (m+1) (qq (ts++[(e,m)])) a b:=λa b a0 a1 b0 b1=>by
  obtain⟨k,hk⟩:=T.con a b a0 a1 b0 b1;exact⟨k,kG hk⟩
 have new:∀a,0<=a->a<m+1->Rch (m+1) (qq (ts++[(e,m)])) e a:=λa a0 a1=>by
  by_cases z:a<m
  ·exact old e a e0 e1 a0 z
  ·have ha:a=m:=by lia
   subst ha;refine(Rch.refl e).step (jL ⟨by lia,by lia⟩ ?_);refine l9 ?_ ⟨e0,by lia⟩;rw[srt,if_pos (by simp only;lia)];exact pm.mem_iff.mpr (by simp)
 refine⟨g,?_,λa b a0 a1 b0 b1=>((new a a0 a1).symm ⟨e0,by lia⟩).1.trans (new b b0 b1)⟩;rw[pm.length_eq,bP];have:=T.len;simp only[bA,List.length_nil];lia
theorem Ff(T:Tree m ts)(hm:2<=m)(e:Int):(enz (m+1) (qq (ts++[(e,m)]))).length<=(enz m ts).length+1:=by
 obtain⟨j,rfl⟩:∃j:Nat,m=j:=⟨m.toNat,by lia⟩
 rw[enz,rP,List.filter_append,bP];refine Nat.add_le_add ?_ ?_
 ·rw[enz,<-List.countP_eq_length_filter,<-List.countP_eq_length_filter];refine List.countP_mono_left λv hv h=>?_
  obtain⟨v0,v1⟩:=b7.mp hv;rw[decide_eq_true_eq]at h ⊢;have a:=lp T hm v0 v1;have nd:(hd (j:Int) ts v).Nodup:=((ft _).sublist List.filter_sublist).imp λz=>by lia
  have b:=List.Nodup.length_le_of_subset nd λx hx=>mR (e:=e) hx
  lia
 ·exact bB (List.length_filter_le _ _) (aG _)
end KG
namespace KG
open EV
open PySem (Str)
open L2 (atI ixN ltP atK cM cY)
noncomputable def jx:Fn:=⟨1,3,false,(.cons (.exp (.call "need_web" (.cons (.var 0) .nil))) (.cons (.set (.tp [1,2]) (.var 0)) (.cons (.ret (.and (.cmp .eq (.bi .len (.cons (.call "pieces" (.cons (.var 0) .nil)) .nil)) (.con (.int 1))) (.cmp .eq (.bi .len (.cons (.var 2) .nil)) (.op .sub (.var 1) (.con (.int 1)))))) .nil)))⟩
noncomputable def gF:Fn:=⟨1,1,false,(.cons (.ite (.not (.val (.call "is_tree" (.cons (.var 0) .nil)))) (.cons (.raise "NotTree" (.cons (.con (.str "a tree is due")) .nil)) .nil) .nil) .nil)⟩
noncomputable def jB:Fn:=⟨1,1,false,(.cons (.exp (.call "need_tree" (.cons (.var 0) .nil))) (.cons (.ret (.bi .tuple (.cons (.comp (.enum (.call "hoods" (.cons (.var 0) .nil))) [none,none,none] (.tp [1,2]) (.cmp .eq (.bi .len (.cons (.var 2) .nil)) (.con (.int 2))) (.var 1)) .nil))) .nil))⟩
structure Trc(p:Pr)(b:Bool):Prop where
 web:Web p
 hds:Hds p
 ways_from:p.fns "ways_from" = some iw
 pieces:p.fns "pieces" = some (gA b)
 is_tree:p.fns "is_tree" = some jx
 need_tree:p.fns "need_tree" = some gF
 ends:p.fns "ends" = some jB
theorem mT{S:Int->List Int}{s:List Int}:∀l:List Int,(∀a∈l,S a=s)->ddp S l [s]=[s]
 | [],_=>rfl
 |a::l,h=>by
  rw[ddp,h a aM,if_pos (by simp)];exact mT l λx hx=>h x (aR _ hx)
section
variable{p:Pr}{b:Bool}(P:Trc p b){m:Int}{ts:List (Int×Int)}(T:Tree m ts)
include P T
theorem yn{k:Nat}:qa p (k+6) "is_tree" [wb m ts]=.ok (.bl true):=by
 have h:=T.gw;have ex:∀a,∃kvs,0<=a->a<m->dW m ts a kvs/\qa p (k+4) "ways_from" [wb m ts,.int a]=.ok (.dic kvs):=λa=>by
  by_cases z:0<=a/\a<m
  ·obtain⟨kvs,w,e⟩:=ways_from P.hds.hood_of P.hds.are_tied P.ways_from (k:=k+1) h z.1 z.2;exact⟨kvs,λ_ _=>⟨w,e⟩⟩
  ·exact⟨[],λh1 h2=>absurd ⟨h1,h2⟩ z⟩
 have hW:=λa=>Classical.choose_spec (ex a)
 have e2:=KG.pieces P.web P.pieces h hW;have one:ddp (λa=>ks (Classical.choose (ex a))) (rng m) []=[ks (Classical.choose (ex 0))]:=by
  have h1:=h.lo;have e:rng m=0::rg2 1 m:=by rw[o8,kB (by lia)];rfl
  rw[e,ddp,if_neg (by simp),List.nil_append];refine mT _ λa ha=>?_
  obtain⟨a1,a2⟩:=gM.mp ha;exact(tZ ⟨Int.le_refl 0,by lia⟩ (hW 0 (by lia) (by lia)).1 (hW a (by lia) a2).1 (T.con 0 a (by lia) (by lia) (by lia) a2)).symm
 rw[one]at e2;have e1:=need_web P.web (k:=k+1) h;have l1:b1 .len [.lst ([ks (Classical.choose (ex 0))].map tu)]=.ok (.int 1):=rfl;have l2:b1 .len [.tup (ts.map prD)]=.ok (.int (ts.length)):=by rw[kC,aV]
 rw[T.len]at l2;have c1:=eq_int 1 1;have c2:=eq_int (m-1) (m-1);have o1:op2 .sub (.int m) (.int 1)=.ok (.int (m-1)):=rfl;rw[qc P.is_tree];refine qi (τ:=[some (wb m ts),none,none]) rfl rfl ?_;refine cK (σ:=[some (wb m ts),none,none]) (by generalize wb m ts=WB at *;simp[KG.Z,e1]) ?_;refine cK (σ:=[some (wb m ts),some (.int m),some (.tup (ts.map prD))]) rfl ?_;generalize D.tup (ts.map prD)=TT at *;generalize D.lst ([ks (Classical.choose (ex 0))].map tu)=PL at *;generalize wb m ts=WB at *;generalize m-1=M1 at *;simp[KG.Z,e2,l1,l2,c1,c2,o1]
theorem vQ{k:Nat}:qa p (k+7) "need_tree" [wb m ts]=.ok .non:=by
 have e:=yn P T (k:=k);generalize wb m ts=WB at *;rw[qc P.need_tree];simp only[zE];simp[KG.Z,gF,e]
end
theorem BB{m:Int}(F:Int->D):dP 0 ((rng m).map F)=(rng m).map λa=>.tup [.int a,F a]:=by
 have he:∀(n j:Nat),dP j (((List.range' j n).map λ(i:Nat)=>(i:Int)).map F)=(((List.range' j n).map λ(i:Nat)=>(i:Int)).map λa=>.tup [.int a,F a]):=by
  intro n
  induction n with
  |zero=>intro j;rfl
  |succ n ih=>intro j;rw[List.range'_succ,aN,aN,dP,ih (j+1),aN]
 have:=he m.toNat 0
 rwa[<-List.range_eq_range']at this
theorem vi{α:Type}{w:W}{it:EV.It}{cap:List (Option Nat)}{t:T}{elt:EV.E}{τ:Env}{l:List α}{f1 f2:α->D}(q:α->Bool)(g:α->D)(h:evI w it τ=.ok (l.map λa=>.tup [f1 a,f2 a]))(hz:l.length<=SZ)(hc:dY cap τ=[none,none,none])
  (hb:∀a∈l,evT w t [none,some (f1 a),some (f2 a)]=.ok (q a)/\evE w elt [none,some (f1 a),some (f2 a)]=.ok (g a)):evE w (.comp it cap (.tp [1,2]) t elt) τ=.ok (.lst ((l.filter q).map g)):=by
 have key:∀(r:List α) (v v':Option D) (acc:List D),(∀x∈r,x∈l)->cH (λx σ=>noEx ((store (.tp [1,2]) x σ).bind λσ'=>(evT w t σ').bind λr=>if r then (evE w elt σ').bind λd=>.ok (σ',[d])else .ok (σ',[]))) (r.map λa=>.tup [f1 a,f2 a]) [none,v,v'] acc=.ok (acc++(r.filter q).map g):=by
  intro r
  induction r with
  |nil=>intro v v' acc _;simp[cH]
  |cons x r ih=>
   intro v v' acc hm;obtain⟨h1,h2⟩:=hb x (hm x aM);rw[aN,cH];have e:noEx ((store (.tp [1,2]) (.tup [f1 x,f2 x]) [none,v,v']).bind λσ'=>(evT w t σ').bind λr=>if r then (evE w elt σ').bind λd=>.ok (σ',[d])else .ok (σ',[]))=.ok ([none,some (f1 x),some (f2 x)],if q x then [g x]else []):=by
    show noEx ((evT w t [none,some (f1 x),some (f2 x)]).bind λr=>if r then (evE w elt [none,some (f1 x),some (f2 x)]).bind λd=>.ok ([none,some (f1 x),some (f2 x)],[d])else .ok ([none,some (f1 x),some (f2 x)],[]))=_;rw[h1];simp only[R.bind_ok];rw[h2];cases q x<;>rfl
   rw[e];simp only[R.bind_ok];rw[ih _ _ _ λy hy=>hm y (aR _ hy),List.filter_cons,bz];cases q x<;>simp
 rw[qA,h];simp only[R.bind_ok];rw[if_neg (by simp;lia),hc,key l none none [] λ_ h=>h]
 rfl
section
variable{p:Pr}{b:Bool}(P:Trc p b){m:Int}{ts:List (Int×Int)}(T:Tree m ts)
include P T
theorem vO{k:Nat}:qa p (k+8) "ends" [wb m ts]=.ok (tu (enz m ts)):=by
 have e1:=vQ P T (k:=k);have e2:=KG.hoods P.web P.hds (k:=k+2) T.gw;have hc:evE (wAt p (k+7)) (.comp (.enum (.call "hoods" (.cons (.var 0) .nil))) [none,none,none] (.tp [1,2]) (.cmp .eq (.bi .len (.cons (.var 2) .nil)) (.con (.int 2))) (.var 1)) [some (wb m ts)]=.ok (.lst ((enz m ts).map D.int)):=by
  refine vi (f1:=D.int) (f2:=λa=>tu (hd m ts a)) (λv=>decide (((hd m ts v).length:Int)=2)) D.int ?_ ?_ rfl λv _=>⟨?_,rfl⟩
  ·rw[<-BB];have e3:evE (wAt p (k+7)) (.call "hoods" (.cons (.var 0) .nil)) [some (wb m ts)]=.ok (.tup ((rng m).map λa=>tu (hd m ts a))):=by
    generalize D.tup ((rng m).map λa=>tu (hd m ts a))=TT at *;generalize wb m ts=WB at *;simp[KG.Z,e2]
   show ((evE (wAt p (k+7)) (.call "hoods" (.cons (.var 0) .nil)) [some (wb m ts)]).bind _)=_;rw[e3];rfl
  ·rw[zp];have:=T.gw.hi;simp only[SZ];lia
  ·have l:=gN (hd m ts v);have c:=eq_int ((hd m ts v).length) 2;generalize tu (hd m ts v)=TV at *;generalize ((hd m ts v).length:Int)=L at *;simp[KG.Z,l,c]
 rw[qc P.ends];refine qi (τ:=[some (wb m ts)]) rfl rfl ?_;refine cK (σ:=[some (wb m ts)]) (by generalize wb m ts=WB at *;simp[KG.Z,e1]) ?_;show qe (wAt p (k+7)) (.cons (.ret _) .nil) _=_;rw[qe,zw,qx,zo,hc]
 rfl
end
section
variable{p:Pr}{b:Bool}(P:Trc p b)
include P
theorem yc{k:Nat}{m:Int}{ts:List (Int×Int)}(h:GW m ts)(hn:(ts.length:Int)≠m-1):qa p (k+7) "need_tree" [wb m ts]=.ex "NotTree":=by
 have ex:∀a,∃kvs,0<=a->a<m->dW m ts a kvs/\qa p (k+4) "ways_from" [wb m ts,.int a]=.ok (.dic kvs):=λa=>by
  by_cases z:0<=a/\a<m
  ·obtain⟨kvs,w,e⟩:=ways_from P.hds.hood_of P.hds.are_tied P.ways_from (k:=k+1) h z.1 z.2;exact⟨kvs,λ_ _=>⟨w,e⟩⟩
  ·exact⟨[],λh1 h2=>absurd ⟨h1,h2⟩ z⟩
 have e2:=KG.pieces P.web P.pieces h λa=>Classical.choose_spec (ex a)
 have e1:=need_web P.web (k:=k+1) h;generalize (ddp (λa=>ks (Classical.choose (ex a))) (rng m) [])=PC at *;have l1:b1 .len [.lst (PC.map tu)]=.ok (.int PC.length):=by rw[tK,aV]
 have l2:b1 .len [.tup (ts.map prD)]=.ok (.int (ts.length)):=by rw[kC,aV]
 have c1:=eq_int PC.length 1;have c2:=eq_int (ts.length) (m-1);rw[decide_eq_false hn]at c2;have o1:op2 .sub (.int m) (.int 1)=.ok (.int (m-1)):=rfl;have e:qa p (k+6) "is_tree" [wb m ts]=.ok (.bl false):=by
  rw[qc P.is_tree];refine qi (τ:=[some (wb m ts),none,none]) rfl rfl ?_;refine cK (σ:=[some (wb m ts),none,none]) (by generalize wb m ts=WB at *;simp[KG.Z,e1]) ?_;refine cK (σ:=[some (wb m ts),some (.int m),some (.tup (ts.map prD))]) rfl ?_;generalize D.tup (ts.map prD)=TT at *;generalize D.lst (PC.map tu)=PL at *;generalize wb m ts=WB at *;generalize (ts.length:Int)=n2 at *;generalize m-1=M1 at *;generalize ON:decide ((PC.length:Int)=1)=q1 at *;generalize (PC.length:Int)=n1 at *;cases q1<;>simp[KG.Z,e2,l1,l2,c1,c2,o1]
 generalize wb m ts=WB at *;rw[qc P.need_tree];simp only[zE];simp[KG.Z,gF,e]
theorem ve{k:Nat}{d:D}(h:qa p (k+3) "is_web" [d]=.ok (.bl false)):qa p (k+6) "need_tree" [d]=.ex "NoWeb":=by
 have e1:qa p (k+4) "need_web" [d]=.ex "NoWeb":=by
  rw[qc P.web.need_web];simp only[zE];simp[KG.Z,KG.gS,h]
 have e2:qa p (k+5) "is_tree" [d]=.ex "NoWeb":=by
  rw[qc P.is_tree];simp only[zE];simp[KG.Z,jx,e1]
 rw[qc P.need_tree];simp only[zE];simp[KG.Z,gF,e2]
end
end KG
namespace K43
open EV KG
open PySem (Str)
open L2 (atI ixN ltP atK)
noncomputable def depth:Nat:=12
theorem B:Web p:=⟨by kernel_rfl,by kernel_rfl,by kernel_rfl,by kernel_rfl,by kernel_rfl,by kernel_rfl,by kernel_rfl,by kernel_rfl⟩
theorem O:Nbr p:=⟨by kernel_rfl,by kernel_rfl,by kernel_rfl,by kernel_rfl,by kernel_rfl⟩
theorem F:Fw p:=⟨by kernel_rfl,by kernel_rfl,by kernel_rfl,by kernel_rfl,by kernel_rfl⟩
theorem P:Trc p true:=⟨B,⟨by kernel_rfl,by kernel_rfl,by kernel_rfl⟩,by kernel_rfl,by kernel_rfl,by kernel_rfl,by kernel_rfl,by kernel_rfl⟩
theorem hLH:p.fns "_law_hood" = some KG.fU:=by kernel_rfl
theorem hNW:p.fns "_law_no_web" = some KG.iV:=by kernel_rfl
theorem hTB:p.fns "_law_tree_by" = some KG.jN:=by kernel_rfl
theorem hSt:p.fns "_law_stir" = some KG.zF:=by kernel_rfl
theorem hSm:p.fns "_law_same" = some KG.gJ:=by kernel_rfl
theorem ten:∀n:Nat,n<=10->n=0\/n=1\/n=2\/n=3\/n=4\/n=5\/n=6\/n=7\/n=8\/n=9\/n=10:=by
 intro n h;have:∀n:Fin 11,n.val=0\/n.val=1\/n.val=2\/n.val=3\/n.val=4\/n.val=5\/n.val=6\/n.val=7\/n.val=8\/n.val=9\/n.val=10:=by decide +kernel
 exact this ⟨n,Nat.lt_succ_of_le h⟩
theorem lo3{k:Nat}:∀n:Nat,n<=10->∃d,qa p (k+2) "lowest" [.int (n:Nat),.int 3]=.ok d/\qa p (k+2) "rounded_up" [d]=.ok (.int ((n+2)/3:Nat)):=by
 intro n hn;refine⟨.tup [.int (n/Nat.gcd n 3:Nat),.int (3/Nat.gcd n 3:Nat)],?_⟩;rcases ten n hn with rfl|rfl|rfl|rfl|rfl|rfl|rfl|rfl|rfl|rfl|rfl<;>exact⟨by kernel_rfl,by kernel_rfl⟩
noncomputable def nn(m:Int)(ts:List (Int×Int)):Nat:=(m+2-(enz m ts).length).toNat
noncomputable def be(m:Int)(ts:List (Int×Int)):Int:=((nn m ts+2)/3:Nat)
theorem r8{m:Int}{ts:List (Int×Int)}(h:1<=m):((enz m ts).length:Int)<=m:=by
 have:=List.length_filter_le (λv=>decide (((hd m ts v).length:Int)=2)) (rng m);rw[zp]at this;rw[enz];lia
theorem sP{m:Int}{ts:List (Int×Int)}(h:1<=m):m+2-(enz m ts).length=(nn m ts:Int):=by
 have:=r8 (ts:=ts) h;rw[nn];lia
theorem mC{k:Nat}{m:Int}{ts:List (Int×Int)}(T:Tree m ts):qa p (k+9) "by_ends" [wb m ts]=.ok (.int (be m ts)):=by
 have h1:=T.gw.lo;have h8:=T.gw.hi;have e1:=vO P T (k:=k);have e2:=gN (enz m ts);have a1:op2 .add (.int m) (.int 2)=.ok (.int (m+2)):=rfl;have a2:op2 .sub (.int (m+2)) (.int ((enz m ts).length:Int))=.ok (.int (nn m ts:Int)):=by
  rw[<-sP h1];rfl
 have hx:ixD (wb m ts) (.int 0)=.ok (.int m):=rfl;obtain⟨d,l1,l2⟩:=lo3 (k:=k+6) (nn m ts) (by rw[nn];lia);rw[be];generalize (((nn m ts+2)/3:Nat):Int)=Z at *;generalize (nn m ts:Int)=N at *;generalize ((enz m ts).length:Int)=L at *;generalize tu (enz m ts)=TE at *;generalize m+2=M2 at *;generalize wb m ts=WB at *;rw[qc pC];refine qi rfl rfl ?_;simp[KG.Z,jR,e1,e2,a1,a2,hx,l1,l2]
theorem rf{k:Nat}{d:D}{X:Str}(h:qa p (k+7) "need_tree" [d]=.ex X):qa p (k+9) "by_ends" [d]=.ex X:=by
 have e:qa p (k+8) "ends" [d]=.ex X:=by
  rw[qc P.ends];simp only[zE];simp[KG.Z,KG.jB,h]
 rw[qc pC];simp only[zE];simp[KG.Z,jR,e]
theorem kd0{k:Nat}:qa p (k+1) "_law_kinds" [.exn "NoWeb"]=.ok (.int 0):=by rw[qc nU];kernel_rfl
theorem kd6{k:Nat}:qa p (k+1) "_law_kinds" [.exn "NotTree"]=.ok (.int 6):=by rw[qc nU];kernel_rfl
abbrev TBd:Ss:=.cons (.ret (.call "by_ends" (.cons (.var 0) .nil))) .nil
theorem u7{k:Nat}{a d:D}(h:qa p (k+9) "by_ends" [a]=.ok d):qa p (k+10) "_law_told" [a]=.ok d:=by
 rw[qc oF];refine qi (τ:=[some a,none]) rfl rfl ?_;show qe (wAt p (k+9)) (.cons (.try TBd "PlaceError" (some 1) _) _) _=_;rw[qe,zA];have:qe (wAt p (k+9)) TBd [some a,none]=.rt d:=by simp[KG.Z,h]
 rw[this]
theorem pM{k:Nat}{a:D}{X:Str}{r:Int}(h:qa p (k+9) "by_ends" [a]=.ex X)(hk:qa p (k+9) "_law_kinds" [.exn X]=.ok (.int r))(hc:p.cat X "PlaceError" = true):qa p (k+10) "_law_told" [a]=.ok (.tup [.str "no",.int r]):=by
 rw[qc oF];refine qi (τ:=[some a,none]) rfl rfl ?_;show qe (wAt p (k+9)) (.cons (.try TBd "PlaceError" (some 1) _) _) _=_;rw[qe,zA];have hb:qe (wAt p (k+9)) TBd [some a,none]=.ex X:=by simp[KG.Z,h]
 rw[hb];have Hc:(wAt p (k+9)).cat X "PlaceError" = true:=hc;simp only[Hc,if_true,dR];simp[KG.Z,hk,O.rtOnly,hc,qF]
theorem Dr{a b:Int}(h:small a=true):op2 .mul (.int a) (.int b)=.ok (.int (a * b)):=by
 rw[op2,opI,if_pos (by rw[h];rfl)]
theorem Ct{m:Int}{ts:List (Int×Int)}(T:Tree m ts)(h:m<3):be m ts=1:=by
 have h1:=T.gw.lo;have:=r8 (ts:=ts) h1;rw[be,nn];by_cases q:m=1
 ·subst q;lia
 ·obtain⟨a,r,e⟩:=mU T (by lia);rw[e,bA]at this ⊢;lia
theorem DL:∀n:Nat,n<=10->∃r,(rng ((n:Int)+1)).filter (λk=>decide (3 * k >= (n:Int)))=(((n+2)/3:Nat):Int)::r:=by
 have e:∀{x:Int}{l:List Int},l.head? = some x->∃r,l=x::r:=λ{x l} h=>by
  cases l with
  |nil=>cases h
  |cons y l=>simp at h;exact⟨l,by rw[h]⟩
 intro n hn;refine e ?_;rcases ten n hn with rfl|rfl|rfl|rfl|rfl|rfl|rfl|rfl|rfl|rfl|rfl<;>decide +kernel
theorem nC{w:W}{m:Int}{ts:List (Int×Int)}{τ:Env}{j:Nat}(g:GW m ts)(hh:∀a:Int,0<=a->a<m->w.call "_law_hood" [wb m ts,.int a]=.ok (tu (hd m ts a))){e:EV.E}(he:evE w e τ=.ok (.int m))(hj:dY [none,none,some j] τ=[none,none,some (wb m ts)]):evE w (.comp (.rng e) [none,none,some j] (.nm 1) (.cmp .eq (.bi .len (.cons (.call "_law_hood" (.cons (.var 2) (.cons (.var 1) .nil))) .nil)) (.con (.int 2))) (.var 1)) τ=.ok (.lst ((enz m ts).map D.int)):=by
 have h8:=g.hi;have h1:=g.lo;have hm:qD m=true:=by simp[qD];lia
 refine iz (f:=D.int) (l:=rng m) (c:=[some (wb m ts)]) (λv=>decide (((hd m ts v).length:Int)=2)) D.int ?_ ?_ hj λv hv=>⟨?_,λ_=>rfl⟩
 ·rw[<-zZ];simp[KG.Z,he,hm]
 ·rw[zp];simp only[SZ];lia
 ·obtain⟨v0,v1⟩:=b7.mp hv;have e:=hh v v0 v1;have l:=gN (hd m ts v);have cc:=eq_int ((hd m ts v).length) 2;generalize tu (hd m ts v)=TV at *;generalize ((hd m ts v).length:Int)=L at *;generalize wb m ts=WT at *;simp[KG.Z,e,l,cc]
theorem BO{w:W}{WB:D}(N Z:Int)(r:List Int)(h0:0<=N)(OO:N<=10)(hr:(rng (N+1)).filter (λk=>decide (3 * k >= N))=Z::r):evE w (.comp (.rng (.op .add (.var 1) (.con (.int 1)))) [none,none,some 1] (.nm 1) (.cmp .ge (.op .mul (.con (.int 3)) (.var 1)) (.var 2)) (.var 1)) [some WB,some (.int N)]=.ok (.lst ((Z::r).map D.int)):=by
 rw[<-hr];have hs:qD (N+1)=true:=by simp[qD];lia
 have oa:op2 .add (.int N) (.int 1)=.ok (.int (N+1)):=rfl;refine iz (f:=D.int) (l:=rng (N+1)) (c:=[some (.int N)]) (λv=>decide (3 * v >= N)) D.int ?_ ?_ rfl λv hv=>⟨?_,λ_=>rfl⟩
 ·rw[<-zZ];generalize N+1=N1 at *;simp[KG.Z,oa,hs]
 ·rw[zp];simp only[SZ];lia
 ·obtain⟨v0,v1⟩:=b7.mp hv;have om:op2 .mul (.int 3) (.int v)=.ok (.int (3 * v)):=Dr rfl;have cg:qm .ge (.int (3 * v)) (.int N)=.ok (decide (3 * v >= N)):=rfl;generalize 3 * v=V3 at *;simp[KG.Z,om,cg]
theorem xF{k:Nat}{WB:D}{m M2 N L Z:Int}{r es:List Int}(hx:ixD WB (.int 0)=.ok (.int m))(l3:qm .lt (.int m) (.int 3)=.ok false)(a1:op2 .add (.int m) (.int 2)=.ok (.int M2))(a2:op2 .sub (.int M2) (.int L)=.ok (.int N))(ll:b1 .len [.lst (es.map D.int)]=.ok (.int L))
  (hc:evE (wAt p (k+1)) (.comp (.rng (.ix (.var 0) (.con (.int 0)))) [none,none,some 0] (.nm 1) (.cmp .eq (.bi .len (.cons (.call "_law_hood" (.cons (.var 2) (.cons (.var 1) .nil))) .nil)) (.con (.int 2))) (.var 1)) [some WB,none]=.ok (.lst (es.map D.int)))
  (F_:evE (wAt p (k+1)) (.comp (.rng (.op .add (.var 1) (.con (.int 1)))) [none,none,some 1] (.nm 1) (.cmp .ge (.op .mul (.con (.int 3)) (.var 1)) (.var 2)) (.var 1)) [some WB,some (.int N)]=.ok (.lst ((Z::r).map D.int))):qa p (k+2) "_law_due" [WB]=.ok (.int Z):=by
 have i0:=ix0 D.int Z r;rw[qc pH];refine qi (τ:=[some WB,none]) rfl rfl ?_;refine cK (σ:=[some WB,none]) (by simp[KG.Z,hx,l3]) ?_;refine cK (σ:=[some WB,some (.int N)]) (by
  generalize EV.E.comp (.rng (.ix (.var 0) (.con (.int 0)))) [none,none,some 0] (.nm 1) (.cmp .eq (.bi .len (.cons (.call "_law_hood" (.cons (.var 2) (.cons (.var 1) .nil))) .nil)) (.con (.int 2))) (.var 1)=CE at *;generalize D.lst (es.map D.int)=LE at *;simp[KG.Z,hc,hx,ll,a1,a2]) ?_
 generalize EV.E.comp (.rng (.op .add (.var 1) (.con (.int 1)))) [none,none,some 1] (.nm 1) (.cmp .ge (.op .mul (.con (.int 3)) (.var 1)) (.var 2)) (.var 1)=CE at *;generalize D.lst ((Z::r).map D.int)=LZ at *;simp[KG.Z,F_,i0]
theorem EW{k:Nat}{m:Int}{ts:List (Int×Int)}(T:Tree m ts):qa p (k+2) "_law_due" [wb m ts]=.ok (.int (be m ts)):=by
 have h1:=T.gw.lo;have h8:=T.gw.hi;have hx:ixD (wb m ts) (.int 0)=.ok (.int m):=rfl;have l3:=lt_int m 3;by_cases h3:m<3
 ·rw[decide_eq_true h3]at l3;rw[Ct T h3];generalize wb m ts=WB at *;rw[qc pH];refine qi rfl rfl ?_;simp[KG.Z,lQ,hx,l3]
 rw[decide_eq_false h3]at l3;have hn:nn m ts<=10:=by rw[nn];lia
 obtain⟨r,hr⟩:=DL (nn m ts) hn;have hc:=nC (w:=wAt p (k+1)) (τ:=[some (wb m ts),none]) (j:=0) (e:=.ix (.var 0) (.con (.int 0))) T.gw (λa a0 a1=>nc hLH (k:=k) T.gw ⟨a0,a1⟩) (by generalize wb m ts=WB at *;simp[KG.Z,hx]) rfl;have ll:b1 .len [.lst ((enz m ts).map D.int)]=.ok (.int ((enz m ts).length:Int)):=by rw[tK,aV]
 have a2:op2 .sub (.int (m+2)) (.int ((enz m ts).length:Int))=.ok (.int (nn m ts:Int)):=by
  rw[<-sP h1];rfl
 have NI:0<=(nn m ts:Int):=by lia
 have Lf:(nn m ts:Int)<=10:=by lia
 exact xF hx l3 rfl a2 ll hc (BO _ _ r NI Lf hr)
theorem fewest{k:Nat}{m:Int}{ts:List (Int×Int)}(T:Tree m ts):∃s r,few (hl m ts)=s::r/\be m ts<=(s.length:Int)/\qa p (k+9) "fewest" [wb m ts]=.ok (.int s.length):=by
 obtain⟨x,y,hL⟩:=oB T.gw;obtain⟨s,r,e,hs⟩:=DJ (L:=hl m ts) (by rw[hL];simp);have hm:s∈hl m ts:=by
  have:s∈few (hl m ts):=by rw[e];exact aM
  exact(bu.mp this).1
 refine⟨s,r,e,?_,KG.fewest B O F (k:=k) T.gw e⟩;have:=vv T (yG T.gw hm) (wF hm);have h1:=T.gw.lo;rw[be,nn];lia
theorem vj{a b:Int}(h:b<=a):qm .ge (.int a) (.int b)=.ok true:=by
 show R.ok (decide (b<=a))=_;rw[decide_eq_true h]
theorem AU{k:Nat}{m:Int}{ts:List (Int×Int)}(T:Tree m ts):qa p (k+11) "_law_right" [wb m ts]=.ok (.bl true):=by
 have e1:=u7 (mC (k:=k) T);have e2:=EW (k:=k+8) T;have e3:=same_int hSm (k:=k+9) (be m ts);have e4:=mC (k:=k+1) T;obtain⟨s,r,_,q,e5⟩:=fewest (k:=k+1) T;have e6:=vj q;generalize (s.length:Int)=S at *;generalize be m ts=Z at *;generalize wb m ts=WB at *;rw[qc uL];refine qi rfl rfl ?_;simp[KG.Z,kj,e1,e2,e3,e4,e5,e6]
theorem Av{k:Nat}{m:Int}{ts:List (Int×Int)}(h:GW m ts)(hn:(ts.length:Int)≠m-1):qa p (k+10) "_law_told" [wb m ts]=.ok (.tup [.str "no",.int 6]):=pM (rf (yc P (k:=k) h hn)) kd6 (by kernel_rfl)
def BW(d:D):Prop:=∀k,qa p (k+3) "is_web" [d]=.ok (.bl false)
theorem vx{k:Nat}{d:D}(h:BW d):qa p (k+10) "_law_told" [d]=.ok (.tup [.str "no",.int 0]):=pM (rf (ve P (k:=k+1) (h (k+1)))) kd0 (by kernel_rfl)
theorem nI{m:Int}{ts:List (Int×Int)}(g:GW m ts)(l:(ts.length:Int)=m-1)(h:∀i,1<=i->i<m->∃q,0<=q/\q<i/\(q,i)∈ts):Tree m ts:=by
 have up:∀n:Nat,(n:Int)<m->Rch m ts 0 (n:Int):=by
  intro n
  induction n using Nat.strongRecOn with
  |ind n ih=>
   intro hn;by_cases z:n=0
   ·subst z;exact .refl _
   ·obtain⟨q,q0,q1,ht⟩:=h n (by lia) hn;have:=ih q.toNat (by lia) (by lia);rw[show ((q.toNat:Nat):Int)=q by lia]at this;refine this.step (jL ⟨by lia,hn⟩ (l9 ?_ ⟨q0,by lia⟩));rw[srt,if_pos (by simp only;lia)];exact ht
 have Mb:∀a,0<=a->a<m->Rch m ts 0 a:=λa a0 a1=>by
  have:=up a.toNat (by lia)
  rwa[show ((a.toNat:Nat):Int)=a by lia]at this
 have lo:=g.lo;exact⟨g,l,λa b a0 a1 b0 b1=>((Mb a a0 a1).symm ⟨by lia,by lia⟩).1.trans (Mb b b0 b1)⟩
noncomputable def lnT(m:Int):List (Int×Int):=(rng (m-1)).map λa=>(a,a+1)
noncomputable def ryT(m:Int):List (Int×Int):=(rg2 1 m).map λa=>(0,a)
theorem jI{m:Int}(h1:1<=m)(h8:m<=8):m=1\/m=2\/m=3\/m=4\/m=5\/m=6\/m=7\/m=8:=by lia
theorem kI{m:Int}(h1:1<=m)(h8:m<=8):Tree m (lnT m):=by
 refine nI ?_ ?_ λi i1 i2=>⟨i-1,by lia,by lia,aU.mpr ⟨i-1,b7.mpr ⟨by lia,by lia⟩,by rw[show i-1+1=i by lia]⟩⟩
 ·rcases jI h1 h8 with rfl|rfl|rfl|rfl|rfl|rfl|rfl|rfl<;>exact⟨by decide,by decide,by decide +kernel,by decide +kernel,by decide +kernel⟩
 ·rw[lnT,aV,zp];lia
theorem pk{m:Int}(h1:1<=m)(h8:m<=8):Tree m (ryT m):=by
 refine nI ?_ ?_ λi i1 i2=>⟨0,by lia,by lia,aU.mpr ⟨i,gM.mpr ⟨by lia,by lia⟩,rfl⟩⟩
 ·rcases jI h1 h8 with rfl|rfl|rfl|rfl|rfl|rfl|rfl|rfl<;>exact⟨by decide,by decide,by decide +kernel,by decide +kernel,by decide +kernel⟩
 ·rw[ryT,aV,rg2,aV,List.length_range];lia
theorem vA{m:Int}(h1:1<=m)(h8:m<=8):(((few (hl m (lnT m))).headD []).length:Int)=be m (lnT m):=by
 rcases jI h1 h8 with rfl|rfl|rfl|rfl|rfl|rfl|rfl|rfl<;>decide +kernel
theorem Ba{m:Int}(h1:1<=m)(h8:m<=8):be m (ryT m)=1:=by
 rcases jI h1 h8 with rfl|rfl|rfl|rfl|rfl|rfl|rfl|rfl<;>decide +kernel
theorem Bi{k:Nat}{m:Int}(h1:1<=m)(h8:m<=8):qa p (k+9) "fewest" [wb m (lnT m)]=.ok (.int (be m (lnT m))):=by
 obtain⟨s,r,e,_,q⟩:=fewest (k:=k) (kI h1 h8);rw[q,<-vA h1 h8,e]
 rfl
theorem ya{ts:List (Int×Int)}(h2:2<=ts.length)(h:ts.length<64):b1 .sorted [.tup (ts.map prD)]=.ok (.lst ((qq ts).map prD)):=by
 have e:b1 .sorted [.tup (ts.map prD)]=(if (ts.map prD).length<64 then (match ints? (ts.map prD)with
   |some ns=>R.ok (.lst ((sortI ns).map D.int))
   |none=>cJ (ts.map prD))else R.no):=rfl
 rw[e,if_pos (by simpa using h)];cases ts with
 |nil=>simp at h2
 |cons t r=>
  have e:ints? ((t::r).map prD)=none:=rfl;rw[e];exact n_ (lK _) h2
abbrev LS(ns:List Int)(v1 v2 v3 v4 v5 v6:Option D):Env:=[some (.lst (ns.map D.int)),v1,v2,v3,v4,v5,v6]
theorem AI(a M:Int):EV.D.tup [.tup [.int a,.int M]]=.tup ([(a,M)].map prD):=rfl
theorem xR{w:W}(ns:List Int)(hn:ns.length<=63)(FI:∀c j:Int,w.call "_law_stir" [.int c,.int j]=.ok (.int (st c j)))
  (ht:∀m c:Int,1<=m->m<=8->∃ts,Tree m ts/\w.call "_law_tree_by" [.int m,.int c]=.ok (wb m ts))
  (hh:∀m ts (a:Int),GW m ts->0<=a->a<m->w.call "_law_hood" [wb m ts,.int a]=.ok (tu (hd m ts a)))
  (hr:∀m ts,Tree m ts->w.call "_law_right" [wb m ts]=.ok (.bl true))
  (hb:∀m ts,Tree m ts->w.call "by_ends" [wb m ts]=.ok (.int (be m ts)))
  (h6:∀m ts,GW m ts->(ts.length:Int)≠m-1->w.call "_law_told" [wb m ts]=.ok (.tup [.str "no",.int 6]))
  (NJ:∀m ts n,GW m ts->∃d,w.call "_law_no_web" [wb m ts,.int n]=.ok d/\BW d)
  (h0:∀d,BW d->w.call "_law_told" [d]=.ok (.tup [.str "no",.int 0]))
  (hf:∀m:Int,1<=m->m<=8->w.call "fewest" [wb m (lnT m)]=.ok (.int (be m (lnT m)))) :
  Ends (λ_=>False) (λd=>d=.bl true) (qe w fT.body (LS ns none none none none none none)):=by
 have n6:qm .ne (.tup [.str "no",.int 6]) (.tup [.str "no",.int 6])=.ok false:=by kernel_rfl
 have n0:qm .ne (.tup [.str "no",.int 0]) (.tup [.str "no",.int 0])=.ok false:=by kernel_rfl
 obtain⟨cs,HS,HV⟩:=Df ns none (some 6);refine gq (ds:=(cs++[0,3,129]).map D.int) (λr σ=>∃(ms:List Int) (v1 v2 v3 v4:Option D),r=ms.map D.int/\σ=LS ns v1 v2 v3 v4 none none) ?_ ⟨_,none,none,none,none,rfl,rfl⟩ ?_ ?_
 ·have e:op2 .add (.lst (cs.map D.int)) (.lst [.int 0,.int 3,.int 129])=.ok (.lst ((cs++[0,3,129]).map D.int)):=by
   rw[op2,if_pos (by simp[SZ];lia)];simp
  simp[KG.Z,slD,HS,e,seq?]
 ·rintro x t σ ⟨ms,v1,v2,v3,v4,e,rfl⟩;obtain⟨c,ms,rfl,rfl,rfl⟩:=fx e;have m1:1<=1+c/64%8:=by lia
  have m2:1+c/64%8<=8:=by lia
  obtain⟨ts,T,et⟩:=ht (1+c/64%8) (c/512) m1 m2;refine⟨LS ns (some (.int c)) v2 v3 v4 none none,rfl,?_⟩;refine zB (σ:=LS ns (some (.int c)) (some (.int (1+c/64%8))) v3 v4 none none) (by simp[KG.Z,op2]) ?_;generalize hM:1+c/64%8=M at *;have zd:op2 .fdiv (.int c) (.int 512)=.ok (.int (c/512)):=rfl;refine zB (σ:=LS ns (some (.int c)) (some (.int M)) (some (wb M ts)) v4 none none) (by
   generalize wb M ts=WT at *;generalize c/512=C1 at *;simp[KG.Z,zd,et]) ?_
  have er:=hr M ts T;refine zB (σ:=LS ns (some (.int c)) (some (.int M)) (some (wb M ts)) v4 none none) (by
   dsimp only[LS];generalize wb M ts=WT at *;simp[KG.Z,er]) ?_
  have Ia:ixD (wb M ts) (.int 1)=.ok (.tup (ts.map prD)):=rfl;have oM:op2 .add (.int M) (.int 1)=.ok (.int (M+1)):=rfl;have l8:=lt_int M 8;have g2:qm .gt (.int M) (.int 2)=.ok (decide (2<M)):=rfl;have four:∃IB,evS w (.ite (.and (.cmp .gt (.var 2) (.con (.int 2))) (.cmp .lt (.var 2) (.con (.int 8)))) (.cons (.set (.nm 4) (.ix (.comp (.rng (.var 2)) [none,none,some 3] (.nm 1) (.cmp .eq (.bi .len (.cons (.call "_law_hood" (.cons (.var 2) (.cons (.var 1) .nil))) .nil)) (.con (.int 2))) (.var 1)) (.con (.int 0)))) (.cons (.ite (.cmp .lt (.call "by_ends" (.cons (.tup (.cons (.op .add (.var 2) (.con (.int 1))) (.cons (.bi .tuple (.cons (.bi .sorted (.cons (.op .add (.ix (.var 3) (.con (.int 1))) (.tup (.cons (.tup (.cons (.var 4) (.cons (.var 2) .nil))) .nil))) .nil)) .nil)) .nil))) .nil)) (.call "by_ends" (.cons (.var 3) .nil))) (.cons (.ret (.con (.bl false))) .nil) .nil) .nil)) .nil) (LS ns (some (.int c)) (some (.int M)) (some (wb M ts)) v4 none none)=.nx (LS ns (some (.int c)) (some (.int M)) (some (wb M ts)) IB none none):=by
   by_cases Mc:2<M
   ·rw[decide_eq_true Mc]at g2;by_cases IC:M<8
    ·rw[decide_eq_true IC]at l8;obtain⟨a,r,ea⟩:=mU T (by lia);have ha:a∈enz M ts:=by rw[ea];exact aM
     obtain⟨a0,a1⟩:=b7.mp (bu.mp ha).1;have hc:=nC (w:=w) (τ:=LS ns (some (.int c)) (some (.int M)) (some (wb M ts)) v4 none none) (j:=3) (e:=.var 2) T.gw (λa a0 a1=>hh M ts a T.gw a0 a1) rfl rfl;rw[ea]at hc;have i0:=ix0 D.int a r;have tl:=T.len;have ad:op2 .add (.tup (ts.map prD)) (.tup [.tup [.int a,.int M]])=.ok (.tup ((ts++[(a,M)]).map prD)):=by
      rw[AI,pR _ _ (by simp[SZ];lia),List.map_append]
     have so:=ya (ts:=ts++[(a,M)]) (by simp;lia) (by simp;lia);have tp:b1 .tuple [.lst ((qq (ts++[(a,M)])).map prD)]=.ok (.tup ((qq (ts++[(a,M)])).map prD)):=rfl;have Le:w.call "by_ends" [.tup [.int (M+1),.tup ((qq (ts++[(a,M)])).map prD)]]=.ok (.int (be (M+1) (qq (ts++[(a,M)])))):=hb _ _ (xE T IC a0 a1);have b2:=hb M ts T;have le:be M ts<=be (M+1) (qq (ts++[(a,M)])):=by
      have:=Ff T (by lia) a;rw[be,be,nn,nn];lia
     have lt:qm .lt (.int (be (M+1) (qq (ts++[(a,M)])))) (.int (be M ts))=.ok false:=by
      rw[lt_int,decide_eq_false (by lia)]
     refine⟨some (.int a),?_⟩;dsimp only[LS]at hc ⊢;generalize EV.E.comp (.rng (.var 2)) [none,none,some 3] (.nm 1) (.cmp .eq (.bi .len (.cons (.call "_law_hood" (.cons (.var 2) (.cons (.var 1) .nil))) .nil)) (.con (.int 2))) (.var 1)=CE at *;generalize D.lst ((a::r).map D.int)=LE at *;generalize be (M+1) (qq (ts++[(a,M)]))=Z1 at *;generalize be M ts=Z2 at *;generalize D.tup ((qq (ts++[(a,M)])).map prD)=S1 at *;generalize D.lst ((qq (ts++[(a,M)])).map prD)=S2 at *;generalize D.tup ((ts++[(a,M)]).map prD)=S3 at *;generalize wb M ts=WT at *;generalize D.tup (ts.map prD)=S4 at *;generalize M+1=M1 at *;simp[KG.Z,g2,l8,hc,i0,Ia,oM,ad,so,tp,Le,b2,lt,qF]
    ·rw[decide_eq_false IC]at l8;refine⟨v4,?_⟩;dsimp only[LS];generalize wb M ts=WT at *;simp[KG.Z,g2,l8]
   ·rw[decide_eq_false Mc]at g2;refine⟨v4,?_⟩;dsimp only[LS];generalize wb M ts=WT at *;simp[KG.Z,g2]
  obtain⟨IB,e4⟩:=four;refine zB e4 ?_;refine zB (σ:=LS ns (some (.int c)) (some (.int M)) (some (wb M ts)) IB none none) (by
   by_cases IC:M<8
   ·rw[decide_eq_true IC]at l8;have g1:GW (M+1) ts:=⟨by lia,by lia,T.gw.lt,λt ht=>by
     have:=T.gw.ok t ht;exact⟨this.1,this.2.1,by lia⟩,T.gw.len⟩
    have e6:w.call "_law_told" [.tup [.int (M+1),.tup (ts.map prD)]]=.ok (.tup [.str "no",.int 6]):=h6 (M+1) ts g1 (by have:=T.len;lia);generalize hY:EV.D.tup [.str "no",.int 6]=Y6 at *;have Jv:evE w (.tup (.cons (.con (.str "no")) (.cons (.con (.int 6)) .nil))) (LS ns (some (.int c)) (some (.int M)) (some (wb M ts)) IB none none)=.ok Y6:=by rw[<-hY];rfl
    dsimp only[LS]at Jv ⊢;generalize EV.E.tup (.cons (.con (.str "no")) (.cons (.con (.int 6)) .nil))=YE at *;generalize wb M ts=WT at *;generalize D.tup (ts.map prD)=TT at *;generalize M+1=M1 at *;simp[KG.Z,l8,Ia,oM,e6,n6,Jv,qF]
   ·rw[decide_eq_false IC]at l8;dsimp only[LS];generalize wb M ts=WT at *;simp[KG.Z,l8]) ?_
  obtain⟨u,eu,hu⟩:=NJ M ts (st c 1) T.gw;have t1:=FI c 1;have e0:=h0 u hu;refine zB (σ:=LS ns (some (.int c)) (some (.int M)) (some (wb M ts)) IB none none) (by
   generalize hY:EV.D.tup [.str "no",.int 0]=Y0 at *;have Jv:evE w (.tup (.cons (.con (.str "no")) (.cons (.con (.int 0)) .nil))) (LS ns (some (.int c)) (some (.int M)) (some (wb M ts)) IB none none)=.ok Y0:=by rw[<-hY];rfl
   dsimp only[LS]at Jv ⊢;generalize EV.E.tup (.cons (.con (.str "no")) (.cons (.con (.int 0)) .nil))=YE at *;generalize st c 1=C1 at *;generalize wb M ts=WT at *;simp[KG.Z,t1,eu,e0,n0,Jv]) (eS ⟨ms,_,_,_,_,rfl,rfl⟩)
 ·rintro σ ⟨ms,v1,v2,v3,v4,e,rfl⟩;refine gq (ds:=(rg2 1 9).map D.int) (λr σ=>∃(ms:List Int) (v2 v5 v6:Option D),r=ms.map D.int/\(∀m∈ms,1<=m/\m<=8)/\σ=LS ns v1 v2 v3 v4 v5 v6) rfl ⟨rg2 1 9,v2,none,none,rfl,λm hm=>by have:=gM.mp hm;lia,rfl⟩ ?_ ?_
  ·rintro x t σ ⟨ms,v2,v5,v6,e,Md,rfl⟩;obtain⟨m,ms,rfl,rfl,rfl⟩:=fx e;obtain⟨m1,m8⟩:=Md m aM;refine⟨LS ns v1 (some (.int m)) v3 v4 v5 v6,rfl,?_⟩;have JP:∀v5,evE w (.comp (.rng (.op .sub (.var 2) (.con (.int 1)))) [none,none] (.nm 1) .yes (.tup (.cons (.var 1) (.cons (.op .add (.var 1) (.con (.int 1))) .nil)))) (LS ns v1 (some (.int m)) v3 v4 v5 v6)=.ok (.lst ((lnT m).map prD)):=λv5=>by
    rw[lnT,ck];have hs:qD (m-1)=true:=by simp[qD];lia
    have os:op2 .sub (.int m) (.int 1)=.ok (.int (m-1)):=rfl;refine iT (f:=D.int) (l:=rng (m-1)) (c:=[]) (λa=>prD (a,a+1)) ?_ ?_ rfl λv hv=>?_
    ·rw[<-zZ];dsimp only[LS];generalize m-1=M1 at *;simp[KG.Z,os,hs]
    ·rw[zp];simp only[SZ];lia
    ·have oa:op2 .add (.int v) (.int 1)=.ok (.int (v+1)):=rfl;simp[KG.Z,oa,qF,prD,pairD]
   have NK:∀v5,evE w (.comp (.rng2 (.con (.int 1)) (.var 2)) [none,none] (.nm 1) .yes (.tup (.cons (.con (.int 0)) (.cons (.var 1) .nil)))) (LS ns v1 (some (.int m)) v3 v4 v5 v6)=.ok (.lst ((ryT m).map prD)):=λv5=>by
    rw[ryT,ck];have hs:qD m=true:=by simp[qD];lia
    have Il:qD 1=true:=by rfl
    refine iT (f:=D.int) (l:=rg2 1 m) (c:=[]) (λa=>prD (0,a)) ?_ ?_ rfl λv hv=>?_
    ·rw[<-nO];simp[KG.Z,hs,Il]
    ·rw[rg2,aV,List.length_range];simp only[SZ];lia
    ·simp[KG.Z,qF,prD,pairD]
   have q5:=JP v5;refine zB (σ:=LS ns v1 (some (.int m)) v3 v4 (some (wb m (lnT m))) v6) (by
    show _=O.nx (LS ns v1 (some (.int m)) v3 v4 (some (.tup [.int m,.tup ((lnT m).map prD)])) v6);have tp:b1 .tuple [.lst ((lnT m).map prD)]=.ok (.tup ((lnT m).map prD)):=rfl;dsimp only[LS]at q5 ⊢;generalize EV.E.comp (.rng (.op .sub (.var 2) (.con (.int 1)))) [none,none] (.nm 1) .yes (.tup (.cons (.var 1) (.cons (.op .add (.var 1) (.con (.int 1))) .nil)))=CE at *;generalize D.lst ((lnT m).map prD)=L5 at *;generalize D.tup ((lnT m).map prD)=T5 at *;simp[KG.Z,q5,tp,qF]) ?_
   have q6:=NK (some (wb m (lnT m)));refine zB (σ:=LS ns v1 (some (.int m)) v3 v4 (some (wb m (lnT m))) (some (wb m (ryT m)))) (by
    show _=O.nx (LS ns v1 (some (.int m)) v3 v4 (some (wb m (lnT m))) (some (.tup [.int m,.tup ((ryT m).map prD)])));have tp:b1 .tuple [.lst ((ryT m).map prD)]=.ok (.tup ((ryT m).map prD)):=rfl;dsimp only[LS]at q6 ⊢;generalize EV.E.comp (.rng2 (.con (.int 1)) (.var 2)) [none,none] (.nm 1) .yes (.tup (.cons (.con (.int 0)) (.cons (.var 1) .nil)))=CE at *;generalize D.lst ((ryT m).map prD)=L6 at *;generalize D.tup ((ryT m).map prD)=T6 at *;generalize wb m (lnT m)=W5 at *;simp[KG.Z,q6,tp,qF]) ?_
   have r5:=hr _ _ (kI m1 m8);have r6:=hr _ _ (pk m1 m8);have b5:=hb _ _ (kI m1 m8);have b6:=hb _ _ (pk m1 m8);rw[Ba m1 m8]at b6;have f5:=hf m m1 m8;have c5:=ne_int (be m (lnT m)) (be m (lnT m));rw[decide_eq_true rfl]at c5;have c6:=ne_int 1 1;refine zB (σ:=LS ns v1 (some (.int m)) v3 v4 (some (wb m (lnT m))) (some (wb m (ryT m)))) (by
    dsimp only[LS];generalize be m (lnT m)=Z at *;generalize wb m (lnT m)=W5 at *;generalize wb m (ryT m)=W6 at *;simp[KG.Z,r5,r6,b5,b6,f5,c5,c6]) (eS ⟨ms,_,_,_,rfl,λm hm=>Md m (aR _ hm),rfl⟩)
  ·rintro σ ⟨ms,v2,v5,v6,e,_,rfl⟩;exact jm (d:=.bl true) rfl rfl
theorem AL{F:Str->List D->R D}(ns:List Int)(h:Ends (λ_=>False) (λd=>d=.bl true) (qe ⟨F,p.glb,p.sub,p.cat⟩ fT.body (LS ns none none none none none none))):zE ⟨F,p.glb,p.sub,p.cat⟩ fT [.lst (ns.map D.int)]=.ok (.bl true):=by
 obtain⟨d,e,rfl⟩:=l4 (w:=⟨F,p.glb,p.sub,p.cat⟩) (f:=fT) (ds:=[.lst (ns.map D.int)]) rfl rfl h;exact e
theorem wm{F:Str->List D->R D}(hF:F=qa p 11)(ns:List Int)(hn:ns.length<=63):zE ⟨F,p.glb,p.sub,p.cat⟩ fT [.lst (ns.map D.int)]=.ok (.bl true):=by
 refine AL ns (xR (w:=⟨F,p.glb,p.sub,p.cat⟩) ns hn ?_ ?_ ?_ ?_ ?_ ?_ ?_ ?_ ?_)<;>rw[hF]
 ·exact λc j=>kQ hSt (k:=10) c j
 ·exact λm c h1 h2=>by
   obtain⟨o,hp,e⟩:=xJ hSt hTB (k:=9) m c h1 h2;exact⟨_,Al h1 h2 hp,e⟩
 ·exact λm ts a g a0 a1=>nc hLH (k:=10) g ⟨a0,a1⟩
 ·exact λm ts T=>AU (k:=0) T
 ·exact λm ts T=>mC (k:=2) T
 ·exact λm ts g hn=>Av (k:=1) g hn
 ·exact λm ts n g=>BP B hNW (k:=10) g n
 ·exact λd h=>vx (k:=1) h
 ·exact λm h1 h8=>Bi (k:=2) h1 h8
theorem Eb:∀ns:List Int,ns.length<=63->qa p depth "law" [.lst (ns.map D.int)]=.ok (.bl true):=by
 intro ns hn;rw[show depth=11+1 from rfl,qc wI];exact wm rfl ns hn
end K43
namespace K43
open PySem PySem.Spec PyProof.Rows L2 EV
theorem sU:∀e∈tab,cFn G (gn us oth) e.own e.fr e.st=some e.fn:=by
 intro e he;simp only[tab,aI,b9,or_false]at he;rcases he with rfl|rfl|rfl|rfl|rfl|rfl|rfl|rfl|rfl|rfl|rfl|rfl|rfl|rfl|rfl|rfl|rfl|rfl|rfl|rfl|rfl|rfl|rfl|rfl|rfl|rfl|rfl|rfl|rfl|rfl|rfl|rfl|rfl|rfl|rfl|rfl<;>kernel_rfl
theorem uU:∀e∈us,e∈tab:=by
 intro e he;simp only[us,aI,b9,or_false]at he;rcases he with rfl
 ·simp[tab]
theorem uK:∀e∈us,gU (fj oth) e.own e.fr e.st=some e.fn:=by
 intro e he;simp only[us,aI,b9,or_false]at he;rcases he with rfl<;>kernel_rfl
theorem nd:(tab.map (·.x)).Nodup:=by decide +kernel
section
variable{K:aB}{h:Heap}{mg:Str->Option ae}{f0:Addr}(d0:WB.Dd K "is_whole" (top 17) f0){f1:Addr}(d1:WB.Dd K "is_between" (top 18) f1){f2:Addr}(d2:WB.Dd K "is_pair" (top 19) f2){f3:Addr}(d3:WB.Dd K "rises" (top 20) f3){f4:Addr}(d4:WB.Dd K "common_divisor" (top 22) f4){f5:Addr}(d5:WB.Dd K "lowest" (top 23) f5){f6:Addr}(d6:WB.Dd K "rounded_up" (top 24) f6){f7:Addr}(d7:WB.Dd K "is_web" (top 27) f7){f8:Addr}(d8:WB.Dd K "is_tie" (top 28) f8){f9:Addr}(d9:WB.Dd K "need_web" (top 29) f9){HA:Addr}(JR:WB.Dd K "hoods" (top 30) HA){NL:Addr}(JS:WB.Dd K "hood_of" (top 31) NL){NM:Addr}(JT:WB.Dd K "are_tied" (top 32) NM){NN:Addr}(JU:WB.Dd K "ways_from" (top 33) NN){NO:Addr}(JV:WB.Dd K "pieces" (top 34) NO){NP:Addr}(JW:WB.Dd K "is_tree" (top 35) NP){NQ:Addr}(JX:WB.Dd K "need_tree" (top 37) NQ){NR:Addr}(JY:WB.Dd K "ends" (top 38) NR){NS:Addr}(JZ:WB.Dd K "by_ends" (top 39) NS){NT:Addr}(J0:WB.Dd K "mark_of" (top 41) NT){NU:Addr}(J3:WB.Dd K "marks_of" (top 42) NU){NV:Addr}(J4:WB.Dd K "all_some" (top 43) NV){NW:Addr}(J5:WB.Dd K "all_holding" (top 44) NW){NZ:Addr}(J6:WB.Dd K "fewest" (top 46) NZ){N0:Addr}(J7:WB.Dd K "first_fewest" (top 47) N0){N2:Addr}(J8:WB.Dd K "all_fewest" (top 48) N2){N3:Addr}(J9:WB.Dd K "_law_kinds" (top 50) N3){N4:Addr}(J_:WB.Dd K "_law_hood" (top 51) N4){N5:Addr}(J':WB.Dd K "_law_same" (top 52) N5){N6:Addr}(Ka:WB.Dd K "_law_stir" (top 53) N6){N7:Addr}(Kb:WB.Dd K "_law_tree_by" (top 54) N7){N8:Addr}(Kc:WB.Dd K "_law_no_web" (top 55) N8){N9:Addr}(Kd:WB.Dd K "_law_told" (top 56) N9){N_:Addr}(Ke:WB.Dd K "_law_due" (top 57) N_){Oa:Addr}(Kf:WB.Dd K "_law_right" (top 58) Oa){Ob:Addr}(Kg:WB.Dd K "law" (top 59) Ob)
include d0 d1 d2 d3 d4 d5 d6 d7 d8 d9 JR JS JT JU JV JW JX JY JZ J0 J3 J4 J5 J6 J7 J8 J9 J_ J' Ka Kb Kc Kd Ke Kf Kg
theorem wZ:∀e∈tab,jd K G e:=by
 intro e he;simp only[tab,aI,b9,or_false]at he;rcases he with rfl|rfl|rfl|rfl|rfl|rfl|rfl|rfl|rfl|rfl|rfl|rfl|rfl|rfl|rfl|rfl|rfl|rfl|rfl|rfl|rfl|rfl|rfl|rfl|rfl|rfl|rfl|rfl|rfl|rfl|rfl|rfl|rfl|rfl|rfl|rfl<;>refine⟨⟨_,by assumption⟩,λ_ _ _ _ _ _ us hl=>?_⟩<;>first|(obtain⟨_,rfl⟩:=WB.pU hl;rfl)|(obtain⟨_,_,rfl⟩:=WB.tV hl;rfl)|(obtain⟨_,_,_,rfl⟩:=WB.EY hl;rfl)
omit d0 d1 d2 d3 d4 d5 d6 d7 d8 d9 JR JS JT JU JV JW JX JY JZ J0 J3 J4 J5 J6 J7 J8 J9 J_ J' Ka Kb Kc Kd Ke Kf Kg
theorem mz{x:Str}{k:GK}(h:oth.lookup x=some k):∃y∈oth,x=y.1/\k=y.2:=by
 generalize oth=l at h ⊢
 induction l with
 |nil=>cases h
 |cons a r ih=>
  rw[bE]at h;split at h
  ·rename_i q;cases h;exact⟨a,aM,eq_of_beq q,rfl⟩
  ·obtain⟨y,h1,h2⟩:=ih h;exact⟨y,aR _ h1,h2⟩
theorem DI{K:aB}{C0:Addr}(k0:aw K ar "PlaceError" = some (some (.ref C0))){C1:Addr}(k1:aw K ar "NoWeb" = some (some (.ref C1)))(x1:PySem.W.excIn K C1 iu "ValueError.__new__" = true){C2:Addr}(k2:aw K ar "NoPlaces" = some (some (.ref C2))){C3:Addr}(k3:aw K ar "NoPlace" = some (some (.ref C3))){C4:Addr}(k4:aw K ar "NoNumber" = some (some (.ref C4))){C5:Addr}(k5:aw K ar "NotAll" = some (some (.ref C5))){C6:Addr}(k6:aw K ar "NotUntied" = some (some (.ref C6))){C7:Addr}(k7:aw K ar "NoShares" = some (some (.ref C7))){C8:Addr}(k8:aw K ar "NotTree" = some (some (.ref C8)))(x8:PySem.W.excIn K C8 iu "ValueError.__new__" = true){C9:Addr}(k9:aw K ar "NotTold" = some (some (.ref C9))){C10:Addr}(Ht:aw K ar "NoCrowds" = some (some (.ref C10))){C11:Addr}(Hu:aw K ar "NoText" = some (some (.ref C11))){C12:Addr}(Hv:aw K ar "NoLine" = some (some (.ref C12))){C13:Addr}(Hw:aw K ar "NoDeed" = some (some (.ref C13))){C14:Addr}(Hx:aw K ar "TooGreat" = some (some (.ref C14))){Lg:Tok}(u0:aw K ar "MOST" = some (some (.int 8 Lg)))(z0:aw K ar "len" = some none)(z1:aw K ar "tuple" = some none)(z2:aw K ar "list" = some none)(z3:aw K ar "int" = some none)(z4:aw K ar "bool" = some none)(z5:aw K ar "str" = some none)(z6:aw K ar "sorted" = some none)(z7:aw K ar "all" = some none)(z8:aw K ar "min" = some none)(z9:aw K ar "max" = some none)(Li:aw K ar "range" = some none)(Lj:aw K ar "enumerate" = some none)(Lk:aw K ar "zip" = some none)(Ll:aw K ar "isinstance" = some none)(Lm:aw K ar "ValueError" = some none):∀x k,oth.lookup x=some k->sF K vals x k:=by
 intro x k h;obtain⟨y,h1,rfl,rfl⟩:=mz h;simp only[oth,aI,b9,or_false]at h1;rcases h1 with rfl|rfl|rfl|rfl|rfl|rfl|rfl|rfl|rfl|rfl|rfl|rfl|rfl|rfl|rfl|rfl|rfl|rfl|rfl|rfl|rfl|rfl|rfl|rfl|rfl|rfl|rfl|rfl|rfl|rfl|rfl
 ·exact⟨_,k0⟩
 ·exact⟨_,k1,x1⟩
 ·exact⟨_,k2⟩
 ·exact⟨_,k3⟩
 ·exact⟨_,k4⟩
 ·exact⟨_,k5⟩
 ·exact⟨_,k6⟩
 ·exact⟨_,k7⟩
 ·exact⟨_,k8,x8⟩
 ·exact⟨_,k9⟩
 ·exact⟨_,Ht⟩
 ·exact⟨_,Hu⟩
 ·exact⟨_,Hv⟩
 ·exact⟨_,Hw⟩
 ·exact⟨_,Hx⟩
 ·exact⟨_,.int 8,.int 8,u0,⟨_,rfl⟩,rfl,λg H _=>.int _⟩
 ·exact⟨z0,rfl,_,rfl⟩
 ·exact⟨z1,by decide +kernel,by simp,by simp[b1N,b1V]⟩
 ·exact⟨z2,by decide +kernel,by simp,by simp[b1N,b1V]⟩
 ·exact⟨z3,by decide +kernel,by simp,by simp[b1N,b1V]⟩
 ·exact⟨z4,by decide +kernel,by simp,by simp[b1N,b1V]⟩
 ·exact⟨z5,by decide +kernel,by simp,by simp⟩
 ·exact⟨z6,rfl,_,rfl⟩
 ·exact⟨z7,rfl,_,rfl⟩
 ·exact⟨z8,rfl,_,rfl⟩
 ·exact⟨z9,rfl,_,rfl⟩
 ·exact⟨Li,rfl⟩
 ·exact⟨Lj,rfl⟩
 ·exact⟨Lk,rfl⟩
 ·exact⟨Ll,rfl⟩
 ·exact⟨Lm,by decide +kernel,by simp,by simp⟩
theorem u9:∀x fr,oth.lookup x≠some (.fn fr):=by
 intro x fr h;obtain⟨y,h1,rfl,h2⟩:=mz h;simp only[oth,aI,b9,or_false]at h1;rcases h1 with rfl|rfl|rfl|rfl|rfl|rfl|rfl|rfl|rfl|rfl|rfl|rfl|rfl|rfl|rfl|rfl|rfl|rfl|rfl|rfl|rfl|rfl|rfl|rfl|rfl|rfl|rfl|rfl|rfl|rfl|rfl<;>cases h2
theorem Bl:∀x,(oth.lookup x=some .exc\/oth.lookup x=some .exk)->([ak "PlaceError",ak "NoWeb",ak "NoPlaces",ak "NoPlace",ak "NoNumber",ak "NotAll",ak "NotUntied",ak "NoShares",ak "NotTree",ak "NotTold",ak "NoCrowds",ak "NoText",ak "NoLine",ak "NoDeed",ak "TooGreat"]:List Str).contains x=true:=by
 intro x h;rcases h with h|h<;>obtain⟨y,h1,rfl,h2⟩:=mz h<;>simp only[oth,aI,b9,or_false]at h1<;>rcases h1 with rfl|rfl|rfl|rfl|rfl|rfl|rfl|rfl|rfl|rfl|rfl|rfl|rfl|rfl|rfl|rfl|rfl|rfl|rfl|rfl|rfl|rfl|rfl|rfl|rfl|rfl|rfl|rfl|rfl|rfl|rfl<;>first|(cases h2;done)|decide +kernel
theorem xv{K:aB}{C0:Addr}(k0:aw K ar "PlaceError" = some (some (.ref C0))){C1:Addr}(k1:aw K ar "NoWeb" = some (some (.ref C1))){C2:Addr}(k2:aw K ar "NoPlaces" = some (some (.ref C2))){C3:Addr}(k3:aw K ar "NoPlace" = some (some (.ref C3))){C4:Addr}(k4:aw K ar "NoNumber" = some (some (.ref C4))){C5:Addr}(k5:aw K ar "NotAll" = some (some (.ref C5))){C6:Addr}(k6:aw K ar "NotUntied" = some (some (.ref C6))){C7:Addr}(k7:aw K ar "NoShares" = some (some (.ref C7))){C8:Addr}(k8:aw K ar "NotTree" = some (some (.ref C8))){C9:Addr}(k9:aw K ar "NotTold" = some (some (.ref C9))){C10:Addr}(Ht:aw K ar "NoCrowds" = some (some (.ref C10))){C11:Addr}(Hu:aw K ar "NoText" = some (some (.ref C11))){C12:Addr}(Hv:aw K ar "NoLine" = some (some (.ref C12))){C13:Addr}(Hw:aw K ar "NoDeed" = some (some (.ref C13))){C14:Addr}(Hx:aw K ar "TooGreat" = some (some (.ref C14)))(w0:bY K (.ref C1) (.ref C0)=some true)(w1:bY K (.ref C8) (.ref C0)=some true):∀y∈dz,∃C D,aw K ar y.1=some (some (.ref C))/\aw K ar y.2=some (some (.ref D))/\bY K (.ref C) (.ref D)=some true:=by
 intro y h1;simp only[dz,aI,b9,or_false]at h1;rcases h1 with rfl|rfl
 ·exact⟨_,_,k1,k0,w0⟩
 ·exact⟨_,_,k8,k0,w1⟩
theorem EO{K:aB}{C0:Addr}(k0:aw K ar "PlaceError" = some (some (.ref C0))){C1:Addr}(k1:aw K ar "NoWeb" = some (some (.ref C1))){C2:Addr}(k2:aw K ar "NoPlaces" = some (some (.ref C2))){C3:Addr}(k3:aw K ar "NoPlace" = some (some (.ref C3))){C4:Addr}(k4:aw K ar "NoNumber" = some (some (.ref C4))){C5:Addr}(k5:aw K ar "NotAll" = some (some (.ref C5))){C6:Addr}(k6:aw K ar "NotUntied" = some (some (.ref C6))){C7:Addr}(k7:aw K ar "NoShares" = some (some (.ref C7))){C8:Addr}(k8:aw K ar "NotTree" = some (some (.ref C8))){C9:Addr}(k9:aw K ar "NotTold" = some (some (.ref C9))){C10:Addr}(Ht:aw K ar "NoCrowds" = some (some (.ref C10))){C11:Addr}(Hu:aw K ar "NoText" = some (some (.ref C11))){C12:Addr}(Hv:aw K ar "NoLine" = some (some (.ref C12))){C13:Addr}(Hw:aw K ar "NoDeed" = some (some (.ref C13))){C14:Addr}(Hx:aw K ar "TooGreat" = some (some (.ref C14)))(y0:dq K C1)(v0:aH K (.ref C1) (.type "ValueError")=some true)(y1:dq K C8)(v1:aH K (.ref C8) (.type "ValueError")=some true)(t0:WB.Dk K "NoWeb" C1)(t1:WB.Dk K "NoPlaces" C2)(t2:WB.Dk K "NoPlace" C3)(t3:WB.Dk K "NoNumber" C4)(t4:WB.Dk K "NotUntied" C6)(t5:WB.Dk K "NoShares" C7)(t6:WB.Dk K "NotTree" C8)(t7:WB.Dk K "NotTold" C9)(t8:WB.Dk K "NoCrowds" C10)(t9:WB.Dk K "NoText" C11)(Kh:WB.Dk K "NoLine" C12)(Ki:WB.Dk K "NoDeed" C13)(Kj:WB.Dk K "NotAll" C5)(Kk:WB.Dk K "TooGreat" C14)(q0_1:aH K (.ref C1) (.ref C2)=some false)(n0_1:C1≠C2)(q0_2:aH K (.ref C1) (.ref C3)=some false)(n0_2:C1≠C3)(q0_3:aH K (.ref C1) (.ref C4)=some false)(n0_3:C1≠C4)(q0_4:aH K (.ref C1) (.ref C6)=some false)(n0_4:C1≠C6)(q0_5:aH K (.ref C1) (.ref C7)=some false)(n0_5:C1≠C7)(q0_6:aH K (.ref C1) (.ref C8)=some false)(n0_6:C1≠C8)(q0_7:aH K (.ref C1) (.ref C9)=some false)(n0_7:C1≠C9)(q0_8:aH K (.ref C1) (.ref C10)=some false)(n0_8:C1≠C10)(q0_9:aH K (.ref C1) (.ref C11)=some false)(n0_9:C1≠C11)(q0_10:aH K (.ref C1) (.ref C12)=some false)(n0_10:C1≠C12)(q0_11:aH K (.ref C1) (.ref C13)=some false)(n0_11:C1≠C13)(q0_12:aH K (.ref C1) (.ref C5)=some false)(n0_12:C1≠C5)(q0_13:aH K (.ref C1) (.ref C14)=some false)(n0_13:C1≠C14)(q1_0:aH K (.ref C8) (.ref C1)=some false)(n1_0:C8≠C1)(q1_1:aH K (.ref C8) (.ref C2)=some false)(n1_1:C8≠C2)(q1_2:aH K (.ref C8) (.ref C3)=some false)(n1_2:C8≠C3)(q1_3:aH K (.ref C8) (.ref C4)=some false)(n1_3:C8≠C4)(q1_4:aH K (.ref C8) (.ref C6)=some false)(n1_4:C8≠C6)(q1_5:aH K (.ref C8) (.ref C7)=some false)(n1_5:C8≠C7)(q1_7:aH K (.ref C8) (.ref C9)=some false)(n1_7:C8≠C9)(q1_8:aH K (.ref C8) (.ref C10)=some false)(n1_8:C8≠C10)(q1_9:aH K (.ref C8) (.ref C11)=some false)(n1_9:C8≠C11)(q1_10:aH K (.ref C8) (.ref C12)=some false)(n1_10:C8≠C12)(q1_11:aH K (.ref C8) (.ref C13)=some false)(n1_11:C8≠C13)(q1_12:aH K (.ref C8) (.ref C5)=some false)(n1_12:C8≠C5)(q1_13:aH K (.ref C8) (.ref C14)=some false)(n1_13:C8≠C14):∀y∈subs,oU K [ak "PlaceError",ak "NoWeb",ak "NoPlaces",ak "NoPlace",ak "NoNumber",ak "NotAll",ak "NotUntied",ak "NoShares",ak "NotTree",ak "NotTold",ak "NoCrowds",ak "NoText",ak "NoLine",ak "NoDeed",ak "TooGreat"] y:=by
 intro y h1;simp only[subs,aI,b9,or_false]at h1;rcases h1 with rfl|rfl|rfl|rfl|rfl|rfl|rfl|rfl|rfl|rfl|rfl|rfl|rfl|rfl|rfl|rfl|rfl|rfl|rfl|rfl|rfl|rfl|rfl|rfl|rfl|rfl|rfl|rfl|rfl|rfl
 ·exact⟨_,_,by decide +kernel,k1,y0,WB.oQ v0,rfl,rfl⟩
 ·exact⟨_,_,by decide +kernel,k1,y0,WB.rO,_,by decide +kernel,k1,rfl⟩
 ·exact⟨_,_,by decide +kernel,k1,y0,t1.kit q0_1 n0_1,_,by decide +kernel,k2,rfl⟩
 ·exact⟨_,_,by decide +kernel,k1,y0,t2.kit q0_2 n0_2,_,by decide +kernel,k3,rfl⟩
 ·exact⟨_,_,by decide +kernel,k1,y0,t3.kit q0_3 n0_3,_,by decide +kernel,k4,rfl⟩
 ·exact⟨_,_,by decide +kernel,k1,y0,t4.kit q0_4 n0_4,_,by decide +kernel,k6,rfl⟩
 ·exact⟨_,_,by decide +kernel,k1,y0,t5.kit q0_5 n0_5,_,by decide +kernel,k7,rfl⟩
 ·exact⟨_,_,by decide +kernel,k1,y0,t6.kit q0_6 n0_6,_,by decide +kernel,k8,rfl⟩
 ·exact⟨_,_,by decide +kernel,k1,y0,t7.kit q0_7 n0_7,_,by decide +kernel,k9,rfl⟩
 ·exact⟨_,_,by decide +kernel,k1,y0,t8.kit q0_8 n0_8,_,by decide +kernel,Ht,rfl⟩
 ·exact⟨_,_,by decide +kernel,k1,y0,t9.kit q0_9 n0_9,_,by decide +kernel,Hu,rfl⟩
 ·exact⟨_,_,by decide +kernel,k1,y0,Kh.kit q0_10 n0_10,_,by decide +kernel,Hv,rfl⟩
 ·exact⟨_,_,by decide +kernel,k1,y0,Ki.kit q0_11 n0_11,_,by decide +kernel,Hw,rfl⟩
 ·exact⟨_,_,by decide +kernel,k1,y0,Kj.kit q0_12 n0_12,_,by decide +kernel,k5,rfl⟩
 ·exact⟨_,_,by decide +kernel,k1,y0,Kk.kit q0_13 n0_13,_,by decide +kernel,Hx,rfl⟩
 ·exact⟨_,_,by decide +kernel,k8,y1,WB.oQ v1,rfl,rfl⟩
 ·exact⟨_,_,by decide +kernel,k8,y1,t0.kit q1_0 n1_0,_,by decide +kernel,k1,rfl⟩
 ·exact⟨_,_,by decide +kernel,k8,y1,t1.kit q1_1 n1_1,_,by decide +kernel,k2,rfl⟩
 ·exact⟨_,_,by decide +kernel,k8,y1,t2.kit q1_2 n1_2,_,by decide +kernel,k3,rfl⟩
 ·exact⟨_,_,by decide +kernel,k8,y1,t3.kit q1_3 n1_3,_,by decide +kernel,k4,rfl⟩
 ·exact⟨_,_,by decide +kernel,k8,y1,t4.kit q1_4 n1_4,_,by decide +kernel,k6,rfl⟩
 ·exact⟨_,_,by decide +kernel,k8,y1,t5.kit q1_5 n1_5,_,by decide +kernel,k7,rfl⟩
 ·exact⟨_,_,by decide +kernel,k8,y1,WB.rO,_,by decide +kernel,k8,rfl⟩
 ·exact⟨_,_,by decide +kernel,k8,y1,t7.kit q1_7 n1_7,_,by decide +kernel,k9,rfl⟩
 ·exact⟨_,_,by decide +kernel,k8,y1,t8.kit q1_8 n1_8,_,by decide +kernel,Ht,rfl⟩
 ·exact⟨_,_,by decide +kernel,k8,y1,t9.kit q1_9 n1_9,_,by decide +kernel,Hu,rfl⟩
 ·exact⟨_,_,by decide +kernel,k8,y1,Kh.kit q1_10 n1_10,_,by decide +kernel,Hv,rfl⟩
 ·exact⟨_,_,by decide +kernel,k8,y1,Ki.kit q1_11 n1_11,_,by decide +kernel,Hw,rfl⟩
 ·exact⟨_,_,by decide +kernel,k8,y1,Kj.kit q1_12 n1_12,_,by decide +kernel,k5,rfl⟩
 ·exact⟨_,_,by decide +kernel,k8,y1,Kk.kit q1_13 n1_13,_,by decide +kernel,Hx,rfl⟩
include d0 d1 d2 d3 d4 d5 d6 d7 d8 d9 JR JS JT JU JV JW JX JY JZ J0 J3 J4 J5 J6 J7 J8 J9 J_ J' Ka Kb Kc Kd Ke Kf Kg
theorem all_mk(X:K.In h)(N:h.Ns ar mg){C0:Addr}(k0:aw K ar "PlaceError" = some (some (.ref C0))){C1:Addr}(k1:aw K ar "NoWeb" = some (some (.ref C1)))(x1:PySem.W.excIn K C1 iu "ValueError.__new__" = true){C2:Addr}(k2:aw K ar "NoPlaces" = some (some (.ref C2))){C3:Addr}(k3:aw K ar "NoPlace" = some (some (.ref C3))){C4:Addr}(k4:aw K ar "NoNumber" = some (some (.ref C4))){C5:Addr}(k5:aw K ar "NotAll" = some (some (.ref C5))){C6:Addr}(k6:aw K ar "NotUntied" = some (some (.ref C6))){C7:Addr}(k7:aw K ar "NoShares" = some (some (.ref C7))){C8:Addr}(k8:aw K ar "NotTree" = some (some (.ref C8)))(x8:PySem.W.excIn K C8 iu "ValueError.__new__" = true){C9:Addr}(k9:aw K ar "NotTold" = some (some (.ref C9))){C10:Addr}(Ht:aw K ar "NoCrowds" = some (some (.ref C10))){C11:Addr}(Hu:aw K ar "NoText" = some (some (.ref C11))){C12:Addr}(Hv:aw K ar "NoLine" = some (some (.ref C12))){C13:Addr}(Hw:aw K ar "NoDeed" = some (some (.ref C13))){C14:Addr}(Hx:aw K ar "TooGreat" = some (some (.ref C14))){Lg:Tok}(u0:aw K ar "MOST" = some (some (.int 8 Lg)))(z0:aw K ar "len" = some none)(z1:aw K ar "tuple" = some none)(z2:aw K ar "list" = some none)(z3:aw K ar "int" = some none)(z4:aw K ar "bool" = some none)(z5:aw K ar "str" = some none)(z6:aw K ar "sorted" = some none)(z7:aw K ar "all" = some none)(z8:aw K ar "min" = some none)(z9:aw K ar "max" = some none)(Li:aw K ar "range" = some none)(Lj:aw K ar "enumerate" = some none)(Lk:aw K ar "zip" = some none)(Ll:aw K ar "isinstance" = some none)(Lm:aw K ar "ValueError" = some none)(w0:bY K (.ref C1) (.ref C0)=some true)(w1:bY K (.ref C8) (.ref C0)=some true)(y0:dq K C1)(v0:aH K (.ref C1) (.type "ValueError")=some true)(y1:dq K C8)(v1:aH K (.ref C8) (.type "ValueError")=some true)(t0:WB.Dk K "NoWeb" C1)(t1:WB.Dk K "NoPlaces" C2)(t2:WB.Dk K "NoPlace" C3)(t3:WB.Dk K "NoNumber" C4)(t4:WB.Dk K "NotUntied" C6)(t5:WB.Dk K "NoShares" C7)(t6:WB.Dk K "NotTree" C8)(t7:WB.Dk K "NotTold" C9)(t8:WB.Dk K "NoCrowds" C10)(t9:WB.Dk K "NoText" C11)(Kh:WB.Dk K "NoLine" C12)(Ki:WB.Dk K "NoDeed" C13)(Kj:WB.Dk K "NotAll" C5)(Kk:WB.Dk K "TooGreat" C14)(q0_1:aH K (.ref C1) (.ref C2)=some false)(n0_1:C1≠C2)(q0_2:aH K (.ref C1) (.ref C3)=some false)(n0_2:C1≠C3)(q0_3:aH K (.ref C1) (.ref C4)=some false)(n0_3:C1≠C4)(q0_4:aH K (.ref C1) (.ref C6)=some false)(n0_4:C1≠C6)(q0_5:aH K (.ref C1) (.ref C7)=some false)(n0_5:C1≠C7)(q0_6:aH K (.ref C1) (.ref C8)=some false)(n0_6:C1≠C8)(q0_7:aH K (.ref C1) (.ref C9)=some false)(n0_7:C1≠C9)(q0_8:aH K (.ref C1) (.ref C10)=some false)(n0_8:C1≠C10)(q0_9:aH K (.ref C1) (.ref C11)=some false)(n0_9:C1≠C11)(q0_10:aH K (.ref C1) (.ref C12)=some false)(n0_10:C1≠C12)(q0_11:aH K (.ref C1) (.ref C13)=some false)(n0_11:C1≠C13)(q0_12:aH K (.ref C1) (.ref C5)=some false)(n0_12:C1≠C5)(q0_13:aH K (.ref C1) (.ref C14)=some false)(n0_13:C1≠C14)(q1_0:aH K (.ref C8) (.ref C1)=some false)(n1_0:C8≠C1)(q1_1:aH K (.ref C8) (.ref C2)=some false)(n1_1:C8≠C2)(q1_2:aH K (.ref C8) (.ref C3)=some false)(n1_2:C8≠C3)(q1_3:aH K (.ref C8) (.ref C4)=some false)(n1_3:C8≠C4)(q1_4:aH K (.ref C8) (.ref C6)=some false)(n1_4:C8≠C6)(q1_5:aH K (.ref C8) (.ref C7)=some false)(n1_5:C8≠C7)(q1_7:aH K (.ref C8) (.ref C9)=some false)(n1_7:C8≠C9)(q1_8:aH K (.ref C8) (.ref C10)=some false)(n1_8:C8≠C10)(q1_9:aH K (.ref C8) (.ref C11)=some false)(n1_9:C8≠C11)(q1_10:aH K (.ref C8) (.ref C12)=some false)(n1_10:C8≠C12)(q1_11:aH K (.ref C8) (.ref C13)=some false)(n1_11:C8≠C13)(q1_12:aH K (.ref C8) (.ref C5)=some false)(n1_12:C8≠C5)(q1_13:aH K (.ref C8) (.ref C14)=some false)(n1_13:C8≠C14)  : Ground p (gOf K (tab.map (·.x)) [ak "PlaceError",ak "NoWeb",ak "NoPlaces",ak "NoPlace",ak "NoNumber",ak "NotAll",ak "NotUntied",ak "NoShares",ak "NotTree",ak "NotTold",ak "NoCrowds",ak "NoText",ak "NoLine",ak "NoDeed",ak "TooGreat"]) G (gn us oth) (fj oth) mg/\jd K G gD:=
 have A:=wZ d0 d1 d2 d3 d4 d5 d6 d7 d8 d9 JR JS JT JU JV JW JX JY JZ J0 J3 J4 J5 J6 J7 J8 J9 J_ J' Ka Kb Kc Kd Ke Kf Kg
 ⟨CU X N rfl nd (DI k0 k1 x1 k2 k3 k4 k5 k6 k7 k8 x8 k9 Ht Hu Hv Hw Hx u0 z0 z1 z2 z3 z4 z5 z6 z7 z8 z9 Li Lj Lk Ll Lm) u9 uU uK sU A _ (xv k0 k1 k2 k3 k4 k5 k6 k7 k8 k9 Ht Hu Hv Hw Hx w0 w1) Bl (EO k0 k1 k2 k3 k4 k5 k6 k7 k8 k9 Ht Hu Hv Hw Hx y0 v0 y1 v1 t0 t1 t2 t3 t4 t5 t6 t7 t8 t9 Kh Ki Kj Kk q0_1 n0_1 q0_2 n0_2 q0_3 n0_3 q0_4 n0_4 q0_5 n0_5 q0_6 n0_6 q0_7 n0_7 q0_8 n0_8 q0_9 n0_9 q0_10 n0_10 q0_11 n0_11 q0_12 n0_12 q0_13 n0_13 q1_0 n1_0 q1_1 n1_1 q1_2 n1_2 q1_3 n1_3 q1_4 n1_4 q1_5 n1_5 q1_7 n1_7 q1_8 n1_8 q1_9 n1_9 q1_10 n1_10 q1_11 n1_11 q1_12 n1_12 q1_13 n1_13),A gD (by simp[tab])⟩
end
theorem walk{l:PySem.W.OpenLaw}{q:aF}{loose:List Str}{XP:(Str->Option ae)->Heap->Prop}{YP:aD->Heap->Prop}{d:DefRec}{K:Params->aB}(hn:l.most=some 63)(HP:d.params.defaults=[])(hd:d.name = "law")(hY:∀(w:aD) (h:Heap),YP w h->(K w.params).In h)
  (hG:∀(w:aD) (mg:Str->Option ae) (h:Heap),(K w.params).In h->h.Ns ar mg->Ground p (gOf (K w.params) (tab.map (·.x)) [ak "PlaceError",ak "NoWeb",ak "NoPlaces",ak "NoPlace",ak "NoNumber",ak "NotAll",ak "NotUntied",ak "NoShares",ak "NotTree",ak "NotTold",ak "NoCrowds",ak "NoText",ak "NoLine",ak "NoDeed",ak "TooGreat"]) G (gn us oth) (fj oth) mg/\jd (K w.params) G gD):PySem.W.WalkO q loose XP YP l.row.toRowW d [] (λf vs=>PySem.call f vs):=
 E5 (e:=gD) (k:=depth) hn HP hd ⟨rfl,by decide,by decide⟩ hY (by simp[tab]) nd rfl rfl (by kernel_rfl) hG (sU gD (by simp[tab])) Eb
end K43
end
open PySem PySem.W PyProof.Rows
namespace PySem.W.Fast
def t0:Nat:=0
theorem te12539672688561337435:t0=0:=rfl
theorem te6035879042027718724:t0=0:=rfl
theorem te17004430859785064778:t0=0:=rfl
theorem te16364836955354592827:t0=0:=rfl
theorem te10522386507973582398:t0=0:=rfl
theorem te4673905534971684925:t0=0:=rfl
theorem te13066807998724169982:t0=0:=rfl
theorem te4552468642951090006:t0=0:=rfl
theorem te15923852262605268275:t0=0:=rfl
theorem te14490412301691391276:t0=0:=rfl
theorem te311061572407747470:t0=0:=rfl
theorem te6538486805061970703:t0=0:=rfl
theorem te16428088951462327955:t0=0:=rfl
theorem te13648216897318975129:t0=0:=rfl
theorem te16463242546309922807:t0=0:=rfl
theorem te7542865426180700270:t0=0:=rfl
theorem te11580275391138832657:t0=0:=rfl
theorem te15429766076892181239:t0=0:=rfl
theorem te7661239453021397856:t0=0:=rfl
theorem te17652554824488549212:t0=0:=rfl
theorem te1610097689112751793:t0=0:=rfl
theorem te4139232857514398967:t0=0:=rfl
theorem te15325067241653060036:t0=0:=rfl
theorem te13986715070269665427:t0=0:=rfl
theorem te11093106499758154798:t0=0:=rfl
theorem te12649586215807443579:t0=0:=rfl
theorem te10906793379599468617:t0=0:=rfl
theorem te11425100428787970495:t0=0:=rfl
theorem te13807836908345048453:t0=0:=rfl
theorem te333829636728546846:t0=0:=rfl
theorem te9482078671007457214:t0=0:=rfl
theorem te12041407432208347957:t0=0:=rfl
theorem te9434618455592759162:t0=0:=rfl
theorem te563940104951271436:t0=0:=rfl
theorem te18044655756244491568:t0=0:=rfl
theorem te10943427771370280970:t0=0:=rfl
theorem te3577401416697210990:t0=0:=rfl
theorem te11431857692204157183:t0=0:=rfl
theorem te7804574837356357099:t0=0:=rfl
theorem te2081140254864762691:t0=0:=rfl
theorem te2795217516412524015:t0=0:=rfl
theorem te9916202856330519047:t0=0:=rfl
theorem te5614962101897092079:t0=0:=rfl
theorem te5022845631090129261:t0=0:=rfl
theorem te17555712913781074297:t0=0:=rfl
theorem te15914202392833772760:t0=0:=rfl
theorem te2576569269654956959:t0=0:=rfl
theorem te5385593941596951182:t0=0:=rfl
theorem te18212246614909587932:t0=0:=rfl
theorem te13722034978615608215:t0=0:=rfl
theorem te2025598376926390759:t0=0:=rfl
theorem te14739097976469474727:t0=0:=rfl
theorem te5858362624645762823:t0=0:=rfl
theorem te7158800629817691730:t0=0:=rfl
theorem te14968817644946758167:t0=0:=rfl
theorem te3272987747895272485:t0=0:=rfl
theorem te9428328007865934267:t0=0:=rfl
theorem te16218789862504441880:t0=0:=rfl
theorem te10667503743714859703:t0=0:=rfl
theorem te7745157765633192666:t0=0:=rfl
theorem te5465181669090753418:t0=0:=rfl
theorem te10188616241834647179:t0=0:=rfl
theorem te16534450325567107762:t0=0:=rfl
theorem te8869399829511039030:t0=0:=rfl
theorem te7757466193962158663:t0=0:=rfl
theorem te13509058715329720859:t0=0:=rfl
theorem te16459783464442555862:t0=0:=rfl
theorem te8119867382587535648:t0=0:=rfl
theorem te3287502235783546148:t0=0:=rfl
theorem te5586532761336650687:t0=0:=rfl
theorem te10259151701093170276:t0=0:=rfl
theorem te1338101772478821913:t0=0:=rfl
theorem te8781277222302237808:t0=0:=rfl
theorem te6774922624940476661:t0=0:=rfl
theorem te877840802528967377:t0=0:=rfl
theorem te13058071856119384707:t0=0:=rfl
theorem te1261274751923148354:t0=0:=rfl
theorem te9391718830945039048:t0=0:=rfl
theorem te7363282561508266137:t0=0:=rfl
theorem te16458100369187382742:t0=0:=rfl
theorem te17982292604787719279:t0=0:=rfl
theorem te17620262975822584443:t0=0:=rfl
theorem te4733442393354482297:t0=0:=rfl
theorem te14618885118119585577:t0=0:=rfl
theorem te9552575235891887325:t0=0:=rfl
theorem te4662155153695226815:t0=0:=rfl
theorem te18239444430555278312:t0=0:=rfl
theorem te7028278911942790116:t0=0:=rfl
theorem te8618368362533727731:t0=0:=rfl
theorem te240960855595804324:t0=0:=rfl
theorem te12608469599403380343:t0=0:=rfl
theorem te17241761767314106576:t0=0:=rfl
theorem te14154840372539664189:t0=0:=rfl
theorem te9473527794706902012:t0=0:=rfl
theorem te8669896513779371082:t0=0:=rfl
theorem te14492291323388424992:t0=0:=rfl
theorem te13440521395685320104:t0=0:=rfl
theorem te4563929262754382192:t0=0:=rfl
theorem te5438811161558480750:t0=0:=rfl
theorem te15135494419538795701:t0=0:=rfl
theorem te12077909421356934150:t0=0:=rfl
theorem te14682573448840756089:t0=0:=rfl
theorem te14967614465607796537:t0=0:=rfl
theorem te8510296072630321322:t0=0:=rfl
theorem te805066177296038920:t0=0:=rfl
theorem te5746132595821226031:t0=0:=rfl
theorem te9470267622342138135:t0=0:=rfl
theorem te10049556792144017396:t0=0:=rfl
theorem te7484832033141965484:t0=0:=rfl
theorem te182910237867955854:t0=0:=rfl
theorem te5772032440219760090:t0=0:=rfl
theorem te5728457133261516779:t0=0:=rfl
theorem te1059507645766929303:t0=0:=rfl
theorem te4830710463918247408:t0=0:=rfl
theorem te5959405686953169475:t0=0:=rfl
theorem te10860407443910229206:t0=0:=rfl
theorem te2093112966294712259:t0=0:=rfl
theorem te2493738087391726030:t0=0:=rfl
theorem te3474821723692464528:t0=0:=rfl
theorem te11003931719318699734:t0=0:=rfl
theorem te15471817378515569191:t0=0:=rfl
theorem te9762190191310789688:t0=0:=rfl
theorem te14173795386768431109:t0=0:=rfl
theorem te13977932903626782045:t0=0:=rfl
theorem te1136097838473281593:t0=0:=rfl
theorem te14979416195539716017:t0=0:=rfl
theorem te2790992930853688787:t0=0:=rfl
theorem te13898072941999023453:t0=0:=rfl
theorem te10685513865395379799:t0=0:=rfl
theorem te10164322902137363550:t0=0:=rfl
theorem te6000481038616607917:t0=0:=rfl
theorem te12728234329102370471:t0=0:=rfl
theorem te11387228822677377533:t0=0:=rfl
theorem te2606981831631977671:t0=0:=rfl
theorem te4537046228647666560:t0=0:=rfl
theorem te15301033020845094656:t0=0:=rfl
theorem te16713417402289910640:t0=0:=rfl
theorem te15804840992768612615:t0=0:=rfl
theorem te14940457881394197702:t0=0:=rfl
theorem te3141819113472362196:t0=0:=rfl
theorem te14496424139610219352:t0=0:=rfl
theorem te17249065418770729054:t0=0:=rfl
theorem te16887011342217987775:t0=0:=rfl
theorem te1069394803733753683:t0=0:=rfl
theorem te7912560158010923693:t0=0:=rfl
theorem te13161541433914799615:t0=0:=rfl
theorem te9475452837537419898:t0=0:=rfl
theorem te1809886219846844149:t0=0:=rfl
theorem te18342837599572561484:t0=0:=rfl
theorem te213472945872135136:t0=0:=rfl
theorem te4253181262528670888:t0=0:=rfl
theorem te11544172044418093857:t0=0:=rfl
theorem te1041405393482448305:t0=0:=rfl
theorem te9533177745650751779:t0=0:=rfl
theorem te16445654335224256683:t0=0:=rfl
theorem te543919008936184014:t0=0:=rfl
theorem te1510534095346233353:t0=0:=rfl
theorem te8843152468888912798:t0=0:=rfl
theorem te12818780095790246191:t0=0:=rfl
theorem te12083396477371550091:t0=0:=rfl
theorem te18273661131230629004:t0=0:=rfl
theorem te8340866040941999122:t0=0:=rfl
theorem te8674796508820124558:t0=0:=rfl
theorem te14324213004022588856:t0=0:=rfl
theorem te15059171862406675160:t0=0:=rfl
theorem te14426959623034017179:t0=0:=rfl
theorem te6689292483493936519:t0=0:=rfl
theorem te13143350021300095672:t0=0:=rfl
theorem te430469456670591413:t0=0:=rfl
theorem te9050933533809493521:t0=0:=rfl
theorem te16526143518113743481:t0=0:=rfl
theorem te12962032991493481587:t0=0:=rfl
theorem te13595771063634665930:t0=0:=rfl
theorem te14866455577738432591:t0=0:=rfl
theorem te15320524828389209079:t0=0:=rfl
theorem te17968856428894273611:t0=0:=rfl
theorem te12118199809338731702:t0=0:=rfl
theorem te6896514854496038632:t0=0:=rfl
theorem te12229933810266260633:t0=0:=rfl
theorem te14660445874268603277:t0=0:=rfl
theorem te14948633876211452490:t0=0:=rfl
theorem te12296413434507590278:t0=0:=rfl
theorem te13084298323812585664:t0=0:=rfl
theorem te1632643398407284932:t0=0:=rfl
theorem te8566963918371789781:t0=0:=rfl
theorem te18148637521187657234:t0=0:=rfl
theorem te1311339062421503544:t0=0:=rfl
theorem te6695085724609328835:t0=0:=rfl
theorem te3484680864439913514:t0=0:=rfl
theorem te2567378994821501457:t0=0:=rfl
theorem te4926537531754449644:t0=0:=rfl
theorem te13384465564718155383:t0=0:=rfl
theorem te17493698875310855495:t0=0:=rfl
theorem te14874742720929574647:t0=0:=rfl
theorem te15473314345161773196:t0=0:=rfl
theorem te17723398162929850255:t0=0:=rfl
theorem te8814273464220972286:t0=0:=rfl
theorem te8074162158107386736:t0=0:=rfl
theorem te8626423856052200230:t0=0:=rfl
theorem te2671025173268821139:t0=0:=rfl
theorem te8385836672444110086:t0=0:=rfl
theorem te7365016295732643535:t0=0:=rfl
theorem te13561444392978988449:t0=0:=rfl
theorem te2686930023353922637:t0=0:=rfl
theorem te11534086049127686374:t0=0:=rfl
theorem te6613860842110492831:t0=0:=rfl
theorem te3369762899440099016:t0=0:=rfl
theorem te7028186555301958042:t0=0:=rfl
theorem te17411019366858638386:t0=0:=rfl
theorem te7775524814636268358:t0=0:=rfl
theorem te1828673734299801034:t0=0:=rfl
theorem te18145384130663142709:t0=0:=rfl
theorem te12447399012408123109:t0=0:=rfl
theorem te3533900637215658235:t0=0:=rfl
theorem te409319885947767376:t0=0:=rfl
theorem te6002820683932553907:t0=0:=rfl
theorem te18356351564814417876:t0=0:=rfl
theorem te17109469794618554670:t0=0:=rfl
theorem te18346783944788262557:t0=0:=rfl
theorem te6155206932432550433:t0=0:=rfl
theorem te4592738535476761054:t0=0:=rfl
theorem te17818869372852452037:t0=0:=rfl
theorem te16969791556226801681:t0=0:=rfl
theorem te9145741905614173841:t0=0:=rfl
theorem te15821360640317861574:t0=0:=rfl
theorem te11108804230532533807:t0=0:=rfl
theorem te8698570994425043171:t0=0:=rfl
theorem te8986777770105641034:t0=0:=rfl
theorem te18261649250715619969:t0=0:=rfl
theorem te5643090197280372261:t0=0:=rfl
theorem te6856826217660255457:t0=0:=rfl
theorem te11553285092315575591:t0=0:=rfl
theorem te5407482926387391121:t0=0:=rfl
theorem te10937152668679177814:t0=0:=rfl
theorem te13214816944308907292:t0=0:=rfl
theorem te5267492458534640770:t0=0:=rfl
theorem te15481365546223425048:t0=0:=rfl
theorem te610182692197220348:t0=0:=rfl
theorem te3430021981839304042:t0=0:=rfl
theorem te1559003717124183407:t0=0:=rfl
theorem te6784750333598828045:t0=0:=rfl
theorem te2233595835780515436:t0=0:=rfl
theorem te10569852163263415367:t0=0:=rfl
theorem te1285823344967926544:t0=0:=rfl
theorem te18265593712323972005:t0=0:=rfl
theorem te9061105202831912388:t0=0:=rfl
theorem te13983804773823164342:t0=0:=rfl
end PySem.W.Fast
set_option maxRecDepth 100000 in
set_option maxHeartbeats 0 in
theorem PySem.Challenge.cw_holdplaces_k43_whole_bounds_by_ends_holds : PySem.Challenge.rw_holdplaces_k43_whole_bounds_by_ends.Holds := by
 w_on;o_law;k_head;(case hw=>w_witness2)
 k_fill
 refine K43.walk (l:=PySem.Challenge.rw_holdplaces_k43_whole_bounds_by_ends) rfl rfl rfl (λw h Y=>PySem.W.kIn_of Y) ?F
 case F=>
  intro w mg h KX N
  refine' K43.all_mk (WB.qX ?_ ?_ ?_ ?_) (WB.qX ?_ ?_ ?_ ?_) (WB.qX ?_ ?_ ?_ ?_) (WB.qX ?_ ?_ ?_ ?_) (WB.qX ?_ ?_ ?_ ?_) (WB.qX ?_ ?_ ?_ ?_) (WB.qX ?_ ?_ ?_ ?_) (WB.qX ?_ ?_ ?_ ?_) (WB.qX ?_ ?_ ?_ ?_) (WB.qX ?_ ?_ ?_ ?_) (WB.qX ?_ ?_ ?_ ?_) (WB.qX ?_ ?_ ?_ ?_) (WB.qX ?_ ?_ ?_ ?_) (WB.qX ?_ ?_ ?_ ?_) (WB.qX ?_ ?_ ?_ ?_) (WB.qX ?_ ?_ ?_ ?_) (WB.qX ?_ ?_ ?_ ?_) (WB.qX ?_ ?_ ?_ ?_) (WB.qX ?_ ?_ ?_ ?_) (WB.qX ?_ ?_ ?_ ?_) (WB.qX ?_ ?_ ?_ ?_) (WB.qX ?_ ?_ ?_ ?_) (WB.qX ?_ ?_ ?_ ?_) (WB.qX ?_ ?_ ?_ ?_) (WB.qX ?_ ?_ ?_ ?_) (WB.qX ?_ ?_ ?_ ?_) (WB.qX ?_ ?_ ?_ ?_) (WB.qX ?_ ?_ ?_ ?_) (WB.qX ?_ ?_ ?_ ?_) (WB.qX ?_ ?_ ?_ ?_) (WB.qX ?_ ?_ ?_ ?_) (WB.qX ?_ ?_ ?_ ?_) (WB.qX ?_ ?_ ?_ ?_) (WB.qX ?_ ?_ ?_ ?_) (WB.qX ?_ ?_ ?_ ?_) (WB.qX ?_ ?_ ?_ ?_) KX N ?_ ?_ ?_ ?_ ?_ ?_ ?_ ?_ ?_ ?_ ?_ ?_ ?_ ?_ ?_ ?_ ?_ ?_ ?_ ?_ ?_ ?_ ?_ ?_ ?_ ?_ ?_ ?_ ?_ ?_ ?_ ?_ ?_ (WB.rQ ?w0_1 ?w0_2 ?w0_3 ?w0_4) (WB.rQ ?w1_1 ?w1_2 ?w1_3 ?w1_4) (WB.mL ?s0_1 ?s0_2 ?s0_3 ?s0_4 ?s0_5 ?s0_6) ?v0 (WB.mL ?s1_1 ?s1_2 ?s1_3 ?s1_4 ?s1_5 ?s1_6) ?v1 (WB.dJ ?t0_1 ?t0_2 ?t0_3) (WB.dJ ?t1_1 ?t1_2 ?t1_3) (WB.dJ ?t2_1 ?t2_2 ?t2_3) (WB.dJ ?t3_1 ?t3_2 ?t3_3) (WB.dJ ?t4_1 ?t4_2 ?t4_3) (WB.dJ ?t5_1 ?t5_2 ?t5_3) (WB.dJ ?t6_1 ?t6_2 ?t6_3) (WB.dJ ?t7_1 ?t7_2 ?t7_3) (WB.dJ ?t8_1 ?t8_2 ?t8_3) (WB.dJ ?t9_1 ?t9_2 ?t9_3) (WB.dJ ?t10_1 ?t10_2 ?t10_3) (WB.dJ ?t11_1 ?t11_2 ?t11_3) (WB.dJ ?t12_1 ?t12_2 ?t12_3) (WB.dJ ?t13_1 ?t13_2 ?t13_3) ?q0_1 ?n0_1 ?q0_2 ?n0_2 ?q0_3 ?n0_3 ?q0_4 ?n0_4 ?q0_5 ?n0_5 ?q0_6 ?n0_6 ?q0_7 ?n0_7 ?q0_8 ?n0_8 ?q0_9 ?n0_9 ?q0_10 ?n0_10 ?q0_11 ?n0_11 ?q0_12 ?n0_12 ?q0_13 ?n0_13 ?q1_0 ?n1_0 ?q1_1 ?n1_1 ?q1_2 ?n1_2 ?q1_3 ?n1_3 ?q1_4 ?n1_4 ?q1_5 ?n1_5 ?q1_7 ?n1_7 ?q1_8 ?n1_8 ?q1_9 ?n1_9 ?q1_10 ?n1_10 ?q1_11 ?n1_11 ?q1_12 ?n1_12 ?q1_13 ?n1_13
  any_goals k_is
  any_goals k_exc
  any_goals decide
#print axioms PySem.Challenge.cw_holdplaces_k43_whole_bounds_by_ends_holds
