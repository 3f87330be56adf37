import PyProof.Rows.All
import Wide.All
import OpenK.AllK
import Wide.FinOn
import Lean
import PyProof.EqAt
import PyProof.EqKinds
import PyProof.TupleCall
import PyProof.Rows.Range3
import PyProof.Rows.FStr
import KE.KDictSum
import PyProof.DictUpdate
import PyProof.Rows.ListMulArg
import KE.KSortTup
import KE.LcSums
import PyProof.SeqI3
import KE.KMinBuiltin
import PyProof.Draws
import KE.KRevIter
import PyProof.ListRange
import PyProof.TupleOfSeq
import PySem.Challenge.RW_holdplaces_k40_ends_and_upper_places
set_option Elab.async false
set_option bootstrap.genMatcherCode false
set_option maxHeartbeats 8000000
set_option maxRecDepth 100000
set_option linter.all false
noncomputable section
open PyProof.Rows renaming callWith_type1→ez,IntsAre→ba,seqObj→aY,Keyed→aA
open PySem.Builtin.SmallTypes renaming nextOf→cQ
open Option renaming bind_eq_some_iff→aB,map_eq_some_iff→bz,bind_eq_bind→aE
open List renaming mem_append_right→cG,mem_cons_of_mem→aK,replicate_succ→eA,mem_cons_self→aJ,length_append→bO,size_toArray→aP,lookup_cons→bf,length_cons→bA,not_mem_nil→bV,any_eq_true→dP,length_map→aF,append_nil→cR,mem_filter→dk,replicate→aZ,mem_cons→aD,map_cons→aQ,mem_map→aM,map_map→bF,range→a8
open PySem renaming mem_of_lookup→cH,wpAny_truthy_bool→bJ,wpAny_call_entry→dj,Comprehension→cb,bootBuiltins→bG,mainGlobals→ak,sizeLine_eq→aV,wpAny_field→bR,wpAny_bind→ah,wpAny_pure→aC,wpAny_mono→bL,compareOp→aR,cellsFrom→aX,sizeLine→aH,starEach→aL,NameKind→aN,FuncData→bC,Program→aw,Shared→af,Around→ax,Value→ae,wpAny→ai,model→aj,World→au,Scope→aO
open PySem.W renaming hideAll_get→dO,mg_none_of→dh,kas_desc→bg,kas_rev→bp,kia_one→bK,kitOne→bh,exmOne→bE,keepIn→cJ,subIn→av,nsIn→ao,Frag→aq,fnOf→bX
open Nat renaming lt_of_lt_of_le→bc,lt_irrefl→br,ne_of_lt→aU,le_trans→a_,le_refl→ay,zero_le→cf
open Bool renaming false_ne_true→bI,false_eq_true→bU,not_eq_true'→bq,and_eq_true→aI,or_eq_true→bP
open Option.some renaming injEq→b_,inj→bB
open ForInStep renaming yield→dm
open PySem.Heap renaming size_push→bQ,lt_size→aG
open PySem.NameKind renaming free→bW
open PySem.Str renaming ofString→ag
open False renaming elim→aS
open PySem.Value renaming bool→bu,none→bM,ref→aW
open PySem.Obj renaming mapSeq→bH
open And renaming intro→ar
set_option Elab.async false
namespace L2
open PySem PySem.Spec PyProof.Rows
abbrev Key:=Sum Int Str
noncomputable def gB:Key->ae->Bool
 | .inl k,v=>ae.isInt k v
 | .inr x,v=>ae.isStrOf x v
noncomputable def A7(w:au):Key->Int
 | .inl k=>hashInt k
 | .inr x=>hashStr w x
theorem eW:∀{k:Key}{v:ae},gB k v=true->(∃i t,k=Sum.inl i/\v=ae.int i t)\/(∃x t,k=Sum.inr x/\v=ae.str x t)
 | .inl i,v,h=>by
  obtain⟨t,e⟩:=ae.isInt_shape (k:=i) (v:=v) h;exact .inl ⟨i,t,rfl,e⟩
 | .inr x,v,h=>by
  obtain⟨t,e⟩:=ae.isStrOf_shape (x:=x) (v:=v) h;exact .inr ⟨x,t,rfl,e⟩
theorem Cd(i:Int)(t:Tok):gB (.inl i) (.int i t)=true:=by simp[gB,ae.isInt]
theorem uZ(x:Str)(t:Tok):gB (.inr x) (.str x t)=true:=by simp[gB,ae.isStrOf]
theorem sU(a b:Int):decide ((Sum.inl a:Key)=Sum.inl b)=(a==b):=by
 by_cases e:a=b
 ·subst e;simp
 ·have h:¬ (Sum.inl a:Key)=Sum.inl b:=λq=>e (Sum.inl.inj q)
  rw[decide_eq_false h];exact(beq_eq_false_iff_ne.mpr e).symm
theorem xb(a b:Str):decide ((Sum.inr a:Key)=Sum.inr b)=decide (a=b):=by
 by_cases e:a=b
 ·subst e;simp
 ·have h:¬ (Sum.inr a:Key)=Sum.inr b:=λq=>e (Sum.inr.inj q)
  rw[decide_eq_false h,decide_eq_false e]
theorem uO(a:Int)(b:Str):decide ((Sum.inl a:Key)=Sum.inr b)=false:=decide_eq_false (λq=>nomatch q)
theorem DS(a:Str)(b:Int):decide ((Sum.inr a:Key)=Sum.inl b)=false:=decide_eq_false (λq=>nomatch q)
noncomputable def zv(prog:aw)(w:au):PySem.KeyKind prog w Key where
 is:=gB
 hash:=A7 w
 inj:=λv a b ha hb=>by
  rcases eW ha with ⟨i,t,rfl,rfl⟩|⟨x,t,rfl,rfl⟩
  ·rcases eW hb with ⟨j,u,rfl,e⟩|⟨y,u,rfl,e⟩
   ·injection e with e1 _;rw[e1]
   ·exact nomatch e
  ·rcases eW hb with ⟨j,u,rfl,e⟩|⟨y,u,rfl,e⟩
   ·exact nomatch e
   ·injection e with e1 _;rw[e1]
 byValue:=λk v h=>by
  rcases eW h with ⟨i,t,rfl,rfl⟩|⟨x,t,rfl,rfl⟩<;>rfl
 pyHash:=λhv h=>by
  rcases eW hv with ⟨i,t,rfl,rfl⟩|⟨x,t,rfl,rfl⟩
  ·exact wpAny_pyHash_int h
  ·exact wpAny_pyHash_str h
 eqBool:=λhu hv h=>by
  rcases eW hu with ⟨i,t,rfl,rfl⟩|⟨x,t,rfl,rfl⟩
  ·rcases eW hv with ⟨j,u,rfl,rfl⟩|⟨y,u,rfl,rfl⟩
   ·rw[sU]at h;exact wpAny_eqBool_int h
   ·rw[uO]at h;exact SeqAt.EqAt.int_str i t y u _ _ _ _ h
  ·rcases eW hv with ⟨j,u,rfl,rfl⟩|⟨y,u,rfl,rfl⟩
   ·rw[DS]at h;exact SeqAt.EqAt.str_int x t j u _ _ _ _ h
   ·rw[xb]at h;exact wpAny_eqBool_str h
 «strs»:=λk x t v h=>by
  rcases eW h with ⟨i,u,rfl,e⟩|⟨y,u,rfl,e⟩
  ·exact nomatch e
  ·injection e with e1 _
   subst e1;cases v<;>rfl
theorem sL(prog:aw)(w:au)(i:Int)(t:Tok):(zv prog w).is (.inl i) (.int i t)=true:=Cd i t
theorem vg(prog:aw)(w:au)(x:Str)(t:Tok):(zv prog w).is (.inr x) (.str x t)=true:=uZ x t
inductive V where
 |non|bl (b:Bool)|int (i:Int)|str (x:Str)|byt (b:Array UInt8)|flt (b:UInt64)|ref (a:Addr)|ty (n:String)
 deriving DecidableEq
noncomputable def RelV:V->ae->Prop
 | .non,u=>u=bM
 | .bl b,u=>u=bu b
 | .int i,u=>∃t,u=ae.int i t
 | .str x,u=>∃t,u=ae.str x t
 | .byt b,u=>∃t,u=ae.bytes b t
 | .flt b,u=>∃t,u=ae.float b t
 | .ref a,u=>u=aW a
 | .ty n,u=>u=ae.type n
abbrev Vals:List V->List ae->Prop:=Paired RelV
theorem Vals.length{xs:List V}{us:List ae}(r:Vals xs us):xs.length=us.length:=Paired.length r
theorem Vals.get:∀{xs:List V}{us:List ae}{i:Nat}{x:V},Vals xs us->xs[i]? = some x->∃u,us[i]? = some u/\RelV x u
 |_,_,_,_,.nil,e=>by simp at e
 |_,_,0,_,.cons r _,e=>by simp at e;subst e;exact⟨_,rfl,r⟩
 |_,_,i+1,x,.cons _ t,e=>by
  obtain⟨u,h1,h2⟩:=Vals.get (i:=i) (x:=x) t (by simpa using e);exact⟨u,by simpa using h1,h2⟩
theorem Vals.set{x:V}{u:ae}(r:RelV x u):∀{xs:List V}{us:List ae} (i:Nat),Vals xs us->Vals (xs.set i x) (us.set i u)
 |_,_,_,.nil=>.nil
 |_,_,0,.cons _ t=>.cons r t
 |_,_,i+1,.cons q t=>.cons q (Vals.set r i t)
theorem Vals.append:∀{xs ys:List V}{us ws:List ae},Vals xs us->Vals ys ws->Vals (xs++ys) (us++ws)
 |_,_,_,_,.nil,s=>s
 |_,_,_,_,.cons r t,s=>.cons r (Vals.append t s)
theorem Vals.take:∀{xs:List V}{us:List ae} (n:Nat),Vals xs us->Vals (xs.take n) (us.take n)
 |_,_,0,_=>.nil
 |_,_,_+1,.nil=>.nil
 |_,_,n+1,.cons r t=>.cons r (Vals.take n t)
theorem Vals.drop:∀{xs:List V}{us:List ae} (n:Nat),Vals xs us->Vals (xs.drop n) (us.drop n)
 |_,_,0,r=>r
 |_,_,_+1,.nil=>.nil
 |_,_,n+1,.cons _ t=>Vals.drop n t
noncomputable def dG:Option V->Option ae->Prop
 |some v,some u=>RelV v u
 |none,none=>True
 |_,_=>False
noncomputable def KV{κ:Type}:List (κ×V)->List (κ×ae)->Prop:=Paired λ(p:κ×V) (q:κ×ae)=>p.1=q.1/\RelV p.2 q.2
noncomputable def kV:Key->V
 | .inl i=>.int i
 | .inr x=>.str x
inductive HO where
 |lst (xs:List V)
 |tup (xs:List V)
 |dK (kvs:List (Key×V))|dT (kvs:List (List Key×V))
 |set (S:Int->Bool) (n:Nat)
 |ins (C dx:Addr) (fs:List (Str×V))
 |own (x:Addr)
 |xd (fs:List (Str×V))
 |met (f x:Addr)
 |rng (lo hi:Int)
 |frz (o:Obj) (u:HO)
 |tbl (ps:Array ae)
 |ext (φ:Heap->Prop)
abbrev Hp:=Addr->Option HO
noncomputable def upd(H:Hp)(a:Addr)(o:HO):Hp:=λb=>if b=a then some o else H b
theorem zy{H:Hp}{a:Addr}{o:HO}:upd H a o a=some o:=by unfold upd;rw[if_pos rfl]
theorem qh{H:Hp}{a b:Addr}{o:HO}(h:b≠a):upd H a o b=H b:=by unfold upd;rw[if_neg h]
theorem Bh{H:Hp}{a b:Addr}{o u:HO}(h:H a=some o)(h':H b=some u)(d:o≠u):a≠b:=by
 intro e;subst e;rw[h]at h';exact d (bB h')
theorem iB{H:Hp}{a b:Addr}{o:HO}(h:H a=some o)(h':H b=none):a≠b:=by
 intro e;subst e;rw[h]at h';cases h'
section
variable(P:aw)(w:au)
noncomputable def zI(H:Hp)(h:Heap)(a:Addr):HO->Prop
 | .lst xs=>xs.length<=aH/\∃(its:List ae) (n:Nat),Vals xs its/\h.get? a=some {cls:=.type "list",data:=.seq its.toArray n}
 | .tup xs=>xs.length<=aH/\∃its:List ae,Vals xs its/\IsTup h a its.toArray
 | .dK kvs=>kvs.length<=aH/\(a==sysModules)=false/\∃vs,KV kvs vs/\h.DictOf (zv P w) a vs
 | .dT kvs=>kvs.length<=aH/\(a==sysModules)=false/\∃xs:List (List Key×Addr×ae),
   Paired (λ(p:List Key×V) (q:List Key×Addr×ae)=>p.1=q.1/\H q.2.1=some (.tup (p.1.map kV))/\RelV p.2 q.2.2) kvs xs /\
   ∃o es ep,h.get? a=some o/\o.ExactDict/\o.data=.dict es ep/\es.toList=xs.map (entryOfKey (tupleKind (zv P w)))/\(xs.map (·.1)).Nodup
 | .set S n=>h.SetOf (intKind P w) a S n
 | .ins C dx fs=>H dx=some (.own a)/\fs.length<=1000/\dx≠a/\h.get? a=some (PySem.W.instObj C dx) /\
   ∃mA,h.Ns1 dx mA/\(∀f,dG (fs.lookup f) (mA f))/\PySem.Within mA (fs.map (·.1))
 | .own _=>∃o,h.get? a=some o
 | .xd fs=>∃mA,h.Ns1 a mA/\∀f,dG (fs.lookup f) (mA f)
 | .rng lo hi=>∃t u v,h.get? a=some {cls:=.type "range",data:=.fields #[.int lo t,.int hi u,.int 1 v]}
 | .frz o u=>h.get? a=some o/\zI H h a u
 | .tbl ps=>h.get? a=some {cls:=.none,data:=.fields ps}
 | .met f x=>h.get? a=some (PySem.W.methodObj (.ref f) (.ref x))
 | .ext φ=>φ h/\(∃o,h.get? a=some o)/\∀h1 h2:Heap,φ h1->(∀o,h1.get? a=some o->h2.get? a=some o)->φ h2
noncomputable def HOk(H:Hp)(h:Heap):Prop:=∀a o,H a=some o->zI P w H h a o
end
section
variable{P:aw}{w:au}{H H':Hp}{h h':Heap}{a:Addr}{o:HO}
theorem zI.lt(x:zI P w H h a o):a<h.objs.size:=by
 cases o with
 |lst xs=>obtain⟨_,_,_,_,e⟩:=x;exact aG e
 |tup xs=>obtain⟨_,_,_,p⟩:=x;exact p.lt
 |dK kvs=>obtain⟨_,_,_,_,o,_,_,e,_⟩:=x;exact aG e
 |dT kvs=>obtain⟨_,_,_,_,o,_,_,e,_⟩:=x;exact aG e
 |set S n=>obtain⟨o,_,_,_,e,_⟩:=x;exact aG e
 |ins C dx fs=>obtain⟨_,_,_,e,_⟩:=x;exact aG e
 |own y=>obtain⟨_,e⟩:=x;exact aG e
 |xd fs=>obtain⟨_,⟨_,_,_,e,_⟩,_⟩:=x;exact aG e
 |rng lo hi=>obtain⟨_,_,_,e⟩:=x;exact aG e
 |frz ob u=>obtain⟨e,_⟩:=x;exact aG e
 |tbl ps=>exact aG (show h.get? a=some _ from x)
 |met f y=>exact aG (show h.get? a=some _ from x)
 |ext φ=>obtain⟨_,⟨_,e⟩,_⟩:=x;exact aG e
theorem Paired.mapP{α β:Type}{F G:α->β->Prop}:∀{l₁:List α}{l₂:List β},Paired F l₁ l₂->(∀a b,F a b->G a b)->Paired G l₁ l₂
 |_,_,.nil,_=>.nil
 |_,_,.cons r t,f=>.cons (f _ _ r) (Paired.mapP t f)
theorem zI.stay(x:zI P w H h a o)(k:∀b u,(b=a\/H b=some (.own a))->h.get? b=some u->h'.get? b=some u)
  (ho:∀b,H b=some (.own a)->H' b=some (.own a)) (ht:∀b xs,H b=some (.tup xs)->H' b=some (.tup xs)):zI P w H' h' a o:=by
 induction o with
 |lst xs=>obtain⟨z,its,n,r,e⟩:=x;exact⟨z,its,n,r,k _ _ (.inl rfl) e⟩
 |tup xs=>obtain⟨z,its,r,ob,e,c⟩:=x;exact⟨z,its,r,ob,k _ _ (.inl rfl) e,c⟩
 |dK kvs=>obtain⟨z,y,vs,r,ob,es,ep,e,c⟩:=x;exact⟨z,y,vs,r,ob,es,ep,k _ _ (.inl rfl) e,c⟩
 |dT kvs=>
  obtain⟨z,y,xs,r,ob,es,ep,e,c⟩:=x;exact⟨z,y,xs,Paired.mapP r λp q z=>⟨z.1,ht _ _ z.2.1,z.2.2⟩,ob,es,ep,k _ _ (.inl rfl) e,c⟩
 |set S n=>obtain⟨ob,es,ep,t,e,c⟩:=x;exact⟨ob,es,ep,t,k _ _ (.inl rfl) e,c⟩
 |ins C dx fs=>
  obtain⟨d,z,ne,e,mA,⟨od,es,ep,e2,c⟩,r⟩:=x;exact⟨ho _ d,z,ne,k _ _ (.inl rfl) e,mA,⟨od,es,ep,k _ _ (.inr d) e2,c⟩,r⟩
 |own y=>obtain⟨ob,e⟩:=x;exact⟨ob,k _ _ (.inl rfl) e⟩
 |xd fs=>obtain⟨mA,⟨od,es,ep,e,c⟩,r⟩:=x;exact⟨mA,⟨od,es,ep,k _ _ (.inl rfl) e,c⟩,r⟩
 |rng lo hi=>obtain⟨t,u,v,e⟩:=x;exact⟨t,u,v,k _ _ (.inl rfl) e⟩
 |frz ob u ih=>obtain⟨e,q⟩:=x;exact⟨k _ _ (.inl rfl) e,ih q⟩
 |tbl ps=>
  have e:h.get? a=some {cls:=.none,data:=.fields ps}:=x;show h'.get? a=some {cls:=.none,data:=.fields ps};exact k a _ (.inl rfl) e
 |met f y=>
  have e:h.get? a=some (PySem.W.methodObj (.ref f) (.ref y)):=x;show h'.get? a=some (PySem.W.methodObj (.ref f) (.ref y));exact k a _ (.inl rfl) e
 |ext φ=>obtain⟨p,⟨o,e⟩,st⟩:=x;exact⟨st _ _ p λo q=>k _ _ (.inl rfl) q,⟨o,k _ _ (.inl rfl) e⟩,st⟩
theorem HOk.lt(x:HOk P w H h)(e:H a=some o):a<h.objs.size:=(x a o e).lt
theorem HOk.fresh(x:HOk P w H h)(e:h.objs.size<=a):H a=none:=by
 cases q:H a with
 |none=>rfl
 |some u=>exact absurd (bc (x.lt q) e) (br _)
theorem HOk.kept(x:HOk P w H h)(k:∀b u,h.get? b=some u->h'.get? b=some u):HOk P w H h':=λa o e=>
 (x a o e).stay (λb u _ q=>k b u q) (λ_ q=>q) λ_ _ q=>q
theorem HOk.laid(x:HOk P w H h)(k:∀b u,h.get? b=some u->h'.get? b=some u)(hp:h.objs.size<=a)(new:zI P w (upd H a o) h' a o):HOk P w (upd H a o) h':=λb u e=>by
 have hn:=x.fresh hp;by_cases hb:b=a
 ·subst hb;rw[zy]at e;cases e;exact new
 ·rw[qh hb]at e;exact(x b u e).stay (λc v _ q=>k c v q) (λc q=>by rw[qh (iB q hn)];exact q) λc xs q=>by rw[qh (iB q hn)];exact q
end
noncomputable def Rd(H:Hp)(a:Addr)(u:HO):Prop:=H a=some u\/∃o,H a=some (.frz o u)
theorem Rd.of{H:Hp}{a:Addr}{u:HO}(h:H a=some u):Rd H a u:=.inl h
theorem Rd.ok{P:aw}{w:au}{H:Hp}{h:Heap}{a:Addr}{u:HO}(r:Rd H a u)(x:HOk P w H h):zI P w H h a u:=by
 rcases r with r|⟨o,r⟩
 ·exact x a u r
 ·obtain⟨_,q⟩:=x a _ r;exact q
noncomputable def Mut:Option HO->Prop
 |some (.lst _)=>True
 |some (.dK _)=>True
 |some (.dT _)=>True
 |some (.set _ _)=>True
 |some (.ins _ _ _)=>True
 |some (.ext _)=>True
 |_=>False
section
variable{P:aw}{w:au}{H:Hp}{h h':Heap}{x e:Addr}{o':HO}
theorem HOk.write(ok:HOk P w H h)(mu:Mut (H x))(he:e=x\/H e=some (.own x))(k:∀b u,b≠e->h.get? b=some u->h'.get? b=some u)(heo:∃u,h'.get? e=some u)
  (new:zI P w (upd H x o') h' x o'):HOk P w (upd H x o') h':=λb u q=>by
 have nown:∀c y,H c=some (.own y)->c≠x:=λc y r z=>by subst z;rw[r]at mu;exact mu
 have ntup:∀c xs,H c=some (.tup xs)->c≠x:=λc xs r z=>by subst z;rw[r]at mu;exact mu
 by_cases hb:b=x
 ·subst hb;rw[zy]at q;cases q;exact new
 ·rw[qh hb]at q;by_cases hbe:b=e
  ·have q':H b=some (.own x):=by
    rcases he with z|z
    ·exact absurd (hbe.trans z) hb
    ·rw[hbe];exact z
   rw[q]at q';cases q';obtain⟨v,hv⟩:=heo;exact⟨v,by rw[hbe];exact hv⟩
  ·refine(ok b u q).stay (λc v hc r=>k c v ?_ r) (λc r=>by rw[qh (nown c b r)];exact r) λc xs r=>by rw[qh (ntup c xs r)];exact r
   rcases hc with rfl|hc
   ·exact hbe
   ·rintro rfl;rcases he with z|z
    ·exact nown c b hc z
    ·rw[hc]at z;cases z;exact hb rfl
end
structure Un(fs ex:List Addr)(H H':Hp)(h h':Heap):Prop where
 keep:∀b o,h.get? b=some o->H b=none->b∉fs->b∉ex->h'.get? b=some o
 slot:∀b o,h.get? b=some o->H b=none->b∈fs->b∉ex->∃sl,h'.get? b=some {o with slots:=sl}
 free:∀b o,h.get? b=some o->H b=none->b∉ex->H' b=none
 there:∀b o,h.get? b=some o->b∉ex->∃o',h'.get? b=some o'
 tups:∀b xs,H b=some (.tup xs)->H' b=some (.tup xs)
 frzs:∀b o u,H b=some (.frz o u)->H' b=some (.frz o u)
 tbls:∀b ps,H b=some (.tbl ps)->∃more,H' b=some (.tbl (ps++more))
section
variable{fs fs' ex ex':List Addr}{H H1 H2:Hp}{h h1 h2 h':Heap}{a x e:Addr}{o:HO}
theorem Un.any(u:Un fs ex H H1 h h1){b:Addr}{ob:Obj}(q:h.get? b=some ob)(n:H b=none)(hx:b∉ex):∃sl,h1.get? b=some {ob with slots:=sl}:=by
 by_cases hb:b∈fs
 ·exact u.slot b ob q n hb hx
 ·exact⟨ob.slots,u.keep b ob q n hb hx⟩
theorem Un.kept(k:∀b u,h.get? b=some u->h'.get? b=some u):Un fs ex H H h h':=
 ⟨λb ob q _ _ _=>k b ob q,λb ob q _ _ _=>⟨ob.slots,k b ob q⟩,λ_ _ _ n _=>n,λb ob q _=>⟨ob,k b ob q⟩,λ_ _ q=>q,λ_ _ _ q=>q,λ_ ps q=>⟨#[],by rw[q];simp⟩⟩
theorem Un.refl:Un fs ex H H h h:=Un.kept λ_ _ q=>q
theorem Un.laid(k:∀b u,h.get? b=some u->h'.get? b=some u)(hp:h.objs.size<=a)(hn:H a=none):Un fs ex H (upd H a o) h h' where
 keep:=λb u q _ _ _=>k b u q
 slot:=λb u q _ _ _=>⟨u.slots,k b u q⟩
 free:=λb u q n _=>by rw[qh (aU (bc (aG q) hp))];exact n
 there:=λb u q _=>⟨u,k b u q⟩
 tups:=λb xs q=>by rw[qh (iB q hn)];exact q
 frzs:=λb u xs q=>by rw[qh (iB q hn)];exact q
 tbls:=λb ps q=>⟨#[],by rw[qh (iB q hn),q];simp⟩
theorem Un.write(mu:Mut (H x))(he:e=x\/H e=some (.own x))(k:∀b u,b≠e->h.get? b=some u->h'.get? b=some u)(heo:∃u,h'.get? e=some u):Un fs ex H (upd H x o) h h':=by
 have hx:∀b,H b=none->b≠x:=λb n z=>by subst z;rw[n]at mu;exact mu
 have hb:∀b,H b=none->b≠e:=λb n z=>by
  subst z;rcases he with r|r
  ·exact hx b n r
  ·rw[n]at r;cases r
 have hm:∀b u,H b=some u->¬ Mut (some u)->b≠x:=λb u q nm z=>by subst z;rw[q]at mu;exact nm mu
 refine⟨λb u q n _ _=>k b u (hb b n) q,λb u q n _ _=>⟨u.slots,k b u (hb b n) q⟩,λb u q n _=>by rw[qh (hx b n)];exact n,λb u q _=>?_,
  λb xs q=>by rw[qh (hm b _ q λz=>z)];exact q,λb u xs q=>by rw[qh (hm b _ q λz=>z)];exact q,λb ps q=>⟨#[],by rw[qh (hm b _ q λz=>z),q];simp⟩⟩
 by_cases hbe:b=e
 ·subst hbe;exact heo
 ·exact⟨u,k b u hbe q⟩
end
noncomputable def trk(h:Heap)(H:Hp):List Addr:=(a8 h.objs.size).filter λa=>(H a).isSome
noncomputable def eY(h:Heap)(H:Hp):Heap:=PySem.W.hideAll h (trk h H)
theorem D0(h:Heap)(H:Hp):(eY h H).objs.size=h.objs.size:=PySem.W.hideAll_size _ _
theorem A0{h:Heap}{H:Hp}{b:Addr}{o:Obj}(e:h.get? b=some o)(n:H b=none):(eY h H).get? b=some o:=
 dO _ e λhm=>by
  have q:(H b).isSome=true:=(dk.mp hm).2;rw[n]at q;simp at q
theorem Cg{h:Heap}{H:Hp}{b:Addr}{o:Obj}(e:(eY h H).get? b=some o):h.get? b=some o/\H b=none:=by
 have e':h.get? b=some o:=PySem.W.of_hideAll (trk h H) e;refine⟨e',?_⟩;cases q:H b with
 |none=>rfl
 |some x=>
  have hm:b∈trk h H:=dk.mpr ⟨List.mem_range.mpr (aG e'),by simp[q]⟩;have z:(eY h H).get? b=none:=PySem.W.hideAll_none (trk h H) hm;rw[z]at e;cases e
noncomputable def i_(g h:Heap)(L:Addr):List (Addr×Obj):=(a8 h.objs.size).filterMap λa=>if a=L\/(g.get? a).isSome=true then none else (h.get? a).map λo=>(a,o)
theorem iZ{g h:Heap}{L a:Addr}{o:Obj}(h1:a≠L)(h2:g.get? a=none)(h3:h.get? a=some o):(a,o)∈i_ g h L:=
 List.mem_filterMap.mpr ⟨a,List.mem_range.mpr (aG h3),by simp[h1,h2,h3]⟩
theorem Ac{g h:Heap}{L:Addr}{p:Addr×Obj}(hp:p∈i_ g h L):p.1≠L/\g.get? p.1=none/\h.get? p.1=some p.2:=by
 obtain⟨b,_,e⟩:=List.mem_filterMap.mp hp;split at e
 ·cases e
 ·rename_i hn
  cases q:h.get? b with
  |none=>rw[q]at e;simp at e
  |some u=>
   rw[q]at e;simp only[Option.map_some,b_]at e;subst e;refine⟨λz=>hn (.inl z),?_,q⟩;show g.get? b=none;cases r:g.get? b with
   |none=>rfl
   |some v=>exact(hn (.inr (by simp[r]))).elim
noncomputable def rest(g h:Heap)(L d:Addr):List (Addr×Obj):=(i_ g h L).filter λp=>decide (p.1≠d)
theorem o_{g h:Heap}{L:Addr}:News g L h (i_ g h L):=λp hp=>let ⟨a,b,c⟩:=Ac hp;⟨c,a,b⟩
structure Mod(K:aq)(mg:Str->Option ae)(base:Heap):Prop where
 kin:K.In base
 glob:base.Ns ak mg
 blt:∃mb,base.Ns builtinsNs mb/\∀x:Str,x≠"__name__"->mb x=bG x
 nolimit:base.NoLimit
structure Cx where
 prog:aw
 w:au
 K:aq
 mg:Str->Option ae
 base:Heap
 A:ax
 N:List Str
 s₀:af
 H₀:Hp
 env:Env
 outer:List Env
 stack:List Env
 ex:List Addr
 fn:Str->Bool
 calm:Bool
 pn:List (Addr×Obj)
 xe:ae->af->Prop
noncomputable def frs(l:List Env):List Addr:=l.filterMap (·.frame)
abbrev Cx.fs(X:Cx):List Addr:=frs X.outer
noncomputable def eZ(sc:aO)(x:Str):Prop:=sc.names.lookup x=some .local\/sc.names.lookup x=some .cell\/sc.names.lookup x=some .free
noncomputable def Loc(sc:aO)(x:Str):Prop:=sc.names.lookup x=some .local\/sc.names.lookup x=some .cell
noncomputable def Look(env:Env)(h:Heap)(m:Str->Option ae)(x:Str)(u:ae):Prop:=
 (env.kindOf x=some .local/\m x=some u)\/((env.kindOf x=some .cell\/env.kindOf x=some .free)/\∃c,env.cells.lookup x=some c/\h.IsCell c (some u))
structure Cx.Ok(X:Cx):Prop where
 mod:Mod X.K X.mg X.base
 kind:X.env.scope.kind=.function
 glob:X.env.globals=ak
 blt:X.env.builtins=builtinsNs
 above:X.s₀.heap.objs.size<=X.env.locals
 inj:∀x y c,X.env.cells.lookup x=some c->X.env.cells.lookup y=some c->x=y
 has:∀x,(X.env.kindOf x=some .cell\/X.env.kindOf x=some .free)->∃c,X.env.cells.lookup x=some c
 cab:∀x c,X.fn x=true->X.env.cells.lookup x=some c->X.s₀.heap.objs.size<=c
 hd:X.calm=true->X.A.handled=none
 frames:X.A.frames=some X.stack
 stk:X.stack=X.outer\/(X.stack=X.env::X.outer/\X.env.frame=some X.env.locals)
 exf:∀b∈X.ex,b≠X.env.locals/\∀x c,X.env.cells.lookup x=some c->c≠b
 bs:∀b o,X.base.get? b=some o->X.s₀.heap.get? b=some o/\X.H₀ b=none
 bsz:X.base.objs.size<=X.s₀.heap.objs.size
 noex:∀b o,X.base.get? b=some o->b∉X.ex
 exfs:∀b∈X.ex,b∉X.fs
 funs:X.s₀.heap.FunFrames X.base X.outer
 frf:∀b∈X.fs,X.H₀ b=none
structure Inv(X:Cx)(pins:List (Addr×Obj))(σ:List (Option V))(H:Hp)(s:af):Prop where
 ok:X.Ok
 os:s.os=X.s₀.os
 bare:AllBare s.gens
 base:Un X.fs X.ex X.H₀ H X.s₀.heap s.heap
 loc:∃m,s.heap.Ns X.env.locals m/\∀(i:Nat) (x:Str) (v:V),X.N[i]? = some x->σ[i]? = some (some v)->eZ X.env.scope x->∃u,RelV v u/\Look X.env s.heap m x u
 cell:∀x c,X.env.cells.lookup x=some c->∃v,s.heap.IsCell c v
 free:H X.env.locals=none
 freeC:∀x c,X.env.cells.lookup x=some c->H c=none
 pin:∀p∈X.pn++pins,s.heap.get? p.1=some p.2/\H p.1=none/\p.1≠X.env.locals/\p.1∉X.fs/\∀v,p.2.data≠.cell v
 hok:HOk X.prog X.w H s.heap
 len:σ.length=X.N.length
section
variable{X:Cx}{pins:List (Addr×Obj)}{σ:List (Option V)}{H H':Hp}{s:af}{h':Heap}
theorem Cx.Ok.nofr(ok:X.Ok){b:Addr}{o:Obj}(e:X.base.get? b=some o):b∉X.fs:=λhb=>by
 have:=(ok.funs.mem hb).1;rw[e]at this;cases this
theorem Inv.bs(I:Inv X pins σ H s):∀b o,X.base.get? b=some o->s.heap.get? b=some o/\H b=none:=λb o e=>
 ⟨I.base.keep b o (I.ok.bs b o e).1 (I.ok.bs b o e).2 (I.ok.nofr e) (I.ok.noex b o e),I.base.free b o (I.ok.bs b o e).1 (I.ok.bs b o e).2 (I.ok.noex b o e)⟩
theorem Inv.bk(I:Inv X pins σ H s):∀b o,X.base.get? b=some o->s.heap.get? b=some o:=λb o e=>(I.bs b o e).1
theorem Inv.mod(I:Inv X pins σ H s):Mod X.K X.mg X.base:=I.ok.mod
theorem Inv.kIn(I:Inv X pins σ H s):X.K.In s.heap:=I.ok.mod.kin.keeps I.bk
theorem Inv.nolimit(I:Inv X pins σ H s):s.heap.NoLimit:=I.ok.mod.nolimit.keeps I.bk
theorem Inv.fr(I:Inv X pins σ H s):∃m,Fr X.base X.env.locals s.heap m:=
 let ⟨m,hn,_⟩:=I.loc
 ⟨m,hn,I.bk,a_ I.ok.bsz I.ok.above⟩
theorem Inv.lt(I:Inv X pins σ H s):X.env.locals<s.heap.objs.size:=let ⟨_,hn,_⟩:=I.loc;hn.lt
theorem Inv.sz(I:Inv X pins σ H s):X.s₀.heap.objs.size<=s.heap.objs.size:=a_ I.ok.above (Nat.le_of_lt I.lt)
theorem Inv.nofs(I:Inv X pins σ H s){a:Addr}(h:s.heap.objs.size<=a):a∉X.fs:=λhb=>by
 obtain⟨_,o,ho,_⟩:=I.ok.funs.mem hb;exact absurd (bc (aG ho) (a_ I.sz h)) (br _)
theorem Inv.cne(I:Inv X pins σ H s):∀x c,X.env.cells.lookup x=some c->c≠X.env.locals:=λx c e z=>by
 obtain⟨v,o,ho,hd⟩:=I.cell x c e;obtain⟨m,⟨o',es,ep,ho',hd',_⟩,_⟩:=I.loc;rw[z,ho']at ho;cases ho;rw[hd']at hd;cases hd
theorem Inv.funs(I:Inv X pins σ H s):s.heap.FunFrames X.base X.outer:=by
 have all:∀(l:List Env),(∀b∈frs l,b∈X.fs)->X.s₀.heap.FunFrames X.base l->s.heap.FunFrames X.base l:=by
  intro l
  induction l with
  |nil=>intro _ _;trivial
  |cons env r ih=>
   intro hs hl;obtain⟨hk,⟨L,o,hf,hn,ho,hd⟩,hr⟩:=hl;have hL:L∈X.fs:=hs L (by unfold frs;rw[List.filterMap_cons,hf];exact aJ);obtain⟨sl,e⟩:=I.base.slot L o ho (I.ok.frf L hL) hL λz=>I.ok.exfs L z hL
   exact⟨hk,⟨L,_,hf,hn,e,hd⟩,ih (λb hb=>hs b (by unfold frs;rw[List.filterMap_cons,hf];exact aK _ hb)) hr⟩
 exact all X.outer (λ_ hb=>hb) I.ok.funs
theorem Inv.stack(I:Inv X pins σ H s):s.heap.FunFrames X.base X.stack:=by
 rcases I.ok.stk with e|⟨e,hf⟩
 ·rw[e];exact I.funs
 ·rw[e];obtain⟨m,hn,_⟩:=I.loc;refine .cons (by rw[I.ok.kind];decide) hf hn ?_ I.funs;exact Heap.get?_none_of_le (a_ I.ok.bsz I.ok.above)
theorem Inv.stkSub(I:Inv X pins σ H s):∀b∈frs X.stack,b∈X.env.locals::X.fs:=λb hb=>by
 rcases I.ok.stk with e|⟨e,hf⟩
 ·rw[e]at hb;exact aK _ hb
 ·rw[e]at hb;unfold frs at hb;rw[List.filterMap_cons,hf]at hb;exact hb
theorem Inv.stkFree(I:Inv X pins σ H s):∀b∈frs X.stack,H b=none:=λb hb=>by
 rcases aD.mp (I.stkSub b hb)with e|hb
 ·rw[e];exact I.free
 ·obtain⟨_,o,ho,_⟩:=I.ok.funs.mem hb;exact I.base.free b o ho (I.ok.frf b hb) λz=>I.ok.exfs b z hb
theorem Inv.step{g':Array GenState}{t':Nat}{d':Drawn}{ch:List Addr}(I:Inv X pins σ H s)
  (hch:∀b∈ch,(b∈X.ex\/X.s₀.heap.objs.size<=b)/\b≠X.env.locals/\(∀x c,X.env.cells.lookup x=some c->c≠b)/\∀p∈X.pn++pins,p.1≠b)
  (keep:∀b o,b≠X.env.locals->b∉X.fs->b∉ch->s.heap.get? b=some o->H b=none->h'.get? b=some o)
  (slot:∀b o,b≠X.env.locals->b∈X.fs->b∉ch->s.heap.get? b=some o->H b=none->∃sl,h'.get? b=some {o with slots:=sl}) (free:∀b o,b∉ch->s.heap.get? b=some o->H b=none->H' b=none)
  (there:∀b o,b∉ch->s.heap.get? b=some o->∃o',h'.get? b=some o')
  (tups:∀b xs,H b=some (.tup xs)->H' b=some (.tup xs)) (frzs:∀b o u,H b=some (.frz o u)->H' b=some (.frz o u)) (tbls:∀b ps,H b=some (.tbl ps)->∃more,H' b=some (.tbl (ps++more)))
  (ns:∀m,s.heap.Ns X.env.locals m->h'.Ns X.env.locals m) (hok:HOk X.prog X.w H' h') (hg:AllBare g') :
  Inv X pins σ H' {s with heap:=h',gens:=g',drawn:=d',toks:=t'}:=by
 have neL:∀b o,X.s₀.heap.get? b=some o->b≠X.env.locals:=λb o e=>aU (bc (aG e) I.ok.above)
 have neC:∀b o,X.s₀.heap.get? b=some o->b∉X.ex->b∉ch:=λb o e hx hb=>by
  rcases(hch b hb).1 with z|z
  ·exact hx z
  ·exact absurd (bc (aG e) z) (br _)
 have cellK:∀x c,X.env.cells.lookup x=some c->∀v,s.heap.IsCell c v->h'.IsCell c v:=λx c e v ⟨o,ho,hd⟩=>by
  have nch:c∉ch:=λz=>(hch c z).2.2.1 x c e rfl
  by_cases hc:c∈X.fs
  ·obtain⟨sl,q⟩:=slot c o (I.cne x c e) hc nch ho (I.freeC x c e);exact⟨_,q,hd⟩
  ·exact⟨o,keep c o (I.cne x c e) hc nch ho (I.freeC x c e),hd⟩
 refine⟨I.ok,I.os,hg,⟨λb o e n hb hx=>?_,λb o e n hb hx=>?_,λb o e n hx=>?_,λb o e hx=>?_,λb xs e=>tups b xs (I.base.tups b xs e),λb o xs e=>frzs b o xs (I.base.frzs b o xs e),λb ps e=>?_⟩,?_,λx c e=>?_,?_,λx c e=>?_,λp hp=>?_,hok,I.len⟩
 ·exact keep b o (neL b o e) hb (neC b o e hx) (I.base.keep b o e n hb hx) (I.base.free b o e n hx)
 ·obtain⟨sl,e1⟩:=I.base.slot b o e n hb hx;obtain⟨sl',e2⟩:=slot b _ (neL b o e) hb (neC b o e hx) e1 (I.base.free b o e n hx);exact⟨sl',e2⟩
 ·obtain⟨o',e1⟩:=I.base.there b o e hx;exact free b o' (neC b o e hx) e1 (I.base.free b o e n hx)
 ·obtain⟨o',e1⟩:=I.base.there b o e hx;exact there b o' (neC b o e hx) e1
 ·obtain⟨m1,e1⟩:=I.base.tbls b ps e;obtain⟨m2,e2⟩:=tbls b _ e1;exact⟨m1++m2,by rw[e2,Array.append_assoc]⟩
 ·obtain⟨m,hn,hl⟩:=I.loc;refine⟨m,ns m hn,λi x v e1 e2 e3=>?_⟩;obtain⟨u,r,l⟩:=hl i x v e1 e2 e3;refine⟨u,r,?_⟩;rcases l with l|⟨k,c,e,z⟩
  ·exact .inl l
  ·exact .inr ⟨k,c,e,cellK x c e _ z⟩
 ·obtain⟨v,z⟩:=I.cell x c e;exact⟨v,cellK x c e v z⟩
 ·obtain⟨m,⟨o,_,_,ho,_⟩,_⟩:=I.loc;exact free _ o (λz=>(hch _ z).2.1 rfl) ho I.free
 ·obtain⟨v,o,ho,hd⟩:=I.cell x c e;exact free c o (λz=>(hch c z).2.2.1 x c e rfl) ho (I.freeC x c e)
 ·obtain⟨e,n,ne,nf,d⟩:=I.pin p hp;have nch:p.1∉ch:=λz=>(hch p.1 z).2.2.2 p hp rfl
  exact⟨keep p.1 p.2 ne nf nch e n,free p.1 p.2 nch e n,ne,nf,d⟩
theorem Inv.un{t':Nat}(I:Inv X pins σ H s)(u:Un X.fs [] H H' s.heap h')(hok:HOk X.prog X.w H' h'):Inv X pins σ H' {s with heap:=h',toks:=t'}:=by
 obtain⟨m,⟨o,es,ep,ho,r⟩,_⟩:=id I.loc;obtain⟨sl,hL⟩:=u.any ho I.free (by simp);exact I.step (g':=s.gens) (d':=s.drawn) (ch:=[]) (λ_ z=>nomatch z) (λb o _ hb _ e n=>u.keep b o e n hb (by simp)) (λb o _ hb _ e n=>u.slot b o e n hb (by simp)) (λb o _ e n=>u.free b o e n (by simp)) (λb o _ e=>u.there b o e (by simp)) u.tups u.frzs u.tbls (λm' hm=>by
  obtain⟨o',es',ep',ho',r'⟩:=hm;rw[ho]at ho';cases ho';exact⟨_,es',ep',hL,r'⟩) hok I.bare
theorem Inv.call{g':Array GenState}{t':Nat}{d':Drawn}{ch:List Addr}(I:Inv X pins σ H s)(u:Un (frs X.stack) ch H H' s.heap h')(hok:HOk X.prog X.w H' h')(hg:AllBare g')
  (hch:∀b∈ch,(b∈X.ex\/X.s₀.heap.objs.size<=b)/\b≠X.env.locals/\(∀x c,X.env.cells.lookup x=some c->c≠b)/\∀p∈X.pn++pins,p.1≠b) :
  Inv X pins σ H' {s with heap:=h',gens:=g',drawn:=d',toks:=t'}:=by
 obtain⟨m,⟨o,es,ep,ho,r⟩,_⟩:=id I.loc;obtain⟨sl,hL⟩:=u.any ho I.free λz=>(hch _ z).2.1 rfl
 exact I.step (ch:=ch) hch (λb o hL hb hc e n=>u.keep b o e n (λz=>(aD.mp (I.stkSub b z)).elim hL hb) hc) (λb o _ _ hc e n=>u.any e n hc) (λb o hc e n=>u.free b o e n hc) (λb o hc e=>u.there b o e hc) u.tups u.frzs u.tbls (λm' hm=>by
  obtain⟨o',es',ep',ho',r'⟩:=hm;rw[ho]at ho';cases ho';exact⟨_,es',ep',hL,r'⟩) hok hg
theorem Inv.turned{t':Nat}{it:Addr}(I:Inv X pins σ H s)(k:∀b o,b≠it->s.heap.get? b=some o->h'.get? b=some o)(hn:H it=none)(hL:it≠X.env.locals)
  (h1:it∈X.ex\/X.s₀.heap.objs.size<=it) (h2:∀x c,X.env.cells.lookup x=some c->c≠it) (h3:∀p∈X.pn++pins,p.1≠it):Inv X pins σ H {s with heap:=h',toks:=t'}:=by
 have nit:∀b u,H b=some u->b≠it:=λb u e z=>by rw[z,hn]at e;cases e
 refine I.step (g':=s.gens) (d':=s.drawn) (ch:=[it]) (λb hb=>?_) (λb o _ _ hc e _=>k b o (λz=>hc (by simp[z])) e) (λb o _ _ hc e _=>⟨o.slots,k b o (λz=>hc (by simp[z])) e⟩) (λ_ _ _ _ n=>n)
  (λb o hc e=>⟨o,k b o (λz=>hc (by simp[z])) e⟩) (λ_ _ e=>e) (λ_ _ _ e=>e) (λb ps e=>⟨#[],by rw[e];simp⟩) (λm hm=>?_) (λb u e=>?_) I.bare
 ·have e:b=it:=by simpa using hb
  subst e;exact⟨h1,hL,h2,h3⟩
 ·obtain⟨o,es,ep,ho,r⟩:=hm;exact⟨o,es,ep,k _ o (Ne.symm hL) ho,r⟩
 ·refine(I.hok b u e).stay (λc v hc q=>k c v ?_ q) (λ_ q=>q) λ_ _ q=>q
  rcases hc with z|z
  ·rw[z];exact nit b u e
  ·exact nit c _ z
theorem Inv.tok(I:Inv X pins σ H s)(t:Nat):Inv X pins σ H {s with toks:=t}:=I.un (h':=s.heap) (t':=t) Un.refl I.hok
theorem Inv.kept{t':Nat}(I:Inv X pins σ H s)(k:∀b u,s.heap.get? b=some u->h'.get? b=some u):Inv X pins σ H {s with heap:=h',toks:=t'}:=I.un (Un.kept k) (I.hok.kept k)
theorem Inv.laid{a:Addr}{o:HO}{t':Nat}(I:Inv X pins σ H s)(k:∀b u,s.heap.get? b=some u->h'.get? b=some u)(hp:s.heap.objs.size<=a)(new:zI X.prog X.w (upd H a o) h' a o) :
  Inv X pins σ (upd H a o) {s with heap:=h',toks:=t'}:=I.un (Un.laid k hp (I.hok.fresh hp)) (I.hok.laid k hp new)
theorem Inv.write{x e:Addr}{o:HO}{t':Nat}(I:Inv X pins σ H s)(mu:Mut (H x))(he:e=x\/H e=some (.own x))(k:∀b u,b≠e->s.heap.get? b=some u->h'.get? b=some u)(heo:∃u,h'.get? e=some u)
  (new:zI X.prog X.w (upd H x o) h' x o):Inv X pins σ (upd H x o) {s with heap:=h',toks:=t'}:=I.un (Un.write mu he k heo) (I.hok.write mu he k heo new)
theorem Inv.pins_of{pins':List (Addr×Obj)}(I:Inv X pins σ H s)(h:∀p∈pins',s.heap.get? p.1=some p.2/\H p.1=none/\p.1≠X.env.locals/\p.1∉X.fs/\∀v,p.2.data≠.cell v):Inv X pins' σ H s:=
 ⟨I.ok,I.os,I.bare,I.base,I.loc,I.cell,I.free,I.freeC,λp hp=>(List.mem_append.mp hp).elim (λz=>I.pin p (List.mem_append_left _ z)) (h p),I.hok,I.len⟩
theorem oG{N:List Str}(hN:N.Nodup){i j:Nat}{x:Str}(a:N[i]? = some x)(b:N[j]? = some x):i=j:=by
 obtain⟨h1,e1⟩:=List.getElem?_eq_some_iff.mp a;obtain⟨h2,e2⟩:=List.getElem?_eq_some_iff.mp b;exact(List.getElem_inj hN).mp (e1.trans e2.symm)
theorem oj{M:Model}{A:ax}{E:ae->af->Prop}{i:Nat}{x:Str}{v:V}{u:ae}{Q:Unit->af->Prop}(I:Inv X pins σ H s)(hN:X.N.Nodup)(hi:X.N[i]? = some x)(hx:Loc X.env.scope x)(r:RelV v u)
  (h:∀s',Inv X pins (σ.set i (some v)) H s'->(∃a,Heap.SameBut a s.heap s'.heap/\(a=X.env.locals\/X.env.cells.lookup x=some a))->Q () s') (hf:X.fn x=true\/X.env.scope.names.lookup x=some .local:=by first|exact .inl rfl|exact .inr rfl|assumption):ai M A (storeName X.env x u) Q E s:=by
 obtain⟨m,hn,hl⟩:=id I.loc;have hcls:(X.env.scope.kind==.class||(X.env.scope.kind==.module&&X.env.locals != X.env.globals))=false:=by rw[I.ok.kind];rfl
 have hiσ:i<σ.length:=by rw[I.len];exact(List.getElem?_eq_some_iff.mp hi).1
 have cne:=I.cne;have tracked:∀{a:Addr}{h':Heap},(∃o,s.heap.get? a=some o/\H a=none)->Heap.SameBut a s.heap h'->HOk X.prog X.w H h':=λ{a h'} ha hs b ob e=>by
  obtain⟨_,_,hfree⟩:=ha;refine(I.hok b ob e).stay (λc w' hc q=>(hs.2 c ?_).trans q) (λ_ q=>q) λ_ _ q=>q
  rintro rfl;rcases hc with rfl|hc
  ·rw[hfree]at e;cases e
  ·rw[hfree]at hc;cases hc
 rcases hx with hk|hk
 ·refine wpAny_storeName_local hk hn (λh' hn' hs=>?_) hcls;obtain⟨oL,_,_,hoL,_⟩:=id hn;refine h _ ⟨I.ok,I.os,I.bare,⟨λb o e n hb hx=>?_,λb o e n hb hx=>?_,I.base.free,λb o e hx=>?_,I.base.tups,I.base.frzs,I.base.tbls⟩,⟨_,hn',λj y v' e1 e2 e3=>?_⟩,λy c e=>?_,I.free,I.freeC,λp hp=>?_,tracked ⟨oL,hoL,I.free⟩ hs,by simpa using I.len⟩ ⟨_,hs,.inl rfl⟩
  ·exact(hs.2 b (aU (bc (aG e) I.ok.above))).trans (I.base.keep b o e n hb hx)
  ·obtain⟨sl,e1⟩:=I.base.slot b o e n hb hx;exact⟨sl,(hs.2 b (aU (bc (aG e) I.ok.above))).trans e1⟩
  ·obtain⟨o',e1⟩:=I.base.there b o e hx;exact⟨o',(hs.2 b (aU (bc (aG e) I.ok.above))).trans e1⟩
  ·by_cases hj:j=i
   ·subst hj;rw[hi]at e1;cases e1;rw[List.getElem?_set_self hiσ]at e2;cases e2;exact⟨u,r,.inl ⟨hk,by simp⟩⟩
   ·rw[List.getElem?_set_ne (Ne.symm hj)]at e2;obtain⟨u',r',q⟩:=hl j y v' e1 e2 e3;refine⟨u',r',?_⟩;rcases q with ⟨k,e⟩|⟨k,c,e,z⟩
    ·refine .inl ⟨k,?_⟩;have:y≠x:=λe=>hj (oG hN e1 (e▸hi))
     simp[this,e]
    ·exact .inr ⟨k,c,e,z.sameBut hs (cne y c e)⟩
  ·obtain⟨w',z⟩:=I.cell y c e;exact⟨w',z.sameBut hs (cne y c e)⟩
  ·obtain⟨e,n,ne,nf,d⟩:=I.pin p hp;exact⟨(hs.2 p.1 ne).trans e,n,ne,nf,d⟩
 ·have hfn:X.fn x=true:=by
   rcases hf with z|z
   ·exact z
   ·rw[z]at hk;cases hk
  obtain⟨c,hc⟩:=I.ok.has x (.inl hk);obtain⟨w',z⟩:=I.cell x c hc;refine wpAny_storeName_cell I.ok.kind hk hc z (λh' hc' hs=>?_);obtain⟨oc,hoc,hocd⟩:=id z;refine h {s with heap:=h'} ⟨I.ok,I.os,I.bare,⟨λb o e n hb hx=>?_,λb o e n hb hx=>?_,I.base.free,λb o e hx=>?_,I.base.tups,I.base.frzs,I.base.tbls⟩,⟨m,hn.sameBut hs (Ne.symm (cne x c hc)),λj y v' e1 e2 e3=>?_⟩,λy c' e=>?_,I.free,I.freeC,λp hp=>?_,tracked ⟨oc,hoc,I.freeC x c hc⟩ hs,by simpa using I.len⟩ ⟨c,hs,.inr hc⟩
  ·exact(hs.2 b (aU (bc (aG e) (I.ok.cab x c hfn hc)))).trans (I.base.keep b o e n hb hx)
  ·obtain⟨sl,e1⟩:=I.base.slot b o e n hb hx;exact⟨sl,(hs.2 b (aU (bc (aG e) (I.ok.cab x c hfn hc)))).trans e1⟩
  ·obtain⟨o',e1⟩:=I.base.there b o e hx;exact⟨o',(hs.2 b (aU (bc (aG e) (I.ok.cab x c hfn hc)))).trans e1⟩
  ·by_cases hj:j=i
   ·subst hj;rw[hi]at e1;cases e1;rw[List.getElem?_set_self hiσ]at e2;cases e2;exact⟨u,r,.inr ⟨.inl hk,c,hc,hc'⟩⟩
   ·rw[List.getElem?_set_ne (Ne.symm hj)]at e2;obtain⟨u',r',q⟩:=hl j y v' e1 e2 e3;refine⟨u',r',?_⟩;rcases q with q|⟨k,c',e,z'⟩
    ·exact .inl q
    ·refine .inr ⟨k,c',e,z'.sameBut hs ?_⟩;rintro rfl;exact hj (oG hN e1 (I.ok.inj _ _ _ e hc▸hi))
  ·by_cases hcc:c'=c
   ·subst hcc;exact⟨_,hc'⟩
   ·obtain⟨w2,z2⟩:=I.cell y c' e;exact⟨w2,z2.sameBut hs hcc⟩
  ·obtain⟨e,n,ne,nf,d⟩:=I.pin p hp;refine⟨(hs.2 p.1 ?_).trans e,n,ne,nf,d⟩;intro q;rw[q,hoc]at e;have q':oc=p.2:=bB e;exact d w' (by rw[<-q'];exact hocd)
theorem lW{M:Model}{A:ax}{E:ae->af->Prop}{i:Nat}{x:Str}{v:V}{u:ae}{Q:Unit->af->Prop}(I:Inv X pins σ H s)(hN:X.N.Nodup)(hi:X.N[i]? = some x)(hx:Loc X.env.scope x)(r:RelV v u)
  (h:∀s',Inv X pins (σ.set i (some v)) H s'->Q () s') (hf:X.fn x=true\/X.env.scope.names.lookup x=some .local:=by first|exact .inl rfl|exact .inr rfl|assumption):ai M A (storeName X.env x u) Q E s:=
 oj I hN hi hx r (λs' I' _=>h s' I') hf
theorem Inv.call'{s':af}{ch:List Addr}(I:Inv X pins σ H s)(ho:s'.os=s.os)(u:Un (frs X.stack) ch H H' s.heap s'.heap)(hok:HOk X.prog X.w H' s'.heap)(hg:AllBare s'.gens)
  (hch:∀b∈ch,(b∈X.ex\/X.s₀.heap.objs.size<=b)/\b≠X.env.locals/\(∀x c,X.env.cells.lookup x=some c->c≠b)/\∀p∈X.pn++pins,p.1≠b):Inv X pins σ H' s':=by
 obtain⟨h',g',d',t',o'⟩:=s';have e:o'=s.os:=ho;subst e;exact I.call (g':=g') (t':=t') (d':=d') u hok hg hch
end
abbrev XK:=ae->Option Addr->Hp->Prop
abbrev St:=List (Option V)
abbrev VK:=V->Hp->Prop
abbrev TE:=St->Hp->VK->Prop
abbrev TT:=St->Hp->(Bool->Hp->Prop)->Prop
abbrev TA:=St->Hp->(List V->Hp->Prop)->Prop
structure Ends where
 nx:St->Hp->Prop
 rt:VK
 bk:St->Hp->Prop:=λ_ _=>False
 ct:St->Hp->Prop:=λ_ _=>False
abbrev TS:=Ends->St->Hp->Prop
noncomputable def EP(X:Cx)(pins:List (Addr×Obj))(σ:St)(Q:VK)(u:ae)(s':af):Prop:=∃v H',Inv X pins σ H' s'/\RelV v u/\Q v H'
noncomputable def TP(X:Cx)(pins:List (Addr×Obj))(σ:St)(Q:Bool->Hp->Prop)(b:Bool)(s':af):Prop:=∃H',Inv X pins σ H' s'/\Q b H'
noncomputable def AP(X:Cx)(pins:List (Addr×Obj))(σ:St)(Q:List V->Hp->Prop)(us:List ae)(s':af):Prop:=∃vs H',Inv X pins σ H' s'/\Vals vs us/\Q vs H'
noncomputable def SP(X:Cx)(pins:List (Addr×Obj))(D:Ends)(f:Flow)(s':af):Prop:=
 match f with
 | .next=>∃σ' H',Inv X pins σ' H' s'/\D.nx σ' H'
 | .brk=>∃σ' H',Inv X pins σ' H' s'/\D.bk σ' H'
 | .cont=>∃σ' H',Inv X pins σ' H' s'/\D.ct σ' H'
 | .ret u=>∃v σ' H',Inv X pins σ' H' s'/\RelV v u/\D.rt v H'
noncomputable def PE(X:Cx)(e:Expr)(t:TE):Prop:=
 ∀(pins:List (Addr×Obj)) (s:af) (σ:St) (H:Hp) (Q:VK),Inv X pins σ H s->t σ H Q->ai (aj X.prog X.w) X.A (eval e X.env) (EP X pins σ Q) X.xe s
noncomputable def PT(X:Cx)(e:Expr)(t:TT):Prop:=
 ∀(pins:List (Addr×Obj)) (s:af) (σ:St) (H:Hp) (Q:Bool->Hp->Prop),Inv X pins σ H s->t σ H Q->ai (aj X.prog X.w) X.A (isTrue e X.env (eval e X.env)) (TP X pins σ Q) X.xe s
noncomputable def PW(X:Cx)(e:Expr)(t:TT):Prop:=
 ∀(whole:Sem ae) (pins:List (Addr×Obj)) (s:af) (σ:St) (H:Hp) (Q:Bool->Hp->Prop),Inv X pins σ H s->t σ H Q->ai (aj X.prog X.w) X.A (isTrue e X.env whole) (TP X pins σ Q) X.xe s
theorem PW.pt{X:Cx}{e:Expr}{t:TT}(h:PW X e t):PT X e t:=h _
noncomputable def PA(X:Cx)(es:List Expr)(t:TA):Prop:=
 ∀(pos:Pos) (pins:List (Addr×Obj)) (s:af) (σ:St) (H:Hp) (Q:List V->Hp->Prop),Inv X pins σ H s->t σ H Q->ai (aj X.prog X.w) X.A (spliced (backTo pos (aL es X.env))) (AP X pins σ Q) X.xe s
noncomputable def PS(X:Cx)(st:Stmt)(t:TS):Prop:=
 ∀(pins:List (Addr×Obj)) (s:af) (σ:St) (H:Hp) (D:Ends),Inv X pins σ H s->t D σ H->ai (aj X.prog X.w) X.A (exec st X.env) (SP X pins D) X.xe s
noncomputable def PSs(X:Cx)(st:List Stmt)(t:TS):Prop:=
 ∀(pins:List (Addr×Obj)) (s:af) (σ:St) (H:Hp) (D:Ends),Inv X pins σ H s->t D σ H->ai (aj X.prog X.w) X.A (execs st X.env) (SP X pins D) X.xe s
theorem thn{α:Type}{t:Sem α}{Q Q':α->af->Prop}{M:Model}{A:ax}{E:ae->af->Prop}{s:af}(h:ai M A t Q E s)(hQ:∀a s,Q a s->Q' a s):ai M A t Q' E s:=bL h hQ λ_ _ x=>x
section
variable{X:Cx}
theorem bin{a b:Expr}{ta tb:TE}(ha:PE X a ta)(hb:PE X b tb){pins:List (Addr×Obj)}{s:af}{σ:St}{H:Hp}{R:V->V->Hp->Prop}(I:Inv X pins σ H s)(h:ta σ H λx H1=>tb σ H1 λy H2=>R x y H2)
  {α:Type}{Q:α->af->Prop}{f:ae->ae->Sem α}
  (hf:∀v u s2 x y H2,Inv X pins σ H2 s2->RelV x v->RelV y u->R x y H2->ai (aj X.prog X.w) X.A (f v u) Q X.xe s2) :
  ai (aj X.prog X.w) X.A (eval a X.env) (λv s₁=>ai (aj X.prog X.w) X.A (eval b X.env) (λu s₂=>ai (aj X.prog X.w) X.A (f v u) Q X.xe s₂) X.xe s₁) X.xe s:=by
 refine thn (ha pins s σ H _ I h) λv s1 ⟨x,H1,I1,r1,q1⟩=>?_
 refine thn (hb pins s1 σ H1 _ I1 q1) λu s2 ⟨y,H2,I2,r2,q2⟩=>?_
 exact hf v u s2 x y H2 I2 r1 r2 q2
noncomputable def fk(i:Nat):TE:=λσ H Q=>∃v,σ[i]? = some (some v)/\Q v H
noncomputable def tC(v:V):TE:=λ_ H Q=>Q v H
theorem fU{i:Nat}{x:Str}{pos:Pos}(hN:X.N[i]? = some x)(hv:eZ X.env.scope x)(hd:(x==("__debug__" : Str))=false:=by decide)(hcd:(x==("__classdict__" : Str))=false:=by decide):PE X (.Name x pos) (fk i):=by
 intro pins s σ H Q I h;obtain⟨v,e,h⟩:=h;obtain⟨m,hn,hl⟩:=I.loc;obtain⟨u,r,l⟩:=hl i x v hN e hv;have fin:EP X pins σ Q u s:=⟨v,H,I,r,h⟩
 rcases l with ⟨hk,hm⟩|⟨hk,c,hc,hcell⟩
 ·exact wpAny_Name (wpAny_loadName_local I.ok.kind hk hn hm fin) hd
 ·rcases hk with hk|hk
  ·exact wpAny_Name (wpAny_loadName_cell I.ok.kind hk hc hcell fin) hd
  ·exact wpAny_Name (wpAny_loadName_free I.ok.kind hk hc hcell fin hcd) hd
theorem pJ{i j pos}:PE X (.Constant (.int i) j pos) (tC (.int i)):=λ_ _ _ H _ I h=>wpAny_Constant_int ⟨.int i,H,I.tok _,⟨_,rfl⟩,h⟩
theorem pP{b j pos}:PE X (.Constant (.bool b) j pos) (tC (.bl b)):=λ_ _ _ H _ I h=>Constant_bool ⟨.bl b,H,I,rfl,h⟩
theorem BQ{j pos}:PE X (.Constant .none j pos) (tC .non):=λ_ _ _ H _ I h=>Constant_none ⟨.non,H,I,rfl,h⟩
theorem Dq{x j pos}:PE X (.Constant (.str x) j pos) (tC (.str x)):=λ_ _ _ H _ I h=>Calls.Constant_str ⟨.str x,H,I.tok _,⟨_,rfl⟩,h⟩
noncomputable def Gl(X:Cx)(x:Str):Prop:=X.env.kindOf x=some .globalImplicit
theorem gQ{E:ae->af->Prop}{pins:List (Addr×Obj)}{s:af}{σ:St}{H:Hp}{x:Str}{u:ae}{pos:Pos}{Q:ae->af->Prop}(I:Inv X pins σ H s)(hg:Gl X x)(hm:X.mg x=some u)(h:Q u s)
  (hd:(x==("__debug__" : Str))=false:=by decide):ai (aj X.prog X.w) X.A (eval (.Name x pos) X.env) Q E s:=
 Calls.Name_function_global I.ok.kind hg (Calls.loadGlobal_global (by rw[I.ok.glob];exact I.mod.glob.keeps I.bk) hm h) hd
theorem fj{E:ae->af->Prop}{pins:List (Addr×Obj)}{s:af}{σ:St}{H:Hp}{x:Str}{u:ae}{pos:Pos}{Q:ae->af->Prop}(I:Inv X pins σ H s)(hg:Gl X x)(hm:X.mg x=none)(hv:bG x=some u)(h:Q u s)
  (hn:x≠"__name__":=by decide) (hd:(x==("__debug__" : Str))=false:=by decide):ai (aj X.prog X.w) X.A (eval (.Name x pos) X.env) Q E s:=by
 obtain⟨mb,h1,h2⟩:=I.mod.blt;exact Calls.Name_function_global I.ok.kind hg (Calls.loadGlobal_builtin (by rw[I.ok.glob];exact I.mod.glob.keeps I.bk) hm (by rw[I.ok.blt];exact h1.keeps I.bk) ((h2 x hn).trans hv) h) hd
theorem ll{x:Str}{v:V}{u:ae}{pos:Pos}(hg:Gl X x)(hm:X.mg x=some u)(r:RelV v u)(hd:(x==("__debug__" : Str))=false:=by decide):PE X (.Name x pos) (tC v):=
 λ_ _ _ H _ I h=>gQ I hg hm ⟨v,H,I,r,h⟩ hd
theorem CM{x:Str}{v:V}{u:ae}{pos:Pos}(hg:Gl X x)(hm:X.mg x=none)(hv:bG x=some u)(r:RelV v u)(hn:x≠"__name__":=by decide)(hd:(x==("__debug__" : Str))=false:=by decide):PE X (.Name x pos) (tC v):=
 λ_ _ _ H _ I h=>fj I hg hm hv ⟨v,H,I,r,h⟩ hn hd
variable{a b:Expr}{ta tb:TE}{pos:Pos}
variable{tA tB':TT}{rest:List Expr}
noncomputable def wq(t u:TT):TT:=λσ H Q=>t σ H λc H1=>if c=true then u σ H1 Q else Q false H1
noncomputable def tOr(t u:TT):TT:=λσ H Q=>t σ H λc H1=>if c=true then Q true H1 else u σ H1 Q
noncomputable def Cv(t:TT):TT:=λσ H Q=>t σ H λc H1=>Q (!c) H1
theorem En(ha:PT X a tA):PW X (.BoolOp .And [a] pos) tA:=by
 intro wh pins s σ H Q I h;refine isTrue_and (thn (ha pins s σ H Q I h) λc s1 e=>?_);cases c with
 |true=>exact isTrue_and_nil e
 |false=>exact e
theorem ES(ha:PT X a tA):PW X (.BoolOp .Or [a] pos) tA:=by
 intro wh pins s σ H Q I h;refine isTrue_or (thn (ha pins s σ H Q I h) λc s1 e=>?_);cases c with
 |false=>exact isTrue_or_nil e
 |true=>exact e
theorem BF(ha:PT X a tA)(hb:PW X (.BoolOp .And (b::rest) pos) tB'):PW X (.BoolOp .And (a::b::rest) pos) (wq tA tB'):=by
 intro wh pins s σ H Q I h;refine isTrue_and (thn (ha pins s σ H _ I h) λc s1 ⟨H1,I1,q1⟩=>?_);cases c with
 |true=>exact hb wh pins s1 σ H1 Q I1 q1
 |false=>exact⟨H1,I1,q1⟩
theorem ur(ha:PT X a tA)(hb:PW X (.BoolOp .Or (b::rest) pos) tB'):PW X (.BoolOp .Or (a::b::rest) pos) (tOr tA tB'):=by
 intro wh pins s σ H Q I h;refine isTrue_or (thn (ha pins s σ H _ I h) λc s1 ⟨H1,I1,q1⟩=>?_);cases c with
 |true=>exact⟨H1,I1,q1⟩
 |false=>exact hb wh pins s1 σ H1 Q I1 q1
theorem vT(ha:PT X a tA):PT X (.UnaryOp .Not a pos) (Cv tA):=by
 intro pins s σ H Q I h;exact isTrue_not (ha pins s σ H (λc H1=>Q (!c) H1) I h)
noncomputable def xt(ta tb:TE):TE:=λσ H Q=>ta σ H λx H1=>∃c,x=.bl c/\if c=true then tb σ H1 Q else Q (.bl false) H1
noncomputable def ET(ta tb:TE):TE:=λσ H Q=>ta σ H λx H1=>∃c,x=.bl c/\if c=true then Q (.bl true) H1 else tb σ H1 Q
noncomputable def wR(ta:TE):TE:=λσ H Q=>ta σ H λx H1=>∃c,x=.bl c/\Q (.bl (!c)) H1
theorem tV{op}{t:TE}(h:PE X a t):PE X (.BoolOp op [a] pos) t:=λpins s σ H Q I hw=>BoolOp_one (h pins s σ H Q I hw)
theorem x_(ha:PE X a ta)(hb:PE X (.BoolOp .And (b::rest) pos) tb):PE X (.BoolOp .And (a::b::rest) pos) (xt ta tb):=by
 intro pins s σ H Q I h;refine BoolOp_and (thn (ha pins s σ H _ I h) λv s1 ⟨x,H1,I1,r1,q1⟩=>?_);obtain⟨c,rfl,q1⟩:=q1;cases r1;refine bJ ?_;cases c with
 |true=>exact hb pins s1 σ H1 Q I1 q1
 |false=>exact⟨.bl false,H1,I1,rfl,q1⟩
theorem vF(ha:PE X a ta)(hb:PE X (.BoolOp .Or (b::rest) pos) tb):PE X (.BoolOp .Or (a::b::rest) pos) (ET ta tb):=by
 intro pins s σ H Q I h;refine BoolOp_or (thn (ha pins s σ H _ I h) λv s1 ⟨x,H1,I1,r1,q1⟩=>?_);obtain⟨c,rfl,q1⟩:=q1;cases r1;refine bJ ?_;cases c with
 |false=>exact hb pins s1 σ H1 Q I1 q1
 |true=>exact⟨.bl true,H1,I1,rfl,q1⟩
theorem AW(ha:PE X a ta):PE X (.UnaryOp .Not a pos) (wR ta):=by
 intro pins s σ H Q I h;refine UnaryOp_ (thn (ha pins s σ H _ I h) λv s1 ⟨x,H1,I1,r1,q1⟩=>?_);obtain⟨c,rfl,q1⟩:=q1;cases r1;exact not_of (bJ ⟨.bl (!c),H1,I1,rfl,q1⟩)
noncomputable def tIf(t:TT)(ta tb:TE):TE:=λσ H Q=>t σ H λc H1=>if c=true then ta σ H1 Q else tb σ H1 Q
theorem EJ{c:Expr}(hc:PT X c tA)(ha:PE X a ta)(hb:PE X b tb):PE X (.IfExp c a b pos) (tIf tA ta tb):=by
 intro pins s σ H Q I h;refine wpAny_IfExp (thn (hc pins s σ H _ I h) λd s1 ⟨H1,I1,q1⟩=>?_);cases d with
 |true=>exact ha pins s1 σ H1 Q I1 q1
 |false=>exact hb pins s1 σ H1 Q I1 q1
end
noncomputable def SqL(K:aq)(H:Hp)(a:Addr)(xs:List V):Prop:=
 Rd H a (.lst xs) \/
  ∃(o:Obj) (its:Array ae) (n:Nat),K.lookup a=some o/\o.cls=.type "list"/\o.dict=none/\o.data=.seq its n/\its.size<=aH/\Vals xs its.toList
noncomputable def SqT(K:aq)(H:Hp)(a:Addr)(xs:List V):Prop:=
 Rd H a (.tup xs) \/
  ∃(o:Obj) (its:Array ae) (n:Nat),K.lookup a=some o/\o.cls=.type "tuple"/\o.data=.seq its n/\its.size<=aH/\Vals xs its.toList
noncomputable def Cn:ae->Option V
 | .none=>some .non
 | .bool b=>some (.bl b)
 | .int i _=>some (.int i)
 | .str x _=>some (.str x)
 | .bytes b _=>some (.byt b)
 | .float b _=>some (.flt b)
 | .ref a=>some (.ref a)
 | .type n=>some (.ty n)
 |_=>none
theorem RelV.abs{x:V}{u:ae}(r:RelV x u):Cn u=some x:=by
 cases x with
 |non=>cases r;rfl
 |bl _=>cases r;rfl
 |int _=>obtain⟨t,rfl⟩:=r;rfl
 |str _=>obtain⟨t,rfl⟩:=r;rfl
 |byt _=>obtain⟨t,rfl⟩:=r;rfl
 |flt _=>obtain⟨t,rfl⟩:=r;rfl
 |ref _=>cases r;rfl
 |ty _=>cases r;rfl
theorem RelV.inj{x y:V}{u:ae}(r:RelV x u)(q:RelV y u):x=y:=bB (r.abs.symm.trans q.abs)
theorem Vals.inj{xs ys:List V}{us:List ae}(h:Vals xs us)(h':Vals ys us):xs=ys:=by
 induction h generalizing ys with
 |nil=>cases h';rfl
 |cons r t ih=>cases h' with
  |cons r' t'=>rw[r.inj r',ih t']
section
variable{X:Cx}{pins:List (Addr×Obj)}{σ:St}{H:Hp}{s:af}{a:Addr}{xs ys:List V}
theorem SqL.of{K:aq}(h:H a=some (.lst xs)):SqL K H a xs:=.inl (.inl h)
theorem SqT.of{K:aq}(h:H a=some (.tup xs)):SqT K H a xs:=.inl (.inl h)
theorem Inv.list(I:Inv X pins σ H s)(h:SqL X.K H a xs):∃its:List ae,Vals xs its/\PlainL s.heap a its.toArray/\xs.length<=sizeLine:=by
 rcases h with h|⟨o,its,n,hk,hc,hd,hs,hz,r⟩
 ·obtain⟨z,its,n,r,e⟩:=h.ok I.hok;exact⟨its,r,⟨_,n,e,rfl,rfl,rfl⟩,z⟩
 ·refine⟨its.toList,r,⟨o,n,I.kIn a o hk,hc,hd,by simpa using hs⟩,?_⟩;have e:=r.length;simp only[Array.length_toList]at e;lia
theorem Inv.tuple(I:Inv X pins σ H s)(h:SqT X.K H a xs):∃its:List ae,Vals xs its/\IsTup s.heap a its.toArray/\xs.length<=sizeLine:=by
 rcases h with h|⟨o,its,n,hk,hc,hs,hz,r⟩
 ·obtain⟨z,its,r,p⟩:=h.ok I.hok;exact⟨its,r,p,z⟩
 ·refine⟨its.toList,r,⟨o,I.kIn a o hk,hc,n,by simpa using hs⟩,?_⟩;have e:=r.length;simp only[Array.length_toList]at e;lia
theorem Inv.list_inj(I:Inv X pins σ H s)(h:SqL X.K H a xs)(h':SqL X.K H a ys):xs=ys:=by
 obtain⟨its,r,⟨o,n,e,_,_,d⟩,_⟩:=I.list h;obtain⟨its',r',⟨o',n',e',_,_,d'⟩,_⟩:=I.list h';rw[e]at e';cases e';rw[d]at d';injection d' with d1 _
 have:its=its':=by simpa using congrArg Array.toList d1
 subst this;exact r.inj r'
theorem Inv.tuple_inj(I:Inv X pins σ H s)(h:SqT X.K H a xs)(h':SqT X.K H a ys):xs=ys:=by
 obtain⟨its,r,⟨o,e,_,n,d⟩,_⟩:=I.tuple h;obtain⟨its',r',⟨o',e',_,n',d'⟩,_⟩:=I.tuple h';rw[e]at e';cases e';rw[d]at d';injection d' with d1 _
 have:its=its':=by simpa using congrArg Array.toList d1
 subst this;exact r.inj r'
end
abbrev Cx.wish(X:Cx)(E:ae->af->Prop):Cx:={X with xe:=E}
abbrev Cx.nox(X:Cx):Cx:=X.wish λ_ _=>False
theorem Cx.Ok.wish{X:Cx}(ok:X.Ok)(E:ae->af->Prop):(X.wish E).Ok:=
 ⟨ok.mod,ok.kind,ok.glob,ok.blt,ok.above,ok.inj,ok.has,ok.cab,ok.hd,ok.frames,ok.stk,ok.exf,ok.bs,ok.bsz,ok.noex,ok.exfs,ok.funs,ok.frf⟩
theorem Cx.Ok.unwish{X:Cx}{E:ae->af->Prop}(ok:(X.wish E).Ok):X.Ok:=
 ⟨ok.mod,ok.kind,ok.glob,ok.blt,ok.above,ok.inj,ok.has,ok.cab,ok.hd,ok.frames,ok.stk,ok.exf,ok.bs,ok.bsz,ok.noex,ok.exfs,ok.funs,ok.frf⟩
section
variable{X:Cx}{pins:List (Addr×Obj)}{σ:St}{H:Hp}{s:af}{E:ae->af->Prop}
theorem Inv.wish(I:Inv X pins σ H s)(E:ae->af->Prop):Inv (X.wish E) pins σ H s:=⟨I.ok.wish E,I.os,I.bare,I.base,I.loc,I.cell,I.free,I.freeC,I.pin,I.hok,I.len⟩
theorem Inv.unwish(I:Inv (X.wish E) pins σ H s):Inv X pins σ H s:=⟨I.ok.unwish,I.os,I.bare,I.base,I.loc,I.cell,I.free,I.freeC,I.pin,I.hok,I.len⟩
theorem SP.unwish{D:Ends}{f:Flow}{s':af}(h:SP (X.wish E) pins D f s'):SP X pins D f s':=by
 cases f with
 |next=>obtain⟨σ',H',I,q⟩:=h;exact⟨σ',H',I.unwish,q⟩
 |brk=>obtain⟨σ',H',I,q⟩:=h;exact⟨σ',H',I.unwish,q⟩
 |cont=>obtain⟨σ',H',I,q⟩:=h;exact⟨σ',H',I.unwish,q⟩
 |ret u=>obtain⟨v,σ',H',I,r,q⟩:=h;exact⟨v,σ',H',I.unwish,r,q⟩
end
section
variable{X:Cx}{st:Stmt}{rest:List Stmt}{t u:TS}{e:Expr}{te:TE}{pos:Pos}
noncomputable def iq:TS:=λD σ H=>D.nx σ H
noncomputable def El(t u:TS):TS:=λD σ H=>t {D with nx:=u D} σ H
theorem xG:PSs X [] iq:=λ_ _ σ H _ I h=>wpAny_execs_nil ⟨σ,H,I,h⟩
theorem B_(h1:PS X st t)(h2:PSs X rest u):PSs X (st::rest) (El t u):=by
 intro pins s σ H D I h;refine wpAny_execs_cons (thn (h1 pins s σ H {D with nx:=u D} I h) λf s1 q=>?_);cases f with
 |next=>
  obtain⟨σ',H',I',q⟩:=q;exact h2 pins s1 σ' H' D I' q
 |ret v=>exact q
 |brk=>exact q
 |cont=>exact q
noncomputable def sN:TS:=λD σ H=>D.bk σ H
noncomputable def sO:TS:=λD σ H=>D.ct σ H
theorem CK:PS X (.Pass pos) iq:=λ_ _ σ H _ I h=>wpAny_Pass ⟨σ,H,I,h⟩
theorem tJ:PS X (.Break pos) sN:=λ_ _ σ H _ I h=>wpAny_Break ⟨σ,H,I,h⟩
theorem uJ:PS X (.Continue pos) sO:=λ_ _ σ H _ I h=>wpAny_Continue ⟨σ,H,I,h⟩
theorem Inv.quiet{pins:List (Addr×Obj)}{σ:St}{H:Hp}{s:af}(I:Inv X pins σ H s):interactive X.env=false:=by simp[interactive,I.ok.kind]
noncomputable def yy(te:TE):TS:=λD σ H=>te σ H λ_ H1=>D.nx σ H1
theorem ju(he:PE X e te)(hs:swapsWith e none pos.line X.env=pure false:=by rfl):PS X (.Expr e pos) (yy te):=by
 intro pins s σ H D I h;exact wpAny_Expr_any (thn (he pins s σ H _ I h) λv s1 ⟨x,H1,I1,r1,q1⟩=>⟨σ,H1,I1,q1⟩) I.quiet hs
noncomputable def A6(te:TE):TS:=λD σ H=>te σ H D.rt
theorem la(he:PE X e te):PS X (.Return (some e) pos) (A6 te):=by
 intro pins s σ H D I h;exact wpAny_Return_some (thn (he pins s σ H _ I h) λv s1 ⟨x,H1,I1,r1,q1⟩=>⟨x,σ,H1,I1,r1,q1⟩)
noncomputable def DR:TS:=λD _ H=>D.rt .non H
theorem wc:PS X (.Return none pos) DR:=λ_ _ σ H _ I h=>wpAny_Return_none ⟨.non,σ,H,I,rfl,h⟩
noncomputable def jg(c:TT)(t u:TS):TS:=λD σ H=>c σ H λb H1=>if b=true then t D σ H1 else u D σ H1
theorem y8{c:Expr}{a b:List Stmt}{tc:TT}(hc:PT X c tc)(ha:PSs X a t)(hb:PSs X b u):PS X (.If c a b pos) (jg tc t u):=by
 intro pins s σ H D I h;refine wpAny_If (thn (hc pins s σ H _ I h) λd s1 ⟨H1,I1,q1⟩=>?_);cases d with
 |true=>exact ha pins s1 σ H1 D I1 q1
 |false=>exact hb pins s1 σ H1 D I1 q1
end
abbrev TG:=V->St->Hp->(St->Hp->Prop)->Prop
abbrev TGs:=List V->St->Hp->(St->Hp->Prop)->Prop
noncomputable def PG(X:Cx)(target:Expr)(t:TG):Prop:=
 ∀(pins:List (Addr×Obj)) (s:af) (σ:St) (H:Hp) (v:V) (u:ae) (Q:St->Hp->Prop),Inv X pins σ H s->RelV v u->t v σ H Q ->
  ai (aj X.prog X.w) X.A (assign target X.env u) (λ_ s'=>∃σ' H',Inv X pins σ' H' s'/\Q σ' H') X.xe s
noncomputable def PGs(X:Cx)(ts:List Expr)(t:TGs):Prop:=
 ∀(pins:List (Addr×Obj)) (s:af) (σ:St) (H:Hp) (vs:List V) (us:List ae) (Q:St->Hp->Prop),Inv X pins σ H s->Vals vs us->t vs σ H Q ->
  ai (aj X.prog X.w) X.A (assignInOrder ((assignEach ts X.env).map (·.2)) us) (λ_ s'=>∃σ' H',Inv X pins σ' H' s'/\Q σ' H') X.xe s
abbrev kh:=V->V->V->Hp->(Hp->Prop)->Prop
noncomputable def gk(X:Cx)(t:kh):Prop:=
 ∀(pins:List (Addr×Obj)) (s:af) (σ:St) (H:Hp) (o i v:V) (ov iv u:ae) (Q:Hp->Prop),Inv X pins σ H s->RelV o ov->RelV i iv->RelV v u->t o i v H Q ->
  ai (aj X.prog X.w) X.A (setItem ov iv u) (λ_ s'=>∃H',Inv X pins σ H' s'/\Q H') X.xe s
section
variable{X:Cx}{pos:Pos}
noncomputable def fI(i:Nat):TG:=λv σ H Q=>Q (σ.set i (some v)) H
theorem Bb{i:Nat}{x:Str}(hN:X.N.Nodup)(hi:X.N[i]? = some x)(hx:Loc X.env.scope x)(hf:X.fn x=true\/X.env.scope.names.lookup x=some .local:=by first|exact .inl rfl|exact .inr rfl|assumption):PG X (.Name x pos) (fI i):=by
 intro pins s σ H v u Q I r h;exact wpAny_assign_Name (lW I hN hi hx r (λs' I'=>⟨_,H,I',h⟩) hf)
noncomputable def rB:TGs:=λvs σ H Q=>vs=[]/\Q σ H
noncomputable def mU(t:TG)(u:TGs):TGs:=λvs σ H Q=>∃v r,vs=v::r/\t v σ H λσ' H'=>u r σ' H' Q
theorem vG:PGs X [] rB:=by
 intro pins s σ H vs us Q I r h;obtain⟨e,h⟩:=h;subst e;cases r;exact assignInOrder_nil ⟨σ,H,I,h⟩
theorem Bd{e:Expr}{es:List Expr}{t:TG}{u:TGs}(h1:PG X e t)(h2:PGs X es u)
  (hs:(assignEach (e::es) X.env).map (·.2)=assign e X.env::(assignEach es X.env).map (·.2):=by rfl):PGs X (e::es) (mU t u):=by
 intro pins s σ H vs us Q I r h;obtain⟨v,vr,e1,h⟩:=h;subst e1;cases r with
 |cons r rr=>
  rw[hs];refine assignInOrder_cons (thn (h1 pins s σ H _ _ _ I r h) λ_ s1 ⟨σ1,H1,I1,q1⟩=>?_);exact h2 pins s1 σ1 H1 _ _ Q I1 rr q1
noncomputable def o5(K:aq)(n:Nat)(t:TGs):TG:=λv σ H Q=>∃a xs,v=.ref a/\SqT K H a xs/\xs.length=n/\t xs σ H Q
theorem ug{es:List Expr}{k:Nat}{t:TGs}{n:Nat}(hc:X.calm=true)(h:PGs X es t)
  (hn:(assignEach es X.env).length=n:=by rfl) (hst:(assignEach es X.env).findIdx? (·.1)=none:=by rfl):PG X (.Tuple es k pos) (o5 X.K n t):=by
 intro pins s σ H v u Q I r hw;obtain⟨a,xs,e1,hq,hl,hw⟩:=hw;subst e1;cases r;obtain⟨its,rv,ht,hz⟩:=I.tuple hq;refine assign_Tuple_tuple (I.ok.hd hc) ht (by simp[hn,<-hl,rv.length]) hst λh' hx=>?_
 have I1:Inv X pins σ H {s with heap:=h'}:=I.kept (t':=s.toks) λb o e=>hx b o (aU (aG e)) e
 exact h pins _ σ H xs _ Q I1 (by simpa using rv) hw
noncomputable def r_(to ti:TE)(t:kh):TG:=λv σ H Q=>to σ H λo H1=>ti σ H1 λi H2=>t o i v H2 λH3=>Q σ H3
theorem Dw{o i:Expr}{to ti:TE}{t:kh}(ho:PE X o to)(hi:PE X i ti)(hs:gk X t)
  (ha:∀v,assign (.Subscript o i pos) X.env v=(do
   let ov <-holding [v] (eval o X.env)
   let iv <-holding [v,ov] (eval i X.env)
   standAt pos
   holding [v,ov,iv] (setItem ov iv v)
   release [v,ov,iv] []):=by intro _;rfl):PG X (.Subscript o i pos) (r_ to ti t):=by
 intro pins s σ H v u Q I r h;rw[ha];refine ah (wpAny_holding (thn (ho pins s σ H _ I h) λov s1 ⟨x,H1,I1,r1,q1⟩=>?_));refine ah (wpAny_holding (thn (hi pins s1 σ H1 _ I1 q1) λiv s2 ⟨y,H2,I2,r2,q2⟩=>?_));refine ah (wpAny_standAt (ah (wpAny_holding (thn (hs pins s2 σ H2 x y v ov iv u _ I2 r1 r2 r q2) λ_ s3 ⟨H3,I3,q3⟩=>?_))));exact wpAny_release ⟨σ,H3,I3,q3⟩
noncomputable def jI(te:TE)(g:TG):TS:=λD σ H=>te σ H λx H1=>g x σ H1 D.nx
theorem nv{tg e:Expr}{te:TE}{g:TG}(he:PE X e te)(hg:PG X tg g)(hs:swapsWithSole [tg] e pos.line X.env=pure false:=by rfl)(hw:swappedStores [tg] e X.env=pure none:=by rfl)
  (h1:(assignEach [tg] X.env).map (·.2)=[assign tg X.env]:=by rfl):PS X (.Assign [tg] e pos) (jI te g):=by
 intro pins s σ H D I h;refine wpAny_Assign_stores (thn (he pins s σ H _ I h) λv s1 ⟨x,H1,I1,r1,q1⟩=>?_) hs hw;rw[h1];exact thn (hg pins s1 σ H1 x v _ I1 r1 q1) λ_ s2 q=>q
theorem lN{i:Nat}{x:Str}{e:Expr}{te:TE}{pos':Pos}(hN:X.N.Nodup)(hi:X.N[i]? = some x)(hx:Loc X.env.scope x)(he:PE X e te)(hs:swapsWith e (some (.Name x pos')) pos.line X.env=pure false:=by rfl)(hf:X.fn x=true\/X.env.scope.names.lookup x=some .local:=by first|exact .inl rfl|exact .inr rfl|assumption) :
  PS X (.Assign [.Name x pos'] e pos) (jI te (fI i)):=by
 intro pins s σ H D I h;refine wpAny_Assign_Name (thn (he pins s σ H _ I h) λv s1 ⟨y,H1,I1,r1,q1⟩=>?_) hs;exact lW I1 hN hi hx r1 (λs2 I2=>⟨_,H1,I2,q1⟩) hf
end
section
variable{X:Cx}{pos:Pos}
noncomputable def uM(c:TT)(tb:TS):TS:=λD σ H=>∃W:Nat->St->Hp->Prop,(∃m,W m σ H)/\∀m σ H,W m σ H ->
 c σ H λb H1=>if b=true then ∃N:St->Hp->Prop,(∀σ' H',N σ' H'->∃m',m'<m/\W m' σ' H')/\tb {D with nx:=N,ct:=N,bk:=D.nx} σ H1 else D.nx σ H1
theorem yb{c:Expr}{body:List Stmt}{tc:TT}{tb:TS}(hp:PassesOwn (aj X.prog X.w) X.A X.env X.xe)(hc:PT X c tc)(hb:PSs X body tb):PS X (.While c body [] pos) (uM tc tb):=by
 intro pins s σ H D I h;obtain⟨W,⟨m0,w0⟩,turn⟩:=h;refine wpAny_While (codeAny_whileLoop (λn s'=>∃σ' H',Inv X pins σ' H' s'/\W n σ' H') ?_ m0 ⟨σ,H,I,w0⟩);rintro n s1 ⟨σ1,H1,I1,w1⟩;refine wpAny_passesOwn hp (thn (hc pins s1 σ1 H1 _ I1 (turn n σ1 H1 w1)) λb s2 ⟨H2,I2,q2⟩=>?_);cases b with
 |true=>
  obtain⟨N,hN,q2⟩:=q2;rw[if_pos rfl];refine wpAny_passesOwn hp (thn (hb pins s2 σ1 H2 _ I2 q2) λf s3 q3=>?_);cases f with
  |next=>
   obtain⟨σ3,H3,I3,n3⟩:=q3;obtain⟨m',hm,w3⟩:=hN σ3 H3 n3;exact⟨m',hm,σ3,H3,I3,w3⟩
  |cont=>
   obtain⟨σ3,H3,I3,n3⟩:=q3;obtain⟨m',hm,w3⟩:=hN σ3 H3 n3;exact⟨m',hm,σ3,H3,I3,w3⟩
  |brk=>exact q3
  |ret v=>exact q3
 |false=>
  rw[if_neg bI];exact wpAny_execs_nil ⟨σ1,H2,I2,q2⟩
end
structure It where
 go:Nat->Hp->Prop
 yld:Nat->Hp->V->Hp->Prop
 stop:Nat->Hp->Prop
noncomputable def dq(X:Cx)(pins:List (Addr×Obj))(H:Hp)(b:Addr):Prop:=
 H b=none/\b≠X.env.locals/\b∉X.fs/\(b∈X.ex\/X.s₀.heap.objs.size<=b)/\(∀x c,X.env.cells.lookup x=some c->c≠b)/\∀p∈X.pn++pins,p.1≠b
theorem Inv.fpOk{X:Cx}{pins:List (Addr×Obj)}{σ:St}{H H':Hp}{s:af}{b:Addr}(I:Inv X pins σ H s)(hb:s.heap.objs.size<=b)(hn:H' b=none):dq X pins H' b:=by
 refine⟨hn,Nat.ne_of_gt (bc I.lt hb),I.nofs hb,.inr (a_ I.sz hb),λx c e z=>?_,λp hp z=>?_⟩
 ·obtain⟨v,q⟩:=I.cell x c e;exact absurd (bc q.lt (by rw[z];exact hb)) (br _)
 ·exact absurd (bc (aG (I.pin p hp).1) (by rw[z];exact hb)) (br _)
structure Turn(P:aw)(w:au)(K:aq)(tg:Expr)(J:It)(fp:List Addr)(it:Addr)(tn:Nat->Heap->Prop):Prop where
 mem:it∈fp
 obj:∀i h,tn i h->∀b∈fp,∃o,h.get? b=some o/\∀v,o.data≠.cell v
 keep:∀i h h',tn i h->(∀b∈fp,∀o,h.get? b=some o->h'.get? b=some o)->tn i h'
 item:∀(X:Cx),X.prog=P->X.w=w->X.K=K->X.calm=true->∀(i:Nat) (pins:List (Addr×Obj)) (s:af) (σ:St) (H:Hp) (E:ae->af->Prop),Inv X pins σ H s->(∀b∈fp,dq X pins H b)->tn i s.heap->J.go i H ->
  ai (aj P w) X.A (pyNext (.ref it)) (λr s1=>∃u,r=some u /\
   ai (aj P w) X.A (letOwnedTupleGo tg (.ref it) u) (λ_ s2=>∃x H',Inv X pins σ H' s2/\RelV x u/\J.yld i H x H'/\tn (i+1) s2.heap/\∀b∈fp,H' b=none) E s1) E s
 done:∀(X:Cx),X.prog=P->X.w=w->X.K=K->X.calm=true->∀(i:Nat) (pins:List (Addr×Obj)) (s:af) (σ:St) (H:Hp) (E:ae->af->Prop),Inv X pins σ H s->(∀b∈fp,dq X pins H b)->tn i s.heap->J.stop i H ->
  ai (aj P w) X.A (pyNext (.ref it)) (λr s1=>r=none/\Inv X pins σ H s1) E s
 self:∀(A:ax) (i:Nat) (s:af) (Q:ae->af->Prop) (E:ae->af->Prop),tn i s.heap->Q (.ref it) s->ai (aj P w) A (pyIter (.ref it)) Q E s
abbrev TI:=St->Hp->(It->Hp->Prop)->Prop
noncomputable def PIE(X:Cx)(pins:List (Addr×Obj))(σ:St)(tg:Expr)(R:It->Hp->Prop)(itv:ae)(s2:af):Prop:=
 ∃(it:Addr) (fp:List Addr) (tn:Nat->Heap->Prop) (J:It) (H':Hp),itv=.ref it/\Inv X pins σ H' s2/\Turn X.prog X.w X.K tg J fp it tn/\tn 0 s2.heap/\(∀b∈fp,dq X pins H' b)/\R J H'
noncomputable def PI(X:Cx)(tg iter:Expr)(wi:TI):Prop:=
 ∀(pins:List (Addr×Obj)) (s:af) (σ:St) (H:Hp) (R:It->Hp->Prop),Inv X pins σ H s->wi σ H R ->
  ai (aj X.prog X.w) X.A (eval iter X.env) (λv s1=>ai (aj X.prog X.w) X.A (pyIter v) (PIE X pins σ tg R) X.xe s1) X.xe s
theorem jk{M:Model}{A:ax}{E:ae->af->Prop}{s:af}{tg:Expr}{it:Addr}{u:ae}{o:Obj}{n:String}{vs:Array ae}{Q:Unit->af->Prop}(ho:s.heap.get? it=some o)(hc:o.cls=.type n)(hd:o.data=.fields vs)
  (hn:["enumerate","zip","dict_itemiterator","dict_reverseitemiterator","odict_iterator","itertools.zip_longest","itertools.pairwise"].contains n=false) (hQ:Q () s):ai M A (letOwnedTupleGo tg (.ref it) u) Q E s:=by
 unfold letOwnedTupleGo;cases tg<;>first
  |exact aC hQ
  | (cases u<;>first
    |exact aC hQ
    | (refine ah (wpAny_load ho ?_)
       rw[hc,hd];show ai M A (if (["enumerate","zip","dict_itemiterator","dict_reverseitemiterator","odict_iterator","itertools.zip_longest","itertools.pairwise"].contains n&&vs[0]? == some (rawInt _))=true then _ else _) Q E s;rw[if_neg (by intro h;rw[hn,Bool.false_and]at h;cases h)];exact aC hQ))
noncomputable def Itl(K:aq)(a:Addr):It:=
 ⟨λi H=>∃xs x,SqL K H a xs/\xs[i]? = some x,λi H x H'=>H'=H/\∀xs,SqL K H a xs->xs[i]? = some x,λi H=>∃xs,SqL K H a xs/\xs.length<=i⟩
noncomputable def Itt(K:aq)(a:Addr):It:=
 ⟨λi H=>∃xs x,SqT K H a xs/\xs[i]? = some x,λi H x H'=>H'=H/\∀xs,SqT K H a xs->xs[i]? = some x,λi H=>∃xs,SqT K H a xs/\xs.length<=i⟩
noncomputable def Itr(lo:Int)(n:Nat):It:=⟨λi _=>i<n,λi H x H'=>H'=H/\x=.int (lo+i),λi _=>n<=i⟩
theorem y6{P:aw}{w:au}{K:aq}{tg:Expr}(a it:Addr):Turn P w K tg (Itl K a) [it] it (λi h=>h.IsListIter it a i) where
 mem:=by simp
 obj:=λi h st b hb=>by
  have e:b=it:=by simpa using hb
  subst e;obtain⟨o,e,c,d⟩:=st;exact⟨o,e,λv z=>by rw[d]at z;cases z⟩
 keep:=λi h h' st k=>st.at λo e=>k it (by simp) o e
 item:=by
  intro X hP hw hK hc i pins s σ H E I hf st hg;subst hP hw hK;obtain⟨xs,x,hq,hx⟩:=hg;obtain⟨its,rv,p,hz⟩:=I.list hq;obtain⟨u,hu,ru⟩:=rv.get hx;obtain⟨f0,f1,f2,f3,f4,f5⟩:=hf it (by simp);refine wpAny_pyNext_list_item st p.isList (x:=u) (by simpa using hu) λh' st' sb=>?_
  have I1:Inv X pins σ H {s with heap:=h'}:=I.turned (t':=s.toks) (λb o hb e=>(sb.2 b hb).trans e) f0 f1 f3 f4 f5;obtain⟨o,e,c,d⟩:=id st';exact⟨u,rfl,jk (s:={s with heap:=h'}) e c d (by decide) ⟨x,H,I1,ru,⟨rfl,λys hy=>by rw[I.list_inj hy hq];exact hx⟩,st',λb hb=>(hf b hb).1⟩⟩
 done:=by
  intro X hP hw hK hc i pins s σ H E I hf st hg;subst hP hw hK;obtain⟨xs,hq,hx⟩:=hg;obtain⟨its,rv,p,hz⟩:=I.list hq;obtain⟨f0,f1,f2,f3,f4,f5⟩:=hf it (by simp);have hl:=rv.length;exact wpAny_pyNext_list_end (I.ok.hd hc) st p.isList (by simp;lia) λh' eb=>⟨rfl,I.turned (t':=s.toks) (λb o hb e=>eb b o hb e) f0 f1 f3 f4 f5⟩
 self:=λ_ _ _ _ _ st h=>wpAny_pyIter_listiter st h
theorem BZ{P:aw}{w:au}{K:aq}{tg:Expr}(a it:Addr):Turn P w K tg (Itt K a) [it] it (λi h=>h.IsTupleIter it a i) where
 mem:=by simp
 obj:=λi h st b hb=>by
  have e:b=it:=by simpa using hb
  subst e;obtain⟨o,e,c,d⟩:=st;exact⟨o,e,λv z=>by rw[d]at z;cases z⟩
 keep:=λi h h' st k=>st.at λo e=>k it (by simp) o e
 item:=by
  intro X hP hw hK hc i pins s σ H E I hf st hg;subst hP hw hK;obtain⟨xs,x,hq,hx⟩:=hg;obtain⟨its,rv,p,hz⟩:=I.tuple hq;obtain⟨u,hu,ru⟩:=rv.get hx;obtain⟨f0,f1,f2,f3,f4,f5⟩:=hf it (by simp);refine wpAny_pyNext_tuple_item st (show s.heap.IsTuple a its.toArray from p) (x:=u) (by simpa using hu) λh' st' sb=>?_
  have I1:Inv X pins σ H {s with heap:=h'}:=I.turned (t':=s.toks) (λb o hb e=>(sb.2 b hb).trans e) f0 f1 f3 f4 f5;obtain⟨o,e,c,d⟩:=id st';exact⟨u,rfl,jk (s:={s with heap:=h'}) e c d (by decide) ⟨x,H,I1,ru,⟨rfl,λys hy=>by rw[I.tuple_inj hy hq];exact hx⟩,st',λb hb=>(hf b hb).1⟩⟩
 done:=by
  intro X hP hw hK hc i pins s σ H E I hf st hg;subst hP hw hK;obtain⟨xs,hq,hx⟩:=hg;obtain⟨its,rv,p,hz⟩:=I.tuple hq;obtain⟨f0,f1,f2,f3,f4,f5⟩:=hf it (by simp);have hl:=rv.length;exact wpAny_pyNext_tuple_end (I.ok.hd hc) st (show s.heap.IsTuple a its.toArray from p) (by simp;lia) λh' eb=>⟨rfl,I.turned (t':=s.toks) (λb o hb e=>eb b o hb e) f0 f1 f3 f4 f5⟩
 self:=λ_ _ _ _ _ st h=>wpAny_pyIter_tupleiter st h
theorem Cf{P:aw}{w:au}{K:aq}{tg:Expr}(it:Addr)(lo:Int)(n:Nat):Turn P w K tg (Itr lo n) [it] it (λi h=>IsRangeIter h it (lo+(i:Nat) * 1) ((n:Int)-(i:Nat)) 1) where
 mem:=by simp
 obj:=λi h st b hb=>by
  have e:b=it:=by simpa using hb
  subst e;exact⟨_,st,λv z=>by
   have z':Data.fields _=Data.cell v:=z;cases z'⟩
 keep:=λi h h' st k=>k it (by simp) _ st
 item:=by
  intro X hP hw hK hc i pins s σ H E I hf st hg;subst hP hw hK;obtain⟨f0,f1,f2,f3,f4,f5⟩:=hf it (by simp);have W:=Walks.range (prog:=X.prog) (w:=X.w) (I.ok.hd hc) it lo 1 n;refine W.item i s _ _ hg st λv h' tk hv st' kk=>?_
  obtain⟨t,rfl⟩:=hv;have I1:Inv X pins σ H {s with heap:=h',toks:=tk}:=I.turned (λb o hb e=>kk b o (by simpa using hb) e) f0 f1 f3 f4 f5;refine⟨_,rfl,jk (s:={s with heap:=h',toks:=tk}) (n:="range_iterator") st' rfl rfl (by decide) ⟨.int (lo+i),H,I1,⟨t,?_⟩,⟨rfl,rfl⟩,st',λb hb=>(hf b hb).1⟩⟩;rw[Int.mul_one]
 done:=by
  intro X hP hw hK hc i pins s σ H E I hf st hg;subst hP hw hK;obtain⟨f0,f1,f2,f3,f4,f5⟩:=hf it (by simp);exact wpAny_pyNext_range_end (I.ok.hd hc) st (by have:n<=i:=hg;lia) λh' eb=>⟨rfl,I.turned (t':=s.toks) (λb o hb e=>eb b o hb e) f0 f1 f3 f4 f5⟩
 self:=λ_ _ _ _ _ st h=>wpAny_pyIter_rangeiter st h
section
variable{X:Cx}{tg:Expr}
noncomputable def vi(K:aq)(tl:TE):TI:=λσ H R=>tl σ H λx H1=>∃a,x=.ref a/\(∃xs,SqL K H1 a xs)/\R (Itl K a) H1
noncomputable def Cb(K:aq)(tl:TE):TI:=λσ H R=>tl σ H λx H1=>∃a,x=.ref a/\(∃xs,SqT K H1 a xs)/\R (Itt K a) H1
theorem wF{l:Expr}{tl:TE}(hl:PE X l tl):PI X tg l (vi X.K tl):=by
 intro pins s σ H R I h;refine thn (hl pins s σ H _ I h) λv s1 ⟨x,H1,I1,r1,q1⟩=>?_
 obtain⟨a,e,⟨xs,hq⟩,q⟩:=q1;subst e;cases r1;obtain⟨its,rv,p,hz⟩:=I1.list hq;refine wpAny_pyIter_list p.isList ?_;refine⟨s1.heap.objs.size,[s1.heap.objs.size],_,_,H1,rfl,I1.kept (t':=s1.toks) λb o e=>Heap.get?_push_of_some _ e,y6 a _,⟨_,Heap.get?_push_size _ rfl,rfl,rfl⟩,λb hb=>?_,q⟩;have e:b=s1.heap.objs.size:=by simpa using hb
 subst e;exact I1.fpOk (ay _) (I1.hok.fresh (ay _))
theorem B8{l:Expr}{tl:TE}(hl:PE X l tl):PI X tg l (Cb X.K tl):=by
 intro pins s σ H R I h;refine thn (hl pins s σ H _ I h) λv s1 ⟨x,H1,I1,r1,q1⟩=>?_
 obtain⟨a,e,⟨xs,hq⟩,q⟩:=q1;subst e;cases r1;obtain⟨its,rv,p,hz⟩:=I1.tuple hq;refine wpAny_pyIter_tuple (show s1.heap.IsTuple a its.toArray from p) ?_;refine⟨s1.heap.objs.size,[s1.heap.objs.size],_,_,H1,rfl,I1.kept (t':=s1.toks) λb o e=>Heap.get?_push_of_some _ e,BZ a _,⟨_,Heap.get?_push_size _ rfl,rfl,rfl⟩,λb hb=>?_,q⟩;have e:b=s1.heap.objs.size:=by simpa using hb
 subst e;exact I1.fpOk (ay _) (I1.hok.fresh (ay _))
theorem nC{pins:List (Addr×Obj)}{σ:St}{H:Hp}{s:af}{R:It->Hp->Prop}{E:ae->af->Prop}{lo hi:Int}{t u v:Tok}{tk:Nat}(I:Inv X pins σ H s)(h1:-(2^62)<=lo)(h2:lo<2^62)(h3:-(2^62)<=hi)(h4:hi<2^62)
  (q:R (Itr lo (hi-lo).toNat) H):ai (aj X.prog X.w) X.A (pyIter (.ref s.heap.objs.size)) (PIE X pins σ tg R) E {s with heap:=s.heap.push {cls:=.type "range",data:=.fields #[.int lo t,.int hi u,.int 1 v]},toks:=tk}:=by
 refine wpAny_pyIter_range (IsRange.new ..) (small_one h1 h2 h3 h4) ?_;have I1:Inv X pins σ H {s with heap:=s.heap.push {cls:=.type "range",data:=.fields #[.int lo t,.int hi u,.int 1 v]},toks:=tk}:=I.kept λb o e=>Heap.get?_push_of_some _ e
 refine⟨(s.heap.push {cls:=.type "range",data:=.fields #[.int lo t,.int hi u,.int 1 v]}).objs.size,[(s.heap.push {cls:=.type "range",data:=.fields #[.int lo t,.int hi u,.int 1 v]}).objs.size],_,_,H,rfl,
  I1.kept (t':=tk) λb o e=>Heap.get?_push_of_some _ e,Cf _ lo (hi-lo).toNat,?_,λb hb=>?_,q⟩
 ·have e1:lo+((0:Nat):Int) * 1=lo:=by simp
  have e2:(((hi-lo).toNat:Nat):Int)-((0:Nat):Int)=Builtin.Range.rangeSize lo hi 1:=by rw[rangeSize_one];split<;>lia
  show IsRangeIter _ _ (lo+((0:Nat):Int) * 1) ((((hi-lo).toNat:Nat):Int)-((0:Nat):Int)) 1;rw[e1,e2];exact Heap.get?_push_size _ rfl
 ·have e:b=(s.heap.push {cls:=.type "range",data:=.fields #[.int lo t,.int hi u,.int 1 v]}).objs.size:=by simpa using hb
  subst e;exact I1.fpOk (ay _) (I1.hok.fresh (ay _))
noncomputable def BB(ta:TA):TI:=λσ H R=>ta σ H λvs H1=>∃j:Int,vs=[.int j]/\-(2^62)<=j/\j<2^62/\R (Itr 0 j.toNat) H1
noncomputable def yn(ta:TA):TI:=λσ H R=>ta σ H λvs H1=>∃i j:Int,vs=[.int i,.int j]/\(-(2^62)<=i/\i<2^62/\-(2^62)<=j/\j<2^62)/\R (Itr i (j-i).toNat) H1
theorem wJ{a:Expr}{ta:TA}{p pos:Pos}(hg:Gl X "range")(hm:X.mg "range" = none)(ha:PA X [a] ta)(hs:aL [a] X.env=[(false,eval a X.env)]:=by rfl):PI X tg (.Call (.Name "range" p) [a] [] pos) (BB ta):=by
 intro pins s σ H R I h;refine Call_ (fj I hg hm boot_range (ez (thn (ha pos pins s σ H _ I h) λus s1 ⟨vs,H1,I1,r1,q1⟩=>?_) hs rfl));obtain⟨j,e,q1,q2,q⟩:=q1;subst e;cases r1 with
 |cons r rr=>
  cases rr;obtain⟨t,rfl⟩:=r;exact call_range_1 (nC I1 (by lia) (by lia) q1 q2 (by simpa using q))
theorem CC{a b:Expr}{ta:TA}{p pos:Pos}(hg:Gl X "range")(hm:X.mg "range" = none)(ha:PA X [a,b] ta)(hs:aL [a,b] X.env=[(false,eval a X.env),(false,eval b X.env)]:=by rfl)(hs2:aL [b] X.env=[(false,eval b X.env)]:=by rfl) :
  PI X tg (.Call (.Name "range" p) [a,b] [] pos) (yn ta):=by
 intro pins s σ H R I h;refine Call_ (fj I hg hm boot_range (ez (thn (ha pos pins s σ H _ I h) λus s1 ⟨vs,H1,I1,r1,q1⟩=>?_) (by rw[hs,hs2]) (by rw[hs2];rfl)));obtain⟨i,j,e,⟨q1,q2,q3,q4⟩,q⟩:=q1;subst e;cases r1 with
 |cons r rr=>
  cases rr with
  |cons r' rr=>
   cases rr;obtain⟨t,rfl⟩:=r;obtain⟨t',rfl⟩:=r';exact call_range_2 (nC I1 q1 q2 q3 q4 q)
noncomputable def AX(wi:TI)(g:TG)(tb:TS):TS:=λD σ H=>wi σ H λJ H1=>∃W:Nat->Nat->St->Hp->Prop,(∃m,W 0 m σ H1)/\∀i m σ H,W i m σ H ->
 (J.stop i H/\D.nx σ H)\/(J.go i H/\∃N:St->Hp->Prop,(∀σ' H',N σ' H'->∃m',m'<m/\W (i+1) m' σ' H')/\∀x H',J.yld i H x H'->g x σ H' λσ2 H2=>tb {D with nx:=N,ct:=N,bk:=D.nx} σ2 H2)
noncomputable def ip(fp:List Addr)(h:Heap):List (Addr×Obj):=fp.filterMap λb=>(h.get? b).map λo=>(b,o)
theorem jK{fp:List Addr}{h:Heap}{b:Addr}{o:Obj}(hb:b∈fp)(e:h.get? b=some o):(b,o)∈ip fp h:=List.mem_filterMap.mpr ⟨b,hb,by rw[e];rfl⟩
theorem AZ{fp:List Addr}{h:Heap}{p:Addr×Obj}(hp:p∈ip fp h):p.1∈fp/\h.get? p.1=some p.2:=by
 obtain⟨b,hb,e⟩:=List.mem_filterMap.mp hp;cases q:h.get? b with
 |none=>rw[q]at e;cases e
 |some o=>
  rw[q]at e;have e':(b,o)=p:=bB e;subst e';exact⟨hb,q⟩
theorem Inv.pinned{pins:List (Addr×Obj)}{σ:St}{H:Hp}{s:af}{fp:List Addr}(I:Inv X pins σ H s)(hf:∀b∈fp,dq X pins H b)(ho:∀b∈fp,∃o,s.heap.get? b=some o/\∀v,o.data≠.cell v):Inv X (pins++ip fp s.heap) σ H s:=
 I.pins_of λp hp=>(List.mem_append.mp hp).elim (λz=>I.pin p (cG _ z)) λz=>by
  obtain⟨hb,e⟩:=AZ z;obtain⟨f0,f1,f2,_⟩:=hf p.1 hb;obtain⟨o,e',d⟩:=ho p.1 hb;rw[e]at e';cases e';exact⟨e,f0,f1,f2,d⟩
theorem Inv.unpinned{pins pl:List (Addr×Obj)}{σ:St}{H:Hp}{s:af}(I:Inv X (pins++pl) σ H s):Inv X pins σ H s:=I.pins_of λp hp=>I.pin p (cG _ (List.mem_append_left _ hp))
theorem Bz{iter:Expr}{body:List Stmt}{wi:TI}{g:TG}{tb:TS}{pos:Pos}(hp:PassesOwn (aj X.prog X.w) X.A X.env X.xe)(hc:X.calm=true)(hi:PI X tg iter wi)(hg:PG X tg g)(hb:PSs X body tb)
  (hs:∀x,foldedSetIterable iter X.env x=pure x:=by intro _;rfl):PS X (.For tg iter body [] pos) (AX wi g tb):=by
 intro pins s σ H D I h;refine wpAny_For (thn (hi pins s σ H _ I h) λv s1 h1=>thn h1 λitv s2 h2=>?_) hs;obtain⟨it,fp,tn,J,H2,e,I2,T,st2,f2,W,⟨m0,w0⟩,turn⟩:=h2;subst e
 -- what stays true of the iterator's objects through the loop
 have stat:∀{H':Hp},(∀b∈fp,H' b=none)->∀b∈fp,dq X pins H' b:=λhn b hb=>⟨hn b hb,(f2 b hb).2⟩
 refine codeAny_forLoop_any (λn s'=>∃i σ' H',Inv X pins σ' H' s'/\tn i s'.heap/\(∀b∈fp,H' b=none)/\W i n σ' H') ?_ m0 ⟨0,σ,H2,I2,st2,λb hb=>(f2 b hb).1,w0⟩;rintro n s3 ⟨i,σ3,H3,I3,st3,fr3,w3⟩;rcases turn i n σ3 H3 w3 with ⟨stop,qn⟩|⟨go,N,hN,step⟩
 ·refine wpAny_passesOwn hp (thn (T.done X rfl rfl rfl hc i pins s3 σ3 H3 X.xe I3 (stat fr3) st3 stop) λr s4 ⟨hr,I4⟩=>?_);subst hr;exact wpAny_execs_nil ⟨σ3,H3,I4,qn⟩
 ·refine wpAny_passesOwn hp (thn (T.item X rfl rfl rfl hc i pins s3 σ3 H3 X.xe I3 (stat fr3) st3 go) λr s4 ⟨u,hr,h4⟩=>?_);subst hr;refine wpAny_passesOwn hp (thn h4 λ_ s5 ⟨x,H5,I5,r5,y5,st5,fr5⟩=>?_);have I5':=I5.pinned (stat fr5) (T.obj _ _ st5);refine wpAny_passesOwn hp (thn (hg _ s5 σ3 H5 x u _ I5' r5 (step x H5 y5)) λ_ s6 ⟨σ6,H6,I6,q6⟩=>?_);refine wpAny_passesOwn hp (thn (hb _ s6 σ6 H6 _ I6 q6) λf s7 q7=>?_);have again:∀{σ7:St}{H7:Hp},Inv X (pins++ip fp s5.heap) σ7 H7 s7->N σ7 H7->∃m,m<n/\∃i σ' H',Inv X pins σ' H' s7/\tn i s7.heap/\(∀b∈fp,H' b=none)/\W i m σ' H':=λ{σ7 H7} I7 n7=>by
   obtain⟨m',hm,w7⟩:=hN σ7 H7 n7;refine⟨m',hm,i+1,σ7,H7,I7.unpinned,T.keep _ _ _ st5 λb hb o e=>(I7.pin (b,o) (cG _ (cG _ (jK hb e)))).1,λb hb=>?_,w7⟩;obtain⟨o,e,d⟩:=T.obj _ _ st5 b hb;exact(I7.pin (b,o) (cG _ (cG _ (jK hb e)))).2.1
  cases f with
  |next=>obtain⟨σ7,H7,I7,n7⟩:=q7;exact again I7 n7
  |cont=>obtain⟨σ7,H7,I7,n7⟩:=q7;exact again I7 n7
  |brk=>obtain⟨σ7,H7,I7,q7⟩:=q7;exact⟨σ7,H7,I7.unpinned,q7⟩
  |ret v=>obtain⟨x7,σ7,H7,I7,r7,q7⟩:=q7;exact⟨x7,σ7,H7,I7.unpinned,r7,q7⟩
end
abbrev R2:=V->V->Hp->VK->Prop
noncomputable def OpR(X:Cx)(f:ae->ae->Sem ae)(r:R2):Prop:=
 ∀(pins:List (Addr×Obj)) (s:af) (σ:St) (H:Hp) (x y:V) (v u:ae) (Q:VK),Inv X pins σ H s->RelV x v->RelV y u->r x y H Q ->
  ai (aj X.prog X.w) X.A (f v u) (EP X pins σ Q) X.xe s
noncomputable def UnR(X:Cx)(f:ae->Sem ae)(r:V->Hp->VK->Prop):Prop:=
 ∀(pins:List (Addr×Obj)) (s:af) (σ:St) (H:Hp) (x:V) (v:ae) (Q:VK),Inv X pins σ H s->RelV x v->r x H Q ->
  ai (aj X.prog X.w) X.A (f v) (EP X pins σ Q) X.xe s
noncomputable def zt(X:Cx)(f:ae)(r:List V->Hp->VK->Prop):Prop:=
 ∀(pins:List (Addr×Obj)) (s:af) (σ:St) (H:Hp) (xs:List V) (us:List ae) (Q:VK),Inv X pins σ H s->Vals xs us->r xs H Q ->
  ai (aj X.prog X.w) X.A (call f us) (EP X pins σ Q) X.xe s
noncomputable def CD(X:Cx)(r:V->Hp->(Bool->Hp->Prop)->Prop):Prop:=
 ∀(pins:List (Addr×Obj)) (s:af) (σ:St) (H:Hp) (x:V) (v:ae) (Q:Bool->Hp->Prop),Inv X pins σ H s->RelV x v->r x H Q ->
  ai (aj X.prog X.w) X.A (truthy v) (TP X pins σ Q) X.xe s
noncomputable def tOp(r:R2)(ta tb:TE):TE:=λσ H Q=>ta σ H λx H1=>tb σ H1 λy H2=>r x y H2 Q
noncomputable def tUn(r:V->Hp->VK->Prop)(ta:TE):TE:=λσ H Q=>ta σ H λx H1=>r x H1 Q
noncomputable def rI(C:Int->Int->Prop)(g:Int->Int->V):R2:=λx y H Q=>∃i j,x=.int i/\y=.int j/\C i j/\Q (g i j) H
noncomputable def rI0(g:Int->Int->V):R2:=λx y H Q=>∃i j,x=.int i/\y=.int j/\Q (g i j) H
noncomputable def rU(g:Int->V):V->Hp->VK->Prop:=λx H Q=>∃i,x=.int i/\Q (g i) H
section
variable{X:Cx}{a b c:Expr}{ta tb tc:TE}{pos:Pos}
theorem lD(ha:PE X a ta)(hb:PE X b tb){pins:List (Addr×Obj)}{s:af}{σ:St}{H:Hp}{R:V->V->Hp->Prop}(I:Inv X pins σ H s)
  (h:ta σ H λx H1=>tb σ H1 λy H2=>R x y H2) {Q:ae->af->Prop}{f:ae->ae->Sem ae}
  (hf:∀v u s2 x y H2,Inv X pins σ H2 s2->RelV x v->RelV y u->R x y H2->ai (aj X.prog X.w) X.A (f v u) Q X.xe s2) :
  ai (aj X.prog X.w) X.A (eval a X.env) (λv s₁=>ai (aj X.prog X.w) X.A (eval b X.env) (λu s₂=>ai (aj X.prog X.w) X.A (f v u) Q X.xe s₂) X.xe s₁) X.xe s:=by
 refine thn (ha pins s σ H _ I h) λv s1 ⟨x,H1,I1,r1,q1⟩=>?_
 refine thn (hb pins s1 σ H1 _ I1 q1) λu s2 ⟨y,H2,I2,r2,q2⟩=>?_
 exact hf v u s2 x y H2 I2 r1 r2 q2
theorem sy{op:Operator}{r:R2}(ho:OpR X (binaryOp op) r)(ha:PE X a ta)(hb:PE X b tb):PE X (.BinOp a op b pos) (tOp r ta tb):=by
 intro pins s σ H Q I h;exact wpAny_BinOp (lD ha hb I h λv u s2 x y H2 I2 rx ry q=>ho pins s2 σ H2 x y v u Q I2 rx ry q)
theorem sE{op:UnaryOp}{r:V->Hp->VK->Prop}(ho:UnR X (unaryOp op) r)(ha:PE X a ta):PE X (.UnaryOp op a pos) (tUn r ta):=by
 intro pins s σ H Q I h;exact UnaryOp_ (thn (ha pins s σ H _ I h) λv s1 ⟨x,H1,I1,r1,q1⟩=>ho pins s1 σ H1 x v Q I1 r1 q1)
theorem opI{f:ae->ae->Sem ae}{C:Int->Int->Prop}{g:Int->Int->Int}
  (rule:∀(i j:Int) (t u:Tok) (s:af) (Q:ae->af->Prop) (E:ae->af->Prop),C i j->Q (.int (g i j) s.toks) {s with toks:=s.toks+1}->ai (aj X.prog X.w) X.A (f (.int i t) (.int j u)) Q E s) :
  OpR X f (rI C λi j=>.int (g i j)):=by
 intro pins s σ H x y v u Q I rx ry h;obtain⟨i,j,rfl,rfl,hc,q⟩:=h;obtain⟨t,rfl⟩:=rx;obtain⟨t',rfl⟩:=ry;exact rule i j t t' s _ _ hc ⟨.int (g i j),H,I.tok _,⟨_,rfl⟩,q⟩
theorem su{f:ae->ae->Sem ae}{g:Int->Int->Int}
  (rule:∀(i j:Int) (t u:Tok) (s:af) (Q:ae->af->Prop) (E:ae->af->Prop),Q (.int (g i j) s.toks) {s with toks:=s.toks+1}->ai (aj X.prog X.w) X.A (f (.int i t) (.int j u)) Q E s) :
  OpR X f (rI0 λi j=>.int (g i j)):=by
 intro pins s σ H x y v u Q I rx ry h;obtain⟨i,j,rfl,rfl,q⟩:=h;obtain⟨t,rfl⟩:=rx;obtain⟨t',rfl⟩:=ry;exact rule i j t t' s _ _ ⟨.int (g i j),H,I.tok _,⟨_,rfl⟩,q⟩
theorem jG{f:ae->ae->Sem ae}{g:Int->Int->Bool}
  (rule:∀(i j:Int) (t u:Tok) (s:af) (Q:ae->af->Prop) (E:ae->af->Prop),Q (.bool (g i j)) s->ai (aj X.prog X.w) X.A (f (.int i t) (.int j u)) Q E s) :
  OpR X f (rI0 λi j=>.bl (g i j)):=by
 intro pins s σ H x y v u Q I rx ry h;obtain⟨i,j,rfl,rfl,q⟩:=h;obtain⟨t,rfl⟩:=rx;obtain⟨t',rfl⟩:=ry;exact rule i j t t' s _ _ ⟨.bl (g i j),H,I,rfl,q⟩
noncomputable def we(i j:Int):Prop:=0<=j/\j<=1000000/\i.natAbs<2^64
noncomputable def kU(i j:Int):Prop:=(-(2^64)<i/\i<2^64)\/(-(2^64)<j/\j<2^64)
theorem kU.ok{i j:Int}(h:kU i j):IntMulOk i j:=by
 rcases h with ⟨h1,h2⟩|⟨h1,h2⟩
 ·exact .of_left (intBits_le_64 h1 h2)
 ·exact .of_right (intBits_le_64 h1 h2)
theorem uX(k:Nat):(0:Int)<=2^k:=by
 rw[two_pow_cast];exact Int.natCast_nonneg _
theorem uE:OpR X (binaryOp .Add) (rI0 λi j=>.int (i+j)):=su λ_ _ _ _ _ _ _ q=>add_int q
theorem BS:OpR X (binaryOp .Sub) (rI0 λi j=>.int (i-j)):=su λ_ _ _ _ _ _ _ q=>sub_int q
theorem yK:OpR X (binaryOp .Mult) (rI kU λi j=>.int (i * j)):=opI λ_ _ _ _ _ _ _ hc q=>mul_int q hc.ok
theorem sC:OpR X (binaryOp .Mod) (rI (λ_ j=>0<j) λi j=>.int (i%j)):=opI λi j _ _ _ _ _ hc q=>by
 have h1:(0:Int)<j:=hc;exact mod_int' (by lia) (by rw[Int.fmod_eq_emod_of_nonneg i (by lia)];exact q)
theorem tZ:OpR X (binaryOp .Pow) (rI we λi j=>.int (i^j.toNat)):=opI λ_ _ _ _ _ _ _ hc q=>pow_int_small hc.1 hc.2.1 hc.2.2 q
theorem CJ:OpR X (binaryOp .RShift) (rI (λ_ j=>0<=j) λi j=>.int (i/2^j.toNat)):=opI λi j _ _ _ _ _ hc q=>
 rshift_int hc (by rw[Int.fdiv_eq_ediv_of_nonneg i (uX _)];exact q)
theorem unI{f:ae->Sem ae}{g:Int->Int}
  (rule:∀(i:Int) (t:Tok) (s:af) (Q:ae->af->Prop) (E:ae->af->Prop),Q (.int (g i) s.toks) {s with toks:=s.toks+1}->ai (aj X.prog X.w) X.A (f (.int i t)) Q E s) :
  UnR X f (rU λi=>.int (g i)):=by
 intro pins s σ H x v Q I rx h;obtain⟨i,rfl,q⟩:=h;obtain⟨t,rfl⟩:=rx;exact rule i t s _ _ ⟨.int (g i),H,I.tok _,⟨_,rfl⟩,q⟩
theorem xI:UnR X (unaryOp .USub) (rU λi=>.int (-i)):=unI λ_ _ _ _ _ q=>neg_int q
end
section
variable{X:Cx}{a b c:Expr}{ta tb tc:TE}{pos:Pos}
theorem i9{pins:List (Addr×Obj)}{σ:St}{H:Hp}{s:af}{Q:VK}{k k':Bool}(I:Inv X pins σ H s)(q:Q (.bl k) H)(e:k=k'):EP X pins σ Q (.bool k') s:=by
 subst e;exact⟨.bl k,H,I,rfl,q⟩
theorem Ct:OpR X (aR .Lt) (rI0 λi j=>.bl (decide (i<j))):=jG λ_ _ _ _ _ _ _ q=>lt_int q
theorem BD:OpR X (aR .LtE) (rI0 λi j=>.bl (decide (i<=j))):=jG λ_ _ _ _ _ _ _ q=>le_int q
theorem Br:OpR X (aR .Gt) (rI0 λi j=>.bl (decide (j<i))):=jG λ_ _ _ _ _ _ _ q=>gt_int q
theorem vp:OpR X (aR .GtE) (rI0 λi j=>.bl (decide (j<=i))):=jG λ_ _ _ _ _ _ _ q=>ge_int q
theorem tX:OpR X (aR .Is) (λx y H Q=>y=.non/\Q (.bl (decide (x=.non))) H):=by
 intro pins s σ H x y v u Q I rx ry h;obtain⟨rfl,q⟩:=h;cases ry;refine is_none_gen (i9 I q ?_);cases x<;>first
  | (cases rx;rfl)
  | (obtain⟨t,rfl⟩:=rx;rfl)
theorem xU:OpR X (aR .IsNot) (λx y H Q=>y=.non/\Q (.bl (!decide (x=.non))) H):=by
 intro pins s σ H x y v u Q I rx ry h;obtain⟨rfl,q⟩:=h;cases ry;refine isnot_none_gen (i9 I q ?_);cases x<;>first
  | (cases rx;rfl)
  | (obtain⟨t,rfl⟩:=rx;rfl)
theorem OpR.or{f:ae->ae->Sem ae}{r r':R2}(h:OpR X f r)(h':OpR X f r'):OpR X f (λx y H Q=>r x y H Q\/r' x y H Q):=by
 intro pins s σ H x y v u Q I rx ry q;rcases q with q|q
 ·exact h pins s σ H x y v u Q I rx ry q
 ·exact h' pins s σ H x y v u Q I rx ry q
theorem Au{op:CmpOp}{r:R2}(ho:OpR X (aR op) r)(ha:PE X a ta)(hb:PE X b tb)(hm:behindInMarks op b=false):PE X (.Compare a [op] [b] pos) (tOp r ta tb):=by
 intro pins s σ H Q I h;exact wpAny_Compare1 (lD ha hb I h λv u s2 x y H2 I2 rx ry q=>ho pins s2 σ H2 x y v u Q I2 rx ry q) hm
noncomputable def l7(t:TE):TT:=λσ H Q=>t σ H λx H'=>∃k,x=.bl k/\Q k H'
theorem sA{op:CmpOp}{r:R2}(ho:OpR X (aR op) r)(ha:PE X a ta)(hb:PE X b tb)(hm:behindInMarks op b=false):PT X (.Compare a [op] [b] pos) (l7 (tOp r ta tb)):=by
 intro pins s σ H Q I h;refine wpAny_isTrue_Compare1 (thn (ha pins s σ H _ I h) λv s1 ⟨x,H1,I1,r1,q1⟩=>thn (hb pins s1 σ H1 _ I1 q1) λu s2 ⟨y,H2,I2,r2,q2⟩=>
  thn (ho pins s2 σ H2 x y v u _ I2 r1 r2 q2) λc s3 ⟨z,H3,I3,r3,k,e,q3⟩=>?_) hm
 subst e;cases r3;exact bJ ⟨H3,I3,q3⟩
noncomputable def m8(r r':R2)(ta tb tc:TE):TE:=λσ H Q=>ta σ H λx H1=>tb σ H1 λy H2=>r x y H2 λz H3=>∃k,z=.bl k /\
 (if k=true then tc σ H3 λw' H4=>r' y w' H4 Q else Q (.bl false) H3)
theorem wm{op op':CmpOp}{r r':R2}(ho:OpR X (aR op) r)(ho':OpR X (aR op') r')(ha:PE X a ta)(hb:PE X b tb)(hc:PE X c tc)
  (hm:lastMarks [op,op'] [b,c]=false:=by with_unfolding_all rfl):PE X (.Compare a [op,op'] [b,c] pos) (m8 r r' ta tb tc):=by
 intro pins s σ H Q I h;refine Compare_chain (thn (ha pins s σ H _ I h) λv s1 ⟨x,H1,I1,r1,q1⟩=>chain_link (thn (hb pins s1 σ H1 _ I1 q1) λu s2 ⟨y,H2,I2,r2,q2⟩=>
  thn (ho pins s2 σ H2 x y v u _ I2 r1 r2 q2) λd s3 ⟨z,H3,I3,r3,k,e,q3⟩=>?_)) hm
 subst e;cases r3;refine bJ ?_;cases k with
 |false=>exact ite_ff ⟨.bl false,H3,I3,rfl,q3⟩
 |true=>exact ite_tt (chain_last (thn (hc pins s3 σ H3 _ I3 q3) λw' s4 ⟨z',H4,I4,r4,q4⟩=>ho' pins s4 σ H4 y z' u w' Q I4 r2 r4 q4))
theorem vY{op op':CmpOp}{r r':R2}(ho:OpR X (aR op) r)(ho':OpR X (aR op') r')(ha:PE X a ta)(hb:PE X b tb)(hc:PE X c tc)
  (hm:lastMarks [op,op'] [b,c]=false:=by with_unfolding_all rfl):PT X (.Compare a [op,op'] [b,c] pos) (l7 (m8 r r' ta tb tc)):=by
 intro pins s σ H Q I h;refine isTrue_chain (thn (ha pins s σ H _ I h) λv s1 ⟨x,H1,I1,r1,q1⟩=>test_link (thn (hb pins s1 σ H1 _ I1 q1) λu s2 ⟨y,H2,I2,r2,q2⟩=>
  thn (ho pins s2 σ H2 x y v u _ I2 r1 r2 q2) λd s3 ⟨z,H3,I3,r3,k,e,q3⟩=>?_)) hm
 subst e;cases r3;refine bJ ?_;cases k with
 |false=>
  obtain⟨k',e',q'⟩:=q3;cases e';exact ite_ff ⟨H3,I3,q'⟩
 |true=>
  refine ite_tt (test_last (thn (hc pins s3 σ H3 _ I3 q3) λw' s4 ⟨z',H4,I4,r4,q4⟩=>thn (ho' pins s4 σ H4 y z' u w' _ I4 r2 r4 q4) λd' s5 ⟨z2,H5,I5,r5,k2,e2,q5⟩=>?_));subst e2;cases r5;exact bJ ⟨H5,I5,q5⟩
noncomputable def lG(K:aq)(x:V)(H:Hp)(k:Bool):Prop:=
 match x with
 | .non=>k=false
 | .bl b=>k=b
 | .int i=>k=(i != 0)
 | .str y=>y.length<=aH/\k=((y.length:Int) != 0)
 | .byt y=>y.size<=aH/\k=((y.size:Int) != 0)
 | .ref p=>(∃xs,SqL K H p xs/\k = !xs.isEmpty)\/(∃xs,SqT K H p xs/\k = !xs.isEmpty)\/∃kvs,H p=some (.dK kvs)/\k = !kvs.isEmpty
 |_=>False
theorem uB{κ:Type}{kvs:List (κ×V)}{vs:List (κ×ae)}(r:KV kvs vs):(!vs.isEmpty) = !kvs.isEmpty:=by
 cases r<;>rfl
theorem nZ{xs:List V}{its:List ae}(r:Vals xs its):(!its.toArray.isEmpty) = !xs.isEmpty:=by
 cases r<;>simp
theorem iQ:(aH:Nat)<2^63:=by rw[aV];decide
theorem Cu:CD X (λx H Q=>∃k,lG X.K x H k/\Q k H):=by
 intro pins s σ H x v Q I rx h;obtain⟨k,e,q⟩:=h;have hl:=iQ;have hs:aH=16777216:=aV;cases x with
 |non=>
  cases rx;have e':k=false:=e;subst e';exact truthy_none ⟨H,I,q⟩
 |bl b=>
  cases rx;have e':k=b:=e;subst e';exact bJ ⟨H,I,q⟩
 |int i=>
  obtain⟨t,rfl⟩:=rx;have e':k=(i != 0):=e;subst e';exact PySem.P.truthy_int ⟨H,I,q⟩
 |str y=>
  obtain⟨t,rfl⟩:=rx;obtain⟨hy,e'⟩:y.length<=aH/\k=((y.length:Int) != 0):=e;subst e';exact PySem.P.truthy_str (by lia) ⟨H,I.tok _,q⟩
 |byt y=>
  obtain⟨t,rfl⟩:=rx;obtain⟨hy,e'⟩:y.size<=aH/\k=((y.size:Int) != 0):=e;subst e';exact PySem.W.truthy_bytes (by lia) ⟨H,I.tok _,q⟩
 |ref p=>
  cases rx;have e':(∃xs,SqL X.K H p xs/\k = !xs.isEmpty)\/(∃xs,SqT X.K H p xs/\k = !xs.isEmpty)\/∃kvs,H p=some (.dK kvs)/\k = !kvs.isEmpty:=e;rcases e' with ⟨xs,hx,e'⟩|⟨xs,hx,e'⟩|⟨kvs,hx,e'⟩
  ·subst e';obtain⟨its,r,pl,hz⟩:=I.list hx;have hlen:=r.length;exact wpAny_truthy_list pl.isList (by simp only[aP];lia) ⟨H,I.tok _,by rw[nZ r];exact q⟩
  ·subst e';obtain⟨its,r,pl,hz⟩:=I.tuple hx;have hlen:=r.length;exact truthy_tuple pl (by simp only[aP];lia) ⟨H,I.tok _,by rw[nZ r];exact q⟩
  ·subst e';obtain⟨hz,hS,vs,r,m⟩:kvs.length<=aH/\(p==sysModules)=false/\∃vs,KV kvs vs/\s.heap.DictOf (zv X.prog X.w) p vs:=I.hok p _ hx;have hlen:kvs.length=vs.length:=Paired.length r;exact wpAny_truthy_dict hS m (by lia) ⟨H,I.tok _,by rw[uB r];exact q⟩
 |_=>exact(show False from e).elim
theorem EG(ha:PE X a ta)(he:∀whole,isTrue a X.env whole=(do let v <-whole;standAt a.pos;holding [v] (truthy v))) :
  PT X a (λσ H Q=>ta σ H λx H'=>∃k,lG X.K x H' k/\Q k H'):=by
 intro pins s σ H Q I h;exact isTrue_plain (thn (ha pins s σ H _ I h) λv s1 ⟨x,H1,I1,r1,q1⟩=>Cu pins s1 σ H1 x v Q I1 r1 q1) (he _)
theorem vals1{x:V}{us:List ae}(r:Vals [x] us):∃u,us=[u]/\RelV x u:=by
 cases r with
 |cons r1 r2=>cases r2;exact⟨_,rfl,r1⟩
theorem vals2{x y:V}{us:List ae}(r:Vals [x,y] us):∃u w',us=[u,w']/\RelV x u/\RelV y w':=by
 cases r with
 |cons r1 r2=>
  cases r2 with
  |cons r3 r4=>cases r4;exact⟨_,_,rfl,r1,r3⟩
theorem Bs(hc:X.calm=true):zt X (.builtin "max") (λxs H Q=>∃i j,xs=[.int i,.int j]/\Q (.int (if j>i then j else i)) H):=by
 intro pins s σ H xs us Q I r h;obtain⟨i,j,rfl,q⟩:=h;obtain⟨u,w',rfl,⟨t,rfl⟩,⟨t',rfl⟩⟩:=vals2 r;refine max_two_ints (I.ok.hd hc) λh' tk k=>⟨_,H,I.kept k,?_,q⟩
 by_cases hj:j>i
 ·rw[if_pos hj,if_pos hj];exact⟨_,rfl⟩
 ·rw[if_neg hj,if_neg hj];exact⟨_,rfl⟩
theorem vx(hc:X.calm=true):zt X (.builtin "min") (λxs H Q=>∃i j,xs=[.int i,.int j]/\Q (.int (if j<i then j else i)) H):=by
 intro pins s σ H xs us Q I r h;obtain⟨i,j,rfl,q⟩:=h;obtain⟨u,w',rfl,⟨t,rfl⟩,⟨t',rfl⟩⟩:=vals2 r;refine min_two_ints (I.ok.hd hc) λh' tk k=>⟨_,H,I.kept k,?_,q⟩
 by_cases hj:j<i
 ·rw[if_pos hj,if_pos hj];exact⟨_,rfl⟩
 ·rw[if_neg hj,if_neg hj];exact⟨_,rfl⟩
theorem xo:zt X (.type "int") (λxs H Q=>(∃i,xs=[.int i]/\Q (.int i) H)\/∃k,xs=[.bl k]/\Q (.int (if k then 1 else 0)) H):=by
 intro pins s σ H xs us Q I r h;rcases h with ⟨i,rfl,q⟩|⟨k,rfl,q⟩
 ·obtain⟨u,rfl,t,rfl⟩:=vals1 r;exact call_int_int ⟨.int i,H,I,⟨_,rfl⟩,q⟩
 ·obtain⟨u,rfl,r1⟩:=vals1 r;cases r1;exact call_int_bool ⟨.int (if k then 1 else 0),H,I.tok _,⟨_,rfl⟩,q⟩
end
structure jY(h:Heap)(x dx C:Addr)(mA:Str->Option ae):Prop where
 obj:h.get? x=some (PySem.W.instObj C dx)
 ns:h.Ns1 dx mA
 ne:dx≠x
theorem xj{h:Heap}{dx:Addr}{mA:Str->Option ae}(n:h.Ns1 dx mA):∃od,h.get? dx=some od/\∀name,PySem.W.lookIn name od=some (mA name):=by
 obtain⟨o,es,ep,ho,hd,hk,_,hm⟩:=n;refine⟨o,ho,λname=>?_⟩;have e:=hm name;unfold nsFind findBy at e;rw[<-Array.find?_toList]at e;unfold PySem.W.lookIn;rw[hd];dsimp only;split
 ·rename_i y q
  rw[q]at e;exact congrArg some e
 ·rename_i q
  rw[q]at e;have a:es.toList.any (·.refKey)=false:=by
   rw[List.any_eq_false];intro y hy;obtain⟨z,t,hkey⟩:=hk y (Array.mem_toList_iff.mp hy);simp[DictEntry.refKey,hkey]
  have a':¬ es.toList.any (·.refKey)=true:=by rw[a];exact bI
  rw[if_neg a'];exact congrArg some e
theorem jY.look{h:Heap}{x dx C:Addr}{mA:Str->Option ae}(I:jY h x dx C mA):∃od,PySem.W.InstAt h x (PySem.W.instObj C dx) C (some od)/\∀name,PySem.W.lookIn name od=some (mA name):=
 let ⟨od,ho,hl⟩:=xj I.ns
 ⟨od,⟨I.obj,rfl,rfl,ho⟩,hl⟩
section
variable{prog:aw}{w:au}{A:ax}{E:ae->af->Prop}{s:af}{K:aq}{x dx C f:Addr}{mA:Str->Option ae}{name:Str}{v:ae}
end
theorem dG.some_of{v:V}{o:Option ae}(r:dG (some v) o):∃u,o=some u/\RelV v u:=by
 cases o with
 |none=>exact(show False from r).elim
 |some u=>exact⟨u,rfl,r⟩
section
variable{P:aw}{w:au}{H H':Hp}{h h':Heap}{a C dx:Addr}{fs fs':List (Str×V)}
theorem sx(hok:HOk P w H h)(e:H a=some (.ins C dx fs)):∃mA,jY h a dx C mA/\(∀f,dG (fs.lookup f) (mA f))/\PySem.Within mA (fs.map (·.1))/\fs.length<=1000/\H dx=some (.own a):=by
 obtain⟨d,z,ne,ob,mA,n,r,q⟩:=(show zI P w H h a (.ins C dx fs)from hok a _ e)
 exact⟨mA,⟨ob,n,ne⟩,r,q,z,d⟩
end
structure Cls(K:aq)(C:Addr):Prop where
 pg:PySem.W.plainGet K C Str.empty=true
 hd:PySem.W.hasDictIn K C=true
 po:PySem.W.plainOver K C=true
 sa:PySem.W.findIn K (.ref C) "__setattr__" = some (some (.builtin "object.__setattr__"))
theorem Cls.get{K:aq}{C:Addr}(c:Cls K C)(f:Str):PySem.W.plainGet K C f=true:=c.pg
section
variable{X:Cx}{pins:List (Addr×Obj)}{σ:St}{H:Hp}{s:af}{a C dx:Addr}{fs:List (Str×V)}{f:Str}{v:V}{A:ax}{E:ae->af->Prop}
end
section
variable{X:Cx}{o e value:Expr}{f:Str}{pos pos' tpos:Pos}{ta tv:TE}
end
section
variable{X:Cx}{pins:List (Addr×Obj)}{σ:St}{H:Hp}{s:af}{A:ax}{E:ae->af->Prop}{Q:ae->af->Prop}{c:ae}{b:Bool}
inductive dF(K:aq)(H:Hp):V->ae->Prop where
 |non:dF K H .non (.type "NoneType")
 |bl (x:Bool):dF K H (.bl x) (.type "bool")
 |int (i:Int):dF K H (.int i) (.type "int")
 |str (x:Str):dF K H (.str x) (.type "str")
 |flt (x:UInt64):dF K H (.flt x) (.type "float")
 |lst {a:Addr}{xs:List V} (e:H a=some (.lst xs)):dF K H (.ref a) (.type "list")
 |frz {a:Addr}{o:Obj}{xs:List V} (e:H a=some (.frz o (.lst xs))):dF K H (.ref a) (.type "list")
 |tup {a:Addr}{xs:List V} (e:H a=some (.tup xs)):dF K H (.ref a) (.type "tuple")
 |dK {a:Addr}{kvs:List (Key×V)} (e:H a=some (.dK kvs)):dF K H (.ref a) (.type "dict")
 |dT {a:Addr}{kvs:List (List Key×V)} (e:H a=some (.dT kvs)):dF K H (.ref a) (.type "dict")
 |ins {a C dx:Addr}{fs:List (Str×V)} (e:H a=some (.ins C dx fs)) (cl:Cls K C) (ha:PySem.W.findIn K (.ref C) "__class__" = some (some (.builtin "object.__class__")))
   (hn:PySem.W.specialIn K (.builtin "object.__class__") "__get__" = some (some (.builtin "getset_descriptor.__get__"))) (htk:PySem.W.takesIn K (.builtin "object.__class__")=some true)
   (hm:PySem.W.mroIn K C (.type "object")=some true):dF K H (.ref a) (.ref C)
theorem gq{x:V}{u t:ae}(I:Inv X pins σ H s)(rx:RelV x u)(ty:dF X.K H x t)(e:bh X.K t c=some b)(h:∀tk,Q (.bool b) {s with toks:=tk}) :
  ai (aj X.prog X.w) A (call (.builtin "isinstance") [u,c]) Q E s:=by
 cases ty with
 |non=>cases (show u=bM from rx);exact bK PySem.W.kitx_none I.kIn True.intro e (λz=>nomatch z) h
 |bl y=>cases (show u=bu y from rx);exact bK PySem.W.kitx_bool I.kIn True.intro e (λz=>nomatch z) h
 |int i=>obtain⟨t,q⟩:=(show ∃t,u=ae.int i t from rx);cases q;exact bK PySem.W.kitx_int I.kIn True.intro e (λz=>nomatch z) h
 |str y=>obtain⟨t,q⟩:=(show ∃t,u=ae.str y t from rx);cases q;exact bK PySem.W.kitx_str I.kIn True.intro e (λz=>nomatch z) h
 |flt y=>obtain⟨t,q⟩:=(show ∃t,u=ae.float y t from rx);cases q;exact bK PySem.W.kitx_float I.kIn True.intro e (λz=>nomatch z) h
 | @lst a xs ea=>
  cases (show u=aW a from rx);obtain⟨_,_,n,_,h1⟩:=(show zI X.prog X.w H s.heap a (.lst xs)from I.hok a _ ea)
  exact bK PySem.W.kitx_list I.kIn ⟨_,h1,rfl⟩ e (λz=>nomatch z) h
 | @frz a ob xs ea=>
  cases (show u=aW a from rx);obtain⟨_,_,_,n,_,h1⟩:=(show zI X.prog X.w H s.heap a (.frz ob (.lst xs))from I.hok a _ ea)
  exact bK PySem.W.kitx_list I.kIn ⟨_,h1,rfl⟩ e (λz=>nomatch z) h
 | @tup a xs ea=>
  cases (show u=aW a from rx);obtain⟨_,_,_,p⟩:=(show zI X.prog X.w H s.heap a (.tup xs)from I.hok a _ ea)
  obtain⟨o,h1,h2,_⟩:=p;exact bK PySem.W.kitx_tuple I.kIn ⟨o,h1,h2⟩ e (λz=>nomatch z) h
 | @dK a kvs ea=>
  cases (show u=aW a from rx);obtain⟨_,_,vs,_,p⟩:=(show zI X.prog X.w H s.heap a (.dK kvs)from I.hok a _ ea)
  obtain⟨o,es,ep,h1,h2,_⟩:=p;exact bK PySem.W.kitx_dict I.kIn ⟨o,h1,h2.1⟩ e (λz=>nomatch z) h
 | @dT a kvs ea=>
  cases (show u=aW a from rx);obtain⟨_,_,xs,_,o,es,ep,h1,h2,_⟩:=(show zI X.prog X.w H s.heap a (.dT kvs)from I.hok a _ ea)
  exact bK PySem.W.kitx_dict I.kIn ⟨o,h1,h2.1⟩ e (λz=>nomatch z) h
 | @ins a C dx fs ea cl ha hn htk hm=>
  cases (show u=aW a from rx);obtain⟨mA,O,_⟩:=sx I.hok ea;obtain⟨od,J,_⟩:=O.look;exact bK (PySem.W.kitx_own (cl.get _) cl.hd ha hn htk hm) I.kIn J e (λz=>nomatch z) h
end
structure cm(k:Nat)(A:ax):Prop where
 hd:A.handled=none
 dp:A.depth+3 * k+5<recursionLimit
 un:A.units+16 * k+200<cLine
theorem cm.deeper{k:Nat}{A:ax}(r:cm (k+1) A)(env:Env):cm k (A.deeper env):=
 ⟨r.hd,by have:=r.dp;show A.depth+1+3 * k+5<_;lia,by have:=r.un;show A.units+3+16 * k+200<_;lia⟩
theorem cm.depth{k:Nat}{A:ax}(r:cm k A):A.depth<recursionLimit:=by have:=r.dp;lia
theorem cm.units{k:Nat}{A:ax}(r:cm k A):A.units+64<cLine:=by have:=r.un;lia
noncomputable def ji:TA:=λ_ H Q=>Q [] H
noncomputable def iO(ta:TE)(tr:TA):TA:=λσ H Q=>ta σ H λx H1=>tr σ H1 λxs H2=>Q (x::xs) H2
section
variable{X:Cx}{e:Expr}{es:List Expr}{te:TE}{t:TA}{pos:Pos}
theorem c_:PA X [] ji:=λ_ _ _ _ H Q I h=>Calls.spliced_nil ⟨[],H,I,.nil,h⟩
theorem zC(ha:PE X e te)(hr:PA X es t)(hs:aL (e::es) X.env=(false,eval e X.env)::aL es X.env:=by rfl):PA X (e::es) (iO te t):=by
 intro pos pins s σ H Q I h;rw[hs];show ai _ _ (spliced ((false,eval e X.env)::backTo pos (aL es X.env))) _ _ s;refine Calls.spliced_cons (thn (ha pins s σ H _ I h) λu s1 ⟨x,H1,I1,r1,q1⟩=>?_);exact thn (hr pos pins s1 σ H1 _ I1 q1) λus s2 ⟨xs,H2,I2,r2,q2⟩=>⟨x::xs,H2,I2,.cons r1 r2,q2⟩
noncomputable def AY(t:TA):TE:=λσ H Q=>t σ H λxs H1=>xs.length<=aH/\∀p,H1 p=none->Q (.ref p) (upd H1 p (.tup xs))
noncomputable def CH(t:TA):TE:=λσ H Q=>t σ H λxs H1=>xs.length<=aH/\∀p,H1 p=none->Q (.ref p) (upd H1 p (.lst xs))
theorem AO{x1}(h:PA X es t):PE X (.Tuple es x1 pos) (AY t):=by
 intro pins s σ H Q I hq;refine wpAny_Tuple_spliced (thn (h pos pins s σ H _ I hq) λus s1 ⟨xs,H1,I1,r,z,q⟩=>⟨by rw[<-r.length];exact z,?_⟩);have hf:H1 s1.heap.objs.size=none:=I1.hok.fresh (ay _);refine⟨.ref s1.heap.objs.size,upd H1 s1.heap.objs.size (.tup xs),I1.laid (t':=s1.toks) (λb u e=>Heap.get?_push_of_some _ e) (ay _) ?_,rfl,q _ hf⟩;exact⟨z,us,r,⟨_,Heap.get?_push_size _ rfl,rfl,_,rfl⟩⟩
theorem tq(h:PA X es t):PE X (.List es pos) (CH t):=by
 intro pins s σ H Q I hq;refine wpAny_List_spliced (thn (h pos pins s σ H _ I hq) λus s1 ⟨xs,H1,I1,r,z,q⟩=>⟨by rw[<-r.length];exact z,?_⟩);have hf:H1 s1.heap.objs.size=none:=I1.hok.fresh (ay _);refine⟨.ref s1.heap.objs.size,upd H1 s1.heap.objs.size (.lst xs),I1.laid (t':=s1.toks) (λb u e=>Heap.get?_push_of_some _ e) (ay _) ?_,rfl,q _ hf⟩;exact⟨z,us,0,r,Heap.get?_push_size _ rfl⟩
end
abbrev Sp:=List V->Hp->VK->XK->Prop
abbrev CXT:=List Env->Hp->af->XK->ae->af->Prop
structure fN(P:aw)(w:au)(K:aq)(mg:Str->Option ae)(base:Heap)(A:ax)(outer:List Env)(s:af)(H:Hp):Prop where
 frames:A.frames=some outer
 mod:Mod K mg base
 bs:∀b o,base.get? b=some o->s.heap.get? b=some o/\H b=none
 bsz:base.objs.size<=s.heap.objs.size
 funs:s.heap.FunFrames base outer
 frf:∀b∈frs outer,H b=none
 hok:HOk P w H s.heap
 bare:AllBare s.gens
noncomputable def CE(outer:List Env)(P:aw)(w:au)(H:Hp)(s:af)(Q:VK)(u:ae)(s':af):Prop:=
 ∃v H',s'.os=s.os/\AllBare s'.gens/\Un (frs outer) [] H H' s.heap s'.heap/\HOk P w H' s'.heap/\RelV v u/\Q v H'
noncomputable def CR(CX:CXT)(outer:List Env)(P:aw)(w:au)(H:Hp)(s:af)(Q:VK)(E:XK)(r:Result)(s':af):Prop:=
 match r with
 | .ok (.ret u)=>CE outer P w H s Q u s'
 | .ok _=>False
 | .error e=>CX outer H s E e s'
structure fD(P:aw)(w:au)(K:aq)(mg:Str->Option ae)(base:Heap)(CX:CXT)(k:Nat)(f:Addr)(fd:bC)(ps:List Str)(sp:Sp):Prop where
 len:∀vs H Q E,sp vs H Q E->vs.length=ps.length
 run:∀(A:ax) (outer:List Env) (s:af) (H:Hp) (args:Args) (us:List ae) (vs:List V) (Q:VK) (E:XK),cm k A->fN P w K mg base A outer s H->BindsTo s fd args (ps.zip us)->Vals vs us->sp vs H Q E ->
  codeAny (aj P w) A (.call (.ref f) args) (CR CX outer P w H s Q E) s
section
variable{X:Cx}{pins:List (Addr×Obj)}{σ:St}{H:Hp}{s s':af}
theorem Inv.env0(I:Inv X pins σ H s):fN X.prog X.w X.K X.mg X.base X.A X.stack s H:=
 ⟨I.ok.frames,I.ok.mod,I.bs,a_ I.ok.bsz I.sz,I.stack,I.stkFree,I.hok,I.bare⟩
theorem Inv.after{Q:VK}{u:ae}(I:Inv X pins σ H s)(h:CE X.stack X.prog X.w H s Q u s'):EP X pins σ Q u s':=by
 obtain⟨v,H',os,bare,un,hok,r,q⟩:=h;obtain⟨hh,g,d,t,os'⟩:=s';obtain rfl:os'=s.os:=os;exact⟨v,H',I.call (h':=hh) (g':=g) (d':=d) (t':=t) (ch:=[]) un hok bare (λb z=>absurd z (by simp)),r,q⟩
end
noncomputable def lp(sp:Sp)(dvs:List V)(E:XK)(t:TA):TE:=λσ H Q=>t σ H λvs H1=>sp (vs++dvs) H1 Q E
noncomputable def Binds(K:aq)(fd:bC)(ps:List Str)(ds:List ae):Prop:=
 ∀(s:af) (us:List ae),K.In s.heap->(us++ds).length=ps.length->BindsTo s fd ⟨us,[]⟩ (ps.zip (us++ds))
theorem Binds.all{K:aq}{fd:bC}{ps:List Str}(h:∀us:List ae,us.length=ps.length->bindArgs fd ⟨us,[]⟩=pure (ps.zip us)):Binds K fd ps []:=λs us _ hl=>by
 rw[cR]at hl ⊢;exact .of_eq (h us hl)
noncomputable def Passes(CX:CXT)(X:Cx)(E:XK):Prop:=∀(pins:List (Addr×Obj)) (σ:St) (H:Hp) (s:af) (e:ae) (s':af),Inv X pins σ H s->CX X.stack H s E e s'->X.xe e s'
section
variable{X:Cx}{CX:CXT}{k:Nat}{f C:Addr}{fd:bC}{ps:List Str}{sp:Sp}{dvs:List V}{ds:List ae}{E:XK}{x m:Str}{p pos apos:Pos}{e o:Expr}{es:List Expr}{ta:TE}{t:TA}
theorem Bv{pins:List (Addr×Obj)}{σ:St}{H:Hp}{s:af}{Q:VK}{us:List ae}{vs:List V}(F:fD X.prog X.w X.K X.mg X.base CX k f fd ps sp)(hr:cm k X.A)(hb:Binds X.K fd ps ds)(hd:Vals dvs ds)(hx:Passes CX X E)
  (I:Inv X pins σ H s) (r:Vals vs us) (h:sp (vs++dvs) H Q E):ai (aj X.prog X.w) X.A (call (.ref f) us) (EP X pins σ Q) X.xe s:=by
 have r2:Vals (vs++dvs) (us++ds):=r.append hd;have hl:(us++ds).length=ps.length:=by rw[<-r2.length];exact F.len _ _ _ _ h
 refine wpAny_call (codeAny_mono (F.run X.A X.stack s H ⟨us,[]⟩ (us++ds) (vs++dvs) Q E hr I.env0 (hb s us I.kIn hl) r2 h) λr s' hq=>?_);cases r with
 |error e=>exact hx pins σ H s e s' I hq
 |ok fl=>
  cases fl with
  |ret u=>exact I.after hq
  |next=>exact aS hq
  |brk=>exact aS hq
  |cont=>exact aS hq
theorem uQ(F:fD X.prog X.w X.K X.mg X.base CX k f fd ps sp)(hr:cm k X.A)(hg:Gl X x)(hm:X.mg x=some (.ref f))(hk:cJ X.K (.ref f)=true)(hb:Binds X.K fd ps ds)(hd:Vals dvs ds)(hx:Passes CX X E)
  (ha:PA X (e::es) t) (hdb:(x==("__debug__" : Str))=false:=by decide) (he:aL (e::es) X.env=(false,eval e X.env)::aL es X.env:=by rfl) (hpl:(backTo pos (aL es X.env)).any (·.1)=false:=by rfl) :
  PE X (.Call (.Name x p) (e::es) [] pos) (lp sp dvs E t):=by
 intro pins s σ H Q I h;refine wpAny_Call_Name_kw (gQ I hg hm ?_ hdb);refine PySem.W.callWith_K (h₀:=X.base) I.ok.mod.kin hk (thn (ha pos pins s σ H _ I h) λus s1 ⟨vs,H1,I1,r,q⟩=>⟨I1.kIn,?_⟩) he hpl;exact Bv F hr hb hd hx I1 r q
end
section
variable{X:Cx}{CX:CXT}{k:Nat}{f C:Addr}{fd:bC}{ps ks:List Str}{sp:Sp}{E:XK}{x m:Str}{p pos apos kpos:Pos}{e o:Expr}{es:List Expr}{kws:List Keyword}{te ta:TE}{t tk:TA}{nm:Option Str}
variable{g:List ae->List ae->List ae}{gV:List V->List V->List V}
end
structure gb(N P:List Str)(sc:aO):Prop where
 kind:sc.kind=.function
 co:sc.isCoroutine=false
 gen:sc.isGenerator=false
 nd:N.Nodup
 pre:N.take P.length=P
 par:∀x∈P,sc.names.lookup x=some .local\/sc.names.lookup x=some .cell
 nofree:∀y∈sc.names,y.2≠.free
theorem mE{kindOf:Str->Option aN}{x:Str}:∀{binds:List (Str×ae)}{m:Str->Option ae},(∀v,(x,v)∉binds)->bindL kindOf binds m x=m x
 | [],_,_=>rfl
 | (n,v)::r,m,h=>by
  unfold bindL;rw[mE λw hw=>h w (aK _ hw)];split
  ·have:x≠n:=by rintro rfl;exact h v aJ
   simp[this]
  ·rfl
theorem mZ{kindOf:Str->Option aN}{x:Str}:∀{binds:List (Str×ae)}{m:Str->Option ae},(∀v,(x,v)∉binds)->bindC kindOf binds m x=m x
 | [],_,_=>rfl
 | (n,v)::r,m,h=>by
  unfold bindC;rw[mZ λw hw=>h w (aK _ hw)];split
  ·rfl
  ·have:x≠n:=by rintro rfl;exact h v aJ
   simp[this]
theorem nB{kindOf:Str->Option aN}{x:Str}{v:ae}:∀{P:List Str}{vs:List ae}{i:Nat}{m:Str->Option ae},P.Nodup->P[i]? = some x->vs[i]? = some v->kindOf x=some .local ->
  bindL kindOf (P.zip vs) m x=some v
 | [],_,_,_,_,h,_,_=>by simp at h
 |_::_,[],_,_,_,_,h,_=>by simp at h
 |p::P,w::vs,0,m,nd,h1,h2,hk=>by
  simp at h1 h2;subst h1;subst h2;show bindL kindOf ((p,w)::P.zip vs) m p=_;unfold bindL;rw[mE λv hv=>(List.nodup_cons.mp nd).1 (List.of_mem_zip hv).1,if_pos hk];simp
 |p::P,w::vs,i+1,m,nd,h1,h2,hk=>by
  show bindL kindOf ((p,w)::P.zip vs) m x=_;unfold bindL;exact nB (i:=i) (List.nodup_cons.mp nd).2 (by simpa using h1) (by simpa using h2) hk
theorem mG{kindOf:Str->Option aN}{x:Str}{v:ae}:∀{P:List Str}{vs:List ae}{i:Nat}{m:Str->Option ae},P.Nodup->P[i]? = some x->vs[i]? = some v->kindOf x≠some .local ->
  bindC kindOf (P.zip vs) m x=some v
 | [],_,_,_,_,h,_,_=>by simp at h
 |_::_,[],_,_,_,_,h,_=>by simp at h
 |p::P,w::vs,0,m,nd,h1,h2,hk=>by
  simp at h1 h2;subst h1;subst h2;show bindC kindOf ((p,w)::P.zip vs) m p=_;unfold bindC;rw[mZ λv hv=>(List.nodup_cons.mp nd).1 (List.of_mem_zip hv).1,if_neg hk];simp
 |p::P,w::vs,i+1,m,nd,h1,h2,hk=>by
  show bindC kindOf ((p,w)::P.zip vs) m x=_;unfold bindC;exact mG (i:=i) (List.nodup_cons.mp nd).2 (by simpa using h1) (by simpa using h2) hk
noncomputable def start(N:List Str)(vs:List V):St:=vs.map some++aZ (N.length-vs.length) none
noncomputable def dS(CX:CXT)(P:aw)(w:au)(K:aq)(mg:Str->Option ae)(base:Heap)(N:List Str)(qual:Str)(scope:aO)(f:Addr)(cd:ae)(A:ax)(outer:List Env)(s:af)(H:Hp)(E:XK):Cx where
 prog:=P
 w:=w
 K:=K
 mg:=mg
 base:=base
 A:=A.deeper (envOfC qual scope s.heap.objs.size f cd)
 N:=N
 s₀:=s
 H₀:=H
 env:=envOfC qual scope s.heap.objs.size f cd
 outer:=outer
 stack:=envOfC qual scope s.heap.objs.size f cd::outer
 ex:=[]
 calm:=true
 fn:=λ_=>true
 pn:=[]
 xe:=λe s'=>ai (aj P w) (A.deeper (envOfC qual scope s.heap.objs.size f cd)) (leaving (envOfC qual scope s.heap.objs.size f cd) e) (λ_ s''=>CX outer H s E e s'') (λe' s''=>CX outer H s E e' s'') s'
theorem jS{sc:aO}{n:Nat}{x:Str}(h:sc.names.lookup x=some .cell):∃c,(aX n sc.names []).lookup x=some c:=by
 have q:=PySem.W.cellsFrom_some sc.names n [] (.inl h);exact Option.isSome_iff_exists.mp q
theorem pU{CX:CXT}{P:aw}{w:au}{K:aq}{mg:Str->Option ae}{base:Heap}{N ps:List Str}{qual:Str}{scope:aO}{f:Addr}{cd:ae}{A:ax}{outer:List Env}{s s1:af}{H:Hp}{E:XK}{us:List ae}{vs:List V}
  (S:gb N ps scope) (hd:A.handled=none) (e0:fN P w K mg base A outer s H) (hl:vs.length=ps.length) (r:Vals vs us)
  (x:InCallC s s.heap.objs.size (bindL (envOfC qual scope s.heap.objs.size f cd).kindOf (ps.zip us) λ_=>none) (aX (s.heap.objs.size+1) scope.names []) (bindC (envOfC qual scope s.heap.objs.size f cd).kindOf (ps.zip us) λ_=>none) s1) :
  Inv (dS CX P w K mg base N qual scope f cd A outer s H E) [] (start N vs) H s1:=by
 have hpl:ps.length<=N.length:=by have:=congrArg List.length S.pre;rw[List.length_take]at this;lia
 obtain⟨h1,tk,rfl,hk⟩:=x.done;have noA:∀b:Addr,b∉(dS CX P w K mg base N qual scope f cd A outer s H E).ex:=λb z=>absurd (show b∈([]:List Addr)from z) (by simp)
 refine⟨⟨e0.mod,S.kind,rfl,rfl,ay _,λy z c h1 h2=>?_,λy hy=>?_,λy c _ h=>?_,λ_=>hd,ax.frames_deeper e0.frames,.inr ⟨rfl,rfl⟩,λb z=>absurd z (noA b),e0.bs,e0.bsz,λb _ _=>noA b,λb z=>absurd z (noA b),e0.funs,e0.frf⟩,
  rfl,e0.bare,Un.kept hk,⟨_,x.toInCall.ns,λi y v h1 h2 h3=>?_⟩,λy c h=>⟨_,x.cell y c h⟩,e0.hok.fresh (ay _),λy c h=>?_,λp hp=>absurd (show p∈([]:List (Addr×Obj))from hp) (by simp),e0.hok.kept hk,?_⟩
 ·exact name_of_addr x.apart (cH h1) (cH h2)
 ·have hy:scope.names.lookup y=some .cell\/scope.names.lookup y=some .free:=hy;rcases hy with hy|hy
  ·exact jS hy
  ·exact absurd rfl (S.nofree _ (cH hy))
 ·exact Nat.le_of_lt (x.above y c (cH h))
 ·have hi:i<vs.length:=by
   unfold start at h2;by_cases hi:i<vs.length
   ·exact hi
   ·rw[List.getElem?_append_right (by simpa using hi)]at h2;rw[List.getElem?_replicate]at h2;split at h2<;>cases h2
  have ha:vs[i]? = some v:=by
   unfold start at h2;rw[List.getElem?_append_left (by simpa using hi),List.getElem?_map]at h2;cases e:vs[i]? with
   |none=>rw[e]at h2;cases h2
   |some a=>rw[e]at h2;cases h2;rfl
  obtain⟨u,hu,rv⟩:=r.get ha;have hp:ps[i]? = some y:=by
   rw[<-S.pre,List.getElem?_take_of_lt (by lia)];exact h1
  have ndP:ps.Nodup:=by rw[<-S.pre];exact S.nd.sublist (List.take_sublist _ _)
  refine⟨u,rv,?_⟩;rcases S.par y (List.mem_of_getElem? hp)with k|k
  ·exact .inl ⟨k,nB ndP hp hu k⟩
  ·obtain⟨c,e⟩:=jS (n:=s.heap.objs.size+1) k;refine .inr ⟨.inl k,c,e,?_⟩;have q:=x.cell y c e;rw[mG ndP hp hu (by show scope.names.lookup y≠_;rw[k];decide)]at q;exact q
 ·exact e0.hok.fresh (Nat.le_of_lt (x.above y c (cH h)))
 ·unfold start;show _=N.length;rw[bO,aF,List.length_replicate];lia
theorem EL{CX:CXT}{P:aw}{w:au}{K:aq}{mg:Str->Option ae}{base:Heap}{k:Nat}{f:Addr}{name qual:Str}{params:Arguments}{body:List Stmt}{scope:aO}{dV kV doc pm cdv ct oc:ae}{an od:Option Addr}
  {osl:Array (Option ae)}{N ps:List Str}{sp:Sp} (lk:K.lookup f=some ⟨oc,od,.func (bX name qual params body scope dV kV doc pm an cdv ct),osl⟩) (hcd:PySem.W.codeIn K cdv qual=true) (S:gb N ps scope)
  (len:∀vs H Q E,sp vs H Q E->vs.length=ps.length)
  (hbody:∀(A:ax) (outer:List Env) (s:af) (H:Hp) (vs:List V) (Q:VK) (E:XK),cm k (A.deeper (envOfC qual scope s.heap.objs.size f cdv))->sp vs H Q E ->
   ∃t,PSs (dS CX P w K mg base N qual scope f cdv A outer s H E) body t/\t {nx:=λ_ H'=>Q .non H',rt:=Q} (start N vs) H) :
  fD P w K mg base CX (k+1) f (bX name qual params body scope dV kV doc pm an cdv ct) ps sp:=by
 refine⟨len,λA outer s H args us vs Q E hr e0 hb r hsp=>?_⟩;have hl:=len _ _ _ _ hsp;have KX:K.In s.heap:=e0.mod.kin.keeps λb o e=>(e0.bs b o e).1
 have lim:s.heap.NoLimit:=e0.mod.nolimit.keeps λb o e=>(e0.bs b o e).1
 have hkind:∀y∈ps.zip us,scope.names.lookup y.1=some .local\/(scope.names.lookup y.1=some .cell/\((aX (s.heap.objs.size+1) scope.names []).lookup y.1).isSome=true):=λ⟨n,v⟩ hy=>by
  rcases S.par n (List.of_mem_zip hy).1 with q|q
  ·exact .inl q
  ·exact .inr ⟨q,PySem.W.cellsFrom_some _ _ _ (.inl q)⟩
 refine codeAny_call_function hr.depth (KX _ _ lk) rfl S.co S.gen rfl (PySem.W.codeRec_of KX hcd) (hb _ _ _ _ ?_);refine wpAny_newFunctionEnv_cells S.kind hkind λenv he s1 x=>?_
 subst he;refine⟨lim.keeps x.toInCall.keep,codeAny_func ?_⟩;obtain⟨t,ht,hq⟩:=hbody A outer s H vs Q E (hr.deeper _) hsp;have I:Inv (dS CX P w K mg base N qual scope f cdv A outer s H E) [] (start N vs) H s1:=pU S hr.hd e0 hl r x;refine bL (ht [] s1 (start N vs) H _ I hq) (λfl s' hs=>?_) λe s' hs=>hs
 have fin:∀{σ':St}{H':Hp}{v:V}{u:ae},Inv (dS CX P w K mg base N qual scope f cdv A outer s H E) [] σ' H' s'->RelV v u->Q v H'->CE outer P w H s Q u s':=
  λ{σ' H' v u} J rv q=>⟨v,H',J.os,J.bare,J.base,J.hok,rv,q⟩
 cases fl with
 |ret u=>
  obtain⟨v,σ',H',J,rv,q⟩:=hs;exact fin J rv q
 |next=>
  obtain⟨σ',H',J,q⟩:=hs;exact fin (v:=V.non) (u:=bM) J rfl q
 |brk=>
  obtain⟨_,_,_,q⟩:=hs;exact aS q
 |cont=>
  obtain⟨_,_,_,q⟩:=hs;exact aS q
section
variable{X:Cx}{x:Str}{p pos:Pos}{e:Expr}{es:List Expr}{t:TA}{id T:String}{r:List V->Hp->VK->Prop}
noncomputable def tCB(r:List V->Hp->VK->Prop)(t:TA):TE:=λσ H Q=>t σ H λvs H1=>r vs H1 Q
theorem rL(hc:zt X (.builtin id) r)(hg:Gl X x)(hm:X.mg x=none)(hv:bG x=some (.builtin id))(ha:PA X (e::es) t)(hn:x≠"__name__":=by decide)(hdb:(x==("__debug__" : Str))=false:=by decide)
  (he:aL (e::es) X.env=(false,eval e X.env)::aL es X.env:=by rfl) (hpl:(backTo pos (aL es X.env)).any (·.1)=false:=by rfl):PE X (.Call (.Name x p) (e::es) [] pos) (tCB r t):=by
 intro pins s σ H Q I h;refine wpAny_Call_Name_kw (fj I hg hm hv ?_ hn hdb);exact PyProof.Rows.callWith_builtin1 (thn (ha pos pins s σ H _ I h) λus s1 ⟨vs,H1,I1,r1,q1⟩=>hc pins s1 σ H1 vs us Q I1 r1 q1) he hpl
theorem lz(hc:zt X (.type T) r)(hg:Gl X x)(hm:X.mg x=none)(hv:bG x=some (.type T))(ha:PA X (e::es) t)(hn:x≠"__name__":=by decide)(hdb:(x==("__debug__" : Str))=false:=by decide)
  (he:aL (e::es) X.env=(false,eval e X.env)::aL es X.env:=by rfl) (hpl:(backTo pos (aL es X.env)).any (·.1)=false:=by rfl):PE X (.Call (.Name x p) (e::es) [] pos) (tCB r t):=by
 intro pins s σ H Q I h;refine wpAny_Call_Name_kw (fj I hg hm hv ?_ hn hdb);exact ez (thn (ha pos pins s σ H _ I h) λus s1 ⟨vs,H1,I1,r1,q1⟩=>hc pins s1 σ H1 vs us Q I1 r1 q1) he hpl
end
end L2
namespace HT
open PySem PyProof.Rows
noncomputable def lexLt:List Int->List Int->Bool
 | [],[]=>false
 | [],_::_=>true
 |_::_,[]=>false
 |x::xs,y::ys=>if x=y then lexLt xs ys else decide (x<y)
theorem Eo(x y:Int)(xs ys:List Int):lexLt (x::xs) (y::ys)=if x=y then lexLt xs ys else decide (x<y):=rfl
theorem DQ:lexLt [] []=false:=rfl
theorem vB(y:Int)(ys:List Int):lexLt [] (y::ys)=true:=rfl
theorem ym(x:Int)(xs:List Int):lexLt (x::xs) []=false:=rfl
theorem CA(A:ax)(s:af)(a:Int)(t:Tok)(c:Int)(u:Tok):∃e,SeqAt.EqAt A s (.int a t) (.int c u) e/\(e=true↔a=c):=
 ⟨(a==c),SeqAt.EqAt.int_int a t c u,by simp⟩
theorem xK(A:ax)(s:af)(a:Int)(t:Tok)(c:Int)(u:Tok)(prog:aw)(w:au)(E:ae->af->Prop)(Q:ae->af->Prop)(h:Q (.bool (decide (a<c))) s) :
  ai (aj prog w) A (richCompare .Lt (.int a t) (.int c u)) Q E s:=
 (PyProof.Rows.lt_int h:ai (aj prog w) A (aR .Lt (.int a t) (.int c u)) Q E s)
section
open PySem.SeqAt
open PySem.AutoSeq1 (wpAny_loadPart')
open PySem.MeetsSeq PySem.MeetsSeq2 PySem.MeetsSeq3
theorem uL(l b:Addr)(items items2:Array ae)(n n2:Nat)(dd dd2:Option Addr)(sl sl2:Array (Option ae))(ns ms:List Int)(hi:ba items.toList ns)(hj:ba items2.toList ms) :
  Meets (Builtin.«tuple.__lt__» ⟨[.ref l,.ref b],[]⟩)
   (λ_ R s=>s.heap.get? l=some {cls:=.type "tuple",dict:=dd,data:=.seq items n,slots:=sl}/\s.heap.get? b=some {cls:=.type "tuple",dict:=dd2,data:=.seq items2 n2,slots:=sl2} /\
    R (.ok (.ret (.bool (lexLt ns ms)))) s):=
 .of_wp λprog w A R s h=>by
  obtain⟨hp,g,d,tk,os⟩:=s;obtain⟨hl,hb,h⟩:=h;have f2:=AutoSeq1.sub_tuple_tuple;have z1:items.size=ns.length:=by rw[<-hi.length];simp
  have z2:items2.size=ms.length:=by rw[<-hj.length];simp
  wp_walk using wpAny_loadPart' hl,wpAny_loadPart' hb,wpAny_forIn_list _ (λrest b s'=>b.1=none/\s'=⟨hp,g,d,tk,os⟩/\∃(vs ws:List ae) (ns' ms':List Int),rest=vs.zip ws /\
   ba vs ns'/\ba ws ms'/\ns'.length+items2.size=ms'.length+items.size/\R (.ok (.ret (.bool (lexLt ns' ms')))) ⟨hp,g,d,tk,os⟩) _
  case turn=>
   rintro⟨y,x⟩ rest b s' ⟨hb',rfl,vs,ws,ns',ms',hz,hvi,hwi,hlen,hR⟩;cases hvi with
   |nil=>rw[List.zip_nil_left]at hz;cases hz
   |cons a t hvi'=>
    cases hwi with
    |nil=>rw[List.zip_nil_right]at hz;cases hz
    |cons c u hwi'=>
     rw[List.zip_cons_cons]at hz;injection hz with hyx hrest
     injection hyx with hy hx
     subst hy hx;rw[Eo]at hR;simp only[bA]at hlen;obtain⟨e,he,hiff⟩:=CA A.in1 ⟨hp,g,d,tk,os⟩ a t c u;refine ah (he prog w _ _ ?_);cases e with
     |true=>
      rw[if_pos (hiff.mp rfl)]at hR
      wp_walk
      exact⟨rfl,rfl,_,_,_,_,hrest,hvi',hwi',by lia,hR⟩
     |false=>
      rw[if_neg (λq=>absurd (hiff.mpr q) bI)]at hR;have hri:=xK A.in1 ⟨hp,g,d,tk,os⟩ a t c u prog w
      wp_walk using hri
      exact⟨_,rfl,by simpa using hR⟩
  case fin=>
   rintro⟨b1,b2⟩ s' ⟨hb',rfl,vs,ws,ns',ms',hz,hvi,hwi,hlen,hR⟩;simp only at hb';subst hb';have hv:lexLt ns' ms'=decide (items.size<items2.size):=by
    cases hvi with
    |nil=>
     cases hwi with
     |nil=>
      simp only[List.length_nil]at hlen;rw[DQ];exact(decide_eq_false (by lia)).symm
     |cons c u hw=>
      simp only[List.length_nil,bA]at hlen;rw[vB];exact(decide_eq_true (by lia)).symm
    |cons a t hv=>
     cases hwi with
     |nil=>
      simp only[List.length_nil,bA]at hlen;rw[ym];exact(decide_eq_false (by lia)).symm
     |cons c u hw=>
      rw[List.zip_cons_cons]at hz;cases hz
   rw[hv]at hR
   wp_walk
   exact⟨_,rfl,by simpa[Builtin.Tuple.tupleCompareSizes]using hR⟩
  case h=>
   exact⟨rfl,rfl,items.toList,items2.toList,ns,ms,rfl,hi,hj,by lia,h⟩
end
section
variable{prog:aw}{w:au}{A:ax}{E:ae->af->Prop}{s:af}
theorem vN{l b:Addr}{items items2:Array ae}{ns ms:List Int}{Q:ae->af->Prop}(hl:IsTup s.heap l items)(hb:IsTup s.heap b items2)(hi:ba items.toList ns)(hj:ba items2.toList ms)
  (hu:A.units<cLine) (h:Q (.bool (lexLt ns ms)) s):ai (aj prog w) A (aR .Lt (.ref l) (.ref b)) Q E s:=by
 obtain⟨⟨cls,dd,data,sl⟩,ho,hc,n,hd⟩:=id hl;obtain⟨⟨cls2,dd2,data2,sl2⟩,ho2,hc2,n2,hd2⟩:=id hb;simp only at hc hd hc2 hd2;subst hc hd hc2 hd2;exact richCompare_meets_room (op:=.Lt) ⟨_,ho,rfl⟩ ⟨_,ho2,rfl⟩ PySem.F.slot_tuple_lt PySem.F.entry_tuple_lt (PySem.F.args_tuple_lt_2 _ _) (uL l b items items2 n n2 dd dd2 sl sl2 ns ms hi hj)
  ⟨ho,ho2,show bu (lexLt ns ms)≠ae.notImplemented/\Q (.bool (lexLt ns ms)) s from ⟨(λx=>nomatch x),h⟩⟩ hu
theorem EA{t b:Addr}{vs ws:List ae}{Q:ae->af->Prop}(ht:IsTup s.heap t vs.toArray)(hb:IsTup s.heap b ws.toArray)(hv:vs≠[])
  (h1:ws=[]->Q (.ref t) s) (h2:ws≠[]->Q (.ref s.heap.objs.size) {s with heap:=s.heap.push {cls:=.type "tuple",data:=.seq (vs++ws).toArray}})
  (hsz:vs.length+ws.length<=aH):ai (aj prog w) A (binaryOp .Add (.ref t) (.ref b)) Q E s:=by
 obtain⟨⟨cls,dd,data,sl⟩,ho,hc,n,hd⟩:=id ht;obtain⟨⟨cls2,dd2,data2,sl2⟩,ho2,hc2,n2,hd2⟩:=id hb;simp only at hc hd hc2 hd2;subst hc hd hc2 hd2;have e:vs.toArray++ws.toArray=(vs++ws).toArray:=by simp
 by_cases hw:ws=[]
 ·exact concat_meets ⟨_,ho,rfl⟩ ⟨_,ho2,rfl⟩ noFill_tuple_add seq_tuple_add PySem.F.slot_tuple_add PySem.F.entry_tuple_add (PySem.F.args_tuple_add_2 _ _)
   (tuple_addW1 t b vs.toArray ws.toArray n n2 dd dd2 sl sl2 (by simpa using hv) (by simp[hw])) ⟨ho,ho2,h1 hw⟩
 ·refine concat_meets ⟨_,ho,rfl⟩ ⟨_,ho2,rfl⟩ noFill_tuple_add seq_tuple_add PySem.F.slot_tuple_add PySem.F.entry_tuple_add (PySem.F.args_tuple_add_2 _ _)
   (tuple_addW2 t b vs.toArray ws.toArray n n2 dd dd2 sl sl2 (by simpa using hv) (by simpa using hw) (by rw[aP,aP];exact hsz)) ⟨ho,ho2,?_⟩
  rw[e];exact h2 hw
noncomputable def sIx(n d:Nat):Option Int->Nat
 |none=>d
 |some v=>if v<0 then (v+(n:Int)).toNat else min v.toNat n
end
end HT
namespace L2
open PySem PySem.Spec PyProof.Rows
abbrev TO:=St->Hp->(Option Int->Hp->Prop)->Prop
noncomputable def PO(X:Cx)(e:Option Expr)(t:TO):Prop:=
 ∀(pins:List (Addr×Obj)) (s:af) (σ:St) (H:Hp) (Q:Option Int->Hp->Prop),Inv X pins σ H s->t σ H Q ->
  ai (aj X.prog X.w) X.A (evalPart e X.env) (λu s'=>∃o H',Inv X pins σ H' s'/\IsPart u o/\Q o H') X.xe s
noncomputable def yi:TO:=λ_ H Q=>Q none H
noncomputable def D_(t:TE):TO:=λσ H Q=>t σ H λx H1=>∃i,x=.int i/\Q (some i) H1
theorem intsAre_of{ns:List Int}:∀{us:List ae},Vals (ns.map V.int) us->ba us ns:=by
 induction ns with
 |nil=>intro us r;rw[List.map_nil]at r;cases r;exact .nil
 |cons n ns ih=>
  intro us r;rw[aQ]at r;cases r with
  |cons r1 r2=>
   obtain⟨t,e⟩:=r1;subst e;exact .cons n t (ih r2)
section
variable{X:Cx}{e:Expr}{te:TE}{lo hi:Option Expr}{tl th:TO}{pos p2:Pos}
theorem sJ:PO X none yi:=by
 intro pins s σ H Q I h;rw[evalPart_none];exact aC ⟨none,H,I,.none,h⟩
theorem Al(h:PE X e te):PO X (some e) (D_ te):=by
 intro pins s σ H Q I hw;rw[evalPart_some];refine thn (h pins s σ H _ I hw) λu s1 ⟨x,H1,I1,r1,q1⟩=>?_
 obtain⟨i,rfl,q⟩:=q1;obtain⟨t,rfl⟩:=r1;exact⟨some i,H1,I1,.int i t,q⟩
noncomputable def SlR(X:Cx)(r:V->Option Int->Option Int->Hp->VK->Prop):Prop:=
 ∀(pins:List (Addr×Obj)) (s:af) (σ:St) (H:Hp) (x:V) (v vl vu:ae) (lo hi:Option Int) (sl:Addr) (Q:VK),Inv X pins σ H s->RelV x v->s.heap.IsSliceOf sl vl vu .none->IsPart vl lo->IsPart vu hi->r x lo hi H Q ->
  ∃T id,typeLookup (.type T) "__getitem__" = pure (some (.builtin id))/\s.TypeIs v T/\ai (aj X.prog X.w) X.A (getItem v (.ref sl)) (EP X pins σ Q) X.xe s
noncomputable def tSl(r:V->Option Int->Option Int->Hp->VK->Prop)(te:TE)(tl th:TO):TE:=λσ H Q=>te σ H λx H1=>tl σ H1 λl H2=>th σ H2 λu H3=>r x l u H3 Q
theorem AF{r:V->Option Int->Option Int->Hp->VK->Prop}(hr:SlR X r)(he:PE X e te)(hl:PO X lo tl)(hu:PO X hi th):PE X (.Subscript e (.Slice lo hi none p2) pos) (tSl r te tl th):=by
 intro pins s σ H Q I h;refine Subscript_ (thn (he pins s σ H _ I h) λv s1 ⟨x,H1,I1,r1,q1⟩=>?_);refine wpAny_Slice (thn (hl pins s1 σ H1 _ I1 q1) λvl s2 ⟨l,H2,I2,pl,q2⟩=>thn (hu pins s2 σ H2 _ I2 q2) λvu s3 ⟨u,H3,I3,pu,q3⟩=>?_);rw[evalPart_none];refine aC ?_;have I4:Inv X pins σ H3 {s3 with heap:=s3.heap.push {cls:=.type "slice",data:=.fields #[vl,vu,.none]}}:=I3.kept (t':=s3.toks) λb ob q=>Heap.get?_push_of_some _ q
 obtain⟨T,id,hT,ht,hg⟩:=hr pins {s3 with heap:=s3.heap.push {cls:=.type "slice",data:=.fields #[vl,vu,.none]}} σ H3 x v vl vu l u s3.heap.objs.size Q I4 r1 (Heap.IsSliceOf.new ..) pl pu q3;show ai (aj X.prog X.w) X.A (subscriptTail e (.Slice lo hi none p2) v (.ref s3.heap.objs.size)) (EP X pins σ Q) X.xe {s3 with heap:=s3.heap.push {cls:=.type "slice",data:=.fields #[vl,vu,.none]}};exact tail_any (ops:=[.ref s3.heap.objs.size,v]) ht hT hg (by with_unfolding_all rfl)
noncomputable def gv(xs:List V)(lo hi:Option Int):List V:=(xs.drop (HT.sIx xs.length 0 lo)).take (HT.sIx xs.length xs.length hi-HT.sIx xs.length 0 lo)
theorem yx(xs:List V)(lo hi:Option Int):(gv xs lo hi).length<=xs.length:=by
 unfold gv;rw[List.length_take,List.length_drop];lia
noncomputable def x9(K:aq):R2:=λx y H Q=>∃a b ns ms,x=.ref a/\y=.ref b/\SqT K H a (ns.map V.int)/\SqT K H b (ms.map V.int)/\Q (.bl (HT.lexLt ns ms)) H
theorem tI(hu:X.A.units<cLine):OpR X (aR .Lt) (x9 X.K):=by
 intro pins s σ H x y v u Q I rx ry h;obtain⟨a,b,ns,ms,rfl,rfl,ha,hb,q⟩:=h;cases rx;cases ry;obtain⟨its,r1,p1,_⟩:=I.tuple ha;obtain⟨its2,r2,p2,_⟩:=I.tuple hb;have i1:ba its.toArray.toList ns:=intsAre_of r1;have i2:ba its2.toArray.toList ms:=intsAre_of r2;exact HT.vN p1 p2 i1 i2 hu ⟨.bl (HT.lexLt ns ms),H,I,rfl,q⟩
noncomputable def AG(K:aq):R2:=λx y H Q=>∃a b xs ys,x=.ref a/\y=.ref b/\SqT K H a xs/\SqT K H b ys/\xs≠[]/\xs.length+ys.length<=aH /\
 (ys=[]->Q (.ref a) H)/\(ys≠[]->∀p,H p=none->Q (.ref p) (upd H p (.tup (xs++ys))))
theorem Vals.nil_iff{xs:List V}{us:List ae}(r:Vals xs us):us=[]↔xs=[]:=by
 cases r with
 |nil=>simp
 |cons _ _=>simp
theorem w8:OpR X (binaryOp .Add) (AG X.K):=by
 intro pins s σ H x y v u Q I rx ry h;obtain⟨a,b,xs,ys,rfl,rfl,ha,hb,hx,hz,q1,q2⟩:=h;cases rx;cases ry;obtain⟨its,r1,p1,_⟩:=I.tuple ha;obtain⟨its2,r2,p2,_⟩:=I.tuple hb;refine HT.EA p1 p2 (λz=>hx (r1.nil_iff.mp z)) (λz=>⟨.ref a,H,I,rfl,q1 (r2.nil_iff.mp z)⟩) (λz=>?_) (by rw[<-r1.length,<-r2.length];exact hz);refine⟨.ref s.heap.objs.size,_,I.laid (t':=s.toks) (o:=.tup (xs++ys)) (λb ob q=>Heap.get?_push_of_some _ q) (ay _) ?_,rfl,q2 (λw=>z (r2.nil_iff.mpr w)) _ (I.hok.fresh (ay _))⟩;exact⟨by rw[bO];exact hz,_,r1.append r2,IsTup.new _ _⟩
end
noncomputable def ixN(n:Nat)(i:Int):Option Nat:=if 0<=i then (if i<n then some i.toNat else none)else if -(n:Int)<=i then some (i+n).toNat else none
noncomputable def atI{α:Type}(xs:List α)(i:Int):Option α:=(ixN xs.length i).bind λj=>xs[j]?
theorem pN{n:Nat}{i:Int}{j:Nat}(h:ixN n i=some j):seqIndex? i n=some j/\j<n/\-(n:Int)<=i/\i<n:=by
 unfold ixN at h;by_cases h0:0<=i
 ·rw[if_pos h0]at h;by_cases h1:i<n
  ·rw[if_pos h1]at h;have e:i.toNat=j:=bB h;exact⟨by rw[seqIndex_of h0 h1,e],by lia,by lia,h1⟩
  ·rw[if_neg h1]at h;cases h
 ·rw[if_neg h0]at h;by_cases h1:-(n:Int)<=i
  ·rw[if_pos h1]at h;have e:(i+n).toNat=j:=bB h;exact⟨by rw[seqIndex_neg (by lia) h1,e],by lia,h1,by lia⟩
  ·rw[if_neg h1]at h;cases h
theorem oz{α:Type}{xs:List α}{i:Int}{v:α}(h:atI xs i=some v):∃j,seqIndex? i xs.length=some j/\xs[j]? = some v/\j<xs.length/\-(xs.length:Int)<=i/\i<xs.length:=by
 unfold atI at h;cases e:ixN xs.length i with
 |none=>rw[e]at h;cases h
 |some j=>
  rw[e]at h;obtain⟨h1,h2,h3,h4⟩:=pN e;exact⟨j,h1,h,h2,h3,h4⟩
noncomputable def nJ(b:Expr):Prop:=∀o i,subscripted b false o i=operate [o,i] (getItem o i)
noncomputable def IxR(X:Cx)(r:R2):Prop:=
 ∀(value slice:Expr) (pins:List (Addr×Obj)) (s:af) (σ:St) (H:Hp) (x y:V) (v u:ae) (Q:VK),Inv X pins σ H s->RelV x v->RelV y u->r x y H Q ->
  subscripted slice false v u=operate [v,u] (getItem v u)->ai (aj X.prog X.w) X.A (subscriptTail value slice v u) (EP X pins σ Q) X.xe s
noncomputable def MtR(X:Cx)(id:String)(r:V->List V->Hp->VK->Prop):Prop:=
 ∀(pins:List (Addr×Obj)) (s:af) (σ:St) (H:Hp) (x:V) (xs:List V) (v:ae) (us:List ae) (Q:VK),Inv X pins σ H s->RelV x v->Vals xs us->r x xs H Q ->
  ai (aj X.prog X.w) X.A (call (.builtin id) (v::us)) (EP X pins σ Q) X.xe s
section
variable{X:Cx}{a b:Expr}{ta tb:TE}{pos:Pos}
theorem IxR.or{r r':R2}(h:IxR X r)(h':IxR X r'):IxR X (λx y H Q=>r x y H Q\/r' x y H Q):=by
 intro value slice pins s σ H x y v u Q I rx ry q hs;rcases q with q|q
 ·exact h value slice pins s σ H x y v u Q I rx ry q hs
 ·exact h' value slice pins s σ H x y v u Q I rx ry q hs
theorem xi{r:R2}(hr:IxR X r)(ha:PE X a ta)(hb:PE X b tb)(hs:nJ b):PE X (.Subscript a b pos) (tOp r ta tb):=by
 intro pins s σ H Q I h;exact Subscript_ (lD ha hb I h λv u s2 x y H2 I2 rx ry q=>hr a b pins s2 σ H2 x y v u Q I2 rx ry q (hs _ _))
noncomputable def pM(K:aq):R2:=λx y H Q=>∃p xs i v,x=.ref p/\y=.int i/\SqL K H p xs/\atI xs i=some v/\Q v H
noncomputable def pS(K:aq):R2:=λx y H Q=>∃p xs i v,x=.ref p/\y=.int i/\SqT K H p xs/\atI xs i=some v/\Q v H
theorem uw:IxR X (pM X.K):=by
 intro value slice pins s σ H x y v u Q I rx ry h hs;obtain⟨p,xs,i,z,rfl,rfl,hq,he,q⟩:=h;cases rx;obtain⟨t,rfl⟩:=ry;obtain⟨its,r,pl,hz⟩:=I.list hq;obtain⟨j,h1,h2,h3,h4,h5⟩:=oz he;obtain⟨w,ew,rw'⟩:=r.get h2;have hl:=r.length;have hn:=iQ;have fin:EP X pins σ Q w s:=⟨z,H,I,rw',q⟩
 by_cases h0:0<=i
 ·have hj:i.toNat=j:=by
   rw[seqIndex_of h0 h5]at h1;exact bB h1
  exact item_listR pl.isList h0 (by lia) (by rw[hj];simpa using ew) fin hs
 ·have hj:(i+(its.toArray.size:Int)).toNat=j:=by
   rw[seqIndex_neg (by lia) h4]at h1;rw[aP,<-hl];exact bB h1
  exact subscriptTail_builtinR (x:=w) pl.isList.typeIs slot_list_getitem.lookup
   (wpAny_getItem_list_neg (Q:=λr s'=>r=w/\EP X pins σ Q r s') pl.isList (by lia) (by rw[aP]<;>lia) (by lia) (by rw[hj];simpa using ew) ⟨rfl,fin⟩) hs
theorem xM:IxR X (pS X.K):=by
 intro value slice pins s σ H x y v u Q I rx ry h hs;obtain⟨p,xs,i,z,rfl,rfl,hq,he,q⟩:=h;cases rx;obtain⟨t,rfl⟩:=ry;obtain⟨its,r,pl,hz⟩:=I.tuple hq;obtain⟨j,h1,h2,h3,h4,h5⟩:=oz he;obtain⟨w,ew,rw'⟩:=r.get h2;have hl:=r.length;have hn:=iQ;have fin:EP X pins σ Q w s:=⟨z,H,I,rw',q⟩
 exact subscriptTail_builtinR (x:=w) pl.typeIs slot_tuple_getitem.lookup
  (getItem_tuple (j:=j) (Q:=λr s'=>r=w/\EP X pins σ Q r s') pl (by lia) (by lia) (by rw[aP,<-hl];exact h1) (by simpa using ew) ⟨rfl,fin⟩) hs
theorem AB(its:List ae)(n j:Nat)(u:ae):bH (·.setIfInBounds j u) {cls:=.type "list",data:=.seq its.toArray n}={cls:=.type "list",data:=.seq (its.set j u).toArray n}:=by
 simp[bH]
theorem Inv.lst{pins:List (Addr×Obj)}{σ:St}{H:Hp}{s:af}{p:Addr}{xs:List V}(I:Inv X pins σ H s)(h:H p=some (.lst xs)) :
  ∃(its:List ae) (n:Nat),Vals xs its/\s.heap.get? p=some {cls:=.type "list",data:=.seq its.toArray n}/\xs.length<=sizeLine:=by
 obtain⟨z,its,n,r,e⟩:=I.hok p _ h;exact⟨its,n,r,e,z⟩
theorem Inv.lstUpd{pins:List (Addr×Obj)}{σ:St}{H:Hp}{s:af}{p:Addr}{xs ys:List V}{its its':List ae}{n n':Nat}{f:Obj->Obj}(I:Inv X pins σ H s)(h:H p=some (.lst xs))
  (ho:s.heap.get? p=some {cls:=.type "list",data:=.seq its.toArray n}) (hf:f {cls:=.type "list",data:=.seq its.toArray n}={cls:=.type "list",data:=.seq its'.toArray n'}) (r:Vals ys its') (hz:ys.length<=aH) (t:Nat) :
  Inv X pins σ (upd H p (.lst ys)) {s with heap:=s.heap.update p f,toks:=t}:=by
 have e:(s.heap.update p f).get? p=some {cls:=.type "list",data:=.seq its'.toArray n'}:=by
  rw[Heap.get?_update_self f ho (by rw[hf]<;>rfl),hf]
 refine I.write (x:=p) (e:=p) (by rw[h];trivial) (.inl rfl) (λb u hb q=>(Heap.get?_update_other _ _ (Ne.symm hb)).trans q) ⟨_,e⟩ ?_;exact⟨hz,its',n',r,e⟩
noncomputable def oR:V->V->V->Hp->(Hp->Prop)->Prop:=λo i v H Q=>∃p xs k j,o=.ref p/\i=.int k/\H p=some (.lst xs)/\ixN xs.length k=some j/\Q (upd H p (.lst (xs.set j v)))
theorem set_list:gk X oR:=by
 intro pins s σ H o i v ov iv u Q I ro ri rv h;obtain⟨p,xs,k,j,rfl,rfl,hp,hj,q⟩:=h;cases ro;obtain⟨t,rfl⟩:=ri;obtain⟨its,n,r,ho,hz⟩:=I.lst hp;obtain⟨h1,h2,h3,h4⟩:=pN hj;have hl:=r.length;have hn:=iQ;have I':Inv X pins σ (upd H p (.lst (xs.set j v))) {s with heap:=s.heap.update p (bH (·.setIfInBounds j u))}:=
  I.lstUpd hp ho (AB its n j u) (r.set rv j) (by rw[List.length_set];exact hz) s.toks
 by_cases h0:0<=k
 ·have hk:k.toNat=j:=by
   rw[seqIndex_of h0 h4]at h1;exact bB h1
  exact PySem.W.ki_setAt ho h0 (by lia) (by rw[aP,<-hl];exact h4) (by rw[hk];exact⟨_,I',q⟩)
 ·have hk:(k+(its.toArray.size:Int)).toNat=j:=by
   rw[seqIndex_neg (by lia) h3]at h1;rw[aP,<-hl];exact bB h1
  exact PySem.W.ki_setBack ho (by lia) (by rw[aP,<-hl];exact h3) (by lia) (by rw[hk];exact⟨_,I',q⟩)
theorem D5(lo hi:Option Int)(n:Nat):(sliceBounds lo hi none n).1=((HT.sIx n 0 lo:Nat):Int)/\(sliceBounds lo hi none n).2.1=((HT.sIx n n hi:Nat):Int)/\(sliceBounds lo hi none n).2.2=1:=by
 refine⟨?_,?_,rfl⟩
 ·cases lo with
  |none=>simp[sliceBounds,HT.sIx]
  |some i=>
   simp only[sliceBounds,HT.sIx,Option.getD_none,show (1:Int)>0 by decide,if_true];by_cases h:i<0
   ·simp only[h,if_true]<;>lia
   ·simp only[h,if_false]<;>lia
 ·cases hi with
  |none=>simp[sliceBounds,HT.sIx]
  |some i=>
   simp only[sliceBounds,HT.sIx,Option.getD_none,show (1:Int)>0 by decide,if_true];by_cases h:i<0
   ·simp only[h,if_true]<;>lia
   ·simp only[h,if_false]<;>lia
theorem Dx(its:List ae)(lo hi:Option Int):slicePick its.toArray lo hi none=((its.drop (HT.sIx its.length 0 lo)).take (HT.sIx its.length its.length hi-HT.sIx its.length 0 lo)).toArray:=by
 obtain⟨h1,h2,h3⟩:=D5 lo hi its.toArray.size;unfold slicePick;rw[h1,h2,h3];simp only[sliceRange_one,pick_run,aP]<;>rfl
noncomputable def uG(K:aq):V->Option Int->Option Int->Hp->VK->Prop:=λx lo hi H Q=>∃a xs,x=.ref a/\SqL K H a xs/\∀p,H p=none->Q (.ref p) (upd H p (.lst (gv xs lo hi)))
theorem DX:SlR X (uG X.K):=by
 intro pins s σ H x v vl vu lo hi sl Q I rx hs pl pu h;obtain⟨a,xs,rfl,hx,q⟩:=h;cases rx;obtain⟨its,r,ht,hz⟩:=I.list hx;have hlen:=r.length;refine⟨"list",_,slot_list_getitem.lookup,ht.isList.typeIs,?_⟩;refine wpAny_getItem_list_slice ht.isList hs pl pu .none (by simp) ?_ (by rw[aP]<;>lia);rw[Dx,<-hlen];refine⟨.ref s.heap.objs.size,_,I.laid (t':=s.toks) (o:=.lst (gv xs lo hi)) (λb ob q=>Heap.get?_push_of_some _ q) (ay _) ?_,rfl,q _ (I.hok.fresh (ay _))⟩;exact⟨a_ (yx xs lo hi) hz,_,0,(r.drop (HT.sIx xs.length 0 lo)).take (HT.sIx xs.length xs.length hi-HT.sIx xs.length 0 lo),Heap.get?_push_size _ rfl⟩
theorem wg:zt X (.builtin "len") (λxs H Q=>∃p ys,xs=[.ref p]/\(SqL X.K H p ys\/SqT X.K H p ys)/\Q (.int ys.length) H):=by
 intro pins s σ H xs us Q I r h;obtain⟨p,ys,rfl,hq,q⟩:=h;obtain⟨u,rfl,rx⟩:=vals1 r;cases rx;have hn:=iQ;rcases hq with hq|hq
 ·obtain⟨its,r',pl,hz⟩:=I.list hq;have hlen:=r'.length;exact Calls.call_len_list pl.isList (by simp only[aP]<;>lia) ⟨.int ys.length,H,I.tok _,⟨s.toks+1,by rw[aP,hlen]⟩,q⟩
 ·obtain⟨its,r',pl,hz⟩:=I.tuple hq;have hlen:=r'.length;exact len_tuple pl (by simp only[aP]<;>lia) ⟨.int ys.length,H,I.tok _,⟨s.toks+1,by rw[aP,hlen]⟩,q⟩
theorem zt.or{f:ae}{r r':List V->Hp->VK->Prop}(h:zt X f r)(h':zt X f r'):zt X f (λxs H Q=>r xs H Q\/r' xs H Q):=by
 intro pins s σ H xs us Q I rs q;rcases q with q|q
 ·exact h pins s σ H xs us Q I rs q
 ·exact h' pins s σ H xs us Q I rs q
theorem mQ:zt X (.type "list") (λxs H Q=>∃p ys,xs=[.ref p]/\(SqL X.K H p ys\/SqT X.K H p ys)/\∀l,H l=none->Q (.ref l) (upd H l (.lst ys))):=by
 intro pins s σ H xs us Q I r h;obtain⟨p,ys,rfl,hq,q⟩:=h;obtain⟨u,rfl,rx⟩:=vals1 r;cases rx;have fin:∀(its:List ae),Vals ys its->ys.length<=aH->∀(h':Heap) (c':Nat),(∀b o',s.heap.get? b=some o'->h'.get? b=some o') ->
   h'.get? s.heap.objs.size=some {cls:=.type "list",dict:=none,data:=.seq its.toArray c',slots:=#[]}->EP X pins σ Q (.ref s.heap.objs.size) {s with heap:=h'}:=λits r' hz h' c' kp e=>
  ⟨.ref s.heap.objs.size,_,I.laid (t':=s.toks) kp (ay _) (show zI X.prog X.w _ h' _ (.lst ys)from ⟨hz,its,c',r',e⟩),rfl,q _ (I.hok.fresh (ay _))⟩
 rcases hq with hq|hq
 ·obtain⟨its,r',pl,hz⟩:=I.list hq;have hlen:=r'.length;obtain⟨o,ho,hc,n,hd⟩:=pl.isList;exact call_list_seq p (.inl rfl) ho hc hd (λh' c' kp e=>fin its r' hz h' c' kp e) (by simp only[aP]<;>lia)
 ·obtain⟨its,r',pl,hz⟩:=I.tuple hq;have hlen:=r'.length;obtain⟨o,ho,hc,n,hd⟩:=pl;exact call_list_seq p (.inr rfl) ho hc hd (λh' c' kp e=>fin its r' hz h' c' kp e) (by simp only[aP]<;>lia)
theorem yB:zt X (.type "tuple") (λxs H Q=>∃p ys,xs=[.ref p]/\((SqL X.K H p ys/\∀l,H l=none->Q (.ref l) (upd H l (.tup ys)))\/(SqT X.K H p ys/\Q (.ref p) H))):=by
 intro pins s σ H xs us Q I r h;obtain⟨p,ys,rfl,h⟩:=h;obtain⟨u,rfl,rx⟩:=vals1 r;cases rx;rcases h with ⟨hq,q⟩|⟨hq,q⟩
 ·obtain⟨its,r',pl,hz⟩:=I.list hq;have hlen:=r'.length;refine call_tuple_list pl.isList (λh' kp=>?_) (by simp only[aP]<;>lia);have I1:Inv X pins σ H {s with heap:=h'}:=I.kept (t':=s.toks) kp;have I2:Inv X pins σ (upd H h'.objs.size (.tup ys)) {s with heap:=h'.push {cls:=.type "tuple",data:=.seq its.toArray}}:=
   I1.laid (t':=s.toks) (λb o e=>Heap.get?_push_of_some _ e) (ay _) (show zI X.prog X.w _ _ _ (.tup ys)from ⟨hz,its,r',IsTup.new _ _⟩)
  exact⟨.ref h'.objs.size,_,I2,rfl,q _ (I1.hok.fresh (ay _))⟩
 ·obtain⟨its,r',pl,hz⟩:=I.tuple hq;exact call_tuple_same pl ⟨.ref p,H,I,rfl,q⟩
noncomputable def tyV(K:aq)(T:String)(x:V)(H:Hp):Prop:=match x with
 | .str _=>T = "str"
 | .int _=>T = "int"
 | .ref p=>(T = "list"/\∃xs,SqL K H p xs)\/(T = "tuple"/\∃o,K.lookup p=some o/\o.cls=.type "tuple"/\o.dict=none) \/
   (T = "dict"/\((∃kvs,H p=some (.dK kvs))\/∃kvs,H p=some (.dT kvs)))\/(T = "set"/\∃S n,H p=some (.set S n))
 |_=>False
theorem yl{pins:List (Addr×Obj)}{σ:St}{H:Hp}{s:af}{T:String}{x:V}{v:ae}(I:Inv X pins σ H s)(r:RelV x v)(ty:tyV X.K T x H) :
  s.TypeIs v T/\∀a,v=.ref a->∃ob,s.heap.get? a=some ob/\ob.dict=none:=by
 cases x with
 |str z=>
  obtain⟨t,rfl⟩:=r;cases (show T = "str" from ty);exact⟨typeIs_str s z t,λ_ e=>nomatch e⟩
 |int i=>
  obtain⟨t,rfl⟩:=r;cases (show T = "int" from ty);exact⟨typeIs_int s i t,λ_ e=>nomatch e⟩
 |ref p=>
  cases r;rcases ty with ⟨rfl,xs,hq⟩|⟨rfl,o,hk,hc,hd⟩|⟨rfl,hk⟩|⟨rfl,S,n,hk⟩
  ·obtain⟨its,_,pl,_⟩:=I.list hq;refine⟨pl.isList.typeIs,λa e=>?_⟩;cases e;obtain⟨o,n,e,c,hd,_⟩:=pl;exact⟨o,e,hd⟩
  ·refine⟨⟨o,I.kIn p o hk,hc⟩,λa e=>?_⟩;cases e;exact⟨o,I.kIn _ o hk,hd⟩
  ·have z:∃o,s.heap.get? p=some o/\o.ExactDict:=by
    rcases hk with ⟨kvs,hk⟩|⟨kvs,hk⟩
    ·obtain⟨_,_,_,_,o,_,_,e,ex,_⟩:=I.hok p _ hk;exact⟨o,e,ex⟩
    ·obtain⟨_,_,_,_,o,_,_,e,ex,_⟩:=I.hok p _ hk;exact⟨o,e,ex⟩
   obtain⟨o,e,ex⟩:=z;refine⟨⟨o,e,ex.1⟩,λa e2=>?_⟩;cases e2;exact⟨o,e,ex.2.1⟩
  ·obtain⟨o,_,_,_,e,ex,_⟩:=I.hok p _ hk;refine⟨⟨o,e,ex.1⟩,λa e2=>?_⟩;cases e2;exact⟨o,e,ex.2.1⟩
 |_=>exact aS ty
noncomputable def tBM(K:aq)(T:String)(r:V->List V->Hp->VK->Prop)(to:TE)(t:TA):TE:=λσ H Q=>to σ H λx H1=>tyV K T x H1/\t σ H1 λxs H2=>r x xs H2 Q
variable{o e:Expr}{es:List Expr}{to:TE}{t:TA}{name:Str}{apos cpos:Pos}{T id:String}{r:V->List V->Hp->VK->Prop}
theorem gX(pa:PlainAttrs T)(slot:Slot T name id)(hty:typeOf (.builtin id)=pure (.type "method_descriptor"))(hm:MtR X id r)(ho:PE X o to)(ha:PA X (e::es) t)
  (hbase:attributeBase o name X.env (eval o X.env)=eval o X.env:=by rfl)
  (hfew:((backTo cpos (aL (e::es) X.env)).all (λx=>!x.1)&&(backToKw cpos (keywordEach [] X.env)).all (λx=>x.1.isSome)
   && decide ((e::es).length+([]:List Keyword).length+(if ([]:List Keyword).isEmpty then 0 else 1)<30))=true:=by rfl)
  (hline:(apos.endLine==cpos.line)=true:=by rfl) (hs:aL (e::es) X.env=(false,eval e X.env)::aL es X.env:=by rfl) (hplain:(backTo cpos (aL es X.env)).any (·.1)=false:=by rfl) :
  PE X (.Call (.Attribute o name apos) (e::es) [] cpos) (tBM X.K T r to t):=by
 intro pins s σ H Q I h;refine wpAny_Call_method_late hbase hfew hline rfl (thn (ho pins s σ H _ I h) λv s1 ⟨x,H1,I1,r1,ty,q1⟩=>?_);obtain⟨h1,h2⟩:=yl I1 r1 ty;refine⟨T,id,pa,slot,hty,h1,h2,?_⟩;have hA:=ha cpos pins s1 σ H1 _ I1 q1;rw[hs]at hA ⊢;refine Calls.callWith_builtin (by show (false||(backTo cpos (aL es X.env)).any (·.1))=false;rw[hplain]<;>rfl) (Calls.evalArgs_plain ?_);exact thn hA λus s2 ⟨vs,H2,I2,r2,q2⟩=>hm pins s2 σ H2 x vs v us Q I2 r1 r2 q2
/- xs.append(e), list.index on a module's tuple .. are MtR facts of 06m -/
end
noncomputable def MtM(X:Cx)(id:String)(r:V->List V->Hp->VK->Prop):Prop:=
 ∀(pins:List (Addr×Obj)) (s:af) (σ:St) (H:Hp) (x:V) (xs:List V) (v:ae) (us:List ae) (Q:VK),Inv X pins σ H s->RelV x v->Vals xs us->r x xs H Q ->
  ai (aj X.prog X.w) X.A (call (.builtin id) (v::us)) (EP X pins σ Q) X.xe s
theorem Vals.one{x:V}{us:List ae}(h:Vals [x] us):∃u,us=[u]/\RelV x u:=by
 cases h with
 |cons r h=>cases h;exact⟨_,rfl,r⟩
theorem Vals.two{x y:V}{us:List ae}(h:Vals [x,y] us):∃u v,us=[u,v]/\RelV x u/\RelV y v:=by
 cases h with
 |cons r h=>cases h with
  |cons q h=>cases h;exact⟨_,_,rfl,r,q⟩
theorem Vals.zero:∀{us:List ae},Vals [] us->us=[]
 |_,.nil=>rfl
theorem Vals.eraseIdx:∀{xs:List V}{us:List ae} (i:Nat),Vals xs us->Vals (xs.eraseIdx i) (us.eraseIdx i)
 |_,_,_,.nil=>.nil
 |_,_,0,.cons _ t=>t
 |_,_,i+1,.cons r t=>.cons r (Vals.eraseIdx i t)
theorem mT{α:Type}:∀(l:List α) (i:Nat),(l.eraseIdx i).length<=l.length
 | [],_=>ay _
 |_::_,0=>Nat.le_succ _
 |_::r,i+1=>Nat.succ_le_succ (mT r i)
section
variable{X:Cx}{pins:List (Addr×Obj)}{σ:St}{H:Hp}{s:af}{l b:Addr}{xs ys zs:List V}
theorem Inv.lset{its its':List ae}{n:Nat}{f:Array ae->Array ae}{t':Nat}(I:Inv X pins σ H s)(hH:H l=some (.lst xs))
  (e:s.heap.get? l=some {cls:=.type "list",data:=.seq its.toArray n}) (hf:f its.toArray=its'.toArray) (hv:Vals ys its') (hz:ys.length<=aH) :
  Inv X pins σ (upd H l (.lst ys)) {s with heap:=s.heap.update l (bH f),toks:=t'}:=by
 have q:=PySem.IsL.update e f;rw[hf]at q;refine I.write (x:=l) (e:=l) (by rw[hH];exact trivial) (.inl rfl) (λb' u hb hu=>(Heap.get?_update_other s.heap (bH f) (Ne.symm hb)).trans hu) ⟨_,q⟩ ?_;exact⟨hz,its',_,hv,q⟩
theorem Inv.lnew{its:List ae}{t':Nat}(I:Inv X pins σ H s)(hv:Vals ys its)(hz:ys.length<=aH) :
  Inv X pins σ (upd H s.heap.objs.size (.lst ys)) {s with heap:=s.heap.push {cls:=.type "list",data:=.seq its.toArray},toks:=t'}:=
 I.laid (λ_ _ q=>Heap.get?_push_of_some _ q) (ay _) ⟨hz,its,0,hv,Heap.get?_push_size _ rfl⟩
theorem Inv.fresh(I:Inv X pins σ H s):H s.heap.objs.size=none:=I.hok.fresh (ay _)
theorem Inv.lstM(I:Inv X pins σ H s)(hH:H l=some (.lst xs)):xs.length<=aH/\∃(its:List ae) (n:Nat),Vals xs its/\xs.length=its.length/\s.heap.get? l=some {cls:=.type "list",data:=.seq its.toArray n}:=by
 obtain⟨z,its,n,r,e⟩:=I.hok l _ hH;exact⟨z,its,n,r,r.length,e⟩
end
section
variable{X:Cx}
noncomputable def AQ:V->List V->Hp->VK->Prop:=λx vs H Q=>∃l xs y,x=.ref l/\vs=[y]/\H l=some (.lst xs)/\xs.length<aH/\Q .non (upd H l (.lst (xs++[y])))
theorem oS:MtM X "list.append" AQ:=by
 intro pins s σ H x vs v us Q I rx rv h;obtain⟨l,xs,y,rfl,rfl,hH,hz,q⟩:=h;cases rx;obtain⟨u,rfl,ru⟩:=rv.one;obtain⟨z,its,n,r,hl,e⟩:=I.lstM hH;refine call_meets F.slot_list_append ⟨_,e,rfl⟩ F.entry_list_append (F.args_list_append_2 _ _) (PySem.list_append l its.toArray n u (by rw[aP];lia)) ⟨e,?_⟩;refine⟨.non,_,I.lset (its':=its++[u]) hH e (by simp) (r.append (.cons ru .nil)) ?_,rfl,q⟩;rw[bO,List.length_singleton];lia
noncomputable def ua:V->List V->Hp->VK->Prop:=λx vs H Q=>∃l xs i k y,x=.ref l/\vs=[.int i]/\H l=some (.lst xs)/\-(2^63)<=i/\i<2^63/\seqIndex? i xs.length=some k/\xs[k]? = some y/\Q y (upd H l (.lst (xs.eraseIdx k)))
theorem ui:MtM X "list.pop" ua:=by
 intro pins s σ H x vs v us Q I rx rv h;obtain⟨l,xs,i,k,y,rfl,rfl,hH,h1,h2,hk,hy,q⟩:=h;cases rx;obtain⟨u,rfl,ru⟩:=rv.one;obtain⟨t,rfl⟩:=ru;obtain⟨z,its,n,r,hl,e⟩:=I.lstM hH;obtain⟨w,hw,rw'⟩:=r.get hy;refine call_meets F.slot_list_pop ⟨_,e,rfl⟩ F.entry_list_pop (F.args_list_pop_2 _ _)
  (MeetsSeq.list_pop_at l its.toArray n i t k w (fitsIndex_both h1 h2) (by rw[aP,<-hl];exact hk) (by rw[<-Array.getElem?_toList];exact hw) (by rw[aP];lia)) ⟨e,?_⟩
 refine⟨y,_,I.lset (its':=its.eraseIdx k) hH e ?_ (r.eraseIdx k) ?_,rw',q⟩
 ·show its.toArray.eraseIdxIfInBounds k=(its.eraseIdx k).toArray;rw[List.eraseIdxIfInBounds_toArray]
 ·have:=mT xs k;lia
end
section
variable{prog:aw}{w:au}{A:ax}{E:ae->af->Prop}{s:af}
set_option maxRecDepth 100000 in
end
section
variable{X:Cx}
end
end L2
namespace Att
open PySem PySem.W PySem.Calls PyProof.Rows
theorem B7{P:Params}{h:Heap}:∀(ns:List Int) (vs:List ae),WellAll P h vs (ns.map WData.int)->ba vs ns:=by
 intro ns
 induction ns with
 |nil=>
  intro vs w;rw[List.map_nil]at w;cases w;exact .nil
 |cons n ns ih=>
  intro vs w;rw[aQ]at w;cases w with
  |cons a b=>
   cases a;exact .cons _ _ (ih _ b)
theorem xQ{l:OpenLaw}{n:Nat}(hn:l.most=some n){P:Params}{h:Heap}{args:List WData}{vals:List ae}
  (hpre:l.row.toRowW.claim.pre args=true) (hwl:WellAll P h vals args) :
  ∃a vs ns,vals=[aW a]/\args=[WData.list (ns.map WData.int)]/\h.get? a=some {cls:=.type "list",data:=.seq vs.toArray}/\ba vs ns/\ns.length<=n:=by
 have hsh:WShape.hasAll [] args [.list .int]=true:=(pre_splitW hpre).1;have hc:l.pre.holds [] {args:=args}=true:=(pre_splitW hpre).2;obtain⟨d,r,rfl,h1,h2⟩:=hasAllW_cons hsh;obtain rfl:=hasAllW_nil h2;obtain⟨xs,rfl,h3⟩:=hasW_list h1;obtain⟨ns,rfl⟩:=items_int h3;have hlen:ns.length<=n:=by
  unfold OpenLaw.pre at hc;have h4:(WTm.not (.lt (.lit (.int (n:Int))) (.len (.arg 0)))).holds [] {args:=[.list (ns.map .int)]}=true:=by
   have h4:=(holds_andW hc).1;rw[hn]at h4;exact h4
  have h5:=condW_of h4 (w_not (w_lt w_lit (w_len_list (w_arg rfl))));rw[aF]at h5;refine Nat.le_of_not_lt λq=>?_
  have q':(n:Int)<((ns.length:Nat):Int):=by lia
  first
   | (rw[decide_eq_true q']at h5;exact absurd h5 (by decide))
   | (simp at h5;lia)
 cases hwl with
 |cons w1 w2=>
  cases w2;cases w1 with
  |list ho hall=>exact⟨_,_,ns,rfl,rfl,ho,B7 ns _ hall,hlen⟩
theorem A4(l:OpenLaw)(args:List WData):l.row.toRowW.claim.post args (.bool true) args=true:=
 postW_of (r:=l.row.toRowW) (X:=(true==true))
  (show WShape.has [] (.bool true) .bool=true by first|rfl|decide|simp[WShape.has,WShape.arms,WShape.armsAll])
  (show (WTm.eq .res (.lit (.bool true))).value [] {args:=args,res:=some (.bool true),after:=args}=some (.bool (true==true))from w_eq_bool (w_res rfl) w_lit) rfl
theorem AI{l:OpenLaw}{n:Nat}{q:aw}{loose:List Str}{XP:(Str->Option ae)->Heap->Prop}{YP:au->Heap->Prop}{d:DefRec}
  (hn:l.most=some n) (hdf:d.params.defaults=[])
  (call:∀(w:au) (s₀ s₁:af) (mg mb:Str->Option ae) (fa:Addr) (o:Obj) (pm cd doc:ae) (a:Addr) (vs:List ae) (ns:List Int),
   Ground q loose [] XP w s₀ mg mb s₁.heap->YP w s₁.heap ->
   s₁.heap.get? fa=some o->o.data=.func (docDef d.name d.params d.body d.scope pm cd doc)->s₁.heap.CodeRec cd d.name->mg d.name=some (.ref fa) ->
   s₁.heap.get? a=some {cls:=.type "list",data:=.seq vs.toArray}->ba vs ns->ns.length<=n->s₁.gens = #[] ->
   codeAny (aj l.prog w) callerA (.call (.ref fa) ⟨[.ref a],[]⟩) (λr s'=>r=.ok (.ret (.bool true))/\OldK s₁.heap s'.heap/\s'.os=s₁.os/\AllBare s'.gens) s₁) :
  WalkO q loose XP YP l.row.toRowW d [] (λf vs=>PySem.call f vs):=by
 intro w s₀ s₁ mg mb G Y fa o pm cd doc dV kV ho hd hcd hD hmg hg args vals as hpre hlay hrd hwl hlo;obtain rfl:dV=.none:=Dflts.none hD hdf;obtain rfl:kV=.none:=Dflts.noKw hD;obtain⟨a,vs,ns,rfl,rfl,hobj,hints,hlen⟩:=xQ hn hpre hwl;refine enter_call (codeAny_mono (call w s₀ s₁ mg mb fa o pm cd doc a vs ns G Y ho (fd_plain hd) hcd hmg hobj hints hlen hg) λr s' hq=>?_);obtain⟨rfl,h2,h3,h4⟩:=hq;exact⟨.inl ⟨.bool true,.bool true,[],rfl,λ_=>rfl,.bool true,A4 l _,λ_=>⟨List.Pairwise.nil,λ_ hm=>(nomatch hm)⟩⟩,h2,h3,h4⟩
section
variable{prog:aw}{w:au}{A:ax}{E:ae->af->Prop}{s:af}{K:Frag}
end
end Att
namespace L2
open PySem PySem.Spec PyProof.Rows
theorem m5:∀{vs:List ae}{ns:List Int},ba vs ns->Vals (ns.map V.int) vs
 |_,_,.nil=>.nil
 |_,_,.cons n t h=>.cons ⟨t,rfl⟩ (m5 h)
noncomputable def lB(H:Hp):Prop:=∀b,H b=none\/∃o xs,H b=some (.frz o (.lst xs))
theorem uK{P:aw}{w:au}{K:aq}{mg mb:Str->Option ae}{CX:CXT}{k:Nat}{fa a:Addr}{fd:bC}{x:Str}{sp:Sp}{s₁:af}{vs:List ae}{ns:List Int}
  (KX:K.In s₁.heap) (hns:s₁.heap.Ns ak mg) (hb:s₁.heap.Ns builtinsNs mb) (hbb:∀x:Str,x≠"__name__"->mb x=bG x) (hlim:s₁.heap.NoLimit) (hg:s₁.gens = #[])
  (ha:s₁.heap.get? a=some {cls:=.type "list",data:=.seq vs.toArray}) (hi:ba vs ns) (hl:ns.length<=aH) (hr:cm k callerA)
  (F:∀base:Heap,K.In base->base.Ns ak mg->fD P w K mg base CX k fa fd [x] sp) (hbind:∀(s:af) (u:ae),BindsTo s fd ⟨[u],[]⟩ [(x,u)])
  (hsp:∀H:Hp,lB H->SqL K H a (ns.map V.int)->sp [.ref a] H (λv _=>v=.bl true) λ_ _ _=>False)
  (hCX:∀H e s',CX [] H s₁ (λ_ _ _=>False) e s'->False) :
  codeAny (aj P w) callerA (.call (.ref fa) ⟨[.ref a],[]⟩) (λr s'=>r=.ok (.ret (.bool true))/\OldK s₁.heap s'.heap/\s'.os=s₁.os/\AllBare s'.gens) s₁:=by
 have rv:=m5 hi;have lenV:=hi.length
 -- from an abstract heap in which nothing but the script may be tracked
 have core:∀H:Hp,lB H->SqL K H a (ns.map V.int)->HOk P w H s₁.heap->(∀b,H b≠none->b=a)->(H a≠none->K.lookup a=none) ->
   codeAny (aj P w) callerA (.call (.ref fa) ⟨[.ref a],[]⟩) (λr s'=>r=.ok (.ret (.bool true))/\OldK s₁.heap s'.heap/\s'.os=s₁.os/\AllBare s'.gens) s₁:=by
  intro H hO hS hok hA hK;have base_of:∀{b:Addr}{o:Obj},s₁.heap.get? b=some o->H b=none->(eY s₁.heap H).get? b=some o:=λe n=>A0 e n
  have noA:∀{b:Addr}{o:Obj}{es:Array DictEntry}{ep:Nat},s₁.heap.get? b=some o->o.data=.dict es ep->H b=none:=λ{b o es ep} e d=>by
   cases q:H b with
   |none=>rfl
   |some u=>
    have e':b=a:=hA b (by rw[q];simp);subst e';rw[ha]at e;cases e;have d':Data.seq vs.toArray _=Data.dict es ep:=d;cases d'
  have nsK:∀{b:Addr}{m:Str->Option ae},s₁.heap.Ns b m->(eY s₁.heap H).Ns b m:=λ{b m} ⟨o,es,ep,e,d,r⟩=>⟨o,es,ep,base_of e (noA e d),d,r⟩
  have hKb:K.In (eY s₁.heap H):=λb o e=>base_of (KX b o e) (by
   cases q:H b with
   |none=>rfl
   |some u=>
    have e':b=a:=hA b (by rw[q];simp);subst e';rw[hK (by rw[q];simp)]at e;cases e)
  have hM:Mod K mg (eY s₁.heap H):=⟨hKb,nsK hns,⟨mb,nsK hb,hbb⟩,let ⟨mc,h1,h2⟩:=hlim;⟨mc,nsK h1,h2⟩⟩
  have e0:fN P w K mg (eY s₁.heap H) callerA [] s₁ H:=⟨rfl,hM,λb o e=>Cg e,Nat.le_of_eq (D0 _ _),trivial,λb hb=>absurd (show b∈([]:List Addr)from hb) (by simp),hok,.of_eq hg⟩
  refine codeAny_mono ((F _ hKb (nsK hns)).run callerA [] s₁ H ⟨[.ref a],[]⟩ [.ref a] [.ref a] _ _ hr e0 (hbind s₁ (.ref a)) (.cons rfl .nil) (hsp H hO hS)) λr s' h=>?_
  cases r with
  |error e=>exact(hCX H e s' h).elim
  |ok fl=>
   cases fl with
   |next=>exact aS h
   |brk=>exact aS h
   |cont=>exact aS h
   |ret u=>
    obtain⟨v,H',os,bare,un,hok',r',q⟩:=h;have q':v=.bl true:=q;subst q';obtain rfl:u=bu true:=r';refine⟨rfl,OldK.of_keep λb o e=>?_,os,bare⟩;cases q:H b with
    |none=>exact un.keep b o e q (by intro z;exact absurd (show b∈([]:List Addr)from z) (by simp)) (by simp)
    |some u=>
     rcases hO b with z|⟨ob,xs,z⟩
     ·rw[q]at z;cases z
     ·have z2:=un.frzs b ob _ z;obtain⟨e1,_⟩:=hok b _ z;obtain⟨e2,_⟩:=hok' b _ z2;rw[e]at e1;cases e1;exact e2
 cases hk:K.lookup a with
 |some o=>
  -- the script is one of the module's own objects
  have e:=KX a o hk;rw[ha]at e;cases e;refine core (λ_=>none) (λ_=>.inl rfl) (.inr ⟨_,vs.toArray,_,hk,rfl,rfl,rfl,by rw[aP,lenV];exact hl,by simpa using rv⟩) (λb u z=>by have z':(none:Option HO)=some u:=z;cases z') (λb z=>absurd rfl z) λz=>absurd rfl z
 |none=>
  refine core (λb=>if b=a then some (.frz {cls:=.type "list",data:=.seq vs.toArray} (.lst (ns.map V.int)))else none) (λb=>?_) (.inl (.inr ⟨{cls:=.type "list",data:=.seq vs.toArray},if_pos rfl⟩)) (λb u z=>?_) (λb z=>?_) λ_=>hk
  ·by_cases hb:b=a
   ·exact .inr ⟨_,_,if_pos hb⟩
   ·exact .inl (if_neg hb)
  ·by_cases hb:b=a
   ·have z':=(if_pos hb).symm.trans z;cases z';subst hb;exact⟨ha,by rw[aF];exact hl,vs,_,rv,ha⟩
   ·have z':=(if_neg hb).symm.trans z;cases z'
  ·by_cases hb:b=a
   ·exact hb
   ·exact absurd (if_neg hb) z
theorem wD{l:PySem.W.OpenLaw}{n k:Nat}{q:aw}{loose:List Str}{XP:(Str->Option ae)->Heap->Prop}{YP:au->Heap->Prop}{d:DefRec}{K:Params->aq}{CX:au->CXT}{sp:au->Sp}{x:Str}
  (hn:l.most=some n) (hn2:n<=aH) (hdf:d.params.defaults=[]) (hr:cm k callerA)
  (hY:∀(w:au) (h:Heap),YP w h->(K w.params).In h)
  (F:∀(w:au) (mg:Str->Option ae) (fa:Addr) (h:Heap),(K w.params).In h->h.Ns ak mg->mg d.name=some (.ref fa) ->
   ∃fd:bC,(∀(s:af) (u:ae),BindsTo s fd ⟨[u],[]⟩ [(x,u)]) /\
    ∀base:Heap,(K w.params).In base->base.Ns ak mg->fD l.prog w (K w.params) mg base (CX w) k fa fd [x] (sp w))
  (hsp:∀(w:au) (H:Hp) (a:Addr) (ns:List Int),ns.length<=n->lB H->SqL (K w.params) H a (ns.map V.int)->sp w [.ref a] H (λv _=>v=.bl true) λ_ _ _=>False)
  (hCX:∀(w:au) (H:Hp) (s:af) (e:ae) (s':af),CX w [] H s (λ_ _ _=>False) e s'->False) :
  PySem.W.WalkO q loose XP YP l.row.toRowW d [] (λf vs=>PySem.call f vs):=by
 refine Att.AI hn hdf λw s₀ s₁ mg mb fa o pm cd doc a vs ns G Y ho hd hcd hmg hobj hints hlen hg=>?_
 have KX:=hY w _ Y;obtain⟨fd,hb,hF⟩:=F w mg fa _ KX G.T.g hmg;exact uK KX G.T.g G.T.b G.T.builtins G.T.nolimit hg hobj hints (a_ hlen hn2) hr hF hb (λH hO hS=>hsp w H a ns hlen hO hS) λH e s'=>hCX w H s₁ e s'
end L2
/- THE LAST THEOREM (shape; LID, My.* are yours):
   My.Adr: a structure of the addresses that your layer names (classes, functions); My.Txt K t: a structure (Prop) of the equations over K;
   My.txt_mk : {K} {implicit addresses ..} (e1 : nsIn K mainGlobals "law" = some (some (.ref f))) (e2 : K.lookup f = some ⟨oc, od, .func (fnOf "law" "law" params body scope dV kV doc pm an cdv ct), sl⟩) (e3 : codeIn K cdv "law" = true) .. : ∃ t, My.Txt K t
set_option maxRecDepth 100000 in
set_option maxHeartbeats 0 in
theorem PySem.Challenge.cw_LID_holds : PySem.Challenge.rw_LID.Holds := by
 w_on; o_law; k_head; (case hw => w_witness2)
 k_fill
 refine L2.walk_of (l := PySem.Challenge.rw_LID) (n := 63) (k := 40) (x := "script") (CX := fun w => ..) (sp := fun _ => My.sp_law) rfl (by decide) rfl ⟨rfl, by decide, by decide⟩ (fun w h Y => PySem.W.kIn_of Y) ?F ?S ?C
 case F =>
  intro w mg fa h KX G hmg;have T : ∃ t, My.Txt (L2.KOf KX) t := by
   dsimp only [L2.KOf]                          -- K must stand as «<heap const> w.params» for k_is
   refine' My.txt_mk ?e1 ?e2 ?e3 ..
   (case e1 => PySem.W.k_is)                    -- in the order: a name -> its address -> its object -> its parts
   (case e2 => PySem.W.k_is)
   ..
  obtain ⟨t, T⟩ := T;have e0 := hmg.symm.trans (PySem.W.mg_of KX G T.law);cases e0                                       -- fa is the law's own address
  exact ⟨_, fun s u => .of_eq rfl, fun base kb nb => My.law_fn T kb nb⟩     -- if «.of_eq rfl» comes too early: refine' ⟨_, ?b, fun base kb nb => My.law_fn T kb nb⟩; exact fun s u => .of_eq rfl
 case S => exact fun w H a ns hl hO hS => ..
 case C => exact ..
(the tactic k_is has no namespace: write k_is) -/
namespace L2
open PySem PySem.Spec PyProof.Rows
noncomputable def za(s:Stmt):Arguments:=match s with
 | .FunctionDef _ a _ _ _ _ _ _ _ _=>a
 |_=>{posonlyargs:=[],args:=[],vararg:=none,kwonlyargs:=[],kw_defaults:=[],kwarg:=none,defaults:=[]}
noncomputable def dE(s:Stmt):List Stmt:=match s with
 | .FunctionDef _ _ b _ _ _ _ _ _ _=>b
 |_=>[]
noncomputable def qZ(s:Stmt):Scope:=match s with
 | .FunctionDef _ _ _ _ _ _ sc _ _ _=>sc
 |_=>{kind:=.function,names:=[],isGenerator:=false,isCoroutine:=false}
abbrev E0:XK:=λ_ _ _=>False
structure Fun(K:aq)(x qual:Str)(st:Stmt)(f:Addr)(fd:bC):Prop where
 ex:∃(oc:ae) (od:Option Addr) (kV doc pm:ae) (an:Option Addr) (cdv ct:ae) (osl:Array (Option ae)),
  fd=bX x qual (za st) (dE st) (qZ st) .none kV doc pm an cdv ct/\K.lookup f=some ⟨oc,od,.func fd,osl⟩/\PySem.W.codeIn K cdv qual=true
 kp:cJ K (.ref f)=true
section
variable{P:aw}{w:au}{K:aq}{mg:Str->Option ae}{base:Heap}
theorem Fun.binds{x qual:Str}{st:Stmt}{f:Addr}{fd:bC}{ps:List Str}(F:Fun K x qual st f fd)
  (h:∀(kV doc pm:ae) (an:Option Addr) (cdv ct:ae) (us:List ae),us.length=ps.length->bindArgs (bX x qual (za st) (dE st) (qZ st) .none kV doc pm an cdv ct) ⟨us,[]⟩=pure (ps.zip us)):Binds K fd ps []:=by
 obtain⟨oc,od,kV,doc,pm,an,cdv,ct,osl,rfl,lk,hcd⟩:=F.ex;exact .all (h kV doc pm an cdv ct)
theorem nH{x qual:Str}{st:Stmt}{f:Addr}{oc:ae}{od an:Option Addr}{osl:Array (Option ae)}{kV doc pm cdv ct:ae}(l:K.lookup f=some ⟨oc,od,.func (bX x qual (za st) (dE st) (qZ st) .none kV doc pm an cdv ct),osl⟩)
  (c:PySem.W.codeIn K cdv qual=true) (k:cJ K (.ref f)=true):Fun K x qual st f (bX x qual (za st) (dE st) (qZ st) .none kV doc pm an cdv ct):=⟨⟨oc,od,kV,doc,pm,an,cdv,ct,osl,rfl,l,c⟩,k⟩
end
section
variable{X:Cx}
end
noncomputable def qf(H H':Hp):Prop:=∀b o,H b=some o->H' b=some o
theorem qf.refl(H:Hp):qf H H:=λ_ _ h=>h
theorem qf.trans{H H1 H2:Hp}(a:qf H H1)(b:qf H1 H2):qf H H2:=λc o h=>b c o (a c o h)
theorem qf.free{H H':Hp}(e:qf H H'){l:Addr}(h:H' l=Option.none):H l=Option.none:=by
 cases q:H l with
 |none=>rfl
 |some o=>
  rw[e l o q]at h;cases h
theorem qf.seq{K:aq}{H H':Hp}{a:Addr}{xs:List V}(e:qf H H')(h:SqL K H a xs):SqL K H' a xs:=by
 rcases h with (h|⟨o,h⟩)|h
 ·exact .inl (.inl (e _ _ h))
 ·exact .inl (.inr ⟨o,e _ _ h⟩)
 ·exact .inr h
noncomputable def eR(elt:Expr)(gens:List cb)(scope:aO)(pos:Pos)(d:Nat)(acc:ae)(env:Env):Sem Unit:=
 match gens[d+1]? with
 |some g'=>do
  let x <-eval g'.iter env
  standAt g'.iter.pos
  let x <-foldedSetIterable g'.iter env x
  let _ <-runOwn (.compStart (.ListComp elt gens scope pos) (d+1) (<-holding [x] (pyIter x)) acc env) env
  pure ()
 |none=>do
  let _ <-call (.builtin "list.append") [acc,<-eval elt env]
  pure ()
theorem vD{elt:Expr}{gens:List cb}{scope:aO}{pos:Pos}{d:Nat}{g:cb}{it acc:ae}{env:Env}(hg:gens[d]? = some g)(ha:g.is_async=0)
  (hn:∀g',gens[d+1]? = some g'->g'.is_async=0) :
  compTurn (.ListComp elt gens scope pos) d it acc env=(do
   standAt g.iter.pos
   match <-pyNext it with
   |none=>pure (.done .next)
   |some v=>
    letOwnedTupleGo g.target it v
    assign g.target env v
    let ok <-(forIn g.ifs true λc r=>if r=true then do let ok <-isTrue c env (eval c env);pure (dm ok)else pure (dm r))
    if ok then
     eR elt gens scope pos d acc env
     again (.compLoop (.ListComp elt gens scope pos) d it acc env)
    else again (.compLoop (.ListComp elt gens scope pos) d it acc env)):=by
 unfold compTurn;cases e:gens[d+1]? with
 |none=>
  simp only[hg,ha,e,eR]
  rfl
 |some g'=>
  have ha':=hn g' e;simp only[hg,ha,e,ha',eR];simp only[bne_self_eq_false,bU,if_false,bind_assoc,pure_bind]
  rfl
theorem EC{prog:aw}{w:au}{A:ax}{R:Result->af->Prop}{s:af}{elt:Expr}{gens:List cb}{scope:aO}{pos:Pos}{d:Nat}{g:cb}{it acc:ae}{env:Env}
  (hg:gens[d]? = some g) (ha:g.is_async=0)
  (h0:codeAny (aj prog w) A (.compLoop (.ListComp elt gens scope pos) d it acc env) R s)
  (h:ai (aj prog w) A (pyIter it) (λit' s'=>codeAny (aj prog w) A (.compLoop (.ListComp elt gens scope pos) d it' acc env) R s')
   (notedBy (aj prog w) A env λx s'=>R (.error x) s') s) :
  codeAny (aj prog w) A (.compStart (.ListComp elt gens scope pos) d it acc env) R s:=by
 refine codeAny_of_tree ?_;show ai _ _ ((compStart (.ListComp elt gens scope pos) d it acc env).onRaise (λx=>do noteFrame x env;standAt theWindowsPlace)) _ _ s;refine wpAny_notedAt ?_;unfold compStart;have e2:(clausesOf (.ListComp elt gens scope pos))[d]? = some g:=hg;simp only[e2];rw[if_neg (by show ¬ (g.is_async != 0)=true;simp[ha])];show ai _ _ (ask>>=_) _ _ s;refine ah (wpAny_askSetting (wpAny_ite ?_));split
 ·first
   |exact ah (aC (aC (ar rfl h0)))
   |exact aC (ar rfl h0)
 ·first
   |exact ah (wpAny_rule (ah (wpAny_standAt (ah (bL h (λit' s' h'=>aC (ar rfl h')) λ_ _ x=>x)))))
   | (refine ah (wpAny_rule ?_);show ai _ _ (standAt g.iter.pos>>=_) _ _ s;exact ah (wpAny_standAt (ah (bL h (λit' s' h'=>aC (ar rfl h')) λ_ _ x=>x))))
noncomputable def PTs(Y:Cx)(ifs:List Expr)(t:TT):Prop:=
 ∀(pins:List (Addr×Obj)) (s:af) (σ:St) (H:Hp) (Q:Bool->Hp->Prop),Inv Y pins σ H s->t σ H Q ->
  ai (aj Y.prog Y.w) Y.A (forIn ifs true λc r=>if r=true then do let ok <-isTrue c Y.env (eval c Y.env);pure (dm ok)else pure (dm r)) (TP Y pins σ Q) Y.xe s
noncomputable def w6:TT:=λ_ H Q=>Q true H
theorem vH{Y:Cx}:PTs Y [] w6:=λ_ _ _ H _ I h=>wpAny_tests_nil ⟨H,I,h⟩
theorem Bt{Y:Cx}{c:Expr}{t:TT}(hc:PT Y c t):PTs Y [c] t:=λpins s σ H Q I h=>wpAny_tests_one (hc pins s σ H Q I h)
noncomputable def PB(Y:Cx)(m:Sem Unit)(t:TS):Prop:=
 ∀(pins:List (Addr×Obj)) (s:af) (σ:St) (H:Hp) (D:Ends),Inv Y pins σ H s->t D σ H ->
  ai (aj Y.prog Y.w) Y.A m (λ_ s'=>∃σ' H',Inv Y pins σ' H' s'/\D.nx σ' H') Y.xe s
section
variable{Y:Cx}{elt:Expr}{gens:List cb}{scope:aO}{pos:Pos}{d:Nat}
noncomputable def jn(acc:Addr)(te:TE):TS:=λD σ H=>te σ H λy H1=>∃xs,H1 acc=some (.lst xs)/\xs.length<aH/\D.nx σ (upd H1 acc (.lst (xs++[y])))
theorem p7{acc:Addr}{te:TE}(hn:gens[d+1]? = none)(he:PE Y elt te):PB Y (eR elt gens scope pos d (.ref acc) Y.env) (jn acc te):=by
 intro pins s σ H D I h;unfold eR;rw[hn];refine ah (thn (he pins s σ H _ I h) λu s1 ⟨y,H1,I1,r1,xs,hx,hz,q⟩=>?_);refine ah (thn (oS pins s1 σ H1 (.ref acc) [y] (.ref acc) [u] (λ_ H'=>D.nx σ H') I1 rfl (.cons r1 .nil) ⟨acc,xs,y,rfl,rfl,hx,hz,q⟩) λ_ s2 ⟨_,H2,I2,_,q2⟩=>?_);exact aC ⟨σ,H2,I2,q2⟩
theorem wL{g:cb}{it:Addr}{acc:ae}{fp:List Addr}{tn:Nat->Heap->Prop}{J:It}{tg:TG}{tt:TT}{tb:TS}(hc:Y.calm=true)(hx:∀e s,¬ Y.xe e s)(hg:gens[d]? = some g)(ha:g.is_async=0)
  (hn:∀g',gens[d+1]? = some g'->g'.is_async=0) (T:Turn Y.prog Y.w Y.K g.target J fp it tn) (pg:PG Y g.target tg) (pt:PTs Y g.ifs tt) (pb:PB Y (eR elt gens scope pos d acc Y.env) tb)
  {pins:List (Addr×Obj)}{s:af}{σ:St}{H:Hp}{D:Ends} (I:Inv Y pins σ H s) (st:tn 0 s.heap) (fr:∀b∈fp,dq Y pins H b)
  (h:∃W:Nat->Nat->St->Hp->Prop,(∃m,W 0 m σ H)/\∀i m σ H,W i m σ H ->
   (J.stop i H/\D.nx σ H)\/(J.go i H/\∃N:St->Hp->Prop,(∀σ' H',N σ' H'->∃m',m'<m/\W (i+1) m' σ' H')/\∀x H',J.yld i H x H'->tg x σ H' λσ2 H2=>jg tt tb iq {D with nx:=N,ct:=N,bk:=D.nx} σ2 H2)) :
  codeAny (aj Y.prog Y.w) Y.A (.compLoop (.ListComp elt gens scope pos) d (.ref it) acc Y.env) (λr s'=>r=.ok .next/\∃σ' H',Inv Y pins σ' H' s'/\D.nx σ' H') s:=by
 obtain⟨W,⟨m0,w0⟩,turn⟩:=h;have stat:∀{H':Hp},(∀b∈fp,H' b=none)->∀b∈fp,dq Y pins H' b:=λhn b hb=>⟨hn b hb,(fr b hb).2⟩
 refine codeAny_loop rfl (λn s'=>∃i σ' H',Inv Y pins σ' H' s'/\tn i s'.heap/\(∀b∈fp,H' b=none)/\W i n σ' H') ?_ m0 ⟨0,σ,H,I,st,λb hb=>(fr b hb).1,w0⟩;rintro n s3 ⟨i,σ3,H3,I3,st3,fr3,w3⟩;show ai _ Y.A ((compTurn (.ListComp elt gens scope pos) d (.ref it) acc Y.env).onRaise (λx=>do noteFrame x Y.env;theTreesLotGoes x)) _ _ s3;refine wpAny_noted ?_;rw[vD hg ha hn];have nox:∀{E:ae->af->Prop} (e:ae) (s:af),Y.xe e s->E e s:=λe s z=>absurd z (hx e s)
 refine ah (wpAny_standAt ?_);rcases turn i n σ3 H3 w3 with ⟨stop,qn⟩|⟨go,N,hN,step⟩
 ·refine ah (thn (T.done Y rfl rfl rfl hc i pins s3 σ3 H3 _ I3 (stat fr3) st3 stop) λr s4 ⟨hr,I4⟩=>?_);subst hr;exact aC ⟨rfl,σ3,H3,I4,qn⟩
 ·refine ah (thn (T.item Y rfl rfl rfl hc i pins s3 σ3 H3 _ I3 (stat fr3) st3 go) λr s4 ⟨u,hr,h4⟩=>?_);subst hr;refine ah (thn h4 λ_ s5 ⟨x,H5,I5,r5,y5,st5,fr5⟩=>?_);have I5':=I5.pinned (stat fr5) (T.obj _ _ st5);refine ah (bL (pg _ s5 σ3 H5 x u _ I5' r5 (step x H5 y5)) (λ_ s6 ⟨σ6,H6,I6,q6⟩=>?_) nox);have again:∀{s7:af}{σ7:St}{H7:Hp},Inv Y (pins++ip fp s5.heap) σ7 H7 s7->N σ7 H7->∃m,m<n/\∃i σ' H',Inv Y pins σ' H' s7/\tn i s7.heap/\(∀b∈fp,H' b=none)/\W i m σ' H':=λ{s7 σ7 H7} I7 n7=>by
   obtain⟨m',hm,w7⟩:=hN σ7 H7 n7;refine⟨m',hm,i+1,σ7,H7,I7.unpinned,T.keep _ _ _ st5 λb hb o e=>(I7.pin (b,o) (cG _ (cG _ (jK hb e)))).1,λb hb=>?_,w7⟩;obtain⟨o,e,d⟩:=T.obj _ _ st5 b hb;exact(I7.pin (b,o) (cG _ (cG _ (jK hb e)))).2.1
  refine ah (bL (pt _ s6 σ6 H6 _ I6 q6) (λb s7 ⟨H7,I7,q7⟩=>?_) nox);cases b with
  |true=>
   rw[if_pos rfl];rw[if_pos rfl]at q7;refine ah (bL (pb _ s7 σ6 H7 _ I7 q7) (λ_ s8 ⟨σ8,H8,I8,q8⟩=>?_) nox);exact aC ⟨rfl,again I8 q8⟩
  |false=>
   rw[if_neg bI];rw[if_neg bI]at q7;exact aC ⟨rfl,again I7 q7⟩
end
theorem kJ{env:Env}:∀{names:List (Str×aN)}{cs:List (Str×Addr)},(∀x∈names,x.2=.free->∃c,env.cells.lookup x.1=some c) ->
  ∃cl,(forIn names cs (λ(x:Str×aN) (cs:List (Str×Addr))=>if (x.2==bW)=true then do let c <-cellOf env x.1;pure (dm ((x.1,c)::cs))else pure (dm cs)):Sem (List (Str×Addr)))=pure cl /\
   (∀x c,cl.lookup x=some c->env.cells.lookup x=some c\/cs.lookup x=some c)/\(∀x,(∃c,cs.lookup x=some c)->∃c,cl.lookup x=some c)/\∀x∈names,x.2=.free->∃c,cl.lookup x.1=some c
 | [],cs,_=>⟨cs,by rw[List.forIn_nil],λ_ _ h=>.inr h,λ_ h=>h,λ_ h=>nomatch h⟩
 | (n,k)::r,cs,h=>by
  rw[List.forIn_cons];by_cases hk:k=.free
  ·subst hk;obtain⟨c,hc⟩:=h (n,.free) aJ rfl;have e:cellOf env n=pure c:=by
    have hc':env.cells.lookup n=some c:=hc;unfold cellOf;rw[hc']
   obtain⟨cl,e1,e2,e3,e4⟩:=kJ (names:=r) (cs:=(n,c)::cs) λx hx=>h x (aK _ hx)
   refine⟨cl,?_,λx c' q=>?_,λx q=>e3 x ?_,λx hx hf=>?_⟩
   ·simp only[beq_self_eq_true,if_true,e,pure_bind];exact e1
   ·rcases e2 x c' q with z|z
    ·exact .inl z
    ·rw[bf]at z;by_cases hxn:(x==n)=true
     ·rw[hxn]at z;have:x=n:=by simpa using hxn
      subst this;cases z;exact .inl hc
     ·have hxn':(x==n)=false:=by simpa using hxn
      rw[hxn']at z;exact .inr z
   ·rw[bf];by_cases hxn:(x==n)=true
    ·rw[hxn];exact⟨c,rfl⟩
    ·have hxn':(x==n)=false:=by simpa using hxn
     rw[hxn'];exact q
   ·rcases aD.mp hx with z|z
    ·subst z;exact e3 n ⟨c,by rw[bf,beq_self_eq_true]⟩
    ·exact e4 x z hf
  ·have hk':(k==bW)=false:=by simpa using hk
   obtain⟨cl,e1,e2,e3,e4⟩:=kJ (names:=r) (cs:=cs) λx hx=>h x (aK _ hx)
   refine⟨cl,?_,e2,e3,λx hx hf=>?_⟩
   ·simp only[hk',bU,if_false,pure_bind];exact e1
   ·rcases aD.mp hx with z|z
    ·subst z;exact absurd hf hk
    ·exact e4 x z hf
theorem nE{env:Env}{scope:aO}(h:∀x∈scope.names,x.2=.free->∃c,env.cells.lookup x.1=some c) :
  ∃cl,closureFor scope env=pure cl/\(∀x c,cl.lookup x=some c->env.cells.lookup x=some c)/\∀x∈scope.names,x.2=.free->∃c,cl.lookup x.1=some c:=by
 obtain⟨cl,e1,e2,_,e4⟩:=kJ (env:=env) (names:=scope.names) (cs:=[]) h;refine⟨cl,?_,λx c q=>(e2 x c q).elim (λz=>z) (λz=>by simp at z),e4⟩;have e:closureFor scope env=(forIn scope.names [] (λ(x:Str×aN) (cs:List (Str×Addr))=>if (x.2==bW)=true then do let c <-cellOf env x.1;pure (dm ((x.1,c)::cs))else pure (dm cs))>>=λcs=>pure cs):=rfl;rw[e,e1,pure_bind]
theorem jd{env:Env}:∀{names:List (Str×aN)}{x:Str}{k:aN},
  (names.map λ(n,k)=>if (k==bW&&env.scope.kind==.function&&env.kindOf n==some .cell)then (n,aN.cell)else (n,k)).lookup x=some k ->
  names.lookup x=some k\/(k=.cell/\names.lookup x=some .free)
 | [],_,_,h=>by simp at h
 | (n,k')::r,x,k,h=>by
  have ih:=@jd env r x k;have h':List.lookup x ((if (k'==bW&&env.scope.kind==.function&&env.kindOf n==some .cell)=true then (n,aN.cell)else (n,k'))::r.map (λ(n,k)=>if (k==bW&&env.scope.kind==.function&&env.kindOf n==some .cell)then (n,aN.cell)else (n,k)))=some k:=h;cases hx:x==n with
  |true=>
   by_cases hc:(k'==bW&&env.scope.kind==.function&&env.kindOf n==some .cell)=true
   ·rw[if_pos hc]at h';simp only[bf,hx]at h';cases h';have:k'=.free:=by
     have z:(k'==bW)=true:=by
      cases q:(k'==bW)with
      |true=>rfl
      |false=>rw[q]at hc;simp at hc
     simpa using z
    subst this;exact .inr ⟨rfl,by simp[bf,hx]⟩
   ·rw[if_neg hc]at h';simp only[bf,hx]at h';cases h';exact .inl (by simp[bf,hx])
  |false=>
   have h2:(r.map (λ(n,k)=>if (k==bW&&env.scope.kind==.function&&env.kindOf n==some .cell)then (n,aN.cell)else (n,k))).lookup x=some k:=by
    by_cases hc:(k'==bW&&env.scope.kind==.function&&env.kindOf n==some .cell)=true
    ·rw[if_pos hc]at h';simpa only[bf,hx]using h'
    ·rw[if_neg hc]at h';simpa only[bf,hx]using h'
   rcases ih h2 with z|z
   ·exact .inl (by simpa only[bf,hx]using z)
   ·exact .inr ⟨z.1,by simpa only[bf,hx]using z.2⟩
noncomputable def ij(names:List (Str×aN)):List Str:=(names.filter λy=>y.2==.cell).map (·.1)
theorem lR:∀(names:List (Str×aN)) (n:Nat) (a b:List (Str×Addr)),aX n names (a++b)=aX n names a++b
 | [],_,_,_=>rfl
 | (x,k)::r,n,a,b=>by
  unfold aX;split
  ·exact lR r (n+1) ((x,n)::a) b
  ·exact lR r n a b
theorem km{x:Str}{c:Addr}:∀{names:List (Str×aN)}{n:Nat}{a:List (Str×Addr)},(x,c)∈aX n names a->(x,c)∈a\/(x,aN.cell)∈names
 | [],_,_,h=>.inl h
 | (y,k)::r,n,a,h=>by
  unfold aX at h;split at h
  ·rename_i hk
   rcases km h with z|z
   ·rcases aD.mp z with q|q
    ·have hk:k=.cell:=by simpa using hk
     cases q;exact .inr (by rw[hk];exact aJ)
    ·exact .inl q
   ·exact .inr (aK _ z)
  ·rcases km h with z|z
   ·exact .inl z
   ·exact .inr (aK _ z)
theorem AH{M:Model}{A:ax}{E:ae->af->Prop}{s:af}{scope:aO}{globals:Addr}{cl:List (Str×Addr)}{qual:Str}{env:Env}{Q:Env->af->Prop}
  (hQ:∀h₁,h₁.Ns s.heap.objs.size (λ_=>none)->(∀b o,s.heap.get? b=some o->h₁.get? b=some o)->CellsOk h₁ (s.heap.objs.size+1) (aX (s.heap.objs.size+1) scope.names []) ->
   Q (newEnv scope s.heap.objs.size globals (aX (s.heap.objs.size+1) scope.names []++cl) qual none .none (some env) builtinsNs) {s with heap:=h₁}) :
  ai M A (newFunctionEnv scope globals cl [] qual none .none (some env)) Q E s:=by
 simp only[newFunctionEnv,Option.isSome_some,if_true];refine ah (wpAny_alloc ?_);refine ah (wpAny_layCells _ (λname kind cells=>by cases hkc:kind==aN.cell<;>simp[hkc]) _ _ _ _ ?_);have ok:=cellsFrom_ok scope.names (s.heap.push {cls:=.type "dict",data:=.dict #[]}) (s.heap.objs.size+1) [] ⟨λ_ _ hm=>(nomatch hm),List.Pairwise.nil⟩ (by rw[bQ];exact ay _);rw[bQ]at ok;rw[show ({s with heap:=s.heap.push {cls:=.type "dict",data:=.dict #[]}}:af).heap.objs.size=s.heap.objs.size+1 from bQ ..];rw[show cl=[]++cl from rfl,lR];rw[List.forIn_nil];exact ah (aC (aC (hQ _ ((Heap.Ns.new s.heap (.type "dict")).keeps (pushCells_keeps _ _)) (λb o e=>pushCells_keeps _ _ b o (Heap.get?_push_of_some _ e)) ok)))
noncomputable def cw(X:Cx)(NY:List Str)(scope:aO)(cl:List (Str×Addr))(C:Addr)(s₀:af)(H₀:Hp)(fp:List Addr):Cx where
 prog:=X.prog
 w:=X.w
 K:=X.K
 mg:=X.mg
 base:=X.base
 A:=X.A
 N:=NY
 s₀:=s₀
 H₀:=H₀
 env:=compEnvC scope (aX (C+1) scope.names []++cl) C X.env
 outer:=X.stack
 stack:=X.stack
 ex:=fp
 fn:=λx=>(ij scope.names).contains x
 calm:=X.calm
 pn:=[]
 xe:=λ_ _=>False
noncomputable def caps(cap:List (Option Nat))(σ:St):St:=cap.map λo=>o.bind λj=>(σ[j]?).join
noncomputable def oH(X:Cx)(NY:List Str)(cap:List (Option Nat))(scope:aO):Prop:=
 cap.length=NY.length/\∀(i j:Nat),cap[i]? = some (some j)->∃x,NY[i]? = some x/\X.N[j]? = some x/\scope.names.lookup x=some .free/\(X.env.kindOf x=some .cell\/X.env.kindOf x=some .free)
structure dW(X:Cx)(NY:List Str)(cap:List (Option Nat))(scope:aO):Prop where
 kind:scope.kind=.function
 cells:∀y∈scope.names,y.2=.cell->scope.names.lookup y.1=some .cell
 names:∀y∈scope.names,y.2=.local->scope.names.lookup y.1=some .local
 free:∀y∈scope.names,y.2=.free->X.env.kindOf y.1=some .cell\/X.env.kindOf y.1=some .free
 cap:oH X NY cap scope
theorem wG{cap:List (Option Nat)}{σ:St}{i:Nat}{v:V}(h:(caps cap σ)[i]? = some (some v)):∃j,cap[i]? = some (some j)/\σ[j]? = some (some v):=by
 unfold caps at h;rw[List.getElem?_map]at h;cases e:cap[i]? with
 |none=>rw[e]at h;simp at h
 |some o=>
  rw[e]at h;cases o with
  |none=>simp at h
  |some j=>
   refine⟨j,rfl,?_⟩;have h':(σ[j]?).join=some v:=by simpa using h
   cases q:σ[j]? with
   |none=>rw[q]at h';cases h'
   |some z=>rw[q]at h';exact congrArg some h'
theorem vj{X:Cx}{pins:List (Addr×Obj)}{σ:St}{H:Hp}{s:af}{NY:List Str}{cap:List (Option Nat)}{scope:aO}{cl:List (Str×Addr)}{fp:List Addr}{h₁:Heap}{m:Str->Option ae}
  (I:Inv X pins σ H s) (S:dW X NY cap scope) (hsub:∀x c,cl.lookup x=some c->X.env.cells.lookup x=some c) (hall:∀x∈scope.names,x.2=.free->∃c,cl.lookup x.1=some c)
  (hf:∀b∈fp,dq X pins H b) (hlt:∀b∈fp,b<s.heap.objs.size) (hn:h₁.Ns s.heap.objs.size m) (hk:∀b o,s.heap.get? b=some o->h₁.get? b=some o) (hcs:CellsOk h₁ (s.heap.objs.size+1) (aX (s.heap.objs.size+1) scope.names [])) {tk:Nat} :
  Inv (cw X NY scope cl s.heap.objs.size s H fp) [] (caps cap σ) H {s with heap:=h₁,toks:=tk}:=by
 have relx:∀x,(compEnvC scope (aX (s.heap.objs.size+1) scope.names []++cl) s.heap.objs.size X.env).kindOf x=some .cell\/(compEnvC scope (aX (s.heap.objs.size+1) scope.names []++cl) s.heap.objs.size X.env).kindOf x=some .free->scope.names.lookup x=some .free\/scope.names.lookup x=some .cell:=λx hx=>by
  rcases hx with q|q
  ·rcases jd (env:=X.env) (names:=scope.names) (x:=x) (k:=.cell) q with z|z
   ·exact .inr z
   ·exact .inl z.2
  ·rcases jd (env:=X.env) (names:=scope.names) (x:=x) (k:=.free) q with z|z
   ·exact .inl z
   ·exact .inl z.2
 have cnew:∀x c,cl.lookup x=some c->c<s.heap.objs.size:=λx c e=>by
  obtain⟨v,q⟩:=I.cell x c (hsub x c e);exact q.lt
 -- a cell is one of its own, or one from around
 have two:∀x c,(aX (s.heap.objs.size+1) scope.names []++cl).lookup x=some c->(x,c)∈aX (s.heap.objs.size+1) scope.names []\/cl.lookup x=some c:=λx c e=>by
  rw[List.lookup_append]at e;cases q:(aX (s.heap.objs.size+1) scope.names []).lookup x with
  |none=>rw[q]at e;exact .inr e
  |some c'=>rw[q]at e;cases e;exact .inl (cH q)
 have own1:∀x c,(x,c)∈aX (s.heap.objs.size+1) scope.names []->scope.names.lookup x=some .cell:=λx c e=>by
  rcases km e with z|z
  ·cases z
  ·exact S.cells _ z rfl
 have ownA:∀x c,(x,c)∈aX (s.heap.objs.size+1) scope.names []->s.heap.objs.size<c:=λx c e=>(hcs.empty x c e).2
 have frl:∀x c,scope.names.lookup x=some .free->cl.lookup x=some c->(aX (s.heap.objs.size+1) scope.names []++cl).lookup x=some c:=λx c e1 e2=>by
  rw[List.lookup_append];cases q:(aX (s.heap.objs.size+1) scope.names []).lookup x with
  |none=>rw[e2];rfl
  |some c'=>have:=own1 x c' (cH q);rw[e1]at this;cases this
 refine⟨⟨I.ok.mod,S.kind,I.ok.glob,I.ok.blt,ay _,λx y c e1 e2=>?_,λx hx=>?_,λx c e e2=>?_,I.ok.hd,I.ok.frames,.inl rfl,λb hb=>?_,λb o e=>I.bs b o e,a_ I.ok.bsz I.sz,λb o e hb=>?_,λb hb z=>?_,I.stack,I.stkFree⟩,
  rfl,I.bare,Un.kept hk,⟨m,hn,λi x v e1 e2 e3=>?_⟩,λx c e=>?_,I.hok.fresh (ay _),λx c e=>?_,λp hp=>absurd (show p∈([]:List (Addr×Obj))from hp) (by simp),I.hok.kept hk,?_⟩
 ·rcases two x c e1 with z1|z1<;>rcases two y c e2 with z2|z2
  ·exact name_of_addr hcs.apart z1 z2
  ·exact absurd (Nat.lt_trans (cnew y c z2) (ownA x c z1)) (br _)
  ·exact absurd (Nat.lt_trans (cnew x c z1) (ownA y c z2)) (br _)
  ·exact I.ok.inj x y c (hsub x c z1) (hsub y c z2)
 ·rcases relx x hx with z|z
  ·obtain⟨c,hc⟩:=hall (x,.free) (cH z) rfl;exact⟨c,frl x c z hc⟩
  ·obtain⟨c,hc⟩:=jS (n:=s.heap.objs.size+1) z;refine⟨c,?_⟩;show (aX (s.heap.objs.size+1) scope.names []++cl).lookup x=some c;rw[List.lookup_append,hc];rfl
 ·have e:(ij scope.names).contains x=true:=e;have hm:scope.names.lookup x=some .cell:=by
   simp only[ij,List.contains_iff_mem,aM,dk,beq_iff_eq]at e;obtain⟨y,⟨y1,y2⟩,rfl⟩:=e;exact S.cells y y1 y2
  rcases two x c e2 with z|z
  ·exact Nat.le_of_lt (ownA x c z)
  ·obtain⟨c',hc⟩:=jS (n:=s.heap.objs.size+1) hm;have e2:(aX (s.heap.objs.size+1) scope.names []++cl).lookup x=some c:=e2;rw[List.lookup_append,hc]at e2;cases e2;exact Nat.le_of_lt (ownA x _ (cH hc))
 ·obtain⟨f0,f1,f2,f3,f4,f5⟩:=hf b hb;refine⟨aU (hlt b hb),λx c e=>?_⟩;rcases two x c e with z|z
  ·exact λw=>absurd (Nat.lt_trans (ownA x c z) (w▸hlt b hb)) (br _)
  ·exact f4 x c (hsub x c z)
 ·obtain⟨f0,f1,f2,f3,f4,f5⟩:=hf b hb;rcases f3 with z|z
  ·exact I.ok.noex b o e z
  ·exact absurd (bc (aG e) (a_ I.ok.bsz z)) (br _)
 ·obtain⟨f0,f1,f2,f3,f4,f5⟩:=hf b hb;rcases aD.mp (I.stkSub b z)with q|q
  ·exact f1 q
  ·exact f2 q
 ·obtain⟨j,c1,c2⟩:=wG e2;obtain⟨x',n1,n2,n3,n4⟩:=S.cap.2 i j c1;have ex:x'=x:=bB (n1.symm.trans e1);subst ex;obtain⟨m',_,hl⟩:=I.loc;obtain⟨u,r,l⟩:=hl j x' v n2 c2 (n4.elim (λz=>.inr (.inl z)) λz=>.inr (.inr z));refine⟨u,r,.inr ⟨?_,?_⟩⟩
  ·rcases e3 with z|z|z
   ·rcases jd (env:=X.env) (names:=scope.names) (x:=x') (k:=.local) z with q|q
    ·rw[n3]at q;cases q
    ·cases q.1
   ·exact .inl z
   ·exact .inr z
  ·rcases l with ⟨kk,_⟩|⟨_,c,ec,ic⟩
   ·rcases n4 with z|z
    ·rw[kk]at z;cases z
    ·rw[kk]at z;cases z
   ·obtain⟨c',ec'⟩:=hall (x',.free) (cH n3) rfl;have:=hsub x' c' ec';rw[ec]at this;cases this;obtain⟨o,ho,hd⟩:=ic;exact⟨c,frl x' c n3 ec',o,hk _ _ ho,hd⟩
 ·rcases two x c e with z|z
  ·exact⟨_,(hcs.empty x c z).1⟩
  ·obtain⟨v,o,ho,hd⟩:=I.cell x c (hsub x c z);exact⟨v,o,hk _ _ ho,hd⟩
 ·rcases two x c e with z|z
  ·exact I.hok.fresh (Nat.le_of_lt (ownA x c z))
  ·exact I.freeC x c (hsub x c z)
 ·show (caps cap σ).length=NY.length;unfold caps;rw[aF];exact S.cap.1
noncomputable def lM(cap:List (Option Nat))(wi:TI)(tg:TG)(tt:TT)(tb:Addr->TS):TE:=λσ H Q=>wi σ H λJ H1=>∀acc,H1 acc=none ->
 ∃W:Nat->Nat->St->Hp->Prop,(∃m,W 0 m (caps cap σ) (upd H1 acc (.lst [])))/\∀i m τ H,W i m τ H ->
  (J.stop i H/\(Ends.mk (λ_ H=>Q (.ref acc) H) (λ_ _=>False) (λ_ _=>False) (λ_ _=>False)).nx τ H)\/(J.go i H/\∃N:St->Hp->Prop,(∀σ' H',N σ' H'->∃m',m'<m/\W (i+1) m' σ' H')/\∀x H',J.yld i H x H' ->
   tg x τ H' λσ2 H2=>jg tt (tb acc) iq {(Ends.mk (λ_ H=>Q (.ref acc) H) (λ_ _=>False) (λ_ _=>False) (λ_ _=>False))with nx:=N,ct:=N,bk:=(Ends.mk (λ_ H=>Q (.ref acc) H) (λ_ _=>False) (λ_ _=>False) (λ_ _=>False)).nx} σ2 H2)
structure Loose(X:Cx)(pins:List (Addr×Obj))(C:Addr):Prop where
 loc:C≠X.env.locals
 cell:∀x c,X.env.cells.lookup x=some c->c≠C
 up:X.s₀.heap.objs.size<=C
 pin:∀p∈X.pn++pins,p.1≠C
theorem Loose.turn{X:Cx}{pins:List (Addr×Obj)}{C:Addr}{σ:St}{H:Hp}{s:af}{h':Heap}(L:Loose X pins C)(I:Inv X pins σ H s)(hn:H C=none)(hs:Heap.SameBut C s.heap h'):Inv X pins σ H {s with heap:=h'}:=
 I.turned (t':=s.toks) (it:=C) (λb o hb e=>(hs.2 b hb).trans e) hn L.loc (.inr L.up) L.cell L.pin
section
variable{X:Cx}{elt tgt it:Expr}{ifs:List Expr}{gs:List cb}{scope:aO}{pos:Pos}{NY:List Str}{cap:List (Option Nat)}{wi:TI}{tg:TG}{tt:TT}{tb:Addr->TS}
theorem rJ{Q:VK}{pins:List (Addr×Obj)}{σ:St}{H:Hp}{s s2:af}{cl:List (Str×Addr)}{itv:ae}{E:ae->af->Prop}{use:Option (ae->Sem Unit)}{QQ:ae->af->Prop}
  (hc:X.calm=true) (S:dW X NY cap scope) (hng:∀g'∈gs,g'.is_async=0)
  (hsub:∀x c,cl.lookup x=some c->X.env.cells.lookup x=some c) (hall:∀x∈scope.names,x.2=.free->∃c,cl.lookup x.1=some c)
  (hb:∀cl C s₀ H₀ fp,PG (cw X NY scope cl C s₀ H₀ fp) tgt tg/\PTs (cw X NY scope cl C s₀ H₀ fp) ifs tt/\∀acc,PB (cw X NY scope cl C s₀ H₀ fp) (eR elt (⟨tgt,it,ifs,0⟩::gs) scope pos 0 (.ref acc) (cw X NY scope cl C s₀ H₀ fp).env) (tb acc))
  (h2:PIE X pins σ tgt (λJ H1=>∀acc,H1 acc=none ->
   ∃W:Nat->Nat->St->Hp->Prop,(∃m,W 0 m (caps cap σ) (upd H1 acc (.lst [])))/\∀i m τ H,W i m τ H ->
    (J.stop i H/\(Ends.mk (λ_ H=>Q (.ref acc) H) (λ_ _=>False) (λ_ _=>False) (λ_ _=>False)).nx τ H)\/(J.go i H/\∃N:St->Hp->Prop,(∀σ' H',N σ' H'->∃m',m'<m/\W (i+1) m' σ' H')/\∀x H',J.yld i H x H' ->
     tg x τ H' λσ2 H2=>jg tt (tb acc) iq {(Ends.mk (λ_ H=>Q (.ref acc) H) (λ_ _=>False) (λ_ _=>False) (λ_ _=>False))with nx:=N,ct:=N,bk:=(Ends.mk (λ_ H=>Q (.ref acc) H) (λ_ _=>False) (λ_ _=>False) (λ_ _=>False)).nx} σ2 H2)) itv s2)
  (fin:∀(acc C:Addr) (s':af) (m:Str->Option ae) (H':Hp),s'.heap.Ns C m->Loose X pins C->Inv X pins σ H' s'->H' C=none->Q (.ref acc) H'->compPost (aj X.prog X.w) X.A E use QQ (.ref acc) C (.ok .next) s') :
  ai (aj X.prog X.w) X.A (newList []) (λacc s₃=>ai (aj X.prog X.w) X.A (newFunctionEnv scope X.env.globals cl [] X.env.qual none .none (some X.env)) (λcenv s₄=>
   codeAny (aj X.prog X.w) X.A (.compStart (.ListComp elt (⟨tgt,it,ifs,0⟩::gs) scope pos) 0 itv acc {cenv with scope:=relabel scope X.env}) (compPost (aj X.prog X.w) X.A E use QQ acc cenv.locals) s₄) E s₃) E s2:=by
 obtain⟨ia,fp,tn,J,H2,e,I2,T,st2,f2,q⟩:=h2;subst e;have hlt2:∀b∈fp,b<s2.heap.objs.size:=λb hb=>by
  obtain⟨o,ho,_⟩:=T.obj _ _ st2 b hb;exact aG ho
 refine wpAny_newObj_type ?_;have hacc:H2 s2.heap.objs.size=none:=I2.hok.fresh (ay _);have I3:Inv X pins σ (upd H2 s2.heap.objs.size (.lst [])) {s2 with heap:=s2.heap.push {cls:=.type "list",dict:=none,data:=.seq ([]:List ae).toArray}}:=
  I2.laid (t':=s2.toks) (λb u e=>Heap.get?_push_of_some _ e) (ay _) ⟨cf _,[],0,.nil,Heap.get?_push_size _ rfl⟩
 have hsz3:(s2.heap.push {cls:=.type "list",dict:=none,data:=.seq ([]:List ae).toArray}).objs.size=s2.heap.objs.size+1:=bQ ..;generalize hs3:({s2 with heap:=s2.heap.push {cls:=.type "list",dict:=none,data:=.seq ([]:List ae).toArray}}:af)=s3 at I3 ⊢;have hsz:s3.heap.objs.size=s2.heap.objs.size+1:=by rw[<-hs3];exact hsz3
 have st3:tn 0 s3.heap:=T.keep _ _ _ st2 λb hb o e=>by rw[<-hs3];exact Heap.get?_push_of_some _ e
 have f3:∀b∈fp,dq X pins (upd H2 s2.heap.objs.size (.lst [])) b:=λb hb=>⟨by rw[qh (aU (hlt2 b hb))];exact(f2 b hb).1,(f2 b hb).2⟩
 have hlt3:∀b∈fp,b<s3.heap.objs.size:=λb hb=>by rw[hsz];exact Nat.lt_succ_of_lt (hlt2 b hb)
 refine AH λh₁ hns₁ hk1 hcs=>?_
 have IY:=vj (tk:=s3.toks) I3 S hsub hall f3 hlt3 hns₁ hk1 hcs;have stY:tn 0 h₁:=T.keep _ _ _ st3 λb hb o e=>hk1 b o e
 obtain⟨pg,pt,pb⟩:=hb cl s3.heap.objs.size s3 (upd H2 s2.heap.objs.size (.lst [])) fp;have fY:∀b∈fp,dq (cw X NY scope cl s3.heap.objs.size s3 (upd H2 s2.heap.objs.size (.lst [])) fp) [] (upd H2 s2.heap.objs.size (.lst [])) b:=λb hb=>by
  obtain⟨g0,g1,g2,g3,g4,g5⟩:=f3 b hb;refine⟨g0,aU (hlt3 b hb),λz=>?_,.inl hb,(IY.ok.exf b hb).2,λp hp=>absurd (show p∈([]:List (Addr×Obj))from hp) (by simp)⟩;rcases aD.mp (I3.stkSub b z)with w|w
  ·exact g1 w
  ·exact g2 w
 have L:=wL (elt:=elt) (gens:=⟨tgt,it,ifs,0⟩::gs) (scope:=scope) (pos:=pos) (d:=0) (Y:=cw X NY scope cl s3.heap.objs.size s3 (upd H2 s2.heap.objs.size (.lst [])) fp) (acc:=.ref s2.heap.objs.size) hc (λ_ _ z=>z) rfl rfl
  (λg' hg'=>hng g' (List.mem_of_getElem? (i:=0) (by simpa using hg'))) T pg pt (pb s2.heap.objs.size) IY stY fY (q s2.heap.objs.size hacc)
 refine codeAny_mono (EC (elt:=elt) (gens:=⟨tgt,it,ifs,0⟩::gs) (scope:=scope) (pos:=pos) (d:=0) (env:=compEnvC scope (aX (s3.heap.objs.size+1) scope.names []++cl) s3.heap.objs.size X.env) rfl rfl L (T.self _ 0 _ _ _ stY L)) λr s' ⟨e,τ',H',I',q'⟩=>?_
 subst e;obtain⟨m',hn',_⟩:=id I'.loc;have hLne:s3.heap.objs.size≠X.env.locals:=Nat.ne_of_gt I3.lt;have hCne:∀x c,X.env.cells.lookup x=some c->c≠s3.heap.objs.size:=λx c e z=>by
  obtain⟨v,qv⟩:=I3.cell x c e;exact absurd qv.lt (by rw[z];exact br _)
 have J1:Inv X pins σ H' s':=by
  refine I3.call' (ch:=fp) I'.os I'.base I'.hok I'.bare λb hb=>?_
  obtain⟨g0,g1,g2,g3,g4,g5⟩:=f3 b hb;exact⟨g3,g1,g4,g5⟩
 refine fin s2.heap.objs.size s3.heap.objs.size s' m' H' hn' ⟨hLne,hCne,I3.sz,λp hp z=>?_⟩ J1 I'.free q';have:=aG (I3.pin p hp).1;rw[z]at this;exact br _ this
theorem Bf(hc:X.calm=true)(S:dW X NY cap scope)(hi:PI X tgt it wi)
  (hb:∀cl C s₀ H₀ fp,PG (cw X NY scope cl C s₀ H₀ fp) tgt tg/\PTs (cw X NY scope cl C s₀ H₀ fp) ifs tt/\∀acc,PB (cw X NY scope cl C s₀ H₀ fp) (eR elt (⟨tgt,it,ifs,0⟩::gs) scope pos 0 (.ref acc) (cw X NY scope cl C s₀ H₀ fp).env) (tb acc))
  (hng:∀g'∈gs,g'.is_async=0:=by simp)
  (hs:∀x,foldedSetIterable it X.env x=pure x:=by intro _;rfl):PE X (.ListComp elt (⟨tgt,it,ifs,0⟩::gs) scope pos) (lM cap wi tg tt tb):=by
 intro pins s σ H Q I h;obtain⟨cl,hcl,hsub,hall⟩:=nE (env:=X.env) (scope:=scope) λx hx hf=>I.ok.has x.1 (S.free x hx hf)
 rw[eval_ListComp];refine wpAny_comprehension_free (use:=none) rfl hs hcl S.kind S.names (thn (hi pins s σ H _ I h) λv s1 h1=>thn h1 λitv s2 h2=>?_);exact rJ (s:=s) (H:=H) (use:=none) hc S hng hsub hall hb h2 λacc C s' m H' hn L I' hC q=>⟨m,hn,λh' hs'=>⟨.ref acc,H',L.turn I' hC hs',rfl,q⟩⟩
theorem xu{i:Nat}{x:Str}{pos' spos:Pos}(hN:X.N.Nodup)(hix:X.N[i]? = some x)(hx:Loc X.env.scope x)(hc:X.calm=true)(S:dW X NY cap scope)(hi:PI X tgt it wi)
  (hb:∀cl C s₀ H₀ fp,PG (cw X NY scope cl C s₀ H₀ fp) tgt tg/\PTs (cw X NY scope cl C s₀ H₀ fp) ifs tt/\∀acc,PB (cw X NY scope cl C s₀ H₀ fp) (eR elt (⟨tgt,it,ifs,0⟩::gs) scope pos 0 (.ref acc) (cw X NY scope cl C s₀ H₀ fp).env) (tb acc))
  (hng:∀g'∈gs,g'.is_async=0:=by simp)
  (hsw:swapsWith (.ListComp elt (⟨tgt,it,ifs,0⟩::gs) scope pos) (some (.Name x pos')) spos.line X.env=pure true:=by rfl)
  (hf:X.fn x=true\/X.env.scope.names.lookup x=some .local:=by first|exact .inl rfl|exact .inr rfl|assumption)
  (hs:∀x,foldedSetIterable it X.env x=pure x:=by intro _;rfl) :
  PS X (.Assign [.Name x pos'] (.ListComp elt (⟨tgt,it,ifs,0⟩::gs) scope pos) spos) (jI (lM cap wi tg tt tb) (fI i)):=by
 intro pins s σ H D I h;obtain⟨cl,hcl,hsub,hall⟩:=nE (env:=X.env) (scope:=scope) λx hx hf=>I.ok.has x.1 (S.free x hx hf)
 rw[exec_Assign_Name_used _ _ _ _ hsw];refine ah (wpAny_standAt (ah ?_));show ai _ _ (do let _ <-comprehension (.ListComp elt (⟨tgt,it,ifs,0⟩::gs) scope pos) scope X.env _ (newList []) false (eval it X.env) (some (assign (.Name x pos') X.env))) _ _ s;refine ah (bL (wpAny_comprehension_free (use:=some (assign (.Name x pos') X.env)) (Q:=λ_ s'=>SP X pins D .next s') rfl hs hcl S.kind S.names (thn (hi pins s σ H _ I h) λv s1 h1=>thn h1 λitv s2 h2=>?_)) (λ_ s' q=>aC (aC q)) λ_ _ e=>e);refine rJ (s:=s) (H:=H) (Q:=λx H1=>fI i x σ H1 D.nx) (use:=some (assign (.Name x pos') X.env)) hc S hng hsub hall hb h2 λacc C s' m H' hn L I1 hC q1=>?_
 show ai _ _ (assign (.Name x pos') X.env (.ref acc)) _ _ _;refine wpAny_assign_Name (oj (v:=.ref acc) I1 hN hix hx rfl (λs3 I3 ⟨a,hsa,ha⟩=>?_) hf);have hCa:C≠a:=by
  rcases ha with z|z
  ·rw[z];exact L.loc
  ·exact Ne.symm (L.cell x a z)
 exact⟨m,hn.sameBut hsa hCa,λh' hsb=>⟨_,H',L.turn I3 hC hsb,q1⟩⟩
end
theorem zI.there{P:aw}{w:au}{H:Hp}{h:Heap}{a:Addr}{o:HO}(x:zI P w H h a o):∃u,h.get? a=some u:=by
 cases o with
 |lst xs=>obtain⟨_,_,_,_,e⟩:=x;exact⟨_,e⟩
 |tup xs=>obtain⟨_,_,_,o,e,_⟩:=x;exact⟨_,e⟩
 |dK kvs=>obtain⟨_,_,_,_,o,_,_,e,_⟩:=x;exact⟨_,e⟩
 |dT kvs=>obtain⟨_,_,_,_,o,_,_,e,_⟩:=x;exact⟨_,e⟩
 |set S n=>obtain⟨o,_,_,_,e,_⟩:=x;exact⟨_,e⟩
 |ins C dx fs=>obtain⟨_,_,_,e,_⟩:=x;exact⟨_,e⟩
 |own y=>obtain⟨_,e⟩:=x;exact⟨_,e⟩
 |xd fs=>obtain⟨_,⟨_,_,_,e,_⟩,_⟩:=x;exact⟨_,e⟩
 |rng lo hi=>obtain⟨_,_,_,e⟩:=x;exact⟨_,e⟩
 |frz ob u=>obtain⟨e,_⟩:=x;exact⟨_,e⟩
 |tbl ps=>exact⟨_,(show h.get? a=some _ from x)⟩
 |met f y=>exact⟨_,(show h.get? a=some _ from x)⟩
 |ext φ=>obtain⟨_,e,_⟩:=x;exact e
theorem HOk.free_of{P:aw}{w:au}{H:Hp}{h:Heap}{a:Addr}(x:HOk P w H h)(e:h.get? a=none):H a=none:=by
 cases q:H a with
 |none=>rfl
 |some o=>obtain⟨u,z⟩:=(x a o q).there;rw[e]at z;cases z
structure Apart(X:Cx)(pins:List (Addr×Obj))(H:Hp)(b:Addr):Prop where
 new:X.s₀.heap.get? b=none
 free:H b=none
 pin:∀p∈X.pn++pins,p.1≠b
structure b7(X:Cx)(pins:List (Addr×Obj))(H:Hp)(h:Heap)(x:Addr)(cls:ae):Prop where
 me:Apart X pins H x
 tr:∃oe vs T oT ts a0,h.get? x=some oe/\oe.cls=cls/\vs[0]? = some a0/\oe.data=.fields vs/\vs[1]? = some (.ref T)/\T≠x/\h.get? T=some oT/\oT.data=.fields ts/\ts[3]? = some .none/\Apart X pins H T
structure Fly(h₀ h:Heap)(H:Hp)(x:Addr)(cls:ae):Prop where
 new:h₀.get? x=none
 free:H x=none
 tr:∃oe vs T oT ts a0,h.get? x=some oe/\oe.cls=cls/\vs[0]? = some a0/\oe.data=.fields vs/\vs[1]? = some (.ref T)/\T≠x/\h.get? T=some oT/\oT.data=.fields ts/\ts[3]? = some .none/\h₀.get? T=none/\H T=none
noncomputable def CX1(P:aw)(w:au):CXT:=λouter H s E e s'=>
 ∃x cls H',e=.ref x/\s'.os=s.os/\AllBare s'.gens/\Un (frs outer) [] H H' s.heap s'.heap/\HOk P w H' s'.heap/\Fly s.heap s'.heap H' x cls/\E cls none H'
section
variable{X:Cx}{pins:List (Addr×Obj)}{σ:St}{H:Hp}{s:af}{x T:Addr}{cls:ae}
theorem Inv.stepN{h':Heap}{t':Nat}{ch:List Addr}(I:Inv X pins σ H s)(hex:X.ex=[])(hch:∀b∈ch,Apart X pins H b/\b≠X.env.locals/\(∀x c,X.env.cells.lookup x=some c->c≠b)/\b∉X.fs)
  (keep:∀b o,b∉frs X.stack->b≠X.env.locals->b∉X.fs->b∉ch->s.heap.get? b=some o->h'.get? b=some o)
  (slot:∀b o,(b∈frs X.stack\/b=X.env.locals\/b∈X.fs)->s.heap.get? b=some o->∃sl,h'.get? b=some {o with slots:=sl}) (there:∀b o,b∉ch->s.heap.get? b=some o->∃o',h'.get? b=some o') :
  Inv X pins σ H {s with heap:=h',toks:=t'}:=by
 have sub:∀b,b∈frs X.stack->b=X.env.locals\/b∈X.fs:=λb hb=>aD.mp (I.stkSub b hb)
 have keep':∀b o,b≠X.env.locals->b∉X.fs->b∉ch->s.heap.get? b=some o->h'.get? b=some o:=λb o h1 h2 h3 e=>keep b o (λz=>(sub b z).elim h1 h2) h1 h2 h3 e
 have neL:∀b o,X.s₀.heap.get? b=some o->b≠X.env.locals:=λb o e=>aU (bc (aG e) I.ok.above)
 have neC:∀b o,X.s₀.heap.get? b=some o->b∉ch:=λb o e hb=>by
  have:=(hch b hb).1.new;rw[e]at this;cases this
 have cellK:∀x c,X.env.cells.lookup x=some c->∀v,s.heap.IsCell c v->h'.IsCell c v:=λx c e v ⟨o,ho,hd⟩=>by
  have nch:c∉ch:=λz=>(hch c z).2.2.1 x c e rfl
  by_cases hc:c∈X.fs
  ·obtain⟨sl,q⟩:=slot c o (.inr (.inr hc)) ho;exact⟨_,q,hd⟩
  ·exact⟨o,keep' c o (I.cne x c e) hc nch ho,hd⟩
 have nex:∀b,b∉X.ex:=λb=>by rw[hex];simp
 refine⟨I.ok,I.os,I.bare,⟨λb o e n hb hx=>?_,λb o e n hb hx=>?_,I.base.free,λb o e hx=>?_,I.base.tups,I.base.frzs,I.base.tbls⟩,?_,λx c e=>?_,I.free,I.freeC,λp hp=>?_,λb u e=>?_,I.len⟩
 ·exact keep' b o (neL b o e) hb (neC b o e) (I.base.keep b o e n hb hx)
 ·obtain⟨sl,e1⟩:=I.base.slot b o e n hb hx;obtain⟨sl',e2⟩:=slot b _ (.inr (.inr hb)) e1;exact⟨sl',e2⟩
 ·obtain⟨o',e1⟩:=I.base.there b o e hx;exact there b o' (neC b o e) e1
 ·obtain⟨m,hn,hl⟩:=I.loc;obtain⟨oL,es,ep,hoL,hdL,r⟩:=id hn;obtain⟨sl,eL⟩:=slot _ _ (.inr (.inl rfl)) hoL;refine⟨m,⟨_,es,ep,eL,hdL,r⟩,λi x v e1 e2 e3=>?_⟩;obtain⟨u,ru,l⟩:=hl i x v e1 e2 e3;refine⟨u,ru,?_⟩;rcases l with l|⟨k,c,e,z⟩
  ·exact .inl l
  ·exact .inr ⟨k,c,e,cellK x c e _ z⟩
 ·obtain⟨v,z⟩:=I.cell x c e;exact⟨v,cellK x c e v z⟩
 ·obtain⟨e,n,ne,nf,d⟩:=I.pin p hp;exact⟨keep' p.1 p.2 ne nf (λz=>(hch p.1 z).1.pin p hp rfl) e,n,ne,nf,d⟩
 ·have nfr:∀b,(∃u,H b=some u)->b≠X.env.locals/\b∉X.fs/\b∉ch:=λb ⟨u,e⟩=>by
   refine⟨λz=>?_,λz=>?_,λz=>?_⟩
   ·rw[z,I.free]at e;cases e
   ·obtain⟨_,o,ho,_⟩:=I.ok.funs.mem z;have:=I.base.free b o ho (I.ok.frf b z) (nex b);rw[e]at this;cases this
   ·have:=(hch b z).1.free;rw[e]at this;cases this
  refine(I.hok b u e).stay (λc v hc q=>?_) (λ_ q=>q) λ_ _ q=>q
  have hc':∃u,H c=some u:=by
   rcases hc with z|z
   ·exact⟨u,by rw[z];exact e⟩
   ·exact⟨_,z⟩
  obtain⟨n1,n2,n3⟩:=nfr c hc';exact keep' c v n1 n2 n3 q
theorem Inv.rec_ne(I:Inv X pins σ H s){b:Addr}{o:Obj}{vs:Array ae}(e:s.heap.get? b=some o)(d:o.data=.fields vs):b≠X.env.locals/\(∀x c,X.env.cells.lookup x=some c->c≠b)/\b∉X.fs/\b∉frs X.stack:=by
 have h1:b≠X.env.locals:=λz=>by
  obtain⟨m,⟨o',es,ep,ho,hd,_⟩,_⟩:=I.loc;rw[<-z,e]at ho;cases ho;rw[d]at hd;cases hd
 have h3:b∉X.fs:=λz=>by
  obtain⟨_,o',ho,hn⟩:=I.funs.mem z;rw[e]at ho;cases ho;exact hn vs d
 refine⟨h1,λx c ec z=>?_,h3,λz=>(aD.mp (I.stkSub b z)).elim h1 h3⟩;obtain⟨v,o',ho,hd⟩:=I.cell x c ec;rw[z,e]at ho;cases ho;rw[d]at hd;cases hd
theorem b7.flying(I:Inv X pins σ H s)(F:b7 X pins H s.heap x cls):∃T oT ts a0,Heap.FlyingW (PySem.W.hideAll s.heap (x::T::frs X.stack)) X.stack x cls a0 s.heap/\s.heap.get? T=some oT/\oT.data=.fields ts/\Apart X pins H T:=by
 obtain⟨oe,vs,T,oT,ts,a0,e1,e2,e3,e4,e5,e6,e7,e8,e9,e10⟩:=F.tr;refine⟨T,oT,ts,a0,⟨λb o q=>PySem.W.of_hideAll _ q,PySem.W.hideAll_none _ aJ,?_,oe,vs,T,oT,ts,e1,⟨e2,e3⟩,e4,e5,PySem.W.hideAll_none _ (aK _ aJ),e6,e7,e8,e9⟩,e7,e8,e10⟩;exact PySem.W.funFrames_hide I.stack λenv he a ha=>aK _ (aK _ (List.mem_filterMap.mpr ⟨env,he,ha⟩))
theorem b7.back(I:Inv X pins σ H s)(hex:X.ex=[])(me:Apart X pins H x){ox:Obj}{vs:Array ae}(hx:s.heap.get? x=some ox)(hxd:ox.data=.fields vs){oT:Obj}{ts:Array ae}(hT:s.heap.get? T=some oT)(hTd:oT.data=.fields ts)(aT:Apart X pins H T)
  {l:List Env}{a0:ae}{h':Heap} (W:Heap.FlyingW (PySem.W.hideAll s.heap (x::T::frs X.stack)) l x cls a0 h') (u:s.heap.UpToSlots h') :
  Inv X pins σ H {s with heap:=h'}/\b7 X pins H h' x cls:=by
 obtain⟨w1,w2,w3,oe',vs',T',oT',ts',f1,⟨f2,f3⟩,f4,f5,f6,f7,f8,f9,f10⟩:=W;obtain⟨nx1,nx2,nx3,nx4⟩:=I.rec_ne hx hxd;obtain⟨nt1,nt2,nt3,nt4⟩:=I.rec_ne hT hTd;have frd:∀b o,(b∈frs X.stack\/b=X.env.locals\/b∈X.fs)->s.heap.get? b=some o->∀ws,o.data≠.fields ws:=λb o hb e ws d=>by
  obtain⟨n1,n2,n3,n4⟩:=I.rec_ne e d;rcases hb with z|z|z
  ·exact n4 z
  ·exact n1 z
  ·exact n3 z
 have nch:∀b,b∉[x,T]->b∉frs X.stack->b∉(x::T::frs X.stack):=λb h1 h2 h3=>by
  rcases aD.mp h3 with z|h3
  ·exact h1 (by simp[z])
  ·rcases aD.mp h3 with z|h3
   ·exact h1 (by simp[z])
   ·exact h2 h3
 refine⟨?_,me,oe',vs',T',oT',ts',a0,f1,f2,f3,f4,f5,f7,f8,f9,f10,?_⟩
 ·refine I.stepN (t':=s.toks) (ch:=[x,T]) hex (λb hb=>?_) (λb o h1 h2 h3 h4 e=>w1 b o (dO _ e (nch b h4 h1))) (λb o hb e=>u b o e (frd b o hb e)) λb o h4 e=>?_
  ·rcases aD.mp hb with z|hb
   ·subst z;exact⟨me,nx1,nx2,nx3⟩
   ·have z:b=T:=by simpa using hb
    subst z;exact⟨aT,nt1,nt2,nt3⟩
  ·by_cases hb:b∈frs X.stack
   ·obtain⟨sl,q⟩:=u b o e (frd b o (.inl hb) e);exact⟨_,q⟩
   ·exact⟨o,w1 b o (dO _ e (nch b h4 hb))⟩
 ·by_cases hTT:T'=T
  ·rw[hTT];exact aT
  ·by_cases hTf:T'∈frs X.stack
   ·obtain⟨_,o,ho,hn⟩:=I.stack.mem hTf;obtain⟨sl,q⟩:=u T' o ho hn;rw[q]at f8;have z:({o with slots:=sl}:Obj)=oT':=bB f8;subst z;exact absurd f9 (hn ts')
   ·have hnone:s.heap.get? T'=none:=by
     cases q:s.heap.get? T' with
     |none=>rfl
     |some o=>
      have:(PySem.W.hideAll s.heap (x::T::frs X.stack)).get? T'=some o:=dO _ q (nch T' (by simp[f7,hTT]) hTf);rw[f6]at this;cases this
    refine⟨?_,I.hok.free_of hnone,λp hp z=>?_⟩
    ·cases q:X.s₀.heap.get? T' with
     |none=>rfl
     |some o=>
      obtain⟨o',e'⟩:=I.base.there T' o q (by rw[hex];simp);rw[hnone]at e';cases e'
    ·have:=(I.pin p hp).1;rw[z,hnone]at this;cases this
theorem jT{P:aw}{w:au}(hP:X.prog=P)(hw:X.w=w)(I:Inv X pins σ H s)(hex:X.ex=[]){E:XK}{e:ae}{s':af}(h:CX1 P w X.stack H s E e s') :
  ∃x cls H',e=.ref x/\Inv X pins σ H' s'/\b7 X pins H' s'.heap x cls/\E cls none H':=by
 subst hP hw;obtain⟨x,cls,H',rfl,os,bare,un,hok,F,q⟩:=h;have ap:∀b,s.heap.get? b=none->H' b=none->Apart X pins H' b:=λb h1 h2=>by
  refine⟨?_,h2,λp hp z=>?_⟩
  ·cases q:X.s₀.heap.get? b with
   |none=>rfl
   |some o=>
    obtain⟨o',e'⟩:=I.base.there b o q (by rw[hex];simp);rw[h1]at e';cases e'
  ·have:=(I.pin p hp).1;rw[z,h1]at this;cases this
 obtain⟨oe,vs,T,oT,ts,a0,e1,e2,e3,e4,e5,e6,e7,e8,e9,e10,e11⟩:=F.tr;exact⟨x,cls,H',rfl,I.call' (ch:=[]) os un hok bare (λb z=>absurd z (by simp)),⟨ap x F.new F.free,oe,vs,T,oT,ts,a0,e1,e2,e3,e4,e5,e6,e7,e8,e9,ap T e10 e11⟩,q⟩
theorem b7.leaves(I:Inv X pins σ H s)(hex:X.ex=[]){env:Env}{outer:List Env}(hst:X.stack=X.env::X.outer)(hfr:X.env.frame=some X.env.locals)(F:b7 X pins H s.heap x cls){E:XK}(q:E cls none H)
  {EE:ae->af->Prop}:ai (aj X.prog X.w) X.A (leaving X.env (.ref x)) (λ_ s''=>CX1 X.prog X.w X.outer X.H₀ X.s₀ E (.ref x) s'') EE s:=by
 obtain⟨oe,vs,_,_,_,_,e1,_,_,e4,_⟩:=id F.tr;obtain⟨T,oT,ts,a0,W,hT,hTd,aT⟩:=b7.flying I F;have hfrm:=I.ok.frames;rw[hst]at hfrm W;refine wpAny_leaves_onW hfrm hfr W λh' W' u=>?_
 rw[<-hst]at W';obtain⟨I',F'⟩:=b7.back I hex F.me e1 e4 hT hTd aT W' u;obtain⟨oe',vs',T',oT',ts',a0',f1,f2,f3,f4,f5,f6,f7,f8,f9,f10⟩:=F'.tr;have hb:=I'.base;rw[hex]at hb;exact⟨x,cls,H,rfl,I'.os,I'.bare,hb,I'.hok,⟨F'.me.new,F'.me.free,oe',vs',T',oT',ts',a0',f1,f2,f3,f4,f5,f6,f7,f8,f9,f10.new,f10.free⟩,q⟩
end
section
variable{P:aw}{w:au}{K:aq}{mg:Str->Option ae}{base:Heap}{N:List Str}{qual:Str}{scope:aO}{f:Addr}{cd:ae}{A:ax}{outer:List Env}{s₀:af}{H₀:Hp}{E:XK}
theorem wz:Passes (CX1 P w) (dS (CX1 P w) P w K mg base N qual scope f cd A outer s₀ H₀ E) E:=by
 intro pins σ H s e s' I h;obtain⟨x,cls,H',rfl,I',F,q⟩:=jT rfl rfl I rfl h;exact b7.leaves (env:=(dS (CX1 P w) P w K mg base N qual scope f cd A outer s₀ H₀ E).env) (outer:=outer) I' rfl rfl rfl F q
theorem k_{X:Cx}(hP:X.prog=P)(hw:X.w=w):Passes (CX1 P w) X E0:=by
 intro pins σ H s e s' I h;obtain⟨x,cls,H',rfl,_,_,_,_,_,q⟩:=h;exact q.elim
noncomputable def Throws(X:Cx)(E:XK):Prop:=∀(pins:List (Addr×Obj)) (σ:St) (H:Hp) (s:af) (h':Heap) (e:Addr) (cls:ae) (args:List ae),Inv X pins σ H s->Heap.MadeExcOf s.heap h' e cls args->E cls none H->X.xe (.ref e) {s with heap:=h'}
theorem uk:Throws (dS (CX1 P w) P w K mg base N qual scope f cd A outer s₀ H₀ E) E:=by
 intro pins σ H s h' e cls args I M q;generalize hX:dS (CX1 P w) P w K mg base N qual scope f cd A outer s₀ H₀ E=X at I;have hex:X.ex=[]:=by rw[<-hX];rfl
 have hst:X.stack=X.env::X.outer:=by rw[<-hX];rfl
 have hfr:X.env.frame=some X.env.locals:=by rw[<-hX];rfl
 have hxe:X.xe=λe s'=>ai (aj X.prog X.w) X.A (leaving X.env e) (λ_ s''=>CX1 X.prog X.w X.outer X.H₀ X.s₀ E e s'') (λe' s''=>CX1 X.prog X.w X.outer X.H₀ X.s₀ E e' s'') s':=by rw[<-hX];rfl
 rw[hxe];have hfrm:=I.ok.frames;have hstk:=I.stack;have hB:(PySem.W.hideAll s.heap (frs X.stack)).StaysIn s.heap:=λb o q=>PySem.W.of_hideAll _ q
 have hF:=PySem.W.funFrames_hide (as:=frs X.stack) hstk λenv he a ha=>List.mem_filterMap.mpr ⟨env,he,ha⟩
 rw[hst]at hfrm;have hF':s.heap.FunFrames (PySem.W.hideAll s.heap (frs X.stack)) (X.env::X.outer):=by rw[<-hst];exact hF
 refine wpAny_leaves_madeW (s:={s with heap:=h'}) hfrm hfr hB hF' M λh'' t W ht ht0 u=>?_
 obtain⟨w1,w2,w3,oe',vs',T',oT',ts',f1,⟨f2,f3⟩,f4,f5,f6,f7,f8,f9,f10⟩:=W;have frd:∀b o,(b∈frs X.stack\/b=X.env.locals\/b∈X.fs)->s.heap.get? b=some o->∀ws,o.data≠.fields ws:=λb o hb e ws d=>by
  obtain⟨n1,n2,n3,n4⟩:=I.rec_ne e d;rcases hb with z|z|z
  ·exact n4 z
  ·exact n1 z
  ·exact n3 z
 have slot:∀b o,(b∈frs X.stack\/b=X.env.locals\/b∈X.fs)->s.heap.get? b=some o->∃sl,h''.get? b=some {o with slots:=sl}:=λb o hb e=>u b o (M.keeps b o e) (frd b o hb e)
 have I':Inv X pins σ H {s with heap:=h''}:=I.stepN (t':=s.toks) (ch:=[]) hex (λb hb=>absurd hb (by simp)) (λb o h1 _ _ _ e=>w1 b o (dO _ e h1)) slot λb o _ e=>by
  by_cases hb:b∈frs X.stack
  ·obtain⟨sl,q⟩:=slot b o (.inl hb) e;exact⟨_,q⟩
  ·exact⟨o,w1 b o (dO _ e hb)⟩
 have ap:∀b,s.heap.get? b=none->X.s₀.heap.get? b=none/\H b=none:=λb h1=>by
  refine⟨?_,I.hok.free_of h1⟩;cases q:X.s₀.heap.get? b with
  |none=>rfl
  |some o=>
   obtain⟨o',e'⟩:=I.base.there b o q (by rw[hex];simp);rw[h1]at e';cases e'
 have hT:s.heap.get? T'=none:=by
  by_cases hTf:T'∈frs X.stack
  ·obtain⟨_,o,ho,hn⟩:=hstk.mem hTf;obtain⟨sl,q⟩:=slot T' o (.inl hTf) ho;rw[q]at f8;have z:({o with slots:=sl}:Obj)=oT':=bB f8;subst z;exact absurd f9 (hn ts')
  ·cases q:s.heap.get? T' with
   |none=>rfl
   |some o=>
    have:(PySem.W.hideAll s.heap (frs X.stack)).get? T'=some o:=dO _ q hTf;rw[f6]at this;cases this
 have hb:=I'.base;rw[hex]at hb;exact⟨e,cls,H,rfl,I'.os,I'.bare,hb,I'.hok,⟨(ap e M.new).1,(ap e M.new).2,oe',vs',T',oT',ts',.ref t,f1,f2,f3,f4,f5,f7,f8,f9,f10,(ap T' hT).1,(ap T' hT).2⟩,q⟩
end
abbrev fG:List Value:=[.type "ValueError",.type "Exception",.type "BaseException",.type "object"]
noncomputable def lb(K:aq)(C:Addr):Prop:=PySem.W.excIn K C fG "ValueError.__new__" = true
theorem Ad{K:aq}{h:Heap}{C:Addr}{bmB:List ae}{newId:String}(Z:K.In h)(q:PySem.W.excIn K C bmB newId=true) :
  ∃bm N nm qn bs hdct sn sub ab col dd k0 k1 k2 k3 k5 mN,h.get? C=some (excClassObj nm qn C N bs bm hdct sn sub ab col dd k0 k1 k2 k3 k5 newId)/\h.Ns N mN/\mN "__init__" = none/\OwnTail h bmB bm:=by
 unfold PySem.W.excIn at q;split at q
 ·rename_i dict cdat slots look
  split at q
  ·rename_i C2 bm2 j0 j1 j2 j3 nid j5 hmro hslots
   simp only[aI,beq_iff_eq,bq]at q;obtain⟨⟨⟨⟨⟨rfl,rfl⟩,nodel⟩,tl⟩,nsok⟩,noinit⟩:=q;obtain⟨c1,c2,c3,c4,c5,c6,c7,c8,c9,c10,c11⟩:=cdat;dsimp only at hmro nodel nsok noinit;subst hmro nodel;have hsl:slots = #[j0,j1,j2,j3,some (.builtin nid),j5]:=by
    obtain⟨sl⟩:=slots;simp only at hslots;rw[hslots]
   subst hsl;exact⟨bm2,c4,c1,c5,c2,c6,c7,c8,c9,c10,dict,j0,j1,j2,j3,j5,_,Z _ _ look,.of_isNs (PySem.W.isNs_of_in Z nsok),PySem.W.nsMap_none_of_in Z nsok noinit,PySem.W.tail_of_in Z tl⟩
  ·cases q
 ·cases q
section
variable{X:Cx}{C:Addr}{x:Str}{E:XK}{t:TA}{e:Expr}{es:List Expr}{np cpos pos:Pos}
noncomputable def yU(C:Addr)(E:XK)(t:TA):TS:=λ_ σ H=>t σ H λvs H1=>vs.length<=aH/\E (.ref C) none H1
theorem EO(hc:X.calm=true)(hT:Throws X E)(hC:lb X.K C)(hg:Gl X x)(hm:X.mg x=some (.ref C))(ha:PA X (e::es) t)(hd:(x==("__debug__" : Str))=false:=by decide)
  (he:aL (e::es) X.env=(false,eval e X.env)::aL es X.env:=by rfl) (hpl:(backTo cpos (aL es X.env)).any (·.1)=false:=by rfl) :
  PS X (.Raise (some (.Call (.Name x np) (e::es) [] cpos)) none pos) (yU C E t):=by
 intro pins s σ H D I h;obtain⟨bm,N,nm,q,bs,hdct,sn,sub,ab,col,dd,k0,k1,k2,k3,k5,mN,hO,hN,hni,T⟩:=Ad I.mod.kin hC;refine wpAny_Raise_call_subT (C:=C) (nm:=nm) (q:=q) (N:=N) (bs:=bs) (bm:=bm) (hdct:=hdct) (sn:=sn) (sub:=sub) (ab:=ab) (col:=col) (dd:=dd) (k0:=k0) (k1:=k1) (k2:=k2) (k3:=k3) (k5:=k5)
  PySem.F.excBase_ValueError (mN:=mN) (T.hasType PySem.F.excBase_ValueError.hasBase) (I.ok.hd hc) ?_ hni (gQ I hg hm ⟨rfl,?_⟩ hd)
 ·rw[he];show (false||(backTo cpos (aL es X.env)).any (·.1))=false;rw[hpl];rfl
 ·have ha':=ha cpos pins s σ H _ I h;rw[he]at ha' ⊢;exact Calls.evalArgs_plain (thn ha' λus s1 ⟨vs,H1,I1,r,z,q⟩=>⟨rfl,by rw[<-r.length];exact z,I1.bk _ _ hO,hN.keeps I1.bk,T.keeps I1.bk,λh' e' M=>hT pins σ H1 s1 h' e' _ _ I1 M q⟩)
end
structure eC(k:Nat)(A:ax):Prop where
 dp:A.depth+3 * k+5<recursionLimit
 un:A.units+16 * k+200<cLine
theorem cm.u{k:Nat}{A:ax}(r:cm k A):eC k A:=⟨r.dp,r.un⟩
theorem cm.mark{k:Nat}{A:ax}(r:cm k A)(v:Option ae):eC k (A.mark v):=⟨r.dp,r.un⟩
theorem eC.deeper{k:Nat}{A:ax}(r:eC (k+1) A)(env:Env):eC k (A.deeper env):=
 ⟨by have:=r.dp;show A.depth+1+3 * k+5<_;lia,by have:=r.un;show A.units+3+16 * k+200<_;lia⟩
structure iS(P:aw)(w:au)(K:aq)(mg:Str->Option ae)(base:Heap)(CX:CXT)(k:Nat)(f:Addr)(fd:bC)(ps:List Str)(sp:Sp):Prop where
 len:∀vs H Q E,sp vs H Q E->vs.length=ps.length
 run:∀(A:ax) (outer:List Env) (s:af) (H:Hp) (args:Args) (us:List ae) (vs:List V) (Q:VK) (E:XK),eC k A->fN P w K mg base A outer s H->BindsTo s fd args (ps.zip us)->Vals vs us->sp vs H Q E ->
  codeAny (aj P w) A (.call (.ref f) args) (CR CX outer P w H s Q E) s
section
variable{CX:CXT}{P:aw}{w:au}{K:aq}{mg:Str->Option ae}{base:Heap}{k:Nat}{f:Addr}{fd:bC}{ps:List Str}{sp:Sp}
abbrev fZ(CX:CXT)(P:aw)(w:au)(K:aq)(mg:Str->Option ae)(base:Heap)(N:List Str)(qual:Str)(scope:aO)(f:Addr)(cd:ae)(A:ax)(outer:List Env)(s:af)(H:Hp)(E:XK):Cx:=
 {dS CX P w K mg base N qual scope f cd A outer s H E with calm:=false}
theorem u7{N:List Str}{qual:Str}{scope:aO}{cd:ae}{A:ax}{outer:List Env}{s s1:af}{H:Hp}{E:XK}{us:List ae}{vs:List V}
  (S:gb N ps scope) (e0:fN P w K mg base A outer s H) (hl:vs.length=ps.length) (r:Vals vs us)
  (x:InCallC s s.heap.objs.size (bindL (envOfC qual scope s.heap.objs.size f cd).kindOf (ps.zip us) λ_=>none) (aX (s.heap.objs.size+1) scope.names []) (bindC (envOfC qual scope s.heap.objs.size f cd).kindOf (ps.zip us) λ_=>none) s1) :
  Inv (fZ CX P w K mg base N qual scope f cd A outer s H E) [] (start N vs) H s1:=by
 have e1:fN P w K mg base {A with handled:=none} outer s H:=⟨e0.frames,e0.mod,e0.bs,e0.bsz,e0.funs,e0.frf,e0.hok,e0.bare⟩
 have I:=pU (CX:=CX) (E:=E) (qual:=qual) (A:={A with handled:=none}) (cd:=cd) (f:=f) S rfl e1 hl r x;exact⟨⟨I.ok.mod,I.ok.kind,I.ok.glob,I.ok.blt,I.ok.above,I.ok.inj,I.ok.has,I.ok.cab,λz=>absurd z bI,ax.frames_deeper e0.frames,I.ok.stk,I.ok.exf,I.ok.bs,I.ok.bsz,I.ok.noex,I.ok.exfs,I.ok.funs,I.ok.frf⟩,
  I.os,I.bare,I.base,I.loc,I.cell,I.free,I.freeC,I.pin,I.hok,I.len⟩
theorem Ay{name qual:Str}{params:Arguments}{body:List Stmt}{scope:aO}{dV kV doc pm cdv ct oc:ae}{an od:Option Addr}
  {osl:Array (Option ae)}{N:List Str} (lk:K.lookup f=some ⟨oc,od,.func (bX name qual params body scope dV kV doc pm an cdv ct),osl⟩) (hcd:PySem.W.codeIn K cdv qual=true) (S:gb N ps scope)
  (len:∀vs H Q E,sp vs H Q E->vs.length=ps.length)
  (hbody:∀(A:ax) (outer:List Env) (s:af) (H:Hp) (vs:List V) (Q:VK) (E:XK),eC k (A.deeper (envOfC qual scope s.heap.objs.size f cdv))->sp vs H Q E ->
   ∃t,PSs (fZ CX P w K mg base N qual scope f cdv A outer s H E) body t/\t {nx:=λ_ H'=>Q .non H',rt:=Q} (start N vs) H) :
  iS P w K mg base CX (k+1) f (bX name qual params body scope dV kV doc pm an cdv ct) ps sp:=by
 refine⟨len,λA outer s H args us vs Q E hr e0 hb r hsp=>?_⟩;have hl:=len _ _ _ _ hsp;have KX:K.In s.heap:=e0.mod.kin.keeps λb o e=>(e0.bs b o e).1
 have lim:s.heap.NoLimit:=e0.mod.nolimit.keeps λb o e=>(e0.bs b o e).1
 have hkind:∀y∈ps.zip us,scope.names.lookup y.1=some .local\/(scope.names.lookup y.1=some .cell/\((aX (s.heap.objs.size+1) scope.names []).lookup y.1).isSome=true):=λ⟨n,v⟩ hy=>by
  rcases S.par n (List.of_mem_zip hy).1 with q|q
  ·exact .inl q
  ·exact .inr ⟨q,PySem.W.cellsFrom_some _ _ _ (.inl q)⟩
 refine codeAny_call_function (by have:=hr.dp;lia) (KX _ _ lk) rfl S.co S.gen rfl (PySem.W.codeRec_of KX hcd) (hb _ _ _ _ ?_);refine wpAny_newFunctionEnv_cells S.kind hkind λenv he s1 x=>?_
 subst he;refine⟨lim.keeps x.toInCall.keep,codeAny_func ?_⟩;obtain⟨t,ht,hq⟩:=hbody A outer s H vs Q E (hr.deeper _) hsp;have I:Inv (fZ CX P w K mg base N qual scope f cdv A outer s H E) [] (start N vs) H s1:=u7 S e0 hl r x;refine bL (ht [] s1 (start N vs) H _ I hq) (λfl s' hs=>?_) λe s' hs=>hs
 have fin:∀{σ':St}{H':Hp}{v:V}{u:ae},Inv (fZ CX P w K mg base N qual scope f cdv A outer s H E) [] σ' H' s'->RelV v u->Q v H'->CE outer P w H s Q u s':=
  λ{σ' H' v u} J rv q=>⟨v,H',J.os,J.bare,J.base,J.hok,rv,q⟩
 cases fl with
 |ret u=>
  obtain⟨v,σ',H',J,rv,q⟩:=hs;exact fin J rv q
 |next=>
  obtain⟨σ',H',J,q⟩:=hs;exact fin (v:=V.non) (u:=bM) J rfl q
 |brk=>
  obtain⟨_,_,_,q⟩:=hs;exact aS q
 |cont=>
  obtain⟨_,_,_,q⟩:=hs;exact aS q
end
section
variable{X:Cx}{CX:CXT}{k:Nat}{f:Addr}{fd:bC}{ps:List Str}{sp:Sp}{dvs:List V}{ds:List ae}{E:XK}{x:Str}{p pos:Pos}{e:Expr}{es:List Expr}{t:TA}
theorem uH{pins:List (Addr×Obj)}{σ:St}{H:Hp}{s:af}{Q:VK}{us:List ae}{vs:List V}(F:iS X.prog X.w X.K X.mg X.base CX k f fd ps sp)(hr:eC k X.A)(hb:Binds X.K fd ps ds)(hd:Vals dvs ds)(hx:Passes CX X E)
  (I:Inv X pins σ H s) (r:Vals vs us) (h:sp (vs++dvs) H Q E):ai (aj X.prog X.w) X.A (call (.ref f) us) (EP X pins σ Q) X.xe s:=by
 have r2:Vals (vs++dvs) (us++ds):=r.append hd;have hl:(us++ds).length=ps.length:=by rw[<-r2.length];exact F.len _ _ _ _ h
 refine wpAny_call (codeAny_mono (F.run X.A X.stack s H ⟨us,[]⟩ (us++ds) (vs++dvs) Q E hr I.env0 (hb s us I.kIn hl) r2 h) λr s' hq=>?_);cases r with
 |error e=>exact hx pins σ H s e s' I hq
 |ok fl=>
  cases fl with
  |ret u=>exact I.after hq
  |next=>exact aS hq
  |brk=>exact aS hq
  |cont=>exact aS hq
theorem xp(F:iS X.prog X.w X.K X.mg X.base CX k f fd ps sp)(hr:eC k X.A)(hg:Gl X x)(hm:X.mg x=some (.ref f))(hk:cJ X.K (.ref f)=true)(hb:Binds X.K fd ps ds)(hd:Vals dvs ds)(hx:Passes CX X E)
  (ha:PA X (e::es) t) (hdb:(x==("__debug__" : Str))=false:=by decide) (he:aL (e::es) X.env=(false,eval e X.env)::aL es X.env:=by rfl) (hpl:(backTo pos (aL es X.env)).any (·.1)=false:=by rfl) :
  PE X (.Call (.Name x p) (e::es) [] pos) (lp sp dvs E t):=by
 intro pins s σ H Q I h;refine wpAny_Call_Name_kw (gQ I hg hm ?_ hdb);refine PySem.W.callWith_K (h₀:=X.base) I.ok.mod.kin hk (thn (ha pos pins s σ H _ I h) λus s1 ⟨vs,H1,I1,r,q⟩=>⟨I1.kIn,?_⟩) he hpl;exact uH F hr hb hd hx I1 r q
end
noncomputable def gJ(x:Addr)(cls:ae):HO:=.ext λh=>∃o vs,h.get? x=some o/\o.cls=cls/\o.data=.fields vs
abbrev Cx.held(X:Cx)(x:Addr):Cx:={X with A:=X.A.mark (some (.ref x)),calm:=false,xe:=λ_ _=>False}
section
variable{X:Cx}{pins:List (Addr×Obj)}{σ:St}{H:Hp}{s:af}
theorem Inv.hold(I:Inv X pins σ H s)(x:Addr):Inv (X.held x) pins σ H s:=
 ⟨⟨I.ok.mod,I.ok.kind,I.ok.glob,I.ok.blt,I.ok.above,I.ok.inj,I.ok.has,I.ok.cab,λz=>absurd z bI,I.ok.frames,I.ok.stk,I.ok.exf,I.ok.bs,I.ok.bsz,I.ok.noex,I.ok.exfs,I.ok.funs,I.ok.frf⟩,
  I.os,I.bare,I.base,I.loc,I.cell,I.free,I.freeC,I.pin,I.hok,I.len⟩
theorem Inv.unhold{x:Addr}(ok:X.Ok)(I:Inv (X.held x) pins σ H s):Inv X pins σ H s:=⟨ok,I.os,I.bare,I.base,I.loc,I.cell,I.free,I.freeC,I.pin,I.hok,I.len⟩
theorem Inv.track(I:Inv X pins σ H s){x:Addr}{o:HO}(hex:X.ex=[])(a:Apart X pins H x)(hl:x≠X.env.locals)(hc:∀y c,X.env.cells.lookup y=some c->c≠x)(ok:zI X.prog X.w (upd H x o) s.heap x o):Inv X pins σ (upd H x o) s:=by
 have nx:∀b u,H b=some u->b≠x:=λb u e z=>by rw[z,a.free]at e;cases e
 refine⟨I.ok,I.os,I.bare,⟨I.base.keep,I.base.slot,λb ob e n h=>?_,I.base.there,λb xs e=>?_,λb ob u e=>?_,λb ps e=>?_⟩,I.loc,I.cell,?_,λy c e=>?_,λp hp=>?_,λb u e=>?_,I.len⟩
 ·rw[qh (λz=>by rw[z,a.new]at e;cases e)];exact I.base.free b ob e n h
 ·have:=I.base.tups b xs e;rw[qh (nx b _ this)];exact this
 ·have:=I.base.frzs b ob u e;rw[qh (nx b _ this)];exact this
 ·obtain⟨more,q⟩:=I.base.tbls b ps e;exact⟨more,by rw[qh (nx b _ q)];exact q⟩
 ·rw[qh (Ne.symm hl)];exact I.free
 ·rw[qh (hc y c e)];exact I.freeC y c e
 ·obtain⟨e,n,r⟩:=I.pin p hp;exact⟨e,by rw[qh (a.pin p hp)];exact n,r⟩
 ·by_cases hb:b=x
  ·subst hb;rw[zy]at e;cases e;exact ok
  ·rw[qh hb]at e;refine(I.hok b u e).stay (λc v _ q=>q) (λc q=>?_) λc xs q=>?_
   ·rw[qh (nx c _ q)];exact q
   ·rw[qh (nx c _ q)];exact q
theorem Inv.forget{h':Heap}{m':Str->Option ae}{t':Nat}(I:Inv X pins σ H s)(hn:h'.Ns X.env.locals m')(hs:Heap.SameBut X.env.locals s.heap h'):Inv X pins (σ.map λ_=>none) H {s with heap:=h',toks:=t'}:=by
 have up:∀b o,X.s₀.heap.get? b=some o->b≠X.env.locals:=λb o e=>aU (bc (aG e) I.ok.above)
 refine⟨I.ok,I.os,I.bare,⟨λb o e n hb hx=>?_,λb o e n hb hx=>?_,I.base.free,λb o e hx=>?_,I.base.tups,I.base.frzs,I.base.tbls⟩,⟨m',hn,λj y v' e1 e2 e3=>?_⟩,λy c e=>?_,I.free,I.freeC,λp hp=>?_,λb ob e=>?_,by simpa using I.len⟩
 ·exact(hs.2 b (up b o e)).trans (I.base.keep b o e n hb hx)
 ·obtain⟨sl,e1⟩:=I.base.slot b o e n hb hx;exact⟨sl,(hs.2 b (up b o e)).trans e1⟩
 ·obtain⟨o',e1⟩:=I.base.there b o e hx;exact⟨o',(hs.2 b (up b o e)).trans e1⟩
 ·rw[List.getElem?_map]at e2;cases q:σ[j]? with
  |none=>rw[q]at e2;cases e2
  |some z=>rw[q]at e2;cases e2
 ·obtain⟨w',z⟩:=I.cell y c e;exact⟨w',z.sameBut hs (I.cne y c e)⟩
 ·obtain⟨e,n,ne,nf,d⟩:=I.pin p hp;exact⟨(hs.2 p.1 ne).trans e,n,ne,nf,d⟩
 ·refine(I.hok b ob e).stay (λc w' hc q=>(hs.2 c ?_).trans q) (λ_ q=>q) λ_ _ q=>q
  rintro rfl;rcases hc with rfl|hc
  ·rw[I.free]at e;cases e
  ·rw[I.free]at hc;cases hc
end
noncomputable def xV(i:Nat)(K:aq)(C:Addr)(n:Nat)(tb:TS)(Eh:XK)(ts:TS):TS:=λD σ H=>tb {D with nx:=D.nx} σ H /\
 ∀(τ:St) (cls:ae) (H':Hp) (x:Addr),τ.length=n->Eh cls none H'->H' x=none->bE K cls (.ref C)=some true /\
  ts {nx:=λ_ _=>False,rt:=D.rt} (τ.set i (some (.ref x))) (upd H' x (gJ x cls))
abbrev Cx.inTry(X:Cx)(pn:List (Addr×Obj))(Et:ae->af->Prop):Cx:={X with pn:=pn,xe:=Et}
theorem CO{X:Cx}{i:Nat}{C:Addr}{cn n:Str}{np hpos pos:Pos}{body:List Stmt}{b₀:Stmt}{suite:List Stmt}{tb ts:TS}{Eh:XK}(hex:X.ex=[])(hst:X.stack=X.env::X.outer)(hfr:X.env.frame=some X.env.locals)
  (hN:X.N.Nodup) (hi:X.N[i]? = some n) (hl:X.env.scope.names.lookup n=some .local) (hg:Gl X cn) (hm:X.mg cn=some (.ref C))
  (hb:∀pn Et,Passes (CX1 X.prog X.w) (X.inTry pn Et) Eh->PSs (X.inTry pn Et) body tb) (hs:∀x,PSs (X.held x) (b₀::suite) ts) (hd:(cn==("__debug__" : Str))=false:=by decide) :
  PS X (.Try body [.ExceptHandler (some (.Name cn np)) (some n) (b₀::suite) hpos] [] [] pos) (xV i X.K C X.N.length tb Eh ts):=by
 intro pins s σ H D I h;obtain⟨h1,h2⟩:=h;refine wpAny_Try_except ?_;have okT:∀Et,(X.inTry (X.pn++pins) Et).Ok:=λEt=>
  ⟨I.ok.mod,I.ok.kind,I.ok.glob,I.ok.blt,I.ok.above,I.ok.inj,I.ok.has,I.ok.cab,I.ok.hd,I.ok.frames,I.ok.stk,I.ok.exf,I.ok.bs,I.ok.bsz,I.ok.noex,I.ok.exfs,I.ok.funs,I.ok.frf⟩
 have toT:∀{Et σ H s},Inv X pins σ H s->Inv (X.inTry (X.pn++pins) Et) [] σ H s:=λ{Et σ H s} J=>
  ⟨okT Et,J.os,J.bare,J.base,J.loc,J.cell,J.free,J.freeC,λp hp=>J.pin p (by simpa using hp),J.hok,J.len⟩
 have ofT:∀{Et pins' σ H s},Inv (X.inTry (X.pn++pins) Et) pins' σ H s->Inv X pins σ H s:=λ{Et pins' σ H s} J=>
  ⟨I.ok,J.os,J.bare,J.base,J.loc,J.cell,J.free,J.freeC,λp hp=>J.pin p (List.mem_append_left _ hp),J.hok,J.len⟩
 have hcls:(X.env.scope.kind==.class||(X.env.scope.kind==.module&&X.env.locals != X.env.globals))=false:=by rw[I.ok.kind];rfl
 have hP:Passes (CX1 X.prog X.w) (X.inTry (X.pn++pins) λe s₁=>ai (aj X.prog X.w) X.A (noteFrame e X.env) (λ_ s₂=>ai (aj X.prog X.w) X.A (setFlight e none) (λ_ s₃=>
   ai (aj X.prog X.w) X.A (handleBy e X.env [.ExceptHandler (some (.Name cn np)) (some n) (b₀::suite) hpos]) (SP X pins D) X.xe s₃) X.xe s₂) X.xe s₁) Eh:=by
  intro pins' σ' H' s' e s'' I' hcx;obtain⟨x,cls,H2,rfl,I2,F2,q⟩:=jT (X:=X.inTry (X.pn++pins) _) rfl rfl I' hex hcx;have I3:Inv X pins σ' H2 s'':=ofT I2;have ap:∀{Et b},Apart (X.inTry (X.pn++pins) Et) pins' H2 b->Apart X pins H2 b:=λ{Et b} a=>⟨a.new,a.free,λp hp=>a.pin p (List.mem_append_left _ hp)⟩
  have F3:b7 X pins H2 s''.heap x cls:=by
   obtain⟨oe,vs,T,oT,ts,a0,e1,e2,e3,e4,e5,e6,e7,e8,e9,e10⟩:=F2.tr;exact⟨ap F2.me,oe,vs,T,oT,ts,a0,e1,e2,e3,e4,e5,e6,e7,e8,e9,ap e10⟩
  obtain⟨oe,vs,_,_,_,_,e1,_,_,e4,_⟩:=id F3.tr;obtain⟨T,oT,tts,a0,W,hT,hTd,aT⟩:=b7.flying I3 F3;have hfrm:=I.ok.frames;rw[hst]at hfrm W;refine wpAny_looks_onW hfrm hfr W λh4 W4 u4=>?_
  refine wpAny_landsW W4 λh5 W5 u5=>?_
  rw[<-hst]at W5;obtain⟨I5,F5⟩:=b7.back I3 hex F3.me e1 e4 hT hTd aT W5 (u4.trans u5);obtain⟨oe5,vs5,T5,oT5,ts5,a5,g1,g2,g3,g4,g5,g6,g7,g8,g9,g10⟩:=id F5.tr;obtain⟨hx1,hx2⟩:=h2 σ' cls H2 x I3.len q F3.me.free;have LT:PySem.W.Looks (aj X.prog X.w) h5 (typeOf (.ref x)) cls:=by
   subst g2;exact(PySem.W.Looks.ld g1).andThen .now
  refine wpAny_handleBy_cons (codeAny_handlers_test (gQ (I5.hold x) hg hm ?_ hd)) (by intro z;cases z);refine PySem.W.exm_one (K:=X.K) I5.kIn LT hx1 _ _ _ _ (λ_ _ e=>e) ?_;refine codeAny_handlers_suite_as ?_;obtain⟨T6,oT6,ts6,a6,W6,hT6,hTd6,aT6⟩:=b7.flying I5 F5;refine lands_againW W6 λh6 W6' u6=>?_
  obtain⟨I6,F6⟩:=b7.back I5 hex F5.me g1 g4 hT6 hTd6 aT6 W6' u6;obtain⟨oe6,vs6,_,_,_,_,k1,k2,_,k4,_⟩:=id F6.tr;obtain⟨n1,n2,n3,n4⟩:=I6.rec_ne k1 k4;have I7:=I6.track (o:=gJ x cls) hex F6.me n1 n2 ⟨⟨oe6,vs6,k1,k2,k4⟩,⟨oe6,k1⟩,λha hb ⟨o,ws,z1,z2,z3⟩ kk=>⟨o,ws,kk o z1,z2,z3⟩⟩;refine lW (X:=X.held x) (v:=.ref x) (I7.hold x) hN hi (.inl hl) rfl (λs8 I8=>?_) (.inr hl);refine bL (hs x pins s8 _ _ _ I8 hx2) (λf s9 r9=>?_) λ_ _ z=>aS z
  cases f with
  |ret u=>
   obtain⟨v,σ9,H9,I9,rv,q9⟩:=r9;have I9':=I9.unhold I.ok;obtain⟨m,hn,_⟩:=I9'.loc;exact wpAny_nameGoes hl hn hcls λh' m' hn' hs'=>⟨v,_,H9,I9'.forget hn' hs',rv,q9⟩
  |next=>obtain⟨_,_,_,z⟩:=r9;exact aS z
  |brk=>obtain⟨_,_,_,z⟩:=r9;exact aS z
  |cont=>obtain⟨_,_,_,z⟩:=r9;exact aS z
 refine thn (hb _ _ hP [] s σ H _ (toT I) h1) λf s1 q=>?_
 cases f with
 |next=>obtain⟨σ1,H1,I1,q1⟩:=q;exact wpAny_execs_nil ⟨σ1,H1,ofT I1,q1⟩
 |brk=>obtain⟨σ1,H1,I1,q1⟩:=q;exact⟨σ1,H1,ofT I1,q1⟩
 |cont=>obtain⟨σ1,H1,I1,q1⟩:=q;exact⟨σ1,H1,ofT I1,q1⟩
 |ret u=>obtain⟨v,σ1,H1,I1,rv,q1⟩:=q;exact⟨v,σ1,H1,ofT I1,rv,q1⟩
end L2
namespace L2
open PySem PySem.Spec PyProof.Rows PySem.W PySem.Calls Builtin Builtin.ObjectAttr Builtin.Getset_descriptor
structure cL(K:Frag)(C:Addr):Prop where
 ga:findIn K (.ref C) "__getattribute__" = some (some (.builtin "BaseException.__getattribute__"))
 gt:findIn K (.ref C) "__getattr__" = some none
 gc:findIn K (.ref C) "__class__" = some (some (.builtin "object.__class__"))
 mb:mroIn K C (.type "BaseException")=some true
 mo:mroIn K C (.type "object")=some true
 cl:∃c dd cd sl,K.lookup C=some ⟨c,dd,.cls cd,sl⟩
section
variable{prog:aw}{w:au}{A:ax}{E:ae->af->Prop}{h:Heap}{g:Array GenState}{d:Drawn}{t:Nat}{os:OsState}{x C:Addr}{K:Frag}
theorem yO{R:Result->af->Prop}{tp:ae}(Z:K.In h)(S:cL K C)(L0:Looks (aj prog w) h (typeOf (.ref x)) (.ref C))(hx:∃o,h.get? x=some o/\o.cls=.ref C)(hq:R (.ok (.ret (.ref C))) ⟨h,g,d,t,os⟩) :
  codeAny (aj prog w) A (.call (.builtin "getset_descriptor.__get__") ⟨[.builtin "object.__class__",.ref x,tp],[]⟩) R ⟨h,g,d,t,os⟩:=by
 have L1:=looks_mroIn (M:=aj prog w) Z S.mo;obtain⟨o,ho,hc⟩:=hx;refine codeAny_call_builtin KF.slot_gs.plain KF.entry_gs (KF.slot_gs.check _ _ _ _ _ _ _ _ KF.type_class (KF.args_gs _ _ _) ?_);unfold Builtin.«getset_descriptor.__get__» descrGet;rw[dga_obj];refine ah (aC ?_);unfold descrGetter descrCheckInstance descrNameAndClass isInstance;simp only[KF.owner_class]
 repeat lk
 refine⟨Code.quiet_builtin _ (by decide +kernel),codeAny_builtin KF.entry_class ?_⟩;unfold Builtin.«object.__class__» shownTypeOf
 repeat lk
 exact hq
theorem ER{M:Model}{nameV:ae}{Q:Unit->af->Prop}(Z:K.In h)(S:cL K C)(L0:Looks M h (typeOf (.ref x)) (.ref C))(hq:Q () ⟨h,g,d,t,os⟩) :
  ai M A (checkBuiltinCall "BaseException.__getattribute__" ⟨[.ref x,nameV],[]⟩) Q E ⟨h,g,d,t,os⟩:=by
 have hk:builtinKind "BaseException.__getattribute__" = some .slot:=by decide +kernel
 have hsplit:splitId "BaseException.__getattribute__" = some ("BaseException","__getattribute__"):=by decide +kernel
 have L1:=looks_mroIn (M:=M) Z S.mb;have ha:=F.args_bexc_ga (.ref x) nameV;simp only[checkBuiltinCall,hk,hsplit];refine ah ?_;unfold isInstance
 repeat (first|assumption|lk|wp_step)
theorem D9{tk:Tok}{Q:Fin->af->Prop}(Z:K.In h)(S:cL K C)(L0:Looks (aj prog w) h (typeOf (.ref x)) (.ref C))(hx:∃o,h.get? x=some o/\o.cls=.ref C)(hq:Q (.done (.ret (.ref C))) ⟨h,g,d,t,os⟩) :
  ai (aj prog w) A (Builtin.«object.__getattribute__» ⟨[.ref x,.str "__class__" tk],[]⟩) Q E ⟨h,g,d,t,os⟩:=by
 have hT5:(⟨h,g,d,t,os⟩:af).TypeIs (.builtin "object.__class__") "getset_descriptor":=F.typeOf_object_class;have L2:=looks_findIn (M:=aj prog w) Z S.gc;have f5:=F.typeOf_object_class;have f6:=F.slot_gs_get.lookup;have f7:=F.slot_gs_set.lookup
 repeat (any_goals (first|assumption|with_reducible refine L0.at ?_|with_reducible refine ah (L0.at ?_)|with_reducible refine L2.at ?_|with_reducible refine ah (L2.at ?_)|wp_step))
 refine yO Z S L0 hx ?_
 repeat (any_goals (first|assumption|wp_step))
theorem yI{tk:Tok}{Q:ae->af->Prop}(Z:K.In h)(S:cL K C)(L0:Looks (aj prog w) h (typeOf (.ref x)) (.ref C))(hx:∃o,h.get? x=some o/\o.cls=.ref C)(hq:Q (.ref C) ⟨h,g,d,t,os⟩) :
  ai (aj prog w) A (getAttrBy (.ref x) (.str "__class__" tk) false) Q E ⟨h,g,d,t,os⟩:=by
 have f3:=F.attr_ValueError.ga.bind (.ref x);have hx2:(ae.builtin "BaseException.__getattribute__" == ae.builtin "object.__getattribute__")=false:=by decide +kernel
 have hx1:(onTheHeap (aW C)&&ae.builtin "BaseException.__getattribute__" == ae.builtin "object.__getattribute__")=false:=by rw[hx2];rfl
 have L2:=looks_findIn (M:=aj prog w) Z S.ga;have L3:=looks_findIn (M:=aj prog w) Z S.gt
 repeat (any_goals (first|assumption|with_reducible refine L0.at ?_|with_reducible refine ah (L0.at ?_)|with_reducible refine L2.at ?_|with_reducible refine ah (L2.at ?_)|with_reducible refine L3.at ?_|with_reducible refine ah (L3.at ?_)|wp_step))
 refine codeAny_call_builtin F.attr_ValueError.ga.plain F.entry_bexc_ga (ER Z S L0 (D9 Z S L0 hx ?_))
 repeat (any_goals (first|assumption|wp_step))
theorem Dj{Q:Option ae->af->Prop}(Z:K.In h)(S:cL K C)(L0:Looks (aj prog w) h (typeOf (.ref x)) (.ref C))(hx:∃o,h.get? x=some o/\o.cls=.ref C)(hq:Q (some (.ref C)) ⟨h,g,d,t+1,os⟩) :
  ai (aj prog w) A (getAttr? (.ref x) "__class__") Q E ⟨h,g,d,t,os⟩:=by
 unfold getAttr? getAttrBy?
 repeat (any_goals (first|assumption|with_reducible apply yI Z S L0 hx|wp_step))
end
end L2
namespace L2
open PySem PySem.Spec PyProof.Rows
structure h_(prog:aw)(w:au)(xs:Array ae)(i l:Addr)(P:Nat->Heap->Prop):Prop where
 fr:∀k h h',P k h->(∀o,h.get? i=some o->h'.get? i=some o)->(∀o,h.get? l=some o->h'.get? l=some o)->P k h'
 nx:∀{A:ax} (k:Nat) (x:ae) (s:af) (Q:ae->af->Prop) (E:ae->af->Prop),P k s.heap->xs[k]? = some x->(∀h',P (k+1) h'->Heap.SameBut i s.heap h'->Q x {s with heap:=h'})->ai (aj prog w) A (cQ (.ref i)) Q E s
 en:∀{A:ax} (k:Nat) (s:af) (Q:ae->af->Prop) (E:ae->af->Prop),A.handled=none->P k s.heap->xs[k]? = none ->
  (∀h' e,Heap.ExtBut i s.heap h'->(∃o,h'.get? e=some o/\o.cls=.type "StopIteration")->E (.ref e) {s with heap:=h'})->ai (aj prog w) A (cQ (.ref i)) Q E s
 at_:∀k h,P k h->∃o,h.get? i=some o/\∃vs,o.data=.fields vs
theorem CZ{prog:aw}{w:au}{xs:Array ae}{i l:Addr}:h_ prog w xs i l (λk h=>h.IsListIter i l k/\h.IsList l xs) where
 fr:=λ_ _ _ ⟨a,b⟩ p q=>⟨a.at p,b.at q⟩
 nx:=λk x s Q E ⟨a,b⟩ hx hQ=>wpAny_nextOf_list_item a b hx λh' a' sb=>hQ h' ⟨a',b.at λo e=>(sb.2 l (λz=>by
  obtain⟨_,e1,e2,_⟩:=a;obtain⟨_,f1,f2,_⟩:=b;rw[z,e1]at f1;have e3:=bB f1;rw[<-e3,e2]at f2;exact absurd f2 (by decide))).trans e⟩ sb
 en:=λk s Q E hh ⟨a,b⟩ hx hE=>wpAny_nextOf_list_end hh a b hx hE
 at_:=λ_ _ ⟨⟨o,e,_,d⟩,_⟩=>⟨o,e,_,d⟩
section
variable{prog:aw}{w:au}{A:ax}{E:ae->af->Prop}{s:af}
theorem mL{it l:Addr}{i:Nat}{items}{x:ae}{Q:ae->af->Prop}(hit:s.heap.IsTupleIter it l i)(hl:s.heap.IsTuple l items)(hx:items[i]? = some x)
  (hQ:∀h',h'.IsTupleIter it l (i+1)->Heap.SameBut it s.heap h'->Q x {s with heap:=h'}):ai (aj prog w) A (cQ (.ref it)) Q E s:=by
 obtain⟨oi,gi,ci,di⟩:=id hit;obtain⟨ol,gl,_,nl,dl⟩:=hl;unfold cQ;refine ah (wpAny_callSpecial?_slot (name:=ag "__next__") hit.typeIs F.slot_tuple_iterator_next (dj F.slot_tuple_iterator_next hit.typeIs F.entry_tuple_iterator_next ?_ (F.args_tuple_iterator_next_1 _)));show ai (aj prog w) _ (field (.ref it) 0>>=_) _ _ s;refine ah (bR gi di (x:=.ref l) rfl ?_);show ai (aj prog w) _ (if (aW l==bM)=true then _ else _) _ _ s;rw[if_neg (show ¬ ((aW l==.none)=true)from bI)];show ai (aj prog w) _ (field (.ref it) 1>>=_) _ _ s;refine ah (bR gi di (x:=.int i 0) rfl ?_);show ai (aj prog w) _ (seqItems? (.ref l)>>=_) _ _ s;refine ah (wpAny_seqItems gl dl ?_);simp only[Int.toNat_natCast,hx];refine ah (wpAny_setField gi di (by simp) (aC ⟨x,rfl,aC (hQ _ ?_ (Heap.SameBut.update ..))⟩));exact⟨_,Heap.get?_update_self _ gi (Obj.isFreed_of_fields (Obj.data_mapFields di _)),(Obj.cls_mapFields ..).trans ci,by rw[Obj.data_mapFields di];simp[rawInt]⟩
theorem kj{it l:Addr}{i:Nat}{items}{Q:ae->af->Prop}(hh:A.handled=none)(hit:s.heap.IsTupleIter it l i)(hl:s.heap.IsTuple l items)(hx:items[i]? = none)
  (hE:∀h' e,Heap.ExtBut it s.heap h'->(∃o,h'.get? e=some o/\o.cls=.type "StopIteration")->E (.ref e) {s with heap:=h'}):ai (aj prog w) A (cQ (.ref it)) Q E s:=by
 obtain⟨oi,gi,ci,di⟩:=id hit;obtain⟨ol,gl,_,nl,dl⟩:=hl;unfold cQ;refine ah (wpAny_callSpecial?_slot (name:=ag "__next__") hit.typeIs F.slot_tuple_iterator_next (dj F.slot_tuple_iterator_next hit.typeIs F.entry_tuple_iterator_next ?_ (F.args_tuple_iterator_next_1 _)));show ai (aj prog w) _ (field (.ref it) 0>>=_) _ _ s;refine ah (bR gi di (x:=.ref l) rfl ?_);show ai (aj prog w) _ (if (aW l==bM)=true then _ else _) _ _ s;rw[if_neg (show ¬ ((aW l==.none)=true)from bI)];show ai (aj prog w) _ (field (.ref it) 1>>=_) _ _ s;refine ah (bR gi di (x:=.int i 0) rfl ?_);show ai (aj prog w) _ (seqItems? (.ref l)>>=_) _ _ s;refine ah (wpAny_seqItems gl dl ?_);simp only[Int.toNat_natCast,hx];refine ah (wpAny_rule (ah (wpAny_setField gi di (by simp) ?_)));show ai (aj prog w) _ (newExc (.type "StopIteration") []>>=_) _ _ _;refine ah ?_;simp only[newExc,newTuple];refine ah (wpAny_newObj_type ?_ (by size_fits));refine ah (m:=firstArgMember _ _) (wpAny_of_eq (a:=bM) (by first|rfl|(simp only[firstArgMember];rfl)) ?_);refine wpAny_newObj_type ?_ (by size_fits);simp only[raiseNew];refine ah (wpAny_handled ?_)
 first|rw[show A.in1.handled=none from hh]|rw[hh]
 refine ah (aC (wpAny_throw ?_));exact hE _ _ (((Heap.SameBut.update ..).extBut.push _).push _) ⟨_,Heap.get?_push_size _ rfl,rfl⟩
end
theorem sv{prog:aw}{w:au}{xs:Array ae}{i l:Addr}:h_ prog w xs i l (λk h=>h.IsTupleIter i l k/\h.IsTuple l xs) where
 fr:=λ_ _ _ ⟨a,b⟩ p q=>⟨a.at p,let ⟨o,e,r⟩:=b;⟨o,q o e,r⟩⟩
 nx:=λk x s Q E ⟨a,b⟩ hx hQ=>mL a b hx λh' a' sb=>hQ h' ⟨a',b.extBut sb.extBut (λz=>by
  obtain⟨_,e1,e2,_⟩:=a;obtain⟨_,f1,f2,_⟩:=b;rw[z,e1]at f1;have e3:=bB f1;rw[<-e3,e2]at f2;exact absurd f2 (by decide))⟩ sb
 en:=λk s Q E hh ⟨a,b⟩ hx hE=>kj hh a b hx hE
 at_:=λ_ _ ⟨⟨o,e,_,d⟩,_⟩=>⟨o,e,_,d⟩
section
variable{prog:aw}{w:au}{A:ax}{E:ae->af->Prop}{s:af}{z TI TO i1 i2 l1 l2:Addr}{k:Nat}{xs ys:Array ae}{P1 P2:Nat->Heap->Prop}
structure EY(z TI TO i1 i2 l1 l2:Addr):Prop where
 d:ZipApart z TI TO i1 i2 l1 l2
theorem xw{x y a b:ae}{Q:ae->af->Prop}(D:ZipApart z TI TO i1 i2 l1 l2)(S1:h_ prog w xs i1 l1 P1)(S2:h_ prog w ys i2 l2 P2)
  (hz:IsZip s.heap z TI TO .none) (hTI:IsPair s.heap TI (.ref i1) (.ref i2)) (hTO:IsPair s.heap TO a b) (h1:P1 k s.heap) (h2:P2 k s.heap) (hx:xs[k]? = some x) (hy:ys[k]? = some y)
  (hQ:∀h',IsZip h' z TI TO (rawInt s.heap.objs.size)->IsPair h' TO x y->P1 (k+1) h'->P2 (k+1) h'->IsPair h' s.heap.objs.size x y->h'.objs.size=s.heap.objs.size+1 ->
   (∀c o,c≠z->c≠TO->c≠i1->c≠i2->s.heap.get? c=some o->h'.get? c=some o)->Q (.ref s.heap.objs.size) {s with heap:=h'}) :
  ai (aj prog w) A (Builtin.«zip.__next__» ⟨[.ref z],[]⟩) (λfin s'=>∃v,fin=.done (.ret v)/\Q v s') E s:=by
 show ai (aj prog w) _ (field (.ref z) 2>>=_) _ _ _;refine ah (bR hz rfl (x:=.bool false) rfl ?_);show ai (aj prog w) _ (field (.ref z) 3>>=_) _ _ _;refine ah (bR hz rfl (x:=.ref TI) rfl ?_);refine ah (wpAny_seqItems hTI rfl ?_);show ai (aj prog w) _ (Builtin.SmallTypes.ownedTupleIsFree (.ref z)>>=_) _ _ _;refine ah ?_;unfold Builtin.SmallTypes.ownedTupleIsFree;refine ah (bR hz rfl (x:=.none) rfl (aC ?_));simp only[if_true];refine ah (wpAny_rule ?_);refine ah (bR hz rfl (x:=.ref TO) rfl ?_);refine ah (wpAny_setField_rec hz (by simp) λj1 zj1 sj1=>?_)
 replace zj1:IsZip j1 z TI TO .ellipsis:=zj1
 refine ah ?_;simp only[List.zipIdx_cons,List.zipIdx_nil,List.forIn_cons,List.forIn_nil];refine ah (ah (wpAny_onRaise ?_));show ai (aj prog w) _ (cQ (.ref i1)>>=_) _ _ _;refine ah (S1.nx k x _ _ _ (S1.fr k _ _ h1 (λo e=>sj1.extBut _ o D.i1z e) λo e=>sj1.extBut _ o D.l1z e) hx λj2 pj2 sj2=>aC ?_);have oj2:IsPair j2 TO a b:=sj2.extBut _ _ D.TOi1 (sj1.extBut _ _ D.TOz hTO);refine ah (wpAny_seqItems oj2 rfl ?_);refine ah (wpAny_updateSeq_pair oj2 λj3 oj3 sj3=>?_)
 replace oj3:IsPair j3 TO x b:=oj3
 refine ah (wpAny_letGo (aC ?_));refine ah (ah (wpAny_onRaise ?_));show ai (aj prog w) _ (cQ (.ref i2)>>=_) _ _ _;refine ah (S2.nx k y _ _ _ (S2.fr k _ _ h2 (λo e=>sj3.extBut _ o D.TOi2.symm (sj2.extBut _ o D.i12.symm (sj1.extBut _ o D.i2z e))) λo e=>sj3.extBut _ o D.l2TO (sj2.extBut _ o D.l2i1 (sj1.extBut _ o D.l2z e))) hy λj4 pj4 sj4=>aC ?_);have oj4:IsPair j4 TO x b:=sj4.extBut _ _ D.TOi2 oj3;refine ah (wpAny_seqItems oj4 rfl ?_);refine ah (wpAny_updateSeq_pair oj4 λj5 oj5 sj5=>?_)
 replace oj5:IsPair j5 TO x y:=oj5
 refine ah (wpAny_letGo (aC (aC ?_)));refine ah (wpAny_seqItems oj5 rfl ?_);refine ah (wpAny_newTuple ?_);have hsz:j5.objs.size=s.heap.objs.size:=by rw[sj5.1,sj4.1,sj3.1,sj2.1,sj1.1]
 have zj5:IsZip j5 z TI TO .ellipsis:=sj5.extBut _ _ D.TOz.symm (sj4.extBut _ _ D.i2z.symm (sj3.extBut _ _ D.TOz.symm (sj2.extBut _ _ D.i1z.symm zj1)));have kj5:∀c o,c≠z->c≠TO->c≠i1->c≠i2->s.heap.get? c=some o->j5.get? c=some o:=λc o c1 c2 c3 c4 e=>
  sj5.extBut _ _ c2 (sj4.extBut _ _ c4 (sj3.extBut _ _ c2 (sj2.extBut _ _ c3 (sj1.extBut _ _ c1 e))))
 have p15:P1 (k+1) j5:=S1.fr _ _ _ pj2 (λo e=>sj5.extBut _ o D.TOi1.symm (sj4.extBut _ o D.i12 (sj3.extBut _ o D.TOi1.symm e))) λo e=>sj5.extBut _ o D.l1TO (sj4.extBut _ o D.l1i2 (sj3.extBut _ o D.l1TO e))
 have p25:P2 (k+1) j5:=S2.fr _ _ _ pj4 (λo e=>sj5.extBut _ o D.TOi2.symm e) λo e=>sj5.extBut _ o D.l2TO e
 have hzlt:z<j5.objs.size:=aG zj5;show ai (aj prog w) _ (Builtin.SmallTypes.ownedTupleHandOut (.ref z) (.ref j5.objs.size)>>=_) _ _ _;refine ah ?_;unfold Builtin.SmallTypes.ownedTupleHandOut;have zj6:IsZip (j5.push {cls:=.type "tuple",data:=.seq #[x,y]}) z TI TO .ellipsis:=Heap.get?_push_of_some _ zj5;refine ah (wpAny_setField_rec zj6 (by simp) λj7 zj7 sj7=>?_)
 replace zj7:IsZip j7 z TI TO (rawInt j5.objs.size):=zj7
 refine wpAny_setField_rec zj7 (by simp) λj8 zj8 sj8=>?_
 replace zj8:IsZip j8 z TI TO (rawInt j5.objs.size):=zj8
 have up:∀c o,c≠z->j5.get? c=some o->j8.get? c=some o:=λc o c1 e=>sj8.extBut _ _ c1 (sj7.extBut _ _ c1 (Heap.get?_push_of_some _ e))
 have tj8:IsPair j8 j5.objs.size x y:=sj8.extBut _ _ (Nat.ne_of_gt hzlt) (sj7.extBut _ _ (Nat.ne_of_gt hzlt) (Heap.get?_push_size _ rfl));have hz8:j8.objs.size=j5.objs.size+1:=by rw[sj8.1,sj7.1,bQ]
 rw[hsz]at zj8 tj8 hz8;refine aC ⟨_,rfl,?_⟩;show Q (.ref j5.objs.size) _;rw[hsz];exact hQ j8 zj8 (up _ _ D.TOz oj5) (S1.fr _ _ _ p15 (λo e=>up _ o D.i1z e) λo e=>up _ o D.l1z e) (S2.fr _ _ _ p25 (λo e=>up _ o D.i2z e) λo e=>up _ o D.l2z e) tj8 hz8 λc o c1 c2 c3 c4 e=>up c o c1 (kj5 c o c1 c2 c3 c4 e)
theorem xA{a b:ae}{Q:PySem.Fin->af->Prop}(hh:A.handled=none)(D:ZipApart z TI TO i1 i2 l1 l2)(S1:h_ prog w xs i1 l1 P1)
  (hz:IsZip s.heap z TI TO .none) (hTI:IsPair s.heap TI (.ref i1) (.ref i2)) (hTO:IsPair s.heap TO a b) (h1:P1 k s.heap) (hx:xs[k]? = none)
  (hE:∀h' e,(∀c o,c≠z->c≠TO->c≠i1->c≠i2->s.heap.get? c=some o->h'.get? c=some o)->(∃o,h'.get? e=some o/\o.cls=.type "StopIteration")->E (.ref e) {s with heap:=h'}) :
  ai (aj prog w) A (Builtin.«zip.__next__» ⟨[.ref z],[]⟩) Q E s:=by
 show ai (aj prog w) _ (field (.ref z) 2>>=_) _ _ _;refine ah (bR hz rfl (x:=.bool false) rfl ?_);show ai (aj prog w) _ (field (.ref z) 3>>=_) _ _ _;refine ah (bR hz rfl (x:=.ref TI) rfl ?_);refine ah (wpAny_seqItems hTI rfl ?_);show ai (aj prog w) _ (Builtin.SmallTypes.ownedTupleIsFree (.ref z)>>=_) _ _ _;refine ah ?_;unfold Builtin.SmallTypes.ownedTupleIsFree;refine ah (bR hz rfl (x:=.none) rfl (aC ?_));simp only[if_true];refine ah (wpAny_rule ?_);refine ah (bR hz rfl (x:=.ref TO) rfl ?_);refine ah (wpAny_setField_rec hz (by simp) λj1 zj1 sj1=>?_)
 replace zj1:IsZip j1 z TI TO .ellipsis:=zj1
 refine ah ?_;simp only[List.zipIdx_cons,List.zipIdx_nil,List.forIn_cons,List.forIn_nil];refine ah (ah (wpAny_onRaise ?_));show ai (aj prog w) _ (cQ (.ref i1)>>=_) _ _ _;refine ah (S1.en k _ _ _ hh (S1.fr k _ _ h1 (λo e=>sj1.extBut _ o D.i1z e) λo e=>sj1.extBut _ o D.l1z e) hx λj2 e sj2 he=>?_);obtain⟨oe,hoe,hce⟩:=he;have zj2:IsZip j2 z TI TO .ellipsis:=sj2 _ _ D.i1z.symm zj1;have hez:e≠z:=λq=>by subst q;rw[zj2]at hoe;cases hoe;simp at hce
 refine wpAny_setField_rec zj2 (by simp) λj3 _ sj3=>hE j3 e (λc o c1 _ c3 _ q=>sj3.extBut _ _ c1 (sj2 _ _ c3 (sj1.extBut _ _ c1 q))) ⟨oe,sj3.extBut _ _ hez hoe,hce⟩
end
section
variable{X:Cx}{pins:List (Addr×Obj)}{σ:St}{H:Hp}{s:af}{h':Heap}{tk:Nat}
theorem Inv.turnNew{ch:List Addr}{p:Addr}{vs:List V}{its:List ae}(I:Inv X pins σ H s)(hf:∀b∈ch,dq X pins H b)(k:∀b o,b∉ch->s.heap.get? b=some o->h'.get? b=some o)
  (hp:s.heap.objs.size<=p) (ht:IsTup h' p its.toArray) (r:Vals vs its) (hz:vs.length<=aH):Inv X pins σ (upd H p (.tup vs)) {s with heap:=h',toks:=tk}:=by
 have hpn:H p=none:=I.hok.fresh hp;have nch:∀b u,H b=some u->b∉ch:=λb u e z=>by have:=(hf b z).1;rw[e]at this;cases this
 have np:∀b u,H b=some u->b≠p:=λb u e z=>by rw[z,hpn]at e;cases e
 refine I.step (g':=s.gens) (d':=s.drawn) (ch:=ch) (λb hb=>?_) (λb o _ _ hc e _=>k b o hc e) (λb o _ _ hc e _=>⟨o.slots,k b o hc e⟩) (λb o hc e n=>?_) (λb o hc e=>⟨o,k b o hc e⟩)
  (λb xs e=>by rw[qh (np b _ e)];exact e) (λb o u e=>by rw[qh (np b _ e)];exact e) (λb ps e=>⟨#[],by rw[qh (np b _ e),e];simp⟩) (λm hm=>?_) (λb u e=>?_) I.bare
 ·obtain⟨f0,f1,f2,f3,f4,f5⟩:=hf b hb;exact⟨f3,f1,f4,f5⟩
 ·rw[qh (aU (bc (aG e) hp))];exact n
 ·obtain⟨o,es,ep,ho,r⟩:=hm;exact⟨o,es,ep,k _ o (λz=>(hf _ z).2.1 rfl) ho,r⟩
 ·by_cases hb:b=p
  ·subst hb;rw[zy]at e;cases e;exact⟨hz,its,r,ht⟩
  ·rw[qh hb]at e;refine(I.hok b u e).stay (λc v hc q=>k c v ?_ q) (λc q=>by rw[qh (np c _ q)];exact q) λc xs q=>by rw[qh (np c _ q)];exact q
   rcases hc with z|z
   ·rw[z];exact nch b u e
   ·exact nch c _ z
theorem Inv.turnAll{ch:List Addr}(I:Inv X pins σ H s)(hf:∀b∈ch,dq X pins H b)(k:∀b o,b∉ch->s.heap.get? b=some o->h'.get? b=some o):Inv X pins σ H {s with heap:=h',toks:=tk}:=by
 have nch:∀b u,H b=some u->b∉ch:=λb u e z=>by have:=(hf b z).1;rw[e]at this;cases this
 refine I.step (g':=s.gens) (d':=s.drawn) (ch:=ch) (λb hb=>?_) (λb o _ _ hc e _=>k b o hc e) (λb o _ _ hc e _=>⟨o.slots,k b o hc e⟩) (λb o hc e n=>n) (λb o hc e=>⟨o,k b o hc e⟩)
  (λb xs e=>e) (λb o u e=>e) (λb ps e=>⟨#[],by rw[e];simp⟩) (λm hm=>?_) (λb u e=>?_) I.bare
 ·obtain⟨f0,f1,f2,f3,f4,f5⟩:=hf b hb;exact⟨f3,f1,f4,f5⟩
 ·obtain⟨o,es,ep,ho,r⟩:=hm;exact⟨o,es,ep,k _ o (λz=>(hf _ z).2.1 rfl) ho,r⟩
 ·refine(I.hok b u e).stay (λc v hc q=>k c v ?_ q) (λc q=>q) λc xs q=>q
  rcases hc with z|z
  ·rw[z];exact nch b u e
  ·exact nch c _ z
end
noncomputable def Sq2(K:aq)(tup:Bool)(H:Hp)(a:Addr)(xs:List V):Prop:=if tup=true then SqT K H a xs else SqL K H a xs
noncomputable def Itz(K:aq)(tup:Bool)(l1 l2:Addr):It:=
 ⟨λi H=>∃xs ys x y,Sq2 K tup H l1 xs/\Sq2 K tup H l2 ys/\xs[i]? = some x/\ys[i]? = some y,
  λi H v H'=>∃p x y,H p=none/\v=.ref p/\H'=upd H p (.tup [x,y])/\(∀xs,Sq2 K tup H l1 xs->xs[i]? = some x)/\∀ys,Sq2 K tup H l2 ys->ys[i]? = some y,
  λi H=>∃xs ys,Sq2 K tup H l1 xs/\Sq2 K tup H l2 ys/\xs.length<=i⟩
noncomputable def eJ(tup:Bool)(h:Heap)(i l:Addr)(k:Nat):Prop:=if tup=true then h.IsTupleIter i l k else h.IsListIter i l k
noncomputable def pR(tup:Bool)(h:Heap)(l:Addr)(xs:Array ae):Prop:=if tup=true then h.IsTuple l xs else h.IsList l xs
theorem kB{prog:aw}{w:au}{xs:Array ae}{i l:Addr}{tup:Bool}:h_ prog w xs i l (λk h=>eJ tup h i l k/\pR tup h l xs):=by
 cases tup with
 |true=>exact sv
 |false=>exact CZ
theorem eJ.rec{tup:Bool}{h:Heap}{i l:Addr}{k:Nat}(x:eJ tup h i l k):∃o vs,h.get? i=some o/\o.data=.fields vs:=by
 cases tup with
 |true=>obtain⟨o,e,_,d⟩:=(show h.IsTupleIter i l k from x);exact⟨o,_,e,d⟩
 |false=>obtain⟨o,e,_,d⟩:=(show h.IsListIter i l k from x);exact⟨o,_,e,d⟩
theorem eJ.kept{tup:Bool}{h h':Heap}{i l:Addr}{k:Nat}(x:eJ tup h i l k)(p:∀o,h.get? i=some o->h'.get? i=some o):eJ tup h' i l k:=by
 cases tup with
 |true=>exact(show h.IsTupleIter i l k from x).at p
 |false=>exact(show h.IsListIter i l k from x).at p
theorem Inv.sq2{X:Cx}{pins:List (Addr×Obj)}{σ:St}{H:Hp}{s:af}{tup:Bool}{a:Addr}{xs:List V}(I:Inv X pins σ H s)(h:Sq2 X.K tup H a xs):∃its:List ae,Vals xs its/\pR tup s.heap a its.toArray/\xs.length<=aH/\∃o ns n,s.heap.get? a=some o/\o.data=.seq ns n:=by
 cases tup with
 |true=>
  obtain⟨its,r,p,z⟩:=I.tuple h;obtain⟨o,e,c,n,d⟩:=id p;exact⟨its,r,p,z,o,_,n,e,d⟩
 |false=>
  obtain⟨its,r,p,z⟩:=I.list h;obtain⟨o,n,e,c,c',d⟩:=id p;exact⟨its,r,p.isList,z,o,_,n,e,d⟩
theorem Inv.sq2_inj{X:Cx}{pins:List (Addr×Obj)}{σ:St}{H:Hp}{s:af}{tup:Bool}{a:Addr}{xs ys:List V}(I:Inv X pins σ H s)(h:Sq2 X.K tup H a xs)(h':Sq2 X.K tup H a ys):xs=ys:=by
 cases tup with
 |true=>exact I.tuple_inj h h'
 |false=>exact I.list_inj h h'
theorem uF{P:aw}{w:au}{K:aq}{es:List Expr}{ek:Nat}{epos:Pos}{tup:Bool}{z TI TO i1 i2 l1 l2:Addr}(n1:TI≠z)(n2:TO≠z)(n3:i1≠z)(n4:i2≠z)(n5:TI≠TO)(n6:TI≠i1)(n7:TI≠i2)(n8:TO≠i1)(n9:TO≠i2)(n10:i1≠i2)
  (ml:∀b∈[z,TI,TO,i1,i2],l1≠b/\l2≠b):Turn P w K (.Tuple es ek epos) (Itz K tup l1 l2) [z,TI,TO,i1,i2] z (λi h=>IsZip h z TI TO .none/\IsPair h TI (.ref i1) (.ref i2)/\(∃a b,IsPair h TO a b)/\eJ tup h i1 l1 i/\eJ tup h i2 l2 i) where
 mem:=by simp
 obj:=λi h st b hb=>by
  obtain⟨hz,hTI,⟨a,c,hTO⟩,h1,h2⟩:=st;obtain⟨o1,v1,e1,d1⟩:=h1.rec;obtain⟨o2,v2,e2,d2⟩:=h2.rec;have hb':b=z\/b=TI\/b=TO\/b=i1\/b=i2:=by simpa using hb
  rcases hb' with q|q|q|q|q
  ·subst q;exact⟨_,hz,λv q=>by cases q⟩
  ·subst q;exact⟨_,hTI,λv q=>by cases q⟩
  ·subst q;exact⟨_,hTO,λv q=>by cases q⟩
  ·subst q;exact⟨o1,e1,λv q=>by rw[d1]at q;cases q⟩
  ·subst q;exact⟨o2,e2,λv q=>by rw[d2]at q;cases q⟩
 keep:=λi h h' st k=>by
  obtain⟨hz,hTI,⟨a,c,hTO⟩,h1,h2⟩:=st;exact⟨k z (by simp) _ hz,k TI (by simp) _ hTI,⟨a,c,k TO (by simp) _ hTO⟩,h1.kept λo e=>k i1 (by simp) o e,h2.kept λo e=>k i2 (by simp) o e⟩
 item:=by
  intro X hP hw hK hc i pins s σ H E I hf st hg;subst hP hw hK;obtain⟨hz,hTI,⟨a,c,hTO⟩,h1,h2⟩:=st;obtain⟨xs,ys,x,y,q1,q2,hx,hy⟩:=hg;obtain⟨its1,r1,p1,z1,_⟩:=I.sq2 q1;obtain⟨its2,r2,p2,z2,_⟩:=I.sq2 q2;obtain⟨u1,hu1,ru1⟩:=r1.get hx;obtain⟨u2,hu2,ru2⟩:=r2.get hy;have D:ZipApart z TI TO i1 i2 l1 l2:=⟨n1,n2,n3,n4,n5,n6,n7,n8,n9,n10,(ml z (by simp)).1,(ml TO (by simp)).1,(ml i1 (by simp)).1,(ml i2 (by simp)).1,(ml z (by simp)).2,(ml TO (by simp)).2,(ml i1 (by simp)).2,(ml i2 (by simp)).2⟩
  have hT:s.TypeIs (.ref z) "zip":=⟨_,hz,rfl⟩
  unfold pyNext;refine ah (wpAny_attempt (wpAny_callSpecial?_slot (name:=ag "__next__") hT F.slot_zip_next (dj F.slot_zip_next hT F.entry_zip_next
   (xw (xs:=its1.toArray) (ys:=its2.toArray) (k:=i) D (kB (tup:=tup)) (kB (tup:=tup)) hz hTI hTO ⟨h1,p1⟩ ⟨h2,p2⟩ (by simpa using hu1) (by simpa using hu2) λh' a1 a2 a3 a4 a5 a6 hk=>aC ?_) (F.args_zip_next_1 _))))
  have hkc:∀b o,b∉[z,TI,TO,i1,i2]->s.heap.get? b=some o->h'.get? b=some o:=λb o hb e=>hk b o (λq=>hb (by simp[q])) (λq=>hb (by simp[q])) (λq=>hb (by simp[q])) (λq=>hb (by simp[q])) e
  have I1:Inv X pins σ (upd H s.heap.objs.size (.tup [x,y])) {s with heap:=h'}:=I.turnNew (tk:=s.toks) (its:=[u1,u2]) hf hkc (ay _) ⟨_,a5,rfl,_,rfl⟩ (.cons ru1 (.cons ru2 .nil)) (by show 2<=aH;decide);have hpn:H s.heap.objs.size=none:=I.hok.fresh (ay _);have hfp:∀b∈[z,TI,TO,i1,i2],b≠s.heap.objs.size:=λb hb q=>by
   have hb':b=z\/b=TI\/b=TO\/b=i1\/b=i2:=by simpa using hb
   obtain⟨o1,v1,e1,d1⟩:=h1.rec;obtain⟨o2,v2,e2,d2⟩:=h2.rec;have:b<s.heap.objs.size:=by
    rcases hb' with q|q|q|q|q
    ·subst q;exact aG hz
    ·subst q;exact aG hTI
    ·subst q;exact aG hTO
    ·subst q;exact aG e1
    ·subst q;exact aG e2
   rw[q]at this;exact br _ this
  have hnone:∀b∈[z,TI,TO,i1,i2],(upd H s.heap.objs.size (.tup [x,y])) b=none:=λb hb=>by rw[qh (hfp b hb)];exact(hf b hb).1
  refine⟨_,rfl,?_⟩;refine wpAny_letOwnedTupleGo_zip (s:={s with heap:=h'}) a1 λh2' hz' hs'=>?_
  obtain⟨f0,f1,f2,f3,f4,f5⟩:=hf z (by simp);refine⟨.ref s.heap.objs.size,_,I1.turned (t':=s.toks) (it:=z) (λb o hb e=>(hs'.2 b hb).trans e) (hnone z (by simp)) f1 f3 f4 f5,rfl,⟨_,x,y,hpn,rfl,rfl,λzs hq=>by rw[I.sq2_inj hq q1];exact hx,λzs hq=>by rw[I.sq2_inj hq q2];exact hy⟩,?_,hnone⟩;have up:∀b o,b≠z->h'.get? b=some o->h2'.get? b=some o:=λb o hb e=>(hs'.2 b hb).trans e
  exact⟨hz',up _ _ n1 (hk _ _ n1 n5 n6 n7 hTI),⟨_,_,up _ _ n2 a2⟩,a3.1.kept λo e=>up _ o n3 e,a4.1.kept λo e=>up _ o n4 e⟩
 done:=by
  intro X hP hw hK hc i pins s σ H E I hf st hg;subst hP hw hK;obtain⟨hz,hTI,⟨a,c,hTO⟩,h1,h2⟩:=st;obtain⟨xs,ys,q1,q2,hx⟩:=hg;obtain⟨its1,r1,p1,z1,_⟩:=I.sq2 q1;have D:ZipApart z TI TO i1 i2 l1 l2:=⟨n1,n2,n3,n4,n5,n6,n7,n8,n9,n10,(ml z (by simp)).1,(ml TO (by simp)).1,(ml i1 (by simp)).1,(ml i2 (by simp)).1,(ml z (by simp)).2,(ml TO (by simp)).2,(ml i1 (by simp)).2,(ml i2 (by simp)).2⟩
  have hT:s.TypeIs (.ref z) "zip":=⟨_,hz,rfl⟩
  have hl:=r1.length;unfold pyNext;refine ah (wpAny_attempt (wpAny_callSpecial?_slot (name:=ag "__next__") hT F.slot_zip_next (dj F.slot_zip_next hT F.entry_zip_next
   (xA (xs:=its1.toArray) (k:=i) (I.ok.hd hc) D (kB (tup:=tup)) hz hTI hTO ⟨h1,p1⟩ (by simp;lia) λh' e hk he=>?_) (F.args_zip_next_1 _))))
  obtain⟨o,ho,hcl⟩:=he;refine ah (wpAny_isInstance (T:="StopIteration") (b:=true) ⟨o,ho,hcl⟩ isSubtype_stop ?_);exact aC ⟨rfl,I.turnAll (tk:=s.toks) hf λb o hb e=>hk b o (λq=>hb (by simp[q])) (λq=>hb (by simp[q])) (λq=>hb (by simp[q])) (λq=>hb (by simp[q])) e⟩
 self:=λ_ _ _ _ _ st h=>wpAny_pyIter_zip st.1 h
abbrev zj1(h:Heap)(l1:Addr):Heap:=h.push {cls:=.type "tuple_iterator",data:=.fields #[.ref l1,.int 0 0]}
abbrev zj2(h:Heap)(l1 l2:Addr):Heap:=(zj1 h l1).push {cls:=.type "tuple_iterator",data:=.fields #[.ref l2,.int 0 0]}
abbrev zj3(h:Heap)(l1 l2:Addr):Heap:=(zj2 h l1 l2).push {cls:=.type "tuple",data:=.seq #[.ref h.objs.size,.ref (zj1 h l1).objs.size]}
abbrev zj4(h:Heap)(l1 l2:Addr):Heap:=(zj3 h l1 l2).push {cls:=.type "tuple",data:=.seq #[.none,.none]}
abbrev zj5(h:Heap)(l1 l2:Addr):Heap:=(zj4 h l1 l2).push {cls:=.type "zip",data:=.fields #[.none,.bool false,.bool false,.ref (zj2 h l1 l2).objs.size,.ref (zj3 h l1 l2).objs.size]}
theorem CU(l1 l2:Addr)(xs ys:Array ae) :
  Meets (Builtin.«zip.__new__» ⟨[.type "zip",.ref l1,.ref l2],[]⟩) (λ_ R s=>s.heap.IsTuple l1 xs/\s.heap.IsTuple l2 ys/\R (.ok (.ret (.ref (zj4 s.heap l1 l2).objs.size))) {s with heap:=zj5 s.heap l1 l2}):=
 .of_wp λprog w A R s h=>by
  obtain⟨hp,g,d,tk,os⟩:=s;obtain⟨hl1,hl2,h⟩:=h;have hsub:=sub_zip;have hL1:Heap.IsTuple (af.heap ⟨hp,g,d,tk,os⟩) l1 xs:=hl1;have hL2:Heap.IsTuple (af.heap ⟨hp.push {cls:=.type "tuple_iterator",data:=.fields #[.ref l1,.int 0 0]},g,d,tk,os⟩) l2 ys:=let ⟨o,e,r⟩:=hl2;⟨o,Heap.get?_push_of_some _ e,r⟩
  wp_walk using wpAny_pyIter_tuple hL1,wpAny_pyIter_tuple hL2
  exact⟨_,rfl,h⟩
section
variable{prog:aw}{w:au}{A:ax}{E:ae->af->Prop}{s:af}
theorem Ca{l1 l2:Addr}{xs ys:Array ae}{Q:ae->af->Prop}(hl1:s.heap.IsTuple l1 xs)(hl2:s.heap.IsTuple l2 ys)
  (h:∀h',IsZip h' (s.heap.objs.size+4) (s.heap.objs.size+2) (s.heap.objs.size+3) .none->IsPair h' (s.heap.objs.size+2) (.ref s.heap.objs.size) (.ref (s.heap.objs.size+1)) ->
   IsPair h' (s.heap.objs.size+3) .none .none->h'.IsTupleIter s.heap.objs.size l1 0->h'.IsTupleIter (s.heap.objs.size+1) l2 0->h'.objs.size=s.heap.objs.size+5 ->
   (∀c o,s.heap.get? c=some o->h'.get? c=some o)->Q (.ref (s.heap.objs.size+4)) {s with heap:=h'}):ai (aj prog w) A (call (.type "zip") [.ref l1,.ref l2]) Q E s:=by
 refine callType_new F.called_zip (by decide) (F.typeCall_zip_2 _ _) (F.newCall_zip_2 _ _) (λobj=>F.args_object_init_3 obj _ _) F.entry_zip_new (CU l1 l2 xs ys) ⟨hl1,hl2,?_⟩;have z1:(zj1 s.heap l1).objs.size=s.heap.objs.size+1:=bQ ..;have z2:(zj2 s.heap l1 l2).objs.size=s.heap.objs.size+2:=by rw[bQ,z1]
 have z3:(zj3 s.heap l1 l2).objs.size=s.heap.objs.size+3:=by rw[bQ,z2]
 have z4:(zj4 s.heap l1 l2).objs.size=s.heap.objs.size+4:=by rw[bQ,z3]
 have z5:(zj5 s.heap l1 l2).objs.size=s.heap.objs.size+5:=by rw[bQ,z4]
 have g5:(zj5 s.heap l1 l2).get? (zj4 s.heap l1 l2).objs.size=some _:=Heap.get?_push_size _ rfl;have g4:(zj5 s.heap l1 l2).get? (zj3 s.heap l1 l2).objs.size=some _:=Heap.get?_push_of_some _ (Heap.get?_push_size _ rfl);have g3:(zj5 s.heap l1 l2).get? (zj2 s.heap l1 l2).objs.size=some _:=Heap.get?_push_of_some _ (Heap.get?_push_of_some _ (Heap.get?_push_size _ rfl));have g2:(zj5 s.heap l1 l2).get? (zj1 s.heap l1).objs.size=some _:=Heap.get?_push_of_some _ (Heap.get?_push_of_some _ (Heap.get?_push_of_some _ (Heap.get?_push_size _ rfl)));have g1:(zj5 s.heap l1 l2).get? s.heap.objs.size=some _:=Heap.get?_push_of_some _ (Heap.get?_push_of_some _ (Heap.get?_push_of_some _ (Heap.get?_push_of_some _ (Heap.get?_push_size _ rfl))));show _/\_;rw[z2,z3,z4]at g5;rw[z1,z2]at g3;rw[z3]at g4;rw[z1]at g2;rw[z4];exact⟨⟨_,g5,rfl⟩,h _ g5 g3 g4 ⟨_,g1,rfl,rfl⟩ ⟨_,g2,rfl,rfl⟩ z5 λc o x=>Heap.get?_push_of_some _ (Heap.get?_push_of_some _ (Heap.get?_push_of_some _ (Heap.get?_push_of_some _ (Heap.get?_push_of_some _ x))))⟩
end
noncomputable def yF(K:aq)(ta:TA):TI:=λσ H R=>ta σ H λvs H1=>∃(tup:Bool) (l1 l2:Addr),vs=[.ref l1,.ref l2]/\(∃xs,Sq2 K tup H1 l1 xs)/\(∃ys,Sq2 K tup H1 l2 ys)/\R (Itz K tup l1 l2) H1
theorem Cr{X:Cx}{es:List Expr}{ek:Nat}{epos p pos:Pos}{a b:Expr}{ta:TA}(hg:Gl X "zip")(hm:X.mg "zip" = none)(hv:bG "zip" = some (.type "zip"))(ha:PA X [a,b] ta)
  (hs:aL [a,b] X.env=[(false,eval a X.env),(false,eval b X.env)]:=by rfl) (hs2:aL [b] X.env=[(false,eval b X.env)]:=by rfl):PI X (.Tuple es ek epos) (.Call (.Name "zip" p) [a,b] [] pos) (yF X.K ta):=by
 intro pins s σ H R I h;refine Call_ (fj I hg hm hv (ez (thn (ha pos pins s σ H _ I h) λus s1 ⟨vs,H1,I1,r1,q1⟩=>?_) (by rw[hs,hs2]) (by rw[hs2];rfl)));obtain⟨tup,l1,l2,e,⟨xs,q2⟩,⟨ys,q3⟩,q⟩:=q1;subst e;cases r1 with
 |cons r rr=>
  cases rr with
  |cons r' rr=>
   cases rr;cases r;cases r';obtain⟨its1,v1,p1,_,o1,ns1,m1,e1,d1⟩:=I1.sq2 q2;obtain⟨its2,v2,p2,_,o2,ns2,m2,e2,d2⟩:=I1.sq2 q3;have lt1:l1<s1.heap.objs.size:=aG e1;have lt2:l2<s1.heap.objs.size:=aG e2;have above:∀b:Addr,b∈[s1.heap.objs.size+4,s1.heap.objs.size+2,s1.heap.objs.size+3,s1.heap.objs.size,s1.heap.objs.size+1]->s1.heap.objs.size<=b:=λb hb=>by
    have hb':b=s1.heap.objs.size+4\/b=s1.heap.objs.size+2\/b=s1.heap.objs.size+3\/b=s1.heap.objs.size\/b=s1.heap.objs.size+1:=by simpa using hb
    rcases hb' with q|q|q|q|q
    ·rw[q];exact Nat.le_add_right _ _
    ·rw[q];exact Nat.le_add_right _ _
    ·rw[q];exact Nat.le_add_right _ _
    ·rw[q];exact ay _
    ·rw[q];exact Nat.le_add_right _ _
   have fin:∀h',IsZip h' (s1.heap.objs.size+4) (s1.heap.objs.size+2) (s1.heap.objs.size+3) .none->IsPair h' (s1.heap.objs.size+2) (.ref s1.heap.objs.size) (.ref (s1.heap.objs.size+1)) ->
     IsPair h' (s1.heap.objs.size+3) .none .none->eJ tup h' s1.heap.objs.size l1 0->eJ tup h' (s1.heap.objs.size+1) l2 0->(∀c o,s1.heap.get? c=some o->h'.get? c=some o) ->
     ai (aj X.prog X.w) X.A (pyIter (.ref (s1.heap.objs.size+4))) (PIE X pins σ (.Tuple es ek epos) R) X.xe {s1 with heap:=h'}:=λh' a1 a2 a3 a4 a5 k=>by
    have I2:Inv X pins σ H1 {s1 with heap:=h'}:=I1.kept (t':=s1.toks) k;refine wpAny_pyIter_zip a1 ?_;refine⟨_,_,_,_,H1,rfl,I2,uF (P:=X.prog) (w:=X.w) (K:=X.K) (z:=s1.heap.objs.size+4) (TI:=s1.heap.objs.size+2) (TO:=s1.heap.objs.size+3) (i1:=s1.heap.objs.size) (i2:=s1.heap.objs.size+1) (l1:=l1) (l2:=l2) (tup:=tup) (show (s1.heap.objs.size+2:Nat)≠s1.heap.objs.size+4 by lia) (show (s1.heap.objs.size+3:Nat)≠s1.heap.objs.size+4 by lia) (show (s1.heap.objs.size:Nat)≠s1.heap.objs.size+4 by lia) (show (s1.heap.objs.size+1:Nat)≠s1.heap.objs.size+4 by lia) (show (s1.heap.objs.size+2:Nat)≠s1.heap.objs.size+3 by lia) (show (s1.heap.objs.size+2:Nat)≠s1.heap.objs.size by lia) (show (s1.heap.objs.size+2:Nat)≠s1.heap.objs.size+1 by lia) (show (s1.heap.objs.size+3:Nat)≠s1.heap.objs.size by lia) (show (s1.heap.objs.size+3:Nat)≠s1.heap.objs.size+1 by lia) (show (s1.heap.objs.size:Nat)≠s1.heap.objs.size+1 by lia) (λb hb=>?_),⟨a1,a2,⟨_,_,a3⟩,a4,a5⟩,λb hb=>?_,q⟩
    ·have:=above b hb;exact⟨aU (bc lt1 this),aU (bc lt2 this)⟩
    ·have:=above b hb;exact I1.fpOk this (I1.hok.fresh this)
   cases tup with
   |true=>exact Ca p1 p2 λh' a1 a2 a3 a4 a5 _ k=>fin h' a1 a2 a3 a4 a5 k
   |false=>exact call_zip_2 p1 p2 λh' a1 a2 a3 a4 a5 _ k=>fin h' a1 a2 a3 a4 a5 k
theorem EB{K:aq}{x C:Addr}(S:cL K C):PySem.W.KitX K (.ref x) (.ref C) (λh=>∃o,h.get? x=some o/\o.cls=.ref C) where
 ty:=λM h _ ⟨o,e,c⟩=>c▸(PySem.W.Looks.ld e).andThen .now
 it:=λ_ _ Z _=>by
  obtain⟨c,dd,cd,sl,e⟩:=S.cl;intro A' Q' E' s' k q;unfold isType loadHead;exact ah (wpAny_loadPart (k _ _ (Z _ _ e)) (aC q))
 ne:=λh tp dd its n sl Z htp=>by
  obtain⟨c,dd',cd,sl',e⟩:=S.cl;refine Bool.eq_false_iff.mpr λq=>?_
  have e1:C=tp:=aW.inj (beq_iff_eq.mp q);subst e1;have z:=(Z _ _ e).symm.trans htp;cases z
 ca:=λ{prog w A E Q s} Z ⟨o,e,c⟩ k=>by
  obtain⟨hh,g,d,t,os⟩:=s;exact Dj Z S (c▸(PySem.W.Looks.ld e).andThen .now) ⟨o,e,c⟩ k
noncomputable def jV:V->Option ae
 | .ty n=>some (.type n)
 | .ref a=>some (.ref a)
 |_=>none
noncomputable def TyX(K:aq)(H:Hp)(x:V)(t:ae):Prop:=dF K H x t\/∃a C,x=.ref a/\t=.ref C/\H a=some (gJ a (.ref C))/\cL K C
theorem Cw{X:Cx}:zt X (.builtin "isinstance") (λxs H Q=>∃x c cv t b,xs=[x,c]/\jV c=some cv/\TyX X.K H x t/\bh X.K t cv=some b/\Q (.bl b) H):=by
 intro pins s σ H xs us Q I r h;obtain⟨x,c,cv,t,b,rfl,hc,ty,hk,q⟩:=h;obtain⟨u,cu,rfl,rx,rc⟩:=r.two;have e:cu=cv:=by
  cases c with
  |ty n=>cases hc;exact rc
  |ref a=>cases hc;exact rc
  |_=>cases hc
 subst e;rcases ty with ty|⟨a,C,rfl,rfl,ha,S⟩
 ·exact gq I rx ty hk λtk=>⟨.bl b,H,I.tok tk,rfl,q⟩
 ·cases rx;obtain⟨⟨o,vs,e1,e2,e3⟩,_⟩:=(show zI X.prog X.w H s.heap a (gJ a (.ref C))from I.hok a _ ha)
  exact bK (EB S) I.kIn ⟨o,e1,e2⟩ hk (λz=>nomatch z) λtk=>⟨.bl b,H,I.tok tk,rfl,q⟩
theorem BN{K:aq}{T:String}:bh K (.type T) (.type T)=some true:=by unfold bh;rw[if_pos (by simp)]
theorem vA{K:aq}{a T:String}{b:Bool}(hne:(ae.type a==ae.type T)=false)(hm:PySem.W.kitMeta T=true)(hf:(fastBuiltinMro a).map (·.contains (.type T))=some b):bh K (.type a) (.type T)=some b:=by
 unfold bh PySem.W.kitCls av;rw[if_neg (by rw[hne];exact bI)];dsimp only;rw[if_pos hm];exact hf
noncomputable def fX(a T:String):Bool:=a==T||(a == "bool" && T == "int")
theorem xf{K:aq}{a T:String}(ha:a∈["NoneType","bool","int","str","list","tuple","dict"])(hT:T∈["int","bool","str","list","tuple"]):bh K (.type a) (.type T)=some (fX a T):=by
 simp only[aD,bV,or_false]at ha hT;rcases ha with rfl|rfl|rfl|rfl|rfl|rfl|rfl<;>rcases hT with rfl|rfl|rfl|rfl|rfl<;>first|exact BN|exact vA (by decide +kernel) (by decide +kernel) (by decide +kernel)
noncomputable def qm{α:Type}(lt:Nat->Nat->Bool):PySem.W.KasT α->α
 | .ret a=>a
 | .ask i j k=>qm lt (k (lt i j))
noncomputable def bN{α:Type}(n:Nat)(r:α->Prop):PySem.W.KasT α->Prop
 | .ret a=>r a
 | .ask i j k=>i<n/\j<n/\∀b,bN n r (k b)
theorem bN.bind{α β:Type}{n:Nat}{r:α->Prop}{r':β->Prop}{f:α->PySem.W.KasT β}(hf:∀a,r a->bN n r' (f a)):∀(t:PySem.W.KasT α),bN n r t->bN n r' (t.bind f)
 | .ret a,h=>hf a h
 | .ask _ _ k,⟨h1,h2,h3⟩=>⟨h1,h2,λb=>bN.bind hf (k b) (h3 b)⟩
theorem nj{α:Type}{n:Nat}{r:α->Prop}{lt:Nat->Nat->Bool}{cmp:Nat->Nat->(Bool->af->Prop)->af->Prop}{s:af}(h:∀i j C,i<n->j<n->C (lt i j) s->cmp i j C s){Q:α->af->Prop}:∀(t:PySem.W.KasT α),bN n r t->Q (qm lt t) s->t.kasWp cmp Q s
 | .ret _,_,q=>q
 | .ask i j k,⟨h1,h2,h3⟩,q=>h i j _ h1 h2 (nj h (k (lt i j)) (h3 _) q)
noncomputable def Bel(n:Nat)(p:Array Nat):Prop:=p.size=n/\∀x∈p,x<n
theorem Bel.get{n:Nat}{p:Array Nat}(h:Bel n p)(hn:0<n)(i:Nat):p.getD i 0<n:=by
 unfold Array.getD;split
 ·rename_i hi;exact h.2 _ (Array.getElem_mem hi)
 ·exact hn
theorem Bel.swap{n:Nat}{p:Array Nat}(h:Bel n p)(i j:Nat):Bel n (p.swapIfInBounds i j):=by
 refine⟨by rw[Array.size_swapIfInBounds];exact h.1,λx hx=>?_⟩;unfold Array.swapIfInBounds at hx;split at hx
 ·split at hx
  ·rename_i h1 h2
   exact h.2 x ((Array.swap_perm h1 h2).mem_iff.mp hx)
  ·exact h.2 x hx
 ·exact h.2 x hx
theorem Bel.fold{n:Nat}(u v:Nat->Nat):∀(l:List Nat) {p:Array Nat},Bel n p->Bel n (l.foldl (λa k=>a.swapIfInBounds (u k) (v k)) p)
 | [],_,h=>h
 |k::r,p,h=>Bel.fold u v r (h.swap (u k) (v k))
theorem Bel.rev{n:Nat}{p:Array Nat}(h:Bel n p)(i j:Nat):Bel n (bp p i j):=by
 unfold bp mirror
 first|exact Bel.fold _ _ _ h|(simp only[];exact Bel.fold _ _ _ h)
theorem Bel.bub{n:Nat}{p:Array Nat}(h:Bel n p)(i j:Nat):Bel n (bubble p i j):=by
 unfold bubble
 first|exact Bel.fold _ _ _ h|(simp only[];exact Bel.fold _ _ _ h)
theorem lX{n:Nat}(hn:0<n){p:Array Nat}(h:Bel n p):∀f m,bN n (λ_=>True) (PySem.W.kas_asc p f m)
 | 0,_=>trivial
 |f+1,m=>⟨h.get hn _,h.get hn _,λb=>by cases b with
  |true=>exact trivial
  |false=>exact lX hn h f (m+1)⟩
theorem jF{n:Nat}(hn:0<n):∀f {p:Array Nat} m q,Bel n p->bN n (λr=>Bel n r.1) (bg f p m q)
 | 0,_,_,_,h=>h
 |f+1,p,m,q,h=>⟨h.get hn _,h.get hn _,λb=>by cases b with
  |true=>
   show bN n _ (if q>0 then _ else _);split
   ·exact jF hn f _ _ (h.rev _ _)
   ·exact jF hn f _ _ h
  |false=>exact⟨h.get hn _,h.get hn _,λd=>by cases d with
   |true=>exact h
   |false=>exact jF hn f _ _ h⟩⟩
theorem nR{n:Nat}(hn:0<n){p:Array Nat}(h:Bel n p)(a b:Nat):bN n (λr=>Bel n r.2) (PySem.W.kas_tail3 a b p):=by
 unfold PySem.W.kas_tail3;refine bN.bind (r:=λ_=>True) (λm _=>?_) _ (lX hn (h.rev _ _) _ _);show Bel n (bp p 0 a);exact h.rev _ _
theorem rl{n:Nat}(hn:0<n){p:Array Nat}(h:Bel n p)(a b:Nat):bN n (λr=>Bel n r.2) (PySem.W.kas_descPart a b p):=by
 refine bN.bind (λr hr=>?_) _ (jF hn _ _ _ h);split
 ·exact nR hn (hr.rev _ _) _ _
 ·exact nR hn hr _ _
theorem Dc{n:Nat}(hn:0<n){p:Array Nat}(h:Bel n p)(m:Nat):bN n (λr=>Bel n r.2) (PySem.W.kas_count m p):=by
 refine bN.bind (λr _=>?_) _ (lX hn h _ _);split
 ·exact h
 ·split
  ·exact⟨h.get hn _,h.get hn _,λb=>by cases b with
    |true=>exact h
    |false=>exact rl hn (h.rev _ _) _ _⟩
  ·exact rl hn h _ _
theorem lQ{n:Nat}(hn:0<n){p:Array Nat}(h:Bel n p)(k:Nat):∀f l r,bN n (λ_=>True) (PySem.W.kas_place p k f l r)
 | 0,_,_=>trivial
 |f+1,l,r=>by
  unfold PySem.W.kas_place;split
  ·exact trivial
  ·exact⟨h.get hn _,h.get hn _,λb=>by cases b with
    |true=>exact lQ hn h k f _ _
    |false=>exact lQ hn h k f _ _⟩
theorem nh{n:Nat}(hn:0<n):∀f {p:Array Nat} k,Bel n p->bN n (Bel n) (PySem.W.kas_bin f p k)
 | 0,_,_,h=>h
 |f+1,p,k,h=>bN.bind (λl _=>nh hn f _ (h.bub _ _)) _ (lQ hn h k k 0 k)
theorem lF{n:Nat}(hn:0<n):bN n (Bel n) (PySem.W.kas_sort n):=by
 have h0:Bel n (List.toArray (a8 n)):=⟨by simp,λx hx=>by simpa using hx⟩
 refine bN.bind (λr hr=>?_) _ (Dc hn h0 n);split
 ·exact nh hn _ _ hr
 ·exact hr
theorem bN.run{α:Type}{n:Nat}{r:α->Prop}{lt:Nat->Nat->Bool}:∀(t:PySem.W.KasT α),bN n r t->r (qm lt t)
 | .ret _,h=>h
 | .ask i j k,⟨_,_,h⟩=>bN.run (k (lt i j)) (h _)
noncomputable def ltP(p q:Int×Int):Bool:=if p.1=q.1 then decide (p.2<q.2)else decide (p.1<q.1)
noncomputable def cU(ks:List (Int×Int)):List Nat:=if ks.length<2 then a8 ks.length else (qm (λi j=>ltP (ks.getD i (0,0)) (ks.getD j (0,0))) (PySem.W.kas_sort ks.length)).toList
section
variable{prog:aw}{w:au}{A:ax}{E:ae->af->Prop}{s:af}
theorem sQ{vs:List ae}{ks:List (Int×Int)}(hl:ks.length=vs.length)(hp:∀(i:Nat) p,ks[i]? = some p->∃a t u o n,vs[i]? = some (.ref a)/\s.heap.get? a=some o/\o.data=.seq #[.int p.1 t,.int p.2 u] n){i j:Nat}(hi:i<ks.length)(hj:j<ks.length){C:Bool->af->Prop}
  (h:C (ltP (ks.getD i (0,0)) (ks.getD j (0,0))) s):PySem.W.kas_ask prog w A (tuples' true) vs i j C s:=by
 obtain⟨a,t,u,o,n,e1,e2,e3⟩:=hp i ks[i] (by simp[hi]);obtain⟨a',t',u',o',n',f1,f2,f3⟩:=hp j ks[j] (by simp[hj]);unfold PySem.W.kas_ask;have g1:vs.getD i bM=.ref a:=by rw[List.getD_eq_getElem?_getD,e1];rfl
 have g2:vs.getD j bM=.ref a':=by rw[List.getD_eq_getElem?_getD,f1];rfl
 have k1:ks.getD i (0,0)=ks[i]:=by simp[hi]
 have k2:ks.getD j (0,0)=ks[j]:=by simp[hj]
 rw[g1,g2];rw[k1,k2]at h;refine PySem.W.kat_lt e2 e3 f2 f3 ?_;show PySem.W.KatLex prog w A true _ C [(ae.int ks[i].1 t,ae.int ks[j].1 t'),(ae.int ks[i].2 u,ae.int ks[j].2 u')] 0 s;refine PySem.W.kat_cons (SeqAt.EqAt.int_int _ _ _ _ prog w _ _ ?_);unfold ltP at h;by_cases hc:ks[i].1=ks[j].1
 ·rw[if_pos hc]at h;rw[show (ks[i].1==ks[j].1)=true by simp[hc]];refine PySem.W.kat_yes (PySem.W.kat_cons (SeqAt.EqAt.int_int _ _ _ _ prog w _ _ ?_));by_cases hd:ks[i].2=ks[j].2
  ·rw[show (ks[i].2==ks[j].2)=true by simp[hd]];refine PySem.W.kat_yes (PySem.W.kat_nil ?_);have:decide (ks[i].2<ks[j].2)=false:=decide_eq_false (by lia);rw[this]at h;exact h
  ·rw[show (ks[i].2==ks[j].2)=false by simp[hd]];exact PySem.W.kat_no (PySem.W.kat_one _ _ (lt_int h))
 ·rw[if_neg hc]at h;rw[show (ks[i].1==ks[j].1)=false by simp[hc]];exact PySem.W.kat_no (oneLt_int h)
end
theorem o7{h:Heap}{a:Addr}{m m':Str->Option ae}(x:h.Ns a m)(y:h.Ns a m'):m=m':=by
 obtain⟨o,es,ep,e1,e2,_,e4⟩:=x;obtain⟨o',es',ep',f1,f2,_,f4⟩:=y;rw[e1]at f1;cases f1;rw[e2]at f2;cases f2;funext n;rw[<-e4,<-f4]
theorem Inv.newList{X:Cx}{pins:List (Addr×Obj)}{σ:St}{H:Hp}{s s':af}{D:Addr}{out:List V}{its:List ae}{c:Nat}(I:Inv X pins σ H s)(hos:s'.os=s.os)(hg:s'.gens=s.gens)
  (k:∀b o,b≠X.env.locals->s.heap.get? b=some o->s'.heap.get? b=some o) (ns:∀m,s.heap.Ns X.env.locals m->s'.heap.Ns X.env.locals m) (hD:s.heap.get? D=none) (hDL:D≠X.env.locals)
  (hl:s'.heap.get? D=some {cls:=.type "list",data:=.seq its.toArray c}) (r:Vals out its) (hz:out.length<=aH):Inv X pins σ (upd H D (.lst out)) s':=by
 obtain⟨h',g',d',t',o'⟩:=s';have eo:o'=s.os:=hos;have eg:g'=s.gens:=hg;subst eo eg;have hpn:H D=none:=I.hok.free_of hD;have np:∀b u,H b=some u->b≠D:=λb u e z=>by rw[z,hpn]at e;cases e
 obtain⟨m0,n0,_⟩:=id I.loc;obtain⟨oL,es,ep,hoL,_⟩:=id n0;obtain⟨oL',es',ep',hoL',_⟩:=ns _ n0;refine I.step (g':=s.gens) (d':=d') (ch:=[]) (λb hb=>absurd hb (by simp)) (λb o hL _ _ e _=>k b o hL e) (λb o hL _ _ e _=>⟨o.slots,k b o hL e⟩) (λb o _ e n=>?_) (λb o _ e=>?_)
  (λb xs e=>by rw[qh (np b _ e)];exact e) (λb o u e=>by rw[qh (np b _ e)];exact e) (λb ps e=>⟨#[],by rw[qh (np b _ e),e];simp⟩) ns (λb u e=>?_) I.bare
 ·rw[qh (λz=>by rw[z,hD]at e;cases e)];exact n
 ·by_cases hL:b=X.env.locals
  ·exact⟨oL',by rw[hL];exact hoL'⟩
  ·exact⟨o,k b o hL e⟩
 ·by_cases hb:b=D
  ·subst hb;rw[zy]at e;cases e;exact⟨hz,its,c,r,hl⟩
  ·rw[qh hb]at e;have nl:∀c,(∃u,H c=some u)->c≠X.env.locals:=λc ⟨u,e⟩ z=>by rw[z,I.free]at e;cases e
   refine(I.hok b u e).stay (λc v hc q=>k c v (nl c ?_) q) (λc q=>by rw[qh (np c _ q)];exact q) λc xs q=>by rw[qh (np c _ q)];exact q
   rcases hc with z|z
   ·exact⟨u,by rw[z];exact e⟩
   ·exact⟨_,z⟩
theorem rf{xs:List V}{us:List ae}(r:Vals xs us):∀(l:List Nat),(∀i∈l,i<xs.length)->Vals (l.map λi=>xs.getD i .non) (l.map λi=>us.getD i .none)
 | [],_=>.nil
 |i::l,h=>by
  have hi:i<xs.length:=h i aJ;obtain⟨u,hu,ru⟩:=r.get (i:=i) (x:=xs[i]) (by simp[hi]);refine .cons ?_ (rf r l λj hj=>h j (aK _ hj));have e1:xs.getD i .non=xs[i]:=by simp[hi]
  have e2:us.getD i .none=u:=by rw[List.getD_eq_getElem?_getD,hu];rfl
  show RelV (xs.getD i .non) (us.getD i .none);rw[e1,e2];exact ru
theorem nN{ks:List (Int×Int)}:∀i∈cU ks,i<ks.length:=by
 intro i hi;unfold cU at hi;split at hi
 ·simpa using hi
 ·rename_i h
  have:=bN.run (lt:=λi j=>ltP (ks.getD i (0,0)) (ks.getD j (0,0))) _ (lF (n:=ks.length) (by lia));exact this.2 i (by simpa using hi)
theorem A5{ks:List (Int×Int)}:(cU ks).length=ks.length:=by
 unfold cU;split
 ·simp
 ·rename_i h
  have:=bN.run (lt:=λi j=>ltP (ks.getD i (0,0)) (ks.getD j (0,0))) _ (lF (n:=ks.length) (by lia))
  simpa using this.1
theorem rT{h:Heap}:∀(its:List ae),(∀i,i<its.length->∃a o x y t u n,its[i]? = some (.ref a)/\h.get? a=some o/\o.cls=.type "tuple"/\o.data=.seq #[.int x t,.int y u] n)->∃fs,PySem.W.KatTups h its fs/\fs.length=its.length/\∀v∈fs,∃i t,v=ae.int i t
 | [],_=>⟨[],trivial,rfl,λ_ h=>nomatch h⟩
 |v::r,hh=>by
  obtain⟨fs,k1,k2,k3⟩:=rT r λi hi=>by simpa using hh (i+1) (by simpa using hi)
  obtain⟨a,o,x,y,t,u,n,z1,z2,z3,z4⟩:=hh 0 (by simp);have e:v=.ref a:=by simpa using z1
  subst e;exact⟨.int x t::fs,PySem.W.KatTups.cons z2 z3 z4 rfl k1,by simp[k2],λw hw=>(aD.mp hw).elim (λz=>⟨x,t,z⟩) (k3 w)⟩
section
variable{prog:aw}{w:au}{A:ax}{E:ae->af->Prop}{s:af}
theorem wM{a:Addr}{vs:List ae}{P:Fin->af->Prop}(hoL:s.heap.get? a=some (aY "list" vs.toArray 0))(h2:vs.length<2)(h:P (.done (.ret .none)) {s with heap:=sortedHeap s.heap a vs vs.toArray}) :
  ai (aj prog w) A (Builtin.«list.sort» ⟨[.ref a],[]⟩) P E s:=by
 rw[list_sort_plain];refine ah (listItems_at  hoL rfl ?_);refine ah (listUpdate_at  hoL rfl ?_ (by rw[aP,aV];lia) (cf _));obtain⟨e1,ho1⟩:∃e1,(s.heap.update a (bH λ_=>#[])).get? a=some (aY "list" #[] e1):=⟨_,get?_update_seq hoL (λ_=>#[])⟩
 refine ah (seqEpoch_at ho1 rfl ?_);refine ah (wpAny_newTuple ?_ (by show vs.length<=_;rw[aV];lia));refine ah (wpAny_newList ?_ (cf _));refine wpAny_holding ?_;have hlt:a<s.heap.objs.size:=aG hoL;have ho6:(((s.heap.update a (bH λ_=>#[])).push (aY "tuple" vs.toArray 0)).push (aY "list" #[] 0)).get? a=some (aY "list" #[] e1):=by
  rw[Heap.get?_push_ne _ _ _ (by rw[size_push',Heap.size_update];exact aU (Nat.lt_succ_of_lt hlt)),Heap.get?_push_ne _ _ _ (by rw[Heap.size_update];exact aU hlt)];exact ho1
 show ai (aj prog w) _ _ _ _ {s with heap:=((s.heap.update a (bH λ_=>#[])).push (aY "tuple" vs.toArray 0)).push (aY "list" #[] 0)};dsimp only;have h2':vs.toArray.size<2:=by rw[aP];exact h2
 rw[if_pos h2',if_pos h2'];refine ah (aC ?_);rw[StateT.run_pure];refine ah (aC ?_);dsimp only;refine ah (seqEpoch_at ho6 rfl ?_);have hout:(arrOf (SortSt.mk' general' (vs.toArray.zip vs.toArray) #[] 7 none)).map (·.2)=vs.toArray:=by
  show (vs.toArray.zip vs.toArray).map (·.2)=vs.toArray;apply Array.toList_inj.mp;simp[List.map_snd_zip]
 refine ah (listUpdate_at ho6 rfl ?_ (cf _) (by rw[hout,aP,aV];lia));simp only[bne_self_eq_false,bU,if_false];refine aC ?_;rw[hout];exact h
theorem Dy{l:Addr}{vs:List ae}{Q:ae->af->Prop}(hl:s.heap.IsList l vs.toArray)(h2:vs.length<2)(h:Q (.ref (s.heap.objs.size+1)) {s with heap:=sortedAll s.heap vs vs.toArray}):ai (aj prog w) A (call (.builtin "sorted") [.ref l]) Q E s:=by
 refine Calls.call_function_entry kind_sorted plain_sorted entry_sorted (args_sorted1 _) ?_;unfold Builtin.«sorted»;refine ah (m:=checkCount "sorted" 1 1 _) (aC ?_);refine ah (collect_list hl ?_ (by rw[aV];lia));refine ah (wpAny_newList ?_ (by rw[aV];lia));have hsz:((s.heap.push (aY "list" #[] 0)).update s.heap.objs.size (bH (· ++ vs.toArray))).objs.size=s.heap.objs.size+1:=by rw[Heap.size_update,size_push']
 have hoL:(((s.heap.push (aY "list" #[] 0)).update s.heap.objs.size (bH (· ++ vs.toArray))).push (aY "list" vs.toArray 0)).get? (s.heap.objs.size+1)=some (aY "list" vs.toArray 0):=by rw[<-hsz];exact Heap.get?_push_size _ rfl
 show ai _ _ _ _ _ {s with heap:=((s.heap.push (aY "list" #[] 0)).update s.heap.objs.size (bH (· ++ vs.toArray))).push (aY "list" vs.toArray 0)};rw[hsz];refine ah (wpAny_holding (dj slot_list_sort ⟨_,hoL,rfl⟩ entry_list_sort ?body (args_list_sort _)))
 case body=>
  exact wM hoL h2 ⟨_,rfl,aC ⟨_,rfl,h⟩⟩
end
noncomputable def vS(K:aq):List V->Hp->VK->Prop:=λvs H Q=>∃(l:Addr) (ps:List Addr) (ks:List (Int×Int)),vs=[.ref l]/\SqL K H l (ps.map V.ref)/\ks.length=ps.length/\ps.length<64 /\
 (∀(i:Nat) p k,ps[i]? = some p->ks[i]? = some k->SqT K H p [.int k.1,.int k.2])/\∀D,H D=none->Q (.ref D) (upd H D (.lst ((cU ks).map λi=>(ps.map V.ref).getD i .non)))
theorem DF{X:Cx}:zt X (.builtin "sorted") (vS X.K):=by
 intro pins s σ H xs us Q I r h;obtain⟨l,ps,ks,rfl,hl,hlen,h64,hp,q⟩:=h;obtain⟨u,rfl,ru⟩:=r.one;cases ru;obtain⟨its,rv,pl,hz⟩:=I.list hl;have hits:its.length=ks.length:=by rw[<-rv.length,aF,hlen]
 have small:ks.length<=sizeLine:=by rw[aV];lia
 have rout:=rf rv (cU ks) (λi hi=>by rw[aF,<-hlen];exact nN i hi);have zout:((cU ks).map λi=>(ps.map V.ref).getD i .non).length<=sizeLine:=by rw[aF,A5];exact small
 by_cases h2:ks.length<2
 ·refine Dy pl.isList (by lia) ?_;have e:(cU ks).map (λi=>(ps.map V.ref).getD i .non)=ps.map V.ref:=by
   unfold cU;rw[if_pos h2]
   match ps,ks,hlen with
   | [],[],_=>rfl
   | [p],[k],_=>rfl
   |_::_::_,_::_::t,_=>exact absurd h2 (by show ¬ (t.length+1+1<2);lia)
  obtain⟨c,hc⟩:=sortedAll_at s.heap its its.toArray;have hD0:s.heap.get? (s.heap.objs.size+1)=none:=Heap.get?_none_of_le (Nat.le_succ _);have q':=q (s.heap.objs.size+1) (I.hok.free_of hD0);rw[e]at q';refine⟨.ref (s.heap.objs.size+1),_,I.newList (s':={s with heap:=sortedAll s.heap its its.toArray}) (c:=c) rfl rfl (λb o _ e=>sortedAll_old e) (λm hm=>hm.keeps λb o e=>sortedAll_old e) hD0 (Nat.ne_of_gt (Nat.lt_succ_of_lt I.lt)) hc rv (by rw[aF];lia),rfl,q'⟩
 ·obtain⟨m,F⟩:=I.fr;refine PySem.W.kat_sorted F (o_ (g:=X.base) (h:=s.heap) (L:=X.env.locals)) pl.isList (by lia) (by lia) λD e1 h' F' N' hlt=>?_
  have keep:∀b o,b≠X.env.locals->s.heap.get? b=some o->h'.get? b=some o:=λb o hb e=>by
   cases qb:X.base.get? b with
   |some ob=>have:=I.bk b ob qb;rw[e]at this;cases this;exact F'.keep b _ qb
   |none=>exact(N' (b,o) (aK _ (iZ hb qb e))).1
  have hDn:=N' (D,_) aJ;have hD0:s.heap.get? D=none:=by
   cases qd:s.heap.get? D with
   |none=>rfl
   |some o=>exact absurd (hlt (D,o) (iZ hDn.2.1 hDn.2.2 qd)) (br _)
  have tup:∀(i:Nat) p,ks[i]? = some p->∃a t u o n,its[i]? = some (.ref a)/\h'.get? a=some o/\o.cls=.type "tuple"/\o.data=.seq #[.int p.1 t,.int p.2 u] n:=λi p hk=>by
   have hi:i<ks.length:=(List.getElem?_eq_some_iff.mp hk).1;have hi':i<ps.length:=by lia
   obtain⟨v,hv,rvv⟩:=rv.get (i:=i) (x:=.ref ps[i]) (by simp[hi']);cases rvv;obtain⟨its2,r2,p2,_⟩:=I.tuple (hp i ps[i] p (by simp[hi']) hk);obtain⟨v1,v2,rfl,⟨t,rfl⟩,⟨u,rfl⟩⟩:=r2.two;obtain⟨o,e1,e2,n,e3⟩:=p2;have hne:ps[i]≠X.env.locals:=λz=>by
    obtain⟨_,⟨oL,es,ep,hoL,hdL,_⟩,_⟩:=I.loc;rw[z,hoL]at e1;cases e1;rw[hdL]at e3;cases e3
   exact⟨ps[i],t,u,o,n,hv,keep _ _ hne e1,e2,e3⟩
  obtain⟨fs,kt,kl,kf⟩:=rT (h:=h') its λi hi=>by
   obtain⟨a,t,u,o,n,z1,z2,z3,z4⟩:=tup i ks[i] (by simp[show i<ks.length by lia]);exact⟨a,o,_,_,t,u,n,z1,z2,z3,z4⟩
  refine PySem.W.kat_kind (s:={s with heap:=h'}) (T:=.type "int") (fs:=fs) kt (by lia) (λv hv=>?_) (by decide) ?_
  ·obtain⟨i,t,rfl⟩:=kf v hv;exact PySem.W.Looks.of_pure rfl
  ·have hb:((ae.type "int") != ae.type "tuple")=true:=by decide
   rw[hb];refine nj (n:=ks.length) (r:=Bel ks.length) (lt:=λi j=>ltP (ks.getD i (0,0)) (ks.getD j (0,0))) (λi j C hi hj hC=>?_) _ (by rw[hits];exact lF (by lia)) ?_
   ·exact sQ (s:={s with heap:=h'}) hits.symm (λi p hk=>by obtain⟨a,t,u,o,n,z1,z2,_,z4⟩:=tup i p hk;exact⟨a,t,u,o,n,z1,z2,z4⟩) hi hj hC
   ·refine⟨_,_,F',N',.head (λp hp=>aU (hlt p hp)),λh'' c F'' N''=>?_⟩;have e:(qm (λi j=>ltP (ks.getD i (0,0)) (ks.getD j (0,0))) (PySem.W.kas_sort its.length)).toList=cU ks:=by unfold cU;rw[if_neg h2,hits]
    rw[e]at N'';refine⟨.ref D,_,I.newList (s':={s with heap:=h''}) (c:=c) rfl rfl (λb o hb e=>?_) (λm' hm'=>?_) hD0 hDn.2.1 (N'' (D,_) aJ).1 rout zout,rfl,q D (I.hok.free_of hD0)⟩
    ·cases qb:X.base.get? b with
     |some ob=>have:=I.bk b ob qb;rw[e]at this;cases this;exact F''.keep b _ qb
     |none=>exact(N'' (b,o) (aK _ (iZ hb qb e))).1
    ·rw[o7 hm' F.ns];exact F''.ns
section
variable{X:Cx}{pins:List (Addr×Obj)}{σ:St}{H:Hp}{s:af}
theorem l0{A:ax}{bs:List Bool}{us:List ae}(r:Vals (bs.map V.bl) us):us=bs.map ae.bool:=by
 induction bs generalizing us with
 |nil=>cases r;rfl
 |cons b bs ih=>cases r with
  |cons h t=>rw[ih t,show _=bu b from h];rfl
end
section
variable{X:Cx}
noncomputable def oC(r r' r'':R2)(ta tb tc td:TE):TE:=λσ H Q=>ta σ H λx H1=>tb σ H1 λy H2=>r x y H2 λz H3=>∃k,z=.bl k /\
 (if k=true then tc σ H3 λw' H4=>r' y w' H4 λz H5=>∃k,z=.bl k/\(if k=true then td σ H5 λw'' H6=>r'' w' w'' H6 Q else Q (.bl false) H5)else Q (.bl false) H3)
theorem uU{a b c d:Expr}{ta tb tc td:TE}{pos:Pos}{op op' op'':CmpOp}{r r' r'':R2}(ho:OpR X (aR op) r)(ho':OpR X (aR op') r')(ho'':OpR X (aR op'') r'')(ha:PE X a ta)(hb:PE X b tb)(hc:PE X c tc)(hd:PE X d td)
  (hm:lastMarks [op,op',op''] [b,c,d]=false:=by with_unfolding_all rfl):PE X (.Compare a [op,op',op''] [b,c,d] pos) (oC r r' r'' ta tb tc td):=by
 intro pins s σ H Q I h;refine Compare_chain (thn (ha pins s σ H _ I h) λv s1 ⟨x,H1,I1,r1,q1⟩=>chain_link (thn (hb pins s1 σ H1 _ I1 q1) λu s2 ⟨y,H2,I2,r2,q2⟩=>
  thn (ho pins s2 σ H2 x y v u _ I2 r1 r2 q2) λd s3 ⟨z,H3,I3,r3,k,e,q3⟩=>?_)) hm
 subst e;cases r3;refine bJ ?_;cases k with
 |false=>exact ite_ff ⟨.bl false,H3,I3,rfl,q3⟩
 |true=>
  refine ite_tt (chain_link (thn (hc pins s3 σ H3 _ I3 q3) λw' s4 ⟨z',H4,I4,r4,q4⟩=>thn (ho' pins s4 σ H4 y z' u w' _ I4 r2 r4 q4) λd' s5 ⟨z2,H5,I5,r5,k2,e2,q5⟩=>?_));subst e2;cases r5;refine bJ ?_;cases k2 with
  |false=>exact ite_ff ⟨.bl false,H5,I5,rfl,q5⟩
  |true=>exact ite_tt (chain_last (thn (hd pins s5 σ H5 _ I5 q5) λw'' s6 ⟨z3,H6,I6,r6,q6⟩=>ho'' pins s6 σ H6 z' z3 w' w'' Q I6 r4 r6 q6))
noncomputable def Bu(K:aq):R2:=λx y H Q=>∃a b xs ys,x=.ref a/\y=.ref b/\SqT K H a xs/\SqT K H b ys/\xs.length+ys.length<=aH /\
 (xs=[]->Q (.ref b) H)/\(xs≠[]->ys=[]->Q (.ref a) H)/\(xs≠[]->ys≠[]->∀p,H p=none->Q (.ref p) (upd H p (.tup (xs++ys))))
theorem yE:OpR X (binaryOp .Add) (Bu X.K):=by
 intro pins s σ H x y v u Q I rx ry h;obtain⟨a,b,xs,ys,rfl,rfl,ha,hb,hz,q0,q1,q2⟩:=h;by_cases hx:xs=[]
 ·subst hx;cases rx;cases ry;obtain⟨its,r1,p1,_⟩:=I.tuple ha;obtain⟨its2,r2,p2,_⟩:=I.tuple hb;cases r1;obtain⟨⟨cls,dd,data,sl⟩,ho,hc,n,hd⟩:=id p1;obtain⟨⟨cls2,dd2,data2,sl2⟩,ho2,hc2,n2,hd2⟩:=id p2;simp only at hc hd hc2 hd2;subst hc hd hc2 hd2;exact concat_meets ⟨_,ho,rfl⟩ ⟨_,ho2,rfl⟩ noFill_tuple_add seq_tuple_add PySem.F.slot_tuple_add PySem.F.entry_tuple_add (PySem.F.args_tuple_add_2 _ _)
   (tuple_addW0 a b _ its2.toArray n n2 dd dd2 sl sl2 (by simp)) ⟨ho,ho2,⟨.ref b,H,I,rfl,q0 rfl⟩⟩
 ·exact w8 pins s σ H (.ref a) (.ref b) v u Q I rx ry ⟨a,b,xs,ys,rfl,rfl,ha,hb,hx,hz,q1 hx,q2 hx⟩
theorem jB{vs:List ae}{ns:List Int}(h:ba vs ns):Vals (ns.map V.int) vs:=by
 induction h with
 |nil=>exact .nil
 |cons n t _ ih=>exact .cons ⟨t,rfl⟩ ih
noncomputable def Bg(K:aq):List V->Hp->VK->Prop:=λvs H Q=>∃(l:Addr) (ns:List Int),vs=[.ref l]/\SqL K H l (ns.map V.int)/\ns.length<64/\∀(D:Addr) (ms:List Int),H D=none->ms.Perm ns->ms.Pairwise (·<=·)->Q (.ref D) (upd H D (.lst (ms.map V.int)))
theorem Eb:zt X (.builtin "sorted") (Bg X.K):=by
 intro pins s σ H xs us Q I r h;obtain⟨l,ns,rfl,hl,h64,q⟩:=h;obtain⟨u,rfl,ru⟩:=r.one;cases ru;obtain⟨its,rv,pl,hz⟩:=I.list hl;obtain⟨m,F⟩:=I.fr;refine PySem.W.kso_sorted F (o_ (g:=X.base) (h:=s.heap) (L:=X.env.locals)) pl.isList (intsAre_of rv) h64 λD vs' ns' c h' F' N' hlt hi he hp ho _=>?_
 have keep:∀b o,b≠X.env.locals->s.heap.get? b=some o->h'.get? b=some o:=λb o hb e=>by
  cases qb:X.base.get? b with
  |some ob=>have:=I.bk b ob qb;rw[e]at this;cases this;exact F'.keep b _ qb
  |none=>exact(N' (b,o) (aK _ (iZ hb qb e))).1
 have hDn:=N' (D,_) aJ;have hD0:s.heap.get? D=none:=by
  cases qd:s.heap.get? D with
  |none=>rfl
  |some o=>exact absurd (hlt (D,o) (iZ hDn.2.1 hDn.2.2 qd)) (br _)
 refine⟨.ref D,_,I.newList (s':={s with heap:=h'}) (c:=c) rfl rfl keep (λm' hm'=>?_) hD0 hDn.2.1 hDn.1 (jB hi) (by rw[aF,he,aV];lia),rfl,q D ns' (I.hok.free_of hD0) hp ho⟩;rw[o7 hm' F.ns];exact F'.ns
end
noncomputable def Ite(K:aq)(l:Addr):It:=
 ⟨λi H=>∃xs x,SqL K H l xs/\xs[i]? = some x,
  λi H v H'=>∃p x,H p=none/\v=.ref p/\H'=upd H p (.tup [.int i,x])/\∀xs,SqL K H l xs->xs[i]? = some x,
  λi H=>∃xs,SqL K H l xs/\xs.length<=i⟩
theorem DU{P:aw}{w:au}{K:aq}{es:List Expr}{ek:Nat}{epos:Pos}{e it l:Addr}(n1:e≠it)(n2:l≠e)(n3:l≠it) :
  Turn P w K (.Tuple es ek epos) (Ite K l) [e,it] e (λi h=>(∃old,IsEnum h e it ((i:Nat):Int) old)/\h.IsListIter it l i) where
 mem:=by simp
 obj:=λi h st b hb=>by
  obtain⟨⟨old,hz⟩,o1,e1,_,d1⟩:=st;have hb':b=e\/b=it:=by simpa using hb
  rcases hb' with q|q
  ·subst q;exact⟨_,hz,λv q=>by cases q⟩
  ·subst q;exact⟨o1,e1,λv q=>by rw[d1]at q;cases q⟩
 keep:=λi h h' st k=>by
  obtain⟨⟨old,hz⟩,h1⟩:=st;exact⟨⟨old,k e (by simp) _ hz⟩,h1.at λo q=>k it (by simp) o q⟩
 item:=by
  intro X hP hw hK hc i pins s σ H E I hf st hg;subst hP hw hK;obtain⟨⟨old,hz⟩,h1⟩:=st;obtain⟨xs,x,q1,hx⟩:=hg;obtain⟨its,r1,p1,z1⟩:=I.list q1;obtain⟨u1,hu1,ru1⟩:=r1.get hx;refine wpAny_pyNext_enum_item hz h1 p1.isList (x:=u1) (by simpa using hu1) n1 λh' a1 a2 a3 a4 hk=>?_
  have hkc:∀b o,b∉[e,it]->s.heap.get? b=some o->h'.get? b=some o:=λb o hb q=>hk b o (λz=>hb (by simp[z])) (λz=>hb (by simp[z])) q
  have I1:Inv X pins σ (upd H s.heap.objs.size (.tup [.int i,x])) {s with heap:=h',toks:=s.toks+1}:=I.turnNew (tk:=s.toks+1) (its:=[.int i s.toks,u1]) hf hkc (ay _) ⟨_,a3,rfl,_,rfl⟩ (.cons ⟨_,rfl⟩ (.cons ru1 .nil)) (by show 2<=aH;decide);have hpn:H s.heap.objs.size=none:=I.hok.fresh (ay _);have hfp:∀b∈[e,it],b≠s.heap.objs.size:=λb hb q=>by
   have hb':b=e\/b=it:=by simpa using hb
   obtain⟨o1,e1,_,d1⟩:=h1;have:b<s.heap.objs.size:=by
    rcases hb' with q|q
    ·subst q;exact aG hz
    ·subst q;exact aG e1
   rw[q]at this;exact br _ this
  have hnone:∀b∈[e,it],(upd H s.heap.objs.size (.tup [.int i,x])) b=none:=λb hb=>by rw[qh (hfp b hb)];exact(hf b hb).1
  refine⟨_,rfl,?_⟩;refine wpAny_letOwnedTupleGo_enum (s:={s with heap:=h',toks:=s.toks+1}) a1 λh2' hz' hs'=>?_
  obtain⟨f0,f1,f2,f3,f4,f5⟩:=hf e (by simp);refine⟨.ref s.heap.objs.size,_,I1.turned (t':=s.toks+1) (it:=e) (λb o hb q=>(hs'.2 b hb).trans q) (hnone e (by simp)) f1 f3 f4 f5,rfl,⟨_,x,hpn,rfl,rfl,λzs hq=>by rw[I.list_inj hq q1];exact hx⟩,⟨⟨u1,?_⟩,a2.at λo q=>(hs'.2 it (Ne.symm n1)).trans q⟩,hnone⟩
  ·have:((i+1:Nat):Int)=(i:Int)+1:=by push_cast;rfl
   rw[this];exact hz'
 done:=by
  intro X hP hw hK hc i pins s σ H E I hf st hg;subst hP hw hK;obtain⟨⟨old,hz⟩,h1⟩:=st;obtain⟨xs,q1,hx⟩:=hg;obtain⟨its,r1,p1,z1⟩:=I.list q1;have hl:=r1.length;exact wpAny_pyNext_enum_end (I.ok.hd hc) hz h1 p1.isList (by simp;lia) λh' eb=>⟨rfl,I.turnAll (tk:=s.toks) hf λb o hb q=>eb b o (λz=>hb (by simp[z])) q⟩
 self:=λ_ _ _ _ _ st h=>by
  obtain⟨⟨old,hz⟩,_⟩:=st;exact wpAny_pyIter_enum hz h
end L2
namespace L2
open PySem PySem.Spec PyProof.Rows PySem.SeqAt
mutual
inductive eM(K:aq)(H:Hp):V->PyData->Prop
 |non:eM K H .non .none
 |bl (b:Bool):eM K H (.bl b) (.bool b)
 |int (i:Int):eM K H (.int i) (.int i)
 |str (x:Str):eM K H (.str x) (.str x)
 |lst {a:Addr}{xs:List V}{ds:List PyData}:SqL K H a xs->gP K H xs ds->eM K H (.ref a) (.list ds)
 |tup {a:Addr}{xs:List V}{ds:List PyData}:SqT K H a xs->gP K H xs ds->eM K H (.ref a) (.tuple ds)
inductive gP(K:aq)(H:Hp):List V->List PyData->Prop
 |nil:gP K H [] []
 |cons {x:V}{xs:List V}{d:PyData}{ds:List PyData}:eM K H x d->gP K H xs ds->gP K H (x::xs) (d::ds)
end
section
variable{X:Cx}{pins:List (Addr×Obj)}{σ:St}{H:Hp}{s:af}
theorem Inv.reads(I:Inv X pins σ H s){x:V}{d:PyData}(h:eM X.K H x d):∀{u:ae},RelV x u->∃as,Reads s.heap u d as:=
 h.rec (motive_1:=λx d _=>∀{u:ae},RelV x u->∃as,Reads s.heap u d as) (motive_2:=λxs ds _=>∀{us:List ae},Vals xs us->∃as,ReadsAll s.heap us ds as) (λr=>by cases r;exact⟨_,.none⟩) (λb _ r=>by cases r;exact⟨_,.bool b⟩) (λi _ r=>by obtain⟨t,rfl⟩:=r;exact⟨_,.int i t⟩) (λx _ r=>by obtain⟨t,rfl⟩:=r;exact⟨_,.str x t⟩)
  (λh _ g _ r=>by
   cases r;obtain⟨its,rv,pl,_⟩:=I.list h;obtain⟨as,ra⟩:=g rv;obtain⟨o,ho,hc,n,hd⟩:=pl.isList;exact⟨_,Reads.list ho hc hd (by simpa using ra)⟩)
  (λh _ g _ r=>by
   cases r;obtain⟨its,rv,pl,_⟩:=I.tuple h;obtain⟨as,ra⟩:=g rv;obtain⟨o,ho,hc,n,hd⟩:=pl;exact⟨_,Reads.tuple ho hc hd (by simpa using ra)⟩)
  (λr=>by cases r;exact⟨_,.nil⟩) (λ_ _ a b _ r=>by
   cases r with
   |cons r1 r2=>
    obtain⟨as,ra⟩:=a r1;obtain⟨bs,rb⟩:=b r2;exact⟨_,.cons ra rb⟩)
end
section
variable{X:Cx}
end
end L2
namespace L2
open PySem PySem.Spec PyProof.Rows
theorem gz{α β:Type}{lt:Nat->Nat->Bool}{f:α->PySem.W.KasT β}:∀t:PySem.W.KasT α,qm lt (t.bind f)=qm lt (f (qm lt t))
 | .ret _=>rfl
 | .ask i j k=>gz (k (lt i j))
theorem D2{a b:Int×Int}(h:ltP a b=true):ltP b a=false:=by
 unfold ltP at *;by_cases x:a.1=b.1
 ·rw[if_pos x]at h;rw[if_pos x.symm];simp only[decide_eq_true_eq]at h;exact decide_eq_false (by lia)
 ·rw[if_neg x]at h;rw[if_neg (λz=>x z.symm)];simp only[decide_eq_true_eq]at h;exact decide_eq_false (by lia)
structure Wk(lt:Nat->Nat->Bool):Prop where
 asym:∀a b,lt a b=true->lt b a=false
 neg:∀a b c,lt b a=false->lt c b=false->lt c a=false
section
variable{lt:Nat->Nat->Bool}
noncomputable def Asc(lt:Nat->Nat->Bool)(p:Array Nat)(m:Nat):Prop:=∀i j,i<j->j<m->lt (p.getD j 0) (p.getD i 0)=false
noncomputable def Dsc(lt:Nat->Nat->Bool)(p:Array Nat)(m:Nat):Prop:=∀i j,i<j->j<m->lt (p.getD i 0) (p.getD j 0)=false
theorem getD_at(p:Array Nat)(i:Nat):p.getD i 0=(p[i]?).getD 0:=by
 unfold Array.getD;split
 ·rename_i h;simp[h]
 ·rename_i h;simp[h]
theorem fH{p:Array Nat}{i j:Nat}(hj:j<=p.size)(k:Nat):(bp p i j).getD k 0=if i<=k/\k<j then p.getD (i+j-1-k) 0 else p.getD k 0:=by
 rw[getD_at,getD_at,getD_at];unfold bp;rw[getElem?_mirror_all hj];split<;>rfl
theorem jj(p:Array Nat)(i j:Nat):(bp p i j).size=p.size:=mirror_size _ _ _ _
theorem jz(p:Array Nat)(i j:Nat):(bp p i j).Perm p:=mirror_perm _ _ _ _
theorem Dsc.rev{p:Array Nat}{n:Nat}(h:Dsc lt p n)(hn:n<=p.size):Asc lt (bp p 0 n) n:=λi j hij hj=>by
 rw[fH hn,fH hn,if_pos (by lia),if_pos (by lia)];exact h _ _ (by lia) (by lia)
theorem kP(W:Wk lt){p:Array Nat}:∀(f n:Nat),1<=n->Asc lt p n->n<=qm lt (PySem.W.kas_asc p f n)/\qm lt (PySem.W.kas_asc p f n)<=n+f/\Asc lt p (qm lt (PySem.W.kas_asc p f n)) /\
  (qm lt (PySem.W.kas_asc p f n)<n+f->lt (p.getD (qm lt (PySem.W.kas_asc p f n)) 0) (p.getD (qm lt (PySem.W.kas_asc p f n)-1) 0)=true)
 | 0,n,_,h=>⟨ay _,ay _,h,λz=>absurd z (br _)⟩
 |f+1,n,h1,h=>by
  have e:qm lt (PySem.W.kas_asc p (f+1) n)=qm lt (if lt (p.getD n 0) (p.getD (n-1) 0)=true then .ret n else PySem.W.kas_asc p f (n+1)):=rfl;rw[e];cases hc:lt (p.getD n 0) (p.getD (n-1) 0)with
  |true=>
   rw[if_pos rfl];exact⟨ay _,Nat.le_add_right _ _,h,λ_=>hc⟩
  |false=>
   rw[if_neg (by decide)];obtain⟨a1,a2,a3,a4⟩:=kP W f (n+1) (by lia) λi j hij hj=>by
    by_cases hjn:j<n
    ·exact h i j hij hjn
    ·have:j=n:=by lia
     subst this;by_cases hi:i=j-1
     ·subst hi;exact hc
     ·exact W.neg _ _ _ (h i (j-1) (by lia) (by lia)) hc
   exact⟨by lia,by lia,a3,λz=>a4 (by lia)⟩
noncomputable def Run(lt:Nat->Nat->Bool)(p:Array Nat)(n q:Nat):Prop:=∀i j,n-1-q<=i->i<n->n-1-q<=j->j<n->lt (p.getD i 0) (p.getD j 0)=false
theorem Dsc.run{p:Array Nat}{n q:Nat}(h:Dsc lt p n)(r:Run lt p n q)(hq:q<n)(hn:n<=p.size):Dsc lt (bp p (n-(q+1)) n) n:=λi j hij hj=>by
 rw[fH hn,fH hn];by_cases ci:n-(q+1)<=i
 ·rw[if_pos (by lia),if_pos (by lia)];exact r _ _ (by lia) (by lia) (by lia) (by lia)
 ·rw[if_neg (by lia)];split
  ·exact h _ _ (by lia) (by lia)
  ·exact h _ _ hij hj
theorem jM(W:Wk lt):∀(f:Nat) (p:Array Nat) (n q:Nat),1<=n->n+f<=p.size->q<n->Dsc lt p n->Run lt p n q ->
  (qm lt (bg f p n q)).1.Perm p/\(qm lt (bg f p n q)).1.size=p.size/\n<=(qm lt (bg f p n q)).2.1/\(qm lt (bg f p n q)).2.1<=n+f /\
  (qm lt (bg f p n q)).2.2<(qm lt (bg f p n q)).2.1/\Dsc lt (qm lt (bg f p n q)).1 (qm lt (bg f p n q)).2.1/\Run lt (qm lt (bg f p n q)).1 (qm lt (bg f p n q)).2.1 (qm lt (bg f p n q)).2.2
 | 0,p,n,q,h1,hs,hq,hd,hr=>⟨Array.Perm.refl _,rfl,ay _,ay _,hq,hd,hr⟩
 |f+1,p,n,q,h1,hs,hq,hd,hr=>by
  have e:qm lt (bg (f+1) p n q)=qm lt (if lt (p.getD n 0) (p.getD (n-1) 0)=true then (if q>0 then bg f (bp p (n-(q+1)) n) (n+1) 0 else bg f p (n+1) 0)
   else .ask (p.getD (n-1) 0) (p.getD n 0) λd=>if d=true then .ret (p,n,q)else bg f p (n+1) (q+1)):=rfl
  rw[e];have one:∀p':Array Nat,Run lt p' (n+1) 0:=λp' i j hi hi' hj hj'=>by
   have:i=j:=by lia
   subst this;cases z:lt (p'.getD i 0) (p'.getD i 0)with
   |false=>rfl
   |true=>have:=W.asym _ _ z;rw[z]at this;cases this
  have grow:∀p':Array Nat,Dsc lt p' n->(∀i,i<n->lt (p'.getD i 0) (p'.getD n 0)=false)->Dsc lt p' (n+1):=λp' hd' hn' i j hij hj=>by
   by_cases hjn:j<n
   ·exact hd' i j hij hjn
   ·have:j=n:=by lia
    subst this;exact hn' i hij
  have refl:∀a,lt a a=false:=λa=>by
   cases z:lt a a with
   |false=>rfl
   |true=>have:=W.asym _ _ z;rw[z]at this;cases this
  cases hc:lt (p.getD n 0) (p.getD (n-1) 0)with
  |true=>
   rw[if_pos rfl];have hc':=W.asym _ _ hc;have below:∀i,i<n->lt (p.getD i 0) (p.getD n 0)=false:=λi hi=>by
    by_cases z:i=n-1
    ·subst z;exact hc'
    ·exact W.neg _ _ _ hc' (hd i (n-1) (by lia) (by lia))
   by_cases h0:q>0
   ·rw[if_pos h0];have hsz:(bp p (n-(q+1)) n).size=p.size:=jj _ _ _;obtain⟨a1,a2,a3,a4,a5,a6,a7⟩:=jM W f (bp p (n-(q+1)) n) (n+1) 0 (by lia) (by rw[hsz];lia) (by lia) (grow _ (hd.run hr hq (by lia)) λi hi=>by
     rw[fH (by lia),fH (by lia),if_neg (show ¬ (n-(q+1)<=n/\n<n)by lia)];split
     ·exact below _ (by lia)
     ·exact below _ hi) (one _)
    exact⟨a1.trans (jz _ _ _),a2.trans hsz,by lia,by lia,a5,a6,a7⟩
   ·rw[if_neg h0];obtain⟨a1,a2,a3,a4,a5,a6,a7⟩:=jM W f p (n+1) 0 (by lia) (by lia) (by lia) (grow _ hd below) (one _);exact⟨a1,a2,by lia,by lia,a5,a6,a7⟩
  |false=>
   rw[if_neg (by decide)];have e2:qm lt (.ask (p.getD (n-1) 0) (p.getD n 0) λd=>if d=true then .ret (p,n,q)else bg f p (n+1) (q+1))=qm lt (if lt (p.getD (n-1) 0) (p.getD n 0)=true then .ret (p,n,q)else bg f p (n+1) (q+1)):=rfl;rw[e2];cases hd2:lt (p.getD (n-1) 0) (p.getD n 0)with
   |true=>
    rw[if_pos rfl];exact⟨Array.Perm.refl _,rfl,ay _,Nat.le_add_right _ _,hq,hd,hr⟩
   |false=>
    rw[if_neg (by decide)];obtain⟨a1,a2,a3,a4,a5,a6,a7⟩:=jM W f p (n+1) (q+1) (by lia) (by lia) (by lia) (grow _ hd λi hi=>by
     by_cases z:i=n-1
     ·subst z;exact hd2
     ·exact W.neg _ _ _ hd2 (hd i (n-1) (by lia) (by lia))) (λi j hi hi' hj hj'=>by
     by_cases zi:i=n
     ·by_cases zj:j=n
      ·rw[zi,zj];exact refl _
      ·rw[zi];exact W.neg _ _ _ (hr (n-1) j (by lia) (by lia) (by lia) (by lia)) hc
     ·by_cases zj:j=n
      ·rw[zj];exact W.neg _ _ _ hd2 (hr i (n-1) (by lia) (by lia) (by lia) (by lia))
      ·exact hr i j (by lia) (by lia) (by lia) (by lia))
    exact⟨a1,a2,by lia,by lia,a5,a6,a7⟩
end
section
variable{lt:Nat->Nat->Bool}
structure Part(lt:Nat->Nat->Bool)(p:Array Nat)(r:Nat×Array Nat):Prop where
 perm:r.2.Perm p
 size:r.2.size=p.size
 lo:1<=r.1
 hi:r.1<=p.size
 asc:Asc lt r.2 r.1
theorem oB(W:Wk lt){p:Array Nat}{n:Nat}(h1:1<=n)(hn:n<=p.size)(hd:Dsc lt p n):Part lt p (qm lt (PySem.W.kas_tail3 n p.size p)):=by
 unfold PySem.W.kas_tail3;rw[gz];obtain⟨a1,a2,a3,_⟩:=kP W (p:=bp p 0 n) (p.size-n) n h1 (hd.rev hn);exact⟨jz _ _ _,jj _ _ _,a_ h1 a1,by show qm lt (PySem.W.kas_asc (bp p 0 n) (p.size-n) n)<=_;lia,a3⟩
theorem Part.of{p p':Array Nat}{r:Nat×Array Nat}(h:Part lt p' r)(hp:p'.Perm p)(hs:p'.size=p.size):Part lt p r:=⟨h.perm.trans hp,h.size.trans hs,h.lo,hs▸h.hi,h.asc⟩
theorem nr(W:Wk lt){p:Array Nat}{n:Nat}(hn:n+1<=p.size)(hd:Dsc lt p (n+1)):Part lt p (qm lt (PySem.W.kas_descPart n p.size p)):=by
 unfold PySem.W.kas_descPart;rw[gz];have refl:∀a,lt a a=false:=λa=>by
  cases z:lt a a with
  |false=>rfl
  |true=>have:=W.asym _ _ z;rw[z]at this;cases this
 obtain⟨a1,a2,a3,a4,a5,a6,a7⟩:=jM W (p.size-(n+1)) p (n+1) 0 (by lia) (by lia) (by lia) hd λi j hi hi' hj hj'=>by
  have:i=j:=by lia
  subst this;exact refl _
 generalize qm lt (bg (p.size-(n+1)) p (n+1) 0)=r at a1 a2 a3 a4 a5 a6 a7;split
 ·have hsz:(bp r.1 (r.2.1-(r.2.2+1)) r.2.1).size=p.size:=(jj _ _ _).trans a2;have T:=oB W (p:=bp r.1 (r.2.1-(r.2.2+1)) r.2.1) (n:=r.2.1) (by lia) (by rw[hsz];lia) (a6.run a7 a5 (by lia));rw[hsz]at T;exact T.of ((jz _ _ _).trans a1) hsz
 ·have T:=oB W (p:=r.1) (n:=r.2.1) (by lia) (by lia) a6;rw[a2]at T;exact T.of a1 a2
theorem xN(W:Wk lt){p:Array Nat}(h1:1<=p.size):Part lt p (qm lt (PySem.W.kas_count p.size p)):=by
 unfold PySem.W.kas_count;rw[gz];obtain⟨a1,a2,a3,a4⟩:=kP W (p:=p) (p.size-1) 1 (ay _) λi j hij hj=>by lia
 generalize qm lt (PySem.W.kas_asc p (p.size-1) 1)=n at a1 a2 a3 a4;by_cases he:n=p.size
 ·rw[if_pos (by simp[he])];exact⟨Array.Perm.refl _,rfl,a1,by show n<=_;lia,a3⟩
 ·rw[if_neg (by simp[he])];have hlt:=a4 (by lia);have hle:=W.asym _ _ hlt;have start:∀p':Array Nat,(∀i,i<n->lt (p'.getD i 0) (p.getD (n-1) 0)=false/\lt (p.getD (n-1) 0) (p'.getD i 0)=false)->p'.getD n 0=p.getD n 0->Dsc lt p' (n+1):=λp' hp' en i j hij hj=>by
   by_cases hjn:j<n
   ·exact W.neg _ _ _ (hp' j hjn).2 (hp' i (by lia)).1
   ·have:j=n:=by lia
    subst this;rw[en];exact W.neg _ _ _ hle (hp' i hij).1
  by_cases h2:n>1
  ·rw[if_pos h2];have e2:∀t u:PySem.W.KasT (Nat×Array Nat),qm lt (.ask (p.getD 0 0) (p.getD (n-1) 0) λc=>if c=true then t else u)=qm lt (if lt (p.getD 0 0) (p.getD (n-1) 0)=true then t else u):=λ_ _=>rfl
   rw[e2];cases hc:lt (p.getD 0 0) (p.getD (n-1) 0)with
   |true=>
    rw[if_pos rfl];exact⟨Array.Perm.refl _,rfl,a1,by show n<=_;lia,a3⟩
   |false=>
    rw[if_neg (by decide)];have hsz:(bp p 0 n).size=p.size:=jj _ _ _;have all:∀i,i<n->lt (p.getD i 0) (p.getD (n-1) 0)=false/\lt (p.getD (n-1) 0) (p.getD i 0)=false:=λi hi=>by
     have up:lt (p.getD (n-1) 0) (p.getD i 0)=false:=by
      by_cases z:i=n-1
      ·rw[z];cases y:lt (p.getD (n-1) 0) (p.getD (n-1) 0)with
       |false=>rfl
       |true=>have:=W.asym _ _ y;rw[y]at this;cases this
      ·exact a3 i (n-1) (by lia) (by lia)
     refine⟨?_,up⟩;by_cases z:i=0
     ·rw[z];exact hc
     ·exact W.neg _ _ _ hc (a3 0 i (by lia) hi)
    have T:=nr W (p:=bp p 0 n) (n:=n) (by lia) (start _ (λi hi=>by rw[fH (by lia),if_pos (by lia)];exact all _ (by lia)) (by rw[fH (by lia),if_neg (by lia)]));rw[hsz]at T;exact T.of (jz _ _ _) hsz
  ·rw[if_neg h2];have:n=1:=by lia
   subst this;have refl:∀a,lt a a=false:=λa=>by
    cases z:lt a a with
    |false=>rfl
    |true=>have:=W.asym _ _ z;rw[z]at this;cases this
   exact nr W (by lia) (start p (λi hi=>by
    have:i=0:=by lia
    subst this;exact⟨refl _,refl _⟩) rfl)
theorem place_spec(W:Wk lt){p:Array Nat}{k:Nat}(hs:Asc lt p k):∀(f l r:Nat),l<=r->r<=k->r-l<=f->(∀i,i<l->lt (p.getD k 0) (p.getD i 0)=false)->(∀i,r<=i->i<k->lt (p.getD k 0) (p.getD i 0)=true) ->
  qm lt (PySem.W.kas_place p k f l r)<=k/\(∀i,i<qm lt (PySem.W.kas_place p k f l r)->lt (p.getD k 0) (p.getD i 0)=false)/\(∀i,qm lt (PySem.W.kas_place p k f l r)<=i->i<k->lt (p.getD k 0) (p.getD i 0)=true)
 | 0,l,r,h1,h2,h3,hl,hr=>⟨by show l<=k;lia,hl,λi hi=>hr i (by have:l<=i:=hi;lia)⟩
 |f+1,l,r,h1,h2,h3,hl,hr=>by
  unfold PySem.W.kas_place;by_cases hg:l >= r
  ·rw[if_pos hg];exact⟨by show l<=k;lia,hl,λi hi=>hr i (by have:l<=i:=hi;lia)⟩
  ·rw[if_neg hg];have e2:∀t u:PySem.W.KasT Nat,qm lt (.ask (p.getD k 0) (p.getD ((l+r)/2) 0) λc=>if c=true then t else u)=qm lt (if lt (p.getD k 0) (p.getD ((l+r)/2) 0)=true then t else u):=λ_ _=>rfl
   rw[e2];cases hc:lt (p.getD k 0) (p.getD ((l+r)/2) 0)with
   |true=>
    rw[if_pos rfl];refine place_spec W hs f l ((l+r)/2) (by lia) (by lia) (by lia) hl λi hi hik=>?_
    by_cases z:i=(l+r)/2
    ·rw[z];exact hc
    ·cases y:lt (p.getD k 0) (p.getD i 0)with
     |true=>rfl
     |false=>
      have:=W.neg _ _ _ (hs ((l+r)/2) i (by lia) hik) y;rw[hc]at this;cases this
   |false=>
    rw[if_neg (by decide)];refine place_spec W hs f ((l+r)/2+1) r (by lia) h2 (by lia) (λi hi=>?_) hr;by_cases z:i=(l+r)/2
    ·rw[z];exact hc
    ·exact W.neg _ _ _ (hs i ((l+r)/2) (by lia) (by lia)) hc
theorem mX{p:Array Nat}{k x:Nat}(hk:k<p.size)(hx:x<=k)(i:Nat):(bubble p k (k-x)).getD i 0=if i=x then p.getD k 0 else if x<i/\i<=k then p.getD (i-1) 0 else p.getD i 0:=by
 rw[getD_at,getElem?_bubble hk _ (by lia),show k-(k-x)=x by lia,getD_at,getD_at,getD_at];split
 ·rfl
 ·split<;>rfl
theorem pe(W:Wk lt):∀(f:Nat) (p:Array Nat) (k:Nat),k+f<=p.size->Asc lt p k->(qm lt (PySem.W.kas_bin f p k)).Perm p/\Asc lt (qm lt (PySem.W.kas_bin f p k)) (k+f)
 | 0,p,k,_,h=>⟨Array.Perm.refl _,h⟩
 |f+1,p,k,hs,h=>by
  unfold PySem.W.kas_bin;rw[gz];obtain⟨a1,a2,a3⟩:=place_spec W h k 0 k (cf _) (ay _) (by lia) (λi hi=>by lia) (λi hi hik=>by lia);generalize qm lt (PySem.W.kas_place p k k 0 k)=x at a1 a2 a3;have hsz:(bubble p k (k-x)).size=p.size:=bubble_size _ _ _;obtain⟨b1,b2⟩:=pe W f (bubble p k (k-x)) (k+1) (by rw[hsz];lia) λi j hij hj=>by
   rw[mX (by lia) a1,mX (by lia) a1];by_cases zj:j=x
   ·rw[if_pos zj,if_neg (by lia),if_neg (by lia)];exact a2 i (by lia)
   ·rw[if_neg zj];by_cases gj:x<j
    ·rw[if_pos (by lia)];by_cases zi:i=x
     ·rw[if_pos zi];exact W.asym _ _ (a3 (j-1) (by lia) (by lia))
     ·rw[if_neg zi];by_cases gi:x<i
      ·rw[if_pos (by lia)];exact h _ _ (by lia) (by lia)
      ·rw[if_neg (by lia)];exact h _ _ (by lia) (by lia)
    ·rw[if_neg (by lia),if_neg (by lia),if_neg (by lia)];exact h _ _ hij (by lia)
  refine⟨b1.trans (bubble_perm _ _ _),?_⟩;rw[show k+(f+1)=k+1+f by lia];exact b2
theorem yp(W:Wk lt){n:Nat}(hn:0<n):(qm lt (PySem.W.kas_sort n)).toList.Perm (a8 n)/\Asc lt (qm lt (PySem.W.kas_sort n)) n:=by
 unfold PySem.W.kas_sort;rw[gz];have hsz:(a8 n).toArray.size=n:=by simp
 have C:=xN W (p:=(a8 n).toArray) (by rw[hsz];lia);rw[hsz]at C;generalize qm lt (PySem.W.kas_count n (a8 n).toArray)=r at C;have tl:∀q:Array Nat,q.Perm (a8 n).toArray->q.toList.Perm (a8 n):=λq hq=>by
  have:=Array.perm_iff_toList_perm.mp hq
  simpa using this
 have hh:=C.hi;have hl:=C.lo;have h2:=C.size;rw[hsz]at hh h2;split
 ·rename_i hlt
  rw[show max r.1 1=r.1 by lia];obtain⟨b1,b2⟩:=pe W (n-r.1) r.2 r.1 (by lia) C.asc;rw[show r.1+(n-r.1)=n by lia]at b2;exact⟨tl _ (b1.trans C.perm),b2⟩
 ·rename_i hlt
  have:r.1=n:=by lia
  refine⟨tl _ C.perm,?_⟩;have:=C.asc;rw[show r.1=n by lia]at this;exact this
end
theorem Di(f:Nat->Int×Int):Wk λi j=>ltP (f i) (f j):=by
 refine⟨λa b h=>D2 h,λa b c h1 h2=>?_⟩;unfold ltP at *;generalize f a=x at *;generalize f b=y at *;generalize f c=z at *;by_cases e1:y.1=x.1
 ·rw[if_pos e1]at h1;by_cases e2:z.1=y.1
  ·rw[if_pos e2]at h2;rw[if_pos (by lia)];have h1:=of_decide_eq_false h1;have h2:=of_decide_eq_false h2;exact decide_eq_false (by lia)
  ·rw[if_neg e2]at h2;have h2:=of_decide_eq_false h2;rw[if_neg (by lia)];exact decide_eq_false (by lia)
 ·rw[if_neg e1]at h1;have h1:=of_decide_eq_false h1;by_cases e2:z.1=y.1
  ·rw[if_neg (by lia)];exact decide_eq_false (by lia)
  ·rw[if_neg e2]at h2;have h2:=of_decide_eq_false h2;rw[if_neg (by lia)];exact decide_eq_false (by lia)
theorem vC(ks:List (Int×Int)):(cU ks).Perm (a8 ks.length)/\((cU ks).map λi=>ks.getD i (0,0)).Pairwise λa b=>ltP b a=false:=by
 unfold cU;by_cases h2:ks.length<2
 ·rw[if_pos h2];refine⟨List.Perm.refl _,?_⟩;refine List.pairwise_iff_getElem.mpr λi j hi hj hij=>?_
  rw[aF,List.length_range]at hj;lia
 ·rw[if_neg h2];obtain⟨h1,h3⟩:=yp (Di λi=>ks.getD i (0,0)) (n:=ks.length) (by lia);refine⟨h1,?_⟩;have hlen:=h1.length_eq;rw[List.length_range]at hlen;refine List.pairwise_map.mpr (List.pairwise_iff_getElem.mpr λi j hi hj hij=>?_);have:=h3 i j hij (by lia);rw[getD_at,getD_at]at this;have gi:∀(q:Array Nat) (m:Nat) (hm:m<q.toList.length),(q[m]?).getD 0=q.toList[m]:=λq m hm=>by
   have:m<q.size:=by simpa using hm
   simp[this]
  rw[gi _ j hj,gi _ i hi]at this;exact this
end L2
namespace HT
open PySem PySem.Spec PyProof.Rows L2
section
variable{prog:aw}{w:au}{A:ax}{E:ae->af->Prop}{s:af}
end
end HT
namespace L2
open PySem PySem.Spec PyProof.Rows
noncomputable def uR(K:aq)(C:Addr)(n:Nat)(tb:TS)(Eh:XK)(ts:TS):TS:=λD σ H=>tb {D with nx:=D.nx} σ H /\
 ∀(τ:St) (cls:ae) (H':Hp),τ.length=n->Eh cls none H'->bE K cls (.ref C)=some true/\ts {nx:=λ_ _=>False,rt:=D.rt} τ H'
theorem uC{X:Cx}{C:Addr}{cn:Str}{np hpos pos:Pos}{body:List Stmt}{b₀:Stmt}{suite:List Stmt}{tb ts:TS}{Eh:XK}(hex:X.ex=[])(hst:X.stack=X.env::X.outer)(hfr:X.env.frame=some X.env.locals)
  (hg:Gl X cn) (hm:X.mg cn=some (.ref C))
  (hb:∀pn Et,Passes (CX1 X.prog X.w) (X.inTry pn Et) Eh->PSs (X.inTry pn Et) body tb) (hs:∀x,PSs (X.held x) (b₀::suite) ts) (hd:(cn==("__debug__" : Str))=false:=by decide) :
  PS X (.Try body [.ExceptHandler (some (.Name cn np)) none (b₀::suite) hpos] [] [] pos) (uR X.K C X.N.length tb Eh ts):=by
 intro pins s σ H D I h;obtain⟨h1,h2⟩:=h;refine wpAny_Try_except ?_;have okT:∀Et,(X.inTry (X.pn++pins) Et).Ok:=λEt=>
  ⟨I.ok.mod,I.ok.kind,I.ok.glob,I.ok.blt,I.ok.above,I.ok.inj,I.ok.has,I.ok.cab,I.ok.hd,I.ok.frames,I.ok.stk,I.ok.exf,I.ok.bs,I.ok.bsz,I.ok.noex,I.ok.exfs,I.ok.funs,I.ok.frf⟩
 have toT:∀{Et σ H s},Inv X pins σ H s->Inv (X.inTry (X.pn++pins) Et) [] σ H s:=λ{Et σ H s} J=>
  ⟨okT Et,J.os,J.bare,J.base,J.loc,J.cell,J.free,J.freeC,λp hp=>J.pin p (by simpa using hp),J.hok,J.len⟩
 have ofT:∀{Et pins' σ H s},Inv (X.inTry (X.pn++pins) Et) pins' σ H s->Inv X pins σ H s:=λ{Et pins' σ H s} J=>
  ⟨I.ok,J.os,J.bare,J.base,J.loc,J.cell,J.free,J.freeC,λp hp=>J.pin p (List.mem_append_left _ hp),J.hok,J.len⟩
 have hP:Passes (CX1 X.prog X.w) (X.inTry (X.pn++pins) λe s₁=>ai (aj X.prog X.w) X.A (noteFrame e X.env) (λ_ s₂=>ai (aj X.prog X.w) X.A (setFlight e none) (λ_ s₃=>
   ai (aj X.prog X.w) X.A (handleBy e X.env [.ExceptHandler (some (.Name cn np)) none (b₀::suite) hpos]) (SP X pins D) X.xe s₃) X.xe s₂) X.xe s₁) Eh:=by
  intro pins' σ' H' s' e s'' I' hcx;obtain⟨x,cls,H2,rfl,I2,F2,q⟩:=jT (X:=X.inTry (X.pn++pins) _) rfl rfl I' hex hcx;have I3:Inv X pins σ' H2 s'':=ofT I2;have ap:∀{Et b},Apart (X.inTry (X.pn++pins) Et) pins' H2 b->Apart X pins H2 b:=λ{Et b} a=>⟨a.new,a.free,λp hp=>a.pin p (List.mem_append_left _ hp)⟩
  have F3:b7 X pins H2 s''.heap x cls:=by
   obtain⟨oe,vs,T,oT,ts,a0,e1,e2,e3,e4,e5,e6,e7,e8,e9,e10⟩:=F2.tr;exact⟨ap F2.me,oe,vs,T,oT,ts,a0,e1,e2,e3,e4,e5,e6,e7,e8,e9,ap e10⟩
  obtain⟨oe,vs,_,_,_,_,e1,_,_,e4,_⟩:=id F3.tr;obtain⟨T,oT,tts,a0,W,hT,hTd,aT⟩:=b7.flying I3 F3;have hfrm:=I.ok.frames;rw[hst]at hfrm W;refine wpAny_looks_onW hfrm hfr W λh4 W4 u4=>?_
  refine wpAny_landsW W4 λh5 W5 u5=>?_
  rw[<-hst]at W5;obtain⟨I5,F5⟩:=b7.back I3 hex F3.me e1 e4 hT hTd aT W5 (u4.trans u5);obtain⟨oe5,vs5,T5,oT5,ts5,a5,g1,g2,g3,g4,g5,g6,g7,g8,g9,g10⟩:=id F5.tr;obtain⟨hx1,hx2⟩:=h2 σ' cls H2 I3.len q;have LT:PySem.W.Looks (aj X.prog X.w) h5 (typeOf (.ref x)) cls:=by
   subst g2;exact(PySem.W.Looks.ld g1).andThen .now
  refine wpAny_handleBy_cons (codeAny_handlers_test (gQ (I5.hold x) hg hm ?_ hd)) (by intro z;cases z);refine PySem.W.exm_one (K:=X.K) I5.kIn LT hx1 _ _ _ _ (λ_ _ e=>e) ?_;refine codeAny_handlers_suite ?_;obtain⟨T6,oT6,ts6,a6,W6,hT6,hTd6,aT6⟩:=b7.flying I5 F5;refine lands_againW W6 λh6 W6' u6=>?_
  obtain⟨I6,F6⟩:=b7.back I5 hex F5.me g1 g4 hT6 hTd6 aT6 W6' u6;refine bL (hs x pins _ _ _ _ (I6.hold x) hx2) (λf s9 r9=>?_) λ_ _ z=>aS z
  cases f with
  |ret u=>
   obtain⟨v,σ9,H9,I9,rv,q9⟩:=r9;exact⟨v,_,H9,I9.unhold I.ok,rv,q9⟩
  |next=>obtain⟨_,_,_,z⟩:=r9;exact aS z
  |brk=>obtain⟨_,_,_,z⟩:=r9;exact aS z
  |cont=>obtain⟨_,_,_,z⟩:=r9;exact aS z
 refine thn (hb _ _ hP [] s σ H _ (toT I) h1) λf s1 q=>?_
 cases f with
 |next=>obtain⟨σ1,H1,I1,q1⟩:=q;exact wpAny_execs_nil ⟨σ1,H1,ofT I1,q1⟩
 |brk=>obtain⟨σ1,H1,I1,q1⟩:=q;exact⟨σ1,H1,ofT I1,q1⟩
 |cont=>obtain⟨σ1,H1,I1,q1⟩:=q;exact⟨σ1,H1,ofT I1,q1⟩
 |ret u=>obtain⟨v,σ1,H1,I1,rv,q1⟩:=q;exact⟨v,σ1,H1,ofT I1,rv,q1⟩
section
variable{X:Cx}
noncomputable def CY:V->List V->Hp->VK->Prop:=λx vs H Q=>∃l xs j y,x=.ref l/\vs=[.int j,y]/\H l=some (.lst xs)/\xs.length<aH/\0<=j/\j<=xs.length/\Q .non (upd H l (.lst (xs.take j.toNat++y::xs.drop j.toNat)))
theorem sT:MtM X "list.insert" CY:=by
 intro pins s σ H x vs v us Q I rx rv h;obtain⟨l,xs,j,y,rfl,rfl,hH,hz,hj,hj',q⟩:=h;cases rx;obtain⟨u,u2,rfl,ru,ru2⟩:=rv.two;obtain⟨t,rfl⟩:=ru;obtain⟨z,its,n,r,hl,e⟩:=I.lstM hH;have hsl:=aV;have hfit:Builtin.List.listFitsIndex j=true:=by
  have a:¬ j<0:=by lia
  simp[Builtin.List.listFitsIndex];lia
 refine call_meets PySem.F.slot_list_insert ⟨_,e,rfl⟩ PySem.F.entry_list_insert (PySem.F.args_list_insert_3 _ _ _) (PySem.AutoSeq1.list_insert_list_int_val_1 l its.toArray n j t u2 (by simp[hfit]) (by rw[aP];lia)) ⟨e,?_⟩;refine⟨.non,_,I.lset (its':=its.take j.toNat++u2::its.drop j.toNat) hH e ?_ ((r.take _).append (.cons ru2 (r.drop _))) ?_,rfl,q⟩
 ·have hk:(if j<0 then (j+(its.toArray.size:Int)).toNat else min j.toNat its.toArray.size)=j.toNat:=by
   rw[if_neg (by lia),aP];lia
  show (its.toArray.extract 0 (if j<0 then (j+(its.toArray.size:Int)).toNat else min j.toNat its.toArray.size)).push u2++its.toArray.extract (if j<0 then (j+(its.toArray.size:Int)).toNat else min j.toNat its.toArray.size)=_;rw[hk];simp;apply List.take_of_length_le;simp
 ·simp;lia
end
noncomputable def ItS(lo:Int)(st:Int)(n:Nat):It:=⟨λi _=>i<n,λi H x H'=>H'=H/\x=.int (lo+i * st),λi _=>n<=i⟩
theorem Dr{P:aw}{w:au}{K:aq}{tg:Expr}(it:Addr)(lo st:Int)(n:Nat):Turn P w K tg (ItS lo st n) [it] it (λi h=>IsRangeIter h it (lo+(i:Nat) * st) ((n:Int)-(i:Nat)) st) where
 mem:=by simp
 obj:=λi h st b hb=>by
  have e:b=it:=by simpa using hb
  subst e;exact⟨_,st,λv z=>by
   have z':Data.fields _=Data.cell v:=z;cases z'⟩
 keep:=λi h h' st k=>k it (by simp) _ st
 item:=by
  intro X hP hw hK hc i pins s σ H E I hf st' hg;subst hP hw hK;obtain⟨f0,f1,f2,f3,f4,f5⟩:=hf it (by simp);have W:=Walks.range (prog:=X.prog) (w:=X.w) (I.ok.hd hc) it lo st n;refine W.item i s _ _ hg st' λv h' tk hv st' kk=>?_
  obtain⟨t,rfl⟩:=hv;have I1:Inv X pins σ H {s with heap:=h',toks:=tk}:=I.turned (λb o hb e=>kk b o (by simpa using hb) e) f0 f1 f3 f4 f5;exact⟨_,rfl,jk (s:={s with heap:=h',toks:=tk}) (n:="range_iterator") st' rfl rfl (by decide) ⟨.int (lo+i * st),H,I1,⟨t,rfl⟩,⟨rfl,rfl⟩,st',λb hb=>(hf b hb).1⟩⟩
 done:=by
  intro X hP hw hK hc i pins s σ H E I hf st' hg;subst hP hw hK;obtain⟨f0,f1,f2,f3,f4,f5⟩:=hf it (by simp);exact wpAny_pyNext_range_end (I.ok.hd hc) st' (by have:n<=i:=hg;lia) λh' eb=>⟨rfl,I.turned (t':=s.toks) (λb o hb e=>eb b o hb e) f0 f1 f3 f4 f5⟩
 self:=λ_ _ _ _ _ st h=>wpAny_pyIter_rangeiter st h
section
variable{X:Cx}{tg:Expr}
end
section
variable{κ:Type} [DecidableEq κ]
noncomputable def cX(kvs:List (κ×V))(k:κ):Option V:=(kvs.find? λkv=>decide (kv.1=k)).map (·.2)
noncomputable def putK(kvs:List (κ×V))(k:κ)(v:V):List (κ×V):=
 if (kvs.any λkv=>decide (kv.1=k))=true then kvs.map (λkv=>if kv.1=k then (kv.1,v)else kv)else kvs++[(k,v)]
theorem fT{p:κ×V}{r:List (κ×V)}{k:κ}(e:p.1=k):cX (p::r) k=some p.2:=by simp[cX,List.find?_cons,e]
theorem fO{p:κ×V}{r:List (κ×V)}{k:κ}(e:¬ p.1=k):cX (p::r) k=cX r k:=by simp[cX,List.find?_cons,e]
theorem kH(k:κ):∀kvs:List (κ×V),(kvs.any λkv=>decide (kv.1=k))=(cX kvs k).isSome
 | []=>rfl
 |p::r=>by
  rw[List.any_cons];by_cases e:p.1=k
  ·simp only[fT e,decide_eq_true e,Bool.true_or,Option.isSome_some]
  ·rw[fO e,decide_eq_false e,Bool.false_or];exact kH k r
theorem Bq(k j:κ)(y:V):∀kvs:List (κ×V),cX (kvs.map λkv=>if kv.1=k then (kv.1,y)else kv) j=(cX kvs j).map λx=>if j=k then y else x
 | []=>rfl
 |p::r=>by
  have ih:=Bq k j y r;rw[aQ];by_cases h:p.1=k
  ·rw[if_pos h];by_cases e:p.1=j
   ·rw[fT (p:=(p.1,y)) e,fT e,Option.map_some,if_pos (e.symm.trans h)]
   ·rw[fO (p:=(p.1,y)) e,fO e,ih]
  ·rw[if_neg h];by_cases e:p.1=j
   ·rw[fT (p:=p) e,fT e,Option.map_some,if_neg (λz=>h (e.trans z))]
   ·rw[fO (p:=p) e,fO e,ih]
theorem lx(kvs:List (κ×V))(k:κ)(v:V):(putK kvs k v).length<=kvs.length+1:=by
 unfold putK;split
 ·rw[aF];lia
 ·rw[bO,bA,List.length_nil];lia
theorem dG.isSome_eq{o:Option V}{u:Option ae}(r:dG o u):o.isSome=u.isSome:=by
 cases o with
 |none=>cases u with
  |none=>rfl
  |some _=>exact(show False from r).elim
 |some _=>cases u with
  |none=>exact(show False from r).elim
  |some _=>rfl
theorem dG.getD{o:Option V}{u:Option ae}{d:V}{d':ae}(r:dG o u)(rd:RelV d d'):RelV (o.getD d) (u.getD d'):=by
 cases o with
 |none=>cases u with
  |none=>exact rd
  |some _=>exact(show False from r).elim
 |some _=>cases u with
  |none=>exact(show False from r).elim
  |some _=>exact r
theorem KV.val{kvs:List (κ×V)}{vs:List (κ×ae)}(r:KV kvs vs)(k:κ):dG (cX kvs k) (valueAt vs k):=by
 unfold KV at r
 induction r with
 |nil=>exact True.intro
 | @cons p q ps qs h t ih=>
  obtain⟨h1,h2⟩:=h;by_cases e:p.1=k
  ·have e':q.1=k:=h1.symm.trans e;have b:valueAt (q::qs) k=some q.2:=by simp[valueAt,List.find?_cons,e']
   rw[fT e,b];exact h2
  ·have e':¬ q.1=k:=λz=>e (h1.trans z)
   have b:valueAt (q::qs) k=valueAt qs k:=by simp[valueAt,List.find?_cons,e']
   rw[fO e,b];exact ih
theorem KV.any{kvs:List (κ×V)}{vs:List (κ×ae)}(r:KV kvs vs)(k:κ):(kvs.any λkv=>decide (kv.1=k))=vs.any λkv=>decide (kv.1=k):=by
 unfold KV at r
 induction r with
 |nil=>rfl
 |cons h t ih=>rw[List.any_cons,List.any_cons,ih,h.1]
theorem KV.repl{kvs:List (κ×V)}{vs:List (κ×ae)}(r:KV kvs vs)(k:κ){y:V}{u:ae}(ry:RelV y u) :
  KV (kvs.map λkv=>if kv.1=k then (kv.1,y)else kv) (vs.map λkv=>if kv.1=k then (kv.1,u)else kv):=by
 unfold KV at r ⊢
 induction r with
 |nil=>exact .nil
 | @cons p q ps qs h t ih=>
  rw[aQ,aQ];refine .cons ?_ ih;obtain⟨h1,h2⟩:=h;by_cases e:p.1=k
  ·rw[if_pos e,if_pos (h1.symm.trans e)];exact⟨h1,ry⟩
  ·rw[if_neg e,if_neg (λz=>e (h1.trans z))];exact⟨h1,h2⟩
theorem KV.put{kvs:List (κ×V)}{vs:List (κ×ae)}(r:KV kvs vs)(k:κ){y:V}{u:ae}(ry:RelV y u):KV (putK kvs k y) (stored vs k u):=by
 unfold putK stored;rw[r.any k];by_cases e:(vs.any λkv=>decide (kv.1=k))=true
 ·rw[if_pos e,if_pos e];exact r.repl k ry
 ·rw[if_neg e,if_neg e];exact Paired.snoc r ⟨rfl,ry⟩
theorem KV.length{kvs:List (κ×V)}{vs:List (κ×ae)}(r:KV kvs vs):kvs.length=vs.length:=Paired.length r
end
theorem fi{P:aw}{w:au}{k:Key}{u:ae}(r:RelV (kV k) u):(zv P w).is k u=true:=by
 cases k with
 |inl i=>obtain⟨t,e⟩:=(show ∃t,u=ae.int i t from r);subst e;exact sL P w i t
 |inr x=>obtain⟨t,e⟩:=(show ∃t,u=ae.str x t from r);subst e;exact vg P w x t
theorem nL{P:aw}{w:au}:∀{ks:List Key}{us:List ae},Vals (ks.map kV) us->ItemsAre (zv P w) ks us
 | [],_,r=>by rw[List.map_nil]at r;cases r;exact .nil
 |k::ks,_,r=>by
  rw[aQ]at r;cases r with
  |cons h t=>exact .cons (fi h) (nL t)
abbrev KT(H:Hp):List (List Key×V)->List (List Key×Addr×ae)->Prop:=Paired λp q=>p.1=q.1/\H q.2.1=some (.tup (p.1.map kV))/\RelV p.2 q.2.2
theorem KT.val{H:Hp}{kvs:List (List Key×V)}{xs:List (List Key×Addr×ae)}(r:KT H kvs xs)(k:List Key):dG (cX kvs k) ((atKey xs k).map (·.2)):=by
 induction r with
 |nil=>exact True.intro
 | @cons p q ps qs h t ih=>
  obtain⟨h1,_,h2⟩:=h;by_cases e:p.1=k
  ·have e':q.1=k:=h1.symm.trans e;have b:atKey (q::qs) k=some q.2:=by simp[atKey,List.find?_cons,e']
   rw[fT e,b];exact h2
  ·have e':¬ q.1=k:=λz=>e (h1.trans z)
   have b:atKey (q::qs) k=atKey qs k:=by simp[atKey,List.find?_cons,e']
   rw[fO e,b];exact ih
theorem KT.repl{H:Hp}{kvs:List (List Key×V)}{xs:List (List Key×Addr×ae)}(r:KT H kvs xs)(k:List Key){y:V}{u:ae}(ry:RelV y u) :
  KT H (kvs.map λkv=>if kv.1=k then (kv.1,y)else kv) (xs.map (putAt k u)):=by
 induction r with
 |nil=>exact .nil
 | @cons p q ps qs h t ih=>
  rw[aQ,aQ];refine .cons ?_ ih;obtain⟨h1,h2,h3⟩:=h;unfold putAt;by_cases e:p.1=k
  ·rw[if_pos e,if_pos (h1.symm.trans e)];exact⟨h1,h2,ry⟩
  ·rw[if_neg e,if_neg (λz=>e (h1.trans z))];exact⟨h1,h2,h3⟩
theorem KT.put{H:Hp}{kvs:List (List Key×V)}{xs:List (List Key×Addr×ae)}(r:KT H kvs xs)(k:List Key){b:Addr}{y:V}{u:ae}(hb:H b=some (.tup (k.map kV)))(ry:RelV y u) :
  KT H (putK kvs k y) (storedH xs k b u):=by
 have e:(kvs.any λkv=>decide (kv.1=k))=(atKey xs k).isSome:=by
  rw[kH,(r.val k).isSome_eq,Option.isSome_map]
 unfold putK storedH;rw[e];by_cases q:(atKey xs k).isSome=true
 ·rw[if_pos q,if_pos q];exact r.repl k ry
 ·rw[if_neg q,if_neg q];exact Paired.snoc r ⟨rfl,hb,ry⟩
theorem KT.keeps{H H':Hp}{kvs:List (List Key×V)}{xs:List (List Key×Addr×ae)}(r:KT H kvs xs)(ht:∀b ys,H b=some (.tup ys)->H' b=some (.tup ys)):KT H' kvs xs:=
 Paired.mapP r λ_ _ z=>⟨z.1,ht _ _ z.2.1,z.2.2⟩
section
variable{P:aw}{w:au}{H:Hp}{h:Heap}{a:Addr}
theorem rY{u:HO}(ok:HOk P w H h)(e:Rd H a u):zI P w H h a u:=e.ok ok
theorem fE{kvs:List (Key×V)}(ok:HOk P w H h)(e:Rd H a (.dK kvs)):kvs.length<=aH/\(a==sysModules)=false/\∃vs,KV kvs vs/\h.DictOf (zv P w) a vs:=
 show zI P w H h a (.dK kvs)from rY ok e
theorem gy{kvs:List (Key×V)}(ok:HOk P w H h)(e:H a=some (.dK kvs)):kvs.length<=aH/\(a==sysModules)=false/\∃vs,KV kvs vs/\h.DictOf (zv P w) a vs:=fE ok (.inl e)
theorem fS{ks:List Key}(ok:HOk P w H h)(e:H a=some (.tup (ks.map kV))):(tupleKind (zv P w)).is h ks a:=by
 obtain⟨_,its,r,o,h1,h2,n,h3⟩:=(show zI P w H h a (.tup (ks.map kV))from ok a _ e)
 exact⟨o,its.toArray,n,h1,h2,h3,by simpa using nL r⟩
theorem fo{kvs:List (List Key×V)}(ok:HOk P w H h)(e:Rd H a (.dT kvs)):kvs.length<=aH/\(a==sysModules)=false /\
  ∃xs,KT H kvs xs/\h.DictOfH (tupleKind (zv P w)) a xs:=by
 obtain⟨z,y,xs,r,o,es,ep,h1,h2,h3,h4,h5⟩:=(show zI P w H h a (.dT kvs)from rY ok e)
 refine⟨z,y,xs,r,o,es,ep,h1,h2,h3,h4,λx hx=>?_,h5⟩;have all:∀{l:List (List Key×V)}{m:List (List Key×Addr×ae)},KT H l m->∀x∈m,(tupleKind (zv P w)).is h x.1 x.2.1:=by
  intro l m q
  induction q with
  |nil=>intro x hx;exact nomatch hx
  | @cons p q ps qs hq t ih=>
   intro x hx;rcases aD.mp hx with e|hx
   ·subst e;exact fS ok (by rw[<-hq.1];exact hq.2.1)
   ·exact ih x hx
 exact all r x hx
theorem xJ{kvs:List (List Key×V)}(ok:HOk P w H h)(e:H a=some (.dT kvs)):kvs.length<=aH/\(a==sysModules)=false /\
  ∃xs,KT H kvs xs/\h.DictOfH (tupleKind (zv P w)) a xs:=fo ok (.inl e)
end
noncomputable def cW(H:Hp)(a:Addr)(y:V)(r:Option V):Prop:=
 (∃kvs k,Rd H a (.dK kvs)/\y=kV k/\r=cX kvs k)\/∃kvs k b,Rd H a (.dT kvs)/\y=.ref b/\H b=some (.tup (k.map kV))/\r=cX kvs k
noncomputable def jb(H:Hp)(a:Addr)(y v:V)(H':Hp):Prop:=
 (∃kvs k,H a=some (.dK kvs)/\y=kV k/\kvs.length<aH/\H'=upd H a (.dK (putK kvs k v))) \/
 ∃kvs k b,H a=some (.dT kvs)/\y=.ref b/\H b=some (.tup (k.map kV))/\kvs.length<aH/\H'=upd H a (.dT (putK kvs k v))
theorem cW.k{H:Hp}{a:Addr}{kvs:List (Key×V)}{k:Key}(e:H a=some (.dK kvs)):cW H a (kV k) (cX kvs k):=.inl ⟨kvs,k,.inl e,rfl,rfl⟩
theorem jb.k{H:Hp}{a:Addr}{kvs:List (Key×V)}{k:Key}{v:V}(e:H a=some (.dK kvs))(hl:kvs.length<aH):jb H a (kV k) v (upd H a (.dK (putK kvs k v))):=.inl ⟨kvs,k,e,rfl,hl,rfl⟩
section
variable{X:Cx}{pins:List (Addr×Obj)}{σ:St}{H:Hp}{s:af}{a:Addr}{y v:V}{u r:ae}{o:Option V}{A:ax}{E:ae->af->Prop}
theorem Inv.big(I:Inv X pins σ H s):sysModules<s.heap.objs.size:=by
 have h:ak<s.heap.objs.size:=(I.mod.glob.keeps I.bk).lt;exact Nat.lt_trans (by decide) h
theorem wN{Q:ae->af->Prop}(hu:A.units+1<cLine)(I:Inv X pins σ H s)(g:cW H a y (some v))(ry:RelV y u)(h:∀w' s',Inv X pins σ H s'->RelV v w'->Q w' s') :
  ai (aj X.prog X.w) A (getItem (.ref a) u) Q E s:=by
 rcases g with ⟨kvs,k,e,ey,l⟩|⟨kvs,k,b,e,ey,eb,l⟩
 ·subst ey;obtain⟨z,hd,vs,rel,dd⟩:=fE I.hok e;obtain⟨w',hw,rw'⟩:=dG.some_of (v:=v) (o:=valueAt vs k) (by rw[l];exact rel.val k);exact wpAny_getItem_of (fi ry) dd.mapOf hw (h w' _ (I.tok _) rw')
 ·subst ey;cases (show u=aW b from ry);obtain⟨z,hd,xs,rel,dd⟩:=fo I.hok e;obtain⟨w',hw,rw'⟩:=dG.some_of (v:=v) (o:=(atKey xs k).map (·.2)) (by rw[l];exact rel.val k);obtain⟨p,hp,hp2⟩:=bz.mp hw;refine wpAny_getItem_heap (tupleKind_room_in1 hu) (fS I.hok eb) dd hp ?_;rw[hp2];exact h w' _ (I.tok _) rw'
theorem uc{Q:ae->af->Prop}(hu:A.units+1<cLine)(I:Inv X pins σ H s)(g:cW H a y o)(ry:RelV y u)(h:∀s',Inv X pins σ H s'->Q (.bool o.isSome) s') :
  ai (aj X.prog X.w) A (aR .In u (.ref a)) Q E s:=by
 rcases g with ⟨kvs,k,e,ey,l⟩|⟨kvs,k,b,e,ey,eb,l⟩
 ·subst ey;obtain⟨z,hd,vs,rel,dd⟩:=fE I.hok e;refine wpAny_in_of (fi ry) hd dd.mapOf ?_;rw[<-(rel.val k).isSome_eq,<-l];exact h _ (I.tok _)
 ·subst ey;cases (show u=aW b from ry);obtain⟨z,hd,xs,rel,dd⟩:=fo I.hok e;refine wpAny_in_heap (tupleKind_room_in1 hu) (fS I.hok eb) hd dd ?_;have q:=(rel.val k).isSome_eq;rw[Option.isSome_map]at q;rw[<-q,<-l];exact h _ (I.tok _)
theorem tm{Q:ae->af->Prop}(hu:A.units+1<cLine)(I:Inv X pins σ H s)(g:cW H a y o)(ry:RelV y u)(h:∀s',Inv X pins σ H s'->Q (.bool (!o.isSome)) s') :
  ai (aj X.prog X.w) A (aR .NotIn u (.ref a)) Q E s:=by
 rcases g with ⟨kvs,k,e,ey,l⟩|⟨kvs,k,b,e,ey,eb,l⟩
 ·subst ey;obtain⟨z,hd,vs,rel,dd⟩:=fE I.hok e;refine wpAny_notIn_of (fi ry) hd dd.mapOf ?_;rw[<-(rel.val k).isSome_eq,<-l];exact h _ (I.tok _)
 ·subst ey;cases (show u=aW b from ry);obtain⟨z,hd,xs,rel,dd⟩:=fo I.hok e;refine wpAny_notIn_heap (tupleKind_room_in1 hu) (fS I.hok eb) hd dd ?_;have q:=(rel.val k).isSome_eq;rw[Option.isSome_map]at q;rw[<-q,<-l];exact h _ (I.tok _)
theorem jC{h':Heap}{t':Nat}{ob:HO}(I:Inv X pins σ H s)(mu:Mut (H a))(hs:Heap.SameBut a s.heap h')(he:∃q,h'.get? a=some q)(new:zI X.prog X.w (upd H a ob) h' a ob) :
  Inv X pins σ (upd H a ob) {s with heap:=h',toks:=t'}:=
 I.write (x:=a) (e:=a) mu (.inl rfl) (λb q hb z=>(hs.2 b hb).trans z) he new
theorem jZ{P:aw}{w:au}{H':Hp}{h':Heap}{kvs:List (Key×V)}{vs:List (Key×ae)}(z:kvs.length<=aH)(hd:(a==sysModules)=false)(rel:KV kvs vs)(dd:h'.DictOf (zv P w) a vs) :
  zI P w H' h' a (.dK kvs):=⟨z,hd,vs,rel,dd⟩
theorem uy{H':Hp}{Q:Unit->af->Prop}(hu:A.units+1<cLine)(I:Inv X pins σ H s)(g:jb H a y v H')(ry:RelV y u)(rv:RelV v r)(h:∀s',Inv X pins σ H' s'->Q () s') :
  ai (aj X.prog X.w) A (setItem (.ref a) u r) Q E s:=by
 rcases g with ⟨kvs,k,e,ey,l,eH⟩|⟨kvs,k,b,e,ey,eb,l,eH⟩
 ·subst ey eH;obtain⟨z,hd,vs,rel,dd⟩:=gy I.hok e;have hz:vs.length<=sizeLine:=by rw[<-rel.length];exact z
  have hl:(putK kvs k v).length<=sizeLine:=by have:=lx kvs k v;lia
  refine wpAny_setItem_pairs (hsz:=hz) (fi ry) dd λh' dd' hs=>h _ ?_
  have he:∃q,h'.get? a=some q:=let ⟨q,_,_,hq,_⟩:=dd';⟨q,hq⟩
  exact jC I (by rw[e];exact True.intro) hs he (jZ hl hd (rel.put k rv) dd')
 ·subst ey eH;cases (show u=aW b from ry);obtain⟨z,hd,xs,rel,dd⟩:=xJ I.hok e;have hz:xs.length<=sizeLine:=by rw[<-Paired.length rel];exact z
  have hl:(putK kvs k v).length<=sizeLine:=by have:=lx kvs k v;lia
  refine wpAny_setItem_heap (hsz:=hz) (tupleKind_room_in1 hu) (fS I.hok eb) dd λh' dd' hs=>h _ ?_
  obtain⟨q,es,ep,hq,h2,h3,h4,_,h5⟩:=dd';refine jC I (by rw[e];exact True.intro) hs ⟨q,hq⟩ ⟨hl,hd,_,(rel.put k eb rv).keeps λc ys ec=>?_,q,es,ep,hq,h2,h3,h4,h5⟩;rw[qh (Bh ec e (λz=>nomatch z))];exact ec
end
section
variable{X:Cx}{pins:List (Addr×Obj)}{σ:St}{H:Hp}{s:af}{a:Addr}{kvs:List (Key×V)}{k:Key}{u:ae}{A:ax}{E:ae->af->Prop}
end
theorem DD{X:Cx}{pins:List (Addr×Obj)}{σ:St}{H:Hp}{s:af}{a:Addr}{y:V}{o:Option V}(I:Inv X pins σ H s)(g:cW H a y o):s.TypeIs (.ref a) "dict":=by
 rcases g with ⟨kvs,k,e,_,_⟩|⟨kvs,k,b,e,_,_,_⟩
 ·obtain⟨_,_,vs,_,dd⟩:=fE I.hok e;exact dd.typeIs
 ·obtain⟨_,_,xs,_,dd⟩:=fo I.hok e;exact dd.typeIs
section
variable{X:Cx}{o i e value:Expr}{pos pos' tpos:Pos}{td ty tv:TE}
end
theorem oV{P:aw}{w:au}{H:Hp}(h:Heap)(hb:sysModules<h.objs.size):zI P w H (h.push {cls:=.type "dict",data:=.dict #[]}) h.objs.size (.dK []):=
 ⟨cf _,beq_eq_false_iff_ne.mpr (Ne.symm (aU hb)),[],.nil,Heap.DictOf.new h⟩
noncomputable def Cm:TE:=λ_ H Q=>∀p,H p=none->Q (.ref p) (upd H p (.dK []))
section
variable{X:Cx}{pos:Pos}
theorem CI:PE X (.Dict [] [] pos) Cm:=λpins s σ H Q I h=>
 wpAny_Dict_empty ⟨.ref s.heap.objs.size,_,I.laid (a:=s.heap.objs.size) (o:=.dK []) (t':=s.toks) (λ_ _ q=>Heap.get?_push_of_some _ q) (ay _) (oV s.heap I.big),rfl,h _ (I.hok.fresh (ay _))⟩
end
noncomputable def kY:List (TE×TE)->St->Hp->(List (V×V)->Hp->Prop)->Prop
 | [],_,H,Q=>Q [] H
 | (tk,tv)::r,σ,H,Q=>tk σ H λx H1=>tv σ H1 λy H2=>kY r σ H2 λps H3=>Q ((x,y)::ps) H3
abbrev VV:List (V×V)->List (ae×ae)->Prop:=Paired λp q=>RelV p.1 q.1/\RelV p.2 q.2
noncomputable def PPs(X:Cx)(pos:Pos)(keys:List (Option Expr))(values:List Expr)(trs:List (TE×TE)):Prop:=
 ∀(pins:List (Addr×Obj)) (s:af) (σ:St) (H:Hp) (Q:List (V×V)->Hp->Prop),Inv X pins σ H s->kY trs σ H Q ->
  ai (aj X.prog X.w) X.A (evalPairs (pairTrees keys values X.env pos)) (λvs s'=>∃ps H',Inv X pins σ H' s'/\VV ps vs/\Q ps H') X.xe s
theorem Am{X:Cx}{pos:Pos}:PPs X pos [] [] []:=λpins s σ H Q I h=>pairTrees_nil_walk ⟨[],H,I,.nil,h⟩
theorem Ag{X:Cx}{pos:Pos}{k v:Expr}{ks:List (Option Expr)}{vs:List Expr}{tk tv:TE}{trs:List (TE×TE)}(hk:PE X k tk)(hv:PE X v tv)(hr:PPs X pos ks vs trs) :
  PPs X pos (some k::ks) (v::vs) ((tk,tv)::trs):=λpins s σ H Q I h=>
 pairTrees_cons_walk (thn (hk pins s σ H _ I h) λu s1 ⟨x,H1,I1,rx,q1⟩=>thn (hv pins s1 σ H1 _ I1 q1) λw2 s2 ⟨y,H2,I2,ry,q2⟩=>
  thn (hr pins s2 σ H2 _ I2 q2) λws s3 ⟨ps,H3,I3,rel,q3⟩=>⟨(x,y)::ps,H3,I3,.cons ⟨rx,ry⟩ rel,q3⟩)
noncomputable def eX(kvs more:List (Key×V)):List (Key×V):=more.foldl (λacc kv=>putK acc kv.1 kv.2) kvs
theorem KV.merge:∀{more:List (Key×V)}{rs:List (Key×ae)}{kvs:List (Key×V)}{vs:List (Key×ae)},KV more rs->KV kvs vs->KV (eX kvs more) (merged vs rs):=by
 intro more rs kvs vs r;unfold KV at r
 induction r generalizing kvs vs with
 |nil=>intro q;exact q
 | @cons p q ps qs h t ih=>
  intro r0;have e:KV (putK kvs p.1 p.2) (stored vs q.1 q.2):=by
   have:=r0.put p.1 h.2;rw[<-h.1];exact this
  exact ih e
theorem lg:∀(more kvs:List (Key×V)),(eX kvs more).length<=kvs.length+more.length
 | [],kvs=>by show kvs.length<=kvs.length+0;lia
 |p::r,kvs=>by
  have h1:=lg r (putK kvs p.1 p.2);have h2:=lx kvs p.1 p.2;show (eX (putK kvs p.1 p.2) r).length<=_;rw[bA];lia
theorem sg{P:aw}{w:au}:∀{kvs:List (Key×V)}{ws:List (ae×ae)},VV (kvs.map λkv=>(kV kv.1,kv.2)) ws->∃rs,Carries (zv P w) ws rs/\KV kvs rs
 | [],_,r=>by rw[List.map_nil]at r;cases r;exact⟨[],True.intro,.nil⟩
 |p::kvs,_,r=>by
  rw[aQ]at r;cases r with
  | @cons a b as bs h t=>
   obtain⟨rs,c,q⟩:=sg (P:=P) (w:=w) t;obtain⟨b1,b2⟩:=b;exact⟨(p.1,b2)::rs,⟨fi h.1,rfl,c⟩,.cons ⟨rfl,h.2⟩ q⟩
noncomputable def DL(trs:List (TE×TE)):TE:=λσ H Q=>∀p,H p=none->kY trs σ (upd H p (.dK [])) λps H2=>H2 p=some (.dK [])/\∃kvs:List (Key×V),ps=kvs.map (λkv=>(kV kv.1,kv.2))/\kvs.length<=15/\Q (.ref p) (upd H2 p (.dK (eX [] kvs)))
theorem y7{X:Cx}{pos:Pos}{keys:List (Option Expr)}{values:List Expr}{trs:List (TE×TE)}(h:PPs X pos keys values trs)(hall:keys.all (·.isSome)=true)(hl:keys.length=values.length)(h0:keys≠[])
  (h15:keys.length<=15):PE X (.Dict keys values pos) (DL trs):=by
 intro pins s σ H Q I q;have hn:=I.hok.fresh (ay s.heap.objs.size);have I1:=I.laid (a:=s.heap.objs.size) (o:=.dK []) (h':=s.heap.push {cls:=.type "dict",data:=.dict #[]}) (t':=s.toks) (λ_ _ q=>Heap.get?_push_of_some _ q) (ay _) (oV s.heap I.big);refine wpAny_Dict_walk (knd:=zv X.prog X.w) hall hl h0 h15 (thn (h pins _ σ _ _ I1 (q _ hn)) λws s2 ⟨ps,H2,I2,rel,e,kvs,ep,lk,q2⟩=>?_);subst ep;obtain⟨rs,c,rk⟩:=sg (P:=X.prog) (w:=X.w) rel;obtain⟨z,hd,vs0,r0,dd⟩:=gy I2.hok e;cases r0;refine⟨rs,c,dd,λh' dd' hs=>⟨.ref s.heap.objs.size,_,?_,rfl,q2⟩⟩;have hz:(eX [] kvs).length<=sizeLine:=by
  have h1:=lg kvs [];rw[List.length_nil]at h1;rw[aV];lia
 have he:∃q,h'.get? s.heap.objs.size=some q:=let ⟨q,_,_,hq,_⟩:=dd';⟨q,hq⟩
 exact jC I2 (by rw[e];exact True.intro) hs he (jZ hz hd (rk.merge .nil) dd')
structure M1(X:Cx)(o:Expr)(m:Str)(apos:Pos)(e:Expr)(cpos:Pos):Prop where
 base:attributeBase o m X.env (eval o X.env)=eval o X.env
 few:((backTo cpos (aL [e] X.env)).all (λx=>!x.1)&&(backToKw cpos (keywordEach [] X.env)).all (λx=>x.1.isSome)
  && decide (([e]:List Expr).length+([]:List Keyword).length+(if ([]:List Keyword).isEmpty then 0 else 1)<30))=true
 line:(apos.endLine==cpos.line)=true
 trees:backTo cpos (aL [e] X.env)=[(false,eval e X.env)]
structure M2(X:Cx)(o:Expr)(m:Str)(apos:Pos)(e f:Expr)(cpos:Pos):Prop where
 base:attributeBase o m X.env (eval o X.env)=eval o X.env
 few:((backTo cpos (aL [e,f] X.env)).all (λx=>!x.1)&&(backToKw cpos (keywordEach [] X.env)).all (λx=>x.1.isSome)
  && decide (([e,f]:List Expr).length+([]:List Keyword).length+(if ([]:List Keyword).isEmpty then 0 else 1)<30))=true
 line:(apos.endLine==cpos.line)=true
 trees:backTo cpos (aL [e,f] X.env)=[(false,eval e X.env),(false,eval f X.env)]
noncomputable def IsD(H:Hp)(a:Addr):Prop:=(∃kvs,Rd H a (.dK kvs))\/∃kvs,Rd H a (.dT kvs)
theorem mH{X:Cx}{pins:List (Addr×Obj)}{σ:St}{H:Hp}{s:af}{a:Addr}(I:Inv X pins σ H s)(d:IsD H a) :
  s.TypeIs (.ref a) "dict"/\(∀b,aW a=.ref b->∃ob,s.heap.get? b=some ob/\ob.dict=none)/\(a==sysModules)=false:=by
 rcases d with ⟨kvs,e⟩|⟨kvs,e⟩
 ·obtain⟨_,hd,vs,_,dd⟩:=fE I.hok e;refine⟨dd.typeIs,λb q=>?_,hd⟩;cases q;obtain⟨ob,_,_,h1,h2,_⟩:=dd;exact⟨ob,h1,h2.2.1⟩
 ·obtain⟨_,hd,xs,_,dd⟩:=fo I.hok e;refine⟨dd.typeIs,λb q=>?_,hd⟩;cases q;obtain⟨ob,_,_,h1,h2,_⟩:=dd;exact⟨ob,h1,h2.2.1⟩
section
variable{X:Cx}{pins:List (Addr×Obj)}{σ:St}{H:Hp}{s:af}{a:Addr}{y d:V}{u r:ae}{o:Option V}{A:ax}{E:ae->af->Prop}
theorem xk{Q:ae->af->Prop}(hu:A.units+1<cLine)(I:Inv X pins σ H s)(g:cW H a y o)(ry:RelV y u)(h:∀w' s',Inv X pins σ H s'->RelV (o.getD .non) w'->Q w' s') :
  ai (aj X.prog X.w) A (call (.builtin "dict.get") [.ref a,u]) Q E s:=by
 rcases g with ⟨kvs,k,e,ey,l⟩|⟨kvs,k,b,e,ey,eb,l⟩
 ·subst ey;obtain⟨z,hd,vs,rel,dd⟩:=fE I.hok e;refine call_meetsIn PySem.F.slot_dict_get dd.typeIs PySem.F.entry_dict_get (PySem.F.args_dict_get_2 _ _) (meets_dict_get (zv X.prog X.w) a (fi ry) hd) ⟨_,dd.mapOf,h _ _ (I.tok _) ?_⟩;rw[l];exact(rel.val k).getD rfl
 ·subst ey;cases (show u=aW b from ry);obtain⟨z,hd,xs,rel,dd⟩:=fo I.hok e;refine call_meetsIn PySem.F.slot_dict_get dd.typeIs PySem.F.entry_dict_get (PySem.F.args_dict_get_2 _ _) (meetsH_dict_get (tupleKind (zv X.prog X.w)) a b hd) ⟨tupleKind_room_in1 hu,k,xs,fS I.hok eb,dd,h _ _ (I.tok _) ?_⟩;rw[l];exact(rel.val k).getD rfl
theorem tG{Q:ae->af->Prop}(hu:A.units+1<cLine)(I:Inv X pins σ H s)(g:cW H a y o)(ry:RelV y u)(rd:RelV d r)(h:∀w' s',Inv X pins σ H s'->RelV (o.getD d) w'->Q w' s') :
  ai (aj X.prog X.w) A (call (.builtin "dict.get") [.ref a,u,r]) Q E s:=by
 rcases g with ⟨kvs,k,e,ey,l⟩|⟨kvs,k,b,e,ey,eb,l⟩
 ·subst ey;obtain⟨z,hd,vs,rel,dd⟩:=fE I.hok e;refine call_meetsIn PySem.F.slot_dict_get dd.typeIs PySem.F.entry_dict_get (PySem.F.args_dict_get_3 _ _ _) (meets_dict_get_default (zv X.prog X.w) a (fi ry) hd r) ⟨_,dd.mapOf,h _ _ (I.tok _) ?_⟩;rw[l];exact(rel.val k).getD rd
 ·subst ey;cases (show u=aW b from ry);obtain⟨z,hd,xs,rel,dd⟩:=fo I.hok e;refine call_meetsIn PySem.F.slot_dict_get dd.typeIs PySem.F.entry_dict_get (PySem.F.args_dict_get_3 _ _ _) (meetsH_dict_get_default (tupleKind (zv X.prog X.w)) a b hd r) ⟨tupleKind_room_in1 hu,k,xs,fS I.hok eb,dd,h _ _ (I.tok _) ?_⟩;rw[l];exact(rel.val k).getD rd
end
noncomputable def ED(td ty:TE):TE:=λσ H Q=>td σ H λx H1=>∃a,x=.ref a/\IsD H1 a/\ty σ H1 λy H2=>∃o,cW H2 a y o/\Q (o.getD .non) H2
noncomputable def vQ(td ty tx:TE):TE:=λσ H Q=>td σ H λx H1=>∃a,x=.ref a/\IsD H1 a/\ty σ H1 λy H2=>tx σ H2 λz H3=>∃o,cW H3 a y o/\Q (o.getD z) H3
section
variable{X:Cx}{o e f:Expr}{apos cpos:Pos}{td ty tx:TE}
theorem xP(hu:X.A.units+1<cLine)(ho:PE X o td)(he:PE X e ty)(m:M1 X o "get" apos e cpos):PE X (.Call (.Attribute o "get" apos) [e] [] cpos) (ED td ty):=by
 intro pins s σ H Q I h;refine wpAny_Call_method m.base m.few m.line PySem.F.plainAttrs_dict PySem.F.slot_dict_get PySem.F.type_dict_get (thn (ho pins s σ H _ I h) λu s1 ⟨x,H1,I1,rx,a,ex,d,q1⟩=>?_);subst ex;obtain rfl:u=aW a:=rx;obtain⟨t1,t2,_⟩:=mH I1 d;refine⟨t1,t2,?_⟩;rw[m.trees];refine Calls.callWith_builtin rfl (Calls.evalArgs_plain (Calls.spliced_cons (thn (he pins s1 σ H1 _ I1 q1) λiv s2 ⟨y,H2,I2,ry,ov,g,q2⟩=>Calls.spliced_nil ?_)));exact xk hu I2 g ry λw' s3 I3 rw'=>⟨_,H2,I3,rw',q2⟩
theorem yN(hu:X.A.units+1<cLine)(ho:PE X o td)(he:PE X e ty)(hf:PE X f tx)(m:M2 X o "get" apos e f cpos):PE X (.Call (.Attribute o "get" apos) [e,f] [] cpos) (vQ td ty tx):=by
 intro pins s σ H Q I h;refine wpAny_Call_method m.base m.few m.line PySem.F.plainAttrs_dict PySem.F.slot_dict_get PySem.F.type_dict_get (thn (ho pins s σ H _ I h) λu s1 ⟨x,H1,I1,rx,a,ex,d,q1⟩=>?_);subst ex;obtain rfl:u=aW a:=rx;obtain⟨t1,t2,_⟩:=mH I1 d;refine⟨t1,t2,?_⟩;rw[m.trees];refine Calls.callWith_builtin rfl (Calls.evalArgs_plain (Calls.spliced_cons (thn (he pins s1 σ H1 _ I1 q1) λiv s2 ⟨y,H2,I2,ry,q2⟩=>
  Calls.spliced_cons (thn (hf pins s2 σ H2 _ I2 q2) λfv s3 ⟨z,H3,I3,rz,ov,g,q3⟩=>Calls.spliced_nil ?_))))
 exact tG hu I3 g ry rz λw' s4 I4 rw'=>⟨_,H3,I4,rw',q3⟩
end
section
variable{X:Cx}{pins:List (Addr×Obj)}{σ:St}{H:Hp}{s:af}{a:Addr}{kvs:List (Key×V)}{A:ax}{E:ae->af->Prop}
end
section
variable{X:Cx}{pins:List (Addr×Obj)}{σ:St}{H:Hp}{s:af}{a:Addr}{y:V}{u:ae}{A:ax}{E:ae->af->Prop}
end
section
variable{X:Cx}
end
end L2
namespace HT
open PySem PySem.Spec PyProof.Rows L2
section
variable{prog:aw}{w:au}{A:ax}{E:ae->af->Prop}{s:af}
theorem s_{l:Addr}{its:Array ae}{Q:List ae->af->Prop}(ht:IsTup s.heap l its)(hz:its.size<=aH)
  (h:Q its.toList {s with heap:=(s.heap.push (aY "list" #[] 0)).update s.heap.objs.size (bH (· ++ its))}) :
  ai (aj prog w) A (collect (.ref l)) Q E s:=by
 obtain⟨o,ho,hc,n,hd⟩:=id ht;unfold collect;apply ah;apply wpAny_runValue;apply codeAny_builtin entry_proto_collect';show ai _ _ (do again (.builtin "list.__iadd__" ⟨[<-newList [],.ref l],[]⟩)) _ _ s;apply ah;refine wpAny_newList (hsz:=cf _) ?_;refine aC ⟨Code.quiet_builtin _ (by decide +kernel),?_⟩;apply codeAny_builtin entry_list_iadd';show ai _ _ (Builtin.List.listExtendWith (.ref s.heap.objs.size) (.ref l) (.ref s.heap.objs.size)) _ _ ({s with heap:=s.heap.push (aY "list" #[] 0)}:af);have hS:(s.heap.push (aY "list" #[] 0)).get? s.heap.objs.size=some (aY "list" #[] 0):=Heap.get?_push_size _ rfl;have hT:=Heap.get?_push_of_some (aY "list" #[] 0) ho;unfold Builtin.List.listExtendWith;apply ah;refine wpAny_typeOf (T:="tuple") ⟨o,hT,hc⟩ ?_;rw[if_pos (by simp)];apply ah;refine listItems_at hT hd ?_;apply ah;refine listItems_at hS rfl ?_;rw[if_neg (by simp)];apply ah;refine listUpdate_at hS rfl ?_ (cf _) (by show (#[]++its).size<=aH+1;rw[Array.size_append];show 0+its.size<=_;lia);apply aC;show ai (aj prog w) A (load s.heap.objs.size>>=λo=>match o.data with
  | .seq xs _=>pure xs.toList
  |_=>unsupported "internal:collect") Q E _
 apply ah;refine wpAny_load (get?_update_seq hS _) ?_;show ai _ _ (pure ((#[]:Array ae)++its).toList) Q E _;rw[show ((#[]:Array ae)++its).toList=its.toList by simp];exact aC h
theorem Aw{l:Addr}{vs:List ae}{ns:List Int}{Q:ae->af->Prop}(ht:IsTup s.heap l vs.toArray)(hI:ba vs ns)(h64:vs.length<64)
  (h:∀(out:Array ae) (ns':List Int),ba out.toList ns'->ns'.Perm ns->ns'.Pairwise (·<=·)->Q (.ref (s.heap.objs.size+1)) {s with heap:=sortedAll s.heap vs out}) :
  ai (aj prog w) A (call (.builtin "sorted") [.ref l]) Q E s:=by
 refine Calls.call_function_entry kind_sorted plain_sorted entry_sorted (args_sorted1 _) ?_;unfold Builtin.«sorted»;apply ah (m:=checkCount "sorted" 1 1 _);apply aC;apply ah;refine s_ ht (by rw[aP,aV];lia) ?_;apply ah;refine wpAny_newList (hsz:=by rw[aV];show vs.length<=_;lia) ?_;have hz:((s.heap.push (aY "list" #[] 0)).update s.heap.objs.size (bH (· ++ vs.toArray))).objs.size=s.heap.objs.size+1:=by rw[Heap.size_update,size_push']
 have hL:(((s.heap.push (aY "list" #[] 0)).update s.heap.objs.size (bH (· ++ vs.toArray))).push (aY "list" vs.toArray 0)).get? (s.heap.objs.size+1)=some (aY "list" vs.toArray 0):=hz▸Heap.get?_push_size _ rfl;show ai _ _ _ _ _ ({s with heap:=((s.heap.push (aY "list" #[] 0)).update s.heap.objs.size (bH (· ++ vs.toArray))).push (aY "list" vs.toArray 0)}:af);rw[hz];apply ah;apply wpAny_holding;refine dj slot_list_sort ⟨_,hL,rfl⟩ entry_list_sort (list_sort_tree hL hI h64 λout ns' a1 a2 a3=>⟨_,rfl,?_⟩) (args_list_sort _);exact aC ⟨_,rfl,h out ns' a1 a2 a3⟩
end
end HT
namespace L2
open PySem PySem.Spec PyProof.Rows
variable{X:Cx}
noncomputable def wo(K:aq):List V->Hp->VK->Prop:=λvs H Q=>∃(l:Addr) (ns:List Int),vs=[.ref l]/\SqT K H l (ns.map V.int)/\ns.length<64/\∀(D:Addr) (ms:List Int),H D=none->ms.Perm ns->ms.Pairwise (·<=·)->Q (.ref D) (upd H D (.lst (ms.map V.int)))
theorem Cs:zt X (.builtin "sorted") (wo X.K):=by
 intro pins s σ H xs us Q I r ⟨l,ns,e,hl,h64,q⟩;subst e;obtain⟨u,rfl,ru⟩:=r.one;cases ru;obtain⟨its,rv,ht,hz⟩:=I.tuple hl;have hI:=intsAre_of rv;have hle:=ba.length hI;refine HT.Aw ht hI (by rw[hle];exact h64) λout ns' a1 a2 a3=>?_
 obtain⟨c,hc⟩:=sortedAll_at s.heap its out;have keep:∀b o,s.heap.get? b=some o->(sortedAll s.heap its out).get? b=some o:=λb o e=>sortedAll_old e
 have hn:H (s.heap.objs.size+1)=none:=I.hok.fresh (Nat.le_succ _);have hl':ns'.length=ns.length:=a2.length_eq;exact⟨.ref (s.heap.objs.size+1),_,I.laid (t':=s.toks) (o:=.lst (ns'.map V.int)) keep (Nat.le_succ _) ⟨by rw[aF,aV];lia,out.toList,c,jB a1,by rw[Array.toArray_toList];exact hc⟩,rfl,q _ ns' hn a2 a3⟩
noncomputable def bj(kvs:List (Int×Int)):List (Key×V):=kvs.map λp=>(Sum.inl p.1,V.int p.2)
noncomputable def atK(kvs:List (Int×Int))(i:Int):Option Int:=(kvs.find? λp=>decide (p.1=i)).map (·.2)
noncomputable def cK(kvs:List (Int×Int))(i v:Int):List (Int×Int):=if (kvs.any λp=>decide (p.1=i))=true then kvs.map (λp=>if p.1=i then (p.1,v)else p)else kvs++[(i,v)]
noncomputable def cZ(kvs more:List (Int×Int)):List (Int×Int):=more.foldl (λacc p=>cK acc p.1 p.2) kvs
theorem rH(a i:Int):decide ((Sum.inl a:Key)=Sum.inl i)=decide (a=i):=decide_eq_decide.mpr ⟨λh=>Sum.inl.inj h,λh=>by rw[h]⟩
theorem lC(kvs:List (Int×Int))(i:Int):cX (bj kvs) (Sum.inl i)=(atK kvs i).map V.int:=by
 rw[cX,atK,bj]
 induction kvs with
 |nil=>rfl
 |cons p r ih=>
  rw[aQ,List.find?_cons,List.find?_cons];rw[show decide ((Sum.inl p.1,V.int p.2).fst=(Sum.inl i:Key))=decide (p.1=i)from rH p.1 i];cases decide (p.1=i)with
  |true=>rfl
  |false=>exact ih
theorem oY(kvs:List (Int×Int))(i:Int):((bj kvs).any λkv=>decide (kv.1=Sum.inl i))=kvs.any λp=>decide (p.1=i):=by
 rw[bj,List.any_map]
 congr 1
 funext p;exact rH p.1 i
theorem mF(kvs:List (Int×Int))(i:Int):(cX (bj kvs) (Sum.inl i)).isSome=kvs.any λp=>decide (p.1=i):=by
 rw[<-kH,oY]
theorem oO(kvs:List (Int×Int))(i v:Int):putK (bj kvs) (Sum.inl i) (V.int v)=bj (cK kvs i v):=by
 rw[putK,cK,oY];by_cases h:(kvs.any λp=>decide (p.1=i))=true
 ·rw[if_pos h,if_pos h,bj,bj,bF,bF];refine List.map_congr_left λp _=>?_
  show (if (Sum.inl p.1:Key)=Sum.inl i then ((Sum.inl p.1:Key),V.int v)else (Sum.inl p.1,V.int p.2))=_;by_cases e:p.1=i
  ·rw[if_pos (by rw[e])];show _=((Sum.inl (if p.1=i then (p.1,v)else p).1:Key),V.int (if p.1=i then (p.1,v)else p).2)
   rw[if_pos e]
  ·rw[if_neg (λz=>e (Sum.inl.inj z))];show _=((Sum.inl (if p.1=i then (p.1,v)else p).1:Key),V.int (if p.1=i then (p.1,v)else p).2)
   rw[if_neg e]
 ·rw[if_neg h,if_neg h,bj,bj,List.map_append];rfl
theorem pK:∀(ms kvs:List (Int×Int)),eX (bj kvs) (bj ms)=bj (cZ kvs ms)
 | [],kvs=>rfl
 |p::r,kvs=>by
  show eX (putK (bj kvs) (Sum.inl p.1) (V.int p.2)) (bj r)=_;rw[oO,pK r];rfl
theorem l6(kvs:List (Int×Int)):(bj kvs).length=kvs.length:=aF ..
section
variable{X:Cx}
noncomputable def Ez:V->List V->Hp->VK->Prop:=λx vs H Q=>∃a b ks ms,x=.ref a/\vs=[.ref b]/\a≠b/\H a=some (.dK ks)/\H b=some (.dK ms)/\ks.length+ms.length<=aH/\Q .non (upd H a (.dK (eX ks ms)))
theorem DG:MtM X "dict.update" Ez:=by
 intro pins s σ H x vs v us Q I rx rv h;obtain⟨a,b,ks,ms,rfl,rfl,hab,ha,hb,hz,q⟩:=h;cases rx;obtain⟨u,rfl,ru⟩:=rv.one;cases ru;obtain⟨z,hd,vs,rel,dd⟩:=gy I.hok ha;obtain⟨z2,hd2,vs2,rel2,dd2⟩:=gy I.hok hb;refine call_meetsIn PySem.F.slot_dict_update dd.typeIs PySem.F.entry_dict_update (PySem.F.args_dict_update_2 _ _) (meets_dict_update (zv X.prog X.w) a b hab hd2)
  ⟨vs,vs2,dd,dd2,by rw[<-rel.length,<-rel2.length];exact hz,λh' dd' _ hs=>?_⟩
 have he:∃q,h'.get? a=some q:=let ⟨q,_,_,hq,_⟩:=dd';⟨q,hq⟩
 have hl:(eX ks ms).length<=sizeLine:=a_ (lg ms ks) hz;exact⟨.non,_,jC (t':=s.toks) I (by rw[ha];exact True.intro) hs he (jZ hl hd (rel2.merge rel) dd'),rfl,q⟩
noncomputable def sV:List V->Hp->VK->Prop:=λvs H Q=>∃(l:Addr) (kvs:List (Int×Int)),vs=[.ref l]/\H l=some (.dK (bj kvs))/\kvs.length<64/\∀(D:Addr) (ms:List Int),H D=none->ms.Perm (kvs.map (·.1))->ms.Pairwise (·<=·)->Q (.ref D) (upd H D (.lst (ms.map V.int)))
theorem lA{P:aw}{w:au}:∀{ks:List (Int×Int)}{vs:List (Key×ae)}{xs:List ae},KV (bj ks) vs->xs.length=vs.length->(∀(j:Nat) (v:ae),xs[j]? = some v->∃k x,vs[j]? = some (k,x)/\(zv P w).is k v=true)->ba xs (ks.map (·.1))
 | [],vs,xs,r,hl,h=>by
  cases r;cases xs with
  |nil=>exact .nil
  |cons _ _=>cases hl
 |p::ks,vs,xs,r,hl,h=>by
  cases r with
  | @cons a b as bs h1 t=>
   cases xs with
   |nil=>cases hl
   |cons x xs=>
    obtain⟨k,y,e1,e2⟩:=h 0 x rfl;cases e1;obtain⟨z1,_⟩:=h1;have z1:Sum.inl p.1=k:=z1;subst z1;obtain⟨tk,rfl⟩:∃t,x=ae.int p.1 t:=ae.isInt_shape (k:=p.1) (v:=x) e2;exact .cons _ _ (lA t (by simpa using hl) λj v e=>h (j+1) v e)
theorem yz{prog:aw}{w:au}{A:ax}{E:ae->af->Prop}{s:af}{T:String}{r d:Addr}{n:Nat}{P:Nat->ae->Prop}{OK:Heap->Prop}{R:List ae->af->Prop}(K:PySem.W.KdlSrc prog w T r d n P OK)(hh:A.handled=none)(hok:OK s.heap)(hn:n<=aH)
  (h:∀(h':Heap) (tk:Nat) (acc:Array ae),s.heap.objs.size<h'.objs.size->(∀b o,s.heap.get? b=some o->h'.get? b=some o)->ItemsOf P acc n->R acc.toList {s with heap:=h',toks:=tk}) :
  ai (aj prog w) A (collect (.ref r)) R E s:=by
 have hlt:=K.there _ hok;unfold collect;refine ah (wpAny_runValue (codeAny_builtin F.entry_proto_collect ?_));rw[ax.under_plainId F.plain_proto_collect _];show ai _ A.in1 (newList []>>=λl=>again (.builtin "list.__iadd__" ⟨[l,.ref r],[]⟩)) _ _ s;refine ah (wpAny_newObj_type ?_);refine aC ⟨plainId_quiet F.plain_list_iadd _,codeAny_builtin F.entry_list_iadd ?_⟩;rw[ax.under_plainId F.plain_list_iadd _];have hS:(s.heap.push {cls:=.type "list",data:=.seq ([]:List ae).toArray}).get? s.heap.objs.size=some {cls:=.type "list",data:=.seq #[]}:=Heap.get?_push_size _ rfl;show ai _ A.in1 (Builtin.List.listExtendWith (.ref s.heap.objs.size) (.ref r) (.ref s.heap.objs.size)) _ _ _;refine bL (PySem.W.kdl_extend (A:=A) (R:=λq s'=>∃h' tk acc c,q=.ok (.ret (.ref s.heap.objs.size))/\s'={s with heap:=h',toks:=tk}/\(∀b o,s.heap.get? b=some o->h'.get? b=some o)/\h'.get? s.heap.objs.size=some {cls:=.type "list",data:=.seq acc c}/\ItemsOf P acc n)
  K hh (K.keep _ _ hok λb _ o e=>Heap.get?_push_of_some _ e) _ (Nat.ne_of_gt hlt.1) (Nat.ne_of_gt hlt.2) (.ref s.heap.objs.size) 0 hS
  (λh' tk acc c k1 k2 k3=>⟨h',tk,acc,c,rfl,rfl,λb o e=>k1 b o (aU (aG e)) (Heap.get?_push_of_some _ e),k2,k3⟩) hn) (λf s' x=>?_) λe s' x=>?_
 ·have fin:∀{q:Result}{s':af},(∃h' tk acc c,q=.ok (.ret (.ref s.heap.objs.size))/\s'={s with heap:=h',toks:=tk}/\(∀b o,s.heap.get? b=some o->h'.get? b=some o)/\h'.get? s.heap.objs.size=some {cls:=.type "list",data:=.seq acc c}/\ItemsOf P acc n)->∃u,q=.ok (.ret u)/\ai (aj prog w) A (match (u:ae)with|aW a=>load a>>=λo=>(match o.data with | .seq xs _=>pure xs.toList|_=>unsupported "internal:collect")|_=>unsupported "internal:collect") R E s':=by
   rintro q s' ⟨h',tk,acc,c,rfl,rfl,k1,k2,k3⟩;exact⟨_,rfl,ah (wpAny_load k2 (aC (h h' tk acc (aG k2) k1 k3)))⟩
  cases f with
  |done f=>
   obtain⟨u,e,z⟩:=fin x;cases e;exact z
  |again c=>
   refine⟨x.1,codeAny_mono x.2 λq s2 y=>?_⟩;obtain⟨u,rfl,z⟩:=fin y;exact z
 ·obtain⟨_,_,_,_,z,_⟩:=x;cases z
theorem wI(hc:X.calm=true):zt X (.builtin "sorted") sV:=by
 intro pins s σ H xs us Q I r ⟨l,kvs,e,hl,h64,q⟩;subst e;obtain⟨u,rfl,ru⟩:=r.one;cases ru;obtain⟨z,hd,vs,rel,dd⟩:=gy I.hok hl;obtain⟨ep,hat⟩:=dd.dictAt;have hlen:vs.length=kvs.length:=by rw[<-rel.length];exact aF ..
 have hn:vs.length<=sizeLine:=by rw[aV];lia
 refine Calls.call_function_entry kind_sorted plain_sorted entry_sorted (args_sorted1 _) ?_;unfold Builtin.«sorted»;refine ah (m:=checkCount "sorted" 1 1 _) (aC ?_);refine ah (yz (A:=X.A.in1) (PySem.W.kdl_dict (knd:=zv X.prog X.w) (kvs:=vs) (ep:=ep) hd) (I.ok.hd hc) hat hn λh' tk acc hsz hk hacc=>?_);have hla:acc.toList.length=vs.length:=by rw[Array.length_toList];exact hacc.1
 have hI:ba acc.toList (kvs.map (·.1)):=lA (P:=X.prog) (w:=X.w) rel hla λj v e=>hacc.2 j v (by rw[<-Array.getElem?_toList];exact e)
 refine ah (wpAny_newList ?_ (by rw[hla];exact hn));have hL:(h'.push (aY "list" acc.toList.toArray 0)).get? h'.objs.size=some (aY "list" acc.toList.toArray 0):=Heap.get?_push_size _ rfl;refine ah (wpAny_holding ?_);refine dj slot_list_sort ⟨_,hL,rfl⟩ entry_list_sort (list_sort_tree hL hI (by rw[hla,hlen];exact h64) λout ns' a1 a2 a3=>⟨_,rfl,?_⟩) (args_list_sort _);obtain⟨c,hc⟩:=sortedHeap_at (out:=out) hL;have hle:=ba.length a1;refine aC ⟨_,rfl,.ref h'.objs.size,_,I.laid (t':=tk) (o:=.lst (ns'.map V.int)) (λb o e=>?_) (Nat.le_of_lt hsz) ⟨by rw[aF,a2.length_eq,aF,aV];lia,out.toList,c,jB a1,by rw[Array.toArray_toList];exact hc⟩,rfl,q _ ns' (I.hok.fresh (Nat.le_of_lt hsz)) a2 a3⟩;have e1:=hk b o e;have hb:=aG e1;show (sortedHeap _ _ _ _).get? b=some o;rw[sortedHeap_old (aU hb) (by rw[bQ];exact Nat.lt_succ_of_lt hb)];exact Heap.get?_push_of_some _ e1
theorem sG(hu:X.A.units+64<cLine):OpR X (aR .In) (λx y H Q=>∃a kvs i,y=.ref a/\x=.int i/\H a=some (.dK (bj kvs))/\Q (.bl (kvs.any λp=>decide (p.1=i))) H):=by
 intro pins s σ H x y v u Q I rx ry ⟨a,kvs,i,e1,e2,ha,q⟩;subst e1 e2;obtain rfl:u=aW a:=ry;refine uc (by lia) I (cW.k (k:=Sum.inl i) ha) rx λs' I'=>⟨.bl _,H,I',rfl,?_⟩
 rw[mF];exact q
theorem Ap(hu:X.A.units+64<cLine):OpR X (aR .NotIn) (λx y H Q=>∃a kvs i,y=.ref a/\x=.int i/\H a=some (.dK (bj kvs))/\Q (.bl (!kvs.any λp=>decide (p.1=i))) H):=by
 intro pins s σ H x y v u Q I rx ry ⟨a,kvs,i,e1,e2,ha,q⟩;subst e1 e2;obtain rfl:u=aW a:=ry;refine tm (by lia) I (cW.k (k:=Sum.inl i) ha) rx λs' I'=>⟨.bl _,H,I',rfl,?_⟩
 rw[mF];exact q
theorem BX{prog:aw}{w:au}{A:ax}{E:ae->af->Prop}{s:af}{e b:Expr}{o i:ae}{T id:String}{Q:ae->af->Prop}(hT:s.TypeIs o T)(hl:typeLookup (.type T) "__getitem__" = pure (some (.builtin id)))
  (h:ai (aj prog w) A (getItem o i) Q E s) (hs:subscripted b false o i=operate [o,i] (getItem o i)):ai (aj prog w) A (subscriptTail e b o i) Q E s:=by
 unfold subscriptTail;refine ah ?_;rw[getitemInPython_of_ne hT.not_modules];refine ah (wpAny_specialOf hT hl ?_);have fin:ai (aj prog w) A (subscripted b false o i) (λr s'=>ai (aj prog w) A (letTemporaryGo e o r>>=λ_=>pure r) Q E s') E s:=by
  rw[hs];exact wpAny_operating (bL h (λr s' z=>ah (wpAny_letTemporaryGo (aC z))) λ_ _ x=>x)
 first
  |exact aC (ah fin)
  |exact ah (aC (ah fin))
  |exact ah fin
noncomputable def pD:R2:=λx y H Q=>∃a kvs i v,x=.ref a/\y=.int i/\H a=some (.dK (bj kvs))/\atK kvs i=some v/\Q (.int v) H
theorem wC(hu:X.A.units+64<cLine):IxR X pD:=by
 intro value slice pins s σ H x y v u Q I rx ry ⟨a,kvs,i,z,e1,e2,ha,he,q⟩ hs;subst e1 e2;obtain rfl:v=aW a:=rx;have g:cW H a (.int i) (some (.int z)):=by
  have:=cW.k (k:=Sum.inl i) ha;rw[lC,he]at this;exact this
 exact BX (DD I g) PySem.F.slot_dict_getitem.lookup (wN (by lia) I g ry λw' s' I' rw'=>⟨_,H,I',rw',q⟩) hs
theorem gk.or{r r':V->V->V->Hp->(Hp->Prop)->Prop}(h:gk X r)(h':gk X r'):gk X (λx y v H Q=>r x y v H Q\/r' x y v H Q):=by
 intro pins s σ H o i v ov iv u Q I ro ri rv q;rcases q with q|q
 ·exact h pins s σ H o i v ov iv u Q I ro ri rv q
 ·exact h' pins s σ H o i v ov iv u Q I ro ri rv q
noncomputable def ng:V->V->V->Hp->(Hp->Prop)->Prop:=λo i v H Q=>∃a kvs k z,o=.ref a/\i=.int k/\v=.int z/\H a=some (.dK (bj kvs))/\kvs.length<aH/\Q (upd H a (.dK (bj (cK kvs k z))))
theorem y_(hu:X.A.units+64<cLine):gk X ng:=by
 intro pins s σ H o i v ov iv u Q I ro ri rv ⟨a,kvs,k,z,e1,e2,e3,ha,hz,q⟩;subst e1 e2 e3;obtain rfl:ov=aW a:=ro;refine uy (by lia) I (jb.k (k:=Sum.inl k) (v:=.int z) ha (by rw[l6];exact hz)) ri rv λs' I'=>⟨_,I',?_⟩
 rw[oO];exact q
noncomputable def Cy:List V->Hp->VK->Prop:=λvs H Q=>∃(l:Addr) (kvs:List (Int×Int)),vs=[.ref l]/\H l=some (.dK (bj kvs))/\∀D,H D=none->Q (.ref D) (upd H D (.lst (kvs.map λp=>V.int p.1)))
theorem uI(hc:X.calm=true):zt X (.type "list") Cy:=by
 intro pins s σ H xs us Q I r ⟨l,kvs,e,hl,q⟩;subst e;obtain⟨u,rfl,ru⟩:=r.one;cases ru;obtain⟨z,hd,vs,rel,dd⟩:=gy I.hok hl;obtain⟨ep,hat⟩:=dd.dictAt;have hlen:vs.length=kvs.length:=by rw[<-rel.length];exact aF ..
 have hn:vs.length<=sizeLine:=by rw[<-rel.length];exact z
 refine PySem.W.kdl_call (PySem.W.kdl_dict (knd:=zv X.prog X.w) (kvs:=vs) (ep:=ep) hd) (I.ok.hd hc) hat hn λh' tk acc c k1 k2 k3=>?_
 have hla:acc.toList.length=vs.length:=by rw[Array.length_toList];exact k3.1
 have hI:ba acc.toList (kvs.map (·.1)):=lA (P:=X.prog) (w:=X.w) rel hla λj v e=>k3.2 j v (by rw[<-Array.getElem?_toList];exact e)
 have hn':H s.heap.objs.size=none:=I.hok.fresh (ay _);have e:(kvs.map λp=>V.int p.1)=(kvs.map (·.1)).map V.int:=by rw[bF];rfl
 refine⟨.ref s.heap.objs.size,_,I.laid (t':=tk) (o:=.lst ((kvs.map (·.1)).map V.int)) k1 (ay _) ⟨by rw[aF,aF,<-hlen];exact hn,acc.toList,c,jB hI,by rw[Array.toArray_toList];exact k2⟩,rfl,?_⟩;rw[<-e];exact q _ hn'
end
noncomputable def iD(kX:Str->Option aN)(NX NY:List Str)(cap:List (Option Nat))(scope:aO):Bool:=
 (scope.kind==.function)&&(scope.names.all λy=>(y.2 != .cell||scope.names.lookup y.1==some .cell)&&(y.2 != .local||scope.names.lookup y.1==some .local)&&(y.2 != .free||kX y.1==some .cell||kX y.1==some .free)) &&
 (cap.length==NY.length)&&(a8 cap.length).all λi=>match cap[i]? with
  |some (some j)=>(match NY[i]?,NX[j]? with
   |some x,some y=>x==y&&scope.names.lookup x==some .free&&(kX x==some .cell||kX x==some .free)
   |_,_=>false)
  |_=>true
theorem dW.of{X:Cx}{NY:List Str}{cap:List (Option Nat)}{scope:aO}(h:iD X.env.kindOf X.N NY cap scope=true):dW X NY cap scope:=by
 unfold iD at h;simp only[aI,List.all_eq_true,beq_iff_eq]at h;obtain⟨⟨⟨h1,h2⟩,h3⟩,h4⟩:=h;refine⟨h1,λy hy e=>?_,λy hy e=>?_,λy hy e=>?_,h3,λi j hc=>?_⟩
 ·have:=(h2 y hy).1.1;rw[e]at this
  simpa using this
 ·have:=(h2 y hy).1.2;rw[e]at this
  simpa using this
 ·have:=(h2 y hy).2;rw[e]at this
  simpa using this
 ·have hi:i<cap.length:=(List.getElem?_eq_some_iff.mp hc).1;have:=h4 i (List.mem_range.mpr hi);rw[hc]at this;dsimp only at this;split at this
  ·rename_i x y e1 e2
   simp only[aI,beq_iff_eq,bP]at this;obtain⟨⟨e3,e4⟩,e5⟩:=this;subst e3;exact⟨x,e1,e2,e4,e5⟩
  ·cases this
end L2
namespace WB
open PySem PySem.Spec PyProof.Rows L2
section
variable{P:aw}{w:au}{K:aq}{mg:Str->Option ae}{base:Heap}{f g:Addr}{fd gd:bC}
theorem _root_.L2.Fun.ok1{x qual:Str}{st:Stmt}{f:Addr}{fd:bC}{N ps:List Str}{k:Nat}{sp:Sp}(F:Fun K x qual st f fd)(S:gb N ps (qZ st))(len:∀vs H Q E,sp vs H Q E->vs.length=ps.length)
  (hbody:∀(cdv:ae) (A:ax) (outer:List Env) (s:af) (H:Hp) (vs:List V) (Q:VK) (E:XK),cm k (A.deeper (envOfC qual (qZ st) s.heap.objs.size f cdv))->sp vs H Q E ->
   ∃t,PSs (dS (CX1 P w) P w K mg base N qual (qZ st) f cdv A outer s H E) (dE st) t/\t {nx:=λ_ H'=>Q .non H',rt:=Q} (start N vs) H):fD P w K mg base (CX1 P w) (k+1) f fd ps sp:=by
 obtain⟨oc,od,kV,doc,pm,an,cdv,ct,osl,rfl,lk,hcd⟩:=F.ex;exact EL lk hcd S len λA outer s H vs Q E hr hsp=>hbody cdv A outer s H vs Q E hr hsp
end
noncomputable def BA(H:Hp)(ps:List Addr)(ks:List (Int×Int)):Prop:=ps.length=ks.length/\∀(i:Nat) p k,ps[i]? = some p->ks[i]? = some k->H p=some (.tup [.int k.1,.int k.2])
structure Built(H0:Hp)(acc:Addr)(ks:List (Int×Int))(H:Hp):Prop where
 ex:∃ps:List Addr,H acc=some (.lst (ps.map V.ref))/\BA H ps ks
 same:∀b o,b≠acc->H0 b=some o->H b=some o
end WB
set_option genSizeOf false
set_option genSizeOfSpec false
namespace EV
open PySem L2
inductive D where
 |non|bl (b:Bool)|int (i:Int)|str (x:Str)|tup (xs:List D)|lst (xs:List D)|fn (x:Str)|exn (c:Str)|dic (kvs:List (Int×Int))
inductive R(α:Type) where
 |ok (a:α)|ex (c:Str)|no
noncomputable def R.bind{α β:Type}:R α->(α->R β)->R β
 | .ok a,f=>f a
 | .ex c,_=>.ex c
 | .no,_=>.no
@[simp] theorem R.bind_ok{α β:Type}(a:α)(f:α->R β):(R.ok a).bind f=f a:=rfl
@[simp] theorem R.bind_ex{α β:Type}(c:Str)(f:α->R β):(R.ex c:R α).bind f=.ex c:=rfl
@[simp] theorem R.bind_no{α β:Type}(f:α->R β):(R.no:R α).bind f=.no:=rfl
inductive O2 where
 |add|sub|mul|fdiv|mod|pow|shl|shr|band|bor|bxor
 deriving DecidableEq
inductive C2 where
 |eq|ne|lt|le|gt|ge|isin|notin|is|isnot
 deriving DecidableEq
inductive B1 where
 |len|tuple|list|sorted|all|any|sum|min|max|abs|int|bool
 deriving DecidableEq
inductive Cl where
 |ty (n:String)|ex (x:Str)
 deriving DecidableEq
inductive Tg where
 |nm (i:Nat)|tp (is:List Nat)
mutual
inductive E where
 |var (i:Nat)|own (i:Nat)|con (d:D)|glb (x:Str)|fnv (x:Str)
 |op (o:O2) (a b:E)|neg (a:E)|inv (a:E)|not (a:E)|and (a b:E)|or (a b:E)
 |cmp (c:C2) (a b:E)|cmp2 (c c':C2) (a b d:E)|cmp3 (c c' c'':C2) (a b d e:E)
 |ite (t:T) (a b:E)
 |tup (es:Es)|lst (es:Es)
 |ix (a b:E)|sl (a:E) (lo hi:OE)
 |call (f:Str) (es:Es)|callE (f:E) (es:Es)
 |bi (b:B1) (es:Es)
 |rtup (a:It)|rlst (a:It)
 |isi (a:E) (c:Cl)
 |comp (it:It) (cap:List (Option Nat)) (tg:Tg) (t:T) (elt:E)
 |mth (ix:Bool) (a:E)
 |cnt (a b:E)
 |mxk (mx:Bool) (a:E)
 |dic
 |callo (f:Str) (es:Es)
 |comp2 (it:It) (cap:List (Option Nat)) (tg:Tg) (it2:It) (tg2:Tg) (t:T) (elt:E)
 |fst2 (t0:Str) (a:E) (t1:Str) (b:E) (t2:Str)
 |sset (ln:Bool) (a:E)
 |rev (a:E)
 |dic1 (a b:E)
 |dget (a b:E)
 |dget2 (a b d:E)
 |lsd (a:E)
 |lstc (f:Str) (es:Es)
inductive OE where
 |none|some (e:E)
inductive Es where
 |nil|cons (e:E) (es:Es)
inductive It where
 |seq (e:E)|rng (a:E)|rng2 (a b:E)|enum (e:E)|zip (a b:E)|rng3 (a b k:E)|rrev (a:E)
inductive T where
 |yes|val (e:E)|cmp (c:C2) (a b:E)|cmp2 (c c':C2) (a b d:E)|and (a b:T)|or (a b:T)|not (a:T)
end
noncomputable def SZ:Nat:=1000000
noncomputable def small(j:Int):Bool:=decide (-(2^64)<j)&&decide (j<2^64)
noncomputable def opI:O2->Int->Int->R D
 | .add,i,j=>.ok (.int (i+j))
 | .sub,i,j=>.ok (.int (i-j))
 | .mul,i,j=>if small i||small j then .ok (.int (i * j))else .no
 | .fdiv,i,j=>if 0<j/\j<1000000000000000000000000000000 then .ok (.int (i/j))else .no
 | .mod,i,j=>if 0<j then .ok (.int (i%j))else .no
 | .pow,i,j=>if 0<=j/\j<=1000000/\i.natAbs<2^64 then .ok (.int (i^j.toNat))else .no
 | .shl,i,j=>if 0<=j/\j<=1000000/\i.natAbs<2^64 then .ok (.int (i * 2^j.toNat))else .no
 | .shr,i,j=>if 0<=j then .ok (.int (i/2^j.toNat))else .no
 | .band,i,j=>.ok (.int (Builtin.bitAnd i j))
 | .bor,i,j=>.ok (.int (Builtin.bitOr i j))
 | .bxor,i,j=>.ok (.int (Builtin.bitXor i j))
noncomputable def bZ:D->Bool
 | .lst _=>true
 | .dic _=>true
 |_=>false
noncomputable def lj:D->Bool
 | .lst _=>true
 |_=>false
noncomputable def op2(o:O2):D->D->R D
 | .int i,.int j=>opI o i j
 | .tup xs,.tup ys=>if o=.add/\xs.length+ys.length<=SZ then .ok (.tup (xs++ys))else .no
 | .lst xs,.lst ys=>if o=.add/\xs.length+ys.length<=SZ then .ok (.lst (xs++ys))else .no
 | .lst xs,.int j=>if o=.mul/\0<=j/\xs.length * j.toNat<=SZ/\j<=1000000 then .ok (.lst (aZ j.toNat xs).flatten)else .no
 | .tup xs,.int j=>if o=.mul/\0<=j/\xs.length * j.toNat<=SZ/\j<=1000000 then .ok (.tup (aZ j.toNat xs).flatten)else .no
 |_,_=>.no
mutual
noncomputable def D.plain:D->Bool
 | .non=>true
 | .bl _=>true
 | .int _=>true
 | .str x=>PyData.strOk x
 | .tup xs=>plainAll xs
 | .lst xs=>plainAll xs
 | .fn _=>false
 | .exn _=>false
 | .dic _=>false
noncomputable def plainAll:List D->Bool
 | []=>true
 |x::xs=>x.plain&&plainAll xs
end
mutual
noncomputable def D.deep:D->Nat
 | .tup xs=>gW xs+1
 | .lst xs=>gW xs+1
 |_=>0
noncomputable def gW:List D->Nat
 | []=>0
 |x::xs=>max x.deep (gW xs)
end
mutual
noncomputable def D.eqv:D->D->Bool
 | .non,.non=>true
 | .bl a,.bl b=>a==b
 | .bl a,.int j=>(if a then 1 else 0)==j
 | .int i,.bl b=>i==(if b then 1 else 0)
 | .int i,.int j=>i==j
 | .str x,.str y=>x==y
 | .tup xs,.tup ys=>eqvAll xs ys
 | .lst xs,.lst ys=>eqvAll xs ys
 |_,_=>false
noncomputable def eqvAll:List D->List D->Bool
 | [],[]=>true
 |x::xs,y::ys=>x.eqv y&&eqvAll xs ys
 |_,_=>false
end
noncomputable def D.asks(d:D):Bool:=d.plain&&decide (d.deep<=20)
mutual
noncomputable def D.noL:D->Bool
 | .non=>true
 | .bl _=>true
 | .int _=>true
 | .str _=>true
 | .tup xs=>ke xs
 |_=>false
noncomputable def ke:List D->Bool
 | []=>true
 |x::xs=>x.noL&&ke xs
end
noncomputable def ints?:List D->Option (List Int)
 | []=>some []
 | .int i::r=>(ints? r).map (i :: ·)
 |_=>none
noncomputable def bools?:List D->Option (List Bool)
 | []=>some []
 | .bl i::r=>(bools? r).map (i :: ·)
 |_=>none
noncomputable def pairs?:List D->Option (List (Int×Int))
 | []=>some []
 | .tup [.int i,.int j]::r=>(pairs? r).map ((i,j) :: ·)
 |_=>none
noncomputable def seq?:D->Option (List D)
 | .tup xs=>some xs
 | .lst xs=>some xs
 |_=>none
noncomputable def eF:List Int->List Int->Bool
 | [],[]=>false
 | [],_::_=>true
 |_::_,[]=>false
 |a::r,b::t=>if a=b then eF r t else decide (a<b)
noncomputable def jP(c:C2)(i j:Int):Option Bool:=
 match c with
 | .lt=>some (decide (i<j))
 | .le=>some (decide (i<=j))
 | .gt=>some (decide (j<i))
 | .ge=>some (decide (j<=i))
 | .eq=>some (decide (i=j))
 | .ne=>some (!decide (i=j))
 |_=>none
noncomputable def inD(x:D)(xs:List D):Bool:=xs.any λy=>y.eqv x
noncomputable def eT:D->Bool
 | .non=>true
 |_=>false
noncomputable def isB(n:Bool):D->D->R Bool
 | .bl a,.bl b=>.ok (n != (a==b))
 |_,_=>.no
noncomputable def dg(a b:D):R Bool:=match b with
 | .dic kvs=>(match a with
  | .int i=>.ok (kvs.any λp=>decide (p.1=i))
  |_=>.no)
 |_=>.no
noncomputable def qi:C2->D->D->R Bool
 | .is,a,b=>if eT b then .ok (eT a)else isB false a b
 | .isnot,a,b=>if eT b then .ok (!eT a)else isB true a b
 | .isin,a,b=>match seq? b with
  |some xs=>if a.asks&&xs.all D.asks then .ok (inD a xs)else .no
  |none=>dg a b
 | .notin,a,b=>match seq? b with
  |some xs=>if a.asks&&xs.all D.asks then .ok (!inD a xs)else .no
  |none=>(dg a b).bind λr=>.ok (!r)
 | .eq,a,b=>if a.asks&&b.asks then .ok (a.eqv b)else .no
 | .ne,a,b=>if a.asks&&b.asks then .ok (!a.eqv b)else .no
 | .lt,.tup xs,.tup ys=>match ints? xs,ints? ys with
  |some ns,some ms=>.ok (eF ns ms)
  |_,_=>.no
 |c,.int i,.int j=>match jP c i j with
  |some b=>.ok b
  |none=>.no
 |_,_,_=>.no
noncomputable def truth:D->R Bool
 | .non=>.ok false
 | .bl b=>.ok b
 | .int i=>.ok (i != 0)
 | .tup xs=>.ok (!xs.isEmpty)
 | .lst xs=>.ok (!xs.isEmpty)
 |_=>.no
noncomputable def ixD:D->D->R D
 | .tup xs,.int i=>match atI xs i with|some d=>.ok d|none=>.no
 | .lst xs,.int i=>match atI xs i with|some d=>.ok d|none=>.no
 | .dic kvs,.int i=>match atK kvs i with|some v=>.ok (.int v)|none=>.no
 |_,_=>.no
noncomputable def cutD(xs:List D)(lo hi:Option Int):List D:=(xs.drop (HT.sIx xs.length 0 lo)).take (HT.sIx xs.length xs.length hi-HT.sIx xs.length 0 lo)
noncomputable def slD:D->Option Int->Option Int->R D
 | .lst xs,lo,hi=>.ok (.lst (cutD xs lo hi))
 |_,_,_=>.no
noncomputable def insI(i:Int):List Int->List Int
 | []=>[i]
 |j::r=>if i<=j then i::j::r else j::insI i r
noncomputable def sortI:List Int->List Int
 | []=>[]
 |i::r=>insI i (sortI r)
noncomputable def fW(p:Int×Int):List (Int×Int)->List (Int×Int)
 | []=>[p]
 |q::r=>if ltP q p then q::fW p r else p::q::r
noncomputable def zx:List (Int×Int)->List (Int×Int)
 | []=>[]
 |p::r=>fW p (zx r)
noncomputable def pairD(p:Int×Int):D:=.tup [.int p.1,.int p.2]
noncomputable def dH(d:D)(k:List D->R D):R D:=match d with | .lst xs=>k xs|_=>.no
noncomputable def ibR(d:D)(f:Int->R D)(q:Bool->R D):R D:=match d with | .int i=>f i | .bl b=>q b|_=>.no
noncomputable def iiR(d e:D)(k:Int->Int->R D):R D:=match d,e with | .int i,.int j=>k i j|_,_=>.no
noncomputable def cN{α β:Type}(o:Option α)(k:α->R β):R β:=match o with|some a=>k a|none=>.no
noncomputable def nF(p:List Int):List (List Int)->List (List Int)
 | []=>[p]
 |q::r=>if eF q p then q::nF p r else p::q::r
noncomputable def oy:List (List Int)->List (List Int)
 | []=>[]
 |p::r=>nF p (oy r)
noncomputable def eN(xs:List D):R D:=.no
noncomputable def o4(mx:Bool)(i:Int):List Int->Int
 | []=>i
 |j::r=>o4 mx (if mx then (if i<j then j else i)else (if j<i then j else i)) r
noncomputable def jm(x:D)(f:List (Int×Int)->R D):R D:=match x with
 | .dic kvs=>f kvs
 |_=>.no
noncomputable def i'(kvs:List (Int×Int))(y:D):R D:=match y with
 | .int i=>.ok (match atK kvs i with|some v=>.int v|none=>.non)
 |_=>.no
noncomputable def jH(kvs:List (Int×Int))(y z:D):R D:=match y with
 | .int i=>.ok (match atK kvs i with|some v=>.int v|none=>z)
 |_=>.no
noncomputable def nT(x:D):R D:=match x with
 | .lst xs=>.ok (.lst xs)
 | .dic kvs=>.ok (.lst (kvs.map λp=>.int p.1))
 |_=>.no
noncomputable def b11(b:B1)(d:D):R D:=match b with
 | .len=>cN (seq? d) λxs=>.ok (.int xs.length)
 | .tuple=>cN (seq? d) λxs=>.ok (.tup xs)
 | .list=>cN (seq? d) λxs=>.ok (.lst xs)
 | .all=>dH d λxs=>cN (bools? xs) λbs=>.ok (.bl (bs.all id))
 | .any=>dH d λxs=>cN (bools? xs) λbs=>.ok (.bl (bs.any id))
 | .sorted=>match d with
  | .tup xs=>if xs.length<64 then cN (ints? xs) λns=>.ok (.lst ((sortI ns).map D.int))else .no
  | .dic kvs=>if kvs.length<64 then .ok (.lst ((sortI (kvs.map (·.1))).map D.int))else .no
  |d=>dH d λxs=>if xs.length<64 then (match ints? xs with
   |some ns=>.ok (.lst ((sortI ns).map D.int))
   |none=>match pairs? xs with
    |some ps=>.ok (.lst ((zx ps).map pairD))
    |none=>eN xs)else eN xs
 | .abs=>.no
 | .int=>ibR d (λi=>.ok (.int i)) λb=>.ok (.int (if b then 1 else 0))
 | .bool=>.no
 | .min=>.no
 | .max=>.no
 | .sum=>.no
noncomputable def b12(b:B1)(d e:D):R D:=match b with
 | .min=>iiR d e λi j=>.ok (.int (if j<i then j else i))
 | .max=>iiR d e λi j=>.ok (.int (if j>i then j else i))
 |_=>.no
noncomputable def jw(ix:Bool)(x:D):R D:=dH x λxs=>cN (bools? xs) λbs=>if ix then cN (bs.findIdx? id) λj=>.ok (.int (j:Int))else .ok (.int ((bs.countP id:Nat):Int))
noncomputable def nU(ln:Bool)(d:D):R D:=.no
noncomputable def b1(b:B1):List D->R D
 | [d]=>b11 b d
 | [d,e]=>b12 b d e
 |_=>.no
noncomputable def tyD:D->Option String
 | .non=>some "NoneType"
 | .bl _=>some "bool"
 | .int _=>some "int"
 | .str _=>some "str"
 | .tup _=>some "tuple"
 | .lst _=>some "list"
 | .dic _=>some "dict"
 |_=>none
noncomputable def zY(lo:Int)(n:Nat):List D:=(a8 n).map λ(i:Nat)=>.int (lo+(i:Int))
noncomputable def hZ(lo st:Int)(n:Nat):List D:=(a8 n).map λ(i:Nat)=>.int (lo+(i:Int) * st)
noncomputable def dB:Nat->List D->List D
 |_,[]=>[]
 |k,x::r=>.tup [.int k,x]::dB (k+1) r
noncomputable def cD:List D->List D->List D
 |x::xs,y::ys=>.tup [x,y]::cD xs ys
 |_,_=>[]
noncomputable def qC(j:Int):Bool:=decide (-1000000<=j)&&decide (j<=1000000)
abbrev Env:=List (Option D)
structure W where
 call:Str->List D->R D
 glb:Str->Option D
 sub:Str->Cl->Option Bool
 cat:Str->Str->Bool
noncomputable def ck(w:W)(x:D)(c:Cl):R D:=match tyD x,c with
 |some t,.ty n=>if n = "ValueError" then .no else .ok (.bl (fX t n))
 |none,c=>match x with
  | .exn k=>match w.sub k c with|some b=>.ok (.bl b)|none=>.no
  |_=>.no
 |_,_=>.no
noncomputable def zP(τ:Env)(i:Nat):R D:=match τ[i]? with
 |some (some d)=>.ok d
 |_=>.no
noncomputable def setAll:List Nat->List D->Env->R Env
 | [],[],τ=>.ok τ
 |i::is,d::ds,τ=>setAll is ds (τ.set i (some d))
 |_,_,_=>.no
noncomputable def store:Tg->D->Env->R Env
 | .nm i,d,τ=>.ok (τ.set i (some d))
 | .tp is,.tup ds,τ=>if ds.length=is.length then setAll is ds τ else .no
 |_,_,_=>.no
noncomputable def dR(cap:List (Option Nat))(τ:Env):Env:=cap.map λo=>o.bind λj=>(τ[j]?).join
noncomputable def noEx{α:Type}:R α->R α
 | .ok a=>.ok a
 |_=>.no
noncomputable def zU(body:D->Env->R (Env×List D)):List D->Env->List D->R (List D)
 | [],_,acc=>.ok acc
 |x::r,τ,acc=>(body x τ).bind λp=>zU body r p.1 (acc++p.2)
mutual
noncomputable def evE(w:W):E->Env->R D
 | .var i,τ=>zP τ i
 | .own i,τ=>zP τ i
 | .con d,_=>.ok d
 | .glb x,_=>match w.glb x with|some d=>.ok d|none=>.no
 | .fnv x,_=>.no
 | .op o a b,τ=>(evE w a τ).bind λx=>(evE w b τ).bind λy=>op2 o x y
 | .neg a,τ=>(evE w a τ).bind λx=>match x with | .int i=>.ok (.int (-i))|_=>.no
 | .inv a,_=>.no
 | .not a,τ=>(evE w a τ).bind λx=>match x with | .bl b=>.ok (.bl (!b))|_=>.no
 | .and a b,τ=>(evE w a τ).bind λx=>match x with | .bl true=>evE w b τ | .bl false=>.ok (.bl false)|_=>.no
 | .or a b,τ=>(evE w a τ).bind λx=>match x with | .bl true=>.ok (.bl true) | .bl false=>evE w b τ|_=>.no
 | .cmp c a b,τ=>(evE w a τ).bind λx=>(evE w b τ).bind λy=>(qi c x y).bind λr=>.ok (.bl r)
 | .cmp2 c c' a b d,τ=>(evE w a τ).bind λx=>(evE w b τ).bind λy=>(qi c x y).bind λr=>if r then (evE w d τ).bind λz=>(qi c' y z).bind λr'=>.ok (.bl r')else .ok (.bl false)
 | .cmp3 c c' c'' a b d e,τ=>(evE w a τ).bind λx=>(evE w b τ).bind λy=>(qi c x y).bind λr=>if r then (evE w d τ).bind λz=>(qi c' y z).bind λr'=>if r' then (evE w e τ).bind λu=>(qi c'' z u).bind λr''=>.ok (.bl r'')else .ok (.bl false)else .ok (.bl false)
 | .ite t a b,τ=>(evT w t τ).bind λr=>if r then evE w a τ else evE w b τ
 | .tup es,τ=>(zz w es τ).bind λds=>.ok (.tup ds)
 | .lst es,τ=>(zz w es τ).bind λds=>.ok (.lst ds)
 | .ix a b,τ=>(evE w a τ).bind λx=>(evE w b τ).bind λy=>ixD x y
 | .sl a lo hi,τ=>(evE w a τ).bind λx=>(evO w lo τ).bind λl=>(evO w hi τ).bind λh=>slD x l h
 | .call f es,τ=>(zz w es τ).bind λds=>w.call f ds
 | .callE f es,_=>.no
 | .bi b es,τ=>(zz w es τ).bind λds=>b1 b ds
 | .rtup a,_=>.no
 | .rlst a,_=>.no
 | .isi a c,τ=>(evE w a τ).bind λx=>ck w x c
 | .comp it cap tg t elt,τ=>(evI w it τ).bind λds=>if SZ<ds.length then .no else (zU (λx σ=>noEx ((store tg x σ).bind λσ'=>(evT w t σ').bind λr=>if r then (evE w elt σ').bind λd=>.ok (σ',[d])else .ok (σ',[]))) ds (dR cap τ) []).bind λout=>.ok (.lst out)
 | .mth ix a,τ=>(evE w a τ).bind λx=>jw ix x
 | .cnt a b,_=>.no
 | .mxk mx a,_=>.no
 | .dic,_=>.ok (.dic [])
 | .callo f es,τ=>(zz w es τ).bind λds=>(w.call f ds).bind λd=>if d.noL then .ok d else .no
 | .comp2 it cap tg it2 tg2 t elt,_=>.no
 | .fst2 t0 a t1 b t2,_=>.no
 | .sset ln a,τ=>(evE w a τ).bind (nU ln)
 | .rev a,_=>.no
 | .dic1 a b,τ=>(evE w a τ).bind λx=>(evE w b τ).bind λy=>iiR x y λi j=>.ok (.dic [(i,j)])
 | .dget a b,τ=>(evE w a τ).bind λx=>jm x λkvs=>(evE w b τ).bind λy=>i' kvs y
 | .dget2 a b d,τ=>(evE w a τ).bind λx=>jm x λkvs=>(evE w b τ).bind λy=>(evE w d τ).bind λz=>jH kvs y z
 | .lsd a,τ=>(evE w a τ).bind nT
 | .lstc f es,τ=>(zz w es τ).bind λds=>(w.call f ds).bind λd=>if bZ d then .ok d else .no
noncomputable def evO(w:W):OE->Env->R (Option Int)
 | .none,_=>.ok none
 | .some e,τ=>(evE w e τ).bind λx=>match x with | .int i=>.ok (some i)|_=>.no
noncomputable def zz(w:W):Es->Env->R (List D)
 | .nil,_=>.ok []
 | .cons e es,τ=>(evE w e τ).bind λd=>(zz w es τ).bind λds=>.ok (d::ds)
noncomputable def evI(w:W):It->Env->R (List D)
 | .seq e,τ=>(evE w e τ).bind λx=>match seq? x with|some xs=>.ok xs|none=>.no
 | .rng a,τ=>(evE w a τ).bind λx=>match x with | .int j=>if qC j then .ok (zY 0 j.toNat)else .no|_=>.no
 | .rng2 a b,τ=>(evE w a τ).bind λx=>(evE w b τ).bind λy=>match x,y with | .int i,.int j=>if qC i&&qC j then .ok (zY i (j-i).toNat)else .no|_,_=>.no
 | .enum e,τ=>(evE w e τ).bind λx=>match x with | .lst xs=>.ok (dB 0 xs) | .tup xs=>.ok (dB 0 xs)|_=>.no
 | .zip a b,τ=>(evE w a τ).bind λx=>(evE w b τ).bind λy=>match x,y with
  | .tup xs,.tup ys=>if xs.length=ys.length then .ok (cD xs ys)else .no
  | .lst xs,.lst ys=>if xs.length=ys.length then .ok (cD xs ys)else .no
  |_,_=>.no
 | .rng3 a b k,_=>.no
 | .rrev a,τ=>(evE w a τ).bind λx=>match x with | .int j=>if decide (0<=j)&&qC j then .ok (hZ (j-1) (-1) j.toNat)else .no|_=>.no
noncomputable def evT(w:W):T->Env->R Bool
 | .yes,_=>.ok true
 | .val e,τ=>(evE w e τ).bind λx=>truth x
 | .cmp c a b,τ=>(evE w a τ).bind λx=>(evE w b τ).bind λy=>qi c x y
 | .cmp2 c c' a b d,τ=>(evE w a τ).bind λx=>(evE w b τ).bind λy=>(qi c x y).bind λr=>if r then (evE w d τ).bind λz=>qi c' y z else .ok false
 | .and a b,τ=>(evT w a τ).bind λr=>if r then evT w b τ else .ok false
 | .or a b,τ=>(evT w a τ).bind λr=>if r then .ok true else evT w b τ
 | .not a,τ=>(evT w a τ).bind λr=>.ok (!r)
end
theorem zl:∀{w i τ},@Eq (R D) (evE w (.var i) τ) (zP τ i):=rfl
theorem zp:∀{w i τ},@Eq (R D) (evE w (.own i) τ) (zP τ i):=rfl
theorem zh:∀{w d τ},@Eq (R D) (evE w (.con d) τ) (.ok d):=rfl
theorem zm:∀{w x τ},@Eq (R D) (evE w (.glb x) τ) (match w.glb x with|some d=>.ok d|none=>.no):=rfl
theorem zk:∀{w x τ},@Eq (R D) (evE w (.fnv x) τ) (.no):=rfl
theorem ze:∀{w o a b τ},@Eq (R D) (evE w (.op o a b) τ) ((evE w a τ).bind λx=>(evE w b τ).bind λy=>op2 o x y):=rfl
theorem zc:∀{w a τ},@Eq (R D) (evE w (.neg a) τ) ((evE w a τ).bind λx=>match x with | .int i=>.ok (.int (-i))|_=>.no):=rfl
theorem zq:∀{w a τ},@Eq (R D) (evE w (.inv a) τ) (.no):=rfl
theorem zo:∀{w a τ},@Eq (R D) (evE w (.not a) τ) ((evE w a τ).bind λx=>match x with | .bl b=>.ok (.bl (!b))|_=>.no):=rfl
theorem qy:∀{w a b τ},@Eq (R D) (evE w (.and a b) τ) ((evE w a τ).bind λx=>match x with | .bl true=>evE w b τ | .bl false=>.ok (.bl false)|_=>.no):=rfl
theorem qJ:∀{w a b τ},@Eq (R D) (evE w (.or a b) τ) ((evE w a τ).bind λx=>match x with | .bl true=>.ok (.bl true) | .bl false=>evE w b τ|_=>.no):=rfl
theorem qu:∀{w c a b τ},@Eq (R D) (evE w (.cmp c a b) τ) ((evE w a τ).bind λx=>(evE w b τ).bind λy=>(qi c x y).bind λr=>.ok (.bl r)):=rfl
theorem qA:∀{w c c' a b d τ},@Eq (R D) (evE w (.cmp2 c c' a b d) τ) ((evE w a τ).bind λx=>(evE w b τ).bind λy=>(qi c x y).bind λr=>if r then (evE w d τ).bind λz=>(qi c' y z).bind λr'=>.ok (.bl r')else .ok (.bl false)):=rfl
theorem qI:∀{w c c' c'' a b d e τ},@Eq (R D) (evE w (.cmp3 c c' c'' a b d e) τ) ((evE w a τ).bind λx=>(evE w b τ).bind λy=>(qi c x y).bind λr=>if r then (evE w d τ).bind λz=>(qi c' y z).bind λr'=>if r' then (evE w e τ).bind λu=>(qi c'' z u).bind λr''=>.ok (.bl r'')else .ok (.bl false)else .ok (.bl false)):=rfl
theorem qr:∀{w t a b τ},@Eq (R D) (evE w (.ite t a b) τ) ((evT w t τ).bind λr=>if r then evE w a τ else evE w b τ):=rfl
theorem qK:∀{w es τ},@Eq (R D) (evE w (.tup es) τ) ((zz w es τ).bind λds=>.ok (.tup ds)):=rfl
theorem qD:∀{w es τ},@Eq (R D) (evE w (.lst es) τ) ((zz w es τ).bind λds=>.ok (.lst ds)):=rfl
theorem qx:∀{w a b τ},@Eq (R D) (evE w (.ix a b) τ) ((evE w a τ).bind λx=>(evE w b τ).bind λy=>ixD x y):=rfl
theorem qL:∀{w a lo hi τ},@Eq (R D) (evE w (.sl a lo hi) τ) ((evE w a τ).bind λx=>(evO w lo τ).bind λl=>(evO w hi τ).bind λh=>slD x l h):=rfl
theorem qH:∀{w f es τ},@Eq (R D) (evE w (.call f es) τ) ((zz w es τ).bind λds=>w.call f ds):=rfl
theorem qN:∀{w f es τ},@Eq (R D) (evE w (.callE f es) τ) (.no):=rfl
theorem qo:∀{w b es τ},@Eq (R D) (evE w (.bi b es) τ) ((zz w es τ).bind λds=>b1 b ds):=rfl
theorem qB:∀{w a τ},@Eq (R D) (evE w (.rtup a) τ) (.no):=rfl
theorem qP:∀{w a τ},@Eq (R D) (evE w (.rlst a) τ) (.no):=rfl
theorem qE:∀{w a c τ},@Eq (R D) (evE w (.isi a c) τ) ((evE w a τ).bind λx=>ck w x c):=rfl
theorem qp:∀{w it cap tg t elt τ},@Eq (R D) (evE w (.comp it cap tg t elt) τ) ((evI w it τ).bind λds=>if SZ<ds.length then .no else (zU (λx σ=>noEx ((store tg x σ).bind λσ'=>(evT w t σ').bind λr=>if r then (evE w elt σ').bind λd=>.ok (σ',[d])else .ok (σ',[]))) ds (dR cap τ) []).bind λout=>.ok (.lst out)):=rfl
theorem qV:∀{w ix a τ},@Eq (R D) (evE w (.mth ix a) τ) ((evE w a τ).bind λx=>jw ix x):=rfl
theorem qU:∀{w a b τ},@Eq (R D) (evE w (.cnt a b) τ) (.no):=rfl
theorem qM:∀{w mx a τ},@Eq (R D) (evE w (.mxk mx a) τ) (.no):=rfl
theorem qw:∀{w τ},@Eq (R D) (evE w (.dic) τ) (.ok (.dic [])):=rfl
theorem qG:∀{w f es τ},@Eq (R D) (evE w (.callo f es) τ) ((zz w es τ).bind λds=>(w.call f ds).bind λd=>if d.noL then .ok d else .no):=rfl
theorem qY:∀{w it cap tg it2 tg2 t elt τ},@Eq (R D) (evE w (.comp2 it cap tg it2 tg2 t elt) τ) (.no):=rfl
theorem qR:∀{w t0 a t1 b t2 τ},@Eq (R D) (evE w (.fst2 t0 a t1 b t2) τ) (.no):=rfl
theorem qO:∀{w ln a τ},@Eq (R D) (evE w (.sset ln a) τ) ((evE w a τ).bind (nU ln)):=rfl
theorem qQ:∀{w a τ},@Eq (R D) (evE w (.rev a) τ) (.no):=rfl
theorem qT:∀{w a b τ},@Eq (R D) (evE w (.dic1 a b) τ) ((evE w a τ).bind λx=>(evE w b τ).bind λy=>iiR x y λi j=>.ok (.dic [(i,j)])):=rfl
theorem qW:∀{w a b τ},@Eq (R D) (evE w (.dget a b) τ) ((evE w a τ).bind λx=>jm x λkvs=>(evE w b τ).bind λy=>i' kvs y):=rfl
theorem qS:∀{w a b d τ},@Eq (R D) (evE w (.dget2 a b d) τ) ((evE w a τ).bind λx=>jm x λkvs=>(evE w b τ).bind λy=>(evE w d τ).bind λz=>jH kvs y z):=rfl
theorem qX:∀{w a τ},@Eq (R D) (evE w (.lsd a) τ) ((evE w a τ).bind nT):=rfl
theorem qF:∀{w f es τ},@Eq (R D) (evE w (.lstc f es) τ) ((zz w es τ).bind λds=>(w.call f ds).bind λd=>if bZ d then .ok d else .no):=rfl
theorem fb:∀{w τ},@Eq (R Bool) (evT w (.yes) τ) (.ok true):=rfl
theorem fq:∀{w e τ},@Eq (R Bool) (evT w (.val e) τ) ((evE w e τ).bind λx=>truth x):=rfl
theorem fz:∀{w c a b τ},@Eq (R Bool) (evT w (.cmp c a b) τ) ((evE w a τ).bind λx=>(evE w b τ).bind λy=>qi c x y):=rfl
theorem fC:∀{w c c' a b d τ},@Eq (R Bool) (evT w (.cmp2 c c' a b d) τ) ((evE w a τ).bind λx=>(evE w b τ).bind λy=>(qi c x y).bind λr=>if r then (evE w d τ).bind λz=>qi c' y z else .ok false):=rfl
theorem fB:∀{w a b τ},@Eq (R Bool) (evT w (.and a b) τ) ((evT w a τ).bind λr=>if r then evT w b τ else .ok false):=rfl
theorem fg:∀{w a b τ},@Eq (R Bool) (evT w (.or a b) τ) ((evT w a τ).bind λr=>if r then .ok true else evT w b τ):=rfl
theorem ff:∀{w a τ},@Eq (R Bool) (evT w (.not a) τ) ((evT w a τ).bind λr=>.ok (!r)):=rfl
mutual
inductive S where
 |set (tg:Tg) (e:E)
 |app (i:Nat) (e:E)
 |seti (i:Nat) (k e:E)
 |exp (e:E)
 |ret (e:E)|retN
 |ite (t:T) (a b:Ss)
 |for (tg:Tg) (it:It) (b:Ss)
 |while (t:T) (b:Ss)
 |raise (c:Str) (es:Es)
 |try (b:Ss) (c:Str) (i:Option Nat) (h:Ss)
 |ins (i:Nat) (k e:E)
 |pass|brk|cnt|unk
 |par (i j:Nat) (a b:E)
 |par3 (i j k:Nat) (a b c:E)
 |dupd (i:Nat) (e:E)
 |pop0 (j i:Nat)
 |ext (i:Nat) (e:E)
 |retn (e:E)
inductive Ss where
 |nil|cons (s:S) (r:Ss)
end
inductive O where
 |nx (τ:Env)|rt (d:D)|bk (τ:Env)|ct (τ:Env)|ex (c:Str)|no
noncomputable def R.out{α:Type}:R α->(α->O)->O
 | .ok a,f=>f a
 | .ex c,_=>.ex c
 | .no,_=>.no
@[simp] theorem R.out_ok{α:Type}(a:α)(f:α->O):(R.ok a).out f=f a:=rfl
@[simp] theorem R.out_ex{α:Type}(c:Str)(f:α->O):(R.ex c:R α).out f=.ex c:=rfl
@[simp] theorem R.out_no{α:Type}(f:α->O):(R.no:R α).out f=.no:=rfl
noncomputable def dC(tg:Tg)(body:Env->O):List D->Env->O
 | [],τ=>.nx τ
 |x::r,τ=>(store tg x τ).out λτ'=>match body τ' with
  | .nx σ=>dC tg body r σ
  | .ct σ=>dC tg body r σ
  | .bk σ=>.nx σ
  |o=>o
noncomputable def dX(test:Env->R Bool)(body:Env->O):Nat->Env->O
 | 0,_=>.no
 |n+1,τ=>(test τ).out λb=>if b then (match body τ with
  | .nx σ=>dX test body n σ
  | .ct σ=>dX test body n σ
  | .bk σ=>.nx σ
  |o=>o)else .nx τ
noncomputable def fu:Nat:=100000
noncomputable def O.noEx:O->O
 | .ex _=>.no
 |o=>o
noncomputable def O.rtOnly:O->O
 | .rt d=>.rt d
 |_=>.no
noncomputable def dN(τ:Env)(i:Option Nat)(k:Str):Env:=match i with
 |none=>τ.map λ_=>none
 |some i=>(τ.map λ_=>none).set i (some (.exn k))
noncomputable def iA(x n d:D)(i:Nat)(τ:Env):O:=match x with
 | .lst xs=>(match n with
  | .int j=>if 0<=j/\j<=xs.length/\xs.length<SZ then .nx (τ.set i (some (.lst (xs.take j.toNat++d::xs.drop j.toNat))))else .no
  |_=>.no)
 |_=>.no
mutual
noncomputable def evS(w:W):S->Env->O
 | .set tg e,τ=>(evE w e τ).out λd=>(store tg d τ).out .nx
 | .app i e,τ=>(zP τ i).out λx=>match x with
  | .lst xs=>(evE w e τ).out λd=>if xs.length<SZ then .nx (τ.set i (some (.lst (xs++[d]))))else .no
  |_=>.no
 | .seti i k e,τ=>(evE w e τ).out λd=>(zP τ i).out λx=>(evE w k τ).out λn=>match x,n with
  | .lst xs,.int j=>match ixN xs.length j with
   |some m=>.nx (τ.set i (some (.lst (xs.set m d))))
   |none=>.no
  | .dic kvs,.int j=>(match d with
   | .int v=>if kvs.length<SZ then .nx (τ.set i (some (.dic (cK kvs j v))))else .no
   |_=>.no)
  |_,_=>.no
 | .exp e,τ=>(evE w e τ).out λ_=>.nx τ
 | .ret e,τ=>(evE w e τ).out .rt
 | .retN,_=>.rt .non
 | .ite t a b,τ=>(evT w t τ).out λr=>if r then qe w a τ else qe w b τ
 | .for tg it b,τ=>((evI w it τ).out λds=>dC tg (λσ=>qe w b σ) ds τ).noEx
 | .while t b,τ=>(dX (λσ=>evT w t σ) (λσ=>qe w b σ) fu τ).noEx
 | .raise c es,τ=>(zz w es τ).out λ_=>.ex c
 | .try b c i h,τ=>match qe w b τ with
  | .ex k=>if w.cat k c=true then (qe w h (dN τ i k)).rtOnly else .no
  |o=>o
 | .ins i k e,τ=>(zP τ i).out λx=>match x with
  | .lst xs=>(evE w k τ).out λn=>(evE w e τ).out λd=>iA (.lst xs) n d i τ
  |_=>.no
 | .unk,_=>.no
 | .pass,τ=>.nx τ
 | .brk,τ=>.bk τ
 | .cnt,τ=>.ct τ
 | .par i j a b,_=>.no
 | .par3 i j k a b c,_=>.no
 | .dupd i e,τ=>(zP τ i).out λx=>match x with
  | .dic kvs=>(evE w e τ).out λd=>(match d with
   | .dic ms=>if kvs.length+ms.length<SZ then .nx (τ.set i (some (.dic (cZ kvs ms))))else .no
   |_=>.no)
  |_=>.no
 | .pop0 j i,τ=>(zP τ i).out λx=>match x with
  | .lst xs=>(match xs with
   |y::r=>.nx ((τ.set i (some (.lst r))).set j (some y))
   | []=>.no)
  |_=>.no
 | .ext i e,_=>.no
 | .retn e,τ=>(evE w e τ).out λd=>if bZ d then .no else .rt d
noncomputable def qe(w:W):Ss->Env->O
 | .nil,τ=>.nx τ
 | .cons s r,τ=>match evS w s τ with
  | .nx σ=>qe w r σ
  |o=>o
end
theorem bT:∀{w tg e τ},@Eq (O) (evS w (.set tg e) τ) ((evE w e τ).out λd=>(store tg d τ).out .nx):=rfl
theorem b5:∀{w i e τ},@Eq (O) (evS w (.app i e) τ) ((zP τ i).out λx=>match x with
  | .lst xs=>(evE w e τ).out λd=>if xs.length<SZ then .nx (τ.set i (some (.lst (xs++[d]))))else .no
  |_=>.no):=rfl
theorem b9:∀{w i k e τ},@Eq (O) (evS w (.seti i k e) τ) ((evE w e τ).out λd=>(zP τ i).out λx=>(evE w k τ).out λn=>match x,n with
  | .lst xs,.int j=>match ixN xs.length j with
   |some m=>.nx (τ.set i (some (.lst (xs.set m d))))
   |none=>.no
  | .dic kvs,.int j=>(match d with
   | .int v=>if kvs.length<SZ then .nx (τ.set i (some (.dic (cK kvs j v))))else .no
   |_=>.no)
  |_,_=>.no):=rfl
theorem cj:∀{w e τ},@Eq (O) (evS w (.exp e) τ) ((evE w e τ).out λ_=>.nx τ):=rfl
theorem zL:∀{w e τ},@Eq (O) (evS w (.ret e) τ) ((evE w e τ).out .rt):=rfl
theorem cq:∀{w τ},@Eq (O) (evS w (.retN) τ) (.rt .non):=rfl
theorem zT:∀{w t a b τ},@Eq (O) (evS w (.ite t a b) τ) ((evT w t τ).out λr=>if r then qe w a τ else qe w b τ):=rfl
theorem b8:∀{w tg it b τ},@Eq (O) (evS w (.for tg it b) τ) (((evI w it τ).out λds=>dC tg (λσ=>qe w b σ) ds τ).noEx):=rfl
theorem cg:∀{w t b τ},@Eq (O) (evS w (.while t b) τ) ((dX (λσ=>evT w t σ) (λσ=>qe w b σ) fu τ).noEx):=rfl
theorem zR:∀{w c es τ},@Eq (O) (evS w (.raise c es) τ) ((zz w es τ).out λ_=>.ex c):=rfl
theorem zN:∀{w b c i h τ},@Eq (O) (evS w (.try b c i h) τ) (match qe w b τ with
  | .ex k=>if w.cat k c=true then (qe w h (dN τ i k)).rtOnly else .no
  |o=>o):=rfl
theorem zS:∀{w i k e τ},@Eq (O) (evS w (.ins i k e) τ) ((zP τ i).out λx=>match x with
  | .lst xs=>(evE w k τ).out λn=>(evE w e τ).out λd=>iA (.lst xs) n d i τ
  |_=>.no):=rfl
theorem cC:∀{w τ},@Eq (O) (evS w (.unk) τ) (.no):=rfl
theorem cz:∀{w τ},@Eq (O) (evS w (.pass) τ) (.nx τ):=rfl
theorem cy:∀{w τ},@Eq (O) (evS w (.brk) τ) (.bk τ):=rfl
theorem cA:∀{w τ},@Eq (O) (evS w (.cnt) τ) (.ct τ):=rfl
theorem zW:∀{w i j a b τ},@Eq (O) (evS w (.par i j a b) τ) (.no):=rfl
theorem cB:∀{w i j k a b c τ},@Eq (O) (evS w (.par3 i j k a b c) τ) (.no):=rfl
theorem zZ:∀{w i e τ},@Eq (O) (evS w (.dupd i e) τ) ((zP τ i).out λx=>match x with
  | .dic kvs=>(evE w e τ).out λd=>(match d with
   | .dic ms=>if kvs.length+ms.length<SZ then .nx (τ.set i (some (.dic (cZ kvs ms))))else .no
   |_=>.no)
  |_=>.no):=rfl
theorem cx:∀{w j i τ},@Eq (O) (evS w (.pop0 j i) τ) ((zP τ i).out λx=>match x with
  | .lst xs=>(match xs with
   |y::r=>.nx ((τ.set i (some (.lst r))).set j (some y))
   | []=>.no)
  |_=>.no):=rfl
theorem cF:∀{w i e τ},@Eq (O) (evS w (.ext i e) τ) (.no):=rfl
theorem zE:∀{w e τ},@Eq (O) (evS w (.retn e) τ) ((evE w e τ).out λd=>if bZ d then .no else .rt d):=rfl
structure Fn where
 ps:Nat
 N:Nat
 fr:Bool
 body:Ss
noncomputable def zF(w:W)(f:Fn)(ds:List D):R D:=if ds.length=f.ps then (match qe w f.body (ds.map some++aZ (f.N-f.ps) none)with
  | .nx _=>if f.fr then .no else .ok .non
  | .rt d=>.ok d
  | .ex c=>.ex c
  |_=>.no)else .no
structure Pr where
 fns:Str->Option Fn
 glb:Str->Option D
 sub:Str->Cl->Option Bool
 cat:Str->Str->Bool
noncomputable def qa(p:Pr):Nat->Str->List D->R D
 | 0,_,_=>.no
 |k+1,x,ds=>match p.fns x with
  |some f=>zF ⟨qa p k,p.glb,p.sub,p.cat⟩ f ds
  |none=>.no
inductive GK where
  |fn (fresh:Bool)|val|bi (b:B1)|rng|enum|zip|isi|ty (n:String) (b:Option B1)|exc|exk|set|rvd
  deriving DecidableEq
structure Cc where
  nm:List (Str×aN)
  N:List Str
  own:List Str
  G:List (Str×GK)
  calm:Bool
  fnc:Bool
  thr:Bool
  GH:List (Str×GK)
  oc:List Str
  frz:Bool
noncomputable def loc(c:Cc)(x:Str):Option Nat:=
  if x == "__debug__" ||x == "__classdict__" then none else
  match c.nm.lookup x with
  |some .local|some .cell|some .free=>let i:=c.N.findIdx (· == x);if c.N[i]? = some x then some i else none
  |_=>none
noncomputable def de(c:Cc)(x:Str):Option Nat:=
  match c.nm.lookup x with
  |some .local=>loc c x
  |some .cell=>if c.fnc||c.oc.contains x then loc c x else none
  |_=>none
noncomputable def glob(c:Cc)(x:Str):Option GK:=
  if x == "__debug__" ||x == "__name__" then none else
  match c.nm.lookup x with
  |some .globalImplicit=>c.G.lookup x
  |_=>none
noncomputable def esc:E->Bool
  | .own _=>false
  |_=>true
noncomputable def eQ:Es->Bool
  | .nil=>true
  | .cons e es=>esc e&&eQ es
noncomputable def isL:E->Bool
  | .lst _=>true
  | .rlst _=>true
  | .comp .. => true
  |_=>false
noncomputable def EU:O2->Bool
  | .add=>true
  | .mul=>true
  |_=>false
noncomputable def fresh(c:Cc):E->Bool
  | .op o a b=>EU o&&isL a||o==.add&&isL b
  | .lst _=>true
  | .rlst _=>true
  | .comp .. => true
  | .comp2 .. => true
  | .dic=>true
  | .dic1 .. => true
  | .lsd _=>true
  | .bi .list _=>true
  | .bi .sorted _=>true
  | .lstc f _=>c.G.lookup f==some (.fn true)
  |_=>false
noncomputable def dY(c:Cc):E->Bool
  | .call f _=>c.G.lookup f==some (.fn true)
  | .ite _ a b=>dY c a&&dY c b
  |e=>fresh c e
noncomputable def gL(c:Cc):E->E
  | .call f es=>if c.G.lookup f==some (.fn true)then .lstc f es else .call f es
  |e=>e
noncomputable def o2:Operator->Option O2
  | .Add=>some .add
  | .Sub=>some .sub
  | .Mult=>some .mul
  | .FloorDiv=>some .fdiv
  | .Mod=>some .mod
  | .Pow=>some .pow
  | .RShift=>some .shr
  |_=>none
noncomputable def c2:CmpOp->C2
  | .Eq=>.eq
  | .NotEq=>.ne
  | .Lt=>.lt
  | .LtE=>.le
  | .Gt=>.gt
  | .GtE=>.ge
  | .Is=>.is
  | .IsNot=>.isnot
  | .In=>.isin
  | .NotIn=>.notin
noncomputable def eV:Expr->Bool
  | .ListComp .. => true
  | .SetComp .. => true
  | .DictComp .. => true
  |_=>false
noncomputable def zG:Expr->Bool
  | .Set .. => false
  |_=>true
noncomputable def jN(names nm:List (Str×aN)):List (Str×aN):=names.map λ(n,k)=>if k==bW&&(nm.lookup n==some .cell)then (n,aN.cell)else (n,k)
noncomputable def b6(names:List (Str×aN)):List Str:=(names.filter λp=>p.2==.local||p.2==.free||p.2==.cell).map (·.1)
noncomputable def hJ(c:Cc)(names:List (Str×aN)):List (Option Nat):=(b6 names).map λx=>if names.lookup x==some .free then loc c x else none
noncomputable def gU:List Expr->Option (List Str)
  | []=>some []
  | .Name x _::r=>(gU r).map (x :: ·)
  |_=>none
noncomputable def cTg(c:Cc):Expr->Option Tg
  | .Name x _=>if c.own.contains x then none else (de c x).map .nm
  | .Tuple es _ _=>if c.calm then do
      let xs <-gU es
      if xs.any c.own.contains then none else
      let is <-xs.mapM (de c)
      if is.Nodup then some (.tp is)else none
    else none
  |_=>none
noncomputable def isStar:Expr->Bool
  | .Starred .. => true
  |_=>false
noncomputable def isSlice:Expr->Bool
  | .Slice .. => true
  |_=>false
noncomputable def isTup:Expr->Bool
  | .Tuple .. => true
  |_=>false
noncomputable def gN(it:It)(tg:Expr):Bool:=match it with
  | .enum _=>isTup tg
  | .zip .. => isTup tg
  |_=>true
noncomputable def jL(c:Cc):Expr->Option Cl
  | .Name x _=>match glob c x with
    |some (.ty n _)=>some (.ty n)
    |some .exc=>some (.ex x)
    |some .exk=>some (.ex x)
    |_=>none
  |_=>none
noncomputable def vr(c:Cc)(x:Str)(i:Nat):E:=if c.own.contains x then .own i else .var i
noncomputable def cMt(c:Cc)(o:Expr)(m:Str)(ap:Pos)(as:List Expr)(cp:Pos):Option E:=match o with
  | .Name x _=>match as with
    | [a]=>match a with
      | .Constant k _ _=>match k with
        | .bool b=>match loc c x with
          |some i=>if b&&ap.endLine==cp.line then (if m = "count" then some (.mth false (vr c x i))else if m = "index" then some (.mth true (vr c x i))else none)else none
          |none=>none
        |_=>none
      |_=>none
    |_=>none
  |_=>none
noncomputable def baseOk:Expr->Bool
  | .Call (.Name _ _) (_::_) _ _=>true
  | .Name .. => true
  |_=>false
noncomputable def owned:It->Bool
  | .seq (.own _)=>true
  | .enum (.own _)=>true
  | .zip (.own _) _=>true
  | .zip _ (.own _)=>true
  |_=>false
noncomputable def EX:Expr->Bool
  | .UnaryOp .USub (.Constant (.int i) _ _) _=>decide (i=1)
  |_=>false
noncomputable def Dm(c:Cc)(b:B1)(_:List Expr):Option Expr:=none
noncomputable def j9(c:Cc)(t:String):List Expr->Option Expr
  | [a]=>match a with
    | .Name x _=>if t == "list" && c.calm&&c.own.contains x then some a else none
    |_=>none
  |_=>none
noncomputable def i0:Expr->Bool
  | .ListComp _ gs _ _=>gs.length==2
  |_=>false
mutual
noncomputable def cE:Nat->Cc->Expr->Option E
  | 0,_,_=>none
  |n+1,c,e=>match e with
    | .Name x _=>match loc c x with
      |some i=>if c.own.contains x then some (.own i)else some (.var i)
      |none=>match glob c x with
        |some .val=>some (.glb x)
        |some (.fn _)=>some (.fnv x)
        |_=>none
    | .Constant k _ _=>match k with
      | .int i=>some (.con (.int i))
      | .bool i=>some (.con (.bl i))
      | .none=>some (.con .non)
      | .str x=>some (.con (.str x))
      |_=>none
    | .BinOp a op b _=>do
      let o <-o2 op
      let a <-cE n c a
      let b <-cE n c b
      some (.op o a b)
    | .UnaryOp op a _=>do
      let a <-cE n c a
      match op with
      | .USub=>some (.neg a)
      | .Invert=>some (.inv a)
      | .Not=>some (.not a)
      |_=>none
    | .BoolOp op vs _=>cBo n c op vs
    | .Compare a ops bs _=>match ops,bs with
      | [o],[b]=>do
        let a <-cE n c a
        let b' <-cE n c b
        if zG b then some (.cmp (c2 o) a b')else none
      | [o,o'],[b,d]=>do
        let a <-cE n c a
        let b' <-cE n c b
        let d' <-cE n c d
        if zG b&&zG d then some (.cmp2 (c2 o) (c2 o') a b' d')else none
      | [o,o',o''],[b,d,f]=>do
        let a <-cE n c a
        let b' <-cE n c b
        let d' <-cE n c d
        let f' <-cE n c f
        if zG b&&zG d&&zG f then some (.cmp3 (c2 o) (c2 o') (c2 o'') a b' d' f')else none
      |_,_=>none
    | .Dict ks vs _=>match ks with
      | []=>if vs.isEmpty then some .dic else none
      |k::r=>match k with
        |some k=>match vs with
          |v::q=>if r.isEmpty&&q.isEmpty then (do
              let k <-cE n c k
              let v <-cE n c v
              some (.dic1 k v))else none
          | []=>none
        |none=>none
    | .IfExp t a b _=>do
      let t <-cT n c t
      let a <-cE n c a
      let b <-cE n c b
      if esc a&&esc b then some (.ite t a b)else none
    | .Tuple es _ _=>do
      let es <-cEs n c es
      if eQ es then some (.tup es)else none
    | .List es _=>do
      let es <-cEs n c es
      if eQ es then some (.lst es)else none
    | .Subscript a b _=>match b with
      | .Slice lo hi st _=>match st with
        |some _=>none
        |none=>do
          let a <-cE n c a
          let lo <-cO n c lo
          let hi <-cO n c hi
          some (.sl a lo hi)
      |b=>do
        if isSlice b then none else
        let a <-cE n c a
        let b <-cE n c b
        some (.ix a b)
    | .ListComp elt gs sc _=>match gs with
     | [⟨tgt,it,ifs,asy⟩]=>do
      if !(asy==0) || !c.calm || !zG it then none else
      let c':Cc:={c with nm:=jN sc.names c.nm,N:=b6 sc.names,fnc:=false,oc:=ij sc.names}
      let cap:=hJ c sc.names
      if !iD (λx=>c.nm.lookup x) c.N (b6 sc.names) cap sc || !decide (b6 sc.names).Nodup then none else
      let it <-cI n c it
      let tg <-cTg c' tgt
      let t <-fA n c' ifs
      let elt <-cE n c' elt
      if esc elt&&gN it tgt then some (.comp it cap tg t elt)else none
     |_=>none
    | .Call fe as ks cp=>match ks with
     | []=>match fe with
      | .Name f _=>match loc c f with
        |some _=>none
        |none=>match glob c f with
          |some (.fn _)=>do
            let es <-cEs n c as
            if eQ es && !as.isEmpty then some (.call f es)else if !as.isEmpty then some (.callo f es)else none
          |some (.bi b)=>match Dm c b as with
            |some a=>(cE n c a).map (.sset (b==.len))
            |none=>do
              let es <-cEs n c as
              if !as.isEmpty&&(c.calm||b==.len||b==.abs)then some (.bi b es)else none
          |some (.ty t (some b))=>match as with
            | [.Call (.Name g p) as' [] q]=>if loc c g==none&&glob c g==some .rng then (if c.calm&&(t == "tuple" ||t == "list")then (match as' with
                | [a]=>if isStar a then none else do
                  let a <-cE n c a
                  some (if t = "tuple" then .rtup (.rng a)else .rlst (.rng a))
                | [a,d]=>if isStar a||isStar d then none else do
                  let a <-cE n c a
                  let d <-cE n c d
                  some (if t = "tuple" then .rtup (.rng2 a d)else .rlst (.rng2 a d))
                | [a,d,k]=>if isStar a||isStar d||isStar k then none else do
                  let a <-cE n c a
                  let d <-cE n c d
                  let k <-cE n c k
                  if t == "tuple" then some (.rtup (.rng3 a d k))else none
                |_=>none)
                else none)
              else do
                let es <-cEs n c as
                some (.bi b es)
            |_=>match j9 c t as with
             |some a=>(cE n c a).map .lsd
             |none=>do
              let es <-cEs n c as
              if !as.isEmpty then some (.bi b es)else none
          |some .isi=>match as with
            | [a,k]=>do
              if isStar a then none else
              let a <-cE n c a
              let k <-jL c k
              some (.isi a k)
            |_=>none
          |_=>none
      | .Attribute o m ap=>match cMt c o m ap as cp with
        |some e=>some e
        |none=>match as with
          | [a]=>do
            if !baseOk o||isStar a || !(m == "count" ||m == "get") || !(ap.endLine==cp.line)then none else
            let o' <-cE n c o
            let a' <-cE n c a
            if m == "get" then some (.dget o' a')else if esc a' then some (.cnt o' a')else none
          | [a,d]=>do
            if !baseOk o||isStar a||isStar d || !(m == "get") || !(ap.endLine==cp.line)then none else
            let o' <-cE n c o
            let a' <-cE n c a
            let d' <-cE n c d
            if esc d' then some (.dget2 o' a' d')else none
          |_=>none
      |_=>none
     |_=>none
    |_=>none
noncomputable def fA:Nat->Cc->List Expr->Option T
  | 0,_,_=>none
  |n+1,c,ifs=>match ifs with
    | []=>some .yes
    | [t]=>cT n c t
    |_=>none
noncomputable def cBo:Nat->Cc->BoolOp->List Expr->Option E
  | 0,_,_,_=>none
  |n+1,c,op,vs=>match vs with
    | []=>none
    | [a]=>do
      let a <-cE n c a
      if esc a then some a else none
    |a::b::r=>do
      let a <-cE n c a
      let r <-cBo n c op (b::r)
      match op with
      | .And=>some (.and a r)
      | .Or=>some (.or a r)
noncomputable def cO:Nat->Cc->Option Expr->Option OE
  | 0,_,_=>none
  |n+1,c,o=>match o with
    |none=>some .none
    |some e=>(cE n c e).map .some
noncomputable def cEs:Nat->Cc->List Expr->Option Es
  | 0,_,_=>none
  |n+1,c,es=>match es with
    | []=>some .nil
    |e::r=>do
      if isStar e then none else
      let e <-cE n c e
      let r <-cEs n c r
      some (.cons e r)
noncomputable def cI:Nat->Cc->Expr->Option It
  | 0,_,_=>none
  |n+1,c,e=>match e with
    | .Call (.Name f p) as [] q=>match loc c f with
      |some _=>(cE n c (.Call (.Name f p) as [] q)).map .seq
      |none=>match glob c f with
        |some .rng=>(match as with
          | [a]=>if isStar a then none else (cE n c a).map .rng
          | [a,b]=>if isStar a||isStar b then none else do
            let a <-cE n c a
            let b <-cE n c b
            some (.rng2 a b)
          |_=>none)
        |some .enum=>(match as with
          | [a]=>if isStar a then none else (cE n c a).map .enum
          |_=>none)
        |some .zip=>(match as with
          | [a,b]=>if isStar a||isStar b then none else do
            let a <-cE n c a
            let b <-cE n c b
            some (.zip a b)
          |_=>none)
        |some .rvd=>(match as with
          | [.Call (.Name g _) [a] [] _]=>if loc c g==none&&glob c g==some .rng && !isStar a then (cE n c a).map .rrev else none
          |_=>none)
        |_=>(cE n c (.Call (.Name f p) as [] q)).map .seq
    |e=>(cE n c e).map .seq
noncomputable def cT:Nat->Cc->Expr->Option T
  | 0,_,_=>none
  |n+1,c,e=>match e with
    | .UnaryOp .Not a _=>(cT n c a).map .not
    | .BoolOp op vs _=>cTs n c op vs
    | .IfExp .. => none
    | .Compare a ops bs _=>match ops,bs with
      | [o],[b]=>do
        let a <-cE n c a
        let b' <-cE n c b
        if zG b then some (.cmp (c2 o) a b')else none
      | [o,o'],[b,d]=>do
        let a <-cE n c a
        let b' <-cE n c b
        let d' <-cE n c d
        if zG b&&zG d then some (.cmp2 (c2 o) (c2 o') a b' d')else none
      | [o,o',o''],[b,d,f]=>do
        let a <-cE n c a
        let b' <-cE n c b
        let d' <-cE n c d
        let f' <-cE n c f
        if zG b&&zG d&&zG f then some (.val (.cmp3 (c2 o) (c2 o') (c2 o'') a b' d' f'))else none
      |_,_=>none
    |e=>(cE n c e).map .val
noncomputable def cTs:Nat->Cc->BoolOp->List Expr->Option T
  | 0,_,_,_=>none
  |n+1,c,op,vs=>match vs with
    | []=>none
    | [a]=>cT n c a
    |a::b::r=>do
      let a <-cT n c a
      let r <-cTs n c op (b::r)
      match op with
      | .And=>some (.and a r)
      | .Or=>some (.or a r)
end
noncomputable def gZ(c:Cc):Cc:={c with calm:=false,thr:=false,G:=c.GH,GH:=[]}

noncomputable def kO:Expr->Option (Str×Str×Pos×Expr×Pos)
  | .Call f as ks cp=>match f with
    | .Attribute o m ap=>match o with
      | .Name x _=>match as with
        | [a]=>if ks.isEmpty then some (x,m,ap,a,cp)else none
        |_=>none
      |_=>none
    |_=>none
  |_=>none
noncomputable def j_:Expr->Option (Str×Pos×Expr×Expr×Pos)
  | .Call f as ks cp=>match f with
    | .Attribute o m ap=>match o with
      | .Name x _=>match as with
        | [k,a]=>if ks.isEmpty&&m == "insert" then some (x,ap,k,a,cp)else none
        |_=>none
      |_=>none
    |_=>none
  |_=>none
noncomputable def mv:Expr->Option (Str×Pos×Pos)
  | .Call f as ks cp=>match f with
    | .Attribute o m ap=>match o with
      | .Name x _=>match as with
        | [a]=>match a with
          | .Constant k _ _=>match k with
            | .int i=>if ks.isEmpty&&m == "pop" && decide (i=0)then some (x,ap,cp)else none
            |_=>none
          |_=>none
        |_=>none
      |_=>none
    |_=>none
  |_=>none
noncomputable def raiseOf:Expr->Option (Str×Expr×List Expr)
  | .Call f as ks _=>match f with
    | .Name x _=>match as with
      |a::as=>if ks.isEmpty then some (x,a,as)else none
      |_=>none
    |_=>none
  |_=>none
noncomputable def lJ:Expr->Bool
  | .Tuple es _ _=>es.all (foldedForSure 8)
  |_=>false
mutual
noncomputable def cS:Nat->Cc->Bool->Stmt->Option S
  | 0,_,_,_=>none
  |n+1,c,fr,s=>match s with
    | .Assign ts e _=>match ts with
      | [t]=>match t with
        | .Name x _=>match mv e with
         |some (y,ap,cp)=>do
          let i <-de c x
          let j <-loc c y
          if c.own.contains y && !c.own.contains x&&ap.endLine==cp.line && !c.frz then some (.pop0 i j)else none
         |none=>do
          if i0 e then none else
          let i <-de c x
          let e' <-cE n c e
          if c.own.contains x then (if fresh c (gL c e') && !c.frz then some (.set (.nm i) (gL c e'))else none)else if esc e' then some (.set (.nm i) e')else none
        | .Tuple ts k p=>do
              let tg <-cTg c (.Tuple ts k p)
              let e' <-cE n c e
              if (isTup e && !lJ e)||eV e || !esc e' then none else some (.set tg e')
        | .Subscript a k _=>match a with
          | .Name x _=>do
            let i <-de c x
            let e' <-cE n c e
            let k' <-cE n c k
            if c.own.contains x&&esc e' && !isSlice k && !eV e && !c.frz then some (.seti i k' e')else none
          |_=>none
        |_=>none
      |_=>none
    | .Expr e _=>match j_ e with
      |some (x,ap,k,a,cp)=>do
        let i <-de c x
        let k' <-cE n c k
        let a' <-cE n c a
        if c.own.contains x&&esc a' && !isStar k && !isStar a&&ap.endLine==cp.line && !c.frz then some (.ins i k' a')else none
      |none=>match kO e with
      |some (x,m,ap,a,cp)=>do
        let i <-de c x
        let a' <-cE n c a
        if m == "update" then (if c.own.contains x&&esc a' && !isStar a&&ap.endLine==cp.line && !c.frz then some (.dupd i a')else none)else
        if m == "extend" then (if c.own.contains x&&esc a' && !isStar a&&ap.endLine==cp.line && !c.frz then some (.ext i a')else none)else
        if m == "append" && c.own.contains x&&esc a' && !isStar a&&ap.endLine==cp.line && !c.frz then some (.app i a')else none
      |none=>do
        if eV e then none else
        let e' <-cE n c e
        some (.exp e')
    | .Return o _=>match o with
      |some e=>do
        let e' <-cE n c e
        if fr then (match e with
          | .Name y _=>if c.own.contains y then (loc c y).map (λi=>.ret (.own i))else none
          |_=>if dY c e' then some (.ret e')else some (.retn e'))
        else some (.ret e')
      |none=>if fr then none else some .retN
    | .If t a b _=>do
      let t <-cT n c t
      let a <-cSs n c fr a
      let b <-cSs n c fr b
      some (.ite t a b)
    | .For tg it b els _=>do
      if !els.isEmpty || !c.calm || !zG it then none else
      let tg' <-cTg c tg
      let it <-cI n c it
      if !gN it tg then none else
      let b <-cSs n {c with frz:=c.frz||owned it} fr b
      some (.for tg' it b)
    | .While t b els _=>do
      if !els.isEmpty || !c.calm then none else
      let t <-cT n c t
      let b <-cSs n c fr b
      some (.while t b)
    | .Raise o o' _=>match o with
      |some r=>match raiseOf r with
        |some (x,a,as)=>do
          if !o'.isNone || !c.calm || !c.thr then none else
          match glob c x with
          |some .exc=>do
            let es <-cEs n c (a::as)
            some (.raise x es)
          |_=>none
        |none=>none
      |none=>none
    | .Try b hs els fin _=>match hs with
      | [.ExceptHandler ty y h _]=>match ty with
        |some (.Name x _)=>do
          if !els.isEmpty || !fin.isEmpty || !c.calm || !c.fnc||h.isEmpty || !c.own.isEmpty||c.frz then none else
          let b <-cSs n {c with thr:=false} fr b
          let h <-cSs n (gZ c) fr h
          if !(glob c x==some .exc||glob c x==some .exk)then none else
          match y with
          |none=>some (.try b x none h)
          |some y=>do
            let i <-de c y
            if c.nm.lookup y==some .local then some (.try b x (some i) h)else none
        |_=>none
      |_=>none
    | .Pass _=>some .pass
    | .Break _=>some .brk
    | .Continue _=>some .cnt
    |_=>none
noncomputable def cSs:Nat->Cc->Bool->List Stmt->Option Ss
  | 0,_,_,_=>none
  |n+1,c,fr,ss=>match ss with
    | []=>some .nil
    |s::r=>do
      let r <-cSs n c fr r
      some (.cons ((cS n c fr s).getD .unk) r)
end
noncomputable def noOwn(c:Cc):Cc:={c with own:=[],frz:=false}
noncomputable def gE(n:Nat)(c:Cc)(fr:Bool)(b:List Stmt):Option Ss:=cSs n c fr b
noncomputable def argNames(a:Arguments):List Str:=a.args.map (·.arg)
noncomputable def eI(a:Arguments)(sc:aO):List Str:=argNames a++((sc.names.filter λp=>p.2==.local||p.2==.cell).map (·.1)).filter λx=>!(argNames a).contains x
noncomputable def gM(N ps:List Str)(sc:aO):Bool:=
  sc.kind==.function && !sc.isCoroutine && !sc.isGenerator&&decide N.Nodup&&decide (N.take ps.length=ps)&&ps.all (λx=>sc.names.lookup x==some .local||sc.names.lookup x==some .cell)&&sc.names.all λy=>y.2 != .free
noncomputable def iJ:Nat:=60
noncomputable def cFn(G GH:List (Str×GK))(own:List Str)(fr:Bool)(st:Stmt):Option Fn:=do
  let a:=za st
  let sc:=qZ st
  let N:=eI a sc
  if !gM N (argNames a) sc||(argNames a).any own.contains then none else
  let b <-gE iJ ⟨sc.names,N,own,G,true,true,true,GH,[],false⟩ fr (dE st)
  some ⟨(argNames a).length,N.length,fr,b⟩
noncomputable def hV(GU:List (Str×GK))(own:List Str)(fr:Bool)(st:Stmt):Option Fn:=do
  let a:=za st
  let sc:=qZ st
  let N:=eI a sc
  if !gM N (argNames a) sc||(argNames a).any own.contains then none else
  let b <-gE iJ ⟨sc.names,N,own,GU,false,true,false,[],[],false⟩ fr (dE st)
  some ⟨(argNames a).length,N.length,fr,b⟩
end EV

namespace EV
open PySem PySem.Spec PyProof.Rows L2
structure Gc where
 K:aq
 fnA:Str->Option Addr
 clA:Str->Option Addr
mutual
inductive Rep(g:Gc)(H:Hp):D->V->Prop
 |non:Rep g H .non .non
 |bl (b:Bool):Rep g H (.bl b) (.bl b)
 |int (i:Int):Rep g H (.int i) (.int i)
 |str (x:Str):Rep g H (.str x) (.str x)
 |tup {a:Addr}{xs:List V}{ds:List D}:SqT g.K H a xs->zb g H ds xs->Rep g H (.tup ds) (.ref a)
 |lst {a:Addr}{xs:List V}{ds:List D}:SqL g.K H a xs->zb g H ds xs->Rep g H (.lst ds) (.ref a)
 |fn {x:Str}{a:Addr}:g.fnA x=some a->Rep g H (.fn x) (.ref a)
 |exn {c:Str}{a C:Addr}:g.clA c=some C->H a=some (gJ a (.ref C))->Rep g H (.exn c) (.ref a)
 |dic {a:Addr}{kvs:List (Int×Int)}:H a=some (.dK (bj kvs))->Rep g H (.dic kvs) (.ref a)
inductive zb(g:Gc)(H:Hp):List D->List V->Prop
 |nil:zb g H [] []
 |cons {d:D}{ds:List D}{x:V}{xs:List V}:Rep g H d x->zb g H ds xs->zb g H (d::ds) (x::xs)
end
theorem zJ{K:aq}{H H':Hp}{a:Addr}{xs:List V}(e:qf H H')(h:SqT K H a xs):SqT K H' a xs:=by
 rcases h with (h|⟨o,h⟩)|h
 ·exact .inl (.inl (e _ _ h))
 ·exact .inl (.inr ⟨o,e _ _ h⟩)
 ·exact .inr h
section
variable{g:Gc}{H H':Hp}
theorem gI{a b:Bool}(h:(a&&b)=true):a=true/\b=true:=by rw[aI]at h;exact h
theorem Rep.mono(e:qf H H'){d:D}{v:V}(h:Rep g H d v):Rep g H' d v:=
 h.rec (motive_1:=λd v _=>Rep g H' d v) (motive_2:=λd v _=>zb g H' d v) .non .bl .int .str (λq _ r=>.tup (zJ e q) r) (λq _ r=>.lst (e.seq q) r) .fn (λq r=>.exn q (e _ _ r)) (λq=>.dic (e _ _ q)) .nil (λ_ _ a b=>.cons a b)
theorem zb.mono(e:qf H H'){d:List D}{v:List V}(h:zb g H d v):zb g H' d v:=
 h.rec (motive_1:=λd v _=>Rep g H' d v) (motive_2:=λd v _=>zb g H' d v) .non .bl .int .str (λq _ r=>.tup (zJ e q) r) (λq _ r=>.lst (e.seq q) r) .fn (λq r=>.exn q (e _ _ r)) (λq=>.dic (e _ _ q)) .nil (λ_ _ a b=>.cons a b)
theorem zb.length{ds:List D}:∀{vs:List V},zb g H ds vs->ds.length=vs.length:=by
 induction ds with
 |nil=>intro vs h;cases h;rfl
 |cons d ds ih=>intro vs h;cases h with|cons _ r=>exact congrArg (· + 1) (ih r)
theorem zb.get{ds:List D}:∀{vs:List V}{i:Nat}{d:D},zb g H ds vs->ds[i]? = some d->∃v,vs[i]? = some v/\Rep g H d v:=by
 induction ds with
 |nil=>intro vs i d h e;cases e
 |cons d ds ih=>
  intro vs i d' h e;cases h with
  |cons h t=>cases i with
   |zero=>cases e;exact⟨_,rfl,h⟩
   |succ i=>exact ih (i:=i) t e
theorem zb.append{ds:List D}:∀{es:List D}{vs us:List V},zb g H ds vs->zb g H es us->zb g H (ds++es) (vs++us):=by
 induction ds with
 |nil=>intro es vs us h s;cases h;exact s
 |cons d ds ih=>intro es vs us h s;cases h with|cons r t=>exact .cons r (ih t s)
theorem zb.take{ds:List D}:∀{vs:List V} (n:Nat),zb g H ds vs->zb g H (ds.take n) (vs.take n):=by
 induction ds with
 |nil=>intro vs n h;cases h;cases n<;>exact .nil
 |cons d ds ih=>intro vs n h;cases h with|cons r t=>cases n with
  |zero=>exact .nil
  |succ n=>exact .cons r (ih n t)
theorem zb.drop{ds:List D}:∀{vs:List V} (n:Nat),zb g H ds vs->zb g H (ds.drop n) (vs.drop n):=by
 induction ds with
 |nil=>intro vs n h;cases h;cases n<;>exact .nil
 |cons d ds ih=>intro vs n h;cases n with
  |zero=>exact h
  |succ n=>cases h with|cons r t=>exact ih n t
theorem zb.set{d:D}{v:V}(r:Rep g H d v){ds:List D}:∀{vs:List V} (i:Nat),zb g H ds vs->zb g H (ds.set i d) (vs.set i v):=by
 induction ds with
 |nil=>intro vs i h;cases h;exact .nil
 |cons d' ds ih=>intro vs i h;cases h with|cons q t=>cases i with
  |zero=>exact .cons r t
  |succ i=>exact .cons q (ih i t)
theorem zb.ints{ds:List D}:∀{vs:List V}{ns:List Int},zb g H ds vs->ints? ds=some ns->vs=ns.map V.int/\ds=ns.map D.int:=by
 induction ds with
 |nil=>intro vs ns h e;cases h;cases e;exact⟨rfl,rfl⟩
 |cons d ds ih=>
  intro vs ns h e;cases h with
  |cons h t=>cases d with
   |int i=>
    obtain⟨ms,e1,rfl⟩:=bz.mp (show (ints? ds).map (i :: ·)=some ns from e);obtain⟨h1,h2⟩:=ih t e1;cases h;exact⟨by rw[h1];rfl,by rw[h2];rfl⟩
   |_=>cases (show none=some ns from e)
theorem zb.bools{ds:List D}:∀{vs:List V}{ns:List Bool},zb g H ds vs->bools? ds=some ns->vs=ns.map V.bl:=by
 induction ds with
 |nil=>intro vs ns h e;cases h;cases e;rfl
 |cons d ds ih=>
  intro vs ns h e;cases h with
  |cons h t=>cases d with
   |bl i=>
    obtain⟨ms,e1,rfl⟩:=bz.mp (show (bools? ds).map (i :: ·)=some ns from e);have h1:=ih t e1;cases h;rw[h1];rfl
   |_=>cases (show none=some ns from e)
theorem zb.ofInts:∀(ns:List Int),zb g H (ns.map D.int) (ns.map V.int)
 | []=>.nil
 |i::r=>.cons (.int i) (zb.ofInts r)
end
structure Sh where
 o:Addr->Bool
 h:Addr->Bool
 z:L2.St
 y:Hp
noncomputable def hid(H:Hp)(S:Sh):Hp:=λb=>if S.h b=true then none else H b
noncomputable def cM(S:Sh)(a:Addr):Sh:=⟨S.o,λb=>S.h b||b==a,S.z,S.y⟩
theorem bx{H:Hp}{S:Sh}{b:Addr}{o:HO}:hid H S b=some o↔S.h b=false/\H b=some o:=by
 unfold hid;cases h:S.h b<;>simp
theorem zM{H:Hp}{S:Sh}:qf (hid H S) H:=λ_ _ h=>(bx.mp h).2
theorem qq{H H':Hp}{S:Sh}(e:qf H H'):qf (hid H S) (hid H' S):=λb o h=>bx.mpr ⟨(bx.mp h).1,e _ _ (bx.mp h).2⟩
noncomputable def Sub(S:Sh)(H:Hp):Prop:=∀a,(S.h a=true\/S.o a=true)->H a≠none
theorem Sub.same{S:Sh}{H H':Hp}(h:Sub S H)(e:qf H H'):Sub S H':=λa s n=>by
 cases q:H a with
 |none=>exact h a s q
 |some o=>rw[e _ _ q]at n;cases n
theorem Sub.free{S:Sh}{H:Hp}(h:Sub S H){p:Addr}(n:H p=none):S.h p=false:=by
 cases q:S.h p with
 |false=>rfl
 |true=>exact absurd n (h p (.inl q))
theorem Sub.freeO{S:Sh}{H:Hp}(h:Sub S H){p:Addr}(n:H p=none):S.o p=false:=by
 cases q:S.o p with
 |false=>rfl
 |true=>exact absurd n (h p (.inr q))
theorem zg{H:Hp}{p:Addr}{o:HO}(n:H p=none):qf H (upd H p o):=λb u h=>by
 rw[qh (λz=>by rw[z,n]at h;cases h)];exact h
theorem kg{H:Hp}{S:Sh}{p:Addr}{o:HO}(hs:Sub S H)(n:H p=none):hid (upd H p o) S p=some o:=bx.mpr ⟨hs.free n,zy⟩
theorem je{H:Hp}{S:Sh}{p:Addr}{o:HO}(n:H p=none):qf (hid H S) (hid (upd H p o) (cM S p)):=λb u h=>by
 obtain⟨h1,h2⟩:=bx.mp h;have hb:b≠p:=λz=>by rw[z,n]at h2;cases h2
 refine bx.mpr ⟨?_,by rw[qh hb];exact h2⟩;show (S.h b||b==p)=false;rw[h1]
 simpa using hb
theorem mM{H:Hp}{S:Sh}{p:Addr}:qf (hid H (cM S p)) (hid H S):=λb u h=>by
 obtain⟨h1,h2⟩:=bx.mp h;refine bx.mpr ⟨?_,h2⟩;have h1:(S.h b||b==p)=false:=h1;simp at h1;exact h1.1
inductive cY(g:Gc)(H:Hp):D->HO->Prop
 |lst {ds:List D}{vs:List V}:zb g H ds vs->cY g H (.lst ds) (.lst vs)
 |dic (kvs:List (Int×Int)):cY g H (.dic kvs) (.dK (bj kvs))
theorem cY.mono{g:Gc}{H H':Hp}{d:D}{o:HO}(e:qf H H')(h:cY g H d o):cY g H' d o:=by
 cases h with
 |lst r=>exact .lst (r.mono e)
 |dic k=>exact .dic k
theorem cY.rep{g:Gc}{H H':Hp}{d:D}{o:HO}{a:Addr}(h:cY g H d o)(e:qf H H')(ha:H' a=some o):Rep g H' d (.ref a):=by
 cases h with
 |lst r=>exact .lst (SqL.of ha) (r.mono e)
 |dic k=>exact .dic ha
noncomputable def zO(g:Gc)(H:Hp)(S:Sh)(d:D)(v:V):Prop:=
 Rep g (hid H S) d v\/∃a o,S.o a=true/\v=.ref a/\H a=some o/\cY g (hid H S) d o
noncomputable def Fr(g:Gc)(H0:Hp)(S:Sh)(H:Hp)(d:D)(v:V):Prop:=
 ∃a o,v=.ref a/\H0 a=none/\H a=some o/\cY g (hid H (cM S a)) d o
section
variable{g:Gc}{H H' H0:Hp}{S:Sh}{d:D}{v:V}
theorem zO.mono(e:qf H H')(h:zO g H S d v):zO g H' S d v:=by
 rcases h with h|⟨a,o,h1,h2,h3,h4⟩
 ·exact .inl (h.mono (qq e))
 ·exact .inr ⟨a,o,h1,h2,e _ _ h3,h4.mono (qq e)⟩
theorem zO.rep(h:zO g H S d v):Rep g H d v:=by
 rcases h with h|⟨a,o,h1,rfl,h3,h4⟩
 ·exact h.mono zM
 ·exact h4.rep zM h3
theorem zO.lst{ds:List D}(h:zO g H S (.lst ds) v):∃a vs,v=.ref a/\SqL g.K H a vs/\zb g (hid H S) ds vs:=by
 rcases h with h|⟨a,o,h1,rfl,h3,h4⟩
 ·cases h with
  |lst h r=>exact⟨_,_,rfl,zM.seq h,r⟩
 ·cases h4 with
  |lst r=>exact⟨a,_,rfl,SqL.of h3,r⟩
theorem zO.dic{kvs:List (Int×Int)}(h:zO g H S (.dic kvs) v):∃a,v=.ref a/\H a=some (.dK (bj kvs)):=by
 rcases h with h|⟨a,o,h1,rfl,h3,h4⟩
 ·cases h with
  |dic h=>exact⟨_,rfl,zM _ _ h⟩
 ·cases h4 with
  |dic k=>exact⟨a,rfl,h3⟩
theorem zO.strong(h:zO g H S d v)(n:∀ds,d≠.lst ds)(n2:∀k,d≠.dic k:=by intro _ z;cases z):Rep g (hid H S) d v:=by
 rcases h with h|⟨a,o,h1,rfl,h3,h4⟩
 ·exact h
 ·cases h4 with
  |lst r=>exact absurd rfl (n _)
  |dic k=>exact absurd rfl (n2 _)
theorem zO.tup{ds:List D}(h:zO g H S (.tup ds) v):∃a vs,v=.ref a/\SqT g.K H a vs/\zb g (hid H S) ds vs:=by
 cases h.strong (by intro _ z;cases z)with
 |tup h2 r=>exact⟨_,_,rfl,zJ zM h2,r⟩
theorem zO.seq{ds:List D}(h:zO g H S d v)(e:seq? d=some ds):∃a vs,v=.ref a/\(SqL g.K H a vs\/SqT g.K H a vs)/\zb g (hid H S) ds vs:=by
 cases d with
 |tup xs=>cases e;obtain⟨a,vs,h1,h2,h3⟩:=h.tup;exact⟨a,vs,h1,.inr h2,h3⟩
 |lst xs=>cases e;obtain⟨a,vs,h1,h2,h3⟩:=h.lst;exact⟨a,vs,h1,.inl h2,h3⟩
 |_=>cases e
theorem zO.int{i:Int}(h:zO g H S (.int i) v):v=.int i:=by cases h.strong (by intro _ z;cases z);rfl
theorem zO.bl{b:Bool}(h:zO g H S (.bl b) v):v=.bl b:=by cases h.strong (by intro _ z;cases z);rfl
theorem fR{ds:List D}{vs:List V}{p:Addr}(hs:Sub S H)(n:H p=none)(r:zb g (hid H S) ds vs):Rep g (hid (upd H p (.tup vs)) S) (.tup ds) (.ref p):=
 .tup (SqT.of (kg hs n)) (r.mono (qq (zg n)))
theorem er{ds:List D}{vs:List V}{p:Addr}(hs:Sub S H)(n:H p=none)(r:zb g (hid H S) ds vs):Rep g (hid (upd H p (.lst vs)) S) (.lst ds) (.ref p):=
 .lst (SqL.of (kg hs n)) (r.mono (qq (zg n)))
theorem eB{ds:List D}{vs:List V}{p:Addr}(e:qf H0 H)(n:H p=none)(r:zb g (hid H S) ds vs):Fr g H0 S (upd H p (.lst vs)) (.lst ds) (.ref p):=
 ⟨p,_,rfl,e.free n,zy,.lst (r.mono (je n))⟩
theorem CB{kvs:List (Int×Int)}{p:Addr}(hs:Sub S H)(n:H p=none):Rep g (hid (upd H p (.dK (bj kvs))) S) (.dic kvs) (.ref p):=.dic (kg hs n)
theorem Ec{kvs:List (Int×Int)}{p:Addr}(e:qf H0 H)(n:H p=none):Fr g H0 S (upd H p (.dK (bj kvs))) (.dic kvs) (.ref p):=⟨p,_,rfl,e.free n,zy,.dic kvs⟩
end
end EV
namespace L2
open PySem PySem.Spec PyProof.Rows
theorem vU:fillsNumberSlot (.type "tuple") "mul" = pure false:=
 PySem.fillsNumberSlot_seq (id:="tuple.__mul__") (r:=some (.builtin "tuple.__rmul__")) PySem.F.slot_tuple_mul.lookup (by decide +kernel) PySem.F.slot_tuple_rmul.lookup (by decide +kernel)
theorem As:seqRepeat? (.type "tuple")=pure (some (.builtin "tuple.__mul__")):=by
 unfold seqRepeat?;rw[PySem.seqSlot_of (T:="tuple") (name:="__mul__") (id:="tuple.__mul__") PySem.F.slot_tuple_mul.lookup (by decide +kernel),PySem.seqSlot_of (T:="tuple") (name:="__rmul__") (id:="tuple.__rmul__") PySem.F.slot_tuple_rmul.lookup (by decide +kernel)]
 rfl
theorem DE(a:Int)(t:Tok)(l:Addr)(items:Array ae)(n:Nat)(d:Option Addr)(sl:Array (Option ae)) :
  Meets (Builtin.«int.__rmul__» ⟨[.int a t,.ref l],[]⟩) (λ_ R s=>s.heap.get? l=some ⟨.type "tuple",d,.seq items n,sl⟩/\R (.ok (.ret ae.notImplemented)) s):=
 .of_wp λprog w A R s h=>by
  obtain⟨hp,g,d,tk,os⟩:=s;obtain⟨hl,h⟩:=h
  wp_walk
  exact⟨_,rfl,h⟩
theorem jo{M:Model}{A:ax}{α:Type}{b:Bool}{x y:Sem α}{Q:α->af->Prop}{E:ae->af->Prop}{s:af}(h:b=false)(k:ai M A y Q E s):ai M A (if b=true then x else y) Q E s:=by subst h;exact k
theorem Cj{M:Model}{A:ax}{α:Type}{b:Bool}{x y:Sem α}{Q:α->af->Prop}{E:ae->af->Prop}{s:af}(h:b=true)(k:ai M A x Q E s):ai M A (if b=true then x else y) Q E s:=by subst h;exact k
theorem tj(l:Addr)(items:Array ae)(n:Nat)(d:Option Addr)(sl:Array (Option ae))(x:Int)(u:Tok)(h0:0<=x)(h1:x<2^63)(h2:(items.isEmpty||x==1)=true) :
  Meets (Builtin.«tuple.__mul__» ⟨[.ref l,.int x u],[]⟩) (λ_ R s=>s.heap.get? l=some ⟨.type "tuple",d,.seq items n,sl⟩/\R (.ok (.ret (.ref l))) s):=
 .of_wp λprog w A R s h=>by
  obtain⟨hp,g,d,tk,os⟩:=s;obtain⟨hl,h⟩:=h
  wp_walk
  refine jo (by simp;lia) ?_
  wp_walk
  exact⟨_,rfl,h⟩
theorem Bj(l:Addr)(items:Array ae)(n:Nat)(d:Option Addr)(sl:Array (Option ae))(x:Int)(u:Tok)(h0:0<=x)(h1:x<=1000000)(hz:items.size * x.toNat<=16777216)(h2:(items.isEmpty||x==1)=false) :
  Meets (Builtin.«tuple.__mul__» ⟨[.ref l,.int x u],[]⟩) (λ_ R s=>s.heap.get? l=some ⟨.type "tuple",d,.seq items n,sl⟩/\R (.ok (.ret (.ref s.heap.objs.size))) {s with heap:=s.heap.push ⟨.type "tuple",none,.seq (List.foldl (λa b=>a++b) #[] (aZ x.toNat items)) 0,#[]⟩}):=
 .of_wp λprog w A R s h=>by
  obtain⟨hp,g,d,tk,os⟩:=s;obtain⟨hl,h⟩:=h;have hz':(items.size:Int) * x<=16777216:=by
   have:((items.size * x.toNat:Nat):Int)<=16777216:=by lia
   rwa[Int.natCast_mul,Int.toNat_of_nonneg h0]at this
  wp_walk
  refine jo (by simp;lia) ?_
  wp_walk
  have he:items.isEmpty=false:=by
   cases q:items.isEmpty with
   |false=>rfl
   |true=>rw[q]at h2;cases h2
  by_cases hx:x<=0
  ·have:x=0:=by lia
   subst this;refine Cj rfl ?_
   wp_walk
   exact⟨_,rfl,h⟩
  ·refine jo (by rw[he,decide_eq_false hx];rfl) ?_
   wp_walk
   refine wpAny_ite_false (decide_eq_false (by lia)) ?_
   wp_walk
   refine jo (by simp[Builtin.Tuple.tupleTooMany,aV];exact hz') ?_
   wp_walk
   refine wpAny_ite_false (decide_eq_false (by rw[listMul_foldl,aP,Array.toList_empty,List.nil_append,lm_len_rep_flat,aV,Array.length_toList,Nat.mul_comm];lia)) ?_
   wp_walk
   exact⟨_,rfl,h⟩
noncomputable def yd(K:aq):R2:=λx y H Q=>∃l xs j,x=.ref l/\y=.int j/\SqT K H l xs/\0<=j/\xs.length * j.toNat<=16777216/\j<=1000000/\((xs=[]\/j=1)->Q (.ref l) H)/\∀p,H p=none->Q (.ref p) (upd H p (.tup (aZ j.toNat xs).flatten))
theorem rp{xs:List V}{its:List ae}(r:Vals xs its):∀n,Vals (aZ n xs).flatten (aZ n its).flatten
 | 0=>.nil
 |n+1=>by rw[eA,eA];exact r.append (rp r n)
section
variable{X:Cx}
theorem vJ:OpR X (binaryOp .Mult) (yd X.K):=by
 intro pins s σ H x y v u Q I rx ry h;obtain⟨l,xs,j,rfl,rfl,hH,h0,hz,hj,q0,q1⟩:=h;cases rx;obtain⟨t,rfl⟩:=ry;obtain⟨its,r,p1,_⟩:=I.tuple hH;have l1:=r.length;obtain⟨⟨cls,dd,data,sl⟩,ho,hc,n,hd⟩:=id p1;simp only at hc hd;subst hc hd;refine wpAny_binaryOp_repeat_ref (T:="tuple") (U:="int") (by decide) ⟨_,ho,rfl⟩ (λs'=>typeIs_int s' j t) vU PySem.F.fills_int_mul PySem.F.slot_int_rmul As PySem.F.slot_int_index.lookup
  (call_meets PySem.F.slot_int_rmul (typeIs_int s j t) PySem.F.entry_int_rmul (PySem.F.args_int_rmul_2 _ _) (DE j t l its.toArray n dd sl) ⟨ho,rfl,⟨_,ho,rfl⟩,?_⟩)
 cases e:(its.toArray.isEmpty||j==1)with
 |true=>
  refine call_meets PySem.F.slot_tuple_mul ⟨_,ho,rfl⟩ PySem.F.entry_tuple_mul (PySem.F.args_tuple_mul_2 _ _) (tj l its.toArray n dd sl j t h0 (by lia) e) ⟨ho,.ref l,H,I,rfl,q0 ?_⟩;rw[bP]at e;rcases e with e|e
  ·refine .inl (List.length_eq_zero_iff.mp ?_);rw[l1];simpa using e
  ·exact .inr (by simpa using e)
 |false=>
  refine call_meets PySem.F.slot_tuple_mul ⟨_,ho,rfl⟩ PySem.F.entry_tuple_mul (PySem.F.args_tuple_mul_2 _ _) (Bj l its.toArray n dd sl j t h0 hj (by rw[aP,<-l1];exact hz) e) ⟨ho,?_⟩;rw[listMul_foldl];rw[Array.toList_empty,List.nil_append];refine⟨.ref s.heap.objs.size,_,I.laid (t':=s.toks) (o:=.tup (aZ j.toNat xs).flatten) (λb ob q=>Heap.get?_push_of_some _ q) (ay _) ?_,rfl,q1 _ (I.hok.fresh (ay _))⟩;exact⟨by rw[lm_len_rep_flat,aV,Nat.mul_comm];exact hz,_,rp r j.toNat,IsTup.new _ _⟩
end
end L2
namespace EV
open PySem PySem.Spec PySem.P PyProof.Rows L2
mutual
noncomputable def D.py:D->PyData
 | .non=>.none
 | .bl b=>.bool b
 | .int i=>.int i
 | .str x=>.str x
 | .tup xs=>.tuple (pys xs)
 | .lst xs=>.list (pys xs)
 | .fn _=>.none
 | .exn _=>.none
 | .dic _=>.none
noncomputable def pys:List D->List PyData
 | []=>[]
 |x::xs=>x.py::pys xs
end
mutual
theorem nc:∀{d:D},d.plain=true->d.py.canLay0=true
 | .non,_ | .bl _,_ | .int _,_=>by simp[D.py,PyData.canLay0]
 | .str x,h=>by simpa[D.py,PyData.canLay0,D.plain]using h
 | .tup xs,h=>by simp only[D.py,PyData.canLay0];exact kQ (by simpa[D.plain]using h)
 | .lst xs,h=>by simp only[D.py,PyData.canLay0];exact kQ (by simpa[D.plain]using h)
 | .fn _,h | .exn _,h | .dic _,h=>by simp[D.plain]at h
theorem kQ:∀{ds:List D},plainAll ds=true->PyData.canLayAll0 (pys ds)=true
 | [],_=>by simp[pys,PyData.canLayAll0]
 |x::xs,h=>by
  simp only[plainAll,aI]at h;simp only[pys,PyData.canLayAll0,aI];exact⟨nc h.1,kQ h.2⟩
end
mutual
theorem pF:∀(d:D),d.py.depth=d.deep
 | .non | .bl _ | .int _ | .str _ | .fn _ | .exn _ | .dic _=>by simp[D.py,PyData.depth,D.deep]
 | .tup xs=>by simp only[D.py,PyData.depth,D.deep];rw[lP xs]
 | .lst xs=>by simp only[D.py,PyData.depth,D.deep];rw[lP xs]
theorem lP:∀(ds:List D),PyData.depthAll (pys ds)=gW ds
 | []=>by simp[pys,PyData.depthAll,gW]
 |x::xs=>by simp only[pys,PyData.depthAll,gW];rw[pF x,lP xs]
end
mutual
theorem ki:∀(a b:D),a.plain=true->b.plain=true->PyData.eqv a.py b.py=a.eqv b
 | .tup xs,.tup ys,h,h'=>by simp only[D.py,PyData.eqv,D.eqv];exact kE xs ys (by simpa[D.plain]using h) (by simpa[D.plain]using h')
 | .lst xs,.lst ys,h,h'=>by simp only[D.py,PyData.eqv,D.eqv];exact kE xs ys (by simpa[D.plain]using h) (by simpa[D.plain]using h')
 | .fn _,_,h,_=>by simp[D.plain]at h
 | .exn _,_,h,_=>by simp[D.plain]at h
 | .dic _,_,h,_=>by simp[D.plain]at h
 | .non,b,_,h' | .bl _,b,_,h' | .int _,b,_,h' | .str _,b,_,h'=>by cases b<;>simp[D.py,PyData.eqv,D.eqv,D.plain]at h' ⊢
 | .tup _,.non,_,_ | .tup _,.bl _,_,_ | .tup _,.int _,_,_ | .tup _,.str _,_,_ | .tup _,.lst _,_,_=>by simp[D.py,PyData.eqv,D.eqv]
 | .lst _,.non,_,_ | .lst _,.bl _,_,_ | .lst _,.int _,_,_ | .lst _,.str _,_,_ | .lst _,.tup _,_,_=>by simp[D.py,PyData.eqv,D.eqv]
 | .tup _,.fn _,_,h' | .tup _,.exn _,_,h' | .lst _,.fn _,_,h' | .lst _,.exn _,_,h' | .tup _,.dic _,_,h' | .lst _,.dic _,_,h'=>by simp[D.plain]at h'
theorem kE:∀(xs ys:List D),plainAll xs=true->plainAll ys=true->PyData.eqvAll (pys xs) (pys ys)=eqvAll xs ys
 | [],[],_,_=>by simp[pys,PyData.eqvAll,eqvAll]
 |x::xs,y::ys,h,h'=>by
  simp only[plainAll,aI]at h h';simp only[pys,PyData.eqvAll,eqvAll];rw[ki x y h.1 h'.1,kE xs ys h.2 h'.2]
 | [],_::_,_,_=>by simp[pys,PyData.eqvAll,eqvAll]
 |_::_,[],_,_=>by simp[pys,PyData.eqvAll,eqvAll]
end
theorem Rep.data{g:Gc}{H:Hp}{d:D}{v:V}(h:Rep g H d v):d.plain=true->eM g.K H v d.py:=
 h.rec (motive_1:=λd v _=>d.plain=true->eM g.K H v d.py) (motive_2:=λds vs _=>plainAll ds=true->gP g.K H vs (pys ds)) (λ_=>.non) (λb _=>.bl b) (λb _=>.int b) (λb _=>.str b) (λq _ r p=>.tup q (r p)) (λq _ r p=>.lst q (r p)) (λ_ p=>nomatch p) (λ_ _ p=>nomatch p) (λ_ p=>nomatch p) (λ_=>.nil) (λ_ _ a b p=>.cons (a (gI p).1) (b (gI p).2))
theorem iw{d:D}:d.asks=true↔d.plain=true/\d.deep<=20:=by simp[D.asks]
section
variable{X:Cx}{g:Gc}
theorem OpR.imp{f:ae->ae->Sem ae}{r r':R2}(h:OpR X f r)(i:∀x y H Q,r' x y H Q->r x y H Q):OpR X f r':=
 λpins s σ H x y v u Q I rx ry q=>h pins s σ H x y v u Q I rx ry (i _ _ _ _ q)
noncomputable def yZ(K:aq):R2:=λx y H Q=>∃l b xs zs,x=.ref l/\y=.ref b/\SqL K H l xs/\SqL K H b zs/\xs.length+zs.length<=aH/\∀p,H p=none->Q (.ref p) (upd H p (.lst (xs++zs)))
theorem yg:OpR X (binaryOp .Add) (yZ X.K):=by
 intro pins s σ H x y v u Q I rx ry h;obtain⟨l,b,xs,zs,rfl,rfl,hH,hB,hz,q⟩:=h;cases rx;cases ry;obtain⟨its,r,pl,z⟩:=I.list hH;obtain⟨its2,r2,pl2,z2⟩:=I.list hB;have l1:=r.length;have l2:=r2.length;obtain⟨⟨cls,dd,data,sl⟩,ho,hc,n,hd⟩:=pl.isList;obtain⟨⟨cls2,dd2,data2,sl2⟩,ho2,hc2,n2,hd2⟩:=pl2.isList;simp only at hc hd hc2 hd2;subst hc hd hc2 hd2;refine concat_meets ⟨_,ho,rfl⟩ ⟨_,ho2,rfl⟩ noFill_list_add seq_list_add PySem.F.slot_list_add PySem.F.entry_list_add (PySem.F.args_list_add_2 _ _) (list_addW l b its.toArray its2.toArray n n2 dd dd2 sl sl2 (by rw[aP,aP];lia)) ⟨ho,ho2,?_⟩;have ea:its.toArray++its2.toArray=(its++its2).toArray:=by simp
 rw[ea];exact⟨.ref _,_,I.lnew (t':=s.toks) (r.append r2) (by rw[bO];lia),rfl,q _ I.fresh⟩
noncomputable def wV(K:aq):R2:=λx y H Q=>∃l xs j,x=.ref l/\y=.int j/\SqL K H l xs/\0<=j/\xs.length * j.toNat<=16777216/\j<=1000000/\∀p,H p=none->Q (.ref p) (upd H p (.lst (aZ j.toNat xs).flatten))
theorem nS{xs:List V}{its:List ae}(r:Vals xs its):∀n,Vals (aZ n xs).flatten (aZ n its).flatten
 | 0=>.nil
 |n+1=>by rw[eA,eA];exact r.append (nS r n)
theorem AK:OpR X (binaryOp .Mult) (wV X.K):=by
 intro pins s σ H x y v u Q I rx ry h;obtain⟨l,xs,j,rfl,rfl,hH,h0,hz,hj,q⟩:=h;cases rx;obtain⟨t,rfl⟩:=ry;obtain⟨its,r,pl,z⟩:=I.list hH;have l1:=r.length;obtain⟨⟨cls,dd,data,sl⟩,ho,hc,n,hd⟩:=pl.isList;simp only at hc hd;subst hc hd;have hz':its.toArray.size * j.toNat<=16777216:=by rw[aP,<-l1];exact hz
 refine wpAny_binaryOp_repeat_ref (T:="list") (U:="int") (by decide) ⟨_,ho,rfl⟩ (λs'=>typeIs_int s' j t) noFill_list_mul PySem.F.fills_int_mul PySem.F.slot_int_rmul repeat_list PySem.F.slot_int_index.lookup
  (call_meets PySem.F.slot_int_rmul (typeIs_int s j t) PySem.F.entry_int_rmul (PySem.F.args_int_rmul_2 _ _) (lm_int_rmul_list_any j t l its.toArray n dd sl) ⟨ho,rfl,⟨_,ho,rfl⟩,call_meets PySem.F.slot_list_mul ⟨_,ho,rfl⟩ PySem.F.entry_list_mul (PySem.F.args_list_mul_2 _ _) (lm_list_mul_any l its.toArray n dd sl j t (by simp[Builtin.List.listFitsIndex];lia) (by lia) (by simp[Builtin.List.listTooLong,aH];lia)) ⟨ho,?_⟩⟩)
 rw[listMul_foldl_if];exact⟨.ref _,_,I.lnew (t':=s.toks) (nS r j.toNat) (by rw[lm_len_rep_flat,aV,Nat.mul_comm];exact hz),rfl,q _ I.fresh⟩
theorem zb.rep{H:Hp}{ds:List D}{vs:List V}(r:zb g H ds vs):∀n,zb g H (aZ n ds).flatten (aZ n vs).flatten
 | 0=>.nil
 |n+1=>by rw[eA,eA];exact r.append (zb.rep r n)
noncomputable def rOp(g:Gc)(o:O2):R2:=λx y H Q=>∃S da db,Sub S H/\zO g H S da x/\zO g H S db y /\
 match op2 o da db with
 | .ok d=>∀v H',qf H H'->Rep g (hid H' S) d v->(lj da=true->Fr g H S H' d v)->Q v H'
 |_=>False
theorem iF{o:O2}(ho:o≠.add)(hm:o≠.mul){da db d:D}(h:op2 o da db=.ok d):∃i j,da=.int i/\db=.int j/\opI o i j=.ok d:=by
 unfold op2 at h;split at h
 ·exact⟨_,_,rfl,rfl,h⟩
 ·rw[if_neg (λz=>ho z.1)]at h;cases h
 ·rw[if_neg (λz=>ho z.1)]at h;cases h
 ·rw[if_neg (λz=>hm z.1)]at h;cases h
 ·rw[if_neg (λz=>hm z.1)]at h;cases h
 ·cases h
theorem o6{j:Int}(h:small j=true):-(2^64)<j/\j<2^64:=by simpa[small]using h
theorem pC{n:Nat}(h:n<=SZ):n<=sizeLine:=a_ h (by rw[aV];decide)
theorem log2_small{j:Int}(h1:0<j)(h2:j<1000000000000000000000000000000):j.natAbs.log2<9000:=by
 have h3:j.natAbs<2^100:=by
  have:(2:Nat)^100=1267650600228229401496703205376:=by decide +kernel
  rw[this];lia
 have:=(Nat.log2_lt (n:=j.natAbs) (k:=100) (by lia)).mpr h3;lia
theorem vR:OpR X (binaryOp .FloorDiv) (rI (λ_ j=>0<j/\j<1000000000000000000000000000000) λi j=>.int (i/j)):=L2.opI λi j _ _ _ _ _ hc q=>by
 have h1:(0:Int)<j:=hc.1;exact floordiv_int (by lia) (by rw[Int.fdiv_eq_ediv_of_nonneg i (by lia)];exact q) (.inl (PyProof.noPylong_of_log2 (log2_small hc.1 hc.2)))
theorem Ao(hK:X.K=g.K){op:Operator}{o:O2}(h:o2 op=some o):OpR X (binaryOp op) (rOp g o):=by
 have two:∀{f:ae->ae->Sem ae}{C:Int->Int->Prop}{q:Int->Int->Int} (o:O2),OpR X f (rI C λi j=>.int (q i j))->(∀da db d,op2 o da db=.ok d->∃i j,da=.int i/\db=.int j/\C i j/\d=.int (q i j))->OpR X f (rOp g o):=λo k e=>by
  refine OpR.imp k λx y H Q ⟨S,da,db,hs,ra,rb,m⟩=>?_
  cases e1:op2 o da db with
  |ok d=>
   rw[e1]at m;obtain⟨i,j,rfl,rfl,c,rfl⟩:=e da db d e1;exact⟨i,j,ra.int,rb.int,c,m _ _ (qf.refl _) (.int _) (λz=>nomatch z)⟩
  |ex c=>rw[e1]at m;exact m.elim
  |no=>rw[e1]at m;exact m.elim
 have two0:∀{f:ae->ae->Sem ae}{q:Int->Int->Int} (o:O2),OpR X f (rI0 λi j=>.int (q i j))->(∀da db d,op2 o da db=.ok d->∃i j,da=.int i/\db=.int j/\d=.int (q i j))->OpR X f (rOp g o):=λ{f q} o k e=>
  two (C:=λ_ _=>True) (q:=q) o (OpR.imp k λx y H Q ⟨i,j,h1,h2,_,h3⟩=>⟨i,j,h1,h2,h3⟩) λda db d h=>by
   obtain⟨i,j,h1,h2,h3⟩:=e da db d h;exact⟨i,j,h1,h2,trivial,h3⟩
 cases op<;>simp only[o2,b_]at h<;>first|subst h|cases h
 ·-- Add
  refine OpR.imp (uE.or (yE.or yg)) λx y H Q ⟨S,da,db,hs,ra,rb,m⟩=>?_
  cases da with
  |int i=>
   cases db with
   |int j=>exact .inl ⟨i,j,ra.int,rb.int,m _ _ (qf.refl _) (.int _) (λz=>nomatch z)⟩
   |_=>exact m.elim
  |tup xs=>
   cases db with
   |tup ys=>
    simp only[op2,true_and]at m;split at m
    ·rename_i e
     split at e<;>cases e
     rename_i hz
     obtain⟨a,vs,rfl,h1,r1⟩:=ra.tup;obtain⟨b,us,rfl,h2,r2⟩:=rb.tup;refine .inr (.inl ⟨a,b,vs,us,rfl,rfl,by rw[hK];exact h1,by rw[hK];exact h2,by rw[<-r1.length,<-r2.length];exact pC hz,λe=>?_,λ_ e=>?_,λ_ _ p hp=>?_⟩)
     ·subst e;cases r1;exact m _ _ (qf.refl _) (rb.strong (by intro _ z;cases z)) (λz=>nomatch z)
     ·subst e;cases r2;rw[cR]at m;exact m _ _ (qf.refl _) (ra.strong (by intro _ z;cases z)) (λz=>nomatch z)
     ·exact m _ _ (zg hp) (fR hs hp (r1.append r2)) (λz=>nomatch z)
    ·exact m.elim
   |_=>exact m.elim
  |lst xs=>
   cases db with
   |lst ys=>
    simp only[op2,true_and]at m;split at m
    ·rename_i e
     split at e<;>cases e
     rename_i hz
     obtain⟨a,vs,rfl,h1,r1⟩:=ra.lst;obtain⟨b,us,rfl,h2,r2⟩:=rb.lst;refine .inr (.inr ⟨a,b,vs,us,rfl,rfl,by rw[hK];exact h1,by rw[hK];exact h2,by rw[<-r1.length,<-r2.length];exact pC hz,λp hp=>?_⟩);exact m _ _ (zg hp) (er hs hp (r1.append r2)) (λ_=>eB (qf.refl _) hp (r1.append r2))
    ·exact m.elim
   |_=>exact m.elim
  |_=>exact m.elim
 ·exact two0 .sub BS λda db d h=>by obtain⟨i,j,rfl,rfl,h'⟩:=iF (by decide) (by decide) h;clear h;rename _=>h;cases h;exact⟨_,_,rfl,rfl,rfl⟩
 ·refine OpR.imp (yK.or (AK.or vJ)) λx y H Q ⟨S,da,db,hs,ra,rb,m⟩=>?_
  cases e1:op2 .mul da db with
  |ok d=>
   rw[e1]at m;unfold op2 at e1;split at e1
   ·simp only[opI]at e1;split at e1
    ·rename_i i j hc
     cases e1;refine .inl ⟨i,j,ra.int,rb.int,?_,m _ _ (qf.refl _) (.int _) (λz=>nomatch z)⟩;rcases(by simpa using hc)with z|z
     ·exact .inl (o6 z)
     ·exact .inr (o6 z)
    ·cases e1
   ·rw[if_neg (λz=>nomatch z.1)]at e1;cases e1
   ·rw[if_neg (λz=>nomatch z.1)]at e1;cases e1
   ·split at e1
    ·rename_i xs j hc
     cases e1;obtain⟨a,vs,rfl,h1,r1⟩:=ra.lst;refine .inr (.inl ⟨a,vs,j,rfl,rb.int,by rw[hK];exact h1,hc.2.1,by rw[<-r1.length];exact a_ hc.2.2.1 (by decide),hc.2.2.2,λp hp=>m _ _ (zg hp) (er hs hp (r1.rep _)) (λ_=>eB (qf.refl _) hp (r1.rep _))⟩)
    ·cases e1
   ·split at e1
    ·rename_i xs j hc
     cases e1;obtain⟨a,vs,rfl,h1,r1⟩:=ra.tup;refine .inr (.inr ⟨a,vs,j,rfl,rb.int,by rw[hK];exact h1,hc.2.1,by rw[<-r1.length];exact a_ hc.2.2.1 (by decide),hc.2.2.2,λz=>?_,λp hp=>m _ _ (zg hp) (fR hs hp (r1.rep _)) (λz=>nomatch z)⟩);have e:(aZ j.toNat xs).flatten=xs:=by
      rcases z with z|z
      ·have:xs=[]:=by
        subst z;cases r1;rfl
       subst this;exact lm_rep_nil _
      ·subst z;simp
     rw[e]at m;exact m _ _ (qf.refl _) (ra.strong (by intro _ z;cases z)) (λz=>nomatch z)
    ·cases e1
   ·cases e1
  |ex c=>rw[e1]at m;exact m.elim
  |no=>rw[e1]at m;exact m.elim
 ·exact two .mod sC λda db d h=>by obtain⟨i,j,rfl,rfl,h'⟩:=iF (by decide) (by decide) h;clear h;rename _=>h;simp only[opI]at h;split at h<;>cases h;rename_i hc;exact⟨_,_,rfl,rfl,hc,rfl⟩
 ·exact two .pow tZ λda db d h=>by obtain⟨i,j,rfl,rfl,h'⟩:=iF (by decide) (by decide) h;clear h;rename _=>h;simp only[opI]at h;split at h<;>cases h;rename_i hc;exact⟨_,_,rfl,rfl,hc,rfl⟩
 ·exact two .shr CJ λda db d h=>by obtain⟨i,j,rfl,rfl,h'⟩:=iF (by decide) (by decide) h;clear h;rename _=>h;simp only[opI]at h;split at h<;>cases h;rename_i hc;exact⟨_,_,rfl,rfl,hc,rfl⟩
 ·exact two .fdiv vR λda db d h=>by obtain⟨i,j,rfl,rfl,h'⟩:=iF (by decide) (by decide) h;clear h;rename _=>h;simp only[opI]at h;split at h<;>cases h;rename_i hc;exact⟨_,_,rfl,rfl,hc,rfl⟩
theorem jy(hK:X.K=g.K){pins:List (Addr×Obj)}{σ:L2.St}{H:Hp}{s:af}(I:Inv X pins σ H s){d:D}{v:V}{u:ae}(r:Rep g H d v)(a:d.asks=true)(ru:RelV v u):∃as,Reads s.heap u d.py as/\d.py.canLay0=true/\d.py.depth<=20:=by
 obtain⟨h1,h2⟩:=iw.mp a;have h:=r.data h1;rw[<-hK]at h;obtain⟨as,q⟩:=I.reads h ru;exact⟨as,q,nc h1,by rw[pF];exact h2⟩
theorem pX:∀(a b:List Int),eF a b=HT.lexLt a b
 | [],[]=>by simp[eF,HT.lexLt]
 | [],_::_=>by simp[eF,HT.lexLt]
 |_::_,[]=>by simp[eF,HT.lexLt]
 |a::r,b::t=>by
  simp only[eF,HT.lexLt];rw[pX r t]
  try (by_cases h:a=b<;>simp[h])
noncomputable def rCm(g:Gc)(c:C2):R2:=λx y H Q=>∃S da db,zO g H S da x/\zO g H S db y /\
 match qi c da db with
 | .ok b=>Q (.bl b) H
 |_=>False
open Classical in
noncomputable def eG(h:Heap)(q:PyData)(u:ae):Bool:=if e:∃d as,Reads h u d as then PyData.eqv e.choose q else false
theorem ni{h:Heap}{q d:PyData}{u:ae}{as:List Addr}(r:Reads h u d as):eG h q u=PyData.eqv d q:=by
 have e:∃d as,Reads h u d as:=⟨d,as,r⟩
 unfold eG;rw[dif_pos e];obtain⟨bs,r'⟩:=e.choose_spec;rw[(PySem.Reads.unique r' d as r).1]
theorem any_eq(hK:X.K=g.K){pins:List (Addr×Obj)}{σ:L2.St}{H:Hp}{s:af}(I:Inv X pins σ H s){da:D}(ha:da.asks=true){ds:List D}:∀{vs:List V}{us:List ae},zb g H ds vs->Vals vs us->ds.all D.asks=true ->
  us.any (eG s.heap da.py)=inD da ds/\∀u∈us,∃d as,Reads s.heap u d as/\d.canLay0=true/\d.depth<=20:=by
 induction ds with
 |nil=>intro vs us h r _;cases h;cases r;exact⟨rfl,λu h=>nomatch h⟩
 |cons d ds ih=>
  intro vs us h q e;cases h with
  |cons h r=>cases q with
   |cons q t=>
    rw[List.all_cons,aI]at e;obtain⟨as,h1,h2,h3⟩:=jy hK I h e.1 q;obtain⟨i1,i2⟩:=ih r t e.2;refine⟨?_,λu hu=>?_⟩
    ·rw[List.any_cons,i1,ni h1,ki _ _ (iw.mp e.1).1 (iw.mp ha).1]
     rfl
    ·rcases aD.mp hu with rfl|hu
     ·exact⟨_,as,h1,h2,h3⟩
     ·exact i2 u hu
theorem yQ{A:ax}{s:af}{u v:ae}{d:PyData}{as:List Addr}{q:PyData}{bs:List Addr}(hu:A.units+60<cLine)(r:Reads s.heap u d as)(r':Reads s.heap v q bs)(h1:d.canLay0=true)(h2:q.canLay0=true)(h3:d.depth<=20):SeqAt.EqAt A.in1 s u v (eG s.heap q u):=by
 rw[ni r];refine SeqAt.eqAt_reads d q A.in1 s u v as bs r r' h1 h2 ?_;have:min d.depth q.depth<=d.depth:=Nat.min_le_left _ _;show A.units+1+_<_;lia
theorem mV(hK:X.K=g.K)(hu:X.A.units+64<cLine)(neg:Bool):OpR X (aR (if neg then .NotIn else .In)) (λx y H Q=>∃S da db ds,zO g H S da x/\zO g H S db y/\seq? db=some ds/\da.asks=true/\ds.all D.asks=true/\Q (.bl (if neg then !inD da ds else inD da ds)) H):=by
 intro pins s σ H x y v u Q I rx ry h;obtain⟨S,da,db,ds,ra,rb,es,aa,ad,q⟩:=h;obtain⟨as,h1,h2,h3⟩:=jy hK I ra.rep aa rx;obtain⟨a,vs,rfl,hsq,rr⟩:=rb.seq es;cases ry;have go:∀{its:List ae},Vals vs its->(∀w∈its.toArray,SeqAt.EqAt X.A.in1 s w v (eG s.heap da.py w))/\its.toArray.any (eG s.heap da.py)=inD da ds:=λ{its} rv=>by
  obtain⟨i1,i2⟩:=any_eq hK I aa (rr.mono zM) rv ad;refine⟨λw hw=>?_,by simpa using i1⟩;obtain⟨d,bs,r1,r2,r3⟩:=i2 w (by simpa using hw);exact yQ (Nat.lt_of_le_of_lt (Nat.add_le_add_left (by decide) _) hu) r1 h1 r2 h2 r3
 rcases hsq with hsq|hsq
 ·obtain⟨its,rv,pl,_⟩:=I.list (by rw[hK];exact hsq);obtain⟨g1,g2⟩:=go rv;cases neg with
  |false=>exact SeqAt.in_listAt (eG s.heap da.py) pl.isList g1 ⟨.bl _,H,I,rfl,by rw[g2];exact q⟩
  |true=>exact SeqAt.notIn_listAt (eG s.heap da.py) pl.isList g1 ⟨.bl _,H,I,rfl,by rw[g2];exact q⟩
 ·obtain⟨its,rv,pl,_⟩:=I.tuple (by rw[hK];exact hsq);obtain⟨g1,g2⟩:=go rv;cases neg with
  |false=>exact SeqAt.in_tupleAt (eG s.heap da.py) pl g1 ⟨.bl _,H,I,rfl,by rw[g2];exact q⟩
  |true=>exact SeqAt.notIn_tupleAt (eG s.heap da.py) pl g1 ⟨.bl _,H,I,rfl,by rw[g2];exact q⟩
theorem mz(hK:X.K=g.K)(hu:X.A.units+64<cLine)(neg:Bool):OpR X (aR (if neg then .NotEq else .Eq)) (λx y H Q=>∃S da db,zO g H S da x/\zO g H S db y/\da.asks=true/\db.asks=true/\Q (.bl (if neg then !da.eqv db else da.eqv db)) H):=by
 intro pins s σ H x y v u Q I rx ry h;obtain⟨S,da,db,ra,rb,aa,ab,q⟩:=h;obtain⟨as,h1,h2,h3⟩:=jy hK I ra.rep aa rx;obtain⟨bs,k1,k2,k3⟩:=jy hK I rb.rep ab ry;have e:=ki da db (iw.mp aa).1 (iw.mp ab).1;have room:X.A.units+min da.py.depth db.py.depth<cLine:=by
  have:min da.py.depth db.py.depth<=da.py.depth:=Nat.min_le_left _ _;lia
 cases neg with
 |false=>exact SeqAt.compareEq_reads h1 k1 h2 k2 room ⟨.bl _,H,I,by rw[e];rfl,q⟩
 |true=>exact SeqAt.compareNe_reads h1 k1 h2 k2 room ⟨.bl _,H,I,by rw[e];rfl,q⟩
theorem zO.non_iff{S:Sh}{H:Hp}{d:D}{v:V}(r:zO g H S d v):decide (v=.non)=eT d:=by
 cases r.rep<;>rfl
theorem eD{op:CmpOp}{c:C2}{r:R2}(h:OpR X (aR op) r)(k:∀S da db b x y H Q,zO g H S da x->zO g H S db y->qi c da db=.ok b->Q (.bl b) H->r x y H Q):OpR X (aR op) (rCm g c):=by
 refine OpR.imp h λx y H Q ⟨S,da,db,ra,rb,m⟩=>?_
 cases e:qi c da db with
 |ok b=>rw[e]at m;exact k S da db b x y H Q ra rb e m
 |ex c'=>rw[e]at m;exact m.elim
 |no=>rw[e]at m;exact m.elim
theorem yV:OpR X (aR .Is) (λx y H Q=>∃a b,x=.bl a/\y=.bl b/\Q (.bl (a==b)) H):=by
 intro pins s σ H x y v u Q I rx ry h;obtain⟨a,b,rfl,rfl,q⟩:=h;cases rx;cases ry;exact is_bool (i9 I q rfl)
theorem Ea:OpR X (aR .IsNot) (λx y H Q=>∃a b,x=.bl a/\y=.bl b/\Q (.bl (!(a==b))) H):=by
 intro pins s σ H x y v u Q I rx ry h;obtain⟨a,b,rfl,rfl,q⟩:=h;cases rx;cases ry;exact isnot_bool (i9 I q rfl)
theorem oW{n:Bool}{a b:EV.D}{c:Bool}(h:isB n a b=.ok c):∃x y,a=.bl x/\b=.bl y/\c=(n != (x==y)):=by
 unfold isB at h;split at h
 ·cases h;exact⟨_,_,rfl,rfl,rfl⟩
 ·cases h
theorem nY{da db:D}{b:Bool}(h:dg da db=.ok b):∃kvs i,db=.dic kvs/\da=.int i/\b=kvs.any λp=>decide (p.1=i):=by
 unfold dg at h;split at h
 ·split at h
  ·cases h;exact⟨_,_,rfl,rfl,rfl⟩
  ·cases h
 ·cases h
theorem dZ(hK:X.K=g.K)(hu:X.A.units+64<cLine)(op:CmpOp):OpR X (aR op) (rCm g (c2 op)):=by
 cases op
 ·exact eD (mz hK hu false) λS da db b x y H Q ra rb e q=>by
   simp only[c2,qi]at e;split at e<;>cases e
   rename_i a
   simp only[aI]at a;exact⟨S,da,db,ra,rb,a.1,a.2,q⟩
 ·exact eD (mz hK hu true) λS da db b x y H Q ra rb e q=>by
   simp only[c2,qi]at e;split at e<;>cases e
   rename_i a
   simp only[aI]at a;exact⟨S,da,db,ra,rb,a.1,a.2,q⟩
 ·exact eD (Ct.or (tI (by lia))) λS da db b x y H Q ra rb e q=>by
   simp only[c2]at e;cases da with
   |int i=>
    cases db with
    |int j=>cases e;exact .inl ⟨i,j,ra.int,rb.int,q⟩
    |_=>cases e
   |tup xs=>
    cases db with
    |tup ys=>
     simp only[qi]at e;split at e
     ·rename_i ns ms e1 e2
      cases e;obtain⟨a,vs,rfl,h1,r1⟩:=ra.tup;obtain⟨b,us,rfl,h2,r2⟩:=rb.tup;obtain⟨rfl,_⟩:=r1.ints e1;obtain⟨rfl,_⟩:=r2.ints e2;exact .inr ⟨a,b,ns,ms,rfl,rfl,by rw[hK];exact h1,by rw[hK];exact h2,pX ns ms▸q⟩
     ·cases e
    |_=>cases e
   |_=>cases db<;>cases e
 ·exact eD BD λS da db b x y H Q ra rb e q=>by
   cases da with
   |int i=>
    cases db with
    |int j=>cases e;exact⟨_,_,ra.int,rb.int,q⟩
    |_=>cases e
   |_=>cases e
 ·exact eD Br λS da db b x y H Q ra rb e q=>by
   cases da with
   |int i=>
    cases db with
    |int j=>cases e;exact⟨_,_,ra.int,rb.int,q⟩
    |_=>cases e
   |_=>cases e
 ·exact eD vp λS da db b x y H Q ra rb e q=>by
   cases da with
   |int i=>
    cases db with
    |int j=>cases e;exact⟨_,_,ra.int,rb.int,q⟩
    |_=>cases e
   |_=>cases e
 ·exact eD (tX.or yV) λS da db b x y H Q ra rb e q=>by
   simp only[c2,qi]at e;split at e
   ·rename_i hd
    cases e;have hd:db=.non:=by cases db<;>first|rfl|cases hd
    subst hd;cases rb.rep;exact .inl ⟨rfl,by rw[ra.non_iff];exact q⟩
   ·obtain⟨a,c,rfl,rfl,rfl⟩:=oW e;cases ra.rep;cases rb.rep;exact .inr ⟨a,c,rfl,rfl,by cases a<;>cases c<;>exact q⟩
 ·exact eD (xU.or Ea) λS da db b x y H Q ra rb e q=>by
   simp only[c2,qi]at e;split at e
   ·rename_i hd
    cases e;have hd:db=.non:=by cases db<;>first|rfl|cases hd
    subst hd;cases rb.rep;exact .inl ⟨rfl,by rw[ra.non_iff];exact q⟩
   ·obtain⟨a,c,rfl,rfl,rfl⟩:=oW e;cases ra.rep;cases rb.rep;exact .inr ⟨a,c,rfl,rfl,by cases a<;>cases c<;>exact q⟩
 ·exact eD ((mV hK hu false).or (sG hu)) λS da db b x y H Q ra rb e q=>by
   simp only[c2,qi]at e;split at e
   ·rename_i xs es
    split at e<;>cases e
    rename_i a
    simp only[aI]at a;exact .inl ⟨S,da,db,xs,ra,rb,es,a.1,a.2,q⟩
   ·obtain⟨kvs,i,rfl,rfl,rfl⟩:=nY e;obtain⟨l,rfl,hl⟩:=rb.dic;exact .inr ⟨l,kvs,i,rfl,ra.int,hl,q⟩
 ·exact eD ((mV hK hu true).or (Ap hu)) λS da db b x y H Q ra rb e q=>by
   simp only[c2,qi]at e;split at e
   ·rename_i xs es
    split at e<;>cases e
    rename_i a
    simp only[aI]at a;exact .inl ⟨S,da,db,xs,ra,rb,es,a.1,a.2,q⟩
   ·cases ed:dg da db with
    |ok r=>
     rw[ed]at e;obtain⟨kvs,i,rfl,rfl,rfl⟩:=nY ed;obtain⟨l,rfl,hl⟩:=rb.dic;cases e;exact .inr ⟨l,kvs,i,rfl,ra.int,hl,q⟩
    |ex z=>rw[ed]at e;cases e
    |no=>rw[ed]at e;cases e
end
abbrev eO(g:Gc)(H:Hp)(S:Sh):List D->List V->Prop:=Paired (zO g H S)
section
variable{X:Cx}{g:Gc}
theorem my{H:Hp}{ds:List D}{vs:List V}{i:Int}{d:D}(r:zb g H ds vs)(e:atI ds i=some d):∃v,atI vs i=some v/\Rep g H d v:=by
 unfold atI at e ⊢;rw[<-r.length];cases q:ixN ds.length i with
 |none=>rw[q]at e;cases e
 |some j=>rw[q]at e;exact r.get e
noncomputable def Ej(g:Gc):R2:=λx y H Q=>∃S da db,zO g H S da x/\zO g H S db y /\
 match ixD da db with
 | .ok d=>∀v,Rep g (hid H S) d v->Q v H
 |_=>False
theorem wd(hK:X.K=g.K)(hu:X.A.units+64<cLine):IxR X (Ej g):=by
 have k:IxR X (λx y H Q=>(pM X.K x y H Q\/pS X.K x y H Q)\/pD x y H Q):=(uw.or xM).or (wC hu);intro value slice pins s σ H x y v u Q I rx ry h hs;refine k value slice pins s σ H x y v u Q I rx ry ?_ hs;obtain⟨S,da,db,ra,rb,m⟩:=h;cases da with
 |tup xs=>
  cases db with
  |int i=>
   simp only[ixD]at m;cases e:atI xs i with
   |none=>rw[e]at m;exact m.elim
   |some d=>
    rw[e]at m;obtain⟨a,vs,rfl,h1,r1⟩:=ra.tup;obtain⟨w,h2,h3⟩:=my r1 e;exact .inl (.inr ⟨a,vs,i,w,rfl,rb.int,by rw[hK];exact h1,h2,m w h3⟩)
  |_=>exact m.elim
 |lst xs=>
  cases db with
  |int i=>
   simp only[ixD]at m;cases e:atI xs i with
   |none=>rw[e]at m;exact m.elim
   |some d=>
    rw[e]at m;obtain⟨a,vs,rfl,h1,r1⟩:=ra.lst;obtain⟨w,h2,h3⟩:=my r1 e;exact .inl (.inl ⟨a,vs,i,w,rfl,rb.int,by rw[hK];exact h1,h2,m w h3⟩)
  |_=>exact m.elim
 |dic kvs=>
  cases db with
  |int i=>
   simp only[ixD]at m;cases e:atK kvs i with
   |none=>rw[e]at m;exact m.elim
   |some v=>
    rw[e]at m;obtain⟨a,rfl,h1⟩:=ra.dic;exact .inr ⟨a,kvs,i,v,rfl,rb.int,h1,e,m _ (.int v)⟩
  |_=>exact m.elim
 |_=>exact m.elim
noncomputable def wK(g:Gc):V->Option Int->Option Int->Hp->VK->Prop:=λx lo hi H Q=>∃S da,Sub S H/\zO g H S da x /\
 match slD da lo hi with
 | .ok d=>∀v H',qf H H'->Rep g (hid H' S) d v->Q v H'
 |_=>False
theorem Aa{H:Hp}{ds:List D}{vs:List V}(r:zb g H ds vs)(lo hi:Option Int):zb g H (cutD ds lo hi) (gv vs lo hi):=by
 unfold cutD gv;rw[r.length];exact(r.drop _).take _
theorem BI(hK:X.K=g.K):SlR X (wK g):=by
 intro pins s σ H x v vl vu lo hi sl Q I rx hs pl pu h;obtain⟨S,da,hS,ra,m⟩:=h;cases da with
 |lst xs=>
  obtain⟨a,vs,rfl,h1,r1⟩:=ra.lst;exact DX pins s σ H _ v vl vu lo hi sl Q I rx hs pl pu ⟨a,vs,rfl,by rw[hK];exact h1,λp hp=>m _ _ (zg hp) (er hS hp (Aa r1 lo hi))⟩
 |_=>exact m.elim
noncomputable def b1V:B1->ae
 | .len=>.builtin "len"
 | .tuple=>.type "tuple"
 | .list=>.type "list"
 | .sorted=>.builtin "sorted"
 | .all=>.builtin "all"
 | .any=>.builtin "any"
 | .sum=>.builtin "sum"
 | .min=>.builtin "min"
 | .max=>.builtin "max"
 | .abs=>.builtin "abs"
 | .int=>.type "int"
 | .bool=>.type "bool"
noncomputable def rB1(g:Gc)(b:B1):List V->Hp->VK->Prop:=λvs H Q=>∃S ds,Sub S H/\eO g H S ds vs /\
 match b1 b ds with
 | .ok d=>∀v H',qf H H'->Rep g (hid H' S) d v->(b=.list\/b=.sorted->Fr g H S H' d v)->Q v H'
 |_=>False
theorem zt.imp{f:ae}{r r':List V->Hp->VK->Prop}(h:zt X f r)(i:∀xs H Q,r' xs H Q->r xs H Q):zt X f r':=
 λpins s σ H xs us Q I rv q=>h pins s σ H xs us Q I rv (i _ _ _ q)
theorem fF{f:ae}{b:B1}{r:List V->Hp->VK->Prop}(h:zt X f r)
  (k:∀S ds d vs H Q,Sub S H->eO g H S ds vs->b1 b ds=.ok d->(∀v H',qf H H'->Rep g (hid H' S) d v->(b=.list\/b=.sorted->Fr g H S H' d v)->Q v H')->r vs H Q):zt X f (rB1 g b):=by
 refine zt.imp h λvs H Q ⟨S,ds,hs,rs,m⟩=>?_
 cases e:b1 b ds with
 |ok d=>rw[e]at m;exact k S ds d vs H Q hs rs e m
 |ex c=>rw[e]at m;exact m.elim
 |no=>rw[e]at m;exact m.elim
theorem kI{f:ae}{b:B1}(h1:∀d,b11 b d=.no)(h2:∀d e,b12 b d e=.no):zt X f (rB1 g b):=λpins s σ H xs us Q I rv ⟨S,ds,hs,rs,m⟩=>by
 have e:b1 b ds=.no:=by
  unfold b1;split
  ·exact h1 _
  ·exact h2 _ _
  ·rfl
 rw[e]at m;exact m.elim
theorem jq{b:B1}(hb:∀x y,b12 b x y=.no){ds:List D}{d:D}(h:b1 b ds=.ok d):∃x,ds=[x]/\b11 b x=.ok d:=by
 match ds,h with
 | [x],h=>exact⟨x,rfl,h⟩
 | [x,y],h=>have h:b12 b x y=.ok d:=h;rw[hb]at h;cases h
 | [],h=>cases h
 |_::_::_::_,h=>cases h
theorem j6{x r:D}{k:List D->R D}(h:dH x k=.ok r):∃xs,x=.lst xs/\k xs=.ok r:=by
 cases x with
 |lst xs=>exact⟨xs,rfl,h⟩
 |_=>cases h
theorem xE{x r:D}{f:Int->R D}{q:Bool->R D}(h:ibR x f q=.ok r):(∃i,x=.int i/\f i=.ok r)\/(∃b,x=.bl b/\q b=.ok r):=by
 cases x with
 |int i=>exact .inl ⟨i,rfl,h⟩
 |bl i=>exact .inr ⟨i,rfl,h⟩
 |_=>cases h
theorem mO{x y r:D}{k:Int->Int->R D}(h:iiR x y k=.ok r):∃i j,x=.int i/\y=.int j/\k i j=.ok r:=by
 cases x with
 |int i=>
  cases y with
  |int j=>exact⟨i,j,rfl,rfl,h⟩
  |_=>cases h
 |_=>cases h
theorem mh{α β:Type}{o:Option α}{k:α->R β}{r:β}(h:cN o k=.ok r):∃a,o=some a/\k a=.ok r:=by
 cases o with
 |some a=>exact⟨a,rfl,h⟩
 |none=>cases h
theorem jW{b:B1}{ds:List D}{d:D}{q:List D->R D}(h:b1 b ds=.ok d)(e:∀x,b1 b [x]=cN (seq? x) q)(n:ds.length≠1->b1 b ds=.no):∃x xs,ds=[x]/\seq? x=some xs/\q xs=.ok d:=by
 match ds with
 | []=>rw[n (by simp)]at h;cases h
 | [x]=>
  rw[e]at h;cases z:seq? x with
  |none=>rw[z]at h;cases h
  |some xs=>rw[z]at h;exact⟨x,xs,rfl,z,h⟩
 |x::y::r=>rw[n (by simp)]at h;cases h
theorem DP(hK:X.K=g.K):zt X (.builtin "len") (rB1 g .len):=fF wg λS ds d vs H Q hs rs h q=>by
 obtain⟨x,xs,rfl,e,h⟩:=jW (q:=λxs=>.ok (.int xs.length)) h (λ_=>rfl) (λn=>by match ds,n with | [],_=>rfl | [_,_],_=>rfl|_::_::_::_,_=>rfl);cases h;cases rs with
 |cons r rs=>
  cases rs;obtain⟨a,us,rfl,h1,r1⟩:=r.seq e;exact⟨a,us,rfl,by rw[hK];exact h1,by rw[<-r1.length];exact q _ _ (qf.refl _) (.int _) (by simp)⟩
theorem yM(hK:X.K=g.K):zt X (.type "tuple") (rB1 g .tuple):=fF yB λS ds d vs H Q hs rs h q=>by
 obtain⟨x,xs,rfl,e,h⟩:=jW (q:=λxs=>.ok (.tup xs)) h (λ_=>rfl) (λn=>by match ds,n with | [],_=>rfl | [_,_],_=>rfl|_::_::_::_,_=>rfl);cases h;cases rs with
 |cons r rs=>
  cases rs;cases x with
  |lst ys=>
   cases e;obtain⟨a,us,rfl,h1,r1⟩:=r.lst;exact⟨a,us,rfl,.inl ⟨by rw[hK];exact h1,λp hp=>q _ _ (zg hp) (fR hs hp r1) (by simp)⟩⟩
  |tup ys=>
   cases e;have z:=r.strong (by intro _ z;cases z);obtain⟨a,us,rfl,h1,r1⟩:=r.tup;exact⟨a,us,rfl,.inr ⟨by rw[hK];exact h1,q _ _ (qf.refl _) z (by simp)⟩⟩
  |_=>cases e
theorem wZ(hK:X.K=g.K):zt X (.type "list") (rB1 g .list):=fF mQ λS ds d vs H Q hs rs h q=>by
 obtain⟨x,xs,rfl,e,h⟩:=jW (q:=λxs=>.ok (.lst xs)) h (λ_=>rfl) (λn=>by match ds,n with | [],_=>rfl | [_,_],_=>rfl|_::_::_::_,_=>rfl);cases h;cases rs with
 |cons r rs=>
  cases rs;obtain⟨a,us,rfl,h1,r1⟩:=r.seq e;exact⟨a,us,rfl,by rw[hK];exact h1,λp hp=>q _ _ (zg hp) (er hs hp r1) λ_=>eB (qf.refl _) hp r1⟩
theorem A3(hc:X.calm=true)(al:Bool):zt X (.builtin (if al then "all" else "any")) (λxs H Q=>∃(l:Addr) (bs:List Bool),xs=[.ref l]/\SqL X.K H l (bs.map V.bl)/\Q (.bl (if al then bs.all id else bs.any id)) H):=by
 intro pins s σ H xs us Q I r h;obtain⟨l,bs,rfl,hl,q⟩:=h;obtain⟨u,rfl,ru⟩:=r.one;cases ru;obtain⟨its,rv,pl,hz⟩:=I.list hl;have e:=l0 (A:=X.A) rv;subst e;have hlt:l<s.heap.objs.size:=by obtain⟨_,e,_⟩:=pl.isList;exact aG e
 have tr:TruthOf X.prog X.w X.A.in1 (λi v=>(bs.map bu).toArray[i]? = some v) (λi=>(bs[i]?).getD al):=λi v s' Q' E' hP hQ=>by
  have hv:(bs.map bu)[i]? = some v:=by simpa using hP
  rw[List.getElem?_map]at hv;cases e:bs[i]? with
  |none=>rw[e]at hv;cases hv
  |some b=>
   rw[e]at hv;cases hv;simp only[e,Option.getD_some]at hQ;exact bJ hQ
 have wk:=Walks.list (prog:=X.prog) (w:=X.w) (A:=X.A.in1) (I.ok.hd hc) s.heap.objs.size l (aU hlt) (bs.map bu).toArray;cases al with
 |true=>
  refine call_all_walk (wpAny_pyIter_list pl.isList ?_);refine⟨s.heap.objs.size,[s.heap.objs.size,l],[s.heap.objs.size],_,_,_,_,rfl,wk,⟨⟨_,Heap.get?_push_size _ rfl,rfl,rfl⟩,pl.isList.push _⟩,tr,λh' tk hk=>?_⟩;have e:((a8 (bs.map bu).toArray.size).all λi=>(bs[i]?).getD true)=bs.all id:=by
   rw[aP,aF];exact LSm.range_all bs
  rw[e];exact⟨.bl _,H,I.kept (LSm.kept_iter hk),rfl,q⟩
 |false=>
  refine call_any_walk (wpAny_pyIter_list pl.isList ?_);refine⟨s.heap.objs.size,[s.heap.objs.size,l],[s.heap.objs.size],_,_,_,_,rfl,wk,⟨⟨_,Heap.get?_push_size _ rfl,rfl,rfl⟩,pl.isList.push _⟩,tr,λh' tk hk=>?_⟩;have e:((a8 (bs.map bu).toArray.size).any λi=>(bs[i]?).getD false)=bs.any id:=by
   rw[aP,aF,Bool.eq_iff_iff];simp only[dP,List.mem_range,id];constructor
   ·rintro⟨i,hi,e⟩;rw[List.getElem?_eq_getElem hi]at e;exact⟨_,List.getElem_mem hi,e⟩
   ·rintro⟨b,hb,e⟩;obtain⟨i,hi,rfl⟩:=List.getElem_of_mem hb;exact⟨i,hi,by rw[List.getElem?_eq_getElem hi];exact e⟩
  rw[e];exact⟨.bl _,H,I.kept (LSm.kept_iter hk),rfl,q⟩
theorem rE(hK:X.K=g.K)(hc:X.calm=true)(al:Bool):zt X (.builtin (if al then "all" else "any")) (rB1 g (if al then .all else .any)):=fF (A3 hc al) λS ds d vs H Q hs rs h q=>by
 obtain⟨xs,bs,rfl,e,rfl⟩:∃xs bs,ds=[.lst xs]/\bools? xs=some bs/\d=.bl (if al then bs.all id else bs.any id):=by
  cases al
  ·obtain⟨x,rfl,h'⟩:=jq (λ_ _=>rfl) h;obtain⟨xs,rfl,h'⟩:=j6 h';obtain⟨bs,e,h'⟩:=mh h';cases h';exact⟨xs,bs,rfl,e,rfl⟩
  ·obtain⟨x,rfl,h'⟩:=jq (λ_ _=>rfl) h;obtain⟨xs,rfl,h'⟩:=j6 h';obtain⟨bs,e,h'⟩:=mh h';cases h';exact⟨xs,bs,rfl,e,rfl⟩
 cases rs with
 |cons r rs=>
  cases rs;obtain⟨a,us,rfl,h1,r1⟩:=r.lst;have e2:=r1.bools e;subst e2;exact⟨a,bs,rfl,by rw[hK];exact h1,q _ _ (qf.refl _) (.bl _) (by cases al<;>simp)⟩
end
end EV
namespace TS
open PySem PyProof.Rows
structure Cmp(prog:aw)(w:au)(A:ax)(s:af)(κ:SortKind)(D:aA->Prop)(LT:aA->aA->Bool):Prop where
 lt:∀x y,D x->D y->∀Q:Bool->af->Prop,Q (LT x y) s->ai (aj prog w) A (keyLt' κ x.1 y.1) Q (λ_ _=>False) s
 asym:∀x y,LT x y=true->LT y x=false
 neg:∀x y z,LT y x=false->LT z y=false->LT z x=false
section
variable{prog:aw}{w:au}{A:ax}{E:ae->af->Prop}{s:af}{κ:SortKind}{D:aA->Prop}{LT:aA->aA->Bool}
end
section
variable{LT:aA->aA->Bool}
abbrev df:Keyed:=(bM,bM)
noncomputable def at'(a:Array aA)(i:Nat):Keyed:=a.getD i df
variable{a b out:Array aA}{ia ib:Nat}
end
section
variable{prog:aw}{w:au}{A:ax}{E:ae->af->Prop}{s:af}{κ:SortKind}{D:aA->Prop}{LT:aA->aA->Bool}
end
section
variable{LT:aA->aA->Bool}
variable{a b out:Array aA}{na nb:Nat}
end
section
variable{prog:aw}{w:au}{A:ax}{E:ae->af->Prop}{s:af}{κ:SortKind}{D:aA->Prop}{LT:aA->aA->Bool}
end
structure SB(κ:SortKind)(p:Array (Nat×Nat×Nat))(a₁:Array aA)(lo:Nat)(st:SortSt):Prop where
 kd:kindOf st=κ
 fl:failedOf st=none
 pn:pendingOf st=p
 pm:(arrOf st).Perm a₁
 lw:∀i,i<lo->at' (arrOf st) i=at' a₁ i
noncomputable def Kr(R:aA->Int)(xs:Array aA)(i:Nat):Int:=R (at' xs i)
noncomputable def Seg(R:aA->Int)(xs:Array aA)(lo n:Nat):Prop:=∀i j,i<=j->j<n->Kr R xs (lo+i)<=Kr R xs (lo+j)
noncomputable def Dsc(R:aA->Int)(xs:Array aA)(lo n:Nat):Prop:=∀i j,i<=j->j<n->Kr R xs (lo+j)<=Kr R xs (lo+i)
section
variable{prog:aw}{w:au}{A:ax}{E:ae->af->Prop}{s:af}{κ:SortKind}{D:aA->Prop}{LT:aA->aA->Bool}{R:aA->Int}{p:Array (Nat×Nat×Nat)}{a₁:Array aA}{lo:Nat}
theorem SB.size{st:SortSt}(h:SB κ p a₁ lo st):(arrOf st).size=a₁.size:=h.pm.size_eq
end
section
variable{prog:aw}{w:au}{A:ax}{E:ae->af->Prop}{s:af}{κ:SortKind}{D:aA->Prop}{LT:aA->aA->Bool}{R:aA->Int}{p:Array (Nat×Nat×Nat)}{a₁:Array aA}{lo:Nat}{xs:Array aA}
theorem Seg.one:Seg R xs lo 1:=λi j a b=>by rw[show i=j by lia];exact Int.le_refl _
theorem Dsc.one:Dsc R xs lo 1:=λi j a b=>by rw[show i=j by lia];exact Int.le_refl _
noncomputable def Flat(R:aA->Int)(xs:Array aA)(lo m neq:Nat):Prop:=∀i,lo+m-(neq+1)<=i->i<lo+m->Kr R xs i=Kr R xs (lo+m-1)
theorem Flat.zero{m:Nat}:Flat R xs lo m 0:=λi a b=>by rw[show i=lo+m-1 by lia]
end
section
variable{prog:aw}{w:au}{A:ax}{E:ae->af->Prop}{s:af}{κ:SortKind}{D:aA->Prop}{LT:aA->aA->Bool}{R:aA->Int}
end
section
variable{prog:aw}{w:au}{A:ax}{E:ae->af->Prop}{s:af}{κ:SortKind}{D:aA->Prop}{LT:aA->aA->Bool}{R:aA->Int}
end
noncomputable def pr(x:Nat×Nat×Nat):Nat×Nat:=(x.1,x.2.1)
noncomputable def Runs(R:aA->Int)(a:Array aA):Nat->List (Nat×Nat)->Nat->Prop
 |b,[],e=>b=e
 |b,x::l,e=>x.1=b/\1<=x.2/\Seg R a b x.2/\Runs R a (b+x.2) l e
section
variable{R:aA->Int}{a a':Array aA}
end
structure SR(κ:SortKind)(R:aA->Int)(a₁:Array aA)(lo:Nat)(st:SortSt):Prop where
 kd:kindOf st=κ
 fl:failedOf st=none
 pm:(arrOf st).Perm a₁
 rn:Runs R (arrOf st) 0 ((pendingOf st).toList.map pr) lo
 le:lo<=a₁.size
section
variable{prog:aw}{w:au}{A:ax}{E:ae->af->Prop}{s:af}{κ:SortKind}{D:aA->Prop}{LT:aA->aA->Bool}{R:aA->Int}{a₁:Array aA}{lo:Nat}
theorem SR.sz{st:SortSt}(h:SR κ R a₁ lo st):(arrOf st).size=a₁.size:=h.pm.size_eq
end
section
variable{prog:aw}{w:au}{A:ax}{E:ae->af->Prop}{s:af}{κ:SortKind}{D:aA->Prop}{LT:aA->aA->Bool}{R:aA->Int}{a₁:Array aA}{lo:Nat}
end
section
variable{prog:aw}{w:au}{A:ax}{E:ae->af->Prop}{s:af}
end
end TS
namespace TS
open PySem PySem.W PyProof.Rows
section
variable{M:Model}{A:ax}{E:ae->af->Prop}{s:af}
end
section
variable{M:Model}{A:ax}{E:ae->af->Prop}{s:af}
end
section
variable{prog:aw}{w:au}{A:ax}{E:ae->af->Prop}{s:af}
end
end TS
namespace L2
open PySem PySem.Spec PyProof.Rows TS
end L2
namespace L2
open PySem PySem.Spec PyProof.Rows
section
variable{X:Cx}
theorem nD{A:ax}{s:af}{bs:List Bool}{prog:aw}:∀y∈(bs.map bu).toArray,SeqAt.EqAt A s y (.bool true) (y==.bool true):=by
 intro y hy;have hy':y∈bs.map ae.bool:=by simpa using hy
 obtain⟨b,_,rfl⟩:=aM.mp hy';have:=SeqAt.EqAt.bool_bool (A:=A) (s:=s) b true;have e2:(bu b==bu true)=(b==true):=by cases b<;>decide
 rw[e2];exact this
noncomputable def Cz(K:aq):V->List V->Hp->VK->Prop:=λx vs H Q=>∃(l:Addr) (bs:List Bool),x=.ref l/\vs=[.bl true]/\SqL K H l (bs.map V.bl)/\Q (.int ((bs.countP id:Nat):Int)) H
theorem DJ:MtM X "list.count" (Cz X.K):=by
 intro pins s σ H x vs v us Q I rx rv h;obtain⟨l,bs,rfl,rfl,hH,q⟩:=h;cases rx;obtain⟨u,rfl,ru⟩:=rv.one;cases ru;obtain⟨its,r,⟨o,n,e,hc,hd,hs⟩,hz⟩:=I.list hH;have ei:=l0 (A:=X.A) r;subst ei;obtain⟨oc,od,oo,os⟩:=o;simp only at hc hd hs;subst hc hd hs;refine call_meets F.slot_list_count ⟨_,e,rfl⟩ F.entry_list_count (F.args_list_count_2 _ _) (SeqAt.list_countAt l _ n none os (.bool true) (λy=>y==.bool true)) ⟨e,nD (prog:=X.prog),?_⟩;refine⟨.int ((bs.countP id:Nat):Int),H,I.tok _,⟨s.toks,?_⟩,q⟩;have:(List.map bu bs).countP (λy=>y==bu true)=bs.countP id:=by
  rw[List.countP_map]
  congr 1
  funext b;cases b<;>rfl
 rw[show ((List.map bu bs).toArray.toList)=List.map bu bs from rfl,this]
noncomputable def xl(K:aq):V->List V->Hp->VK->Prop:=λx vs H Q=>∃(l:Addr) (bs:List Bool) (j:Nat),x=.ref l/\vs=[.bl true]/\SqL K H l (bs.map V.bl)/\bs.findIdx? id=some j/\Q (.int (j:Int)) H
theorem tN:MtM X "list.index" (xl X.K):=by
 intro pins s σ H x vs v us Q I rx rv h;obtain⟨l,bs,j,rfl,rfl,hH,hj,q⟩:=h;cases rx;obtain⟨u,rfl,ru⟩:=rv.one;cases ru;obtain⟨its,r,⟨o,n,e,hc,hd,hs⟩,hz⟩:=I.list hH;have ei:=l0 (A:=X.A) r;subst ei;obtain⟨oc,od,oo,os⟩:=o;simp only at hc hd hs;subst hc hd hs;obtain⟨hjl,h1,h2⟩:=List.findIdx?_eq_some_iff_getElem.mp hj;have hz':bs.length<=sizeLine:=by simpa using hz
 refine call_meets F.slot_list_index ⟨_,e,rfl⟩ F.entry_list_index (F.args_list_index_2 _ _) (SeqAt.list_indexAt l _ n none os (.bool true) (λy=>y==.bool true) j (by simpa using hjl) (by rw[aV]at hz';lia) ?_ ?_) ⟨e,nD (prog:=X.prog),?_⟩
 ·have:bs[j]=true:=h1;simp[this]
 ·intro m hm hmj;have hm':m<bs.length:=by simpa using hm
  have:bs[m]=false:=by simpa using h2 m hmj
  simp[this]
 ·exact⟨.int (j:Int),H,I.tok _,⟨s.toks,rfl⟩,q⟩
end
section
variable{X:Cx}
end
end L2
namespace EV
open PySem PySem.Spec PySem.P PyProof.Rows L2
theorem insI_perm(i:Int):∀l,(insI i l).Perm (i::l)
 | []=>.refl _
 |j::r=>by
  unfold insI;split
  ·exact .refl _
  ·exact((insI_perm i r).cons j).trans (.swap ..)
theorem sortI_perm:∀l,(sortI l).Perm l
 | []=>.refl _
 |i::r=>(insI_perm i _).trans ((sortI_perm r).cons i)
theorem pB(i:Int):∀{l:List Int},l.Pairwise (·<=·)->(insI i l).Pairwise (·<=·)
 | [],_=>by simp[insI]
 |j::r,h=>by
  unfold insI;obtain⟨h1,h2⟩:=List.pairwise_cons.mp h;split
  ·rename_i hij
   refine List.pairwise_cons.mpr ⟨λx hx=>?_,h⟩;rcases aD.mp hx with rfl|hx
   ·exact hij
   ·exact Int.le_trans hij (h1 x hx)
  ·rename_i hij
   refine List.pairwise_cons.mpr ⟨λx hx=>?_,pB i h2⟩;rcases aD.mp ((insI_perm i r).mem_iff.mp hx)with rfl|hx
   ·lia
   ·exact h1 x hx
theorem lY:∀l:List Int,(sortI l).Pairwise (·<=·)
 | []=>.nil
 |i::r=>pB i (lY r)
theorem jD{l m:List Int}(h1:m.Perm l)(h2:m.Pairwise (·<=·)):m=sortI l:=PySem.W.ksm_same (h1.trans (sortI_perm l).symm) h2 (lY l)
theorem ma(p:Int×Int):∀l,(fW p l).Perm (p::l)
 | []=>.refl _
 |j::r=>by
  unfold fW;split
  ·exact((ma p r).cons j).trans (.swap ..)
  ·exact .refl _
theorem gH:∀l,(zx l).Perm l
 | []=>.refl _
 |i::r=>(ma i _).trans ((gH r).cons i)
theorem mC{a b:Int×Int}:ltP a b=true↔a.1<b.1\/(a.1=b.1/\a.2<b.2):=by
 unfold ltP;by_cases h:a.1=b.1
 ·simp[h]
 ·simp[h]
theorem lO{a b:Int×Int}:ltP a b=false↔b.1<a.1\/(a.1=b.1/\b.2<=a.2):=by
 rw[<-Bool.not_eq_true,mC];lia
theorem pL(p:Int×Int):∀{l:List (Int×Int)},l.Pairwise (λa b=>ltP b a=false)->(fW p l).Pairwise (λa b=>ltP b a=false)
 | [],_=>by simp[fW]
 |j::r,h=>by
  unfold fW;obtain⟨h1,h2⟩:=List.pairwise_cons.mp h;split
  ·rename_i hij
   rw[mC]at hij;refine List.pairwise_cons.mpr ⟨λx hx=>?_,pL p h2⟩;rcases aD.mp ((ma p r).mem_iff.mp hx)with rfl|hx
   ·rw[lO];lia
   ·exact h1 x hx
  ·rename_i hij
   have hij':ltP j p=false:=by simpa using hij
   refine List.pairwise_cons.mpr ⟨λx hx=>?_,h⟩;rcases aD.mp hx with rfl|hx
   ·exact hij'
   ·have:=h1 x hx;rw[lO]at this hij' ⊢;lia
theorem kx:∀l:List (Int×Int),(zx l).Pairwise (λa b=>ltP b a=false)
 | []=>.nil
 |i::r=>pL i (kx r)
theorem n_{l m:List (Int×Int)}(h1:m.Perm l)(h2:m.Pairwise (λa b=>ltP b a=false)):m=zx l:=
 (h1.trans (gH l).symm).eq_of_pairwise (λa b _ _ z1 z2=>by rw[lO]at z1 z2;exact Prod.ext (by lia) (by lia)) h2 (kx l)
theorem map_getD{α:Type}(d:α)(l:List α):(a8 l.length).map (λi=>l.getD i d)=l:=by
 refine List.ext_getElem (by simp) λi h1 h2=>?_
 simp at h1;simp[h1]
theorem AN(ks:List (Int×Int)):(cU ks).map (λi=>ks.getD i (0,0))=zx ks:=by
 obtain⟨h1,h2⟩:=vC ks;refine n_ ?_ h2;have:=h1.map λi=>ks.getD i (0,0)
 rw[map_getD]at this;exact this
section
variable{X:Cx}{g:Gc}
theorem zb.pairs{H:Hp}{ds:List D}:∀{vs:List V}{ps:List (Int×Int)},zb g H ds vs->pairs? ds=some ps->ds=ps.map pairD/\∃as:List Addr,vs=as.map V.ref/\as.length=ps.length/\∀(i:Nat) a p,as[i]? = some a->ps[i]? = some p->SqT g.K H a [.int p.1,.int p.2]:=by
 induction ds with
 |nil=>intro vs ps h e;cases h;cases e;exact⟨rfl,[],rfl,rfl,λi a p h=>by cases h⟩
 |cons d ds ih=>
  intro vs ps h e;have no:∀{P:Prop},pairs? (d::ds)=none->P:=λz=>by rw[z]at e;cases e
  cases h with
  |cons h t=>cases d with
   |tup xs=>cases xs with
    |nil=>exact no rfl
    |cons a xs=>cases a with
     |int x=>cases xs with
      |nil=>exact no rfl
      |cons b xs=>cases b with
       |int y=>cases xs with
        |cons _ _=>exact no rfl
        |nil=>
         obtain⟨ms,e1,rfl⟩:=bz.mp (show (pairs? ds).map ((x,y) :: ·)=some ps from e);obtain⟨h1,as,h2,h3,h4⟩:=ih t e1;cases h with
         | @tup a xs _ q r=>
          obtain⟨rfl,_⟩:=r.ints (ns:=[x,y]) rfl;refine⟨by rw[h1];rfl,a::as,by rw[h2];rfl,congrArg (· + 1) h3,λi b p hb hp=>?_⟩;cases i with
          |zero=>cases hb;cases hp;exact q
          |succ i=>exact h4 i b p hb hp
       |_=>exact no rfl
     |_=>exact no rfl
   |_=>exact no rfl
theorem Be(hK:X.K=g.K)(hu:X.A.units+64<cLine)(hc:X.calm=true):zt X (.builtin "sorted") (rB1 g .sorted):=fF (((Eb.or DF).or Cs).or (wI hc)) λS ds d vs H Q hs rs h q=>by
 obtain⟨x,rfl,h'⟩:=jq (λ_ _=>rfl) h;by_cases htu:∃xs,x=.tup xs
 ·obtain⟨xs,rfl⟩:=htu;have h':(if xs.length<64 then cN (ints? xs) λns=>.ok (.lst ((sortI ns).map D.int))else .no)=R.ok d:=h';split at h'
  ·rename_i hz
   obtain⟨ns,e,h2⟩:=mh h';cases h2;cases rs with
   |cons r rs=>
    cases rs;obtain⟨a,us,rfl,h1,r1⟩:=r.tup;obtain⟨rfl,rfl⟩:=r1.ints e;refine .inl (.inr ⟨a,ns,rfl,by rw[hK];exact h1,by simpa using hz,λp ms hp pm pw=>?_⟩);rw[jD pm pw];exact q _ _ (zg hp) (er hs hp (zb.ofInts _)) λ_=>eB (qf.refl _) hp (zb.ofInts _)
  ·cases h'
 by_cases hdi:∃kvs,x=.dic kvs
 ·obtain⟨kvs,rfl⟩:=hdi;have h':(if kvs.length<64 then R.ok (D.lst ((sortI (kvs.map (·.1))).map D.int))else .no)=R.ok d:=h';split at h'
  ·rename_i hz
   cases h';cases rs with
   |cons r rs=>
    cases rs;obtain⟨a,rfl,h1⟩:=r.dic;refine .inr ⟨a,kvs,rfl,h1,hz,λp ms hp pm pw=>?_⟩;rw[jD pm pw];exact q _ _ (zg hp) (er hs hp (zb.ofInts _)) λ_=>eB (qf.refl _) hp (zb.ofInts _)
  ·cases h'
 refine .inl (.inl ?_);have h':(dH x λxs=>if xs.length<64 then (match ints? xs with
   |some ns=>.ok (.lst ((sortI ns).map D.int))
   |none=>match pairs? xs with
    |some ps=>.ok (.lst ((zx ps).map pairD))
    |none=>eN xs)else eN xs)=.ok d:=by cases x<;>first|exact absurd ⟨_,rfl⟩ htu|exact absurd ⟨_,rfl⟩ hdi|exact h'
 obtain⟨xs,rfl,h2⟩:=j6 h'
 replace h:=h2
 cases rs with
 |cons r rs=>
  cases rs;obtain⟨a,us,rfl,h1,r1⟩:=r.lst;have big:eN xs=.ok d->False:=λh=>by cases h
  by_cases hz:xs.length<64
  ·rw[if_pos hz]at h;cases e:ints? xs with
   |some ns=>
    rw[e]at h;cases h;obtain⟨rfl,rfl⟩:=r1.ints e;refine .inl ⟨a,ns,rfl,by rw[hK];exact h1,by simpa using hz,λp ms hp pm pw=>?_⟩;rw[jD pm pw];exact q _ _ (zg hp) (er hs hp (zb.ofInts _)) λ_=>eB (qf.refl _) hp (zb.ofInts _)
   |none=>
    rw[e]at h;cases e2:pairs? xs with
    |none=>rw[e2]at h;exact(big h).elim
    |some ps=>
     rw[e2]at h;cases h;obtain⟨rfl,as,rfl,hl,hp⟩:=r1.pairs e2;refine .inr ⟨a,as,ps,rfl,by rw[hK];exact h1,hl.symm,by rw[aF]at hz;lia,λi p k h1 h2=>by rw[hK];exact zJ zM (hp i p k h1 h2),λp hn=>?_⟩;have hR:zb g (hid H S) ((zx ps).map pairD) ((cU ps).map λi=>(as.map V.ref).getD i .non):=by
      rw[<-AN,bF];have:∀l:List Nat,(∀i∈l,i<ps.length)->zb g (hid H S) (l.map (pairD∘λi=>ps.getD i (0,0))) (l.map λi=>(as.map V.ref).getD i .non):=by
       intro l
       induction l with
       |nil=>intro _;exact .nil
       |cons i l ih=>
        intro hl';have hi:=hl' i aJ;refine .cons ?_ (ih λj hj=>hl' j (aK _ hj));obtain⟨v,e1,e2⟩:=r1.get (i:=i) (d:=pairD (ps.getD i (0,0))) (by simp[hi]);have e3:(as.map V.ref).getD i .non=v:=by rw[List.getD_eq_getElem?_getD,e1];rfl
        show Rep g (hid H S) (pairD (ps.getD i (0,0))) ((as.map V.ref).getD i .non);rw[e3];exact e2
      exact this _ λi hi=>nN i hi
     exact q _ _ (zg hn) (er hs hn hR) λ_=>eB (qf.refl _) hn hR
  ·rw[if_neg hz]at h;exact(big h).elim
theorem pA(hK:X.K=g.K)(hc:X.calm=true)(mx:Bool):zt X (.builtin (if mx then "max" else "min")) (rB1 g (if mx then .max else .min)):=by
 have two:∀{S:Sh}{H:Hp}{x y:D}{vs:List V}{i j:Int},x=.int i->y=.int j->eO g H S [x,y] vs->vs=[.int i,.int j]:=by
  intro S H x y vs i j hx hy rs;subst hx hy;cases rs with
  |cons r1 rs=>
   cases rs with
   |cons r2 rs=>cases rs;rw[r1.int,r2.int]
 have inv:∀{b:B1}{ds:List D}{d:D},b1 b ds=.ok d->(∃x,ds=[x]/\b11 b x=.ok d)\/∃x y,ds=[x,y]/\b12 b x y=.ok d:=by
  intro b ds d h
  match ds,h with
  | [x],h=>exact .inl ⟨x,rfl,h⟩
  | [x,y],h=>exact .inr ⟨x,y,rfl,h⟩
  | [],h=>cases h
  |_::_::_::_,h=>cases h
 cases mx
 ·exact fF (vx hc) λS ds d vs H Q hs rs h q=>by
   rcases inv h with ⟨x,rfl,h'⟩|⟨x,y,rfl,h'⟩
   ·cases h'
   ·obtain⟨i,j,hx,hy,h'⟩:=mO h';cases h';exact⟨i,j,two hx hy rs,q _ _ (qf.refl _) (.int _) (by simp)⟩
 ·exact fF (Bs hc) λS ds d vs H Q hs rs h q=>by
   rcases inv h with ⟨x,rfl,h'⟩|⟨x,y,rfl,h'⟩
   ·cases h'
   ·obtain⟨i,j,hx,hy,h'⟩:=mO h';cases h';exact⟨i,j,two hx hy rs,q _ _ (qf.refl _) (.int _) (by simp)⟩
theorem Cq{S:Sh}{H:Hp}{vs:List V}{i:Int}(rs:eO g H S [.int i] vs):vs=[.int i]:=by
 cases rs with
 |cons r1 rs=>cases rs;rw[r1.int]
theorem CV{S:Sh}{H:Hp}{vs:List V}{i:Bool}(rs:eO g H S [.bl i] vs):vs=[.bl i]:=by
 cases rs with
 |cons r1 rs=>cases rs;rw[r1.bl]
theorem ux:zt X (.builtin "abs") (rB1 g .abs):=kI (λ_=>rfl) λ_ _=>rfl
theorem ye:zt X (.type "int") (rB1 g .int):=fF xo λS ds d vs H Q hs rs h q=>by
 obtain⟨x,rfl,h'⟩:=jq (λ_ _=>rfl) h;rcases xE h' with ⟨i,rfl,h'⟩|⟨i,rfl,h'⟩
 ·cases h';exact .inl ⟨i,Cq rs,q _ _ (qf.refl _) (.int _) (by simp)⟩
 ·cases h';exact .inr ⟨i,CV rs,q _ _ (qf.refl _) (.int _) (by simp)⟩
theorem CN:zt X (.type "bool") (rB1 g .bool):=kI (λ_=>rfl) λ_ _=>rfl
theorem BV(hK:X.K=g.K)(hc:X.calm=true):zt X (.builtin "sum") (rB1 g .sum):=kI (λ_=>rfl) λ_ _=>rfl
theorem rR(hK:X.K=g.K)(hu:X.A.units+64<cLine):∀b,(X.calm=true\/b=.len\/b=.abs\/b=.tuple\/b=.list\/b=.int\/b=.bool)->zt X (b1V b) (rB1 g b)
 | .len,_=>DP hK
 | .tuple,_=>yM hK
 | .list,_=>wZ hK
 | .sorted,h=>Be hK hu (by simpa using h)
 | .all,h=>rE hK (by simpa using h) true
 | .any,h=>rE hK (by simpa using h) false
 | .sum,h=>BV hK (by simpa using h)
 | .min,h=>pA hK (by simpa using h) false
 | .max,h=>pA hK (by simpa using h) true
 | .abs,_=>ux
 | .int,_=>ye
 | .bool,_=>CN
theorem rQ{H:Hp}{ds:List D}{vs:List V}(r:zb g H ds vs):ds.isEmpty=vs.isEmpty:=by cases r<;>rfl
theorem Bm(hK:X.K=g.K){S:Sh}{H:Hp}{d:D}{v:V}{b:Bool}(r:zO g H S d v)(e:truth d=.ok b):lG X.K v H b:=by
 cases d with
 |non=>cases r.rep;cases e;exact rfl
 |bl c=>cases r.rep;cases e;exact rfl
 |int i=>cases r.rep;cases e;exact rfl
 |tup xs=>
  cases e;obtain⟨a,vs,rfl,h1,r1⟩:=r.tup;exact .inr (.inl ⟨vs,by rw[hK];exact h1,by rw[rQ r1]⟩)
 |lst xs=>
  cases e;obtain⟨a,vs,rfl,h1,r1⟩:=r.lst;exact .inl ⟨vs,by rw[hK];exact h1,by rw[rQ r1]⟩
 |_=>cases e
theorem vo(hK:X.K=g.K):zt X (.builtin "isinstance") (λxs H Q=>∃S d v n t,xs=[v,.ty n]/\zO g H S d v/\tyD d=some t/\n∈["int","bool","str","list","tuple"]/\Q (.bl (fX t n)) H):=by
 intro pins s σ H xs us Q I r h;obtain⟨S,d,v,n,t,rfl,rd,ht,hn,q⟩:=h;obtain⟨u,cu,rfl,rx,rc⟩:=r.two;cases rc;have fin:∀tk,EP X pins σ Q (.bool (fX t n)) {s with toks:=tk}:=λtk=>⟨.bl _,H,I.tok tk,rfl,q⟩
 have kb:t∈["NoneType","bool","int","str","list","tuple","dict"]->bh X.K (.type t) (.type n)=some (fX t n):=λh=>xf h hn
 cases d with
 |non=>cases ht;cases rd.rep;exact gq I rx .non (kb (by simp)) fin
 |bl c=>cases ht;cases rd.rep;exact gq I rx (.bl c) (kb (by simp)) fin
 |int i=>cases ht;cases rd.rep;exact gq I rx (.int i) (kb (by simp)) fin
 |str i=>cases ht;cases rd.rep;exact gq I rx (.str i) (kb (by simp)) fin
 |tup xs=>
  cases ht;obtain⟨a,vs,rfl,h1,_⟩:=rd.tup;cases rx;obtain⟨its,_,⟨o,e1,e2,_⟩,_⟩:=I.tuple (by rw[hK];exact h1);exact bK PySem.W.kitx_tuple I.kIn ⟨o,e1,e2⟩ (kb (by simp)) (λz=>nomatch z) fin
 |lst xs=>
  cases ht;obtain⟨a,vs,rfl,h1,_⟩:=rd.lst;cases rx;obtain⟨its,_,pl,_⟩:=I.list (by rw[hK];exact h1);obtain⟨o,e1,e2,_⟩:=pl.isList;exact bK PySem.W.kitx_list I.kIn ⟨o,e1,e2⟩ (kb (by simp)) (λz=>nomatch z) fin
 |dic=>
  cases ht;cases rd.rep with
  |dic h1=>exact gq I rx (.dK h1) (kb (by simp)) fin
 |_=>cases ht
end
theorem uA{o:O2}{a b:Int}{c:Str}:opI o a b≠.ex c:=by
 cases o<;>simp only[opI]<;>(try split)<;>intro h<;>cases h
theorem Bw{o:O2}{a b:D}{c:Str}:op2 o a b≠.ex c:=by
 unfold op2;split
 ·exact uA
 all_goals ((try split)<;>intro h<;>cases h)
theorem tD{n:Bool}{a b:D}{c:Str}:isB n a b≠.ex c:=by
 unfold isB;split<;>intro h<;>cases h
theorem rF{a b:D}{c:Str}:dg a b≠.ex c:=by
 unfold dg;split<;>(try split)<;>intro h<;>cases h
theorem yY{a b:D}{c:Str}:((dg a b).bind λr=>R.ok !r)≠.ex c:=by
 intro h;cases e:dg a b with
 |ok r=>rw[e]at h;cases h
 |ex z=>exact rF e
 |no=>rw[e]at h;cases h
theorem wB{o:C2}{a b:D}{c:Str}:qi o a b≠.ex c:=by
 unfold qi;split<;>(try split)<;>(try split)<;>intro h<;>first|(cases h;done)|exact tD h|exact rF h|exact yY h
theorem EK{a:D}{c:Str}:truth a≠.ex c:=by
 unfold truth;split<;>intro h<;>cases h
theorem vK{a b:D}{c:Str}:ixD a b≠.ex c:=by
 unfold ixD;split<;>(try split)<;>intro h<;>cases h
theorem sW{a:D}{l h:Option Int}{c:Str}:slD a l h≠.ex c:=by
 unfold slD;split<;>(try split)<;>intro h<;>cases h
theorem lZ{x:D}{k:List D->R D}{c:Str}(h:∀xs,k xs≠.ex c):dH x k≠.ex c:=by
 cases x with
 |lst xs=>exact h xs
 |_=>intro z;cases z
theorem AJ{x:D}{f:Int->R D}{q:Bool->R D}{c:Str}(h:∀i,f i≠.ex c)(h':∀i,q i≠.ex c):ibR x f q≠.ex c:=by
 cases x with
 |int i=>exact h i
 |bl i=>exact h' i
 |_=>intro z;cases z
theorem pY{x y:D}{k:Int->Int->R D}{c:Str}(h:∀i j,k i j≠.ex c):iiR x y k≠.ex c:=by
 cases x with
 |int i=>
  cases y with
  |int j=>exact h i j
  |_=>intro z;cases z
 |_=>intro z;cases z
theorem gG{α β:Type}{o:Option α}{k:α->R β}{c:Str}(h:∀a,k a≠.ex c):cN o k≠.ex c:=by
 cases o with
 |some a=>exact h a
 |none=>intro z;cases z
theorem dM{α:Type}{a:α}{c:Str}:R.ok a≠.ex c:=by intro z;cases z
theorem el{α:Type}{c:Str}:(R.no:R α)≠.ex c:=by intro z;cases z
theorem nP{xs:List D}{c:Str}:eN xs≠.ex c:=el
theorem t_{b:B1}{d:D}{c:Str}:b11 b d≠.ex c:=by
 cases b with
 |len=>exact gG λ_=>dM
 |tuple=>exact gG λ_=>dM
 |list=>exact gG λ_=>dM
 |all=>exact lZ λ_=>gG λ_=>dM
 |any=>exact lZ λ_=>gG λ_=>dM
 |sorted=>
  by_cases h:∃xs,d=.tup xs
  ·obtain⟨xs,rfl⟩:=h;show (if xs.length<64 then cN (ints? xs) λns=>R.ok (D.lst ((sortI ns).map D.int))else R.no)≠R.ex c;split
   ·exact gG λ_=>dM
   ·exact el
  by_cases h':∃kvs,d=.dic kvs
  ·obtain⟨kvs,rfl⟩:=h';show (if kvs.length<64 then R.ok (D.lst ((sortI (kvs.map (·.1))).map D.int))else R.no)≠R.ex c;split
   ·exact dM
   ·exact el
  have e:b11 .sorted d=dH d λxs=>if xs.length<64 then (match ints? xs with
    |some ns=>.ok (.lst ((sortI ns).map D.int))
    |none=>match pairs? xs with
     |some ps=>.ok (.lst ((zx ps).map pairD))
     |none=>eN xs)else eN xs:=by cases d<;>first|exact absurd ⟨_,rfl⟩ h|exact absurd ⟨_,rfl⟩ h'|rfl
  rw[e];refine lZ λ_=>?_
  split
  ·split
   ·exact dM
   ·split
    ·exact dM
    ·exact nP
  ·exact nP
 |abs=>exact el
 |int=>exact AJ (λ_=>dM) λ_=>dM
 |bool=>exact el
 |sum=>exact el
 |min=>exact el
 |max=>exact el
theorem yS{b:B1}{ds:List D}{c:Str}:b1 b ds≠.ex c:=by
 match ds with
 | []=>exact el
 | [_]=>exact t_
 | [x,y]=>
  cases b with
  |min=>exact pY λ_ _=>dM
  |max=>exact pY λ_ _=>dM
  |_=>exact el
 |_::_::_::_=>exact el
structure a9(g:Gc)(c:Cc)(e:E)(S:Sh)(H:Hp)(d:D)(v:V)(H':Hp):Prop where
 same:qf H H'
 rb:zO g H' S d v
 st:esc e=true->Rep g (hid H' S) d v
 fr:fresh c e=true->Fr g H S H' d v
 frc:dY c e=true->bZ d=true->Fr g H S H' d v
structure SE(g:Gc)(c:Cc)(τ:Env)(σ:L2.St)(H:Hp)(S:Sh):Prop where
 len:τ.length=σ.length
 val:∀(i:Nat) (d:D),τ[i]? = some (some d)->∃v,σ[i]? = some (some v)/\zO g H S d v/\∀x,c.N[i]? = some x->c.own.contains x=false->Rep g (hid H S) d v
 sub:Sub S H
theorem SE.up{g:Gc}{c:Cc}{τ:Env}{σ:L2.St}{H H':Hp}{S:Sh}(s:SE g c τ σ H S)(e:qf H H'):SE g c τ σ H' S:=
 ⟨s.len,λi d h=>let ⟨v,h1,h2,h3⟩:=s.val i d h;⟨v,h1,h2.mono e,λx a b=>(h3 x a b).mono (qq e)⟩,s.sub.same e⟩
noncomputable def tR{α:Type}(g:Gc)(E:XK)(H:Hp)(r:R α)(k:α->Prop):Prop:=match r with
 | .ok a=>k a
 | .ex c=>∀H' C,qf H H'->g.clA c=some C->E (.ref C) none H'
 | .no=>False
theorem tR.up{α:Type}{g:Gc}{E:XK}{H H':Hp}{r:R α}{k:α->Prop}(h:tR g E H r k)(e:qf H H'):tR g E H' r k:=by
 cases r with
 |ok a=>exact h
 |ex c=>exact λH2 C e2 hc=>h H2 C (e.trans e2) hc
 |no=>exact h
theorem tR.imp{α:Type}{g:Gc}{E:XK}{H:Hp}{r:R α}{k k':α->Prop}(h:tR g E H r k)(i:∀a,k a->k' a):tR g E H r k':=by
 cases r with
 |ok a=>exact i a h
 |ex c=>exact h
 |no=>exact h
section
variable(w:W)(g:Gc)(c:Cc)(E:XK)
noncomputable def tE(e:EV.E):TE:=λσ H Q=>∃τ S,SE g c τ σ H S/\tR g E H (evE w e τ) λd=>∀v H',a9 g c e S H d v H'->Q v H'
noncomputable def tT(t:T):TT:=λσ H Q=>∃τ S,SE g c τ σ H S/\tR g E H (evT w t τ) λb=>∀H',qf H H'->Q b H'
noncomputable def tA(es:Es):TA:=λσ H Q=>∃τ S,SE g c τ σ H S/\tR g E H (zz w es τ) λds=>∀vs H',qf H H'->eO g H' S ds vs->(eQ es=true->zb g (hid H' S) ds vs)->Q vs H'
noncomputable def tOe(o:OE):TO:=λσ H Q=>∃τ S,SE g c τ σ H S/\tR g E H (evO w o τ) λi=>∀H',qf H H'->Q i H'
noncomputable def Goes(g:Gc)(J:L2.It)(ds:List D)(H:Hp)(S:Sh):Prop:=
 (∀i,ds.length<=i->J.stop i H)/\∀i d,ds[i]? = some d->J.go i H/\∀x H',J.yld i H x H'->qf H H'/\Rep g (hid H' S) d x
noncomputable def tIt(it:It):TI:=λσ H R=>∃τ S,SE g c τ σ H S/\tR g E H (evI w it τ) λds=>∀J H',qf H H' ->
 (∀H2 S2,qf H' H2->qf (hid H' S) (hid H2 S2)->Sub S2 H2->Goes g J ds H2 S2)->(owned it=false->∀H2 S2,qf (hid H' S) (hid H2 S2)->Sub S2 H2->Goes g J ds H2 S2)->R J H'
end
theorem PE.imp{X:Cx}{e:Expr}{t t':TE}(h:PE X e t)(i:∀σ H Q,t' σ H Q->t σ H Q):PE X e t':=λpins s σ H Q I q=>h pins s σ H Q I (i _ _ _ q)
theorem PT.imp{X:Cx}{e:Expr}{t t':TT}(h:PT X e t)(i:∀σ H Q,t' σ H Q->t σ H Q):PT X e t':=λpins s σ H Q I q=>h pins s σ H Q I (i _ _ _ q)
theorem PW.imp{X:Cx}{e:Expr}{t t':TT}(h:PW X e t)(i:∀σ H Q,t' σ H Q->t σ H Q):PW X e t':=λwh pins s σ H Q I q=>h wh pins s σ H Q I (i _ _ _ q)
theorem PA.imp{X:Cx}{e:List Expr}{t t':TA}(h:PA X e t)(i:∀σ H Q,t' σ H Q->t σ H Q):PA X e t':=λpos pins s σ H Q I q=>h pos pins s σ H Q I (i _ _ _ q)
theorem PO.imp{X:Cx}{e:Option Expr}{t t':TO}(h:PO X e t)(i:∀σ H Q,t' σ H Q->t σ H Q):PO X e t':=λpins s σ H Q I q=>h pins s σ H Q I (i _ _ _ q)
theorem PI.imp{X:Cx}{tg e:Expr}{t t':TI}(h:PI X tg e t)(i:∀σ H Q,t' σ H Q->t σ H Q):PI X tg e t':=λpins s σ H Q I q=>h pins s σ H Q I (i _ _ _ q)
theorem PS.imp{X:Cx}{e:Stmt}{t t':TS}(h:PS X e t)(i:∀D σ H,t' D σ H->t D σ H):PS X e t':=λpins s σ H Q I q=>h pins s σ H Q I (i _ _ _ q)
theorem PSs.imp{X:Cx}{e:List Stmt}{t t':TS}(h:PSs X e t)(i:∀D σ H,t' D σ H->t D σ H):PSs X e t':=λpins s σ H Q I q=>h pins s σ H Q I (i _ _ _ q)
section
variable{w:W}{g:Gc}{c:Cc}{E:XK}{τ:Env}{σ:L2.St}{H H0:Hp}{S:Sh}
theorem zf{α:Type}{e:EV.E}{f:D->R α}{P:α->Prop}{Q:VK}(se:SE g c τ σ H S)(h:tR g E H ((evE w e τ).bind f) P)(k:∀d v H',evE w e τ=.ok d->a9 g c e S H d v H'->tR g E H' (f d) P->Q v H'):tE w g c E e σ H Q:=by
 refine⟨τ,S,se,?_⟩;cases q:evE w e τ with
 |ok d=>rw[q]at h;exact λv H' p=>k d v H' q p (tR.up h p.same)
 |ex x=>rw[q]at h;exact h
 |no=>rw[q]at h;exact h
theorem jO{α:Type}{t:T}{f:Bool->R α}{P:α->Prop}{Q:Bool->Hp->Prop}(se:SE g c τ σ H S)(h:tR g E H ((evT w t τ).bind f) P)(k:∀b H',evT w t τ=.ok b->qf H H'->tR g E H' (f b) P->Q b H'):tT w g c E t σ H Q:=by
 refine⟨τ,S,se,?_⟩;cases q:evT w t τ with
 |ok d=>rw[q]at h;exact λH' p=>k d H' q p (tR.up h p)
 |ex x=>rw[q]at h;exact h
 |no=>rw[q]at h;exact h
theorem gf{α:Type}{es:Es}{f:List D->R α}{P:α->Prop}{Q:List V->Hp->Prop}(se:SE g c τ σ H S)(h:tR g E H ((zz w es τ).bind f) P)
  (k:∀ds vs H',zz w es τ=.ok ds->qf H H'->eO g H' S ds vs->(eQ es=true->zb g (hid H' S) ds vs)->tR g E H' (f ds) P->Q vs H'):tA w g c E es σ H Q:=by
 refine⟨τ,S,se,?_⟩;cases q:zz w es τ with
 |ok d=>rw[q]at h;exact λvs H' p r r'=>k d vs H' q p r r' (tR.up h p)
 |ex x=>rw[q]at h;exact h
 |no=>rw[q]at h;exact h
theorem oU{α:Type}{o:OE}{f:Option Int->R α}{P:α->Prop}{Q:Option Int->Hp->Prop}(se:SE g c τ σ H S)(h:tR g E H ((evO w o τ).bind f) P)(k:∀b H',evO w o τ=.ok b->qf H H'->tR g E H' (f b) P->Q b H'):tOe w g c E o σ H Q:=by
 refine⟨τ,S,se,?_⟩;cases q:evO w o τ with
 |ok d=>rw[q]at h;exact λH' p=>k d H' q p (tR.up h p)
 |ex x=>rw[q]at h;exact h
 |no=>rw[q]at h;exact h
theorem pG{e:EV.E}(h:fresh c e=true):dY c e=true:=by
 cases e<;>first|exact h|cases h
theorem a9.of{e:EV.E}{d:D}{v:V}{H':Hp}(s:qf H H')(r:Rep g (hid H' S) d v)(f:dY c e=false):a9 g c e S H d v H':=⟨s,.inl r,λ_=>r,(λz=>by rw[pG z]at f;cases f),λz=>by rw[f]at z;cases z⟩
theorem a9.new{e:EV.E}{d:D}{v:V}{H':Hp}(s:qf H H')(r:Rep g (hid H' S) d v)(f:Fr g H S H' d v):a9 g c e S H d v H':=⟨s,.inl r,λ_=>r,λ_=>f,λ_ _=>f⟩
theorem Fr.low{d:D}{v:V}{H1 H':Hp}(f:Fr g H1 S H' d v)(e:qf H H1):Fr g H S H' d v:=by
 obtain⟨a,o,h1,h3,h4,h5⟩:=f;exact⟨a,o,h1,e.free h3,h4,h5⟩
end
noncomputable def b1N:B1->Str
 | .len=>"len"
 | .tuple=>"tuple"
 | .list=>"list"
 | .sorted=>"sorted"
 | .all=>"all"
 | .any=>"any"
 | .sum=>"sum"
 | .min=>"min"
 | .max=>"max"
 | .abs=>"abs"
 | .int=>"int"
 | .bool=>"bool"
theorem xW:∀b,bG (b1N b)=some (b1V b)
 | .len | .tuple | .list | .sorted | .all | .any | .sum | .min | .max | .abs | .int | .bool=>by decide +kernel
noncomputable def spF(w:W)(g:Gc)(x:Str)(fr:Bool):Sp:=λvs H Q E=>∃S ds,Sub S H/\zb g (hid H S) ds vs /\
 tR g E H (w.call x ds) λd=>∀v H',qf H H'->Rep g (hid H' S) d v->(fr=true->bZ d=true->Fr g H S H' d v)->Q v H'
structure jt(w:W)(g:Gc)(P:aw)(wl:au)(mg:Str->Option ae)(base:Heap)(A:ax)(calm:Bool)(x:Str)(f:Addr)(fr:Bool):Prop where
 at_:mg x=some (.ref f)
 kp:cJ g.K (.ref f)=true
 fn:∃k fd ps,Binds g.K fd ps []/\((calm=true/\fD P wl g.K mg base (CX1 P wl) k f fd ps (spF w g x fr)/\cm k A)\/(calm=false/\iS P wl g.K mg base (CX1 P wl) k f fd ps (spF w g x fr)/\eC k A))
noncomputable def GM(w:W)(g:Gc)(P:aw)(wl:au)(mg:Str->Option ae)(base:Heap)(A:ax)(calm:Bool)(x:Str):GK->Prop
 | .fn fr=>∃f,g.fnA x=some f/\jt w g P wl mg base A calm x f fr
 | .val=>∃u v d,mg x=some u/\RelV v u/\w.glb x=some d/\∀H,Rep g H d v
 | .bi b=>mg x=none/\x=b1N b/\∃id,b1V b=.builtin id
 | .rng=>mg x=none/\x = "range"
 | .enum=>mg x=none/\x = "enumerate"
 | .zip=>mg x=none/\x = "zip"
 | .isi=>mg x=none/\x = "isinstance"
 | .ty n b=>mg x=none/\bG x=some (.type n)/\(n∈["int","bool","str","list","tuple"]\/n = "ValueError")/\∀b',b=some b'->x=b1N b'/\b1V b'=.type n
 | .exc=>∃C,mg x=some (.ref C)/\g.clA x=some C
 | .exk=>∃C,mg x=some (.ref C)/\g.clA x=some C
 | .set=>mg x=none/\bG x=some (.type "set")
 | .rvd=>mg x=none/\x = "reversed"
structure XO(w:W)(g:Gc)(c:Cc)(E:XK)(X:Cx):Prop where
 K:X.K=g.K
 nm:X.env.scope.names=c.nm
 N:X.N=c.N
 nd:c.N.Nodup
 calm:c.calm=true->X.calm=true
 units:X.A.units+64<cLine
 fn:∀x,(c.fnc=true\/c.oc.contains x=true)->X.fn x=true
 kind:X.env.scope.kind=.function
 pass:Passes (CX1 X.prog X.w) X E
 gok:∀x k,c.G.lookup x=some k->GM w g X.prog X.w X.mg X.base X.A X.calm x k
 fns:X.calm=true->∀x f,g.fnA x=some f->∃fr,jt w g X.prog X.w X.mg X.base X.A X.calm x f fr
 -- what isinstance says of a caught error
 sub:∀k cl b,w.sub k cl=some b->∃C cv,g.clA k=some C/\cL g.K C/\bh g.K (.ref C) cv=some b/\match cl with
  | .ty n=>n = "ValueError"/\cv=.type n
  | .ex x=>∃D,g.clA x=some D/\cv=.ref D
section
variable{w:W}{g:Gc}{c:Cc}{E:XK}{X:Cx}
theorem dD{x:Str}{i:Nat}(h:loc c x=some i):c.N[i]? = some x/\(c.nm.lookup x=some .local\/c.nm.lookup x=some .cell\/c.nm.lookup x=some .free)/\(x==("__debug__" : Str))=false/\(x==("__classdict__" : Str))=false:=by
 unfold loc at h;split at h
 ·cases h
 ·rename_i hd
  have hd':(x==("__debug__" : Str))=false/\(x==("__classdict__" : Str))=false:=by simpa using hd
  have fin:∀{j},(if c.N[j]? = some x then some j else none)=some i->c.N[i]? = some x:=λ{j} z=>by
   split at z
   ·cases z;assumption
   ·cases z
  split at h
  ·rename_i q;exact⟨fin h,.inl q,hd'⟩
  ·rename_i q;exact⟨fin h,.inr (.inl q),hd'⟩
  ·rename_i q;exact⟨fin h,.inr (.inr q),hd'⟩
  ·cases h
theorem zr{x:Str}{k:GK}(h:glob c x=some k):c.nm.lookup x=some .globalImplicit/\c.G.lookup x=some k/\(x==("__debug__" : Str))=false/\x≠"__name__":=by
 unfold glob at h;split at h
 ·cases h
 ·rename_i hd
  have hd':(x==("__debug__" : Str))=false/\(x==("__name__" : Str))=false:=by simpa using hd
  split at h
  ·rename_i q;exact⟨q,h,hd'.1,by simpa using hd'.2⟩
  ·cases h
theorem XO.gl(O:XO w g c E X){x:Str}{k:GK}(h:glob c x=some k):Gl X x:=by
 show X.env.scope.names.lookup x=_;rw[O.nm];exact(zr h).1
theorem XO.gm(O:XO w g c E X){x:Str}{k:GK}(h:glob c x=some k):GM w g X.prog X.w X.mg X.base X.A X.calm x k:=O.gok x k (zr h).2.1
theorem qg{e:Expr}{es:List Expr}{env:PySem.Env}(h:isStar e=false):aL (e::es) env=(false,eval e env)::aL es env:=by
 cases e<;>first|rfl|(simp[isStar]at h)
theorem iy{es:List Expr}{env:PySem.Env}{pos:Pos}:(∀e∈es,isStar e=false)->(backTo pos (aL es env)).any (·.1)=false:=by
 induction es with
 |nil=>intro _;rfl
 |cons e es ih=>
  intro h;rw[qg (h e aJ)];show (false||(backTo pos (aL es env)).any (·.1))=false;rw[ih λe he=>h e (aK _ he)]
  rfl
theorem fK:∀{n:Nat}{es:List Expr}{ir:Es},cEs n c es=some ir->∀e∈es,isStar e=false
 | 0,_,_,h=>by simp[cEs]at h
 |n+1,[],_,_=>by simp
 |n+1,e::es,ir,h=>by
  simp only[cEs]at h;cases hs:isStar e with
  |true=>simp[hs]at h
  |false=>
   simp only[hs,bU,if_false,aE,aB]at h;obtain⟨_,_,r,hr,_⟩:=h;intro x hx;rcases aD.mp hx with rfl|hx
   ·exact hs
   ·exact fK hr x hx
theorem o3{x:Str}{f:Addr}{fr:Bool}{e:Expr}{es:List Expr}{p pos:Pos}{t:TA}(O:XO w g c E X)(C:jt w g X.prog X.w X.mg X.base X.A X.calm x f fr)(hg:Gl X x)(hd:(x==("__debug__" : Str))=false)(ha:PA X (e::es) t)
  (hs:∀z∈e::es,isStar z=false):PE X (.Call (.Name x p) (e::es) [] pos) (lp (spF w g x fr) [] E t):=by
 obtain⟨k,fd,ps,hb,h⟩:=C.fn;have he:=qg (es:=es) (env:=X.env) (hs e aJ);have hp:=iy (env:=X.env) (pos:=pos) λz hz=>hs z (aK _ hz)
 rw[<-O.K]at hb h;rcases h with ⟨_,F,r⟩|⟨_,F,r⟩
 ·exact uQ F r hg C.at_ (by rw[O.K];exact C.kp) hb .nil O.pass ha hd he hp
 ·exact xp F r hg C.at_ (by rw[O.K];exact C.kp) hb .nil O.pass ha hd he hp
end
end EV
namespace L2
open PySem PySem.Spec PyProof.Rows
section
variable{X:Cx}
end
end L2
namespace EV
open PySem PySem.Spec PySem.P PyProof.Rows L2
section
variable{w:W}{g:Gc}{c:Cc}{E:XK}{X:Cx}{a b d f:Expr}{ia ib id' if':EV.E}{pos p2:Pos}{ta tb:T}
theorem i7{e:Expr}{v:V}{dd:D}(h:PE X e (tC v))(r:∀H,Rep g H dd v):PE X e (tE w g c E (.con dd)):=PE.imp h λσ H Q ⟨τ,S,se,k⟩=>k v H (a9.of (qf.refl _) (r _) rfl)
theorem jX{x:Str}{i:Nat}(O:XO w g c E X)(h:loc c x=some i):PE X (.Name x pos) (tE w g c E (if c.own.contains x then .own i else .var i)):=by
 obtain⟨h1,h2,h3,h4⟩:=dD h;refine PE.imp (fU (i:=i) (by rw[O.N];exact h1) (by unfold eZ;rw[O.nm];exact h2) h3 h4) λσ H Q ⟨τ,S,se,k⟩=>?_
 have key:∀e,evE w e τ=zP τ i->dY c e=false->(esc e=true->c.own.contains x=false)->tR g E H (evE w e τ) (λd=>∀v H',a9 g c e S H d v H'->Q v H')->fk i σ H Q:=λe e1 e2 e3 k=>by
  rw[e1]at k;unfold zP at k;cases q:τ[i]? with
  |none=>rw[q]at k;exact k.elim
  |some o=>
   cases o with
   |none=>rw[q]at k;exact k.elim
   |some d=>
    rw[q]at k;obtain⟨v,z1,z2,z3⟩:=se.val i d q;exact⟨v,z1,k v H ⟨qf.refl _,z2,λz=>z3 x h1 (e3 z),(λz=>by rw[pG z]at e2;cases e2),λz=>by rw[e2]at z;cases z⟩⟩
 cases ho:c.own.contains x with
 |true=>rw[ho]at k;exact key (.own i) (by simp[zl,zp,zh,zm,zk,ze,zc,zq,zo,qy,qJ,qu,qA,qI,qr,qK,qD,qx,qL,qH,qN,qo,qB,qP,qE,qp,qV,qU,qM,qw,qG,qY,qR,qO,qQ,qT,qW,qS,qX,qF]) rfl (by intro z;cases z) k
 |false=>rw[ho]at k;exact key (.var i) (by simp[zl,zp,zh,zm,zk,ze,zc,zq,zo,qy,qJ,qu,qA,qI,qr,qK,qD,qx,qL,qH,qN,qo,qB,qP,qE,qp,qV,qU,qM,qw,qG,qY,qR,qO,qQ,qT,qW,qS,qX,qF]) rfl (λ_=>ho) k
theorem B4{x:Str}(O:XO w g c E X)(h:glob c x=some .val):PE X (.Name x pos) (tE w g c E (.glb x)):=by
 obtain⟨u,v,d,h1,h2,h3,h4⟩:=O.gm h;refine PE.imp (ll (O.gl h) h1 h2 (zr h).2.2.1) λσ H Q ⟨τ,S,se,k⟩=>?_
 simp only[zl,zp,zh,zm,zk,ze,zc,zq,zo,qy,qJ,qu,qA,qI,qr,qK,qD,qx,qL,qH,qN,qo,qB,qP,qE,qp,qV,qU,qM,qw,qG,qY,qR,qO,qQ,qT,qW,qS,qX,qF,h3]at k;exact k v H (a9.of (qf.refl _) (h4 _) rfl)
theorem xZ{x:Str}{fr:Bool}(O:XO w g c E X)(h:glob c x=some (.fn fr)):PE X (.Name x pos) (tE w g c E (.fnv x)):=λpins s σ H Q I ⟨τ,S,se,kk⟩=>by
 simp only[zl,zp,zh,zm,zk,ze,zc,zq,zo,qy,qJ,qu,qA,qI,qr,qK,qD,qx,qL,qH,qN,qo,qB,qP,qE,qp,qV,qU,qM,qw,qG,qY,qR,qO,qQ,qT,qW,qS,qX,qF]at kk;exact aS kk
theorem pE{τ:EV.Env}{e:EV.E}{d:D}(h:isL e=true)(he:evE w e τ=.ok d):lj d=true:=by
 cases e<;>first|(cases h;done)|skip
 ·simp only[zl,zp,zh,zm,zk,ze,zc,zq,zo,qy,qJ,qu,qA,qI,qr,qK,qD,qx,qL,qH,qN,qo,qB,qP,qE,qp,qV,qU,qM,qw,qG,qY,qR,qO,qQ,qT,qW,qS,qX,qF]at he;cases q:zz w ‹_› τ with
  |ok ds=>rw[q]at he;cases he;rfl
  |ex z=>rw[q]at he;cases he
  |no=>rw[q]at he;cases he
 ·simp only[zl,zp,zh,zm,zk,ze,zc,zq,zo,qy,qJ,qu,qA,qI,qr,qK,qD,qx,qL,qH,qN,qo,qB,qP,qE,qp,qV,qU,qM,qw,qG,qY,qR,qO,qQ,qT,qW,qS,qX,qF]at he;cases he
 ·simp only[zl,zp,zh,zm,zk,ze,zc,zq,zo,qy,qJ,qu,qA,qI,qr,qK,qD,qx,qL,qH,qN,qo,qB,qP,qE,qp,qV,qU,qM,qw,qG,qY,qR,qO,qQ,qT,qW,qS,qX,qF]at he;cases q:evI w ‹_› τ with
  |ok ds=>
   rw[q]at he;simp only[R.bind_ok]at he;split at he
   ·cases he
   ·generalize zU _ _ _ _=r at he;cases r with
    |ok o=>cases he;rfl
    |ex z=>cases he
    |no=>cases he
  |ex z=>rw[q]at he;cases he
  |no=>rw[q]at he;cases he
theorem Ci(O:XO w g c E X){op:Operator}{o:O2}(ho:o2 op=some o)(ha:PE X a (tE w g c E ia))(hb:PE X b (tE w g c E ib)):PE X (.BinOp a op b pos) (tE w g c E (.op o ia ib)):=
 PE.imp (sy (Ao O.K ho) ha hb) λσ H Q ⟨τ,S,se,k⟩=>by
  simp only[zl,zp,zh,zm,zk,ze,zc,zq,zo,qy,qJ,qu,qA,qI,qr,qK,qD,qx,qL,qH,qN,qo,qB,qP,qE,qp,qV,qU,qM,qw,qG,qY,qR,qO,qQ,qT,qW,qS,qX,qF]at k;refine zf se k λda va H1 e1 p1 k1=>zf (se.up p1.same) k1 λdb vb H2 e2 p2 k2=>⟨S,da,db,(se.up (p1.same.trans p2.same)).sub,p1.rb.mono p2.same,p2.rb,?_⟩
  cases q:op2 o da db with
  |ok r=>
   rw[q]at k2;have fw:fresh c (.op o ia ib)=true->∀{v H'},(lj da=true->Fr g H2 S H' r v)->Fr g H S H' r v:=λz {v H'} f=>by
    simp only[fresh,bP,aI,beq_iff_eq]at z;refine(f ?_).low (p1.same.trans p2.same);rcases z with z|⟨rfl,z⟩
    ·exact pE z.2 e1
    ·have:=pE z e2;cases db<;>first|(cases this;done)|skip
     cases da<;>first|rfl|(cases q;done)
   exact λv H' s r f=>k2 v H' ⟨(p1.same.trans p2.same).trans s,.inl r,λ_=>r,λz=>fw z f,λz _=>fw z f⟩
  |ex z=>exact Bw q
  |no=>rw[q]at k2;exact k2
theorem xT(ha:PE X a (tE w g c E ia)):PE X (.UnaryOp .USub a pos) (tE w g c E (.neg ia)):=
 PE.imp (sE xI ha) λσ H Q ⟨τ,S,se,k⟩=>by
  simp only[zl,zp,zh,zm,zk,ze,zc,zq,zo,qy,qJ,qu,qA,qI,qr,qK,qD,qx,qL,qH,qN,qo,qB,qP,qE,qp,qV,qU,qM,qw,qG,qY,qR,qO,qQ,qT,qW,qS,qX,qF]at k;refine zf se k λda va H1 e1 p1 k1=>?_
  cases da with
  |int i=>exact⟨i,p1.rb.int,k1 _ _ (a9.of p1.same (.int _) rfl)⟩
  |_=>exact k1.elim
theorem ou(O:XO w g c E X)(ix:Bool){x:Str}{i:Nat}{ap cp p q:Pos}{kk:Nat}(h:loc c x=some i)(hl:(ap.endLine==cp.line)=true) :
  PE X (.Call (.Attribute (.Name x p) (if ix then "index" else "count") ap) [.Constant (.bool true) kk q] [] cp) (tE w g c E (.mth ix (if c.own.contains x then .own i else .var i))):=by
 have hst:=qg (e:=.Constant (.bool true) kk q) (es:=[]) (env:=X.env) rfl;have pa:PA X [.Constant (.bool true) kk q] _:=zC pP c_ hst;have hK:=O.K;cases ix with
 |false=>
  refine PE.imp (gX (X:=X) (apos:=ap) (cpos:=cp) PySem.F.plainAttrs_list PySem.F.slot_list_count (by rfl) DJ (jX O h) pa rfl (by rw[hst];rfl) hl hst rfl) λσ H Q ⟨τ,S,se,k⟩=>?_
  simp only[zl,zp,zh,zm,zk,ze,zc,zq,zo,qy,qJ,qu,qA,qI,qr,qK,qD,qx,qL,qH,qN,qo,qB,qP,qE,qp,qV,qU,qM,qw,qG,qY,qR,qO,qQ,qT,qW,qS,qX,qF]at k;refine zf se k λda va H1 e1 p1 k1=>?_
  cases da with
  |lst xs=>
   obtain⟨a,vs,rfl,h1,h2⟩:=p1.rb.lst;simp only[jw,dH]at k1;cases e:bools? xs with
   |none=>rw[e]at k1;exact k1.elim
   |some bs=>
    rw[e]at k1;have:=h2.bools e;subst this;exact⟨.inl ⟨rfl,_,by rw[hK];exact h1⟩,a,bs,rfl,rfl,by rw[hK];exact h1,k1 _ _ (a9.of p1.same (.int _) rfl)⟩
  |_=>exact k1.elim
 |true=>
  refine PE.imp (gX (X:=X) (apos:=ap) (cpos:=cp) PySem.F.plainAttrs_list PySem.F.slot_list_index (by rfl) tN (jX O h) pa rfl (by rw[hst];rfl) hl hst rfl) λσ H Q ⟨τ,S,se,k⟩=>?_
  simp only[zl,zp,zh,zm,zk,ze,zc,zq,zo,qy,qJ,qu,qA,qI,qr,qK,qD,qx,qL,qH,qN,qo,qB,qP,qE,qp,qV,qU,qM,qw,qG,qY,qR,qO,qQ,qT,qW,qS,qX,qF]at k;refine zf se k λda va H1 e1 p1 k1=>?_
  cases da with
  |lst xs=>
   obtain⟨a,vs,rfl,h1,h2⟩:=p1.rb.lst;simp only[jw,dH]at k1;cases e:bools? xs with
   |none=>rw[e]at k1;exact k1.elim
   |some bs=>
    rw[e]at k1;have:=h2.bools e;subst this;simp only[cN]at k1;rw[if_pos trivial]at k1;cases ej:bs.findIdx? id with
    |none=>rw[ej]at k1;exact k1.elim
    |some j=>
     rw[ej]at k1;exact⟨.inl ⟨rfl,_,by rw[hK];exact h1⟩,a,bs,j,rfl,rfl,by rw[hK];exact h1,ej,k1 _ _ (a9.of p1.same (.int _) rfl)⟩
  |_=>exact k1.elim
theorem uf(O:XO w g c E X){o:Expr}{m:Str}{ap cp:Pos}{as:List Expr}{e:EV.E}(h:cMt c o m ap as cp=some e):PE X (.Call (.Attribute o m ap) as [] cp) (tE w g c E e):=by
 unfold cMt at h;split at h
 ·split at h
  ·split at h
   ·split at h
    ·split at h
     ·rename_i hx
      split at h
      ·rename_i hb
       simp only[aI]at hb;obtain⟨rfl,hl⟩:=hb;split at h
       ·rename_i hm
        subst hm;cases h;exact ou O false hx hl
       ·split at h
        ·rename_i hm
         subst hm;cases h;exact ou O true hx hl
        ·cases h
      ·cases h
     ·cases h
    ·cases h
   ·cases h
  ·cases h
 ·cases h
theorem nG{o:Expr}{m:Str}(h:baseOk o=true):attributeBase o m X.env (eval o X.env)=eval o X.env:=by
 unfold baseOk at h;split at h
 ·rfl
 ·rfl
 ·cases h
theorem uW(O:XO w g c E X){o:Expr}{ap cp:Pos}(hb:baseOk o=true)(ho:PE X o (tE w g c E ia))(ha:PE X a (tE w g c E ib))(hs:isStar a=false)(hl:(ap.endLine==cp.line)=true) :
  PE X (.Call (.Attribute o "count" ap) [a] [] cp) (tE w g c E (.cnt ia ib)):=λpins s σ H Q I ⟨τ,S,se,kk⟩=>by
 simp only[zl,zp,zh,zm,zk,ze,zc,zq,zo,qy,qJ,qu,qA,qI,qr,qK,qD,qx,qL,qH,qN,qo,qB,qP,qE,qp,qV,qU,qM,qw,qG,qY,qR,qO,qQ,qT,qW,qS,qX,qF]at kk;exact aS kk
theorem xc(ha:PE X a (tE w g c E ia)):PE X (.UnaryOp .Invert a pos) (tE w g c E (.inv ia)):=λpins s σ H Q I ⟨τ,S,se,kk⟩=>by
 simp only[zl,zp,zh,zm,zk,ze,zc,zq,zo,qy,qJ,qu,qA,qI,qr,qK,qD,qx,qL,qH,qN,qo,qB,qP,qE,qp,qV,qU,qM,qw,qG,qY,qR,qO,qQ,qT,qW,qS,qX,qF]at kk;exact aS kk
theorem v9(ha:PE X a (tE w g c E ia)):PE X (.UnaryOp .Not a pos) (tE w g c E (.not ia)):=
 PE.imp (AW ha) λσ H Q ⟨τ,S,se,k⟩=>by
  simp only[zl,zp,zh,zm,zk,ze,zc,zq,zo,qy,qJ,qu,qA,qI,qr,qK,qD,qx,qL,qH,qN,qo,qB,qP,qE,qp,qV,qU,qM,qw,qG,qY,qR,qO,qQ,qT,qW,qS,qX,qF]at k;refine zf se k λda va H1 e1 p1 k1=>?_
  cases da with
  |bl i=>exact⟨i,p1.rb.bl,k1 _ _ (a9.of p1.same (.bl _) rfl)⟩
  |_=>exact k1.elim
theorem a9.pass{e e':EV.E}{S:Sh}{H H1 H':Hp}{dd:D}{v:V}(s:qf H H1)(p:a9 g c e S H1 dd v H')(h:esc e=true)(f:dY c e'=false):a9 g c e' S H dd v H':=a9.of (s.trans p.same) (p.st h) f
theorem a9.passC{e e':EV.E}{S:Sh}{H H1 H':Hp}{dd:D}{v:V}(s:qf H H1)(p:a9 g c e S H1 dd v H')(h:esc e=true)(f:fresh c e'=false)(fc:dY c e'=true->dY c e=true):a9 g c e' S H dd v H':=⟨s.trans p.same,.inl (p.st h),λ_=>p.st h,(λz=>by rw[f]at z;cases z),λz l=>(p.frc (fc z) l).low s⟩
theorem DZ{rest:List Expr}{ir:EV.E}(ha:PE X a (tE w g c E ia))(hb:PE X (.BoolOp .And (b::rest) pos) (tE w g c E ir))(he:esc ir=true):PE X (.BoolOp .And (a::b::rest) pos) (tE w g c E (.and ia ir)):=
 PE.imp (x_ ha hb) λσ H Q ⟨τ,S,se,k⟩=>by
  simp only[zl,zp,zh,zm,zk,ze,zc,zq,zo,qy,qJ,qu,qA,qI,qr,qK,qD,qx,qL,qH,qN,qo,qB,qP,qE,qp,qV,qU,qM,qw,qG,qY,qR,qO,qQ,qT,qW,qS,qX,qF]at k;refine zf se k λda va H1 e1 p1 k1=>?_
  cases da with
  |bl i=>
   refine⟨i,p1.rb.bl,?_⟩;cases i with
   |true=>
    refine⟨τ,S,se.up p1.same,tR.imp k1 λd hk v H' p=>hk v H' (p.pass p1.same he rfl)⟩
   |false=>exact k1 _ _ (a9.of p1.same (.bl _) rfl)
  |_=>exact k1.elim
theorem xx{rest:List Expr}{ir:EV.E}(ha:PE X a (tE w g c E ia))(hb:PE X (.BoolOp .Or (b::rest) pos) (tE w g c E ir))(he:esc ir=true):PE X (.BoolOp .Or (a::b::rest) pos) (tE w g c E (.or ia ir)):=
 PE.imp (vF ha hb) λσ H Q ⟨τ,S,se,k⟩=>by
  simp only[zl,zp,zh,zm,zk,ze,zc,zq,zo,qy,qJ,qu,qA,qI,qr,qK,qD,qx,qL,qH,qN,qo,qB,qP,qE,qp,qV,qU,qM,qw,qG,qY,qR,qO,qQ,qT,qW,qS,qX,qF]at k;refine zf se k λda va H1 e1 p1 k1=>?_
  cases da with
  |bl i=>
   refine⟨i,p1.rb.bl,?_⟩;cases i with
   |false=>
    refine⟨τ,S,se.up p1.same,tR.imp k1 λd hk v H' p=>hk v H' (p.pass p1.same he rfl)⟩
   |true=>exact k1 _ _ (a9.of p1.same (.bl _) rfl)
  |_=>exact k1.elim
theorem gY{op:CmpOp}{b:Expr}(h:zG b=true):behindInMarks op b=false:=by cases b<;>first|rfl|(simp[zG]at h)
theorem dQ{o:C2}{S:Sh}{H:Hp}{da db:D}{va vb:V}{r:R Bool}{P:Bool->Prop}{Q:VK}(ra:zO g H S da va)(rb:zO g H S db vb)(q:tR g E H (qi o da db) P)(k:∀z,qi o da db=.ok z->P z->Q (.bl z) H):rCm g o va vb H Q:=by
 refine⟨S,da,db,ra,rb,?_⟩;cases e:qi o da db with
 |ok z=>rw[e]at q;exact k z e q
 |ex z=>exact wB e
 |no=>rw[e]at q;exact q
theorem tR.bnd{α β:Type}{H:Hp}{r:R α}{f:α->R β}{P:β->Prop}(h:tR g E H (r.bind f) P):tR g E H r λa=>tR g E H (f a) P:=by
 cases r with
 |ok a=>exact h
 |ex z=>exact h
 |no=>exact h
theorem CW(O:XO w g c E X){op:CmpOp}(ha:PE X a (tE w g c E ia))(hb:PE X b (tE w g c E ib))(hs:zG b=true):PE X (.Compare a [op] [b] pos) (tE w g c E (.cmp (c2 op) ia ib)):=
 PE.imp (Au (dZ O.K O.units op) ha hb (gY hs)) λσ H Q ⟨τ,S,se,k⟩=>by
  simp only[zl,zp,zh,zm,zk,ze,zc,zq,zo,qy,qJ,qu,qA,qI,qr,qK,qD,qx,qL,qH,qN,qo,qB,qP,qE,qp,qV,qU,qM,qw,qG,qY,qR,qO,qQ,qT,qW,qS,qX,qF]at k;refine zf se k λda va H1 e1 p1 k1=>zf (se.up p1.same) k1 λdb vb H2 e2 p2 k2=>?_
  exact dQ (r:=.no) (p1.rb.mono p2.same) p2.rb (tR.bnd k2) λz _ q=>q _ _ (a9.of (p1.same.trans p2.same) (.bl _) rfl)
theorem wH(O:XO w g c E X){op:CmpOp}(ha:PE X a (tE w g c E ia))(hb:PE X b (tE w g c E ib))(hs:zG b=true):PT X (.Compare a [op] [b] pos) (tT w g c E (.cmp (c2 op) ia ib)):=
 PT.imp (sA (dZ O.K O.units op) ha hb (gY hs)) λσ H Q ⟨τ,S,se,k⟩=>by
  simp only[fb,fq,fz,fC,fB,fg,ff]at k;refine zf se k λda va H1 e1 p1 k1=>zf (se.up p1.same) k1 λdb vb H2 e2 p2 k2=>?_
  exact dQ (r:=.no) (p1.rb.mono p2.same) p2.rb k2 λz _ q=>⟨z,rfl,q _ (p1.same.trans p2.same)⟩
theorem y9(O:XO w g c E X){op op':CmpOp}(ha:PE X a (tE w g c E ia))(hb:PE X b (tE w g c E ib))(hd:PE X d (tE w g c E id'))(hs':zG d=true):PE X (.Compare a [op,op'] [b,d] pos) (tE w g c E (.cmp2 (c2 op) (c2 op') ia ib id')):=
 PE.imp (wm (dZ O.K O.units op) (dZ O.K O.units op') ha hb hd (gY hs')) λσ H Q ⟨τ,S,se,k⟩=>by
  simp only[zl,zp,zh,zm,zk,ze,zc,zq,zo,qy,qJ,qu,qA,qI,qr,qK,qD,qx,qL,qH,qN,qo,qB,qP,qE,qp,qV,qU,qM,qw,qG,qY,qR,qO,qQ,qT,qW,qS,qX,qF]at k;refine zf se k λda va H1 e1 p1 k1=>zf (se.up p1.same) k1 λdb vb H2 e2 p2 k2=>?_
  have s2:=p1.same.trans p2.same;refine dQ (r:=.no) (p1.rb.mono p2.same) p2.rb (tR.bnd k2) λz _ q=>⟨z,rfl,?_⟩
  cases z with
  |true=>
   exact zf (se.up s2) q λdd vd H3 e3 p3 k3=>dQ (r:=.no) (p2.rb.mono p3.same) p3.rb (tR.bnd k3) λz _ q=>q _ _ (a9.of (s2.trans p3.same) (.bl _) rfl)
  |false=>exact q _ _ (a9.of s2 (.bl _) rfl)
theorem Eg(O:XO w g c E X){op op':CmpOp}(ha:PE X a (tE w g c E ia))(hb:PE X b (tE w g c E ib))(hd:PE X d (tE w g c E id'))(hs':zG d=true):PT X (.Compare a [op,op'] [b,d] pos) (tT w g c E (.cmp2 (c2 op) (c2 op') ia ib id')):=
 PT.imp (vY (dZ O.K O.units op) (dZ O.K O.units op') ha hb hd (gY hs')) λσ H Q ⟨τ,S,se,k⟩=>by
  simp only[fb,fq,fz,fC,fB,fg,ff]at k;refine zf se k λda va H1 e1 p1 k1=>zf (se.up p1.same) k1 λdb vb H2 e2 p2 k2=>?_
  have s2:=p1.same.trans p2.same;refine dQ (r:=.no) (p1.rb.mono p2.same) p2.rb (tR.bnd k2) λz _ q=>⟨z,rfl,?_⟩
  cases z with
  |true=>
   exact zf (se.up s2) q λdd vd H3 e3 p3 k3=>dQ (r:=.no) (p2.rb.mono p3.same) p3.rb k3 λz _ q=>⟨z,rfl,q _ (s2.trans p3.same)⟩
  |false=>exact⟨false,rfl,q _ s2⟩
theorem Ds(O:XO w g c E X){op op' op'':CmpOp}(ha:PE X a (tE w g c E ia))(hb:PE X b (tE w g c E ib))(hd:PE X d (tE w g c E id'))(hf:PE X f (tE w g c E if'))(hs':zG f=true):PE X (.Compare a [op,op',op''] [b,d,f] pos) (tE w g c E (.cmp3 (c2 op) (c2 op') (c2 op'') ia ib id' if')):=
 PE.imp (uU (dZ O.K O.units op) (dZ O.K O.units op') (dZ O.K O.units op'') ha hb hd hf (gY hs')) λσ H Q ⟨τ,S,se,k⟩=>by
  simp only[zl,zp,zh,zm,zk,ze,zc,zq,zo,qy,qJ,qu,qA,qI,qr,qK,qD,qx,qL,qH,qN,qo,qB,qP,qE,qp,qV,qU,qM,qw,qG,qY,qR,qO,qQ,qT,qW,qS,qX,qF]at k;refine zf se k λda va H1 e1 p1 k1=>zf (se.up p1.same) k1 λdb vb H2 e2 p2 k2=>?_
  have s2:=p1.same.trans p2.same;refine dQ (r:=.no) (p1.rb.mono p2.same) p2.rb (tR.bnd k2) λz _ q=>⟨z,rfl,?_⟩
  cases z with
  |true=>
   refine zf (se.up s2) q λdd vd H3 e3 p3 k3=>dQ (r:=.no) (p2.rb.mono p3.same) p3.rb (tR.bnd k3) λz _ q=>⟨z,rfl,?_⟩
   have s3:=s2.trans p3.same;cases z with
   |true=>exact zf (se.up s3) q λdf vf H4 e4 p4 k4=>dQ (r:=.no) (p3.rb.mono p4.same) p4.rb (tR.bnd k4) λz _ q=>q _ _ (a9.of (s3.trans p4.same) (.bl _) rfl)
   |false=>exact q _ _ (a9.of s3 (.bl _) rfl)
  |false=>exact q _ _ (a9.of s2 (.bl _) rfl)
theorem DT{a b c d:Expr}{ta tb tc td:TE}{pos:Pos}{op op' op'':CmpOp}{r r' r'':R2}(ho:OpR X (aR op) r)(ho':OpR X (aR op') r')(ho'':OpR X (aR op'') r'')(ha:PE X a ta)(hb:PE X b tb)(hc:PE X c tc)(hd:PE X d td)
  (hm:lastMarks [op,op',op''] [b,c,d]=false):PT X (.Compare a [op,op',op''] [b,c,d] pos) (l7 (oC r r' r'' ta tb tc td)):=by
 intro pins s σ H Q I h;refine isTrue_chain (thn (ha pins s σ H _ I h) λv s1 ⟨x,H1,I1,r1,q1⟩=>test_link (thn (hb pins s1 σ H1 _ I1 q1) λu s2 ⟨y,H2,I2,r2,q2⟩=>
  thn (ho pins s2 σ H2 x y v u _ I2 r1 r2 q2) λd s3 ⟨z,H3,I3,r3,k,e,q3⟩=>?_)) hm
 subst e;cases r3;refine bJ ?_;cases k with
 |false=>
  obtain⟨k',e',q'⟩:=q3;cases e';exact ite_ff ⟨H3,I3,q'⟩
 |true=>
  refine ite_tt (test_link (thn (hc pins s3 σ H3 _ I3 q3) λw' s4 ⟨z',H4,I4,r4,q4⟩=>thn (ho' pins s4 σ H4 y z' u w' _ I4 r2 r4 q4) λd' s5 ⟨z2,H5,I5,r5,k2,e2,q5⟩=>?_));subst e2;cases r5;refine bJ ?_;cases k2 with
  |false=>
   obtain⟨k',e',q'⟩:=q5;cases e';exact ite_ff ⟨H5,I5,q'⟩
  |true=>
   refine ite_tt (test_last (thn (hd pins s5 σ H5 _ I5 q5) λw'' s6 ⟨z3,H6,I6,r6,q6⟩=>thn (ho'' pins s6 σ H6 z' z3 w' w'' _ I6 r4 r6 q6) λd'' s7 ⟨z4,H7,I7,r7,k4,e4,q7⟩=>?_));subst e4;cases r7;exact bJ ⟨H7,I7,q7⟩
theorem R.bind_assoc{α β γ:Type}(r:R α)(f:α->R β)(h:β->R γ):(r.bind f).bind h=r.bind λa=>(f a).bind h:=by cases r<;>rfl
theorem De(O:XO w g c E X){op op' op'':CmpOp}(ha:PE X a (tE w g c E ia))(hb:PE X b (tE w g c E ib))(hd:PE X d (tE w g c E id'))(hf:PE X f (tE w g c E if'))(hs':zG f=true):PT X (.Compare a [op,op',op''] [b,d,f] pos) (tT w g c E (.val (.cmp3 (c2 op) (c2 op') (c2 op'') ia ib id' if'))):=
 PT.imp (DT (dZ O.K O.units op) (dZ O.K O.units op') (dZ O.K O.units op'') ha hb hd hf (gY hs')) λσ H Q ⟨τ,S,se,k⟩=>by
  simp only[fb,fq,fz,fC,fB,fg,ff,zl,zp,zh,zm,zk,ze,zc,zq,zo,qy,qJ,qu,qA,qI,qr,qK,qD,qx,qL,qH,qN,qo,qB,qP,qE,qp,qV,qU,qM,qw,qG,qY,qR,qO,qQ,qT,qW,qS,qX,qF,R.bind_assoc]at k;refine zf se k λda va H1 e1 p1 k1=>zf (se.up p1.same) k1 λdb vb H2 e2 p2 k2=>?_
  have s2:=p1.same.trans p2.same;refine dQ (r:=.no) (p1.rb.mono p2.same) p2.rb (tR.bnd k2) λz _ q=>⟨z,rfl,?_⟩
  cases z with
  |true=>
   simp only[if_true,R.bind_assoc]at q;refine zf (se.up s2) q λdd vd H3 e3 p3 k3=>dQ (r:=.no) (p2.rb.mono p3.same) p3.rb (tR.bnd k3) λz _ q=>⟨z,rfl,?_⟩
   have s3:=s2.trans p3.same;cases z with
   |true=>
    simp only[if_true,R.bind_assoc]at q;exact zf (se.up s3) q λdf vf H4 e4 p4 k4=>dQ (r:=.no) (p3.rb.mono p4.same) p4.rb (tR.bnd k4) λz _ q=>⟨z,rfl,q _ (s3.trans p4.same)⟩
   |false=>exact⟨false,rfl,q _ s3⟩
  |false=>exact⟨false,rfl,q _ s2⟩
theorem u9(ht:PT X d (tT w g c E ta))(ha:PE X a (tE w g c E ia))(hb:PE X b (tE w g c E ib))(h1:esc ia=true)(h2:esc ib=true):PE X (.IfExp d a b pos) (tE w g c E (.ite ta ia ib)):=
 PE.imp (EJ ht ha hb) λσ H Q ⟨τ,S,se,k⟩=>by
  simp only[zl,zp,zh,zm,zk,ze,zc,zq,zo,qy,qJ,qu,qA,qI,qr,qK,qD,qx,qL,qH,qN,qo,qB,qP,qE,qp,qV,qU,qM,qw,qG,qY,qR,qO,qQ,qT,qW,qS,qX,qF]at k;refine jO se k λz H1 e1 s1 k1=>?_
  cases z with
  |true=>exact⟨τ,S,se.up s1,tR.imp k1 λdd hk v H' p=>hk v H' (p.passC s1 h1 rfl λz=>(gI z).1)⟩
  |false=>exact⟨τ,S,se.up s1,tR.imp k1 λdd hk v H' p=>hk v H' (p.passC s1 h2 rfl λz=>(gI z).2)⟩
theorem EN{e:Expr}{ie:EV.E}(h:PE X e (tE w g c E ie)):PE X e (tE w g c E (gL c ie)):=by
 unfold gL;split
 ·rename_i f es
  split
  ·rename_i hg
   refine PE.imp h λσ H Q ⟨τ,S,se,k⟩=>⟨τ,S,se,?_⟩
   have e1:evE w (.lstc f es) τ=(evE w (.call f es) τ).bind λd=>if bZ d then .ok d else .no:=by
    simp only[zl,zp,zh,zm,zk,ze,zc,zq,zo,qy,qJ,qu,qA,qI,qr,qK,qD,qx,qL,qH,qN,qo,qB,qP,qE,qp,qV,qU,qM,qw,qG,qY,qR,qO,qQ,qT,qW,qS,qX,qF];cases zz w es τ<;>rfl
   rw[e1]at k;cases q:evE w (.call f es) τ with
   |ok d=>
    rw[q]at k;simp only[R.bind_ok]at k;cases hl:bZ d with
    |true=>
     rw[hl,if_pos rfl]at k;exact λv H' p=>k v H' ⟨p.same,p.rb,λ_=>p.st rfl,λz=>p.frc z hl,λz _=>p.frc z hl⟩
    |false=>rw[hl]at k;exact k.elim
   |ex z=>rw[q]at k;exact k
   |no=>rw[q]at k;exact k
  ·exact h
 ·exact h
theorem vI:PA X [] (tA w g c E .nil):=PA.imp c_ λσ H Q ⟨τ,S,se,k⟩=>k [] H (qf.refl _) .nil λ_=>.nil
theorem ve{es:List Expr}{ies:Es}(ha:PE X a (tE w g c E ia))(hr:PA X es (tA w g c E ies))(hs:isStar a=false):PA X (a::es) (tA w g c E (.cons ia ies)):=
 PA.imp (zC ha hr (qg hs)) λσ H Q ⟨τ,S,se,k⟩=>by
  simp only[zz]at k;refine zf se k λda va H1 e1 p1 k1=>gf (se.up p1.same) k1 λds vs H2 e2 s2 r2 r2' k2=>k2 _ _ (p1.same.trans s2) (.cons (p1.rb.mono s2) r2) λz=>?_
  simp only[eQ,aI]at z;exact .cons ((p1.st z.1).mono (qq s2)) (r2' z.2)
theorem i6:∀{es:Es}{τ:Env}{ds:List D}{l:List Expr}{n:Nat},cEs n c l=some es->zz w es τ=.ok ds->ds.length=l.length
 |_,_,_,l,0,h,_=>by simp[cEs]at h
 |es,τ,ds,[],n+1,h,e=>by
  simp only[cEs,b_]at h;subst h;simp only[zz,R.ok.injEq]at e;subst e;rfl
 |es,τ,ds,x::l,n+1,h,e=>by
  simp only[cEs]at h;cases hs:isStar x with
  |true=>simp[hs]at h
  |false=>
   simp only[hs,bU,if_false,aE,aB]at h;obtain⟨i1,_,r,hr,h⟩:=h;cases h;simp only[zz]at e;cases q:evE w i1 τ with
   |ok z=>
    rw[q]at e;simp only[R.bind_ok]at e;cases q2:zz w r τ with
    |ok zs=>
     rw[q2]at e;cases e;simp[i6 hr q2]
    |ex z=>rw[q2]at e;cases e
    |no=>rw[q2]at e;cases e
   |ex z=>rw[q]at e;cases e
   |no=>rw[q]at e;cases e
theorem md{n:Nat}(h:n<=100000):n<=sizeLine:=a_ h (by rw[aV];decide)
theorem BY{es:List Expr}{ies:Es}{k:Nat}(ha:PA X es (tA w g c E ies))(he:eQ ies=true)(hl:∀τ ds,zz w ies τ=.ok ds->ds.length<=100000):PE X (.Tuple es k pos) (tE w g c E (.tup ies)):=
 PE.imp (AO ha) λσ H Q ⟨τ,S,se,k⟩=>by
  simp only[zl,zp,zh,zm,zk,ze,zc,zq,zo,qy,qJ,qu,qA,qI,qr,qK,qD,qx,qL,qH,qN,qo,qB,qP,qE,qp,qV,qU,qM,qw,qG,qY,qR,qO,qQ,qT,qW,qS,qX,qF]at k;refine gf se k λds vs H1 e1 s1 r1 r1' k1=>?_
  have r:=r1' he;exact⟨by rw[<-r.length];exact md (hl _ _ e1),λp hp=>k1 _ _ (a9.of (s1.trans (zg hp)) (fR (se.sub.same s1) hp r) rfl)⟩
theorem DB{es:List Expr}{ies:Es}(ha:PA X es (tA w g c E ies))(he:eQ ies=true)(hl:∀τ ds,zz w ies τ=.ok ds->ds.length<=100000):PE X (.List es pos) (tE w g c E (.lst ies)):=
 PE.imp (tq ha) λσ H Q ⟨τ,S,se,k⟩=>by
  simp only[zl,zp,zh,zm,zk,ze,zc,zq,zo,qy,qJ,qu,qA,qI,qr,qK,qD,qx,qL,qH,qN,qo,qB,qP,qE,qp,qV,qU,qM,qw,qG,qY,qR,qO,qQ,qT,qW,qS,qX,qF]at k;refine gf se k λds vs H1 e1 s1 r1 r1' k1=>?_
  have r:=r1' he;exact⟨by rw[<-r.length];exact md (hl _ _ e1),λp hp=>k1 _ _ (a9.new (s1.trans (zg hp)) (er (se.sub.same s1) hp r) (eB s1 hp r))⟩
theorem yA{b:Expr}(h:isSlice b=false):nJ b:=λo i=>by cases b<;>first|rfl|(simp[isSlice]at h)
theorem D7(O:XO w g c E X)(ha:PE X a (tE w g c E ia))(hb:PE X b (tE w g c E ib))(hs:isSlice b=false):PE X (.Subscript a b pos) (tE w g c E (.ix ia ib)):=
 PE.imp (xi (wd O.K O.units) ha hb (yA hs)) λσ H Q ⟨τ,S,se,k⟩=>by
  simp only[zl,zp,zh,zm,zk,ze,zc,zq,zo,qy,qJ,qu,qA,qI,qr,qK,qD,qx,qL,qH,qN,qo,qB,qP,qE,qp,qV,qU,qM,qw,qG,qY,qR,qO,qQ,qT,qW,qS,qX,qF]at k;refine zf se k λda va H1 e1 p1 k1=>zf (se.up p1.same) k1 λdb vb H2 e2 p2 k2=>⟨S,da,db,p1.rb.mono p2.same,p2.rb,?_⟩
  cases q:ixD da db with
  |ok r=>rw[q]at k2;exact λv r=>k2 v H2 (a9.of (p1.same.trans p2.same) r rfl)
  |ex z=>exact vK q
  |no=>rw[q]at k2;exact k2
theorem B9(O:XO w g c E X){lo hi:Option Expr}{il ih:OE}(ha:PE X a (tE w g c E ia))(hl:PO X lo (tOe w g c E il))(hh:PO X hi (tOe w g c E ih)):PE X (.Subscript a (.Slice lo hi none p2) pos) (tE w g c E (.sl ia il ih)):=
 PE.imp (AF (BI O.K) ha hl hh) λσ H Q ⟨τ,S,se,k⟩=>by
  simp only[zl,zp,zh,zm,zk,ze,zc,zq,zo,qy,qJ,qu,qA,qI,qr,qK,qD,qx,qL,qH,qN,qo,qB,qP,qE,qp,qV,qU,qM,qw,qG,qY,qR,qO,qQ,qT,qW,qS,qX,qF]at k;refine zf se k λda va H1 e1 p1 k1=>oU (se.up p1.same) k1 λl H2 e2 s2 k2=>oU (se.up (p1.same.trans s2)) k2 λh H3 e3 s3 k3=>?_
  have s:=(p1.same.trans s2).trans s3;refine⟨S,da,se.sub.same s,p1.rb.mono (s2.trans s3),?_⟩;cases q:slD da l h with
  |ok r=>rw[q]at k3;exact λv H' s' r=>k3 v H' (a9.of (s.trans s') r rfl)
  |ex z=>exact sW q
  |no=>rw[q]at k3;exact k3
theorem tH:PO X none (tOe w g c E .none):=PO.imp sJ λσ H Q ⟨τ,S,se,k⟩=>k H (qf.refl _)
theorem Dp(ha:PE X a (tE w g c E ia)):PO X (some a) (tOe w g c E (.some ia)):=PO.imp (Al ha) λσ H Q ⟨τ,S,se,k⟩=>by
 simp only[evO]at k;refine zf se k λda va H1 e1 p1 k1=>?_
 cases da with
 |int i=>exact⟨i,p1.rb.int,k1 _ p1.same⟩
 |_=>exact k1.elim
theorem wX(O:XO w g c E X){x:Str}{fr:Bool}{e:Expr}{es:List Expr}{ies:Es}(h:glob c x=some (.fn fr))(ha:PA X (e::es) (tA w g c E ies))(he:eQ ies=true)(hs:∀z∈e::es,isStar z=false):PE X (.Call (.Name x p2) (e::es) [] pos) (tE w g c E (.call x ies)):=by
 obtain⟨f,h1,h2⟩:=O.gm h;refine PE.imp (o3 O h2 (O.gl h) (zr h).2.2.1 ha hs) λσ H Q ⟨τ,S,se,k⟩=>?_
 simp only[zl,zp,zh,zm,zk,ze,zc,zq,zo,qy,qJ,qu,qA,qI,qr,qK,qD,qx,qL,qH,qN,qo,qB,qP,qE,qp,qV,qU,qM,qw,qG,qY,qR,qO,qQ,qT,qW,qS,qX,qF]at k;refine gf se k λds vs H1 e1 s1 r1 r1' k1=>⟨S,ds,se.sub.same s1,by rw[cR];exact r1' he,tR.imp k1 λdd hk v H' s' r f=>hk v H' ⟨s1.trans s',.inl r,λ_=>r,(λz=>by cases z),λz l=>?_⟩⟩
 simp only[dY,(zr h).2.1,beq_iff_eq,b_,GK.fn.injEq]at z;exact(f z l).low s1
noncomputable def LD(o:HO):Prop:=(∃vs,o=.lst vs)\/∃m,o=.dK m
theorem cY.ld{H:Hp}{d:D}{o:HO}(h:cY g H d o):LD o:=by
 cases h with
 |lst r=>exact .inl ⟨_,rfl⟩
 |dic k=>exact .inr ⟨_,rfl⟩
theorem BG{H:Hp}{S S':Sh}(hL:∀a,S'.h a=false->S.h a=true->∃o,H a=some o/\LD o){K:aq}{a:Addr}{xs:List V}(q:SqT K (hid H S') a xs):SqT K (hid H S) a xs:=by
 have key:∀o:HO,¬ LD o->hid H S' a=some o->hid H S a=some o:=λo ho z=>by
  obtain⟨z1,z2⟩:=bx.mp z;refine bx.mpr ⟨?_,z2⟩;cases y:S.h a with
  |false=>rfl
  |true=>
   obtain⟨o',e,ld⟩:=hL a z1 y;rw[z2]at e;cases e;exact absurd ld ho
 rcases q with (q|⟨o,q⟩)|q
 ·exact .inl (.inl (key _ (by rintro(⟨_,z⟩|⟨_,z⟩)<;>cases z) q))
 ·exact .inl (.inr ⟨o,key _ (by rintro(⟨_,z⟩|⟨_,z⟩)<;>cases z) q⟩)
 ·exact .inr q
theorem sM{H:Hp}{S S':Sh}(hL:∀a,S'.h a=false->S.h a=true->∃o,H a=some o/\LD o){d:D}{v:V}(hn:d.noL=true)(h:Rep g (hid H S') d v):Rep g (hid H S) d v:=
 h.rec (motive_1:=λd v _=>d.noL=true->Rep g (hid H S) d v) (motive_2:=λd v _=>ke d=true->zb g (hid H S) d v) (λ_=>.non) (λb _=>.bl b) (λb _=>.int b) (λb _=>.str b) (λq _ r p=>.tup (BG hL q) (r p)) (λ_ _ _ p=>nomatch p) (λ_ p=>nomatch p) (λ_ _ p=>nomatch p) (λ_ p=>nomatch p) (λ_=>.nil) (λ_ _ a b p=>.cons (a (gI p).1) (b (gI p).2)) hn
noncomputable def iu(S:Sh)(L:List Addr):Sh:=⟨λ_=>false,λb=>S.h b && !L.contains b,S.z,S.y⟩
theorem rG{H:Hp}{S:Sh}{L:List Addr}:qf (hid H S) (hid H (iu S L)):=λb o h=>by
 obtain⟨h1,h2⟩:=bx.mp h;exact bx.mpr ⟨by show (S.h b&&_)=false;rw[h1];rfl,h2⟩
theorem Ak{H:Hp}{S:Sh}{L:List Addr}{a:Addr}:qf (hid H (iu S L)) (hid H (iu S (a::L))):=λb o h=>by
 obtain⟨h1,h2⟩:=bx.mp h;refine bx.mpr ⟨?_,h2⟩;have h1:(S.h b && !L.contains b)=false:=h1;show (S.h b && !(a::L).contains b)=false;cases q:S.h b with
 |false=>rfl
 |true=>
  rw[q]at h1;have h1:L.contains b=true:=by simpa using h1
  simp only[List.contains_cons,h1,Bool.or_true];rfl
theorem seen{H:Hp}{S:Sh}:∀{ds:List D}{vs:List V},eO g H S ds vs->∃L:List Addr,(∀a∈L,∃o,H a=some o/\LD o)/\zb g (hid H (iu S L)) ds vs
 |_,_,.nil=>⟨[],by simp,.nil⟩
 |_,_,.cons r t=>by
  obtain⟨L,h1,h2⟩:=seen t;rcases r with r|⟨a,o,z1,rfl,z4,z5⟩
  ·exact⟨L,h1,.cons (r.mono rG) h2⟩
  ·refine⟨a::L,λb hb=>?_,.cons (z5.rep rG (bx.mpr ⟨?_,z4⟩)) (h2.mono Ak)⟩
   ·rcases aD.mp hb with rfl|hb
    ·exact⟨o,z4,z5.ld⟩
    ·exact h1 b hb
   ·show (S.h a && !(a::L).contains a)=false;simp
theorem Ce(O:XO w g c E X){x:Str}{fr:Bool}{e:Expr}{es:List Expr}{ies:Es}(h:glob c x=some (.fn fr))(ha:PA X (e::es) (tA w g c E ies))(hs:∀z∈e::es,isStar z=false):PE X (.Call (.Name x p2) (e::es) [] pos) (tE w g c E (.callo x ies)):=by
 obtain⟨f,h1,h2⟩:=O.gm h;refine PE.imp (o3 O h2 (O.gl h) (zr h).2.2.1 ha hs) λσ H Q ⟨τ,S,se,k⟩=>?_
 simp only[zl,zp,zh,zm,zk,ze,zc,zq,zo,qy,qJ,qu,qA,qI,qr,qK,qD,qx,qL,qH,qN,qo,qB,qP,qE,qp,qV,qU,qM,qw,qG,qY,qR,qO,qQ,qT,qW,qS,qX,qF]at k;refine gf se k λds vs H1 e1 s1 r1 r1' k1=>?_
 obtain⟨L,hL,rr⟩:=seen r1;refine⟨iu S L,ds,λa ha=>?_,by rw[cR];exact rr,?_⟩
 ·refine se.sub.same s1 a ?_;rcases ha with ha|ha
  ·have ha:(S.h a && !L.contains a)=true:=ha;exact .inl (aI _ _▸ha).1
  ·cases ha
 ·cases q:w.call x ds with
  |ok d=>
   rw[q]at k1;simp only[R.bind_ok]at k1;split at k1
   ·rename_i hd
    intro v H' s' r _;refine k1 v H' (a9.of (s1.trans s') (sM (λa z1 z2=>?_) hd r) rfl);have z1:(S.h a && !L.contains a)=false:=z1;rw[z2]at z1;obtain⟨us,e,ld⟩:=hL a (by simpa using z1);exact⟨us,s' _ _ e,ld⟩
   ·exact k1.elim
  |ex z=>rw[q]at k1;exact λH' C sm hc=>k1 H' C sm hc
  |no=>rw[q]at k1;exact k1.elim
theorem vL(ha:PE X a (tE w g c E ia))(hb:PE X b (tE w g c E ib)):PE X (.Dict [some a] [b] pos) (tE w g c E (.dic1 ia ib)):=by
 refine PE.imp (y7 (Ag ha hb Am) rfl rfl (by simp) (by simp)) λσ H Q ⟨τ,S,se,k⟩ p hp=>?_
 simp only[zl,zp,zh,zm,zk,ze,zc,zq,zo,qy,qJ,qu,qA,qI,qr,qK,qD,qx,qL,qH,qN,qo,qB,qP,qE,qp,qV,qU,qM,qw,qG,qY,qR,qO,qQ,qT,qW,qS,qX,qF]at k;have s0:qf H (upd H p (.dK [])):=zg hp;show tE w g c E ia σ (upd H p (.dK [])) λx H1=>tE w g c E ib σ H1 λy H2=>_
 refine zf (se.up s0) (tR.up k s0) λda va H1 e1 p1 k1=>?_
 refine zf ((se.up s0).up p1.same) k1 λdb vb H2 e2 p2 k2=>?_
 cases da with
 |int i=>cases db with
  |int j=>
   have h1:=p1.rb.int;have h2:=p2.rb.int;subst h1 h2;refine⟨p2.same _ _ (p1.same _ _ zy),[(Sum.inl i,.int j)],rfl,by simp,k2 _ _ ?_⟩;have sm:qf H (upd H2 p (.dK (bj [(i,j)]))):=λb o hb=>by
    rw[qh (λz=>by rw[z,hp]at hb;cases hb)];exact p2.same _ _ (p1.same _ _ (s0 _ _ hb))
   exact a9.new (d:=.dic [(i,j)]) sm (.dic (bx.mpr ⟨se.sub.free hp,zy⟩)) ⟨p,_,rfl,hp,zy,.dic [(i,j)]⟩
  |_=>exact k2.elim
 |_=>exact k2.elim
theorem DA(O:XO w g c E X){o:Expr}{ap cp:Pos}(hb:baseOk o=true)(ho:PE X o (tE w g c E ia))(ha:PE X a (tE w g c E ib))(hs:isStar a=false)(hl:(ap.endLine==cp.line)=true) :
  PE X (.Call (.Attribute o "get" ap) [a] [] cp) (tE w g c E (.dget ia ib)):=by
 have hst:=qg (es:=[]) (env:=X.env) hs;have hu:=O.units;refine PE.imp (xP (by lia) ho ha ⟨nG hb,by rw[hst];rfl,hl,by rw[hst];rfl⟩) λσ H Q ⟨τ,S,se,k⟩=>?_
 simp only[zl,zp,zh,zm,zk,ze,zc,zq,zo,qy,qJ,qu,qA,qI,qr,qK,qD,qx,qL,qH,qN,qo,qB,qP,qE,qp,qV,qU,qM,qw,qG,qY,qR,qO,qQ,qT,qW,qS,qX,qF]at k;refine zf se k λda va H1 e1 p1 k1=>?_
 cases da with
 |dic kvs=>
  obtain⟨l,rfl,h1⟩:=p1.rb.dic;refine⟨l,rfl,.inl ⟨_,.inl h1⟩,zf (se.up p1.same) k1 λdb vb H2 e2 p2 k2=>?_⟩;cases db with
  |int i=>
   have h2:=p2.rb.int;subst h2;refine⟨_,cW.k (k:=Sum.inl i) (p2.same _ _ h1),?_⟩;rw[lC];cases e:atK kvs i with
   |none=>simp only[i',e]at k2;exact k2 _ _ (a9.of (p1.same.trans p2.same) .non rfl)
   |some v=>simp only[i',e]at k2;exact k2 _ _ (a9.of (p1.same.trans p2.same) (.int v) rfl)
  |_=>exact k2.elim
 |_=>exact k1.elim
theorem yv(O:XO w g c E X){o d:Expr}{id:EV.E}{ap cp:Pos}(hb:baseOk o=true)(ho:PE X o (tE w g c E ia))(ha:PE X a (tE w g c E ib))(hd:PE X d (tE w g c E id))(hs:isStar a=false)(hsd:isStar d=false)(hes:esc id=true)(hl:(ap.endLine==cp.line)=true) :
  PE X (.Call (.Attribute o "get" ap) [a,d] [] cp) (tE w g c E (.dget2 ia ib id)):=by
 have hst:=qg (es:=[]) (env:=X.env) hsd;have hst2:=qg (es:=[d]) (env:=X.env) hs;have hu:=O.units;refine PE.imp (yN (by lia) ho ha hd ⟨nG hb,by rw[hst2,hst];rfl,hl,by rw[hst2,hst];rfl⟩) λσ H Q ⟨τ,S,se,k⟩=>?_
 simp only[zl,zp,zh,zm,zk,ze,zc,zq,zo,qy,qJ,qu,qA,qI,qr,qK,qD,qx,qL,qH,qN,qo,qB,qP,qE,qp,qV,qU,qM,qw,qG,qY,qR,qO,qQ,qT,qW,qS,qX,qF]at k;refine zf se k λda va H1 e1 p1 k1=>?_
 cases da with
 |dic kvs=>
  obtain⟨l,rfl,h1⟩:=p1.rb.dic;refine⟨l,rfl,.inl ⟨_,.inl h1⟩,zf (se.up p1.same) k1 λdb vb H2 e2 p2 k2=>zf ((se.up p1.same).up p2.same) k2 λdz vz H3 e3 p3 k3=>?_⟩;cases db with
  |int i=>
   have h2:=p2.rb.int;subst h2;refine⟨_,cW.k (k:=Sum.inl i) (p3.same _ _ (p2.same _ _ h1)),?_⟩;rw[lC];cases e:atK kvs i with
   |none=>simp only[jH,e]at k3;exact k3 _ _ (a9.of ((p1.same.trans p2.same).trans p3.same) (p3.st hes) rfl)
   |some v=>simp only[jH,e]at k3;exact k3 _ _ (a9.of ((p1.same.trans p2.same).trans p3.same) (.int v) rfl)
  |_=>exact k3.elim
 |_=>exact k1.elim
theorem xX(O:XO w g c E X)(hc:X.calm=true){x:Str}{bb:Option B1}(h:glob c x=some (.ty "list" bb))(ha:PE X a (tE w g c E ia))(hs:isStar a=false):PE X (.Call (.Name x p2) [a] [] pos) (tE w g c E (.lsd ia)):=by
 obtain⟨h1,h2,_,h3⟩:=O.gm h;have hK:=O.K;refine PE.imp (lz (mQ.or (uI hc)) (O.gl h) h1 h2 (zC ha c_ (qg hs)) (zr h).2.2.2 (zr h).2.2.1 (qg hs)) λσ H Q ⟨τ,S,se,k⟩=>?_
 simp only[zl,zp,zh,zm,zk,ze,zc,zq,zo,qy,qJ,qu,qA,qI,qr,qK,qD,qx,qL,qH,qN,qo,qB,qP,qE,qp,qV,qU,qM,qw,qG,qY,qR,qO,qQ,qT,qW,qS,qX,qF]at k;refine zf se k λda va H1 e1 p1 k1=>?_
 cases da with
 |lst xs=>
  obtain⟨l,vs,rfl,q1,q2⟩:=p1.rb.lst;refine .inl ⟨l,vs,rfl,.inl (by rw[hK];exact q1),λp hp=>?_⟩;exact k1 _ _ (a9.new (p1.same.trans (zg hp)) (er (se.sub.same p1.same) hp q2) ((eB (qf.refl _) hp q2).low p1.same))
 |dic kvs=>
  obtain⟨l,rfl,q1⟩:=p1.rb.dic;refine .inr ⟨l,kvs,rfl,q1,λp hp=>?_⟩;have r:zb g (hid H1 S) (kvs.map λp=>D.int p.1) (kvs.map λp=>V.int p.1):=by
   have:=zb.ofInts (g:=g) (H:=hid H1 S) (kvs.map (·.1));rw[bF,bF]at this;exact this
  exact k1 _ _ (a9.new (p1.same.trans (zg hp)) (er (se.sub.same p1.same) hp r) ((eB (qf.refl _) hp r).low p1.same))
 |_=>exact k1.elim
theorem x6:PE X (.Dict [] [] pos) (tE w g c E .dic):=PE.imp CI λσ H Q ⟨τ,S,se,k⟩ p hp=>by
 simp only[zl,zp,zh,zm,zk,ze,zc,zq,zo,qy,qJ,qu,qA,qI,qr,qK,qD,qx,qL,qH,qN,qo,qB,qP,qE,qp,qV,qU,qM,qw,qG,qY,qR,qO,qQ,qT,qW,qS,qX,qF]at k;exact k _ _ (a9.new (zg hp) (CB (kvs:=[]) se.sub hp) (Ec (kvs:=[]) (qf.refl _) hp))
theorem p6{b:B1}{S:Sh}{H0 H:Hp}{ds:List D}{vs:List V}{Q:VK}{ies:Es}(s:qf H0 H)(hS:Sub S H)(r:eO g H S ds vs)(k:tR g E H (b1 b ds) λd=>∀v H',a9 g c (.bi b ies) S H0 d v H'->Q v H'):rB1 g b vs H Q:=by
 refine⟨S,ds,hS,r,?_⟩;cases q:b1 b ds with
 |ok d=>
  rw[q]at k;have fw:fresh c (.bi b ies)=true->b=.list\/b=.sorted:=λz=>by cases b<;>simp[fresh]at z ⊢
  exact λv H' s' r' f=>k v H' ⟨s.trans s',.inl r',λ_=>r',λz=>(f (fw z)).low s,λz _=>(f (fw z)).low s⟩
 |ex z=>exact yS q
 |no=>rw[q]at k;exact k
theorem yP(O:XO w g c E X){x:Str}{b:B1}{e:Expr}{es:List Expr}{ies:Es}(h:glob c x=some (.bi b))(hc:X.calm=true\/b=.len\/b=.abs)(ha:PA X (e::es) (tA w g c E ies))(hs:∀z∈e::es,isStar z=false):PE X (.Call (.Name x p2) (e::es) [] pos) (tE w g c E (.bi b ies)):=by
 obtain⟨h1,h2,id,h3⟩:=O.gm h;have hb:=xW b;rw[<-h2,h3]at hb;have hcall:=rR (X:=X) (g:=g) O.K O.units b (by rcases hc with z|z|z;exact .inl z;exact .inr (.inl z);exact .inr (.inr (.inl z)));rw[h3]at hcall;refine PE.imp (rL hcall (O.gl h) h1 hb ha (zr h).2.2.2 (zr h).2.2.1 (qg (hs e aJ)) (iy λz hz=>hs z (aK _ hz))) λσ H Q ⟨τ,S,se,k⟩=>?_
 simp only[zl,zp,zh,zm,zk,ze,zc,zq,zo,qy,qJ,qu,qA,qI,qr,qK,qD,qx,qL,qH,qN,qo,qB,qP,qE,qp,qV,qU,qM,qw,qG,qY,qR,qO,qQ,qT,qW,qS,qX,qF]at k;exact gf se k λds vs H1 e1 s1 r1 r1' k1=>p6 (ies:=ies) s1 (se.sub.same s1) r1 k1
theorem CL(O:XO w g c E X){x:Str}{n:String}{b:B1}{e:Expr}{es:List Expr}{ies:Es}(h:glob c x=some (.ty n (some b)))(ha:PA X (e::es) (tA w g c E ies))(hs:∀z∈e::es,isStar z=false):PE X (.Call (.Name x p2) (e::es) [] pos) (tE w g c E (.bi b ies)):=by
 obtain⟨h1,h2,_,h3⟩:=O.gm h;obtain⟨_,h4⟩:=h3 b rfl;have hcall:=rR (X:=X) (g:=g) O.K O.units b (by cases b<;>simp[b1V]at h4 ⊢);rw[h4]at hcall;refine PE.imp (lz hcall (O.gl h) h1 h2 ha (zr h).2.2.2 (zr h).2.2.1 (qg (hs e aJ)) (iy λz hz=>hs z (aK _ hz))) λσ H Q ⟨τ,S,se,k⟩=>?_
 simp only[zl,zp,zh,zm,zk,ze,zc,zq,zo,qy,qJ,qu,qA,qI,qr,qK,qD,qx,qL,qH,qN,qo,qB,qP,qE,qp,qV,qU,qM,qw,qG,qY,qR,qO,qQ,qT,qW,qS,qX,qF]at k;exact gf se k λds vs H1 e1 s1 r1 r1' k1=>p6 (ies:=ies) s1 (se.sub.same s1) r1 k1
end
end EV
namespace L2
open PySem PySem.Spec PyProof.Rows
open AutoSeq1 (wpAny_loadPart')
noncomputable def kA(K:aq)(l:Addr):It:=
 ⟨λi H=>∃xs x,SqT K H l xs/\xs[i]? = some x,
  λi H v H'=>∃p x,H p=none/\v=.ref p/\H'=upd H p (.tup [.int i,x])/\∀xs,SqT K H l xs->xs[i]? = some x,
  λi H=>∃xs,SqT K H l xs/\xs.length<=i⟩
theorem xy{prog:aw}{w:au}{A:ax}(hh:A.handled=none)(it l:Addr)(hne:l≠it)(items:Array ae) :
  Draws prog w A it [it,l] items.size (λi v=>items[i]? = some v) (λi h=>h.IsTupleIter it l i/\h.IsTuple l items) where
 live:=λ_ _ st=>let ⟨o,ho,_⟩:=st.1;⟨o,ho⟩
 frame:=λ_ _ _ st hk=>⟨st.1.at λo e=>hk it (by simp) o e,let ⟨o,e,r⟩:=st.2;⟨o,hk l (by simp) o e,r⟩⟩
 item:=λi s Q E hi st hQ=>mL st.1 st.2 (x:=items[i]) (by simp[hi]) λh' hit' hs'=>hQ _ h' s.toks (by simp[hi]) ⟨hit',st.2.extBut hs'.extBut hne⟩ hs'
 done:=λs Q E st hE=>kj hh st.1 st.2 (by simp) hE
abbrev ej1(h:Heap)(l:Addr):Heap:=h.push {cls:=.type "tuple_iterator",data:=.fields #[.ref l,.int 0 0]}
abbrev ej2(h:Heap)(l:Addr):Heap:=(ej1 h l).push {cls:=.type "enumerate",data:=.fields #[.none,.bool false,.ref h.objs.size,rawInt 0,.none,.none]}
theorem tY(l:Addr)(xs:Array ae) :
  Meets (Builtin.«enumerate.__new__» ⟨[.type "enumerate",.ref l],[]⟩) (λ_ R s=>s.heap.IsTuple l xs/\R (.ok (.ret (.ref (ej1 s.heap l).objs.size))) {s with heap:=ej2 s.heap l}):=
 .of_wp λprog w A R s h=>by
  obtain⟨hp,g,d,tk,os⟩:=s;obtain⟨hl,h⟩:=h;have hsub:=sub_enumerate;have hL:Heap.IsTuple (af.heap ⟨hp,g,d,tk,os⟩) l xs:=hl;obtain⟨⟨c,dct,dt,sl⟩,hl,hc,n,hd⟩:=hl
  replace hc:c=.type "tuple":=hc
  replace hd:dt=.seq xs n:=hd
  subst hc hd
  wp_walk using wpAny_loadPart' hl
  refine wpAny_stack_any λst=>aC ?_
  split
  ·rename_i c _ _ _ _ _
   cases (c==ae.type "enumerate")
   ·wp_walk using wpAny_loadPart' hl,wpAny_pyIter_tuple hL
    exact⟨_,rfl,h⟩
   ·wp_walk using wpAny_loadPart' hl,wpAny_pyIter_tuple hL
    exact⟨_,rfl,h⟩
  ·wp_walk using wpAny_loadPart' hl,wpAny_pyIter_tuple hL
   exact⟨_,rfl,h⟩
theorem yo{prog:aw}{w:au}{A:ax}{E:ae->af->Prop}{s:af}{l:Addr}{xs:Array ae}{Q:ae->af->Prop}(hl:s.heap.IsTuple l xs)
  (h:∀h',IsEnum h' (s.heap.objs.size+1) s.heap.objs.size 0 .none->h'.IsTupleIter s.heap.objs.size l 0->h'.objs.size=s.heap.objs.size+2->(∀b o,s.heap.get? b=some o->h'.get? b=some o)->Q (.ref (s.heap.objs.size+1)) {s with heap:=h'}) :
  ai (aj prog w) A (call (.type "enumerate") [.ref l]) Q E s:=by
 refine callType_new F.called_enumerate (by decide) (F.typeCall_enumerate_1 _) (F.newCall_enumerate_1 _) (λobj=>F.args_object_init_2 obj _) F.entry_enumerate_new (tY l xs) ⟨hl,?_⟩;have z1:(ej1 s.heap l).objs.size=s.heap.objs.size+1:=bQ ..;have g2:(ej2 s.heap l).get? (ej1 s.heap l).objs.size=some _:=Heap.get?_push_size _ rfl;show _/\_;rw[z1]at g2;rw[z1];exact⟨⟨_,g2,rfl⟩,h _ g2 ⟨_,Heap.get?_push_of_some _ (Heap.get?_push_size _ rfl),rfl,rfl⟩ (by rw[bQ,z1]) λb o x=>Heap.get?_push_of_some _ (Heap.get?_push_of_some _ x)⟩
theorem Ah{P:aw}{w:au}{K:aq}{es:List Expr}{ek:Nat}{epos:Pos}{e it l:Addr}(n1:e≠it)(n2:l≠e)(n3:l≠it) :
  Turn P w K (.Tuple es ek epos) (kA K l) [e,it] e (λi h=>(∃old,IsEnum h e it ((i:Nat):Int) old)/\h.IsTupleIter it l i) where
 mem:=by simp
 obj:=λi h st b hb=>by
  obtain⟨⟨old,hz⟩,o1,e1,_,d1⟩:=st;have hb':b=e\/b=it:=by simpa using hb
  rcases hb' with q|q
  ·subst q;exact⟨_,hz,λv q=>by cases q⟩
  ·subst q;exact⟨o1,e1,λv q=>by rw[d1]at q;cases q⟩
 keep:=λi h h' st k=>by
  obtain⟨⟨old,hz⟩,h1⟩:=st;exact⟨⟨old,k e (by simp) _ hz⟩,h1.at λo q=>k it (by simp) o q⟩
 item:=by
  intro X hP hw hK hc i pins s σ H E I hf st hg;subst hP hw hK;obtain⟨⟨old,hz⟩,h1⟩:=st;obtain⟨xs,x,q1,hx⟩:=hg;obtain⟨its,r1,p1,z1⟩:=I.tuple q1;have p1:s.heap.IsTuple l its.toArray:=p1;obtain⟨u1,hu1,ru1⟩:=r1.get hx;have hi:i<its.toArray.size:=by
   have:=(List.getElem?_eq_some_iff.mp hu1).1;simpa using this
  refine wpAny_pyNext_enum_itemD (xy (A:=X.A.in1) (show X.A.in1.handled=none from I.ok.hd hc) it l n3 its.toArray) hz ⟨h1,p1⟩ hi n1 (by simp[n1,Ne.symm n2]) λx' h' tk hx' a1 a2 a3 a4 hk=>?_
  have ex:x'=u1:=by
   have e1:its.toArray[i]? = some u1:=by simpa using hu1
   rw[e1]at hx';exact(bB hx').symm
  subst ex;have hkc:∀b o,b∉[e,it]->s.heap.get? b=some o->h'.get? b=some o:=λb o hb q=>hk b o (λz=>hb (by simp[z])) (λz=>hb (by simp[z])) q
  have I1:Inv X pins σ (upd H s.heap.objs.size (.tup [.int i,x])) {s with heap:=h',toks:=tk+1}:=I.turnNew (tk:=tk+1) (its:=[.int i tk,x']) hf hkc (ay _) ⟨_,a3,rfl,_,rfl⟩ (.cons ⟨_,rfl⟩ (.cons ru1 .nil)) (by show 2<=aH;decide);have hpn:H s.heap.objs.size=none:=I.hok.fresh (ay _);have hfp:∀b∈[e,it],b≠s.heap.objs.size:=λb hb q=>by
   have hb':b=e\/b=it:=by simpa using hb
   obtain⟨o1,e1,_,d1⟩:=h1;have:b<s.heap.objs.size:=by
    rcases hb' with q|q
    ·subst q;exact aG hz
    ·subst q;exact aG e1
   rw[q]at this;exact br _ this
  have hnone:∀b∈[e,it],(upd H s.heap.objs.size (.tup [.int i,x])) b=none:=λb hb=>by rw[qh (hfp b hb)];exact(hf b hb).1
  refine⟨_,rfl,?_⟩;refine wpAny_letOwnedTupleGo_enum (s:={s with heap:=h',toks:=tk+1}) a1 λh2' hz' hs'=>?_
  obtain⟨f0,f1,f2,f3,f4,f5⟩:=hf e (by simp);refine⟨.ref s.heap.objs.size,_,I1.turned (t':=tk+1) (it:=e) (λb o hb q=>(hs'.2 b hb).trans q) (hnone e (by simp)) f1 f3 f4 f5,rfl,⟨_,x,hpn,rfl,rfl,λzs hq=>by rw[I.tuple_inj hq q1];exact hx⟩,⟨⟨x',?_⟩,a2.1.at λo q=>(hs'.2 it (Ne.symm n1)).trans q⟩,hnone⟩
  ·have:((i+1:Nat):Int)=(i:Int)+1:=by push_cast;rfl
   rw[this];exact hz'
 done:=by
  intro X hP hw hK hc i pins s σ H E I hf st hg;subst hP hw hK;obtain⟨⟨old,hz⟩,h1⟩:=st;obtain⟨xs,q1,hx⟩:=hg;obtain⟨its,r1,p1,z1⟩:=I.tuple q1;have p1:s.heap.IsTuple l its.toArray:=p1;have hl:=r1.length;have hT:s.TypeIs (.ref e) "enumerate":=⟨_,hz,rfl⟩
  unfold pyNext;refine ah (wpAny_attempt (wpAny_callSpecial?_slot (name:=ag "__next__") hT F.slot_enumerate_next (dj F.slot_enumerate_next hT F.entry_enumerate_next ?_ (F.args_enumerate_next_1 _))));show ai _ _ (field (.ref e) 2>>=_) _ _ _;refine ah (bR hz rfl (x:=.ref it) rfl ?_);refine ah (kj (I.ok.hd hc) h1 p1 (by simp;lia) λh' x he' hx'=>?_);obtain⟨o,ho,hc'⟩:=hx';refine ah (wpAny_isInstance (T:="StopIteration") (b:=true) ⟨o,ho,hc'⟩ isSubtype_stop ?_);exact aC ⟨rfl,I.turnAll (tk:=s.toks) hf λb o hb q=>he' b o (λz=>hb (by simp[z])) q⟩
 self:=λ_ _ _ _ _ st h=>by
  obtain⟨⟨old,hz⟩,_⟩:=st;exact wpAny_pyIter_enum hz h
noncomputable def yf(K:aq)(ta:TA):TI:=λσ H R=>ta σ H λvs H1=>∃(l:Addr),vs=[.ref l]/\(((∃xs,SqL K H1 l xs)/\R (Ite K l) H1)\/((∃xs,SqT K H1 l xs)/\R (kA K l) H1))
theorem uV{X:Cx}{es:List Expr}{ek:Nat}{epos p pos:Pos}{a:Expr}{ta:TA}(hg:Gl X "enumerate")(hm:X.mg "enumerate" = none)(hv:bG "enumerate" = some (.type "enumerate"))(ha:PA X [a] ta)
  (hs:aL [a] X.env=[(false,eval a X.env)]:=by rfl):PI X (.Tuple es ek epos) (.Call (.Name "enumerate" p) [a] [] pos) (yf X.K ta):=by
 intro pins s σ H R I h;refine Call_ (fj I hg hm hv (ez (thn (ha pos pins s σ H _ I h) λus s1 ⟨vs,H1,I1,r1,q1⟩=>?_) (by rw[hs];rfl) (by rfl)));obtain⟨l,e,q1⟩:=q1;subst e;have fp:∀b∈[s1.heap.objs.size+1,s1.heap.objs.size],dq X pins H1 b:=λb hb=>by
  have hb':b=s1.heap.objs.size+1\/b=s1.heap.objs.size:=by simpa using hb
  have:s1.heap.objs.size<=b:=by
   rcases hb' with q|q
   ·rw[q];exact Nat.le_succ _
   ·rw[q];exact ay _
  exact I1.fpOk this (I1.hok.fresh this)
 cases r1 with
 |cons r rr=>
  cases rr;cases r;rcases q1 with ⟨⟨xs,q2⟩,q⟩|⟨⟨xs,q2⟩,q⟩
  ·obtain⟨its1,v1,p1,_⟩:=I1.list q2;have lt1:l<s1.heap.objs.size:=by obtain⟨_,e,_⟩:=p1.isList;exact aG e
   refine call_enumerate_list p1.isList λh' hE hI hsz k=>?_
   have I2:Inv X pins σ H1 {s1 with heap:=h'}:=I1.kept (t':=s1.toks) k;refine wpAny_pyIter_enum hE ?_;exact⟨_,_,_,_,H1,rfl,I2,DU (P:=X.prog) (w:=X.w) (K:=X.K) (e:=s1.heap.objs.size+1) (it:=s1.heap.objs.size) (l:=l) (Nat.succ_ne_self _) (aU (Nat.lt_succ_of_lt lt1)) (aU lt1),⟨⟨_,hE⟩,hI⟩,fp,q⟩
  ·obtain⟨its1,v1,p1,_⟩:=I1.tuple q2;have p1:s1.heap.IsTuple l its1.toArray:=p1;have lt1:l<s1.heap.objs.size:=by obtain⟨_,e,_⟩:=p1;exact aG e
   refine yo p1 λh' hE hI hsz k=>?_
   have I2:Inv X pins σ H1 {s1 with heap:=h'}:=I1.kept (t':=s1.toks) k;refine wpAny_pyIter_enum hE ?_;exact⟨_,_,_,_,H1,rfl,I2,Ah (P:=X.prog) (w:=X.w) (K:=X.K) (e:=s1.heap.objs.size+1) (it:=s1.heap.objs.size) (l:=l) (Nat.succ_ne_self _) (aU (Nat.lt_succ_of_lt lt1)) (aU lt1),⟨⟨_,hE⟩,hI⟩,fp,q⟩
end L2
namespace EV
open PySem PySem.Spec PySem.P PyProof.Rows L2
section
variable{w:W}{g:Gc}{c:Cc}{E:XK}{X:Cx}{a b d f:Expr}{ia ib id' if':EV.E}{pos p2:Pos}{ta tb:T}
noncomputable def AS(w:W)(g:Gc)(d:D)(vc:V)(bb:Bool):Cl->Prop
 | .ty n=>vc=.ty n/\((n∈["int","bool","str","list","tuple"]/\∃t,tyD d=some t/\bb=fX t n)\/∃k,d=.exn k/\w.sub k (.ty n)=some bb)
 | .ex x=>∃D k,g.clA x=some D/\vc=.ref D/\d=.exn k/\w.sub k (.ex x)=some bb
noncomputable def clV(g:Gc)(vc:V):Cl->Prop
 | .ty n=>vc=.ty n/\(n∈["int","bool","str","list","tuple"]\/n = "ValueError")
 | .ex x=>∃D,g.clA x=some D/\vc=.ref D
theorem xv(O:XO w g c E X):zt X (.builtin "isinstance") (λxs H Q=>∃(S:Sh) (d:D) (v:V) (cl:Cl) (vc:V) (bb:Bool),xs=[v,vc]/\zO g H S d v/\AS w g d vc bb cl/\Q (.bl bb) H):=by
 have k:=(vo (X:=X) (g:=g) O.K).or (Cw (X:=X));refine zt.imp k λxs H Q ⟨S,d,v,cl,vc,bb,e,rd,h,q⟩=>?_
 have exn:∀(kk:Str) (cv:ae),d=.exn kk->jV vc=some cv->(∃C,g.clA kk=some C/\cL g.K C/\bh g.K (.ref C) cv=some bb)->∃x c cv t b,xs=[x,c]/\jV c=some cv/\TyX X.K H x t/\bh X.K t cv=some b/\Q (.bl b) H:=λkk cv ed hv ⟨C,h1,h2,h3⟩=>by
  subst ed;cases rd.rep with
  | @exn _ a C' z1 z2=>
   rw[h1]at z1;cases z1;exact⟨_,vc,cv,.ref C,bb,e,hv,.inr ⟨a,C,rfl,rfl,z2,by rw[O.K];exact h2⟩,by rw[O.K];exact h3,q⟩
 cases cl with
 |ty n=>
  obtain⟨rfl,⟨hn,t,ht,rfl⟩|⟨kk,rfl,hk⟩⟩:=h
  ·exact .inl ⟨S,d,v,n,t,e,rd,ht,hn,q⟩
  ·obtain⟨C,cv,z1,z2,z3,z4,z5⟩:=O.sub kk (.ty n) bb hk;exact .inr (exn kk (.type n) rfl rfl ⟨C,z1,z2,z5▸z3⟩)
 |ex x=>
  obtain⟨D,kk,h1,rfl,rfl,hk⟩:=h;obtain⟨C,cv,z1,z2,z3,D',z4,z5⟩:=O.sub kk (.ex x) bb hk;rw[h1]at z4;cases z4;exact .inr (exn kk (.ref D) rfl rfl ⟨C,z1,z2,z5▸z3⟩)
theorem vh{x:D}{cl:Cl}:(∃t n,tyD x=some t/\cl=.ty n/\n≠"ValueError"/\ck w x cl=.ok (.bl (fX t n)))\/(∃k b,x=.exn k/\w.sub k cl=some b/\ck w x cl=.ok (.bl b))\/ck w x cl=.no:=by
 unfold ck;cases e:tyD x with
 |some t=>
  cases cl with
  |ty n=>
   by_cases hn:n = "ValueError"
   ·exact .inr (.inr (by simp[hn]))
   ·exact .inl ⟨t,n,rfl,rfl,hn,by simp[hn]⟩
  |ex y=>exact .inr (.inr rfl)
 |none=>
  cases x with
  |exn k=>
   cases q:w.sub k cl with
   |none=>exact .inr (.inr (by simp[q]))
   |some b=>exact .inr (.inl ⟨k,b,rfl,q,by simp[q]⟩)
  |fn y=>exact .inr (.inr (by cases cl<;>rfl))
  |_=>cases e
theorem D6(O:XO w g c E X){x:Str}{k:Expr}{cl:Cl}(h:glob c x=some .isi)(ha:PE X a (tE w g c E ia))(hk:jL c k=some cl)(hs:isStar a=false):PE X (.Call (.Name x p2) [a,k] [] pos) (tE w g c E (.isi ia cl)):=by
 obtain⟨h1,rfl⟩:=O.gm h;obtain⟨y,q,rfl⟩:∃y q,k=.Name y q:=by
  cases k<;>first|exact⟨_,_,rfl⟩|(simp[jL]at hk)
 obtain⟨vc,hv,hc⟩:∃vc,PE X (.Name y q) (tC vc)/\clV g vc cl:=by
  simp only[jL]at hk;split at hk
  ·rename_i n b e
   cases hk;obtain⟨z1,z2,z3,_⟩:=O.gm e;exact⟨.ty n,CM (O.gl e) z1 z2 rfl (zr e).2.2.2 (zr e).2.2.1,rfl,z3⟩
  ·rename_i e
   cases hk;obtain⟨C,z1,z2⟩:=O.gm e;exact⟨.ref C,ll (O.gl e) z1 rfl (zr e).2.2.1,C,z2,rfl⟩
  ·rename_i e
   cases hk;obtain⟨C,z1,z2⟩:=O.gm e;exact⟨.ref C,ll (O.gl e) z1 rfl (zr e).2.2.1,C,z2,rfl⟩
  ·cases hk
 refine PE.imp (rL (xv O) (O.gl h) h1 (by decide +kernel) (zC ha (zC hv c_) (qg hs)) (by decide) (by decide) (qg hs) rfl) λσ H Q ⟨τ,S,se,k⟩=>?_
 simp only[zl,zp,zh,zm,zk,ze,zc,zq,zo,qy,qJ,qu,qA,qI,qr,qK,qD,qx,qL,qH,qN,qo,qB,qP,qE,qp,qV,qU,qM,qw,qG,qY,qR,qO,qQ,qT,qW,qS,qX,qF]at k;refine zf se k λda va H1 e1 p1 k1=>?_
 rcases vh (w:=w) (x:=da) (cl:=cl)with ⟨t,n,z1,rfl,z2,z3⟩|⟨kk,bb,rfl,z2,z3⟩|z3
 ·rw[z3]at k1;obtain⟨rfl,hc|hc⟩:=hc
  ·exact⟨S,da,va,.ty n,.ty n,_,rfl,p1.rb,⟨rfl,.inl ⟨hc,t,z1,rfl⟩⟩,k1 _ _ (a9.of p1.same (.bl _) rfl)⟩
  ·exact absurd hc z2
 ·rw[z3]at k1;refine⟨S,.exn kk,va,cl,vc,bb,rfl,p1.rb,?_,k1 _ _ (a9.of p1.same (.bl _) rfl)⟩;cases cl with
  |ty n=>exact⟨hc.1,.inr ⟨kk,rfl,z2⟩⟩
  |ex x=>obtain⟨D,z4,z5⟩:=hc;exact⟨D,kk,z4,z5,rfl,z2⟩
 ·rw[z3]at k1;exact k1.elim
theorem B2(O:XO w g c E X)(ha:PE X a (tE w g c E ia))(he:∀whole,isTrue a X.env whole=(do let v <-whole;standAt a.pos;holding [v] (truthy v))):PT X a (tT w g c E (.val ia)):=
 PT.imp (EG ha he) λσ H Q ⟨τ,S,se,k⟩=>by
  simp only[fb,fq,fz,fC,fB,fg,ff]at k;refine zf se k λda va H1 e1 p1 k1=>?_
  cases q:truth da with
  |ok z=>rw[q]at k1;exact⟨z,Bm O.K p1.rb q,k1 _ p1.same⟩
  |ex z=>exact absurd q EK
  |no=>rw[q]at k1;exact k1.elim
theorem Bk(ha:PT X a (tT w g c E ta)):PT X (.UnaryOp .Not a pos) (tT w g c E (.not ta)):=
 PT.imp (vT ha) λσ H Q ⟨τ,S,se,k⟩=>by
  simp only[fb,fq,fz,fC,fB,fg,ff]at k;exact jO se k λz H1 e1 s1 k1=>k1 _ s1
theorem uu{rest:List Expr}(ha:PT X a (tT w g c E ta))(hb:PW X (.BoolOp .And (b::rest) pos) (tT w g c E tb)):PW X (.BoolOp .And (a::b::rest) pos) (tT w g c E (.and ta tb)):=
 PW.imp (BF ha hb) λσ H Q ⟨τ,S,se,k⟩=>by
  simp only[fb,fq,fz,fC,fB,fg,ff]at k;refine jO se k λz H1 e1 s1 k1=>?_
  cases z with
  |true=>exact⟨τ,S,se.up s1,tR.imp k1 λb hk H' s=>hk H' (s1.trans s)⟩
  |false=>exact k1 _ s1
theorem AR{rest:List Expr}(ha:PT X a (tT w g c E ta))(hb:PW X (.BoolOp .Or (b::rest) pos) (tT w g c E tb)):PW X (.BoolOp .Or (a::b::rest) pos) (tT w g c E (.or ta tb)):=
 PW.imp (ur ha hb) λσ H Q ⟨τ,S,se,k⟩=>by
  simp only[fb,fq,fz,fC,fB,fg,ff]at k;refine jO se k λz H1 e1 s1 k1=>?_
  cases z with
  |false=>exact⟨τ,S,se.up s1,tR.imp k1 λb hk H' s=>hk H' (s1.trans s)⟩
  |true=>exact k1 _ s1
theorem PI.or{tg e:Expr}{t t':TI}(h:PI X tg e t)(h':PI X tg e t'):PI X tg e (λσ H R=>t σ H R\/t' σ H R):=λpins s σ H R I q=>by
 rcases q with q|q
 ·exact h pins s σ H R I q
 ·exact h' pins s σ H R I q
theorem rq{K:aq}{a:Addr}{vs:List V}{ds:List D}{H:Hp}{S:Sh}(hl:SqL K H a vs)(r:zb g (hid H S) ds vs):Goes g (Itl K a) ds H S:=by
 refine⟨λi hi=>⟨vs,hl,by rw[<-r.length];exact hi⟩,λi d hd=>?_⟩;obtain⟨v,h1,h2⟩:=r.get hd;refine⟨⟨vs,v,hl,h1⟩,λx H' ⟨e,hx⟩=>?_⟩;subst e;have:=hx vs hl;rw[h1]at this;cases this;exact⟨qf.refl _,h2⟩
theorem oq{K:aq}{a:Addr}{vs:List V}{ds:List D}{H:Hp}{S:Sh}(hl:SqT K H a vs)(r:zb g (hid H S) ds vs):Goes g (Itt K a) ds H S:=by
 refine⟨λi hi=>⟨vs,hl,by rw[<-r.length];exact hi⟩,λi d hd=>?_⟩;obtain⟨v,h1,h2⟩:=r.get hd;refine⟨⟨vs,v,hl,h1⟩,λx H' ⟨e,hx⟩=>?_⟩;subst e;have:=hx vs hl;rw[h1]at this;cases this;exact⟨qf.refl _,h2⟩
theorem lI:∀{xs:List D}{k i:Nat}{d:D},(dB k xs)[i]? = some d->∃x,xs[i]? = some x/\d=.tup [.int ((k+i:Nat):Int),x]
 | [],_,_,_,h=>by simp[dB]at h
 |x::r,k,0,d,h=>by simp[dB]at h;exact⟨x,rfl,by rw[<-h];rfl⟩
 |x::r,k,i+1,d,h=>by
  simp only[dB,List.getElem?_cons_succ]at h;obtain⟨y,h1,h2⟩:=lI h;exact⟨y,by simpa using h1,by rw[h2,show k+1+i=k+(i+1)by lia]⟩
theorem kG:∀(xs:List D) (k:Nat),(dB k xs).length=xs.length
 | [],_=>rfl
 |x::r,k=>by simp[dB,kG r]
theorem mP{K:aq}{a:Addr}{vs:List V}{ds:List D}{H:Hp}{S:Sh}(hl:SqL K H a vs)(r:zb g (hid H S) ds vs)(hS:Sub S H):Goes g (Ite K a) (dB 0 ds) H S:=by
 refine⟨λi hi=>⟨vs,hl,by rw[<-r.length,<-kG ds 0];exact hi⟩,λi d hd=>?_⟩;obtain⟨y,h0,rfl⟩:=lI hd;obtain⟨v,h1,h2⟩:=r.get h0;refine⟨⟨vs,v,hl,h1⟩,λx H' ⟨p,z,hp,e1,e2,hx⟩=>?_⟩;subst e1 e2;have:=hx vs hl;rw[h1]at this;cases this;refine⟨zg hp,?_⟩;rw[Nat.zero_add];exact fR hS hp (.cons (.int _) (.cons h2 .nil))
theorem oX{K:aq}{a:Addr}{vs:List V}{ds:List D}{H:Hp}{S:Sh}(hl:SqT K H a vs)(r:zb g (hid H S) ds vs)(hS:Sub S H):Goes g (kA K a) (dB 0 ds) H S:=by
 refine⟨λi hi=>⟨vs,hl,by rw[<-r.length,<-kG ds 0];exact hi⟩,λi d hd=>?_⟩;obtain⟨y,h0,rfl⟩:=lI hd;obtain⟨v,h1,h2⟩:=r.get h0;refine⟨⟨vs,v,hl,h1⟩,λx H' ⟨p,z,hp,e1,e2,hx⟩=>?_⟩;subst e1 e2;have:=hx vs hl;rw[h1]at this;cases this;refine⟨zg hp,?_⟩;rw[Nat.zero_add];exact fR hS hp (.cons (.int _) (.cons h2 .nil))
theorem nW:∀{xs ys:List D}{i:Nat}{d:D},(cD xs ys)[i]? = some d->∃x y,xs[i]? = some x/\ys[i]? = some y/\d=.tup [x,y]
 | [],_,_,_,h=>by simp[cD]at h
 |_::_,[],_,_,h=>by simp[cD]at h
 |x::r,y::t,0,d,h=>by simp[cD]at h;exact⟨x,y,rfl,rfl,h.symm⟩
 |x::r,y::t,i+1,d,h=>by
  simp only[cD,List.getElem?_cons_succ]at h;obtain⟨x',y',h1,h2,h3⟩:=nW h;exact⟨x',y',by simpa using h1,by simpa using h2,h3⟩
theorem sk:∀(xs ys:List D),(cD xs ys).length=min xs.length ys.length
 | [],_=>by simp[cD]
 |_::_,[]=>by simp[cD]
 |x::r,y::t=>by simp[cD,sk r t]
theorem jx{K:aq}{tup:Bool}{a b:Addr}{vs us:List V}{ds es:List D}{H:Hp}{S:Sh}(hl:Sq2 K tup H a vs)(hl':Sq2 K tup H b us)(r:zb g (hid H S) ds vs)(r':zb g (hid H S) es us)(hn:ds.length=es.length)(hS:Sub S H):Goes g (Itz K tup a b) (cD ds es) H S:=by
 refine⟨λi hi=>⟨vs,us,hl,hl',by rw[sk]at hi;rw[<-r.length];lia⟩,λi d hd=>?_⟩;obtain⟨x,y,h0,h0',rfl⟩:=nW hd;obtain⟨v,h1,h2⟩:=r.get h0;obtain⟨u,h3,h4⟩:=r'.get h0';refine⟨⟨vs,us,v,u,hl,hl',h1,h3⟩,λx H' ⟨p,z,z',hp,e1,e2,hx,hx'⟩=>?_⟩;subst e1 e2;have q:=hx vs hl;rw[h1]at q;cases q;have q:=hx' us hl';rw[h3]at q;cases q;exact⟨zg hp,fR hS hp (.cons h2 (.cons h4 .nil))⟩
theorem jJ{lo:Int}{n:Nat}{H:Hp}{S:Sh}:Goes g (Itr lo n) (zY lo n) H S:=by
 refine⟨λi hi=>by show n<=i;simpa[zY]using hi,λi d hd=>?_⟩;unfold zY at hd;rw[List.getElem?_map]at hd;cases q:(a8 n)[i]? with
 |none=>rw[q]at hd;cases hd
 |some j=>
  rw[q]at hd;cases hd;have hi:=(List.getElem?_eq_some_iff.mp q)
  obtain⟨h1,h2⟩:=hi;simp at h1 h2;subst h2;exact⟨h1,λx H' ⟨e1,e2⟩=>by subst e1 e2;exact⟨qf.refl _,.int _⟩⟩
theorem rD{lo st:Int}{n:Nat}{H:Hp}{S:Sh}:Goes g (ItS lo st n) (hZ lo st n) H S:=by
 refine⟨λi hi=>by show n<=i;simpa[hZ]using hi,λi d hd=>?_⟩;unfold hZ at hd;rw[List.getElem?_map]at hd;cases q:(a8 n)[i]? with
 |none=>rw[q]at hd;cases hd
 |some j=>
  rw[q]at hd;cases hd;have hi:=(List.getElem?_eq_some_iff.mp q)
  obtain⟨h1,h2⟩:=hi;simp at h1 h2;subst h2;exact⟨h1,λx H' ⟨e1,e2⟩=>by subst e1 e2;exact⟨qf.refl _,.int _⟩⟩
theorem DN(O:XO w g c E X){tg:Expr}(ha:PE X a (tE w g c E ia)):PI X tg a (tIt w g c E (.seq ia)):=
 PI.imp (PI.or (wF ha) (B8 ha)) λσ H R ⟨τ,S,se,k⟩=>by
  have k0:=k;simp only[evI]at k;cases q:evE w ia τ with
  |ex z=>exact .inl ⟨τ,S,se,by rw[q]at k ⊢;exact k⟩
  |no=>rw[q]at k;exact k.elim
  |ok dd=>
   cases dd with
   |lst ds=>
    refine .inl (zf se k λda va H1 e1 p1 k1=>?_);rw[q]at e1;cases e1;obtain⟨ad,vs,rfl,h1,r1⟩:=p1.rb.lst;rw[<-O.K]at h1;refine⟨ad,rfl,⟨vs,h1⟩,k1 _ H1 p1.same (λH2 S2 s1 s2 _=>rq (s1.seq h1) (r1.mono s2)) λho H2 S2 s2 _=>?_⟩;have he:esc ia=true:=by
     cases ia<;>first|rfl|(simp[owned]at ho)
    cases p1.st he with
    |lst h2 r2=>exact rq (by rw[O.K];exact(s2.trans zM).seq h2) (r2.mono s2)
   |tup ds=>
    refine .inr (zf se k λda va H1 e1 p1 k1=>?_);rw[q]at e1;cases e1;cases p1.rb.strong (by intro _ z;cases z)with
    |tup h2 r2=>
     refine⟨_,rfl,⟨_,by rw[O.K];exact zJ zM h2⟩,k1 _ H1 p1.same (λH2 S2 s1 s2 _=>oq (by rw[O.K];exact zJ (s2.trans zM) h2) (r2.mono s2)) λho H2 S2 s2 _=>oq (by rw[O.K];exact zJ (s2.trans zM) h2) (r2.mono s2)⟩
   |_=>rw[q]at k;exact k.elim
theorem jE{j:Int}(h:qC j=true):-1000000<=j/\j<=1000000:=by simpa[qC]using h
theorem Er(O:XO w g c E X){x:Str}{tg:Expr}(h:glob c x=some .rng)(ha:PE X a (tE w g c E ia))(hs:isStar a=false):PI X tg (.Call (.Name x p2) [a] [] pos) (tIt w g c E (.rng ia)):=by
 obtain⟨h1,rfl⟩:=O.gm h;refine PI.imp (wJ (O.gl h) h1 (zC ha c_ (qg hs)) (qg hs)) λσ H R ⟨τ,S,se,k⟩=>?_
 simp only[evI]at k;refine zf se k λda va H1 e1 p1 k1=>?_
 cases da with
 |int j=>
  simp only at k1;cases q:qC j with
  |true=>
   rw[q,if_pos rfl]at k1;obtain⟨z1,z2⟩:=jE q;exact⟨j,by rw[p1.rb.int],by lia,by lia,k1 _ H1 p1.same (λ_ _ _ _ _=>jJ) λ_ _ _ _ _=>jJ⟩
  |false=>rw[q]at k1;exact k1.elim
 |_=>exact k1.elim
theorem Aq(O:XO w g c E X){x:Str}{tg:Expr}(h:glob c x=some .rng)(ha:PE X a (tE w g c E ia))(hb:PE X b (tE w g c E ib))(hs:isStar a=false)(hs':isStar b=false):PI X tg (.Call (.Name x p2) [a,b] [] pos) (tIt w g c E (.rng2 ia ib)):=by
 obtain⟨h1,rfl⟩:=O.gm h;refine PI.imp (CC (O.gl h) h1 (zC ha (zC hb c_ (qg hs')) (qg hs)) (by rw[qg hs,qg hs'];rfl) (qg hs')) λσ H R ⟨τ,S,se,k⟩=>?_
 simp only[evI]at k;refine zf se k λda va H1 e1 p1 k1=>zf (se.up p1.same) k1 λdb vb H2 e2 p2 k2=>?_
 cases da with
 |int i=>
  cases db with
  |int j=>
   simp only at k2;cases q:qC i&&qC j with
   |true=>
    rw[q,if_pos rfl]at k2;simp only[aI]at q;obtain⟨z1,z2⟩:=jE q.1;obtain⟨z3,z4⟩:=jE q.2;exact⟨i,j,by rw[p1.rb.int,p2.rb.int],⟨by lia,by lia,by lia,by lia⟩,k2 _ H2 (p1.same.trans p2.same) (λ_ _ _ _ _=>jJ) λ_ _ _ _ _=>jJ⟩
   |false=>rw[q]at k2;exact k2.elim
  |_=>exact k2.elim
 |_=>exact k2.elim
theorem sY(O:XO w g c E X){x:Str}{es:List Expr}{ek:Nat}{epos:Pos}(h:glob c x=some .enum)(ha:PE X a (tE w g c E ia))(hs:isStar a=false):PI X (.Tuple es ek epos) (.Call (.Name x p2) [a] [] pos) (tIt w g c E (.enum ia)):=by
 obtain⟨h1,rfl⟩:=O.gm h;refine PI.imp (uV (O.gl h) h1 (by decide +kernel) (zC ha c_ (qg hs)) (qg hs)) λσ H R ⟨τ,S,se,k⟩=>?_
 simp only[evI]at k;refine zf se k λda va H1 e1 p1 k1=>?_
 cases da with
 |lst ds=>
  obtain⟨ad,vs,rfl,h1,r1⟩:=p1.rb.lst;rw[<-O.K]at h1;refine⟨ad,rfl,.inl ⟨⟨vs,h1⟩,k1 _ H1 p1.same (λH2 S2 s1 s2 s3=>mP (s1.seq h1) (r1.mono s2) s3) λho H2 S2 s2 s3=>?_⟩⟩;have he:esc ia=true:=by
   cases ia<;>first|rfl|(simp[owned]at ho)
  cases p1.st he with
  |lst h2 r2=>exact mP (by rw[O.K];exact(s2.trans zM).seq h2) (r2.mono s2) s3
 |tup ds=>
  obtain⟨ad,vs,rfl,h1,r1⟩:=p1.rb.tup;rw[<-O.K]at h1;refine⟨ad,rfl,.inr ⟨⟨vs,h1⟩,k1 _ H1 p1.same (λH2 S2 s1 s2 s3=>oX (zJ s1 h1) (r1.mono s2) s3) λho H2 S2 s2 s3=>?_⟩⟩;have he:esc ia=true:=by
   cases ia<;>first|rfl|(simp[owned]at ho)
  cases p1.st he with
  |tup h2 r2=>exact oX (by rw[O.K];exact zJ (s2.trans zM) h2) (r2.mono s2) s3
 |_=>exact k1.elim
theorem CS(O:XO w g c E X){x:Str}{es:List Expr}{ek:Nat}{epos:Pos}(h:glob c x=some .zip)(ha:PE X a (tE w g c E ia))(hb:PE X b (tE w g c E ib))(hs:isStar a=false)(hs':isStar b=false):PI X (.Tuple es ek epos) (.Call (.Name x p2) [a,b] [] pos) (tIt w g c E (.zip ia ib)):=by
 obtain⟨h1,rfl⟩:=O.gm h;refine PI.imp (Cr (O.gl h) h1 (by decide +kernel) (zC ha (zC hb c_ (qg hs')) (qg hs)) (by rw[qg hs,qg hs'];rfl) (qg hs')) λσ H R ⟨τ,S,se,k⟩=>?_
 simp only[evI]at k;refine zf se k λda va H1 e1 p1 k1=>zf (se.up p1.same) k1 λdb vb H2 e2 p2 k2=>?_
 have hown:∀{i1 i2:EV.E},owned (.zip i1 i2)=false->esc i1=true/\esc i2=true:=λ{i1 i2} z=>by
  have a:∀{i:EV.E},esc i=false->∃k,i=.own k:=λ{i} h=>by cases i<;>first|exact⟨_,rfl⟩|cases h
  cases e1:esc i1 with
  |false=>obtain⟨k,rfl⟩:=a e1;cases z
  |true=>
   cases e2:esc i2 with
   |false=>obtain⟨k,rfl⟩:=a e2;cases i1<;>cases z
   |true=>exact⟨rfl,rfl⟩
 have s12:=p1.same.trans p2.same;cases da with
 |lst ds=>
  cases db with
  |lst es=>
   simp only at k2;by_cases hn:ds.length=es.length
   ·rw[if_pos hn]at k2;obtain⟨ad,vs,rfl,h1,r1⟩:=(p1.rb.mono p2.same).lst;obtain⟨bd,us,rfl,h2,r2⟩:=p2.rb.lst;rw[<-O.K]at h1 h2;refine⟨false,ad,bd,rfl,⟨vs,h1⟩,⟨us,h2⟩,k2 _ H2 s12 (λH3 S3 s1 s2 s3=>jx (tup:=false) (s1.seq h1) (s1.seq h2) (r1.mono s2) (r2.mono s2) hn s3) λho H3 S3 s2 s3=>?_⟩;obtain⟨o1,o2⟩:=hown ho;cases (p1.st o1).mono (qq p2.same)with
    |lst h3 r3=>
     cases p2.st o2 with
     |lst h4 r4=>exact jx (tup:=false) (by rw[O.K];exact(s2.trans zM).seq h3) (by rw[O.K];exact(s2.trans zM).seq h4) (r3.mono s2) (r4.mono s2) hn s3
   ·rw[if_neg hn]at k2;exact k2.elim
  |_=>exact k2.elim
 |tup ds=>
  cases db with
  |tup es=>
   simp only at k2;by_cases hn:ds.length=es.length
   ·rw[if_pos hn]at k2;cases (p1.rb.mono p2.same).strong (by intro _ z;cases z)with
    |tup h3 r3=>
     cases p2.rb.strong (by intro _ z;cases z)with
     |tup h4 r4=>
      refine⟨true,_,_,rfl,⟨_,by rw[O.K];exact zJ zM h3⟩,⟨_,by rw[O.K];exact zJ zM h4⟩,k2 _ H2 s12 (λH3 S3 s1 s2 s3=>?_) λho H3 S3 s2 s3=>?_⟩
      ·exact jx (tup:=true) (by rw[O.K];exact zJ (s2.trans zM) h3) (by rw[O.K];exact zJ (s2.trans zM) h4) (r3.mono s2) (r4.mono s2) hn s3
      ·exact jx (tup:=true) (by rw[O.K];exact zJ (s2.trans zM) h3) (by rw[O.K];exact zJ (s2.trans zM) h4) (r3.mono s2) (r4.mono s2) hn s3
   ·rw[if_neg hn]at k2;exact k2.elim
  |_=>exact k2.elim
 |_=>exact k2.elim
end
noncomputable def iL:List Nat->TGs
 | []=>rB
 |i::is=>mU (fI i) (iL is)
noncomputable def gT(K:aq):Tg->TG
 | .nm i=>fI i
 | .tp is=>o5 K is.length (iL is)
section
variable{w:W}{g:Gc}{c:Cc}{E:XK}{X:Cx}
theorem ee{x:Str}{i:Nat}(h:de c x=some i):loc c x=some i/\(c.nm.lookup x=some .local\/(c.nm.lookup x=some .cell/\(c.fnc=true\/c.oc.contains x=true))):=by
 unfold de at h;split at h
 ·rename_i q;exact⟨h,.inl q⟩
 ·rename_i q
  split at h
  ·rename_i z;exact⟨h,.inr ⟨q,by simpa using z⟩⟩
  ·cases h
 ·cases h
theorem om(O:XO w g c E X){x:Str}{i:Nat}{pos:Pos}(h:de c x=some i):PG X (.Name x pos) (fI i):=by
 obtain⟨h1,h2⟩:=ee h;obtain⟨h3,_⟩:=dD h1;refine Bb (by rw[O.N];exact O.nd) (by rw[O.N];exact h3) (by unfold L2.Loc;rw[O.nm];rcases h2 with z|z;exact .inl z;exact .inr z.1) ?_;rcases h2 with z|z
 ·exact .inr (by rw[O.nm];exact z)
 ·exact .inl (O.fn x z.2)
theorem oZ:∀{es:List Expr}{xs:List Str},gU es=some xs->∃ps:List Pos,es=(xs.zip ps).map (λp=>Expr.Name p.1 p.2)/\ps.length=xs.length
 | [],xs,h=>by simp[gU]at h;subst h;exact⟨[],rfl,rfl⟩
 |e::es,xs,h=>by
  cases e with
  |Name y p=>
   simp only[gU,bz]at h;obtain⟨ys,h1,rfl⟩:=h;obtain⟨ps,h2,h3⟩:=oZ h1;exact⟨p::ps,by rw[h2];rfl,by simp[h3]⟩
  |_=>simp[gU]at h
theorem m7(O:XO w g c E X):∀{xs:List Str}{ps:List Pos}{is:List Nat},ps.length=xs.length->xs.mapM (de c)=some is ->
  PGs X ((xs.zip ps).map λp=>Expr.Name p.1 p.2) (iL is)/\(assignEach ((xs.zip ps).map λp=>Expr.Name p.1 p.2) X.env).length=is.length/\(assignEach ((xs.zip ps).map λp=>Expr.Name p.1 p.2) X.env).findIdx? (·.1)=none
 | [],ps,is,_,h=>by
  simp at h;subst h;exact⟨vG,rfl,rfl⟩
 |x::xs,[],_,h,_=>by simp at h
 |x::xs,p::ps,is,hl,h=>by
  simp only[List.mapM_cons,aE,aB]at h;obtain⟨i,h1,js,h2,h3⟩:=h;cases h3;obtain⟨r1,r2,r3⟩:=m7 O (xs:=xs) (ps:=ps) (by simpa using hl) h2;refine⟨Bd (om O h1) r1 rfl,?_,?_⟩
  ·show (assignEach ((xs.zip ps).map λp=>Expr.Name p.1 p.2) X.env).length+1=js.length+1;rw[r2]
  ·show List.findIdx? (·.1) ((false,_)::assignEach ((xs.zip ps).map λp=>Expr.Name p.1 p.2) X.env)=none;rw[List.findIdx?_cons];simp only[bU,if_false];rw[r3];rfl
theorem jh(O:XO w g c E X){e:Expr}{tg:Tg}(h:cTg c e=some tg):PG X e (gT X.K tg):=by
 cases e with
 |Name x p=>
  simp only[cTg]at h;split at h
  ·cases h
  ·simp only[bz]at h;obtain⟨i,h1,rfl⟩:=h;exact om O h1
 |Tuple es k p=>
  simp only[cTg]at h;split at h
  ·rename_i hc
   simp only[aE,aB]at h;obtain⟨xs,h1,h⟩:=h;split at h
   ·cases h
   ·simp only[aB]at h;obtain⟨is,h2,h⟩:=h;split at h
    ·cases h;obtain⟨ps,rfl,hl⟩:=oZ h1;obtain⟨r1,r2,r3⟩:=m7 O hl h2;exact ug (O.calm hc) r1 r2 r3
    ·cases h
  ·cases h
 |_=>simp[cTg]at h
noncomputable def iT(c:Cc):Tg->Prop
 | .nm i=>∀x,c.N[i]? = some x->c.own.contains x=false
 | .tp is=>∀i∈is,∀x,c.N[i]? = some x->c.own.contains x=false
theorem oQ{α β:Type}{f:α->Option β}:∀{xs:List α}{ys:List β},xs.mapM f=some ys->∀y∈ys,∃x∈xs,f x=some y
 | [],ys,h,y,hy=>by simp at h;subst h;simp at hy
 |x::xs,ys,h,y,hy=>by
  simp only[List.mapM_cons,aE,aB]at h;obtain⟨z,h1,zs,h2,h3⟩:=h;cases h3;rcases aD.mp hy with rfl|hy
  ·exact⟨x,aJ,h1⟩
  ·obtain⟨x',h4,h5⟩:=oQ h2 y hy;exact⟨x',aK _ h4,h5⟩
theorem p_{e:Expr}{tg:Tg}(h:cTg c e=some tg):iT c tg:=by
 have one:∀{x:Str}{i:Nat},c.own.contains x=false->de c x=some i->∀y,c.N[i]? = some y->c.own.contains y=false:=λ{x i} ho hl y hy=>by
  obtain⟨h3,_⟩:=dD (ee hl).1;rw[h3]at hy;cases hy;exact ho
 cases e with
 |Name x p=>
  simp only[cTg]at h;split at h
  ·cases h
  ·rename_i ho
   simp only[bz]at h;obtain⟨i,h1,rfl⟩:=h;exact one (by simpa using ho) h1
 |Tuple es k p=>
  simp only[cTg]at h;split at h
  ·simp only[aE,aB]at h;obtain⟨xs,h1,h⟩:=h;split at h
   ·cases h
   ·rename_i ho
    simp only[aB]at h;obtain⟨is,h2,h⟩:=h;split at h
    ·cases h;intro i hi;obtain⟨x,hx,hl⟩:=oQ h2 i hi;refine one ?_ hl;cases q:c.own.contains x with
     |false=>rfl
     |true=>exact absurd (dP.mpr ⟨x,hx,q⟩) ho
    ·cases h
  ·cases h
 |_=>simp[cTg]at h
section
variable{τ τ':Env}{σ:L2.St}{H:Hp}{S:Sh}
theorem SE.set{i:Nat}{d:D}{v:V}(se:SE g c τ σ H S)(r:Rep g (hid H S) d v):SE g c (τ.set i (some d)) (σ.set i (some v)) H S:=by
 refine⟨by simp[se.len],λj e h=>?_,se.sub⟩;by_cases hij:i=j
 ·subst hij;by_cases hi:i<τ.length
  ·simp[hi]at h;subst h;have hi':i<σ.length:=by rw[<-se.len];exact hi
   exact⟨v,by simp[hi'],.inl r,λ_ _ _=>r⟩
  ·rw[List.set_eq_of_length_le (by lia)]at h;rw[List.getElem?_eq_none (by lia)]at h;cases h
 ·rw[List.getElem?_set_ne hij]at h ⊢;exact se.val j e h
theorem SE.setAll{is:List Nat}:∀{ds:List D}{vs:List V}{τ:Env}{σ:L2.St}{Q:L2.St->Hp->Prop},SE g c τ σ H S->zb g (hid H S) ds vs->setAll is ds τ=.ok τ'->(∀σ',SE g c τ' σ' H S->Q σ' H)->iL is vs σ H Q:=by
 induction is with
 |nil=>
  intro ds vs τ σ Q se r h k;cases r with
  |nil=>cases (show R.ok τ=R.ok τ' from h);exact⟨rfl,k σ se⟩
  |cons _ _=>cases (show R.no=R.ok τ' from h)
 |cons i is ih=>
  intro ds vs τ σ Q se r h k;cases r with
  |nil=>cases (show R.no=R.ok τ' from h)
  |cons r rs=>exact⟨_,_,rfl,ih (se.set r) rs h k⟩
theorem xa(O:X.K=g.K){tg:Tg}{d:D}{v:V}{Q:L2.St->Hp->Prop}(se:SE g c τ σ H S)(r:Rep g (hid H S) d v)(h:store tg d τ=.ok τ')(k:∀σ',SE g c τ' σ' H S->Q σ' H):gT X.K tg v σ H Q:=by
 cases tg with
 |nm i=>
  simp only[store,R.ok.injEq]at h;subst h;exact k _ (se.set r)
 |tp is=>
  cases d with
  |tup ds=>
   simp only[store]at h;split at h
   ·rename_i hl
    cases r with
    |tup h1 r1=>exact⟨_,_,rfl,by rw[O];exact zJ zM h1,by rw[<-r1.length];exact hl,se.setAll r1 h k⟩
   ·cases h
  |_=>simp[store]at h
end
end
abbrev dJ(c:Cc)(sc:aO):Cc:={c with nm:=jN sc.names c.nm,N:=b6 sc.names,fnc:=false,oc:=ij sc.names}
section
variable{w:W}{g:Gc}{c:Cc}{E:XK}{X:Cx}
theorem XO.comp(O:XO w g c E X){sc:aO}(hk:sc.kind=.function)(hnd:(b6 sc.names).Nodup)(cl:List (Str×Addr))(C:Addr)(s₀:af)(H₀:Hp)(fp:List Addr):XO w g (dJ c sc) E0 (cw X (b6 sc.names) sc cl C s₀ H₀ fp) where
 K:=O.K
 nm:=by
  show (relabel sc X.env).names=jN sc.names c.nm;unfold relabel jN;simp only
  congr 1
  funext p;have h1:(X.env.scope.kind==ScopeKind.function)=true:=by rw[O.kind];rfl
  have h2:X.env.kindOf p.1=c.nm.lookup p.1:=by show X.env.scope.names.lookup p.1=_;rw[O.nm]
  obtain⟨n,k⟩:=p;simp only at h2;simp only[h1,h2,Bool.and_true]
 N:=rfl
 nd:=hnd
 calm:=O.calm
 units:=O.units
 fn:=λx z=>z.elim (λz=>by cases z) λz=>z
 kind:=hk
 pass:=k_ rfl rfl
 gok:=O.gok
 fns:=O.fns
 sub:=O.sub
theorem A8{α:Type}{τ:Env}{σ:L2.St}{H:Hp}{S:Sh}{it:It}{f:List D->R α}{P:α->Prop}{R':L2.It->Hp->Prop}(se:SE g c τ σ H S)(h:tR g E H ((evI w it τ).bind f) P)
  (k:∀ds J H',evI w it τ=.ok ds->qf H H'->(∀H2 S2,qf H' H2->qf (hid H' S) (hid H2 S2)->Sub S2 H2->Goes g J ds H2 S2)->(owned it=false->∀H2 S2,qf (hid H' S) (hid H2 S2)->Sub S2 H2->Goes g J ds H2 S2)->tR g E H' (f ds) P->R' J H'):tIt w g c E it σ H R':=by
 refine⟨τ,S,se,?_⟩;cases q:evI w it τ with
 |ok d=>rw[q]at h;exact λJ H' s k1 k2=>k d J H' q s k1 k2 (tR.up h s)
 |ex x=>rw[q]at h;exact h
 |no=>rw[q]at h;exact h
theorem Em{α:Type}{r:R α}{x:Str}:noEx r≠.ex x:=by cases r<;>intro h<;>cases h
theorem yD{α:Type}{r:R α}{a:α}(h:noEx r=.ok a):r=.ok a:=by cases r<;>first|exact h|cases h
theorem mS{body:D->Env->R (Env×List D)}(hb:∀d τ x,body d τ≠.ex x):∀{ds:List D}{τ:Env}{acc:List D}{x:Str},zU body ds τ acc≠.ex x
 | [],_,_,_,h=>by cases h
 |d::r,τ,acc,x,h=>by
  simp only[zU]at h;cases q:body d τ with
  |ok p=>rw[q]at h;exact mS hb h
  |ex y=>exact hb _ _ _ q
  |no=>rw[q]at h;cases h
theorem SE.caps{sc:aO}{cap:List (Option Nat)}{τ:Env}{σ:L2.St}{H:Hp}{S:Sh}(O:XO w g c E X)(hc:oH X (b6 sc.names) cap sc)(se:SE g c τ σ H S):SE g (dJ c sc) (dR cap τ) (L2.caps cap σ) H S:=by
 refine⟨by simp[dR,L2.caps],λi d h=>?_,se.sub⟩;unfold dR at h;rw[List.getElem?_map]at h;cases q:cap[i]? with
 |none=>rw[q]at h;cases h
 |some o=>
  cases o with
  |none=>rw[q]at h;cases h
  |some j=>
   rw[q]at h;simp only[Option.map_some,Option.bind_some,b_]at h;cases q2:τ[j]? with
   |none=>rw[q2]at h;cases h
   |some z=>
    rw[q2]at h;cases z with
    |none=>cases h
    |some d'=>
     have:d'=d:=by simpa using h
     subst this;obtain⟨v,h1,h2,h3⟩:=se.val j d' q2;refine⟨v,?_,h2,λx hx ho=>?_⟩
     ·unfold L2.caps;rw[List.getElem?_map,q];simp[h1]
     ·obtain⟨y,e1,e2,_⟩:=hc.2 i j q;have hx':(b6 sc.names)[i]? = some x:=hx;rw[e1]at hx';cases hx';exact h3 _ (by rw[<-O.N];exact e2) ho
theorem iX{H:Hp}{S:Sh}{p:Addr}{o:HO}(h:S.h p=true):hid (upd H p o) S=hid H S:=by
 funext b;unfold hid;by_cases hb:b=p
 ·subst hb;rw[if_pos h,if_pos h]
 ·rw[qh hb]
theorem SE.grow{c:Cc}{τ:Env}{σ:L2.St}{H:Hp}{S:Sh}{p:Addr}{o:HO}(se:SE g c τ σ H S)(h:S.h p=true)(ho:S.o p=false):SE g c τ σ (upd H p o) S:=by
 refine⟨se.len,λi d e=>?_,λa ha n=>?_⟩
 ·obtain⟨v,h1,h2,h3⟩:=se.val i d e;refine⟨v,h1,?_,λx hx hy=>by rw[iX h];exact h3 x hx hy⟩;rcases h2 with h2|⟨a,o',z1,z2,z4,z5⟩
  ·exact .inl (by rw[iX h];exact h2)
  ·refine .inr ⟨a,o',z1,z2,?_,by rw[iX h];exact z5⟩;rw[qh (λz=>by rw[z,ho]at z1;cases z1)];exact z4
 ·by_cases hb:a=p
  ·subst hb;rw[zy]at n;cases n
  ·rw[qh hb]at n;exact se.sub a ha n
theorem SE.hide{c:Cc}{τ:Env}{σ:L2.St}{H:Hp}{S:Sh}{p:Addr}{vs:List V}(se:SE g c τ σ H S)(hp:H p=none):SE g c τ σ (upd H p (.lst vs)) (cM S p):=by
 refine⟨se.len,λi d e=>?_,λa ha n=>?_⟩
 ·obtain⟨v,h1,h2,h3⟩:=se.val i d e;refine⟨v,h1,?_,λx hx hy=>(h3 x hx hy).mono (je hp)⟩;rcases h2 with h2|⟨a,o',z1,z2,z4,z5⟩
  ·exact .inl (h2.mono (je hp))
  ·exact .inr ⟨a,o',z1,z2,zg hp _ _ z4,z5.mono (je hp)⟩
 ·by_cases hb:a=p
  ·subst hb;rw[zy]at n;cases n
  ·rw[qh hb]at n;refine se.sub a ?_ n;rcases ha with ha|ha
   ·refine .inl ?_;have ha:(S.h a||a==p)=true:=ha
    simpa[hb]using ha
   ·exact .inr ha
theorem rX(O:XO w g c E X){sc:aO}{cap:List (Option Nat)}{iit:It}{itg:Tg}{tt:T}{ielt:EV.E}(hS:dW X (b6 sc.names) cap sc)(he:esc ielt=true){σ:L2.St}{H:Hp}{Q:VK}(hq:tE w g c E (.comp iit cap itg tt ielt) σ H Q) :
  lM cap (tIt w g c E iit) (gT X.K itg) (tT w g (dJ c sc) E0 tt) (λacc=>jn acc (tE w g (dJ c sc) E0 ielt)) σ H Q:=by
 obtain⟨τ,S,se,k⟩:=hq;simp only[zl,zp,zh,zm,zk,ze,zc,zq,zo,qy,qJ,qu,qA,qI,qr,qK,qD,qx,qL,qH,qN,qo,qB,qP,qE,qp,qV,qU,qM,qw,qG,qY,qR,qO,qQ,qT,qW,qS,qX,qF]at k;refine A8 se k λds J H1 e1 s1 kW _ k1 acc hacc=>?_
 by_cases hz:SZ<ds.length
 ·rw[if_pos hz]at k1;exact k1.elim
 rw[if_neg hz]at k1;generalize hbody:(λx σ=>noEx ((store itg x σ).bind λσ'=>(evT w tt σ').bind λr=>if r=true then (evE w ielt σ').bind λd=>R.ok (σ',[d])else R.ok (σ',[])))=body at k1;have bex:∀d τ x,body d τ≠.ex x:=λd τ x=>by rw[<-hbody];exact Em
 cases hl:zU body ds (dR cap τ) []with
 |ex z=>exact absurd hl (mS bex)
 |no=>rw[hl]at k1;exact k1.elim
 |ok out=>
  rw[hl]at k1;simp only[R.bind_ok]at k1;have k1:∀v H',a9 g c (.comp iit cap itg tt ielt) S H (.lst out) v H'->Q v H':=k1;have sub1:=se.sub.same s1;have hoacc:S.o acc=false:=sub1.freeO hacc;have hhacc:(cM S acc).h acc=true:=by show (S.h acc||acc==acc)=true;simp
  -- what holds between two turns
  refine⟨λi m σ' H'=>m=ds.length-i/\i<=ds.length/\∃τ' o,zU body (ds.drop i) τ' o=.ok out/\SE g (dJ c sc) τ' σ' H' (cM S acc)/\o.length<=i/\qf H1 H'/\∃vs,H' acc=some (.lst vs)/\zb g (hid H' (cM S acc)) o vs,
   ⟨ds.length,rfl,cf _,dR cap τ,[],hl,(se.up s1).caps O hS.cap |>.hide hacc,ay _,zg hacc,[],zy,.nil⟩,?_⟩
  rintro i m σ' H' ⟨rfl,hi',τ',o,hlo,se',hol,s1',vs,hv,hr⟩;have keep:qf (hid H1 S) (hid H' (cM S acc)):=λb u hb=>by
   obtain⟨z1,z2⟩:=bx.mp hb;refine bx.mpr ⟨?_,s1' _ _ z2⟩;show (S.h b||b==acc)=false;rw[z1]
   simpa using λz:b=acc=>by rw[z,hacc]at z2;cases z2
  obtain⟨g1,g2⟩:=kW H' (cM S acc) s1' keep se'.sub;by_cases hlt:i<ds.length
  ·have hd:ds[i]? = some ds[i]:=List.getElem?_eq_getElem hlt;obtain⟨go1,go2⟩:=g2 i ds[i] hd;refine .inr ⟨go1,λσ'' H''=>∃τ' o,zU body (ds.drop (i+1)) τ' o=.ok out/\SE g (dJ c sc) τ' σ'' H'' (cM S acc)/\o.length<=i+1/\qf H1 H''/\∃vs,H'' acc=some (.lst vs)/\zb g (hid H'' (cM S acc)) o vs,
    λσ'' H'' z=>⟨ds.length-(i+1),by lia,rfl,hlt,z⟩,λx H2 hy=>?_⟩
   obtain⟨s2,rx⟩:=go2 x H2 hy;rw[List.drop_eq_getElem_cons hlt]at hlo;simp only[zU]at hlo;cases q:body ds[i] τ' with
   |ex z=>exact absurd q (bex _ _ _)
   |no=>rw[q]at hlo;cases hlo
   |ok p=>
    rw[q]at hlo;simp only[R.bind_ok]at hlo;rw[<-hbody]at q;have q:=yD q;cases q1:store itg ds[i] τ' with
    |ex z=>rw[q1]at q;cases q
    |no=>rw[q1]at q;cases q
    |ok τ1=>
     rw[q1]at q;simp only[R.bind_ok]at q;refine xa O.K (se'.up s2) rx q1 λσ1 se1=>?_
     cases q2:evT w tt τ1 with
     |ex z=>rw[q2]at q;cases q
     |no=>rw[q2]at q;cases q
     |ok r=>
      rw[q2]at q;simp only[R.bind_ok]at q;refine⟨τ1,cM S acc,se1,?_⟩;rw[q2];intro H3 s3;have hv3:=s3 _ _ (s2 _ _ hv);have s13:=s1'.trans (s2.trans s3);cases r with
      |false=>
       simp only[bU,if_false,R.ok.injEq]at q;subst q;rw[if_neg bI];exact⟨τ1,o++[],hlo,se1.up s3,by simp;lia,s13,vs,hv3,by rw[cR];exact hr.mono (qq (s2.trans s3))⟩
      |true=>
       simp only[if_true]at q;rw[if_pos rfl];cases q3:evE w ielt τ1 with
       |ex z=>rw[q3]at q;cases q
       |no=>rw[q3]at q;cases q
       |ok dd=>
        rw[q3]at q;simp only[R.bind_ok,R.ok.injEq]at q;subst q;refine⟨τ1,cM S acc,se1.up s3,?_⟩;rw[q3];intro v H4 p4;have hv4:=p4.same _ _ hv3;have hr4:=hr.mono (qq ((s2.trans s3).trans p4.same));have hz':vs.length<sizeLine:=by
         rw[<-hr.length,aV];have:ds.length<=SZ:=Nat.le_of_not_lt hz;unfold SZ at this;lia
        refine⟨vs,hv4,hz',τ1,o++[dd],hlo,(se1.up (s3.trans p4.same)).grow hhacc hoacc,by simp;lia,λb u hb=>?_,vs++[v],zy,?_⟩
        ·rw[qh (λz=>by rw[z,hacc]at hb;cases hb)];exact p4.same _ _ (s13 _ _ hb)
        ·rw[iX hhacc];exact hr4.append (.cons (p4.st he) .nil)
  ·have e:i=ds.length:=by lia
   subst e;refine .inl ⟨g1 ds.length (ay _),?_⟩;rw[List.drop_length]at hlo;simp only[zU,R.ok.injEq]at hlo;subst hlo;have rep:Rep g (hid H' S) (.lst o) (.ref acc):=.lst (SqL.of (bx.mpr ⟨sub1.free hacc,hv⟩)) (hr.mono mM);exact k1 _ _ (a9.new (s1.trans s1') rep ⟨acc,_,rfl,s1.free hacc,hv,.lst hr⟩)
theorem wW(O:XO w g c E X)(hcalm:X.calm=true){sc:aO}{cap:List (Option Nat)}{tgt it elt:Expr}{ifs:List Expr}{pos:Pos}{iit:It}{itg:Tg}{tt:T}{ielt:EV.E}(hS:dW X (b6 sc.names) cap sc)(hnd:(b6 sc.names).Nodup)
  (hi:PI X tgt it (tIt w g c E iit)) (hb:∀cl C s₀ H₀ fp,PG (cw X (b6 sc.names) sc cl C s₀ H₀ fp) tgt (gT X.K itg)/\PTs (cw X (b6 sc.names) sc cl C s₀ H₀ fp) ifs (tT w g (dJ c sc) E0 tt)/\PE (cw X (b6 sc.names) sc cl C s₀ H₀ fp) elt (tE w g (dJ c sc) E0 ielt))
  (he:esc ielt=true) (hs:zG it=true):PE X (.ListComp elt [⟨tgt,it,ifs,0⟩] sc pos) (tE w g c E (.comp iit cap itg tt ielt)):=by
 exact PE.imp (Bf (tb:=λacc=>jn acc (tE w g (dJ c sc) E0 ielt)) hcalm hS hi (λcl C s₀ H₀ fp=>⟨(hb cl C s₀ H₀ fp).1,(hb cl C s₀ H₀ fp).2.1,λacc=>p7 rfl (hb cl C s₀ H₀ fp).2.2⟩) (by simp) (λx=>by cases it<;>first|rfl|(simp[zG]at hs))) λσ H Q q=>rX O hS he q
end
end EV
namespace L2
open PySem PySem.Spec PyProof.Rows
theorem Bc:isSubtype (.type "range_iterator") (.type "reversed")=pure false:=by rw[isSubtype_type];kernel_rfl
theorem um(r:Addr)(b:Int)(t u v:Tok)(h0:0<=b)(h1:b<=1000000) :
  Meets (Builtin.«range.__reversed__» ⟨[.ref r],[]⟩) (λ_ R s=>s.heap.get? r=some {cls:=.type "range",dict:=none,data:=.fields #[.int 0 t,.int b u,.int 1 v],slots:=#[]}/\R (.ok (.ret (.ref s.heap.objs.size))) {s with heap:=s.heap.push {cls:=.type "range_iterator",data:=.fields #[rawInt (b-1),rawInt b,rawInt (-1)]}}):=
 .of_wp λprog w A R s h=>by
  obtain⟨hp,g,d,tk,os⟩:=s;obtain⟨hl,h⟩:=h;have e:Builtin.Range.rangeSize 0 b 1=b:=by rw[rangeSize_one];split<;>lia
  have e2:(0:Int)+(b-1) * 1=b-1:=by lia
  have sm:(Builtin.Range.rangeFitsLong 0&&Builtin.Range.rangeFitsLong b&&Builtin.Range.rangeFitsLong 1&&Builtin.Range.rangeFitsLong (-1)&&Builtin.Range.rangeFitsLong (0-1)&&Builtin.Range.rangeFitsLong b)=true:=by
   simp only[Builtin.Range.rangeFitsLong,aI,decide_eq_true_eq];lia
  wp_walk
  rw[e,sm,e2];simp only[Bool.not_true,bU,if_false,if_true]
  wp_walk
  exact⟨_,rfl,h⟩
section
variable{prog:aw}{w:au}{A:ax}{E:ae->af->Prop}{s:af}
theorem xr{r:Addr}{b:Int}{t u v:Tok}{Q:ae->af->Prop}(h0:0<=b)(h1:b<=1000000)(hr:IsRange s.heap r 0 b 1 t u v)
  (h:Q (.ref s.heap.objs.size) {s with heap:=s.heap.push {cls:=.type "range_iterator",data:=.fields #[rawInt (b-1),rawInt b,rawInt (-1)]}}):ai (aj prog w) A (call (.builtin "range.__reversed__") [.ref r]) Q E s:=
 call_meets PySem.F.slot_range_reversed ⟨_,hr,rfl⟩ PySem.F.entry_range_reversed (PySem.F.args_range_reversed_1 _) (um r b t u v h0 h1) ⟨hr,h⟩
theorem DO{r:Addr}{b:Int}{t u v:Tok}{Q₁:ae->af->Prop}(h0:0<=b)(h1:b<=1000000)(hr:IsRange s.heap r 0 b 1 t u v)
  (h:Q₁ (.ref s.heap.objs.size) {s with heap:=s.heap.push {cls:=.type "range_iterator",data:=.fields #[rawInt (b-1),rawInt b,rawInt (-1)]}}) :
  codeAny (aj prog w) A (.call (.builtin "reversed.__new__") ⟨[.type "reversed",.ref r],[]⟩) (wants Q₁ E) s:=by
 refine codeAny_of_tree ?_;show ai _ A.in1 (do checkBuiltinCall "reversed.__new__" ⟨[.type "reversed",.ref r],[]⟩;again (.builtin "reversed.__new__" ⟨[.type "reversed",.ref r],[]⟩)) _ _ s;refine ah (wpAny_of_eq (PySem.F.newCall_reversed_1 _) (aC ⟨plainId_quiet PySem.F.plain_reversed_new _,codeAny_builtin PySem.F.entry_reversed_new ?_⟩));rw[ax.under_plainId PySem.F.plain_reversed_new _];unfold Builtin.«reversed.__new__»;refine ah (wpAny_of_eq (newClass_reversed _) ?_)
 try dsimp only
 refine ah (wpAny_of_eq (a:=()) (by first|rfl|kernel_rfl) ?_);refine ah (wpAny_of_eq (a:=()) (by first|rfl|kernel_rfl) ?_)
 try dsimp only
 refine ah (wpAny_specialOf ⟨_,hr,rfl⟩ PySem.F.slot_range_reversed.lookup ?_)
 try dsimp only
 refine ah (wpAny_of_eq (PySem.F.slot_range_reversed.bind _) ?_)
 try dsimp only
 first
 |rw[if_neg (show ¬ ((ae.builtin "range.__reversed__" == bM)=true)from bI)]
 | (show ai _ _ (if (ae.builtin "range.__reversed__" == bM)=true then _ else _) _ _ _;rw[if_neg (show ¬ ((ae.builtin "range.__reversed__" == bM)=true)from bI)])
 refine ah (wpAny_rule ?_);refine ah (m:=runValue (.call (.builtin "range.__reversed__") ⟨[.ref r],[]⟩)) (show ai _ _ (call (.builtin "range.__reversed__") [.ref r]) _ _ _ from xr h0 h1 hr ?_)
 first
 |exact aC h
 |exact ah (aC (aC h))
theorem Aj{r:Addr}{b:Int}{t u v:Tok}{Q:ae->af->Prop}(h0:0<=b)(h1:b<=1000000)(hr:IsRange s.heap r 0 b 1 t u v)
  (h:Q (.ref s.heap.objs.size) {s with heap:=s.heap.push {cls:=.type "range_iterator",data:=.fields #[rawInt (b-1),rawInt b,rawInt (-1)]}}):ai (aj prog w) A (call (.type "reversed") [.ref r]) Q E s:=by
 refine callType_other (U:="range_iterator") (Q₁:=λobj s₁=>obj=.ref s.heap.objs.size/\s₁={s with heap:=s.heap.push {cls:=.type "range_iterator",data:=.fields #[rawInt (b-1),rawInt b,rawInt (-1)]}}) (by decide +kernel) PySem.F.create_reversed ⟨_,_,PySem.F.mro_reversed⟩ PySem.F.made_reversed Bc (PySem.F.typeCall_reversed_1 _) (DO h0 h1 hr ⟨rfl,rfl⟩) ?_;rintro obj s₁ ⟨rfl,rfl⟩;exact⟨⟨_,Heap.get?_push_size _ rfl,rfl⟩,h⟩
end
section
variable{X:Cx}{tg:Expr}
noncomputable def sP(ta:TA):TI:=λσ H R=>ta σ H λvs H1=>∃p j,vs=[.ref p]/\H1 p=some (.rng 0 j)/\(0<=j/\j<=1000000)/\R (ItS (j-1) (-1) j.toNat) H1
theorem u_{a:Expr}{ta:TA}{p pos:Pos}(hg:Gl X "reversed")(hm:X.mg "reversed" = none)(ha:PA X [a] ta)(hs:aL [a] X.env=[(false,eval a X.env)]) :
  PI X tg (.Call (.Name "reversed" p) [a] [] pos) (sP ta):=by
 intro pins s σ H R I h;refine Call_ (fj I hg hm boot_reversed (ez (thn (ha pos pins s σ H _ I h) λus s1 ⟨vs,H1,I1,r1,q1⟩=>?_) hs rfl));obtain⟨p,j,rfl,hp,⟨h0,h1⟩,q⟩:=q1;obtain⟨u,rfl,ru⟩:=r1.one;cases ru;obtain⟨t,u,v,e⟩:=I1.hok p _ hp;refine Aj h0 h1 e ?_;refine wpAny_pyIter_rangeiter (Heap.get?_push_size _ rfl) ?_;have I2:Inv X pins σ H1 {s1 with heap:=s1.heap.push {cls:=.type "range_iterator",data:=.fields #[rawInt (j-1),rawInt j,rawInt (-1)]}}:=I1.kept (t':=s1.toks) λb o e=>Heap.get?_push_of_some _ e
 refine⟨s1.heap.objs.size,[s1.heap.objs.size],_,_,H1,rfl,I2,Dr _ (j-1) (-1) j.toNat,?_,λb hb=>?_,q⟩
 ·show IsRangeIter _ _ (j-1+((0:Nat):Int) * (-1)) (((j.toNat:Nat):Int)-((0:Nat):Int)) (-1);have e1:j-1+((0:Nat):Int) * (-1)=j-1:=by simp
  have e2:((j.toNat:Nat):Int)-((0:Nat):Int)=j:=by lia
  rw[e1,e2];exact Heap.get?_push_size _ rfl
 ·have e:b=s1.heap.objs.size:=by simpa using hb
  subst e;exact I1.fpOk (ay _) (I1.hok.fresh (ay _))
end
end L2
namespace EV
open PySem PySem.Spec PySem.P PyProof.Rows L2
section
variable{prog:aw}{w:au}{A:ax}{E:ae->af->Prop}{s:af}
end
section
variable{X:Cx}
theorem Ee:zt X (.type "range") (λvs H Q=>∃lo hi,(vs=[.int hi]/\lo=0\/vs=[.int lo,.int hi])/\∀p,H p=none->Q (.ref p) (upd H p (.rng lo hi))):=by
 intro pins s σ H xs us Q I r h;obtain⟨lo,hi,h|h,q⟩:=h
 ·obtain⟨rfl,rfl⟩:=h;obtain⟨u,rfl,t,rfl⟩:=r.one;exact call_range_1 ⟨.ref _,_,I.laid (o:=.rng 0 hi) (λb o e=>Heap.get?_push_of_some _ e) (ay _) ⟨_,_,_,Heap.get?_push_size _ rfl⟩,rfl,q _ I.fresh⟩
 ·subst h;obtain⟨u,v,rfl,⟨t,rfl⟩,⟨t',rfl⟩⟩:=r.two;exact call_range_2 ⟨.ref _,_,I.laid (o:=.rng lo hi) (λb o e=>Heap.get?_push_of_some _ e) (ay _) ⟨_,_,_,Heap.get?_push_size _ rfl⟩,rfl,q _ I.fresh⟩
end
section
variable{w:W}{g:Gc}{c:Cc}{E:XK}{X:Cx}{a b:Expr}{ia ib:EV.E}{pos p2 p3 pos3:Pos}
theorem D8(O:XO w g c E X){x:Str}{e:Expr}{es:List Expr}{t:TA}(h:glob c x=some .rng)(ha:PA X (e::es) t)(hs:∀z∈e::es,isStar z=false) :
  PE X (.Call (.Name x p3) (e::es) [] pos3) (tCB (λvs H Q=>∃lo hi,(vs=[.int hi]/\lo=0\/vs=[.int lo,.int hi])/\∀p,H p=none->Q (.ref p) (upd H p (.rng lo hi))) t):=by
 obtain⟨h1,rfl⟩:=O.gm h;exact lz Ee (O.gl h) h1 (by decide +kernel) ha (zr h).2.2.2 (zr h).2.2.1 (qg (hs e aJ)) (iy λz hz=>hs z (aK _ hz))
theorem vP(O:XO w g c E X){x y:Str}{tg:Expr}(hx:glob c x=some .rvd)(hy:glob c y=some .rng)(ha:PE X a (tE w g c E ia))(hs:isStar a=false):PI X tg (.Call (.Name x p2) [.Call (.Name y p3) [a] [] pos3] [] pos) (tIt w g c E (.rrev ia)):=by
 obtain⟨h1,rfl⟩:=O.gm hx;have hr:=D8 (p3:=p3) (pos3:=pos3) O hy (zC ha c_ (qg hs)) (λz hz=>by simp at hz;rw[hz];exact hs);refine PI.imp (u_ (O.gl hx) h1 (zC hr c_) rfl) λσ H R ⟨τ,S,se,k⟩=>?_
 simp only[evI]at k;refine zf se k λda va H1 e1 p1 k1=>?_
 cases da with
 |int j=>
  simp only at k1;cases q:decide (0<=j)&&qC j with
  |true=>
   rw[q,if_pos rfl]at k1;simp only[aI,decide_eq_true_eq]at q;refine⟨0,j,.inl ⟨by rw[p1.rb.int],rfl⟩,λp hp=>⟨p,j,rfl,zy,⟨q.1,(jE q.2).2⟩,?_⟩⟩;exact k1 _ _ (p1.same.trans (zg hp)) (λ_ _ _ _ _=>rD) λ_ _ _ _ _=>rD
  |false=>rw[q]at k1;exact k1.elim
 |_=>exact k1.elim
theorem pq(O:XO w g c E X)(hc:X.calm=true){x y:Str}{n:String}{bb:Option B1}{e:Expr}{es:List Expr}{it:It}{t:TA}(hT:glob c x=some (.ty n bb))(h:glob c y=some .rng)(ha:PA X (e::es) t)(hs:∀z∈e::es,isStar z=false)
  (hn:n = "tuple"\/n = "list")
  (k:∀σ H (Q:List V->Hp->Prop) τ S (P:List D->Prop),SE g c τ σ H S->tR g E H (evI w it τ) P->(∀lo hi vs H',qf H H'->(vs=[.int hi]/\lo=0\/vs=[.int lo,.int hi])->qC lo=true->qC hi=true->P (zY lo (hi-lo).toNat)->Q vs H')->t σ H Q) :
  PE X (.Call (.Name x p2) [.Call (.Name y p3) (e::es) [] pos3] [] pos) (tE w g c E (if n = "tuple" then .rtup it else .rlst it)):=λpins s σ H Q I ⟨τ,S,se,kk⟩=>by
 rcases hn with rfl|rfl
 ·simp only[if_true,zl,zp,zh,zm,zk,ze,zc,zq,zo,qy,qJ,qu,qA,qI,qr,qK,qD,qx,qL,qH,qN,qo,qB,qP,qE,qp,qV,qU,qM,qw,qG,qY,qR,qO,qQ,qT,qW,qS,qX,qF]at kk;exact aS kk
 ·rw[if_neg (by decide)]at kk;simp only[zl,zp,zh,zm,zk,ze,zc,zq,zo,qy,qJ,qu,qA,qI,qr,qK,qD,qx,qL,qH,qN,qo,qB,qP,qE,qp,qV,qU,qM,qw,qG,qY,qR,qO,qQ,qT,qW,qS,qX,qF]at kk;exact aS kk
theorem tQ(O:XO w g c E X)(hc:X.calm=true){x y:Str}{bb:Option B1}{d:Expr}{id:EV.E}(hT:glob c x=some (.ty "tuple" bb))(h:glob c y=some .rng)(ha:PE X a (tE w g c E ia))(hb:PE X b (tE w g c E ib))(hd:PE X d (tE w g c E id))(hs:isStar a=false)(hs':isStar b=false)(hs'':isStar d=false) :
  PE X (.Call (.Name x p2) [.Call (.Name y p3) [a,b,d] [] pos3] [] pos) (tE w g c E (.rtup (.rng3 ia ib id))):=λpins s σ H Q I ⟨τ,S,se,kk⟩=>by
 simp only[zl,zp,zh,zm,zk,ze,zc,zq,zo,qy,qJ,qu,qA,qI,qr,qK,qD,qx,qL,qH,qN,qo,qB,qP,qE,qp,qV,qU,qM,qw,qG,qY,qR,qO,qQ,qT,qW,qS,qX,qF]at kk;exact aS kk
theorem Dh(ha:PE X a (tE w g c E ia))(hs:isStar a=false):PA X [a] (iO (tE w g c E ia) ji):=zC ha c_ (qg hs)
theorem BH:∀σ H (Q:List V->Hp->Prop) τ S (P:List D->Prop),SE g c τ σ H S->tR g E H (evI w (.rng ia) τ) P->(∀lo hi vs H',qf H H'->(vs=[.int hi]/\lo=0\/vs=[.int lo,.int hi])->qC lo=true->qC hi=true->P (zY lo (hi-lo).toNat)->Q vs H')->iO (tE w g c E ia) ji σ H Q:=by
 intro σ H Q τ S P se q k;simp only[evI]at q;refine zf se q λda va H1 e1 p1 k1=>?_
 cases da with
 |int j=>
  simp only at k1;cases z:qC j with
  |true=>rw[z,if_pos rfl]at k1;exact k 0 j _ H1 p1.same (.inl ⟨by rw[p1.rb.int],rfl⟩) (by decide) z (by rw[Int.sub_zero];exact k1)
  |false=>rw[z]at k1;exact k1.elim
 |_=>exact k1.elim
theorem sI:∀σ H (Q:List V->Hp->Prop) τ S (P:List D->Prop),SE g c τ σ H S->tR g E H (evI w (.rng2 ia ib) τ) P->(∀lo hi vs H',qf H H'->(vs=[.int hi]/\lo=0\/vs=[.int lo,.int hi])->qC lo=true->qC hi=true->P (zY lo (hi-lo).toNat)->Q vs H')->iO (tE w g c E ia) (iO (tE w g c E ib) ji) σ H Q:=by
 intro σ H Q τ S P se q k;simp only[evI]at q;refine zf se q λda va H1 e1 p1 k1=>zf (se.up p1.same) k1 λdb vb H2 e2 p2 k2=>?_
 cases da with
 |int i=>
  cases db with
  |int j=>
   simp only at k2;cases z:qC i&&qC j with
   |true=>
    rw[z,if_pos rfl]at k2;simp only[aI]at z;exact k i j _ H2 (p1.same.trans p2.same) (.inr (by rw[p1.rb.int,p2.rb.int])) z.1 z.2 k2
   |false=>rw[z]at k2;exact k2.elim
  |_=>exact k2.elim
 |_=>exact k2.elim
end
structure Snd(w:W)(g:Gc)(n:Nat):Prop where
 e:∀{c:Cc}{E:XK}{X:Cx} (O:XO w g c E X) {x:Expr}{ir:EV.E},cE n c x=some ir->PE X x (tE w g c E ir)
 bo:∀{c:Cc}{E:XK}{X:Cx} (O:XO w g c E X) {op:PySem.BoolOp}{vs:List Expr}{pos:Pos}{ir:EV.E},cBo n c op vs=some ir->PE X (.BoolOp op vs pos) (tE w g c E ir)/\esc ir=true
 o:∀{c:Cc}{E:XK}{X:Cx} (O:XO w g c E X) {x:Option Expr}{ir:OE},cO n c x=some ir->PO X x (tOe w g c E ir)
 es:∀{c:Cc}{E:XK}{X:Cx} (O:XO w g c E X) {x:List Expr}{ir:Es},cEs n c x=some ir->PA X x (tA w g c E ir)
 i:∀{c:Cc}{E:XK}{X:Cx} (O:XO w g c E X) {tg x:Expr}{ir:It},cI n c x=some ir->gN ir tg=true->PI X tg x (tIt w g c E ir)
 t:∀{c:Cc}{E:XK}{X:Cx} (O:XO w g c E X) {x:Expr}{ir:T},cT n c x=some ir->PT X x (tT w g c E ir)
 ts:∀{c:Cc}{E:XK}{X:Cx} (O:XO w g c E X) {op:PySem.BoolOp}{vs:List Expr}{pos:Pos}{ir:T},cTs n c op vs=some ir->PW X (.BoolOp op vs pos) (tT w g c E ir)
 ifs:∀{c:Cc}{E:XK}{X:Cx} (O:XO w g c E X) {x:List Expr}{ir:T},fA n c x=some ir->PTs X x (tT w g c E ir)
section
variable{w:W}{g:Gc}{n:Nat}
theorem Snd.ifs_succ(ih:Snd w g n){c:Cc}{E:XK}{X:Cx}(O:XO w g c E X){x:List Expr}{ir:T}(h:fA (n+1) c x=some ir):PTs X x (tT w g c E ir):=by
 match x with
 | []=>
  simp only[fA,b_]at h;subst h;intro pins s σ H Q I ⟨τ,S,se,q⟩;exact vH pins s σ H Q I (q H (qf.refl _))
 | [t]=>simp only[fA]at h;exact Bt (ih.t O h)
 |_::_::_=>simp[fA]at h
theorem Snd.bo_succ(ih:Snd w g n){c:Cc}{E:XK}{X:Cx}(O:XO w g c E X){op:PySem.BoolOp}{vs:List Expr}{pos:Pos}{ir:EV.E}(h:cBo (n+1) c op vs=some ir):PE X (.BoolOp op vs pos) (tE w g c E ir)/\esc ir=true:=by
 match vs with
 | []=>simp[cBo]at h
 | [a]=>
  simp only[cBo,aE,aB]at h;obtain⟨ia,h1,h⟩:=h;split at h
  ·rename_i he
   cases h;exact⟨tV (ih.e O h1),he⟩
  ·cases h
 |a::b::r=>
  simp only[cBo,aE,aB]at h;obtain⟨ia,h1,ir',h2,h⟩:=h;obtain⟨r1,r2⟩:=ih.bo O (pos:=pos) h2;cases op with
  |And=>cases h;exact⟨DZ (ih.e O h1) r1 r2,rfl⟩
  |Or=>cases h;exact⟨xx (ih.e O h1) r1 r2,rfl⟩
theorem Snd.o_succ(ih:Snd w g n){c:Cc}{E:XK}{X:Cx}(O:XO w g c E X){x:Option Expr}{ir:OE}(h:cO (n+1) c x=some ir):PO X x (tOe w g c E ir):=by
 cases x with
 |none=>simp only[cO,b_]at h;subst h;exact tH
 |some e=>
  simp only[cO,bz]at h;obtain⟨ie,h1,rfl⟩:=h;exact Dp (ih.e O h1)
theorem Snd.es_succ(ih:Snd w g n){c:Cc}{E:XK}{X:Cx}(O:XO w g c E X){x:List Expr}{ir:Es}(h:cEs (n+1) c x=some ir):PA X x (tA w g c E ir):=by
 match x with
 | []=>simp only[cEs,b_]at h;subst h;exact vI
 |e::r=>
  have hs:=fK h e aJ;simp only[cEs,hs,bU,if_false,aE,aB]at h;obtain⟨ie,h1,ir',h2,h⟩:=h;cases h;exact ve (ih.e O h1) (ih.es O h2) hs
theorem Snd.ts_succ(ih:Snd w g n){c:Cc}{E:XK}{X:Cx}(O:XO w g c E X){op:PySem.BoolOp}{vs:List Expr}{pos:Pos}{ir:T}(h:cTs (n+1) c op vs=some ir):PW X (.BoolOp op vs pos) (tT w g c E ir):=by
 match vs with
 | []=>simp[cTs]at h
 | [a]=>
  simp only[cTs]at h;cases op with
  |And=>exact En (ih.t O h)
  |Or=>exact ES (ih.t O h)
 |a::b::r=>
  simp only[cTs,aE,aB]at h;obtain⟨ia,h1,ir',h2,h⟩:=h;cases op with
  |And=>cases h;exact uu (ih.t O h1) (ih.ts O h2)
  |Or=>cases h;exact AR (ih.t O h1) (ih.ts O h2)
theorem Snd.t_succ(ih:Snd w g n){c:Cc}{E:XK}{X:Cx}(O:XO w g c E X){x:Expr}{ir:T}(h:cT (n+1) c x=some ir):PT X x (tT w g c E ir):=by
 unfold cT at h;split at h
 ·simp only[bz]at h;obtain⟨ia,h1,rfl⟩:=h;exact Bk (ih.t O h1)
 ·exact(ih.ts O h).pt
 ·cases h
 ·split at h
  ·simp only[aE,aB]at h;obtain⟨ia,h1,ib,h2,h⟩:=h;split at h
   ·rename_i hs;cases h;exact wH O (ih.e O h1) (ih.e O h2) hs
   ·cases h
  ·simp only[aE,aB]at h;obtain⟨ia,h1,ib,h2,id',h3,h⟩:=h;split at h
   ·rename_i hs
    simp only[aI]at hs;cases h;exact Eg O (ih.e O h1) (ih.e O h2) (ih.e O h3) hs.2
   ·cases h
  ·simp only[aE,aB]at h;obtain⟨ia,h1,ib,h2,id',h3,if',h4,h⟩:=h;split at h
   ·rename_i hs
    simp only[aI]at hs;cases h;exact De O (ih.e O h1) (ih.e O h2) (ih.e O h3) (ih.e O h4) hs.2
   ·cases h
  ·cases h
 ·rename_i n1 n2 n3 n4
  simp only[bz]at h;obtain⟨ia,h1,rfl⟩:=h;refine B2 O (ih.e O h1) λwhole=>?_
  cases x with
  |UnaryOp op a p=>cases op<;>first|rfl|exact(n1 _ _ rfl).elim
  |BoolOp op vs p=>exact(n2 _ _ _ rfl).elim
  |IfExp a b d p=>exact(n3 _ _ _ _ rfl).elim
  |Compare a ops bs p=>exact(n4 _ _ _ _ rfl).elim
  |_=>rfl
theorem Snd.i_succ(ih:Snd w g n){c:Cc}{E:XK}{X:Cx}(O:XO w g c E X){tg x:Expr}{ir:It}(h:cI (n+1) c x=some ir)(ht:gN ir tg=true):PI X tg x (tIt w g c E ir):=by
 have sq:∀{x:Expr}{ir:It},(cE n c x).map It.seq=some ir->PI X tg x (tIt w g c E ir):=λ{x ir} h=>by
  simp only[bz]at h;obtain⟨ia,h1,rfl⟩:=h;exact DN O (ih.e O h1)
 have tup:isTup tg=true->∃es k p,tg=.Tuple es k p:=λh=>by cases tg<;>first|exact⟨_,_,_,rfl⟩|(simp[isTup]at h)
 unfold cI at h;split at h
 ·rename_i f p as q
  split at h
  ·exact sq h
  ·split at h
   ·rename_i hg
    split at h
    ·rename_i a
     split at h
     ·cases h
     ·rename_i hs
      simp only[bz]at h;obtain⟨ia,h1,rfl⟩:=h;exact Er O hg (ih.e O h1) (by simpa using hs)
    ·rename_i a b
     split at h
     ·cases h
     ·rename_i hs
      have hs:isStar a=false/\isStar b=false:=by simpa using hs
      simp only[aE,aB]at h;obtain⟨ia,h1,ib,h2,h⟩:=h;cases h;exact Aq O hg (ih.e O h1) (ih.e O h2) hs.1 hs.2
    ·cases h
   ·rename_i hg
    split at h
    ·rename_i a
     split at h
     ·cases h
     ·rename_i hs
      simp only[bz]at h;obtain⟨ia,h1,rfl⟩:=h;obtain⟨es,k,p',rfl⟩:=tup ht;exact sY O hg (ih.e O h1) (by simpa using hs)
    ·cases h
   ·rename_i hg
    split at h
    ·rename_i a b
     split at h
     ·cases h
     ·rename_i hs
      have hs:isStar a=false/\isStar b=false:=by simpa using hs
      simp only[aE,aB]at h;obtain⟨ia,h1,ib,h2,h⟩:=h;cases h;obtain⟨es,k,p',rfl⟩:=tup ht;exact CS O hg (ih.e O h1) (ih.e O h2) hs.1 hs.2
    ·cases h
   ·rename_i hg
    split at h
    ·split at h
     ·rename_i hs
      simp only[aI,beq_iff_eq,bq]at hs;simp only[bz]at h;obtain⟨ia,h1,rfl⟩:=h;exact vP O hg hs.1.2 (ih.e O h1) hs.2
     ·cases h
    ·cases h
   ·exact sq h
 ·exact sq h
end
section
variable{w:W}{g:Gc}{c:Cc}{E:XK}{X:Cx}{a:Expr}{ia:EV.E}{pos p2 p3 pos3:Pos}
end
section
variable{w:W}{g:Gc}{n:Nat}
theorem CP{c:Cc}{t:String}{as:List Expr}{a:Expr}(h:j9 c t as=some a):∃x p,as=[.Name x p]/\a=.Name x p/\t = "list"/\c.calm=true:=by
 unfold j9 at h;split at h
 ·split at h
  ·split at h
   ·rename_i hc
    simp only[aI,beq_iff_eq]at hc;cases h;exact⟨_,_,rfl,rfl,hc.1.1,hc.1.2⟩
   ·cases h
  ·cases h
 ·cases h
theorem Snd.call_name(ih:Snd w g n){c:Cc}{E:XK}{X:Cx}(O:XO w g c E X){f:Str}{p pos:Pos}{as:List Expr}{ir:EV.E}(h:cE (n+1) c (.Call (.Name f p) as [] pos)=some ir):PE X (.Call (.Name f p) as [] pos) (tE w g c E ir):=by
 unfold cE at h;dsimp only at h;split at h
 ·cases h
 ·split at h
  ·rename_i fr hg
   simp only[aE,aB]at h;obtain⟨ies,h1,h⟩:=h;split at h
   ·rename_i hc
    simp only[aI,bq]at hc;cases h
    match as with
    | []=>simp at hc
    |e::es=>exact wX O hg (ih.es O h1) hc.1 (fK h1)
   ·split at h
    ·rename_i hc
     simp only[bq]at hc;cases h
     match as with
     | []=>simp at hc
     |e::es=>exact Ce O hg (ih.es O h1) (fK h1)
    ·cases h
  ·rename_i b hg
   split at h
   ·rename_i a hs;cases hs
   simp only[aE,aB]at h;obtain⟨ies,h1,h⟩:=h;split at h
   ·rename_i hc
    simp only[aI,bq,bP,beq_iff_eq]at hc;cases h
    match as with
    | []=>simp at hc
    |e::es=>exact yP O hg (by rcases hc.2 with (z|z)|z;exact .inl (O.calm z);exact .inr (.inl z);exact .inr (.inr z)) (ih.es O h1) (fK h1)
   ·cases h
  ·rename_i t b hg
   have plain:∀{ies:Es},cEs n c as=some ies->as.isEmpty=false->PE X (.Call (.Name f p) as [] pos) (tE w g c E (.bi b ies)):=λ{ies} h1 he=>by
    match as with
    | []=>simp at he
    |e::es=>exact CL O hg (ih.es O h1) (fK h1)
   split at h
   ·rename_i y p' as' q
    split at h
    ·rename_i hr
     simp only[aI,beq_iff_eq]at hr;split at h
     ·rename_i hc
      simp only[aI,bP,beq_iff_eq]at hc;split at h
      ·rename_i a
       split at h
       ·cases h
       ·rename_i hs
        have hs:isStar a=false:=by simpa using hs
        simp only[aE,aB]at h;obtain⟨ia,h1,h⟩:=h;cases h;exact pq O (O.calm hc.1) hg hr.2 (Dh (ih.e O h1) hs) (by intro z hz;simp at hz;rw[hz];exact hs) hc.2 BH
      ·rename_i a d
       split at h
       ·cases h
       ·rename_i hs
        have hs:isStar a=false/\isStar d=false:=by simpa using hs
        simp only[aE,aB]at h;obtain⟨ia,h1,ib,h2,h⟩:=h;cases h;exact pq O (O.calm hc.1) hg hr.2 (zC (ih.e O h1) (zC (ih.e O h2) c_ (qg hs.2)) (qg hs.1)) (by intro z hz;simp at hz;rcases hz with rfl|rfl;exact hs.1;exact hs.2) hc.2 sI
      ·rename_i a d k
       split at h
       ·cases h
       ·rename_i hs
        have hs:(isStar a=false/\isStar d=false)/\isStar k=false:=by simpa[and_assoc]using hs
        simp only[aE,aB]at h;obtain⟨ia,h1,ib,h2,id,h3,h⟩:=h;split at h
        ·rename_i ht
         have ht:=eq_of_beq ht;subst ht;cases h;exact tQ O (O.calm hc.1) hg hr.2 (ih.e O h1) (ih.e O h2) (ih.e O h3) hs.1.1 hs.1.2 hs.2
        ·cases h
      ·cases h
     ·cases h
    ·simp only[aE,aB]at h;obtain⟨ies,h1,h⟩:=h;cases h;exact plain h1 rfl
   ·split at h
    ·rename_i a hs
     obtain⟨x,px,rfl,rfl,rfl,hc⟩:=CP hs;obtain⟨ia,h1,rfl⟩:=bz.mp h;exact xX O (O.calm hc) hg (ih.e O h1) rfl
    simp only[aE,aB]at h;obtain⟨ies,h1,h⟩:=h;split at h
    ·rename_i hc
     cases h;exact plain h1 (by simpa using hc)
    ·cases h
  ·rename_i hg
   split at h
   ·rename_i a k
    split at h
    ·cases h
    ·rename_i hs
     simp only[aE,aB]at h;obtain⟨ia,h1,cl,h2,h⟩:=h;cases h;exact D6 O hg (ih.e O h1) h2 (by simpa using hs)
   ·cases h
  ·cases h
theorem jr:∀{n:Nat}{c:Cc}{l:List Expr}{es:Es},cEs n c l=some es->l.length<=n
 | 0,_,_,_,h=>by simp[cEs]at h
 |n+1,_,[],_,_=>by simp
 |n+1,c,x::l,es,h=>by
  have hs:=fK h x aJ;simp only[cEs,hs,bU,if_false,aE,aB]at h;obtain⟨_,_,r,hr,_⟩:=h;have:=jr hr
  simpa using this
theorem mm{c:Cc}{elt:Expr}{gs:List cb}{sc:aO}{p:Pos}{ir:EV.E}(h:cE (n+1) c (.ListComp elt gs sc p)=some ir) :
  ∃tgt it ifs iit itg it' ie,gs=[⟨tgt,it,ifs,0⟩]/\(c.calm=true/\zG it=true)/\(iD (λx=>c.nm.lookup x) c.N (b6 sc.names) (hJ c sc.names) sc=true/\(b6 sc.names).Nodup)/\cI n c it=some iit/\cTg (dJ c sc) tgt=some itg/\fA n (dJ c sc) ifs=some it'/\cE n (dJ c sc) elt=some ie/\(esc ie=true/\gN iit tgt=true)/\ir=.comp iit (hJ c sc.names) itg it' ie:=by
 unfold cE at h;dsimp only at h;split at h
 ·rename_i tgt it ifs asy
  split at h
  ·cases h
  ·rename_i hs
   have hs:(asy=0/\c.calm=true)/\zG it=true:=by simpa using hs
   obtain⟨⟨rfl,hs1⟩,hs2⟩:=hs;split at h
   ·cases h
   ·rename_i hk
    have hk:iD (λx=>c.nm.lookup x) c.N (b6 sc.names) (hJ c sc.names) sc=true/\(b6 sc.names).Nodup:=by simpa using hk
    simp only[aE,aB]at h;obtain⟨iit,h1,itg,h2,it',h3,ie,h4,h⟩:=h;split at h
    ·rename_i he
     simp only[aI]at he;cases h;exact⟨tgt,it,ifs,iit,itg,it',ie,rfl,⟨hs1,hs2⟩,hk,h1,h2,h3,h4,he,rfl⟩
    ·cases h
 ·cases h
theorem Snd.e_succ(ih:Snd w g n)(hn:n<=100000){c:Cc}{E:XK}{X:Cx}(O:XO w g c E X){x:Expr}{ir:EV.E}(h:cE (n+1) c x=some ir):PE X x (tE w g c E ir):=by
 have h0:=h;unfold cE at h;split at h
 ·-- Name
  rename_i y p
  split at h
  ·rename_i i hl
   have:=jX (w:=w) (E:=E) (pos:=p) O hl;cases ho:c.own.contains y with
   |true=>rw[ho]at h this;cases h;exact this
   |false=>rw[ho]at h this;cases h;exact this
  ·split at h
   ·rename_i hg;cases h;exact B4 O hg
   ·rename_i fr hg;cases h;exact xZ O hg
   ·cases h
 ·split at h
  ·cases h;exact i7 pJ λ_=>.int _
  ·cases h;exact i7 pP λ_=>.bl _
  ·cases h;exact i7 BQ λ_=>.non
  ·cases h;exact i7 Dq λ_=>.str _
  ·cases h
 ·simp only[aE,aB]at h;obtain⟨o,ho,ia,h1,ib,h2,h⟩:=h;cases h;exact Ci O ho (ih.e O h1) (ih.e O h2)
 ·rename_i op a p
  simp only[aE,aB]at h;obtain⟨ia,h1,h⟩:=h;cases op with
  |USub=>cases h;exact xT (ih.e O h1)
  |Invert=>cases h;exact xc (ih.e O h1)
  |Not=>cases h;exact v9 (ih.e O h1)
  |UAdd=>cases h
 ·exact(ih.bo O h).1
 ·split at h
  ·simp only[aE,aB]at h;obtain⟨ia,h1,ib,h2,h⟩:=h;split at h
   ·rename_i hs;cases h;exact CW O (ih.e O h1) (ih.e O h2) hs
   ·cases h
  ·simp only[aE,aB]at h;obtain⟨ia,h1,ib,h2,id',h3,h⟩:=h;split at h
   ·rename_i hs
    simp only[aI]at hs;cases h;exact y9 O (ih.e O h1) (ih.e O h2) (ih.e O h3) hs.2
   ·cases h
  ·simp only[aE,aB]at h;obtain⟨ia,h1,ib,h2,id',h3,if',h4,h⟩:=h;split at h
   ·rename_i hs
    simp only[aI]at hs;cases h;exact Ds O (ih.e O h1) (ih.e O h2) (ih.e O h3) (ih.e O h4) hs.2
   ·cases h
  ·cases h
 ·split at h
  ·split at h
   ·rename_i hk
    rw[List.isEmpty_iff]at hk;subst hk;cases h;exact x6
   ·cases h
  ·split at h
   ·split at h
    ·split at h
     ·rename_i hk
      simp only[aI,List.isEmpty_iff]at hk;obtain⟨rfl,rfl⟩:=hk;simp only[aE,aB]at h;obtain⟨ik,h1,iv,h2,h⟩:=h;cases h;exact vL (ih.e O h1) (ih.e O h2)
     ·cases h
    ·cases h
   ·cases h
 ·simp only[aE,aB]at h;obtain⟨it,h1,ia,h2,ib,h3,h⟩:=h;split at h
  ·rename_i hs
   simp only[aI]at hs;cases h;exact u9 (ih.t O h1) (ih.e O h2) (ih.e O h3) hs.1 hs.2
  ·cases h
 ·simp only[aE,aB]at h;obtain⟨ies,h1,h⟩:=h;split at h
  ·rename_i hs;cases h
   exact BY (ih.es O h1) hs λτ ds e=>by rw[i6 h1 e];exact a_ (jr h1) hn
  ·cases h
 ·simp only[aE,aB]at h;obtain⟨ies,h1,h⟩:=h;split at h
  ·rename_i hs;cases h
   exact DB (ih.es O h1) hs λτ ds e=>by rw[i6 h1 e];exact a_ (jr h1) hn
  ·cases h
 ·split at h
  ·rename_i lo hi st' sp
   split at h
   ·cases h
   ·simp only[aE,aB]at h;obtain⟨ia,h1,il,h2,ih',h3,h⟩:=h;cases h;exact B9 O (ih.e O h1) (ih.o O h2) (ih.o O h3)
  ·split at h
   ·cases h
   ·rename_i hs
    simp only[aE,aB]at h;obtain⟨ia,h1,ib,h2,h⟩:=h;cases h;exact D7 O (ih.e O h1) (ih.e O h2) (by simpa using hs)
 ·-- ListComp
  rename_i elt gs sc p
  obtain⟨tgt,it,ifs,iit,itg,it',ie,rfl,hs,hk,h1,h2,h3,h4,he,rfl⟩:=mm h0;have hS:dW X (b6 sc.names) (hJ c sc.names) sc:=dW.of (by
   have e1:(λx=>c.nm.lookup x)=X.env.kindOf:=by funext x;show _=X.env.scope.names.lookup x;rw[O.nm]
   rw[<-e1,O.N];exact hk.1)
  refine wW O (O.calm hs.1) hS hk.2 (ih.i O h1 he.2) (λcl C s₀ H₀ fp=>?_) he.1 hs.2;have OY:=O.comp hS.kind hk.2 cl C s₀ H₀ fp;exact⟨jh OY h2,ih.ifs OY h3,ih.e OY h4⟩
 ·split at h
  ·split at h
   ·exact ih.call_name O h0
   ·split at h
    ·rename_i hm
     cases h;exact uf O hm
    ·split at h
     ·split at h
      ·cases h
      ·rename_i hc
       simp only[bP,bq,not_or,Bool.not_eq_true,Bool.not_eq_false]at hc;simp only[aE,aB]at h;obtain⟨io,h1,ia,h2,h⟩:=h;obtain⟨⟨⟨c1,c2⟩,c3⟩,c4⟩:=hc;split at h
       ·rename_i hg
        cases h;have hg:=eq_of_beq hg;subst hg;exact DA O c1 (ih.e O h1) (ih.e O h2) c2 c4
       ·rename_i hg
        split at h
        ·cases h;have c3:=eq_of_beq (c3.resolve_right hg);subst c3;exact uW O c1 (ih.e O h1) (ih.e O h2) c2 c4
        ·cases h
     ·split at h
      ·cases h
      ·rename_i hc
       simp only[bP,bq,not_or,Bool.not_eq_true,Bool.not_eq_false]at hc;simp only[aE,aB]at h;obtain⟨io,h1,ia,h2,id,h3,h⟩:=h;obtain⟨⟨⟨⟨c1,c2⟩,c3⟩,c4⟩,c5⟩:=hc;have c4:=eq_of_beq c4;subst c4;split at h
       ·rename_i hes
        cases h;exact yv O c1 (ih.e O h1) (ih.e O h2) (ih.e O h3) c2 c3 hes c5
       ·cases h
     ·cases h
   ·cases h
  ·cases h
 ·cases h
theorem xq:Snd w g 0:=⟨λ_ _ _ h=>(by cases h),λ_ _ _ _ _ h=>by simp[cBo]at h,λ_ _ _ h=>by simp[cO]at h,λ_ _ _ h=>by simp[cEs]at h,λ_ _ _ _ h=>by simp[cI]at h,λ_ _ _ h=>by simp[cT]at h,λ_ _ _ _ _ h=>by simp[cTs]at h,λ_ _ _ h=>by simp[fA]at h⟩
theorem snd:∀n,n<=100000->Snd w g n
 | 0,_=>xq
 |n+1,h=>
  have ih:=snd n (Nat.le_of_succ_le h)
  ⟨λO _ _ q=>ih.e_succ (Nat.le_of_succ_le h) O q,λO _ _ _ _ q=>ih.bo_succ O q,λO _ _ q=>ih.o_succ O q,λO _ _ q=>ih.es_succ O q,λO _ _ _ q t=>ih.i_succ O q t,λO _ _ q=>ih.t_succ O q,λO _ _ _ _ q=>ih.ts_succ O q,λO _ _ q=>ih.ifs_succ O q⟩
end
noncomputable def zD(c:Cc)(i:Nat):Prop:=∃x,c.N[i]? = some x/\c.own.contains x=true
structure SS(g:Gc)(c:Cc)(H0:Hp)(B:Sh)(τ:Env)(σ:L2.St)(H:Hp)(S:Sh):Prop where
 se:SE g c τ σ H S
 lenN:τ.length=c.N.length
 same:qf H0 H
 sub0:Sub B H0
 hd:∀a,S.h a=(B.h a||S.o a)
 new:∀a,S.o a=true->H0 a=none
 own:∀i d,zD c i->τ[i]? = some (some d)->∃a o,σ[i]? = some (some (.ref a))/\S.o a=true/\H a=some o/\cY g (hid H S) d o
 inj:∀i j d e a,zD c i->zD c j->τ[i]? = some (some d)->τ[j]? = some (some e)->σ[i]? = some (some (.ref a))->σ[j]? = some (some (.ref a))->i=j
 frz:c.frz=true->(∀i,zD c i->σ[i]? = B.z[i]?)/\qf B.y H
section
variable{g:Gc}{c:Cc}{H0:Hp}{B:Sh}{τ:Env}{σ:L2.St}{H H':Hp}{S:Sh}
theorem SS.up(s:SS g c H0 B τ σ H S)(e:qf H H'):SS g c H0 B τ σ H' S:=
 ⟨s.se.up e,s.lenN,s.same.trans e,s.sub0,s.hd,s.new,λi d hi h=>let ⟨a,o,h1,h2,h4,h5⟩:=s.own i d hi h;⟨a,o,h1,h2,e _ _ h4,h5.mono (qq e)⟩,s.inj,λz=>⟨(s.frz z).1,(s.frz z).2.trans e⟩⟩
theorem SS.set{i:Nat}{d:D}{v:V}(s:SS g c H0 B τ σ H S)(hi:¬ zD c i)(r:Rep g (hid H S) d v):SS g c H0 B (τ.set i (some d)) (σ.set i (some v)) H S:=by
 refine⟨s.se.set r,by simp[s.lenN],s.same,s.sub0,s.hd,s.new,λj e hj h=>?_,λj k e f a hj hk h1 h2 h3 h4=>?_,λz=>⟨λj hj=>?_,(s.frz z).2⟩⟩
 ·have hij:i≠j:=λz=>hi (z▸hj)
  rw[List.getElem?_set_ne hij]at h ⊢;exact s.own j e hj h
 ·have hij:i≠j:=λz=>hi (z▸hj)
  have hik:i≠k:=λz=>hi (z▸hk)
  rw[List.getElem?_set_ne hij]at h1 h3;rw[List.getElem?_set_ne hik]at h2 h4;exact s.inj j k e f a hj hk h1 h2 h3 h4
 ·rw[List.getElem?_set_ne (λz:i=j=>hi (z▸hj))];exact(s.frz z).1 j hj
theorem SS.setAll{is:List Nat}:∀{ds:List D}{vs:List V}{τ τ':Env}{σ:L2.St}{Q:L2.St->Hp->Prop},SS g c H0 B τ σ H S->(∀i∈is,¬ zD c i)->zb g (hid H S) ds vs->EV.setAll is ds τ=.ok τ'->(∀σ',SS g c H0 B τ' σ' H S->Q σ' H)->iL is vs σ H Q:=by
 induction is with
 |nil=>
  intro ds vs τ τ' σ Q se _ r h k;cases r with
  |nil=>cases (show R.ok τ=R.ok τ' from h);exact⟨rfl,k σ se⟩
  |cons _ _=>cases (show R.no=R.ok τ' from h)
 |cons i is ih=>
  intro ds vs τ τ' σ Q se ho r h k;cases r with
  |nil=>cases (show R.no=R.ok τ' from h)
  |cons r rs=>exact⟨_,_,rfl,ih (se.set (ho i aJ) r) (λj hj=>ho j (aK _ hj)) rs h k⟩
theorem Du{tg:Tg}(h:iT c tg):match tg with | .nm i=>¬ zD c i | .tp is=>∀i∈is,¬ zD c i:=by
 cases tg with
 |nm i=>rintro⟨x,h1,h2⟩;rw[h x h1]at h2;cases h2
 |tp is=>rintro i hi ⟨x,h1,h2⟩;rw[h i hi x h1]at h2;cases h2
theorem SS.store{X:Cx}(O:X.K=g.K){tg:Tg}{d:D}{v:V}{τ':Env}{Q:L2.St->Hp->Prop}(s:SS g c H0 B τ σ H S)(hf:iT c tg)(r:Rep g (hid H S) d v)(h:EV.store tg d τ=.ok τ')(k:∀σ',SS g c H0 B τ' σ' H S->Q σ' H):gT X.K tg v σ H Q:=by
 have ho:=Du hf;cases tg with
 |nm i=>
  simp only[EV.store,R.ok.injEq]at h;subst h;exact k _ (s.set ho r)
 |tp is=>
  cases d with
  |tup ds=>
   simp only[EV.store]at h;split at h
   ·rename_i hl
    cases r with
    |tup h1 r1=>exact⟨_,_,rfl,by rw[O];exact zJ zM h1,by rw[<-r1.length];exact hl,s.setAll ho r1 h k⟩
   ·cases h
  |_=>simp[EV.store]at h
noncomputable def m9(S:Sh)(a:Addr):Sh:=⟨λb=>S.o b||b==a,λb=>S.h b||b==a,S.z,S.y⟩
theorem SS.setOwn{i:Nat}{d:D}{v:V}(s:SS g c H0 B τ σ H S)(hz:c.frz=false)(hi:zD c i)(hlt:i<τ.length)(e:qf H H')(f:Fr g H S H' d v):∃S',SS g c H0 B (τ.set i (some d)) (σ.set i (some v)) H' S'/\qf (hid H S) (hid H' S'):=by
 obtain⟨a,oo,rfl,h1,h2,h3⟩:=f;have up:qf (hid H S) (hid H' (m9 S a)):=λb o hb=>by
  obtain⟨z1,z2⟩:=bx.mp hb;refine bx.mpr ⟨?_,e _ _ z2⟩;show (S.h b||b==a)=false;rw[z1]
  simpa using λz:b=a=>by rw[z,h1]at z2;cases z2
 have hlt':i<σ.length:=by rw[<-s.se.len];exact hlt
 refine⟨m9 S a,⟨⟨by simp[s.se.len],λj e' hj=>?_,λb hb n=>?_⟩,by simp[s.lenN],s.same.trans e,s.sub0,λb=>?_,λb hb=>?_,λj e' hj h=>?_,λj k e1 e2 b hj hk q1 q2 q3 q4=>?_,λz=>by rw[hz]at z;cases z⟩,up⟩
 ·by_cases hij:i=j
  ·subst hij;simp[hlt]at hj;subst hj;refine⟨.ref a,by simp[hlt'],.inr ⟨a,oo,by show (S.o a||a==a)=true;simp,rfl,h2,h3⟩,λx hx hn=>?_⟩;obtain⟨y,hy1,hy2⟩:=hi;rw[hy1]at hx;cases hx;rw[hn]at hy2;cases hy2
  ·rw[List.getElem?_set_ne hij]at hj ⊢;obtain⟨u,z1,z2,z3⟩:=s.se.val j e' hj;refine⟨u,z1,?_,λx hx hn=>(z3 x hx hn).mono up⟩;rcases z2 with z2|⟨a',o',y1,y2,y4,y5⟩
   ·exact .inl (z2.mono up)
   ·exact .inr ⟨a',o',by show (S.o a'||a'==a)=true;rw[y1];rfl,y2,e _ _ y4,y5.mono up⟩
 ·have hb:(S.h b||b==a)=true\/(S.o b||b==a)=true:=hb;by_cases hba:b=a
  ·rw[hba,h2]at n;cases n
  ·have:S.h b=true\/S.o b=true:=by
    rcases hb with z|z
    ·exact .inl (by simpa[hba]using z)
    ·exact .inr (by simpa[hba]using z)
   exact(s.se.sub.same e) b this n
 ·show (S.h b||b==a)=(B.h b||(S.o b||b==a))
  rw[s.hd b,Bool.or_assoc]
 ·have hb:(S.o b||b==a)=true:=hb;by_cases hba:b=a
  ·rw[hba];exact s.same.free h1
  ·exact s.new b (by simpa[hba]using hb)
 ·by_cases hij:i=j
  ·subst hij;simp[hlt]at h;subst h;exact⟨a,oo,by simp[hlt'],by show (S.o a||a==a)=true;simp,h2,h3⟩
  ·rw[List.getElem?_set_ne hij]at h ⊢;obtain⟨a',o',y1,y2,y4,y5⟩:=s.own j e' hj h;exact⟨a',o',y1,by show (S.o a'||a'==a)=true;rw[y2];rfl,e _ _ y4,y5.mono up⟩
 ·have other:∀j e1 b,i≠j->zD c j->τ[j]? = some (some e1)->σ[j]? = some (some (.ref b))->b≠a:=λj e1 b hij hj q1 q3 z=>by
   obtain⟨a',o',y1,y2,y4,y5⟩:=s.own j e1 hj q1;rw[q3]at y1;cases y1;rw[z,h1]at y4;cases y4
  by_cases hij:i=j
  ·by_cases hik:i=k
   ·rw[<-hij,<-hik]
   ·subst hij;rw[List.getElem?_set_ne hik]at q2 q4;have q3':b=a:=by
     have:(σ.set i (some (.ref a)))[i]? = some (some (.ref a)):=by simp[hlt']
     rw[this]at q3;cases q3;rfl
    exact absurd q3' (other k e2 b hik hk q2 q4)
  ·by_cases hik:i=k
   ·subst hik;rw[List.getElem?_set_ne hij]at q1 q3;have q4':b=a:=by
     have:(σ.set i (some (.ref a)))[i]? = some (some (.ref a)):=by simp[hlt']
     rw[this]at q4;cases q4;rfl
    exact absurd q4' (other j e1 b hij hj q1 q3)
   ·rw[List.getElem?_set_ne hij]at q1 q3;rw[List.getElem?_set_ne hik]at q2 q4;exact s.inj j k e1 e2 b hj hk q1 q2 q3 q4
theorem SS.changeO{i:Nat}{a:Addr}{d0 d1:D}{o1:HO}(s:SS g c H0 B τ σ H S)(hz:c.frz=false)(hi:zD c i)(h0:τ[i]? = some (some d0))(ha:σ[i]? = some (some (.ref a)))(r:cY g (hid H S) d1 o1):SS g c H0 B (τ.set i (some d1)) σ (upd H a o1) S/\qf (hid H S) (hid (upd H a o1) S):=by
 have hlt:i<τ.length:=(List.getElem?_eq_some_iff.mp h0).1;obtain⟨a',o0,y1,y2,y4,y5⟩:=s.own i d0 hi h0;rw[ha]at y1;cases y1;have hh:S.h a=true:=by rw[s.hd,y2,Bool.or_true]
 have he:hid (upd H a o1) S=hid H S:=iX hh;have other:∀j e,i≠j->zD c j->τ[j]? = some (some e)->∀b,σ[j]? = some (some (.ref b))->b≠a:=λj e hij hj h b hb z=>by
  subst z;exact hij (s.inj i j d0 e b hi hj h0 h ha hb)
 refine⟨⟨⟨by simp[s.se.len],λj e hj=>?_,λb hb n=>?_⟩,by simp[s.lenN],λb o hb=>?_,s.sub0,s.hd,s.new,λj e hj h=>?_,λj k e1 e2 b hj hk q1 q2 q3 q4=>?_,λz=>by rw[hz]at z;cases z⟩,by rw[he];exact qf.refl _⟩
 ·by_cases hij:i=j
  ·subst hij;simp[hlt]at hj;subst hj;refine⟨.ref a,ha,.inr ⟨a,o1,y2,rfl,zy,by rw[he];exact r⟩,λx hx hn=>?_⟩;obtain⟨y,hy1,hy2⟩:=hi;rw[hy1]at hx;cases hx;rw[hn]at hy2;cases hy2
  ·rw[List.getElem?_set_ne hij]at hj;obtain⟨u,z1,z2,z3⟩:=s.se.val j e hj;by_cases ho:zD c j
   ·obtain⟨b,ob,w1,w2,w4,w5⟩:=s.own j e ho hj;rw[z1]at w1;cases w1;refine⟨_,z1,.inr ⟨b,ob,w2,rfl,by rw[qh (other j e hij ho hj b z1)];exact w4,by rw[he];exact w5⟩,λx hx hn=>?_⟩;obtain⟨y,hy1,hy2⟩:=ho;rw[hy1]at hx;cases hx;rw[hn]at hy2;cases hy2
   ·have st:Rep g (hid H S) e u:=by
     cases q:c.N[j]? with
     |some x=>
      refine z3 x q ?_;cases q2:c.own.contains x with
      |false=>rfl
      |true=>exact absurd ⟨x,q,q2⟩ ho
     |none=>
      have h1:=(List.getElem?_eq_some_iff.mp hj).1;have h2:=List.getElem?_eq_none_iff.mp q;have h3:=s.lenN;lia
    exact⟨u,z1,.inl (by rw[he];exact st),λ_ _ _=>by rw[he];exact st⟩
 ·by_cases hba:b=a
  ·subst hba;rw[zy]at n;cases n
  ·rw[qh hba]at n;exact s.se.sub b hb n
 ·by_cases hba:b=a
  ·subst hba;rw[s.new b y2]at hb;cases hb
  ·rw[qh hba];exact s.same _ _ hb
 ·by_cases hij:i=j
  ·subst hij;simp[hlt]at h;subst h;exact⟨a,o1,ha,y2,zy,by rw[he];exact r⟩
  ·rw[List.getElem?_set_ne hij]at h;obtain⟨b,ob,w1,w2,w4,w5⟩:=s.own j e hj h;exact⟨b,ob,w1,w2,by rw[qh (other j e hij hj h b w1)];exact w4,by rw[he];exact w5⟩
 ·have f:∀k e,(τ.set i (some d1))[k]? = some (some e)->∃e',τ[k]? = some (some e'):=λk e h=>by
   by_cases hik:i=k
   ·subst hik;exact⟨d0,h0⟩
   ·rw[List.getElem?_set_ne hik]at h;exact⟨e,h⟩
  obtain⟨e1',q1'⟩:=f j e1 q1;obtain⟨e2',q2'⟩:=f k e2 q2;exact s.inj j k e1' e2' b hj hk q1' q2' q3 q4
theorem SS.change{i:Nat}{a:Addr}{d0:D}{vs:List V}{ds:List D}(s:SS g c H0 B τ σ H S)(hz:c.frz=false)(hi:zD c i)(h0:τ[i]? = some (some d0))(ha:σ[i]? = some (some (.ref a)))(r:zb g (hid H S) ds vs):SS g c H0 B (τ.set i (some (.lst ds))) σ (upd H a (.lst vs)) S/\qf (hid H S) (hid (upd H a (.lst vs)) S):=s.changeO hz hi h0 ha (.lst r)
end
noncomputable def bY(g:Gc)(c:Cc)(E:XK)(fr:Bool)(H0:Hp)(B:Sh)(H:Hp)(S:Sh)(D:Ends):O->Prop
 | .nx τ'=>∀σ' H' S',SS g c H0 B τ' σ' H' S'->qf (hid H S) (hid H' S')->D.nx σ' H'
 | .bk τ'=>∀σ' H' S',SS g c H0 B τ' σ' H' S'->qf (hid H S) (hid H' S')->D.bk σ' H'
 | .ct τ'=>∀σ' H' S',SS g c H0 B τ' σ' H' S'->qf (hid H S) (hid H' S')->D.ct σ' H'
 | .rt d=>∀v H',qf H0 H'->Rep g (hid H' B) d v->(fr=true->bZ d=true->Fr g H0 B H' d v)->D.rt v H'
 | .ex k=>∀H' C,qf H0 H'->g.clA k=some C->E (.ref C) none H'
 | .no=>False
section
variable(w:W)(g:Gc)(c:Cc)(E:XK)(fr:Bool)
noncomputable def tS(s:EV.S):TS:=λD σ H=>∃H0 B τ S,SS g c H0 B τ σ H S/\bY g c E fr H0 B H S D (evS w s τ)
noncomputable def tSs(s:Ss):TS:=λD σ H=>∃H0 B τ S,SS g c H0 B τ σ H S/\bY g c E fr H0 B H S D (qe w s τ)
end
structure XS(w:W)(g:Gc)(c:Cc)(E:XK)(X:Cx):Prop extends XO w g c E X where
 thr:c.thr=true->Throws X E
 exc:∀x C,c.G.lookup x=some .exc->g.clA x=some C->lb g.K C
 cat:∀k x,w.cat k x=true->∀C D,g.clA k=some C->g.clA x=some D->bE g.K (.ref C) (.ref D)=some true
 frm:X.ex=[]/\X.stack=X.env::X.outer/\X.env.frame=some X.env.locals
 gh:∀x k,c.GH.lookup x=some k->k≠.exc/\∀v,GM w g X.prog X.w X.mg X.base (X.A.mark v) false x k
section
variable{w:W}{g:Gc}{c:Cc}{E:XK}{fr:Bool}{X:Cx}{H0:Hp}{B:Sh}{τ:Env}{σ:L2.St}{H H':Hp}{S:Sh}{Ed:Ends}
theorem bY.up{o:O}{S':Sh}(h:bY g c E fr H0 B H S Ed o)(e:qf (hid H S) (hid H' S')):bY g c E fr H0 B H' S' Ed o:=by
 cases o with
 |nx t=>exact λσ' H2 S2 s e2=>h σ' H2 S2 s (e.trans e2)
 |bk t=>exact λσ' H2 S2 s e2=>h σ' H2 S2 s (e.trans e2)
 |ct t=>exact λσ' H2 S2 s e2=>h σ' H2 S2 s (e.trans e2)
 |rt d=>exact h
 |ex k=>exact h
 |no=>exact h
theorem s_e{e:EV.E}{f:D->O}{Q:VK}(ss:SS g c H0 B τ σ H S)(h:bY g c E fr H0 B H S Ed ((evE w e τ).out f))(k:∀d v H',evE w e τ=.ok d->a9 g c e S H d v H'->bY g c E fr H0 B H S Ed (f d)->Q v H'):tE w g c E e σ H Q:=by
 refine⟨τ,S,ss.se,?_⟩;cases q:evE w e τ with
 |ok d=>rw[q]at h;exact λv H' p=>k d v H' q p h
 |ex x=>rw[q]at h;exact λH' C s hc=>h H' C (ss.same.trans s) hc
 |no=>rw[q]at h;exact h
theorem s_t{t:T}{f:Bool->O}{Q:Bool->Hp->Prop}(ss:SS g c H0 B τ σ H S)(h:bY g c E fr H0 B H S Ed ((evT w t τ).out f))(k:∀b H',evT w t τ=.ok b->qf H H'->bY g c E fr H0 B H S Ed (f b)->Q b H'):tT w g c E t σ H Q:=by
 refine⟨τ,S,ss.se,?_⟩;cases q:evT w t τ with
 |ok d=>rw[q]at h;exact λH' p=>k d H' q p h
 |ex x=>rw[q]at h;exact λH' C s hc=>h H' C (ss.same.trans s) hc
 |no=>rw[q]at h;exact h
theorem s_a{es:Es}{f:List D->O}{Q:List V->Hp->Prop}(ss:SS g c H0 B τ σ H S)(h:bY g c E fr H0 B H S Ed ((zz w es τ).out f))(k:∀ds vs H',zz w es τ=.ok ds->qf H H'->eO g H' S ds vs->bY g c E fr H0 B H S Ed (f ds)->Q vs H'):tA w g c E es σ H Q:=by
 refine⟨τ,S,ss.se,?_⟩;cases q:zz w es τ with
 |ok d=>rw[q]at h;exact λvs H' p r _=>k d vs H' q p r h
 |ex x=>rw[q]at h;exact λH' C s hc=>h H' C (ss.same.trans s) hc
 |no=>rw[q]at h;exact h
theorem nO(ss:SS g c H0 B τ σ H S){b:Addr}(h:S.h b=false):B.h b=false:=by
 have:=ss.hd b;rw[h]at this;cases q:B.h b with
 |false=>rfl
 |true=>rw[q]at this;cases this
theorem mW(ss:SS g c H0 B τ σ H S):qf (hid H' S) (hid H' B):=λb o h=>by
 obtain⟨z1,z2⟩:=bx.mp h;exact bx.mpr ⟨nO ss z1,z2⟩
theorem m4:∀{is:List Nat}{ds:List EV.D}{τ:Env}{x:Str},setAll is ds τ≠.ex x
 | [],[],_,_,h=>by cases h
 | [],_::_,_,_,h=>by cases h
 |_::_,[],_,_,h=>by cases h
 |i::is,d::ds,τ,x,h=>by simp only[setAll]at h;exact m4 h
theorem vq{pos:Pos}:PS X (.Pass pos) (tS w g c E fr .pass):=PS.imp CK λD σ H ⟨H0,B,τ,S,ss,h⟩=>h σ H S ss (qf.refl _)
theorem Bl{pos:Pos}:PS X (.Break pos) (tS w g c E fr .brk):=PS.imp tJ λD σ H ⟨H0,B,τ,S,ss,h⟩=>h σ H S ss (qf.refl _)
theorem yT{pos:Pos}:PS X (.Continue pos) (tS w g c E fr .cnt):=PS.imp uJ λD σ H ⟨H0,B,τ,S,ss,h⟩=>h σ H S ss (qf.refl _)
theorem iW{e:Expr}{t:Option Expr}{l:Nat}{env:PySem.Env}(h:eV e=false):swapsWith e t l env=pure false:=by
 cases e<;>first|rfl|(simp[eV]at h)
theorem BO{e:Expr}{ie:EV.E}{pos:Pos}(he:PE X e (tE w g c E ie))(hc:eV e=false):PS X (.Expr e pos) (tS w g c E fr (.exp ie)):=
 PS.imp (ju he (iW hc)) λD σ H ⟨H0,B,τ,S,ss,h⟩=>by
  simp only[bT,b5,b9,cj,zL,cq,zT,b8,cg,zR,zN,zS,cC,cz,cy,cA,zW,cB,zZ,cx,cF,zE]at h;exact s_e ss h λd v H' _ p k=>k σ H' S (ss.up p.same) (qq p.same)
theorem Dv{pos:Pos}(hf:fr=false):PS X (.Return none pos) (tS w g c E fr .retN):=PS.imp wc λD σ H ⟨H0,B,τ,S,ss,h⟩=>h _ _ ss.same .non (by rw[hf];intro z;cases z)
theorem lr(ss:SS g c H0 B τ σ H S){a:Addr}{d:EV.D}{o:HO}(h1:H0 a=none)(h2:H' a=some o)(h3:cY g (hid H' (cM S a)) d o):Rep g (hid H' B) d (.ref a)/\Fr g H0 B H' d (.ref a):=by
 have up:qf (hid H' (cM S a)) (hid H' (cM B a)):=λb o hb=>by
  obtain⟨z1,z2⟩:=bx.mp hb;refine bx.mpr ⟨?_,z2⟩;have z1:(S.h b||b==a)=false:=z1;simp only[Bool.or_eq_false_iff]at z1;show (B.h b||b==a)=false;rw[nO ss z1.1,z1.2];rfl
 exact⟨h3.rep (up.trans mM) (bx.mpr ⟨ss.sub0.free h1,h2⟩),⟨a,o,rfl,h1,h2,h3.mono up⟩⟩
theorem pj(ss:SS g c H0 B τ σ H S){a:Addr}{d:EV.D}{o1:HO}(y1:S.o a=true)(y3:cY g (hid H' S) d o1):cY g (hid H' (cM S a)) d o1:=y3.mono λb o hb=>by
 have hh:S.h a=true:=by rw[ss.hd,y1,Bool.or_true]
 obtain⟨z1,z2⟩:=bx.mp hb;refine bx.mpr ⟨?_,z2⟩;show (S.h b||b==a)=false;rw[z1]
 simpa using λz:b=a=>by rw[z,hh]at z1;cases z1
theorem pZ{e:Expr}{ie:EV.E}{pos:Pos}(he:PE X e (tE w g c E ie))(hf:fr=true->dY c ie=true):PS X (.Return (some e) pos) (tS w g c E fr (.ret ie)):=
 PS.imp (la he) λD σ H ⟨H0,B,τ,S,ss,h⟩=>by
  simp only[bT,b5,b9,cj,zL,cq,zT,b8,cg,zR,zN,zS,cC,cz,cy,cA,zW,cB,zZ,cx,cF,zE]at h;refine s_e ss h λd v H' _ p k=>?_
  have k:∀v H',qf H0 H'->Rep g (hid H' B) d v->(fr=true->bZ d=true->Fr g H0 B H' d v)->D.rt v H':=k;have s1:=ss.up p.same;by_cases hz:fr=true/\bZ d=true
  ·obtain⟨a,o,rfl,h1,h2,h3⟩:=p.frc (hf hz.1) hz.2;obtain⟨r1,r2⟩:=lr (H':=H') ss (ss.same.free h1) h2 h3;exact k _ H' s1.same r1 λ_ _=>r2
  ·rcases p.rb with r|⟨a,o,y1,rfl,y2,y3⟩
   ·exact k v H' s1.same (r.mono (mW ss)) λz l=>absurd ⟨z,l⟩ hz
   ·obtain⟨r1,r2⟩:=lr (H':=H') ss (ss.new a y1) y2 (pj ss y1 y3);exact k _ H' s1.same r1 λ_ _=>r2
theorem EI{e:Expr}{ie:EV.E}{pos:Pos}(he:PE X e (tE w g c E ie)):PS X (.Return (some e) pos) (tS w g c E fr (.retn ie)):=
 PS.imp (la he) λD σ H ⟨H0,B,τ,S,ss,h⟩=>by
  simp only[bT,b5,b9,cj,zL,cq,zT,b8,cg,zR,zN,zS,cC,cz,cy,cA,zW,cB,zZ,cx,cF,zE]at h;refine s_e ss h λd v H' _ p k=>?_
  have s1:=ss.up p.same;cases hl:bZ d with
  |true=>rw[hl]at k;exact k.elim
  |false=>
   rw[hl]at k;have k:∀v H',qf H0 H'->Rep g (hid H' B) d v->(fr=true->bZ d=true->Fr g H0 B H' d v)->D.rt v H':=k;rcases p.rb with r|⟨a,o,y1,rfl,y2,y3⟩
   ·exact k v H' s1.same (r.mono (mW ss)) λ_ l=>by rw[hl]at l;cases l
   ·cases y3<;>cases hl
theorem DH(O:XO w g c E X){x:Str}{i:Nat}{p pos:Pos}(h:loc c x=some i)(ho:c.own.contains x=true):PS X (.Return (some (.Name x p)) pos) (tS w g c E fr (.ret (.own i))):=by
 obtain⟨h1,h2,h3,h4⟩:=dD h;refine PS.imp (la (fU (i:=i) (by rw[O.N];exact h1) (by unfold eZ;rw[O.nm];exact h2) h3 h4)) λD σ H ⟨H0,B,τ,S,ss,h⟩=>?_
 simp only[bT,b5,b9,cj,zL,cq,zT,b8,cg,zR,zN,zS,cC,cz,cy,cA,zW,cB,zZ,cx,cF,zE,zl,zp,zh,zm,zk,ze,zc,zq,zo,qy,qJ,qu,qA,qI,qr,qK,qD,qx,qL,qH,qN,qo,qB,qP,qE,qp,qV,qU,qM,qw,qG,qY,qR,qO,qQ,qT,qW,qS,qX,qF,zP]at h;cases q:τ[i]? with
 |none=>rw[q]at h;exact h.elim
 |some o=>
  cases o with
  |none=>rw[q]at h;exact h.elim
  |some d=>
   rw[q]at h;obtain⟨a,o,z1,y1,y2,y3⟩:=ss.own i d ⟨x,h1,ho⟩ q;obtain⟨r1,r2⟩:=lr (H':=H) ss (ss.new a y1) y2 (pj ss y1 y3);exact⟨_,z1,h _ H ss.same r1 λ_ _=>r2⟩
theorem kr{e:Expr}{ie:EV.E}{i:Nat}{st:Stmt}{te:TE}(hp:PS X st (jI te (fI i)))(hr:∀σ H Q,tE w g c E ie σ H Q->te σ H Q)(hlt:i<c.N.length)(hk:(zD c i/\fresh c ie=true/\c.frz=false)\/(¬ zD c i/\esc ie=true)):PS X st (tS w g c E fr (.set (.nm i) ie)):=
 PS.imp hp λD σ H ⟨H0,B,τ,S,ss,h⟩=>by
  simp only[bT,b5,b9,cj,zL,cq,zT,b8,cg,zR,zN,zS,cC,cz,cy,cA,zW,cB,zZ,cx,cF,zE,store]at h;refine hr σ H _ (s_e ss h λd v H' _ p k=>?_);have k:∀σ' H2 S2,SS g c H0 B (τ.set i (some d)) σ' H2 S2->qf (hid H S) (hid H2 S2)->D.nx σ' H2:=k;rcases hk with ⟨ho,hf,hfz⟩|⟨ho,he⟩
  ·obtain⟨S',s1,s2⟩:=ss.setOwn hfz ho (by rw[ss.lenN];exact hlt) p.same (p.fr hf);exact k _ _ S' s1 s2
  ·exact k _ _ S ((ss.up p.same).set ho (p.st he)) (qq p.same)
theorem w9(O:XO w g c E X){tg e:Expr}{itg:Tg}{ie:EV.E}{pos:Pos}(he:PE X e (tE w g c E ie))(hg:PG X tg (gT X.K itg))(hf:iT c itg)(hes:esc ie=true)(hs:swapsWithSole [tg] e pos.line X.env=pure false)(hw:swappedStores [tg] e X.env=pure none)(h1:(assignEach [tg] X.env).map (·.2)=[assign tg X.env]) :
  PS X (.Assign [tg] e pos) (tS w g c E fr (.set itg ie)):=
 PS.imp (nv he hg hs hw h1) λD σ H ⟨H0,B,τ,S,ss,h⟩=>by
  simp only[bT,b5,b9,cj,zL,cq,zT,b8,cg,zR,zN,zS,cC,cz,cy,cA,zW,cB,zZ,cx,cF,zE]at h;refine s_e ss h λd v H' _ p k=>?_
  cases q:store itg d τ with
  |ok τ'=>
   rw[q]at k;exact(ss.up p.same).store O.K hf (p.st hes) q λσ' s1=>k σ' H' S s1 (qq p.same)
  |ex z=>cases itg<;>simp only[store]at q<;>first|cases q|(split at q<;>first|cases q|(split at q<;>first|(exact absurd q (m4))|cases q))
  |no=>rw[q]at k;exact k.elim
end
section
variable{w:W}{g:Gc}{c:Cc}{E:XK}{fr:Bool}{X:Cx}{H0:Hp}{B:Sh}{τ:Env}{σ:L2.St}{H H':Hp}{S:Sh}{Ed:Ends}
theorem iN{i:Nat}{d:EV.D}(h:zP τ i=.ok d):τ[i]? = some (some d):=by
 unfold zP at h;split at h
 ·rename_i q;cases h;exact q
 ·cases h
theorem sD(O:XO w g c E X)(hfz:c.frz=false){x:Str}{i:Nat}{a:Expr}{ia:EV.E}{p ap cp pos:Pos}(h:loc c x=some i)(ho:c.own.contains x=true)(ha:PE X a (tE w g c E ia))(hes:esc ia=true)(hs:isStar a=false)(hl:(ap.endLine==cp.line)=true) :
  PS X (.Expr (.Call (.Attribute (.Name x p) "append" ap) [a] [] cp) pos) (tS w g c E fr (.app i ia)):=by
 obtain⟨h1,h2,h3,h4⟩:=dD h;have hv:PE X (.Name x p) (fk i):=fU (i:=i) (by rw[O.N];exact h1) (by unfold eZ;rw[O.nm];exact h2) h3 h4;have hst:=qg (es:=[]) (env:=X.env) hs;have hb:=gX (X:=X) (apos:=ap) (cpos:=cp) PySem.F.plainAttrs_list PySem.F.slot_list_append PySem.F.type_list_append oS hv (zC ha c_ hst) rfl (by rw[hst];rfl) hl hst rfl;refine PS.imp (ju hb rfl) λD σ H ⟨H0,B,τ,S,ss,k⟩=>?_
 simp only[bT,b5,b9,cj,zL,cq,zT,b8,cg,zR,zN,zS,cC,cz,cy,cA,zW,cB,zZ,cx,cF,zE]at k;cases q:zP τ i with
 |ex z=>unfold zP at q;split at q<;>cases q
 |no=>rw[q]at k;exact k.elim
 |ok d0=>
  rw[q]at k;have q':=iN q;have hi:zD c i:=⟨x,h1,ho⟩
  obtain⟨ad,oo,z1,y1,y2,y3⟩:=ss.own i d0 hi q';cases y3 with
  |dic kvs=>exact k.elim
  | @lst ds vs y3=>
  refine⟨_,z1,.inl ⟨rfl,vs,SqL.of y2⟩,s_e ss k λd v H1 _ p1 k1=>?_⟩
  try simp only at k1
  by_cases hz:ds.length<SZ
  ·rw[if_pos hz]at k1;have s1:=ss.up p1.same;have y2':=p1.same _ _ y2;obtain⟨s2,s3⟩:=s1.change (vs:=vs++[v]) (ds:=ds++[d]) hfz hi q' z1 ((y3.mono (qq p1.same)).append (.cons (p1.st hes) .nil));exact⟨ad,vs,v,rfl,rfl,y2',by rw[<-y3.length,aV];unfold SZ at hz;lia,k1 _ _ S s2 ((qq p1.same).trans s3)⟩
  ·rw[if_neg hz]at k1;exact k1.elim
theorem Ae(O:XO w g c E X)(hfz:c.frz=false){x:Str}{i:Nat}{a:Expr}{ia:EV.E}{p ap cp pos:Pos}(h:loc c x=some i)(ho:c.own.contains x=true)(ha:PE X a (tE w g c E ia))(hes:esc ia=true)(hs:isStar a=false)(hl:(ap.endLine==cp.line)=true) :
  PS X (.Expr (.Call (.Attribute (.Name x p) "update" ap) [a] [] cp) pos) (tS w g c E fr (.dupd i ia)):=by
 obtain⟨h1,h2,h3,h4⟩:=dD h;have hv:PE X (.Name x p) (fk i):=fU (i:=i) (by rw[O.N];exact h1) (by unfold eZ;rw[O.nm];exact h2) h3 h4;have hst:=qg (es:=[]) (env:=X.env) hs;have hb:=gX (X:=X) (apos:=ap) (cpos:=cp) PySem.F.plainAttrs_dict PySem.F.slot_dict_update PySem.F.type_dict_update DG hv (zC ha c_ hst) rfl (by rw[hst];rfl) hl hst rfl;refine PS.imp (ju hb rfl) λD σ H ⟨H0,B,τ,S,ss,k⟩=>?_
 simp only[bT,b5,b9,cj,zL,cq,zT,b8,cg,zR,zN,zS,cC,cz,cy,cA,zW,cB,zZ,cx,cF,zE]at k;cases q:zP τ i with
 |ex z=>unfold zP at q;split at q<;>cases q
 |no=>rw[q]at k;exact k.elim
 |ok d0=>
  rw[q]at k;have q':=iN q;have hi:zD c i:=⟨x,h1,ho⟩
  obtain⟨ad,oo,z1,y1,y2,y3⟩:=ss.own i d0 hi q';cases y3 with
  |lst r=>exact k.elim
  |dic kvs=>
   refine⟨_,z1,.inr (.inr (.inl ⟨rfl,.inl ⟨_,y2⟩⟩)),s_e ss k λd v H1 _ p1 k1=>?_⟩;cases d with
   |dic ms=>
    simp only at k1;by_cases hz:kvs.length+ms.length<SZ
    ·rw[if_pos hz]at k1;have s1:=ss.up p1.same;have y2':=p1.same _ _ y2;have hr:=p1.st hes;cases hr with
     | @dic b _ hb'=>
      obtain⟨b1,b2⟩:=bx.mp hb';obtain⟨s2,s3⟩:=s1.changeO (d1:=.dic (cZ kvs ms)) (o1:=.dK (bj (cZ kvs ms))) hfz hi q' z1 (.dic _);have hab:ad≠b:=λz=>by
       have:S.h ad=true:=by rw[ss.hd,y1,Bool.or_true]
       rw[z,b1]at this;cases this
      refine⟨ad,b,bj kvs,bj ms,rfl,rfl,hab,y2',b2,?_,?_⟩
      ·rw[l6,l6,aV];unfold SZ at hz;lia
      ·rw[pK];exact k1 _ _ S s2 ((qq p1.same).trans s3)
    ·rw[if_neg hz]at k1;exact k1.elim
   |_=>exact k1.elim
theorem tB(O:XO w g c E X)(hfz:c.frz=false){x:Str}{i:Nat}{a:Expr}{ia:EV.E}{p ap cp pos:Pos}(h:loc c x=some i)(ho:c.own.contains x=true)(ha:PE X a (tE w g c E ia))(hes:esc ia=true)(hs:isStar a=false)(hl:(ap.endLine==cp.line)=true) :
  PS X (.Expr (.Call (.Attribute (.Name x p) "extend" ap) [a] [] cp) pos) (tS w g c E fr (.ext i ia)):=λpins s σ H D I ⟨H0,B,τ,S,ss,h⟩=>by
 simp only[bT,b5,b9,cj,zL,cq,zT,b8,cg,zR,zN,zS,cC,cz,cy,cA,zW,cB,zZ,cx,cF,zE]at h;exact aS h
theorem tf(O:XO w g c E X)(hfz:c.frz=false){x y:Str}{i j:Nat}{p ap cp px q1 pos:Pos}{k0}(hx:de c x=some i)(hy:loc c y=some j)(hox:c.own.contains x=false)(hoy:c.own.contains y=true)(hl:(ap.endLine==cp.line)=true) :
  PS X (.Assign [.Name x px] (.Call (.Attribute (.Name y p) "pop" ap) [.Constant (.int 0) k0 q1] [] cp) pos) (tS w g c E fr (.pop0 i j)):=by
 obtain⟨h1,h2,h3,h4⟩:=dD hy;obtain⟨l1,l2⟩:=ee hx;obtain⟨l3,_⟩:=dD l1;have hv:PE X (.Name y p) (fk j):=fU (i:=j) (by rw[O.N];exact h1) (by unfold eZ;rw[O.nm];exact h2) h3 h4;have hst:aL [Expr.Constant (.int 0) k0 q1] X.env=(false,eval (Expr.Constant (.int 0) k0 q1) X.env)::aL [] X.env:=rfl;have hb:=gX (X:=X) (apos:=ap) (cpos:=cp) PySem.F.plainAttrs_list PySem.F.slot_list_pop PySem.F.type_list_pop ui hv (zC pJ c_ hst) rfl rfl hl hst rfl;refine PS.imp (lN (i:=i) (by rw[O.N];exact O.nd) (by rw[O.N];exact l3) (by unfold L2.Loc;rw[O.nm];rcases l2 with z|z;exact .inl z;exact .inr z.1) hb (iW rfl) (by
  rcases l2 with z|z
  ·exact .inr (by rw[O.nm];exact z)
  ·exact .inl (O.fn x z.2))) λD σ H ⟨H0,B,τ,S,ss,k⟩=>?_
 simp only[bT,b5,b9,cj,zL,cq,zT,b8,cg,zR,zN,zS,cC,cz,cy,cA,zW,cB,zZ,cx,cF,zE]at k;cases q:zP τ j with
 |ex z=>unfold zP at q;split at q<;>cases q
 |no=>rw[q]at k;exact k.elim
 |ok d0=>
  rw[q]at k;have q':=iN q;have hi:zD c j:=⟨y,h1,hoy⟩
  obtain⟨ad,oo,z1,y1,y2,y3⟩:=ss.own j d0 hi q';cases y3 with
  |dic kvs=>exact k.elim
  | @lst ds vs y3=>
   cases ds with
   |nil=>exact k.elim
   |cons d ds=>
    cases y3 with
    | @cons _ _ v vs r rs=>
     obtain⟨s2,s3⟩:=ss.change (vs:=vs) (ds:=ds) hfz hi q' z1 rs;have hni:¬ zD c i:=λ⟨z,z1,z2⟩=>by rw[l3]at z1;cases z1;rw[hox]at z2;cases z2
     have s4:=s2.set hni (r.mono s3);exact⟨_,z1,.inl ⟨rfl,_,SqL.of y2⟩,ad,v::vs,0,0,v,rfl,rfl,y2,by decide,by decide,by simp[seqIndex?],rfl,k _ _ S s4 s3⟩
theorem uY(O:XO w g c E X)(hfz:c.frz=false){x:Str}{i:Nat}{k e:Expr}{ik ie:EV.E}{p sp pos:Pos}(h:loc c x=some i)(ho:c.own.contains x=true)(hk:PE X k (tE w g c E ik))(he:PE X e (tE w g c E ie))(hes:esc ie=true)(hsl:isSlice k=false)(hc:eV e=false) :
  PS X (.Assign [.Subscript (.Name x p) k sp] e pos) (tS w g c E fr (.seti i ik ie)):=by
 obtain⟨h1,h2,h3,h4⟩:=dD h;have hv:PE X (.Name x p) (fk i):=fU (i:=i) (by rw[O.N];exact h1) (by unfold eZ;rw[O.nm];exact h2) h3 h4;have hg:PG X (.Subscript (.Name x p) k sp) (r_ (fk i) (tE w g c E ik) (λx y v H Q=>oR x y v H Q\/ng x y v H Q)):=Dw hv hk (set_list.or (y_ O.units)) (by intro v;cases k<;>first|rfl|(simp[isSlice]at hsl));refine PS.imp (nv he hg (by simp only[swapsWithSole];exact iW hc) rfl rfl) λD σ H ⟨H0,B,τ,S,ss,k⟩=>?_
 simp only[bT,b5,b9,cj,zL,cq,zT,b8,cg,zR,zN,zS,cC,cz,cy,cA,zW,cB,zZ,cx,cF,zE]at k;refine s_e ss k λd v H1 _ p1 k1=>?_
 cases q:zP τ i with
 |ex z=>unfold zP at q;split at q<;>cases q
 |no=>rw[q]at k1;exact k1.elim
 |ok d0=>
  rw[q]at k1;have q':=iN q;have hi:zD c i:=⟨x,h1,ho⟩
  have s1:=ss.up p1.same;obtain⟨ad,oo,z1,y1,y2,y3⟩:=s1.own i d0 hi q';refine⟨_,z1,s_e s1 (bY.up k1 (qq p1.same)) λn vn H2 _ p2 k2=>?_⟩;cases y3 with
  | @lst ds vs y3=>
   cases n with
   |int j=>
    simp only at k2;cases qj:ixN ds.length j with
    |none=>rw[qj]at k2;exact k2.elim
    |some m=>
     rw[qj]at k2;have s2:=s1.up p2.same;have y2':=p2.same _ _ y2;obtain⟨s3,s4⟩:=s2.change (vs:=vs.set m v) (ds:=ds.set m d) hfz hi q' z1 ((y3.mono (qq p2.same)).set ((p1.st hes).mono (qq p2.same)) m);exact .inl ⟨ad,vs,j,m,rfl,p2.rb.int,y2',by rw[<-y3.length];exact qj,k2 _ _ S s3 ((qq p2.same).trans s4)⟩
   |_=>exact k2.elim
  |dic kvs=>
   cases n with
   |int j=>
    cases d with
    |int z=>
     simp only at k2;by_cases hz:kvs.length<SZ
     ·rw[if_pos hz]at k2;have s2:=s1.up p2.same;have y2':=p2.same _ _ y2;obtain⟨s3,s4⟩:=s2.changeO (d1:=.dic (cK kvs j z)) (o1:=.dK (bj (cK kvs j z))) hfz hi q' z1 (.dic _);have hv:=p1.rb.int;subst hv;refine .inr ⟨ad,kvs,j,z,rfl,p2.rb.int,rfl,y2',?_,k2 _ _ S s3 ((qq p2.same).trans s4)⟩;rw[aV];unfold SZ at hz;lia
     ·rw[if_neg hz]at k2;exact k2.elim
    |_=>exact k2.elim
   |_=>exact k2.elim
theorem xC:PSs X [] (tSs w g c E fr .nil):=PSs.imp xG λD σ H ⟨H0,B,τ,S,ss,h⟩=>by
 simp only[qe]at h;exact h σ H S ss (qf.refl _)
theorem rO{s:Stmt}{r:List Stmt}{is:EV.S}{ir:Ss}(h1:PS X s (tS w g c E fr is))(h2:PSs X r (tSs w g c E fr ir)):PSs X (s::r) (tSs w g c E fr (.cons is ir)):=
 PSs.imp (B_ h1 h2) λD σ H ⟨H0,B,τ,S,ss,h⟩=>by
  simp only[qe]at h;refine⟨H0,B,τ,S,ss,?_⟩;cases q:evS w is τ with
  |nx τ'=>rw[q]at h;exact λσ' H' S' s' e=>⟨H0,B,τ',S',s',bY.up h e⟩
  |bk τ'=>rw[q]at h;exact h
  |ct τ'=>rw[q]at h;exact h
  |rt d=>rw[q]at h;exact h
  |ex k=>rw[q]at h;exact h
  |no=>rw[q]at h;exact h
theorem ya{t:Expr}{a b:List Stmt}{it:T}{ia ib:Ss}{pos:Pos}(ht:PT X t (tT w g c E it))(ha:PSs X a (tSs w g c E fr ia))(hb:PSs X b (tSs w g c E fr ib)):PS X (.If t a b pos) (tS w g c E fr (.ite it ia ib)):=
 PS.imp (y8 ht ha hb) λD σ H ⟨H0,B,τ,S,ss,h⟩=>by
  simp only[bT,b5,b9,cj,zL,cq,zT,b8,cg,zR,zN,zS,cC,cz,cy,cA,zW,cB,zZ,cx,cF,zE]at h;refine s_t ss h λz H1 _ s1 k1=>?_
  cases z with
  |true=>exact⟨H0,B,τ,S,ss.up s1,bY.up k1 (qq s1)⟩
  |false=>exact⟨H0,B,τ,S,ss.up s1,bY.up k1 (qq s1)⟩
theorem PS.nox'{st:Stmt}{t:TS}(h:PS X.nox st t):PS X st t:=λpins s σ H D I hw=>
 bL (h pins s σ H D (I.wish _) hw) (λ_ _ q=>q.unwish) λ_ _ z=>aS z
theorem XO.nox(O:XO w g c E X):XO w g c E0 X.nox:=⟨O.K,O.nm,O.N,O.nd,O.calm,O.units,O.fn,O.kind,k_ rfl rfl,O.gok,O.fns,O.sub⟩
theorem XS.nox(O:XS w g c E X):XS w g c E0 X.nox:=⟨O.toXO.nox,λ_ _ _ _ _ _ _ _ _ _ _ z=>aS z,O.exc,O.cat,O.frm,O.gh⟩
theorem rV{o:O}(h:bY g c E fr H0 B H S Ed o.noEx):bY g c E0 fr H0 B H S Ed o/\(∀k,o≠.ex k)/\o≠.no:=by
 cases o with
 |ex k=>exact h.elim
 |no=>exact h.elim
 |nx t=>exact⟨h,(λ_ z=>by cases z),(λz=>by cases z)⟩
 |bk t=>exact⟨h,(λ_ z=>by cases z),(λz=>by cases z)⟩
 |ct t=>exact⟨h,(λ_ z=>by cases z),(λz=>by cases z)⟩
 |rt t=>exact⟨h,(λ_ z=>by cases z),(λz=>by cases z)⟩
noncomputable def frozen(c:Cc)(b:Bool):Cc:={c with frz:=c.frz||b}
theorem XS.froze(O:XS w g c E X){b:Bool}:XS w g (frozen c b) E X:=
 ⟨⟨O.K,O.nm,O.N,O.nd,O.calm,O.units,O.fn,O.kind,O.pass,O.gok,O.fns,O.sub⟩,O.thr,O.exc,O.cat,O.frm,O.gh⟩
noncomputable def eP(B:Sh)(b:Bool)(σ:L2.St)(H:Hp):Sh:=if b=true then ⟨B.o,B.h,σ,H⟩else B
theorem ku{b:Bool}:(eP B b σ H).h=B.h:=by unfold eP;split<;>rfl
theorem wu{b:Bool}{H1:Hp}:hid H1 (eP B b σ H)=hid H1 B:=by funext a;unfold hid;rw[ku]
theorem SS.froze(b:Bool)(ss:SS g c H0 B τ σ H S):SS g (frozen c b) H0 (eP B b σ H) τ σ H S:=by
 refine⟨⟨ss.se.len,ss.se.val,ss.se.sub⟩,ss.lenN,ss.same,?_,?_,ss.new,ss.own,ss.inj,λz=>?_⟩
 ·unfold eP;split
  ·exact ss.sub0
  ·exact ss.sub0
 ·rw[ku];exact ss.hd
 ·cases b with
  |true=>exact⟨λi _=>rfl,qf.refl _⟩
  |false=>
   have z:(c.frz||false)=true:=z;rw[Bool.or_false]at z;exact ss.frz z
theorem SS.thaw{b:Bool}{σ1:L2.St}{H1:Hp}{τ1:Env}{S1:Sh}(s0:SS g c H0 B τ1 σ1 H1 S1)(ss:SS g (frozen c b) H0 (eP B b σ1 H1) τ σ H S):SS g c H0 B τ σ H S:=by
 refine⟨⟨ss.se.len,ss.se.val,ss.se.sub⟩,ss.lenN,ss.same,s0.sub0,?_,ss.new,ss.own,ss.inj,λz=>?_⟩
 ·have:=ss.hd;rw[ku]at this;exact this
 ·have f:=ss.frz (by show (c.frz||b)=true;rw[z];rfl);cases b with
  |true=>exact⟨λi hi=>(f.1 i hi).trans ((s0.frz z).1 i hi),(s0.frz z).2.trans f.2⟩
  |false=>exact f
theorem SS.iced{b:Bool}{σ1:L2.St}{H1:Hp}(hb:b=true)(ss:SS g (frozen c b) H0 (eP B b σ1 H1) τ σ H S):qf H1 H:=by
 subst hb;exact(ss.frz (by show (c.frz||true)=true;rw[Bool.or_true])).2
theorem BJ(O:XO w g c E X)(hc:X.calm=true){tg it:Expr}{b:List Stmt}{itg:Tg}{iit:It}{ib:Ss}{pos:Pos}(hi:PI X.nox tg it (tIt w g c E0 iit))(hg:PG X.nox tg (gT X.K itg))(hf:iT c itg)(hb:PSs X.nox b (tSs w g (frozen c (owned iit)) E0 fr ib))(hs:zG it=true) :
  PS X (.For tg it b [] pos) (tS w g c E fr (.for itg iit ib)):=by
 refine PS.nox' (PS.imp (Bz (X:=X.nox) PassesOwn.never hc hi hg hb (λx=>by cases it<;>first|rfl|(simp[zG]at hs))) λD σ H ⟨H0,B,τ,S,ss,h⟩=>?_);simp only[bT,b5,b9,cj,zL,cq,zT,b8,cg,zR,zN,zS,cC,cz,cy,cA,zW,cB,zZ,cx,cF,zE]at h;obtain⟨h,nex,nno⟩:=rV h;cases q:evI w iit τ with
 |ex z=>rw[q]at nex;exact absurd rfl (nex z)
 |no=>rw[q]at nno;exact absurd rfl nno
 |ok ds=>
  rw[q]at h nex nno;simp only[R.out_ok]at h nex nno;refine⟨τ,S,ss.se,?_⟩;rw[q];intro J H1 s1 kW kS;generalize hr:dC itg (λσ=>qe w ib σ) ds τ=r at h nex nno;refine⟨λi m σ' H'=>m=ds.length-i/\i<=ds.length/\∃τ' S',SS g (frozen c (owned iit)) H0 (eP B (owned iit) σ H1) τ' σ' H' S'/\qf (hid H1 S) (hid H' S')/\dC itg (λσ=>qe w ib σ) (ds.drop i) τ'=r,⟨ds.length,rfl,cf _,τ,S,(ss.up s1).froze _,qf.refl _,hr⟩,?_⟩;rintro i m σ' H' ⟨rfl,hi',τ',S',ss',e',hl⟩;have gg:Goes g J ds H' S':=by
   cases hw:owned iit with
   |false=>exact kS hw H' S' e' ss'.se.sub
   |true=>exact kW H' S' (ss'.iced hw) e' ss'.se.sub
  obtain⟨g1,g2⟩:=gg;have eH:qf (hid H S) (hid H' S'):=(qq s1).trans e';by_cases hlt:i<ds.length
  ·have hd:ds[i]? = some ds[i]:=List.getElem?_eq_getElem hlt;obtain⟨go1,go2⟩:=g2 i ds[i] hd;refine .inr ⟨go1,λσ2 H2=>∃τ' S',SS g (frozen c (owned iit)) H0 (eP B (owned iit) σ H1) τ' σ2 H2 S'/\qf (hid H1 S) (hid H2 S')/\dC itg (λσ=>qe w ib σ) (ds.drop (i+1)) τ'=r,λσ2 H2 z=>⟨ds.length-(i+1),by lia,rfl,hlt,z⟩,λx H2 hy=>?_⟩;obtain⟨s2,rx⟩:=go2 x H2 hy;rw[List.drop_eq_getElem_cons hlt]at hl;simp only[dC]at hl;cases q1:store itg ds[i] τ' with
   |ex z=>rw[q1]at hl;exact absurd hl.symm (nex z)
   |no=>rw[q1]at hl;exact absurd hl.symm nno
   |ok τ1=>
    rw[q1]at hl;simp only[R.out_ok]at hl;refine(ss'.up s2).store O.K hf rx q1 λσ1 ss1=>⟨H0,_,τ1,S',ss1,?_⟩
    cases q2:qe w ib τ1 with
    |nx τ2=>rw[q2]at hl;exact λσ2 H3 S3 s3 e3=>⟨τ2,S3,s3,(e'.trans (qq s2)).trans e3,hl⟩
    |ct τ2=>rw[q2]at hl;exact λσ2 H3 S3 s3 e3=>⟨τ2,S3,s3,(e'.trans (qq s2)).trans e3,hl⟩
    |bk τ2=>
     rw[q2]at hl;simp only at hl;rw[<-hl]at h;exact λσ2 H3 S3 s3 e3=>h σ2 H3 S3 ((ss.up s1).thaw s3) ((eH.trans (qq s2)).trans e3)
    |rt d=>
     rw[q2]at hl;simp only at hl;rw[<-hl]at h;refine λv H3 s3 r3 f3=>h v H3 s3 (by rw[wu]at r3;exact r3) λz=>?_
     have f3:=f3 z;unfold eP at f3;split at f3
     ·exact f3
     ·exact f3
    |ex z=>rw[q2]at hl;exact absurd hl.symm (nex z)
    |no=>rw[q2]at hl;exact absurd hl.symm nno
  ·have e:i=ds.length:=by lia
   subst e;rw[List.drop_length]at hl;simp only[dC]at hl;rw[<-hl]at h;exact .inl ⟨g1 ds.length (ay _),h σ' H' S' ((ss.up s1).thaw ss') eH⟩
theorem sS{t:Expr}{b:List Stmt}{it:T}{ib:Ss}{pos:Pos}(ht:PT X.nox t (tT w g c E0 it))(hb:PSs X.nox b (tSs w g c E0 fr ib)):PS X (.While t b [] pos) (tS w g c E fr (.while it ib)):=by
 refine PS.nox' (PS.imp (yb (X:=X.nox) PassesOwn.never ht hb) λD σ H ⟨H0,B,τ,S,ss,h⟩=>?_);simp only[bT,b5,b9,cj,zL,cq,zT,b8,cg,zR,zN,zS,cC,cz,cy,cA,zW,cB,zZ,cx,cF,zE]at h;obtain⟨h,nex,nno⟩:=rV h;generalize hr:dX (λσ=>evT w it σ) (λσ=>qe w ib σ) fu τ=r at h nex nno;refine⟨λm σ' H'=>∃τ' S',SS g c H0 B τ' σ' H' S'/\qf (hid H S) (hid H' S')/\dX (λσ=>evT w it σ) (λσ=>qe w ib σ) m τ'=r,⟨fu,τ,S,ss,qf.refl _,hr⟩,?_⟩;rintro m σ' H' ⟨τ',S',ss',e',hl⟩;cases m with
 |zero=>simp only[dX]at hl;exact absurd hl.symm nno
 |succ m=>
  simp only[dX]at hl;cases q:evT w it τ' with
  |ex z=>rw[q]at hl;exact absurd hl.symm (nex z)
  |no=>rw[q]at hl;exact absurd hl.symm nno
  |ok z=>
   rw[q]at hl;simp only[R.out_ok]at hl;refine⟨τ',S',ss'.se,?_⟩;rw[q];intro H1 s1;cases z with
   |false=>
    simp only[bU,if_false]at hl;rw[if_neg bI];rw[<-hl]at h;exact h σ' H1 S' (ss'.up s1) (e'.trans (qq s1))
   |true=>
    simp only[if_true]at hl;rw[if_pos rfl];refine⟨λσ2 H2=>∃τ' S',SS g c H0 B τ' σ2 H2 S'/\qf (hid H S) (hid H2 S')/\dX (λσ=>evT w it σ) (λσ=>qe w ib σ) m τ'=r,λσ2 H2 z=>⟨m,Nat.lt_succ_self m,z⟩,H0,B,τ',S',ss'.up s1,?_⟩;have e1:=e'.trans (qq (S:=S') s1);cases q2:qe w ib τ' with
    |nx τ2=>rw[q2]at hl;exact λσ2 H3 S3 s3 e3=>⟨τ2,S3,s3,e1.trans e3,hl⟩
    |ct τ2=>rw[q2]at hl;exact λσ2 H3 S3 s3 e3=>⟨τ2,S3,s3,e1.trans e3,hl⟩
    |bk τ2=>
     rw[q2]at hl;simp only at hl;rw[<-hl]at h;exact λσ2 H3 S3 s3 e3=>h σ2 H3 S3 s3 (e1.trans e3)
    |rt d=>rw[q2]at hl;simp only at hl;rw[<-hl]at h;exact h
    |ex z=>rw[q2]at hl;exact absurd hl.symm (nex z)
    |no=>rw[q2]at hl;exact absurd hl.symm nno
theorem yR(O:XS w g c E X)(hc:X.calm=true)(ht:c.thr=true){x:Str}{a:Expr}{as:List Expr}{ies:Es}{np cp pos:Pos}{n:Nat}(h:glob c x=some .exc)(ha:PA X (a::as) (tA w g c E ies))(hes:cEs n c (a::as)=some ies)(hn:(a::as).length<=100000) :
  PS X (.Raise (some (.Call (.Name x np) (a::as) [] cp)) none pos) (tS w g c E fr (.raise x ies)):=by
 obtain⟨C,h1,h2⟩:=O.gm h;have hs:=fK hes;refine PS.imp (EO hc (O.thr ht) (by rw[O.K];exact O.exc x C (zr h).2.1 h2) (O.gl h) h1 ha (zr h).2.2.1 (qg (hs a aJ)) (iy λz hz=>hs z (aK _ hz))) λD σ H ⟨H0,B,τ,S,ss,k⟩=>?_
 simp only[bT,b5,b9,cj,zL,cq,zT,b8,cg,zR,zN,zS,cC,cz,cy,cA,zW,cB,zZ,cx,cF,zE]at k;refine s_a ss k λds vs H1 e1 s1 r k1=>⟨?_,k1 H1 C (ss.same.trans s1) h2⟩
 have:vs.length=ds.length:=(Paired.length r).symm;rw[this,i6 hes e1];exact md hn
end
section
variable{w:W}{g:Gc}{c:Cc}{E:XK}{fr:Bool}{X:Cx}{H0:Hp}{B:Sh}{τ:Env}{σ:L2.St}{H H':Hp}{S:Sh}{Ed:Ends}
theorem wQ{s:Stmt}:PS X s (tS w g c E fr .unk):=λpins s σ H D I ⟨H0,B,τ,S,ss,h⟩=>by
 simp only[bT,b5,b9,cj,zL,cq,zT,b8,cg,zR,zN,zS,cC,cz,cy,cA,zW,cB,zZ,cx,cF,zE]at h;exact h.elim
theorem sH(O:XO w g c E X)(hfz:c.frz=false){x:Str}{i:Nat}{k a:Expr}{ik ia:EV.E}{p ap cp pos:Pos}(h:loc c x=some i)(ho:c.own.contains x=true)(hk:PE X k (tE w g c E ik))(ha:PE X a (tE w g c E ia))(hes:esc ia=true)(hsk:isStar k=false)(hs:isStar a=false)(hl:(ap.endLine==cp.line)=true) :
  PS X (.Expr (.Call (.Attribute (.Name x p) "insert" ap) [k,a] [] cp) pos) (tS w g c E fr (.ins i ik ia)):=by
 obtain⟨h1,h2,h3,h4⟩:=dD h;have hv:PE X (.Name x p) (fk i):=fU (i:=i) (by rw[O.N];exact h1) (by unfold eZ;rw[O.nm];exact h2) h3 h4;have hst:=qg (es:=[]) (env:=X.env) hs;have hst2:=qg (es:=[a]) (env:=X.env) hsk;have hb:=gX (X:=X) (apos:=ap) (cpos:=cp) PySem.F.plainAttrs_list PySem.F.slot_list_insert PySem.F.type_list_insert sT hv (zC hk (zC ha c_ hst) hst2) rfl (by rw[hst2,hst];rfl) hl hst2 (by rw[hst];rfl);refine PS.imp (ju hb rfl) λD σ H ⟨H0,B,τ,S,ss,z⟩=>?_
 simp only[bT,b5,b9,cj,zL,cq,zT,b8,cg,zR,zN,zS,cC,cz,cy,cA,zW,cB,zZ,cx,cF,zE]at z;cases q:zP τ i with
 |ex y=>unfold zP at q;split at q<;>cases q
 |no=>rw[q]at z;exact z.elim
 |ok d0=>
  rw[q]at z;have q':=iN q;have hi:zD c i:=⟨x,h1,ho⟩
  obtain⟨ad,oo,z1,y1,y2,y3⟩:=ss.own i d0 hi q';cases y3 with
  |dic kvs=>exact z.elim
  | @lst ds vs y3=>
  refine⟨_,z1,.inl ⟨rfl,vs,SqL.of y2⟩,s_e ss z λn vn H1 _ p1 k1=>?_⟩;have s1:=ss.up p1.same;refine s_e s1 (bY.up k1 (qq p1.same)) λd v H2 _ p2 k2=>?_
  simp only[iA]at k2;cases n with
  |int j=>
   simp only at k2;split at k2
   ·rename_i hj
    have s2:=s1.up p2.same;have y2':=p2.same _ _ (p1.same _ _ y2);have y3':=(y3.mono (qq p1.same)).mono (qq p2.same);obtain⟨s3,s4⟩:=s2.change (vs:=vs.take j.toNat++v::vs.drop j.toNat) (ds:=ds.take j.toNat++d::ds.drop j.toNat) hfz hi q' z1 ((y3'.take _).append (.cons (p2.st hes) (y3'.drop _)));have hn:=y3.length;exact⟨ad,vs,j,v,rfl,by rw[p1.rb.int],y2',by rw[<-hn,aV];have:=hj.2.2;unfold SZ at this;lia,hj.1,by rw[<-hn];exact hj.2.1,k2 _ _ S s3 ((qq p2.same).trans s4)⟩
   ·exact k2.elim
  |_=>exact k2.elim
theorem SS.cong{c':Cc}(hN:c'.N=c.N)(ho:c'.own=c.own)(hz:c'.frz=c.frz)(s:SS g c H0 B τ σ H S):SS g c' H0 B τ σ H S:=by
 cases c;cases c';simp only at hN ho hz;subst hN ho hz;exact⟨⟨s.se.len,s.se.val,s.se.sub⟩,s.lenN,s.same,s.sub0,s.hd,s.new,s.own,s.inj,s.frz⟩
theorem m_{i:Option Nat}{k:Str}:(dN τ i k).length=τ.length:=by
 cases i<;>simp[dN]
theorem SS.hand{σ':L2.St}{k:Str}{i:Option Nat}(ss:SS g c H0 B τ σ H S)(hz:c.frz=false)(he:c.own=[])(hs:qf H0 H')(hl:σ'.length=c.N.length)(hv:∀(j:Nat) (d:EV.D),(dN τ i k)[j]? = some (some d)->∃v,σ'[j]? = some (some v)/\Rep g (hid H' B) d v) :
  SS g (gZ c) H0 B (dN τ i k) σ' H' ⟨λ_=>false,B.h,B.z,B.y⟩:=by
 have hh:hid H' ⟨λ_=>false,B.h,B.z,B.y⟩=hid H' B:=rfl;have no:∀j,¬ zD (gZ c) j:=λj ⟨x,_,h2⟩=>by
  have h2:c.own.contains x=true:=h2;rw[he]at h2;cases h2
 refine⟨⟨by rw[m_,ss.lenN,hl],λj d h=>?_,λa ha=>?_⟩,by rw[m_];exact ss.lenN,hs,ss.sub0,(λa=>by simp),(λa ha=>by cases ha),λj d hj=>(no j hj).elim,λj _ d _ a hj=>(no j hj).elim,(λz=>by have z:c.frz=true:=z;rw[hz]at z;cases z)⟩
 ·obtain⟨v,h1,h2⟩:=hv j d h;exact⟨v,h1,.inl h2,λ_ _ _=>h2⟩
 ·refine(ss.sub0.same hs) a ?_;rcases ha with ha|ha
  ·exact .inl ha
  ·cases ha
noncomputable def EhT(w:W)(g:Gc)(b:Ss)(τ:Env)(H0:Hp):XK:=λcls o H'=>∃k C,cls=.ref C/\o=none/\g.clA k=some C/\qe w b τ=.ex k/\qf H0 H'
theorem pd{ib:Ss}{x:Str}{i:Option Nat}{ih:Ss}{c':Cc}(hN:c'.N=c.N)(ho:c'.own=c.own)(hz:c'.frz=c.frz)(h:bY g c E fr H0 B H S Ed (evS w (.try ib x i ih) τ)):bY g c' (EhT w g ib τ H0) fr H0 B H S Ed (qe w ib τ):=by
 simp only[bT,b5,b9,cj,zL,cq,zT,b8,cg,zR,zN,zS,cC,cz,cy,cA,zW,cB,zZ,cx,cF,zE]at h;have c1:∀{τ':Env}{σ':L2.St}{H':Hp}{S':Sh},SS g c' H0 B τ' σ' H' S'->SS g c H0 B τ' σ' H' S':=λs=>s.cong hN.symm ho.symm hz.symm
 cases q:qe w ib τ with
 |nx τ'=>rw[q]at h;exact λσ' H' S' s e=>h σ' H' S' (c1 s) e
 |bk τ'=>rw[q]at h;exact λσ' H' S' s e=>h σ' H' S' (c1 s) e
 |ct τ'=>rw[q]at h;exact λσ' H' S' s e=>h σ' H' S' (c1 s) e
 |rt d=>rw[q]at h;exact h
 |ex k=>exact λH' C s hc=>⟨k,C,rfl,rfl,hc,q,s⟩
 |no=>rw[q]at h;exact h
theorem nV{ib ih:Ss}{x:Str}{i:Option Nat}{k:Str}(h:bY g c E fr H0 B H S Ed (evS w (.try ib x i ih) τ))(q:qe w ib τ=.ex k):w.cat k x=true/\∃d,qe w ih (dN τ i k)=.rt d/\∀v H',qf H0 H'->Rep g (hid H' B) d v->(fr=true->bZ d=true->Fr g H0 B H' d v)->Ed.rt v H':=by
 simp only[bT,b5,b9,cj,zL,cq,zT,b8,cg,zR,zN,zS,cC,cz,cy,cA,zW,cB,zZ,cx,cF,zE]at h;rw[q]at h;simp only at h;split at h
 ·rename_i hc
  refine⟨hc,?_⟩;cases z:qe w ih (dN τ i k)with
  |rt d=>rw[z]at h;exact⟨d,rfl,h⟩
  |nx _=>rw[z]at h;exact h.elim
  |bk _=>rw[z]at h;exact h.elim
  |ct _=>rw[z]at h;exact h.elim
  |ex _=>rw[z]at h;exact h.elim
  |no=>rw[z]at h;exact h.elim
 ·exact h.elim
theorem XS.inTry(O:XS w g c E X){Eh:XK}{pn:List (Addr×Obj)}{Et:ae->af->Prop}(hp:Passes (CX1 X.prog X.w) (X.inTry pn Et) Eh):XS w g {c with thr:=false} Eh (X.inTry pn Et):=
 ⟨⟨O.K,O.nm,O.N,O.nd,O.calm,O.units,O.fn,O.kind,hp,O.gok,O.fns,O.sub⟩,(λz=>by cases z),O.exc,O.cat,O.frm,O.gh⟩
theorem XS.held(O:XS w g c E X)(x:Addr):XS w g (gZ c) E0 (X.held x):=
 ⟨⟨O.K,O.nm,O.N,O.nd,(λz=>by cases z),O.units,O.fn,O.kind,k_ rfl rfl,(λy k z=>(O.gh y k z).2 _),(λz=>by cases z),O.sub⟩,(λz=>by cases z),(λy C z _=>absurd rfl (O.gh y .exc z).1),O.cat,O.frm,(λy k z=>by cases z)⟩
theorem yj(O:XS w g c E X){x:Str}{b:List Stmt}{b₀:Stmt}{suite:List Stmt}{ib ih:Ss}{np hpos pos:Pos}(hfz:c.frz=false)(he:c.own=[])(hg:glob c x=some .exc\/glob c x=some .exk)
  (hb:∀(Eh:XK) pn Et,XS w g {c with thr:=false} Eh (X.inTry pn Et)->PSs (X.inTry pn Et) b (tSs w g {c with thr:=false} Eh fr ib)) (hs:∀y,PSs (X.held y) (b₀::suite) (tSs w g (gZ c) E0 fr ih)) :
  PS X (.Try b [.ExceptHandler (some (.Name x np)) none (b₀::suite) hpos] [] [] pos) (tS w g c E fr (.try ib x none ih)):=by
 have hG:∃C,X.mg x=some (.ref C)/\g.clA x=some C/\Gl X x/\(x==("__debug__" : Str))=false:=by
  rcases hg with h|h
  ·obtain⟨C,h1,h2⟩:=O.gm h;exact⟨C,h1,h2,O.gl h,(zr h).2.2.1⟩
  ·obtain⟨C,h1,h2⟩:=O.gm h;exact⟨C,h1,h2,O.gl h,(zr h).2.2.1⟩
 obtain⟨C,hm,hc,hgl,hd⟩:=hG;intro pins s σ H D I ⟨H0,B,τ,S,ss,h⟩;refine uC (Eh:=EhT w g ib τ H0) O.frm.1 O.frm.2.1 O.frm.2.2 hgl hm (λpn Et hp=>hb _ pn Et (O.inTry hp)) hs hd pins s σ H D I ⟨⟨H0,B,τ,S,SS.cong (c:=c) rfl rfl rfl ss,pd (c:=c) rfl rfl rfl h⟩,λσ' cls H' hl hE=>?_⟩;obtain⟨k,C',rfl,_,hk,q,sm⟩:=hE;obtain⟨z1,d,z2,z3⟩:=nV h q;refine⟨by rw[O.K];exact O.cat k x z1 C' C hk hc,H0,B,dN τ none k,⟨λ_=>false,B.h,B.z,B.y⟩,ss.hand hfz he sm (by rw[hl,O.N]) (λj d hj=>?_),?_⟩
 ·simp only[dN,List.getElem?_map]at hj;cases z:τ[j]? with
  |none=>rw[z]at hj;cases hj
  |some o=>rw[z]at hj;cases hj
 ·rw[z2];exact λv H'' s' r f=>z3 v H'' s' r f
theorem An(O:XS w g c E X){x n:Str}{i:Nat}{b:List Stmt}{b₀:Stmt}{suite:List Stmt}{ib ih:Ss}{np hpos pos:Pos}(hfz:c.frz=false)(he:c.own=[])(hg:glob c x=some .exc\/glob c x=some .exk)(hi:c.N[i]? = some n)(hn:c.nm.lookup n=some .local)
  (hb:∀(Eh:XK) pn Et,XS w g {c with thr:=false} Eh (X.inTry pn Et)->PSs (X.inTry pn Et) b (tSs w g {c with thr:=false} Eh fr ib)) (hs:∀y,PSs (X.held y) (b₀::suite) (tSs w g (gZ c) E0 fr ih)) :
  PS X (.Try b [.ExceptHandler (some (.Name x np)) (some n) (b₀::suite) hpos] [] [] pos) (tS w g c E fr (.try ib x (some i) ih)):=by
 have hG:∃C,X.mg x=some (.ref C)/\g.clA x=some C/\Gl X x/\(x==("__debug__" : Str))=false:=by
  rcases hg with h|h
  ·obtain⟨C,h1,h2⟩:=O.gm h;exact⟨C,h1,h2,O.gl h,(zr h).2.2.1⟩
  ·obtain⟨C,h1,h2⟩:=O.gm h;exact⟨C,h1,h2,O.gl h,(zr h).2.2.1⟩
 obtain⟨C,hm,hc,hgl,hd⟩:=hG;intro pins s σ H D I ⟨H0,B,τ,S,ss,h⟩;have hlt:i<c.N.length:=(List.getElem?_eq_some_iff.mp hi).1;refine CO (Eh:=EhT w g ib τ H0) (i:=i) O.frm.1 O.frm.2.1 O.frm.2.2 (by rw[O.N];exact O.nd) (by rw[O.N];exact hi) (by rw[O.nm];exact hn) hgl hm (λpn Et hp=>hb _ pn Et (O.inTry hp)) hs hd pins s σ H D I ⟨⟨H0,B,τ,S,SS.cong (c:=c) rfl rfl rfl ss,pd (c:=c) rfl rfl rfl h⟩,λσ' cls H' x' hl hE hx=>?_⟩;obtain⟨k,C',rfl,_,hk,q,sm⟩:=hE;obtain⟨z1,d,z2,z3⟩:=nV h q;have s2:qf H' (upd H' x' (gJ x' (.ref C'))):=zg hx;refine⟨by rw[O.K];exact O.cat k x z1 C' C hk hc,H0,B,dN τ (some i) k,⟨λ_=>false,B.h,B.z,B.y⟩,ss.hand hfz he (sm.trans s2) (by rw[List.length_set,hl,O.N]) (λj d hj=>?_),?_⟩
 ·simp only[dN]at hj;have hi':i<σ'.length:=by rw[hl,O.N];exact hlt
  by_cases hij:i=j
  ·subst hij;have hlt':i<(τ.map λ_=>(none:Option EV.D)).length:=by rw[aF,ss.lenN];exact hlt
   rw[List.getElem?_set_self hlt']at hj;cases hj;refine⟨.ref x',by rw[List.getElem?_set_self hi'],.exn hk (bx.mpr ⟨ss.sub0.free (sm.free hx),zy⟩)⟩
  ·rw[List.getElem?_set_ne hij,List.getElem?_map]at hj;cases z:τ[j]? with
   |none=>rw[z]at hj;cases hj
   |some o=>rw[z]at hj;cases hj
 ·rw[z2];exact λv H'' s' r f=>z3 v H'' s' r f
end
theorem wU{e:Expr}{x:Str}{ap cp:Pos}{k a:Expr}(h:j_ e=some (x,ap,k,a,cp)):∃p,e=.Call (.Attribute (.Name x p) "insert" ap) [k,a] [] cp:=by
 unfold j_ at h;split at h
 ·split at h
  ·split at h
   ·split at h
    ·split at h
     ·rename_i hk
      simp only[aI,List.isEmpty_iff,beq_iff_eq]at hk;obtain⟨rfl,rfl⟩:=hk;cases h;exact⟨_,rfl⟩
     ·cases h
    ·cases h
   ·cases h
  ·cases h
 ·cases h
theorem tF{ts:List Expr}{k:Nat}{p:Pos}{e:Expr}{env:PySem.Env}(h:isTup e=true->lJ e=true):swappedStores [.Tuple ts k p] e env=pure none:=by
 cases e<;>first|rfl|skip
 rename_i vs k2 p2
 have h:vs.all (foldedForSure 8)=true:=h rfl;unfold swappedStores;simp only[h,if_true];split
 ·rfl
 ·split
  ·rfl
  ·split
   ·rfl
   ·rfl
section
variable{w:W}{g:Gc}{c:Cc}{E:XK}{fr:Bool}{X:Cx}
theorem Ek{n:Nat}{c:Cc}{elt:Expr}{gs:List cb}{sc:aO}{p:Pos}{ie:EV.E}(h:cE n c (.ListComp elt gs sc p)=some ie)(htw:i0 (.ListComp elt gs sc p)=false):gL c ie=ie:=by
 match n,h with
 | 0,h=>cases h
 |m+1,h=>
  obtain⟨tgt,it,ifs,iit,itg,it',ie',rfl,hs1,hk1,h1,h2,h3,h4,he,rfl⟩:=mm h
  rfl
theorem v_(O:XO w g c E X){n:Nat}(hn:n<=100000){x:Str}{i:Nat}{elt:Expr}{gs:List cb}{sc:aO}{p p' pos:Pos}{ie:EV.E}(hl:de c x=some i)(h:cE n c (.ListComp elt gs sc p)=some ie)(htw:i0 (.ListComp elt gs sc p)=false)(hk:(zD c i/\fresh c ie=true/\c.frz=false)\/(¬ zD c i/\esc ie=true)) :
  PS X (.Assign [.Name x p'] (.ListComp elt gs sc p) pos) (tS w g c E fr (.set (.nm i) ie)):=by
 obtain⟨l1,l2⟩:=ee hl;obtain⟨l3,_⟩:=dD l1;have hlt:i<c.N.length:=(List.getElem?_eq_some_iff.mp l3).1;have hN:X.N.Nodup:=by rw[O.N];exact O.nd
 have hix:X.N[i]? = some x:=by rw[O.N];exact l3
 have hx:L2.Loc X.env.scope x:=by unfold L2.Loc;rw[O.nm];rcases l2 with z|z;exact .inl z;exact .inr z.1
 have hf:X.fn x=true\/X.env.scope.names.lookup x=some .local:=by
  rcases l2 with z|z
  ·exact .inr (by rw[O.nm];exact z)
  ·exact .inl (O.fn x z.2)
 cases hb:(X.env.blockKind==.function&&X.env.kindOf x==some .local&&p'.line==p.line && !(sc.names.any λ(n,k)=>n==x&&(k==.local||k==.cell)))with
 |false=>
  have hs:swapsWith (.ListComp elt gs sc p) (some (.Name x p')) pos.line X.env=pure false:=by rw[<-hb];rfl
  exact kr (e:=.ListComp elt gs sc p) (lN hN hix hx ((snd n hn).e O h) hs hf) (λ_ _ _ z=>z) hlt hk
 |true=>
  have hs:swapsWith (.ListComp elt gs sc p) (some (.Name x p')) pos.line X.env=pure true:=by rw[<-hb];rfl
  match n,h with
  | 0,h=>cases h
  |m+1,h=>
   have ih:=snd (w:=w) (g:=g) m (Nat.le_of_succ_le hn);obtain⟨tgt,it,ifs,iit,itg,it',ie',rfl,hs1,hk1,h1,h2,h3,h4,he,rfl⟩:=mm h;have hS:dW X (b6 sc.names) (hJ c sc.names) sc:=dW.of (by
    have e1:(λx=>c.nm.lookup x)=X.env.kindOf:=by funext x;show _=X.env.scope.names.lookup x;rw[O.nm]
    rw[<-e1,O.N];exact hk1.1)
   refine kr (e:=.ListComp elt [⟨tgt,it,ifs,0⟩] sc p) (xu (tb:=λacc=>jn acc (tE w g (dJ c sc) E0 ie')) hN hix hx (O.calm hs1.1) hS (ih.i O h1 he.2) (λcl C s₀ H₀ fp=>?_) (by simp) hs hf (λx=>by
    have q:=hs1.2;cases it<;>first|rfl|cases q)) (λσ H Q q=>rX O hS he.1 q) hlt hk
   have OY:=O.comp hS.kind hk1.2 cl C s₀ H₀ fp;exact⟨jh OY h2,ih.ifs OY h3,λacc=>p7 rfl (ih.e OY h4)⟩
end
structure iI(w:W)(g:Gc)(n:Nat):Prop where
 s:∀{c:Cc}{E:XK}{X:Cx} (O:XS w g c E X) {fr:Bool}{x:Stmt}{ir:EV.S},cS n c fr x=some ir->PS X x (tS w g c E fr ir)
 ss:∀{c:Cc}{E:XK}{X:Cx} (O:XS w g c E X) {fr:Bool}{x:List Stmt}{ir:Ss},cSs n c fr x=some ir->PSs X x (tSs w g c E fr ir)
section
variable{w:W}{g:Gc}{n:Nat}
theorem iI.ss_succ(ih:iI w g n){c:Cc}{E:XK}{X:Cx}(O:XS w g c E X){fr:Bool}{x:List Stmt}{ir:Ss}(h:cSs (n+1) c fr x=some ir):PSs X x (tSs w g c E fr ir):=by
 match x with
 | []=>simp only[cSs,b_]at h;subst h;exact xC
 |s::r=>
  simp only[cSs,aE,aB]at h;obtain⟨ir',h2,h⟩:=h;cases h;cases h1:cS n c fr s with
  |none=>exact rO wQ (ih.ss O h2)
  |some is=>exact rO (ih.s O h1) (ih.ss O h2)
theorem Ai{c:Cc}{x:Str}{i:Nat}(h:c.N[i]? = some x):zD c i↔c.own.contains x=true:=⟨λ⟨y,h1,h2⟩=>by rw[h]at h1;cases h1;exact h2,λh2=>⟨x,h,h2⟩⟩
theorem Cp{e:Expr}{x m:Str}{ap cp:Pos}{a:Expr}(h:kO e=some (x,m,ap,a,cp)):∃p,e=.Call (.Attribute (.Name x p) m ap) [a] [] cp:=by
 unfold kO at h;split at h
 ·split at h
  ·split at h
   ·split at h
    ·split at h
     ·rename_i hk;cases h;rw[List.isEmpty_iff]at hk;subst hk;exact⟨_,rfl⟩
     ·cases h
    ·cases h
   ·cases h
  ·cases h
 ·cases h
theorem tM{e:Expr}{x:Str}{ap cp:Pos}(h:mv e=some (x,ap,cp)):∃p k q,e=.Call (.Attribute (.Name x p) "pop" ap) [.Constant (.int 0) k q] [] cp:=by
 unfold mv at h;split at h
 ·split at h
  ·split at h
   ·split at h
    ·split at h
     ·split at h
      ·split at h
       ·rename_i hk
        simp only[aI,List.isEmpty_iff,beq_iff_eq,decide_eq_true_eq]at hk;obtain⟨⟨rfl,rfl⟩,rfl⟩:=hk;cases h;exact⟨_,_,_,rfl⟩
       ·cases h
      ·cases h
     ·cases h
    ·cases h
   ·cases h
  ·cases h
 ·cases h
theorem BE{e:Expr}{x:Str}{a:Expr}{as:List Expr}(h:raiseOf e=some (x,a,as)):∃p q,e=.Call (.Name x p) (a::as) [] q:=by
 unfold raiseOf at h;split at h
 ·split at h
  ·split at h
   ·split at h
    ·rename_i hk;cases h;rw[List.isEmpty_iff]at hk;subst hk;exact⟨_,_,rfl⟩
    ·cases h
   ·cases h
  ·cases h
 ·cases h
theorem iI.s_succ(ih:iI w g n)(hn:n<=100000){c:Cc}{E:XK}{X:Cx}(O:XS w g c E X){fr:Bool}{x:Stmt}{ir:EV.S}(h:cS (n+1) c fr x=some ir):PS X x (tS w g c E fr ir):=by
 have K:=snd (w:=w) (g:=g) n hn;unfold cS at h;split at h
 ·rename_i ts0 e pos
  split at h
  ·rename_i t0
   split at h
   ·-- x = e
    rename_i y p
    split at h
    ·rename_i hp
     obtain⟨p0,k0,q0,rfl⟩:=tM hp;simp only[aE,aB]at h;obtain⟨i,hl,j,hj,h⟩:=h;split at h
     ·rename_i hc
      simp only[aI,bq]at hc;cases h;obtain⟨⟨⟨c1,c2⟩,c3⟩,c4⟩:=hc;exact tf O.toXO c4 hl hj c2 c1 (by simpa using c3)
     ·cases h
    split at h
    ·cases h
    rename_i htw
    have htw:i0 e=false:=by simpa using htw
    simp only[aE,aB]at h;obtain⟨i,hl,ie,h1,h⟩:=h;obtain⟨l1,l2⟩:=ee hl;obtain⟨l3,_⟩:=dD l1;have ho:=Ai l3;have hk:∃ig,((zD c i/\fresh c ig=true/\c.frz=false)\/(¬ zD c i/\esc ig=true))/\ir=.set (.nm i) ig/\(ig=ie\/ig=gL c ie):=by
     split at h
     ·rename_i hy
      split at h
      ·rename_i hf;cases h;exact⟨_,.inl ⟨ho.mpr hy,by simpa using hf⟩,rfl,.inr rfl⟩
      ·cases h
     ·rename_i hy
      split at h
      ·rename_i hf;cases h;exact⟨_,.inr ⟨λz=>hy (ho.mp z),hf⟩,rfl,.inl rfl⟩
      ·cases h
    obtain⟨ig,hk,rfl,hig⟩:=hk;have hE:PE X e (tE w g c E ig):=by
     rcases hig with rfl|rfl
     ·exact K.e O.toXO h1
     ·exact EN (K.e O.toXO h1)
    cases hc:eV e with
    |false=>
     refine kr (e:=e) (lN (i:=i) (by rw[O.N];exact O.nd) (by rw[O.N];exact l3) (by unfold L2.Loc;rw[O.nm];rcases l2 with z|z;exact .inl z;exact .inr z.1) hE (iW hc) ?_) (λ_ _ _ z=>z) (List.getElem?_eq_some_iff.mp l3).1 hk;rcases l2 with z|z
     ·exact .inr (by rw[O.nm];exact z)
     ·exact .inl (O.fn y z.2)
    |true=>
     cases e with
     |ListComp elt gs sc p=>
      have eg:ig=ie:=by
       rcases hig with z|z
       ·exact z
       ·rw[z];exact Ek h1 htw
      subst eg;exact v_ O.toXO hn hl h1 htw hk
     |SetComp elt gs sc p=>match n,h1 with
      | 0,h1=>cases h1
      |m+1,h1=>cases h1
     |DictComp a b gs sc p=>match n,h1 with
      | 0,h1=>cases h1
      |m+1,h1=>cases h1
     |_=>cases hc
   ·-- (a, b) = e
    rename_i ts k p
    simp only[aE,aB]at h;obtain⟨tg,h1,ie,h2,h⟩:=h;split at h
    ·cases h
    ·rename_i hc
     have hc:((isTup e=true->lJ e=true)/\eV e=false)/\esc ie=true:=by simpa using hc
     cases h;refine w9 O.toXO (K.e O.toXO h2) (jh O.toXO h1) (p_ h1) hc.2 (by simp only[swapsWithSole];exact iW hc.1.2) ?_ rfl;exact tF hc.1.1
   ·-- x[k] = e
    split at h
    ·simp only[aE,aB]at h;obtain⟨i,hl,ie,h1,ik,h2,h⟩:=h;split at h
     ·rename_i hc
      simp only[aI,bq]at hc;cases h;exact uY O.toXO hc.2 (ee hl).1 hc.1.1.1.1 (K.e O.toXO h2) (K.e O.toXO h1) hc.1.1.1.2 hc.1.1.2 hc.1.2
     ·cases h
    ·cases h
   ·cases h
  ·cases h
 ·split at h
  ·-- x.insert(k, a)
   rename_i he
   obtain⟨p,rfl⟩:=wU he;simp only[aE,aB]at h;obtain⟨i,hl,ik,h0,ia,h1,h⟩:=h;split at h
   ·rename_i hc
    simp only[aI,bq,beq_iff_eq]at hc;cases h;obtain⟨⟨⟨⟨⟨c2,c3⟩,c4⟩,c5⟩,c6⟩,c7⟩:=hc;exact sH O.toXO c7 (ee hl).1 c2 (K.e O.toXO h0) (K.e O.toXO h1) c3 c4 c5 (by simpa using c6)
   ·cases h
  split at h
  ·-- x.append(a)
   rename_i he
   obtain⟨p,rfl⟩:=Cp he;simp only[aE,aB]at h;obtain⟨i,hl,ia,h1,h⟩:=h;split at h
   ·rename_i hm
    have hm:=eq_of_beq hm;subst hm;split at h
    ·rename_i hc
     simp only[aI,bq]at hc;cases h;obtain⟨⟨⟨⟨c2,c3⟩,c4⟩,c5⟩,c6⟩:=hc;exact Ae O.toXO c6 (ee hl).1 c2 (K.e O.toXO h1) c3 c4 (by simpa using c5)
    ·cases h
   split at h
   ·rename_i hm
    have hm:=eq_of_beq hm;subst hm;split at h
    ·rename_i hc
     simp only[aI,bq]at hc;cases h;obtain⟨⟨⟨⟨c2,c3⟩,c4⟩,c5⟩,c6⟩:=hc;exact tB O.toXO c6 (ee hl).1 c2 (K.e O.toXO h1) c3 c4 (by simpa using c5)
    ·cases h
   split at h
   ·rename_i hc
    simp only[aI,bq,beq_iff_eq]at hc;cases h;obtain⟨⟨⟨⟨⟨rfl,c2⟩,c3⟩,c4⟩,c5⟩,c6⟩:=hc;exact sD O.toXO c6 (ee hl).1 c2 (K.e O.toXO h1) c3 c4 (by simpa using c5)
   ·cases h
  ·split at h
   ·cases h
   ·rename_i hc
    simp only[aE,aB]at h;obtain⟨ie,h1,h⟩:=h;cases h;exact BO (K.e O.toXO h1) (by simpa using hc)
 ·split at h
  ·-- return e
   rename_i e
   simp only[aE,aB]at h;obtain⟨ie,h1,h⟩:=h;split at h
   ·rename_i hf
    split at h
    ·rename_i y p
     split at h
     ·rename_i ho
      simp only[bz]at h;obtain⟨i,hl,rfl⟩:=h;exact DH O.toXO hl ho
     ·cases h
    ·split at h
     ·rename_i hfr
      cases h;exact pZ (K.e O.toXO h1) λ_=>hfr
     ·cases h;exact EI (K.e O.toXO h1)
   ·rename_i hf
    cases h;exact pZ (K.e O.toXO h1) λz=>absurd z hf
  ·split at h
   ·cases h
   ·rename_i hf
    cases h;exact Dv (by simpa using hf)
 ·simp only[aE,aB]at h;obtain⟨it,h1,ia,h2,ib,h3,h⟩:=h;cases h;exact ya (K.t O.toXO h1) (ih.ss O h2) (ih.ss O h3)
 ·split at h
  ·cases h
  ·rename_i tg0 it0 b0 els0 pos0 hc
   have hc:(els0=[]/\c.calm=true)/\zG it0=true:=by simpa using hc
   obtain⟨⟨rfl,hc1⟩,hc2⟩:=hc;simp only[aE,aB]at h;obtain⟨tg,h1,it,h2,h⟩:=h;split at h
   ·cases h
   ·rename_i ho
    have ho:gN it tg0=true:=by simpa using ho
    simp only[aB]at h;obtain⟨ib,h3,h⟩:=h;cases h;exact BJ O.toXO (O.calm hc1) (K.i O.toXO.nox h2 ho) (jh O.toXO.nox h1) (p_ h1) (ih.ss O.nox.froze h3) hc2
 ·split at h
  ·cases h
  ·rename_i els0 _ hc
   have hc:els0=[]/\c.calm=true:=by simpa using hc
   obtain⟨rfl,hc⟩:=hc;simp only[aE,aB]at h;obtain⟨it,h1,ib,h2,h⟩:=h;cases h;exact sS (K.t O.toXO.nox h1) (ih.ss O.nox h2)
 ·split at h
  ·split at h
   ·rename_i hr
    obtain⟨p0,q0,rfl⟩:=BE hr;split at h
    ·cases h
    ·rename_i hc
     simp only[bP,bq,not_or,Bool.not_eq_false,Option.isNone_iff_eq_none]at hc;obtain⟨⟨rfl,hc1⟩,hc2⟩:=hc;split at h
     ·rename_i hg
      simp only[aE,aB]at h;obtain⟨ies,h1,h⟩:=h;cases h;exact yR O (O.calm hc1) hc2 hg (K.es O.toXO h1) h1 (a_ (jr h1) hn)
     ·cases h
   ·cases h
  ·cases h
 ·-- try
  split at h
  ·split at h
   ·rename_i b0 els0 fin0 pos0 hs0 y0 h0 hp0 ty0 x0 np0
    split at h
    ·cases h
    ·rename_i hc
     have hc:((((((els0=[]/\fin0=[])/\c.calm=true)/\c.fnc=true)/\h0≠[])/\c.own=[])/\c.frz=false):=by simpa using hc
     obtain⟨⟨⟨⟨⟨⟨rfl,rfl⟩,hc1⟩,hc2⟩,hc3⟩,hc4⟩,hc5⟩:=hc;simp only[aE,aB]at h;obtain⟨ib,h1,ihd,h2,h⟩:=h;split at h
     ·cases h
     ·rename_i hg
      have hg:glob c x0=some .exc\/glob c x0=some .exk:=by
       by_cases z:glob c x0=some .exc
       ·exact .inl z
       ·exact .inr (by simpa[z]using hg)
      match h0,hc3,h2 with
      | [],hc3,_=>exact absurd rfl hc3
      |b₀::suite,_,h2=>
       split at h
       ·cases h;exact yj O hc5 hc4 hg (λEh pn Et O'=>ih.ss O' h1) (λy=>ih.ss (O.held y) h2)
       ·simp only[aB]at h;obtain⟨i,hl,h⟩:=h;split at h
        ·rename_i hn
         cases h;exact An O hc5 hc4 hg (dD (ee hl).1).1 (by simpa using hn) (λEh pn Et O'=>ih.ss O' h1) (λy=>ih.ss (O.held y) h2)
        ·cases h
   ·cases h
  ·cases h
 ·cases h;exact vq
 ·cases h;exact Bl
 ·cases h;exact yT
 ·cases h
theorem nq:∀n,n<=100000->iI w g n
 | 0,_=>⟨λ_ _ _ _ h=>(by cases h),λ_ _ _ _ h=>by simp[cSs]at h⟩
 |n+1,h=>
  have ih:=nq n (Nat.le_of_succ_le h)
  ⟨λO _ _ _ q=>ih.s_succ (Nat.le_of_succ_le h) O q,λO _ _ _ q=>ih.ss_succ O q⟩
end
section
variable{w:W}{g:Gc}{c:Cc}{E:XK}{fr:Bool}{X:Cx}{H0:Hp}{B:Sh}{τ:Env}{σ:L2.St}{H H':Hp}{S:Sh}{n:Nat}
noncomputable def kC(g:Gc)(E:XK)(fr:Bool)(H0:Hp)(B:Sh)(D:Ends):O->Prop
 | .nx _=>∀σ' H',qf H0 H'->D.nx σ' H'
 | .rt d=>∀v H',qf H0 H'->Rep g (hid H' B) d v->(fr=true->bZ d=true->Fr g H0 B H' d v)->D.rt v H'
 | .ex k=>∀H' C,qf H0 H'->g.clA k=some C->E (.ref C) none H'
 |_=>False
theorem kC.out{D:Ends}{o:O}(h:kC g E fr H0 B D o):bY g c E fr H0 B H S D o:=by
 cases o with
 |nx t=>exact λσ' H' S' ss _=>h σ' H' ss.same
 |rt d=>exact h
 |ex k=>exact h
 |bk t=>exact h.elim
 |ct t=>exact h.elim
 |no=>exact h.elim
noncomputable def CQ(w:W)(g:Gc)(c:Cc)(E:XK)(fr:Bool)(s:Ss):TS:=λD σ H=>∃H0 B τ S,SS g c H0 B τ σ H S/\kC g E fr H0 B D (qe w s τ)
theorem vv(hn:n<=100000)(O:XS w g c E X){x:List Stmt}{ir:Ss}(h:gE n c fr x=some ir):PSs X x (CQ w g c E fr ir):=
 PSs.imp ((nq n hn).ss O h) λD σ H ⟨H0,B,τ,S,ss,z⟩=>⟨H0,B,τ,S,ss,z.out⟩
end
noncomputable def GM0(p:Pr)(g:Gc)(mg:Str->Option ae)(x:Str):GK->Prop
 | .fn _=>∃f,g.fnA x=some f
 | .val=>∃u v d,mg x=some u/\RelV v u/\p.glb x=some d/\∀H,Rep g H d v
 | .bi b=>mg x=none/\x=b1N b/\∃id,b1V b=.builtin id
 | .rng=>mg x=none/\x = "range"
 | .enum=>mg x=none/\x = "enumerate"
 | .zip=>mg x=none/\x = "zip"
 | .isi=>mg x=none/\x = "isinstance"
 | .ty n b=>mg x=none/\bG x=some (.type n)/\(n∈["int","bool","str","list","tuple"]\/n = "ValueError")/\∀b',b=some b'->x=b1N b'/\b1V b'=.type n
 | .exc=>∃C,mg x=some (.ref C)/\g.clA x=some C/\lb g.K C
 | .exk=>∃C,mg x=some (.ref C)/\g.clA x=some C
 | .set=>mg x=none/\bG x=some (.type "set")
 | .rvd=>mg x=none/\x = "reversed"
structure Ground(p:Pr)(g:Gc)(G GH GU:List (Str×GK))(mg:Str->Option ae):Prop where
 fn:∀x f,g.fnA x=some f->∃st own fr fd fnn,p.fns x=some fnn/\cFn G GH own fr st=some fnn/\Fun g.K x x st f fd/\Binds g.K fd (argNames (za st)) []/\cJ g.K (.ref f)=true/\mg x=some (.ref f)/\G.lookup x=some (.fn fr)
 gl:∀x k,G.lookup x=some k->GM0 p g mg x k
 gu:∀x k,GU.lookup x=some k->(∀fr,k≠.fn fr)/\k≠.exc/\GM0 p g mg x k
 gh:∀x k,GH.lookup x=some k->GU.lookup x=some k\/∃fr f st own fd fnn,k=.fn fr/\g.fnA x=some f/\p.fns x=some fnn/\hV GU own fr st=some fnn/\Fun g.K x x st f fd/\Binds g.K fd (argNames (za st)) []/\cJ g.K (.ref f)=true/\mg x=some (.ref f)
 sub:∀k cl b,p.sub k cl=some b->∃C cv,g.clA k=some C/\cL g.K C/\bh g.K (.ref C) cv=some b/\match cl with
  | .ty n=>n = "ValueError"/\cv=.type n
  | .ex x=>∃D,g.clA x=some D/\cv=.ref D
 cat:∀k x,p.cat k x=true->∀C D,g.clA k=some C->g.clA x=some D->bE g.K (.ref C) (.ref D)=some true
abbrev wAt(p:Pr)(k:Nat):W:=⟨qa p k,p.glb,p.sub,p.cat⟩
theorem mJ{N ps:List Str}{sc:aO}(h:gM N ps sc=true):gb N ps sc:=by
 unfold gM at h;simp only[aI,beq_iff_eq,bq,decide_eq_true_eq,List.all_eq_true,bP,bne_iff_ne,ne_eq]at h;obtain⟨⟨⟨⟨⟨⟨h1,h2⟩,h3⟩,h4⟩,h5⟩,h6⟩,h7⟩:=h;exact⟨h1,h2,h3,h4,h5,h6,h7⟩
theorem yw{G GH:List (Str×GK)}{own:List Str}{fr:Bool}{st:Stmt}{fnn:Fn}(h:cFn G GH own fr st=some fnn):gM (eI (za st) (qZ st)) (argNames (za st)) (qZ st)=true/\(argNames (za st)).any own.contains=false /\
  ∃b,gE iJ ⟨(qZ st).names,eI (za st) (qZ st),own,G,true,true,true,GH,[],false⟩ fr (dE st)=some b/\fnn=⟨(argNames (za st)).length,(eI (za st) (qZ st)).length,fr,b⟩:=by
 unfold cFn at h;dsimp only at h;split at h
 ·cases h
 ·rename_i hc
  simp only[bP,bq,not_or,Bool.not_eq_false,Bool.not_eq_true]at hc;simp only[aE,aB,b_]at h;obtain⟨b,h1,h2⟩:=h;exact⟨hc.1,hc.2,b,h1,h2.symm⟩
theorem xO{GU:List (Str×GK)}{own:List Str}{fr:Bool}{st:Stmt}{fnn:Fn}(h:hV GU own fr st=some fnn):gM (eI (za st) (qZ st)) (argNames (za st)) (qZ st)=true/\(argNames (za st)).any own.contains=false /\
  ∃b,gE iJ ⟨(qZ st).names,eI (za st) (qZ st),own,GU,false,true,false,[],[],false⟩ fr (dE st)=some b/\fnn=⟨(argNames (za st)).length,(eI (za st) (qZ st)).length,fr,b⟩:=by
 unfold hV at h;dsimp only at h;split at h
 ·cases h
 ·rename_i hc
  simp only[bP,bq,not_or,Bool.not_eq_false,Bool.not_eq_true]at hc;simp only[aE,aB,b_]at h;obtain⟨b,h1,h2⟩:=h;exact⟨hc.1,hc.2,b,h1,h2.symm⟩
section
variable{P:aw}{w:au}{K:aq}{mg:Str->Option ae}{base:Heap}{N:List Str}{qual:Str}{scope:aO}{f:Addr}{cd:ae}{A:ax}{outer:List PySem.Env}{s₀:af}{H₀:Hp}{E:XK}
theorem x4:Passes (CX1 P w) (fZ (CX1 P w) P w K mg base N qual scope f cd A outer s₀ H₀ E) E:=by
 intro pins σ H s e s' I h;obtain⟨x,cls,H',rfl,I',F,q⟩:=jT rfl rfl I rfl h;exact b7.leaves (env:=(fZ (CX1 P w) P w K mg base N qual scope f cd A outer s₀ H₀ E).env) (outer:=outer) I' rfl rfl rfl F q
end
theorem GM0.gm{p:Pr}{g:Gc}{mg:Str->Option ae}{x:Str}{k:GK}{P:aw}{wl:au}{base:Heap}{A:ax}{calm:Bool}{n:Nat}(h:GM0 p g mg x k)(hf:∀fr,k≠.fn fr):GM (wAt p n) g P wl mg base A calm x k:=by
 cases k with
 |fn fr'=>exact absurd rfl (hf fr')
 |exc=>obtain⟨C,h1,h2,_⟩:=h;exact⟨C,h1,h2⟩
 |val=>exact h
 |bi b=>exact h
 |rng=>exact h
 |enum=>exact h
 |zip=>exact h
 |isi=>exact h
 |ty n b=>exact h
 |exk=>exact h
 |set=>exact h
 |rvd=>exact h
theorem rK{w:W}{g:Gc}{c:Cc}{E:XK}{X:Cx}{N ps own:List Str}{sc:aO}{fr:Bool}{body:List Stmt}{b:Ss}(hcN:c.N=N)(hco:c.own=own)(hcz:c.frz=false)(FS:gb N ps sc)(c2:ps.any own.contains=false)(c3:gE iJ c fr body=some b)
  (O:XS w g c E X) {vs:List V}{ds:List D}{B:Sh}{H:Hp}{Q:VK} (hB:Sub B H) (rv:zb g (hid H B) ds vs) (hl:ds.length=ps.length)
  (h:tR g E H (match qe w b (ds.map some++aZ (N.length-ps.length) none)with
   | .nx _=>if fr then .no else .ok .non
   | .rt d=>.ok d
   | .ex c=>.ex c
   |_=>.no) (λd=>∀v H',qf H H'->Rep g (hid H' B) d v->(fr=true->bZ d=true->Fr g H B H' d v)->Q v H')) :
  ∃t,PSs X body t/\t {nx:=λ_ H'=>Q .non H',rt:=Q} (start N vs) H:=by
 have hNl:ps.length<=N.length:=by have:=congrArg List.length FS.pre;rw[List.length_take]at this;lia
 refine⟨_,vv (by decide) O c3,H,B,ds.map some++aZ (N.length-ps.length) none,⟨λ_=>false,B.h,B.z,B.y⟩,?_,?_⟩
 ·-- at the start
  have hh:hid H ⟨λ_=>false,B.h,B.z,B.y⟩=hid H B:=rfl;have hvl:=rv.length;have par:∀i d,(ds.map some++aZ (N.length-ps.length) none)[i]? = some (some d)->i<ps.length/\ds[i]? = some d:=λi d hi=>by
   by_cases hlt:i<ds.length
   ·rw[List.getElem?_append_left (by simpa using hlt),List.getElem?_map]at hi;refine⟨by lia,?_⟩;cases q:ds[i]? with
    |none=>rw[q]at hi;cases hi
    |some e=>rw[q]at hi;simpa using hi
   ·rw[List.getElem?_append_right (by simpa using hlt)]at hi;rw[List.getElem?_replicate]at hi;split at hi<;>cases hi
  have noOwn:∀i d,zD c i->(ds.map some++aZ (N.length-ps.length) none)[i]? = some (some d)->False:=λi d ⟨y,h1,h2⟩ hi=>by
   obtain⟨hlt,_⟩:=par i d hi;rw[hcN]at h1;rw[hco]at h2;have:N.take ps.length=ps:=FS.pre;have hy:ps[i]? = some y:=by
    rw[<-this,List.getElem?_take,if_pos hlt];exact h1
   have:=List.any_eq_false.mp c2 y (List.mem_of_getElem? hy);exact this h2
  refine⟨⟨by simp[L2.start];lia,λi d hi=>?_,λa ha=>?_⟩,by simp[hcN];lia,qf.refl _,hB,(λa=>by simp),(λa ha=>by cases ha),(λi d ho hi=>(noOwn i d ho hi).elim),λi j d e a ho _ hi _ _ _=>(noOwn i d ho hi).elim,λz=>by rw[hcz]at z;cases z⟩
  ·obtain⟨hlt,hd⟩:=par i d hi;obtain⟨v,h1,h2⟩:=rv.get hd;have hlt':i<vs.length:=by lia
   refine⟨v,?_,.inl h2,λ_ _ _=>h2⟩;unfold L2.start;rw[List.getElem?_append_left (by simpa using hlt'),List.getElem?_map,h1]
   rfl
  ·refine hB a ?_;rcases ha with ha|ha
   ·exact .inl ha
   ·cases ha
 ·-- at the end
  cases q:qe w b (ds.map some++aZ (N.length-ps.length) none)with
  |nx τ'=>
   rw[q]at h;simp only at h;cases fr with
   |true=>exact h.elim
   |false=>exact λσ' H' hs=>h .non H' hs .non (by intro z;cases z)
  |rt d=>rw[q]at h;exact h
  |ex z=>rw[q]at h;exact h
  |bk z=>rw[q]at h;exact h.elim
  |ct z=>rw[q]at h;exact h.elim
  |no=>rw[q]at h;exact h.elim
section
variable{p:Pr}{g:Gc}{G GH GU:List (Str×GK)}{mg:Str->Option ae}{P:aw}{wl:au}{base:Heap}
theorem Ground.okU(T:Ground p g G GH GU mg):∀(k:Nat) (x:Str) (f:Addr) (st:Stmt) (own:List Str) (fr:Bool) (fd:bC) (fnn:Fn),p.fns x=some fnn->hV GU own fr st=some fnn->Fun g.K x x st f fd ->
  iS P wl g.K mg base (CX1 P wl) k f fd (argNames (za st)) (spF (wAt p k) g x fr)
 | 0,x,f,st,own,fr,fd,fnn,_,_,_=>⟨λvs H Q E ⟨S,ds,_,_,h⟩=>h.elim,λA outer s H args us vs Q E _ _ _ _ ⟨S,ds,_,_,h⟩=>h.elim⟩
 |k+1,x,f,st,own,fr,fd,fnn,hf,hc,F=>by
  obtain⟨c1,c2,b,c3,rfl⟩:=xO hc;have FS:=mJ c1;generalize hN:eI (za st) (qZ st)=N at *;generalize hps:argNames (za st)=ps at *;have call:∀ds,qa p (k+1) x ds=zF (wAt p k) ⟨ps.length,N.length,fr,b⟩ ds:=λds=>by simp only[qa,hf]
  have lenOf:∀vs H Q E,spF (wAt p (k+1)) g x fr vs H Q E->vs.length=ps.length:=λvs H Q E ⟨S,ds,_,r,h⟩=>by
   have h:tR g E H (qa p (k+1) x ds) _:=h;rw[call]at h;unfold zF at h;by_cases hl:ds.length=ps.length
   ·rw[<-r.length];exact hl
   ·rw[if_neg hl]at h;exact h.elim
  obtain⟨oc,od,kV,doc,pm,an,cdv,ct,osl,rfl,lk,hcd⟩:=F.ex;refine Ay lk hcd FS lenOf λA outer s H vs Q E hr hsp=>?_
  obtain⟨B,ds,hB,rv,h⟩:=hsp;have h:tR g E H (qa p (k+1) x ds) (λd=>∀v H',qf H H'->Rep g (hid H' B) d v->(fr=true->bZ d=true->Fr g H B H' d v)->Q v H'):=h;rw[call]at h;unfold zF at h;by_cases hl:ds.length=ps.length
  ·rw[if_pos hl]at h;have O:XS (wAt p k) g ⟨(qZ st).names,N,own,GU,false,true,false,[],[],false⟩ E (fZ (CX1 P wl) P wl g.K mg base N x (qZ st) f cdv A outer s H E):=
    ⟨⟨rfl,rfl,rfl,FS.nd,(λz=>by cases z),by have:=hr.un;show (A.deeper _).units+64<_;lia,λ_ _=>rfl,FS.kind,x4,λy ky hy=>(T.gu y ky hy).2.2.gm (T.gu y ky hy).1,(λz=>by cases z),T.sub⟩,(λz=>by cases z),λy C hy _=>absurd rfl (T.gu y .exc hy).2.1,T.cat,⟨rfl,rfl,rfl⟩,λy k z=>by cases z⟩
   exact rK rfl rfl rfl FS c2 c3 O hB rv hl h
  ·rw[if_neg hl]at h;exact h.elim
theorem Ground.ok(T:Ground p g G GH GU mg):∀(k:Nat) (x:Str) (f:Addr) (st:Stmt) (own:List Str) (fr:Bool) (fd:bC) (fnn:Fn),p.fns x=some fnn->cFn G GH own fr st=some fnn->Fun g.K x x st f fd ->
  fD P wl g.K mg base (CX1 P wl) k f fd (argNames (za st)) (spF (wAt p k) g x fr)
 | 0,x,f,st,own,fr,fd,fnn,_,_,_=>⟨λvs H Q E ⟨S,ds,_,_,h⟩=>h.elim,λA outer s H args us vs Q E _ _ _ _ ⟨S,ds,_,_,h⟩=>h.elim⟩
 |k+1,x,f,st,own,fr,fd,fnn,hf,hc,F=>by
  obtain⟨c1,c2,b,c3,rfl⟩:=yw hc;have FS:=mJ c1;generalize hN:eI (za st) (qZ st)=N at *;generalize hps:argNames (za st)=ps at *;have call:∀ds,qa p (k+1) x ds=zF (wAt p k) ⟨ps.length,N.length,fr,b⟩ ds:=λds=>by simp only[qa,hf]
  have lenOf:∀vs H Q E,spF (wAt p (k+1)) g x fr vs H Q E->vs.length=ps.length:=λvs H Q E ⟨S,ds,_,r,h⟩=>by
   have h:tR g E H (qa p (k+1) x ds) _:=h;rw[call]at h;unfold zF at h;by_cases hl:ds.length=ps.length
   ·rw[<-r.length];exact hl
   ·rw[if_neg hl]at h;exact h.elim
  refine F.ok1 FS lenOf λcdv A outer s H vs Q E hr hsp=>?_
  obtain⟨B,ds,hB,rv,h⟩:=hsp;have h:tR g E H (qa p (k+1) x ds) (λd=>∀v H',qf H H'->Rep g (hid H' B) d v->(fr=true->bZ d=true->Fr g H B H' d v)->Q v H'):=h;rw[call]at h;unfold zF at h;by_cases hl:ds.length=ps.length
  ·rw[if_pos hl]at h
   -- the ground of the body
   have calls:∀y fy,g.fnA y=some fy->∃fry,G.lookup y=some (.fn fry)/\jt (wAt p k) g P wl mg base (A.deeper (envOfC x (qZ st) s.heap.objs.size f cdv)) true y fy fry:=λy fy hy=>by
    obtain⟨sty,owny,fry,fdy,fny,z1,z2,z3,z4,z5,z6,z7⟩:=T.fn y fy hy;exact⟨fry,z7,z6,z5,k,fdy,_,z4,.inl ⟨rfl,Ground.ok T k y fy sty owny fry fdy fny z1 z2 z3,hr⟩⟩
   have O:XS (wAt p k) g ⟨(qZ st).names,N,own,G,true,true,true,GH,[],false⟩ E (dS (CX1 P wl) P wl g.K mg base N x (qZ st) f cdv A outer s H E):=by
    refine⟨⟨rfl,rfl,rfl,FS.nd,λ_=>rfl,hr.units,λ_ _=>rfl,FS.kind,wz,λy ky hy=>?_,λ_ y fy hy=>?_,T.sub⟩,λ_=>uk,λy C hy hC=>?_,T.cat,⟨rfl,rfl,rfl⟩,λy ky hy=>?_⟩
    ·have:=T.gl y ky hy;by_cases hf:∃fr,ky=.fn fr
     ·obtain⟨fr',rfl⟩:=hf;obtain⟨fy,h1⟩:=this;obtain⟨fry,h2,h3⟩:=calls y fy h1;have hy:G.lookup y=some (.fn fr'):=hy;rw[hy]at h2;cases h2;exact⟨fy,h1,h3⟩
     ·exact this.gm λfr z=>hf ⟨fr,z⟩
    ·obtain⟨fry,_,h3⟩:=calls y fy hy;exact⟨fry,h3⟩
    ·obtain⟨C',_,h2,h3⟩:=T.gl y .exc hy;rw[h2]at hC;cases hC;exact h3
    ·rcases T.gh y ky hy with z|⟨fr',fy,sty,owny,fdy,fny,rfl,z1,z2,z3,z4,z5,z6,z7⟩
     ·obtain⟨u1,u2,u3⟩:=T.gu y ky z;exact⟨u2,λv=>u3.gm u1⟩
     ·exact⟨by simp,λv=>⟨fy,z1,z7,z6,k,fdy,_,z5,.inr ⟨rfl,Ground.okU T k y fy sty owny fr' fdy fny z2 z3 z4,hr.mark v⟩⟩⟩
   exact rK rfl rfl rfl FS c2 c3 O hB rv hl h
  ·rw[if_neg hl]at h;exact h.elim
end
end EV
namespace WB
open PySem PySem.Spec PyProof.Rows L2
structure Dd(K:aq)(n:Str)(st:Stmt)(f:Addr):Prop where
 a:ao K ak n=some (some (.ref f))
 l:∃oc od an sl kV dc pm cd ct,K.lookup f=some ⟨oc,od,.func (bX n n (za st) (dE st) (qZ st) .none kV dc pm an cd ct),sl⟩/\PySem.W.codeIn K cd n=true
 k:cJ K (.ref f)=true
theorem zB{K:aq}{n:Str}{st:Stmt}{f:Addr}{od an:Option Addr}{sl:Array (Option ae)}{oc kV dc pm cd ct:ae}(a:ao K ak n=some (some (.ref f)))
  (l:K.lookup f=some ⟨oc,od,.func (bX n n (za st) (dE st) (qZ st) .none kV dc pm an cd ct),sl⟩) (c:PySem.W.codeIn K cd n=true) (k:cJ K (.ref f)=true):Dd K n st f:=
 ⟨a,⟨oc,od,an,sl,kV,dc,pm,cd,ct,l,c⟩,k⟩
theorem Dd.fn{K:aq}{n:Str}{st:Stmt}{f:Addr}(d:Dd K n st f):∃fd,Fun K n n st f fd:=by
 obtain⟨oc,od,an,sl,kV,dc,pm,cd,ct,l,c⟩:=d.l;exact⟨_,nH (st:=st) l c d.k⟩
theorem lL{K:aq}{C:Addr}{c:ae}{dd:Option Addr}{cd:PySem.ClassData}{sl:Array (Option ae)}(s1:PySem.W.findIn K (.ref C) "__getattribute__" = some (some (.builtin "BaseException.__getattribute__")))
  (s2:PySem.W.findIn K (.ref C) "__getattr__" = some none) (s3:PySem.W.findIn K (.ref C) "__class__" = some (some (.builtin "object.__class__"))) (s4:PySem.W.mroIn K C (.type "BaseException")=some true) (s5:PySem.W.mroIn K C (.type "object")=some true)
  (s6:K.lookup C=some ⟨c,dd,.cls cd,sl⟩):cL K C:=⟨s1,s2,s3,s4,s5,⟨c,dd,cd,sl,s6⟩⟩
theorem mi{K:aq}{C:Addr}:bh K (.ref C) (.ref C)=some true:=by
 unfold bh;rw[if_pos (beq_self_eq_true _)]
theorem kL{K:aq}{C:Addr}(s:av K (.ref C) (.type "ValueError")=some true):bh K (.ref C) (.type "ValueError")=some true:=by
 unfold bh;rw[if_neg (λz=>by have:=eq_of_beq z;cases this)];show (if PySem.W.kitMeta "ValueError" = true then av K (.ref C) (.type "ValueError")else none)=_;rw[if_pos (by decide +kernel)];exact s
theorem kR{K:aq}{C D:Addr}{x:PySem.ClassData}(u:av K (.ref D) (.type "BaseException")=some true)(c:PySem.W.clsIn K D=some x)(t:PySem.W.typeIn K (.ref D)=some (.type "type"))(s:av K (.ref C) (.ref D)=some true) :
  bE K (.ref C) (.ref D)=some true:=by
 unfold bE;rw[u,if_pos (by decide)];show (if ((PySem.W.clsIn K D).isSome&&PySem.W.typeIn K (.ref D)==some (.type "type"))=true then av K (.ref C) (.ref D)else none)=_;rw[c,t,if_pos (by rw[beq_self_eq_true];rfl)];exact s
theorem sh{us:List ae}(h:us.length=1):∃a,us=[a]:=List.length_eq_one_iff.mp h
theorem pW{n:Nat}{us:List ae}(h:us.length=n+1):∃a r,us=a::r/\r.length=n:=by
 cases us with
 |nil=>cases h
 |cons a r=>exact⟨a,r,rfl,Nat.succ.inj h⟩
theorem pV{us:List ae}(h:us.length=2):∃a b,us=[a,b]:=by
 obtain⟨a,r,e,h⟩:=pW h;obtain⟨b,q⟩:=sh h;subst q;exact⟨a,b,e⟩
theorem Dt{us:List ae}(h:us.length=3):∃a b c,us=[a,b,c]:=by
 obtain⟨a,r,e,h⟩:=pW h;obtain⟨b,c,q⟩:=pV h;subst q;exact⟨a,b,c,e⟩
structure Dk(K:aq)(n:Str)(D:Addr):Prop where
 a:ao K ak n=some (some (.ref D))
 c:∃x,PySem.W.clsIn K D=some x
 t:PySem.W.typeIn K (.ref D)=some (.type "type")
theorem dA{K:aq}{n:Str}{D:Addr}{x:PySem.ClassData}(a:ao K ak n=some (some (.ref D)))(c:PySem.W.clsIn K D=some x)(t:PySem.W.typeIn K (.ref D)=some (.type "type")):Dk K n D:=⟨a,⟨x,c⟩,t⟩
theorem Dk.kit{K:aq}{n:Str}{C D:Addr}{b:Bool}(d:Dk K n D)(s:av K (.ref C) (.ref D)=some b)(ne:C≠D):bh K (.ref C) (.ref D)=some b:=by
 obtain⟨x,c⟩:=d.c;unfold bh;rw[if_neg (λz=>ne (by have:=eq_of_beq z;injection this))];show (if ((PySem.W.clsIn K D).isSome&&PySem.W.typeIn K (.ref D)==some (.type "type"))=true then av K (.ref C) (.ref D)else none)=_;rw[c,d.t,if_pos (by rw[beq_self_eq_true];rfl)];exact s
end WB
namespace EV
open PySem PySem.Spec PySem.P PyProof.Rows L2
structure Ent where
 x:Str
 st:Stmt
 own:List Str
 fr:Bool
 fn:Fn
noncomputable def prT(tab:List Ent)(vals:List (Str×D))(cV:List (Str×Str))(subs:List ((Str×Cl)×Bool):=[]):Pr:=⟨λx=>(tab.find? (·.x==x)).map (·.fn),λx=>vals.lookup x,λk c=>subs.lookup (k,c),λk x=>cV.contains (k,x)⟩
noncomputable def unx:GK->GK
 | .exc=>.exk
 |k=>k
noncomputable def eU(oth:List (Str×GK)):List (Str×GK):=oth.map λy=>(y.1,unx y.2)
noncomputable def fM(us:List Ent)(oth:List (Str×GK)):List (Str×GK):=us.map (λe=>(e.x,GK.fn e.fr))++eU oth
theorem si{x:Str}{k:GK}:∀{oth:List (Str×GK)},(eU oth).lookup x=some k->∃k0,oth.lookup x=some k0/\k=unx k0
 | [],h=>by cases h
 | (y,k1)::r,h=>by
  have h:List.lookup x ((y,unx k1)::eU r)=some k:=h;rw[bf]at h;split at h
  ·rename_i q;cases h;exact⟨k1,by rw[bf,q],rfl⟩
  ·rename_i q
   obtain⟨k0,h1,h2⟩:=si h;exact⟨k0,by rw[bf,q];exact h1,h2⟩
theorem oD{x:Str}{k:GK}{oth:List (Str×GK)}:∀{us:List Ent},(fM us oth).lookup x=some k->(∃e∈us,e.x=x/\k=.fn e.fr)\/(eU oth).lookup x=some k
 | [],h=>.inr h
 |a::r,h=>by
  have h:List.lookup x ((a.x,GK.fn a.fr)::fM r oth)=some k:=h;rw[bf]at h;split at h
  ·rename_i q;cases h;exact .inl ⟨a,aJ,(eq_of_beq q).symm,rfl⟩
  ·rcases oD h with ⟨e,h1,h2⟩|h1
   ·exact .inl ⟨e,aK _ h1,h2⟩
   ·exact .inr h1
noncomputable def eE(K:aq)(ns:List Str)(x:Str):Option Addr:=if ns.contains x then (match ao K ak x with
 |some (some (.ref f))=>some f
 |_=>none)else none
noncomputable def gOf(K:aq)(fns cls:List Str):Gc:=⟨K,eE K fns,eE K cls⟩
theorem iG{K:aq}{ns:List Str}{x:Str}{f:Addr}(h:ao K ak x=some (some (.ref f)))(hx:ns.contains x=true):eE K ns x=some f:=by
 unfold eE;rw[if_pos hx,h]
theorem kM{K:aq}{ns:List Str}{x:Str}{f:Addr}(h:eE K ns x=some f):ns.contains x=true/\ao K ak x=some (some (.ref f)):=by
 unfold eE at h;split at h
 ·rename_i hx
  split at h
  ·rename_i q;cases h;exact⟨hx,q⟩
  ·cases h
 ·cases h
noncomputable def Bnd(e:Ent):Prop:=∀(kV doc pm:ae) (an:Option Addr) (cdv ct:ae) (us:List ae),us.length=(argNames (za e.st)).length->bindArgs (bX e.x e.x (za e.st) (dE e.st) (qZ e.st) .none kV doc pm an cdv ct) ⟨us,[]⟩=pure ((argNames (za e.st)).zip us)
structure iP(K:aq)(G:List (Str×GK))(e:Ent):Prop where
 dd:∃f,WB.Dd K e.x e.st f
 bnd:Bnd e
noncomputable def pH(K:aq)(vals:List (Str×D))(x:Str):GK->Prop
 | .fn _=>True
 | .val=>∃u v d,ao K ak x=some (some u)/\RelV v u/\vals.lookup x=some d/\∀g H,g.K=K->Rep g H d v
 | .bi b=>ao K ak x=some none/\x=b1N b/\∃id,b1V b=.builtin id
 | .rng=>ao K ak x=some none/\x = "range"
 | .enum=>ao K ak x=some none/\x = "enumerate"
 | .zip=>ao K ak x=some none/\x = "zip"
 | .isi=>ao K ak x=some none/\x = "isinstance"
 | .ty n b=>ao K ak x=some none/\bG x=some (.type n)/\(n∈["int","bool","str","list","tuple"]\/n = "ValueError")/\∀b',b=some b'->x=b1N b'/\b1V b'=.type n
 | .exc=>∃C,ao K ak x=some (some (.ref C))/\PySem.W.excIn K C fG "ValueError.__new__" = true
 | .exk=>∃C,ao K ak x=some (some (.ref C))
 | .set=>ao K ak x=some none/\bG x=some (.type "set")
 | .rvd=>ao K ak x=some none/\x = "reversed"
noncomputable def sj(K:aq)(cls:List Str)(y:(Str×Cl)×Bool):Prop:=∃C cv,cls.contains y.1.1=true/\ao K ak y.1.1=some (some (.ref C))/\cL K C/\bh K (.ref C) cv=some y.2/\match y.1.2 with
 | .ty n=>n = "ValueError"/\cv=.type n
 | .ex x=>∃D,cls.contains x=true/\ao K ak x=some (some (.ref D))/\cv=.ref D
theorem oA{α β:Type} [BEq α] [LawfulBEq α]{a:α}{b:β}:∀{l:List (α×β)},l.lookup a=some b->(a,b)∈l
 | (c,d)::r,h=>by
  rw[bf]at h;split at h
  ·rename_i q;cases h;rw[eq_of_beq q];exact aJ
  ·exact aK _ (oA h)
theorem nK{tab:List Ent}{e:Ent}(hn:(tab.map (·.x)).Nodup)(he:e∈tab):tab.find? (·.x==e.x)=some e:=by
 induction tab with
 |nil=>simp at he
 |cons a r ih=>
  simp only[aQ,List.nodup_cons]at hn;rw[List.find?_cons];rcases aD.mp he with rfl|h
  ·simp
  ·have:(a.x==e.x)=false:=by
    cases q:a.x==e.x with
    |false=>rfl
    |true=>
     have:=eq_of_beq q;exact absurd (this▸aM.mpr ⟨e,h,rfl⟩) hn.1
   rw[this];exact ih hn.2 h
theorem sZ{K:aq}{h:Heap}{mg:Str->Option ae}(X:K.In h)(N:h.Ns ak mg){tab:List Ent}{oth G:List (Str×GK)}{vals:List (Str×D)}(hG:G=tab.map (λe=>(e.x,GK.fn e.fr))++oth)
  (hnd:(tab.map (·.x)).Nodup) (ho:∀x k,oth.lookup x=some k->pH K vals x k) (hof:∀x fr,oth.lookup x≠some (.fn fr)) {us:List Ent} (hus:∀e∈us,e∈tab) (hcu:∀e∈us,hV (eU oth) e.own e.fr e.st=some e.fn) (hc:∀e∈tab,cFn G (fM us oth) e.own e.fr e.st=some e.fn) (he:∀e∈tab,iP K G e) (cls:List Str) {cV:List (Str×Str)} (hcat:∀y∈cV,∃C D,ao K ak y.1=some (some (.ref C))/\ao K ak y.2=some (some (.ref D))/\bE K (.ref C) (.ref D)=some true) (hcl:∀x,(oth.lookup x=some .exc\/oth.lookup x=some .exk)->cls.contains x=true)
  {subs:List ((Str×Cl)×Bool)} (hsub:∀y∈subs,sj K cls y) :
  Ground (prT tab vals cV subs) (gOf K (tab.map (·.x)) cls) G (fM us oth) (eU oth) mg:=by
 have lk:∀x k,G.lookup x=some k->(∃e∈tab,e.x=x/\k=.fn e.fr)\/oth.lookup x=some k:=by
  subst hG;clear hnd hc he hus
  induction tab with
  |nil=>intro x k hx;exact .inr hx
  |cons a r ih=>
   intro x k hx;simp only[aQ,List.cons_append,bf]at hx;split at hx
   ·rename_i q;cases hx;exact .inl ⟨a,aJ,(eq_of_beq q).symm,rfl⟩
   ·rcases ih x k hx with ⟨e,h1,h2⟩|h1
    ·exact .inl ⟨e,aK _ h1,h2⟩
    ·exact .inr h1
 have lkE:∀e∈tab,G.lookup e.x=some (.fn e.fr):=by
  subst hG;clear hc he lk hus
  induction tab with
  |nil=>intro e h;simp at h
  |cons a r ih=>
   intro e hm;simp only[aQ,List.nodup_cons]at hnd;simp only[aQ,List.cons_append,bf];rcases aD.mp hm with rfl|hm
   ·rw[beq_self_eq_true]
   ·have:(e.x==a.x)=false:=by
     cases q:e.x==a.x with
     |false=>rfl
     |true=>exact absurd ((eq_of_beq q)▸aM.mpr ⟨e,hm,rfl⟩) hnd.1
    rw[this];exact ih hnd.2 e hm
 have hca:∀k x,cV.contains (k,x)=true->∀C D,eE K cls k=some C->eE K cls x=some D->bE K (.ref C) (.ref D)=some true:=λk x z C D h1 h2=>by
  obtain⟨C',D',e1,e2,e3⟩:=hcat (k,x) (by simpa using z);have a1:=(kM h1).2;have a2:=(kM h2).2;rw[e1]at a1;rw[e2]at a2;cases a1;cases a2;exact e3
 have fnd:∀e∈tab,∃f fd,eE K (tab.map (·.x)) e.x=some f/\Fun K e.x e.x e.st f fd/\Binds K fd (argNames (za e.st)) []/\cJ K (.ref f)=true/\mg e.x=some (.ref f):=λe hm=>by
  obtain⟨⟨f',d⟩,hb⟩:=he e hm;obtain⟨fd,F⟩:=d.fn;exact⟨f',fd,iG d.a (by simpa using aM.mpr ⟨e,hm,rfl⟩),F,F.binds hb,d.k,PySem.W.mg_of X N d.a⟩
 have fne:∀e∈tab,(prT tab vals cV subs).fns e.x=some e.fn:=λe hm=>by show (tab.find? (·.x==e.x)).map (·.fn)=_;rw[nK hnd hm];rfl
 have gl:∀x k,oth.lookup x=some k->GM0 (prT tab vals cV subs) (gOf K (tab.map (·.x)) cls) mg x k:=λx k hk=>by
  have:=ho x k hk;cases k with
  |fn fr=>exact absurd hk (hof x fr)
  |val=>obtain⟨u,v,d,h1,h2,h3,h4⟩:=this;exact⟨u,v,d,PySem.W.mg_of X N h1,h2,h3,λH=>h4 _ H rfl⟩
  |bi b=>exact⟨dh X N this.1,this.2⟩
  |rng=>exact⟨dh X N this.1,this.2⟩
  |enum=>exact⟨dh X N this.1,this.2⟩
  |zip=>exact⟨dh X N this.1,this.2⟩
  |isi=>exact⟨dh X N this.1,this.2⟩
  |ty n b=>exact⟨dh X N this.1,this.2⟩
  |exc=>obtain⟨C,h1,h2⟩:=this;exact⟨C,PySem.W.mg_of X N h1,iG h1 (hcl x (.inl hk)),h2⟩
  |exk=>obtain⟨C,h1⟩:=this;exact⟨C,PySem.W.mg_of X N h1,iG h1 (hcl x (.inr hk))⟩
  |set=>exact⟨dh X N this.1,this.2⟩
  |rvd=>exact⟨dh X N this.1,this.2⟩
 refine⟨λx f hf=>?_,λx k hx=>?_,λx k hx=>?_,λx k hx=>?_,λk cl b z=>?_,hca⟩
 ·obtain⟨h1,h2⟩:=kM hf;obtain⟨e,hm,rfl⟩:=aM.mp (by simpa using h1:x∈tab.map (·.x));obtain⟨f',fd,z1,z2,z3,z4,z5⟩:=fnd e hm;have hf:eE K (tab.map (·.x)) e.x=some f:=hf;rw[hf]at z1;cases z1;exact⟨e.st,e.own,e.fr,fd,e.fn,fne e hm,hc e hm,z2,z3,z4,z5,lkE e hm⟩
 ·rcases lk x k hx with ⟨e,hm,rfl,rfl⟩|hk
  ·obtain⟨f',fd,z1,_⟩:=fnd e hm;exact⟨f',z1⟩
  ·exact gl x k hk
 ·obtain⟨k0,h1,rfl⟩:=si hx;have:=gl x k0 h1;cases k0 with
  |fn fr=>exact absurd h1 (hof x fr)
  |exc=>obtain⟨C,z1,z2,_⟩:=this;exact⟨by simp[unx],by simp[unx],⟨C,z1,z2⟩⟩
  |_=>exact⟨by simp[unx],by simp[unx],this⟩
 ·rcases oD hx with ⟨e,hm,rfl,rfl⟩|hk
  ·obtain⟨f',fd,z1,z2,z3,z4,z5⟩:=fnd e (hus e hm);exact .inr ⟨e.fr,f',e.st,e.own,fd,e.fn,rfl,z1,fne e (hus e hm),hcu e hm,z2,z3,z4,z5⟩
  ·exact .inl hk
 ·have z:subs.lookup (k,cl)=some b:=z;obtain⟨C,cv,h0,h1,h2,h3,h4⟩:=hsub _ (oA z);refine⟨C,cv,iG h1 h0,h2,h3,?_⟩;cases cl with
  |ty n=>exact h4
  |ex x=>obtain⟨D,d0,d1,d2⟩:=h4;exact⟨D,iG d1 d0,d2⟩
theorem By{l:PySem.W.OpenLaw}{q:aw}{loose:List Str}{XP:(Str->Option ae)->Heap->Prop}{YP:au->Heap->Prop}{d:DefRec}{K:Params->aq}{tab:List Ent}{G:List (Str×GK)}{vals:List (Str×D)}{cls:List Str}{cV:List (Str×Str)}{subs:List ((Str×Cl)×Bool)}{GH GU:List (Str×GK)}{e:Ent}{k:Nat}
  (hn:l.most=some 63) (hdf:d.params.defaults=[]) (hd:d.name=e.x) (hr:cm k callerA) (hY:∀(w:au) (h:Heap),YP w h->(K w.params).In h) (hm:e∈tab) (hnd:(tab.map (·.x)).Nodup) (hx:e.x = "law") (hfr:e.fr=false) (hp:argNames (za e.st)=[("_law_script" : Str)])
  (hG:∀(w:au) (mg:Str->Option ae) (h:Heap),(K w.params).In h->h.Ns ak mg->Ground (prT tab vals cV subs) (gOf (K w.params) (tab.map (·.x)) cls) G GH GU mg/\iP (K w.params) G e) (hc:cFn G GH e.own e.fr e.st=some e.fn)
  (hlaw:∀ns:List Int,ns.length<=63->qa (prT tab vals cV subs) k "law" [.lst (ns.map D.int)]=.ok (.bl true)) :
  PySem.W.WalkO q loose XP YP l.row.toRowW d [] (λf vs=>PySem.call f vs):=by
 refine L2.wD (n:=63) (k:=k) (x:="_law_script") (CX:=λw=>CX1 l.prog w) (sp:=λw=>spF (wAt (prT tab vals cV subs) k) (gOf (K w.params) (tab.map (·.x)) cls) "law" false) hn (by decide) hdf hr hY (λw mg fa h KX N hfa=>?_) (λw H a ns hl _ hS=>?_) λw H s e s' z=>?_
 ·obtain⟨T,⟨f,dd⟩,hb⟩:=hG w mg h KX N;have e1:=hfa.symm.trans (hd▸PySem.W.mg_of KX N dd.a);cases e1;obtain⟨oc,od,an,sl,kV,dc,pm,cd,ct,lk,hcd⟩:=dd.l;refine⟨bX e.x e.x (za e.st) (dE e.st) (qZ e.st) .none kV dc pm an cd ct,λs u=>.of_eq ?_,λbase _ _=>?_⟩
  ·have:=hb kV dc pm an cd ct [u] (by rw[hp];rfl);rw[hp]at this;exact this
  ·have:=T.ok (P:=l.prog) (wl:=w) (base:=base) k e.x fa e.st e.own e.fr _ e.fn (by show (tab.find? (·.x==e.x)).map (·.fn)=_;rw[nK hnd hm];rfl) hc (nH (st:=e.st) lk hcd dd.k);rw[hp,hx,hfr]at this;rw[hx];exact this
 ·refine⟨⟨λ_=>false,λ_=>false,[],λ_=>none⟩,[.lst (ns.map D.int)],(λa z=>by rcases z with z|z<;>cases z),.cons (.lst (xs:=ns.map V.int) ?_ (zb.ofInts _)) .nil,?_⟩
  ·have:hid H ⟨λ_=>false,λ_=>false,[],λ_=>none⟩=H:=by funext b;unfold hid;rw[if_neg (by simp)]
   rw[this];exact hS
  ·show tR _ _ _ (qa (prT tab vals cV subs) k "law" [.lst (ns.map D.int)]) _;rw[hlaw ns hl];intro v H' _ r _;cases r;rfl
 ·obtain⟨_,_,_,_,_,_,_,_,_,z⟩:=z;exact z
end EV
namespace KG
open EV
open PySem (Str)
open L2 (atI ixN ltP)
abbrev prD:Int×Int->D:=EV.pairD
theorem qt{w:W}{f:Fn}{ds:List D}{d:D}{τ:Env}(hl:ds.length=f.ps)(hτ:ds.map some++aZ (f.N-f.ps) none=τ)(h:qe w f.body τ=.rt d):zF w f ds=.ok d:=by
 rw[zF,if_pos hl,hτ,h]
theorem zA{w:W}{s:S}{r:Ss}{τ σ:Env}{o:O}(h:evS w s τ=.nx σ)(h':qe w r σ=o):qe w (.cons s r) τ=o:=by rw[qe,h];exact h'
theorem l5{w:W}{tg:Tg}{it:It}{b r:Ss}{τ:Env}{o:O}{ds:List D}(I:List D->Env->Prop)(h:evI w it τ=.ok ds)(h0:I ds τ)
  (hs:∀x t σ,I (x::t) σ->∃σ1 σ2,store tg x σ=.ok σ1/\qe w b σ1=.nx σ2/\I t σ2) (hn:∀σ,I [] σ->qe w r σ=o):qe w (.cons (.for tg it b) r) τ=o:=by
 have key:∀(l:List D) (σ:Env),I l σ->∃σ',dC tg (λσ=>qe w b σ) l σ=.nx σ'/\I [] σ':=by
  intro l
  induction l with
  |nil=>intro σ q;exact⟨σ,rfl,q⟩
  |cons x t ih=>
   intro σ q;obtain⟨σ1,σ2,a,b',c⟩:=hs x t σ q;obtain⟨σ',d,e⟩:=ih σ2 c;exact⟨σ',by rw[dC,a];simp only[R.out_ok];rw[b'];exact d,e⟩
 obtain⟨σ',a,b'⟩:=key ds τ h0;rw[qe,b8,h];simp only[R.out_ok];rw[a];exact hn σ' b'
theorem iU{w:W}{it:It}{cap:List (Option Nat)}{t:T}{elt:E}{τ c:Env}{ds:List D}{g:D->List D}(h:evI w it τ=.ok ds)(hz:ds.length<=SZ)(hc:dR cap τ=none::none::c)
  (hb:∀x∈ds,((evT w t (none::some x::c)).bind λr=>if r then (evE w elt (none::some x::c)).bind λd=>.ok [d]else .ok [])=.ok (g x)):evE w (.comp it cap (.nm 1) t elt) τ=.ok (.lst (ds.flatMap g)):=by
 have key:∀(l:List D) (v:Option D) (acc:List D),(∀x∈l,x∈ds)->zU (λx σ=>noEx ((store (.nm 1) x σ).bind λσ'=>(evT w t σ').bind λr=>if r then (evE w elt σ').bind λd=>.ok (σ',[d])else .ok (σ',[]))) l (none::v::c) acc=.ok (acc++l.flatMap g):=by
  intro l
  induction l with
  |nil=>intro v acc _;simp[zU]
  |cons x r ih=>
   intro v acc hm;have q:=hb x (hm x aJ);rw[zU];have e:noEx ((store (.nm 1) x (none::v::c)).bind λσ'=>(evT w t σ').bind λr=>if r then (evE w elt σ').bind λd=>.ok (σ',[d])else .ok (σ',[]))=.ok (none::some x::c,g x):=by
    simp only[store,R.bind_ok,List.set_cons_succ,List.set_cons_zero];cases ht:evT w t (none::some x::c)with
    |ok b=>
     rw[ht]at q;simp only[R.bind_ok]at q ⊢;cases b
     ·simp at q ⊢;rw[<-q];rfl
     ·simp only[if_true]at q ⊢;cases he:evE w elt (none::some x::c)with
      |ok d=>rw[he]at q;simp only[R.bind_ok,R.ok.injEq]at q ⊢;rw[<-q];rfl
      |ex=>rw[he]at q;cases q
      |no=>rw[he]at q;cases q
    |ex=>rw[ht]at q;cases q
    |no=>rw[ht]at q;cases q
   rw[e];simp only[R.bind_ok];rw[ih (some x) _ λy hy=>hm y (aK _ hy),List.flatMap_cons,List.append_assoc]
 rw[qp,h];simp only[R.bind_ok];rw[if_neg (by lia),hc,key ds none [] λ_ h=>h]
 rfl
theorem xg{w:W}{i:Int}:ck w (.int i) (.ty "int")=.ok (.bl true):=rfl
theorem DV{w:W}{i:Int}:ck w (.int i) (.ty "bool")=.ok (.bl false):=rfl
theorem wO{w:W}{i:List D}:ck w (.tup i) (.ty "tuple")=.ok (.bl true):=rfl
theorem Dz{w:W}{i:List D}:ck w (.tup i) (.ty "bool")=.ok (.bl false)/\ck w (.tup i) (.ty "int")=.ok (.bl false)/\ck w (.tup i) (.ty "str")=.ok (.bl false)/\ck w (.tup i) (.ty "list")=.ok (.bl false):=⟨rfl,rfl,rfl,rfl⟩
theorem vX{w:W}{i:Bool}:ck w (.bl i) (.ty "bool")=.ok (.bl true):=rfl
theorem wj(i:Int):(D.int i).asks=true:=rfl
theorem BK(t:Int×Int):(prD t).asks=true:=rfl
noncomputable def mn(a b:Int):Int:=if b<a then b else a
noncomputable def mx(a b:Int):Int:=if a<b then b else a
noncomputable def dI(ts:List (Int×Int))(a b:Int):Bool:=ts.any λt=>t.1==mn a b&&t.2==mx a b
theorem xF(ts:List (Int×Int))(u v:Int):qi .isin (.tup [.int u,.int v]) (.tup (ts.map prD))=.ok (ts.any λt=>t.1==u&&t.2==v):=by
 rw[qi];simp only[seq?];rw[if_pos (by simp only[aI,List.all_eq_true,aM];exact⟨rfl,λx ⟨t,_,e⟩=>e▸BK t⟩),inD,List.any_map]
 congr 2;funext t;show ((t.1==u)&&((t.2==v)&&true))=_;rw[Bool.and_true]
theorem CF(ns:List Int)(a:Int):qi .isin (.int a) (.tup (ns.map D.int))=.ok (ns.any λt=>t==a):=by
 rw[qi];simp only[seq?];rw[if_pos (by simp only[aI,List.all_eq_true,aM];exact⟨rfl,λx ⟨t,_,e⟩=>e▸wj t⟩),inD,List.any_map]
 rfl
structure GW(m:Int)(ts:List (Int×Int)):Prop where
 lo:1<=m
 hi:m<=8
 lt:ts.Pairwise λs t=>ltP s t=true
 ok:∀t∈ts,0<=t.1/\t.1<t.2/\t.2<m
 len:ts.length<=28
structure GS(m:Int)(s:List Int):Prop where
 lt:s.Pairwise (· < ·)
 ok:∀i∈s,0<=i/\i<m
 len:s.length<=8
abbrev wb(m:Int)(ts:List (Int×Int)):D:=.tup [.int m,.tup (ts.map prD)]
abbrev tu(s:List Int):D:=.tup (s.map D.int)
theorem fQ{xs:List D}{i:Nat}(h:i<xs.length):atI xs (i:Int)=some xs[i]:=by
 rw[atI,ixN,if_pos (by lia),if_pos (by lia)];simp[h]
theorem all_true(xs:List D):bools? (xs.flatMap λ_=>[.bl true])=some (aZ xs.length true):=by
 induction xs with
 |nil=>rfl
 |cons x r ih=>show (bools? (r.flatMap λ_=>[.bl true])).map (true :: ·)=_;rw[ih];rfl
theorem Co(n:Nat):(aZ n true).all id=true:=by simp
theorem Bo{s t:Int×Int}(h:ltP s t=true):qi .lt (prD s) (prD t)=.ok true:=by
 show R.ok (eF [s.1,s.2] [t.1,t.2])=_;rw[ltP]at h;simp only[eF];by_cases e:s.1=t.1
 ·rw[if_pos e]at h ⊢;by_cases e2:s.2=t.2
  ·rw[e2]at h;simp at h
  ·rw[if_neg e2,h]
 ·rw[if_neg e]at h ⊢;rw[h]
noncomputable def rng(m:Int):List Int:=(a8 m.toNat).map λ(i:Nat)=>(i:Int)
theorem zK(m:Int):zY 0 m.toNat=(rng m).map D.int:=by
 rw[zY,rng,bF];simp
theorem zH(m:Int):(rng m).length=m.toNat:=by simp[rng]
theorem cP{m i:Int}:i∈rng m↔0<=i/\i<m:=by
 simp only[rng,aM,List.mem_range];constructor
 ·rintro⟨a,h,rfl⟩;lia
 ·intro h;exact⟨i.toNat,by lia,by lia⟩
theorem iR(m:Int):(rng m).Pairwise (· < ·):=by
 rw[rng,List.pairwise_map];exact List.pairwise_lt_range.imp λh=>by lia
theorem BU(c:Int->Bool)(ns:List Int):(ns.map D.int).flatMap (λx=>match x with | .int i=>if c i then [D.int i]else []|_=>[])=(ns.filter c).map D.int:=by
 induction ns with
 |nil=>rfl
 |cons a r ih=>
  rw[aQ,List.flatMap_cons,ih,List.filter_cons];show (if c a=true then [D.int a]else [])++_=_;cases c a<;>rfl
theorem wY(x y:Int)(h:0<y)(h':y<=2^64):small (x%y)=true:=by
 have a:=Int.emod_nonneg x (show y≠0 by lia);have b:=Int.emod_lt_of_pos x h;simp only[small,aI,decide_eq_true_eq];lia
noncomputable def st(c j:Int):Int:=
 ((((c%2147483647+977 * j+1) * 48271%2147483647) * ((c%2147483647+977 * j+1) * 48271%2147483647)%2147483629+40692 * (j+3)) * 69621%2147483647)/8
theorem GW.sub{m:Int}{ts ps:List (Int×Int)}(h:GW m ps)(s:ts.Sublist ps):GW m ts:=
 ⟨h.lo,h.hi,h.lt.sublist s,λt ht=>h.ok t (s.subset ht),a_ s.length_le h.len⟩
theorem eq_int(a b:Int):qi .eq (.int a) (.int b)=.ok (decide (a=b)):=by
 show R.ok (a==b)=_;congr 1
theorem lt_int(a b:Int):qi .lt (.int a) (.int b)=.ok (decide (a<b)):=rfl
theorem ints_map(ns:List Int):ints? (ns.map D.int)=some ns:=by
 induction ns with
 |nil=>rfl
 |cons a r ih=>show (ints? (r.map D.int)).map (a :: ·)=_;rw[ih];rfl
theorem Ba{f:Int->D}(ns:List Int):(ns.map D.int).flatMap (λx=>match x with | .int i=>[f i]|_=>[])=ns.map f:=by
 induction ns with
 |nil=>rfl
 |cons a r ih=>rw[aQ,List.flatMap_cons,ih];rfl
noncomputable instance (m:Int) (ts:List (Int×Int)):Decidable (GW m ts):=
 decidable_of_iff (1<=m/\m<=8/\ts.Pairwise (λs t=>ltP s t=true)/\(∀t∈ts,0<=t.1/\t.1<t.2/\t.2<m)/\ts.length<=28) ⟨λ⟨a,b,c,d,e⟩=>⟨a,b,c,d,e⟩,λ⟨a,b,c,d,e⟩=>⟨a,b,c,d,e⟩⟩
noncomputable def Ends(J:Env->Prop)(Q:D->Prop):O->Prop
 | .nx σ=>J σ
 | .rt d=>Q d
 |_=>False
section
variable{w:W}{J K:Env->Prop}{Q:D->Prop}{s:S}{r:Ss}{τ σ:Env}
theorem zQ(h:J τ):Ends J Q (qe w .nil τ):=by rw[qe];exact h
theorem zu(h:evS w s τ=.nx σ)(h':Ends J Q (qe w r σ)):Ends J Q (qe w (.cons s r) τ):=by rw[qe,h];exact h'
theorem jf(h:Ends K Q (evS w s τ))(h':∀σ,K σ->Ends J Q (qe w r σ)):Ends J Q (qe w (.cons s r) τ):=by
 rw[qe];cases q:evS w s τ with
 |nx σ=>rw[q]at h;exact h' σ h
 |rt d=>rw[q]at h;exact h
 |_=>rw[q]at h;exact h.elim
theorem gR{e:E}{d:D}(h:evE w e τ=.ok d)(hq:Q d):Ends J Q (qe w (.cons (.ret e) r) τ):=by
 rw[qe,zL,h];exact hq
theorem kF{t:T}{a b:Ss}{v:Bool}(h:evT w t τ=.ok v)(h1:v=true->Ends J Q (qe w a τ))(h2:v=false->Ends J Q (qe w b τ)):Ends J Q (evS w (.ite t a b) τ):=by
 rw[zT,h];cases v
 ·exact h2 rfl
 ·exact h1 rfl
theorem eK{tg:Tg}{it:It}{b:Ss}{ds:List D}(I:List D->Env->Prop)(h:evI w it τ=.ok ds)(h0:I ds τ)(hs:∀x t σ,I (x::t) σ->∃σ1,store tg x σ=.ok σ1/\Ends (I t) Q (qe w b σ1))(hn:∀σ,I [] σ->Ends J Q (qe w r σ)):Ends J Q (qe w (.cons (.for tg it b) r) τ):=by
 have key:∀(l:List D) (σ:Env),I l σ->Ends (I []) Q (dC tg (λσ=>qe w b σ) l σ):=by
  intro l
  induction l with
  |nil=>intro σ q;exact q
  |cons x t ih=>
   intro σ q;obtain⟨σ1,a,b'⟩:=hs x t σ q;rw[dC,a];simp only[R.out_ok];cases z:qe w b σ1 with
   |nx σ2=>rw[z]at b';exact ih σ2 b'
   |rt d=>rw[z]at b';exact b'
   |_=>rw[z]at b';exact b'.elim
 have hk:=key ds τ h0;refine jf (K:=I []) ?_ hn;rw[b8,h];simp only[R.out_ok];cases z:dC tg (λσ=>qe w b σ) ds τ with
 |nx σ2=>rw[z]at hk;exact hk
 |rt d=>rw[z]at hk;exact hk
 |_=>rw[z]at hk;exact hk.elim
end
theorem uv{s t:Int×Int}(h:ltP t s=false)(hn:s≠t):ltP s t=true:=by
 simp only[ltP]at h ⊢;by_cases e:s.1=t.1
 ·rw[if_pos e.symm]at h;rw[if_pos e];have:s.2≠t.2:=λz=>hn (Prod.ext e z)
  simp at h ⊢;lia
 ·rw[if_neg (λz=>e z.symm)]at h;rw[if_neg e];simp at h ⊢;lia
theorem vW{l:List (Int×Int)}(h:l.Pairwise λa b=>ltP b a=false)(hn:l.Nodup):l.Pairwise λs t=>ltP s t=true:=
 List.Pairwise.imp₂ (λa b h1 h2=>uv h1 h2) h hn
theorem sf:∀ts:List (Int×Int),pairs? (ts.map prD)=some ts
 | []=>rfl
 |t::r=>by show (pairs? (r.map prD)).map (t :: ·)=_;rw[sf r];rfl
theorem nQ(xs:List D):b1 .sorted [.lst xs]=(if xs.length<64 then (match ints? xs with
  |some ns=>.ok (.lst ((sortI ns).map D.int))
  |none=>match pairs? xs with
   |some ps=>.ok (.lst ((zx ps).map pairD))
   |none=>eN xs)else eN xs):=rfl
theorem nX(ts:List (Int×Int))(h:ts.length<64):b1 .sorted [.lst (ts.map prD)]=.ok (.lst ((zx ts).map prD)):=by
 rw[nQ,if_pos (by simpa using h)];cases ts with
 |nil=>rfl
 |cons t r=>
  have e:ints? ((t::r).map prD)=none:=rfl;rw[e];simp only;rw[sf]
noncomputable def hd(m:Int)(ts:List (Int×Int))(a:Int):List Int:=(rng m).filter λb=>b==a||dI ts a b
noncomputable def mk(m:Int)(ts:List (Int×Int))(s:List Int)(a:Int):List Int:=s.filter λx=>(hd m ts a).any λt=>t==x
end KG
noncomputable def KG.Z:=ar @EV.qe.eq_1 (ar @EV.qe.eq_2 (ar @EV.bT (ar @EV.b5 (ar @EV.cj (ar @EV.zL (ar @EV.cq (ar @EV.zT (ar @EV.zR (ar @EV.zl (ar @EV.zp (ar @EV.zh (ar @EV.zm (ar @EV.zk (ar @EV.ze (ar @EV.zo (ar @EV.qy (ar @EV.qJ (ar @EV.qu (ar @EV.qA (ar @EV.qI (ar @EV.qK (ar @EV.qD (ar @EV.qx (ar @EV.qL (ar @EV.qH (ar @EV.qo (ar @EV.qB (ar @EV.qE (ar @EV.zz.eq_1 (ar @EV.zz.eq_2 (ar @EV.fb (ar @EV.fq (ar @EV.fz (ar @EV.fC (ar @EV.fB (ar @EV.fg (ar @EV.ff (ar @EV.evI.eq_1 (ar @EV.evI.eq_2 (ar @EV.evI.eq_3 (ar @EV.evI.eq_4 (ar @EV.evI.eq_5 (ar @EV.evI.eq_6 (ar @EV.evI.eq_7 (ar @EV.evO.eq_1 (ar @EV.evO.eq_2 (ar @EV.opI.eq_1 (ar @EV.opI.eq_2 (ar @EV.opI.eq_3 (ar @EV.opI.eq_4 (ar @EV.opI.eq_5 (ar @EV.opI.eq_6 (ar @EV.opI.eq_7 (ar @EV.opI.eq_8 (ar @EV.opI.eq_9 (ar @EV.opI.eq_10 (ar @EV.opI.eq_11 (ar @EV.b11.eq_1 (ar @EV.b11.eq_2 (ar @EV.b11.eq_3 (ar @EV.b11.eq_4 (ar @EV.b11.eq_5 (ar @EV.b11.eq_6 (ar @EV.b11.eq_7 (ar @EV.b11.eq_8 (ar @EV.b11.eq_9 (ar @EV.b11.eq_10 (ar @EV.b11.eq_11 (ar @EV.b11.eq_12 (ar @EV.b11.eq_13 (ar @EV.b11.eq_14 (ar @EV.b12.eq_1 (ar @EV.b12.eq_2 (ar @EV.b12.eq_3 (ar @EV.cN.eq_1 (ar @EV.cN.eq_2 (ar @EV.dH.eq_1 (ar @EV.dH.eq_2 (ar @EV.iiR.eq_1 (ar @EV.iiR.eq_2 (ar @EV.zP.eq_1 (ar @EV.store.eq_1 (ar @EV.store.eq_2 (ar @EV.store.eq_3 (ar @EV.setAll.eq_1 (ar @EV.setAll.eq_2 (ar @EV.setAll.eq_3 (ar @EV.truth.eq_1 (ar @EV.truth.eq_2 (ar @EV.truth.eq_3 (ar @EV.truth.eq_4 (ar @EV.truth.eq_5 (ar @EV.truth.eq_6 (ar @KG.xg (ar @KG.DV (ar @KG.wO (ar @KG.Dz (@KG.vX))))))))))))))))))))))))))))))))))))))))))))))))))))))))))))))))))))))))))))))))))))))))))))))))))
namespace KG
open EV
open PySem (Str)
open L2 (atI ixN ltP)
noncomputable def ja:Fn:=⟨1,1,false,(.cons (.ret (.and (.isi (.var 0) (.ty "int")) (.not (.isi (.var 0) (.ty "bool"))))) .nil)⟩
noncomputable def zX:Fn:=⟨3,3,false,(.cons (.ret (.and (.call "is_whole" (.cons (.var 0) .nil)) (.cmp2 .le .le (.var 1) (.var 0) (.var 2)))) .nil)⟩
noncomputable def gO:Fn:=⟨1,1,false,(.cons (.ret (.and (.isi (.var 0) (.ty "tuple")) (.cmp .eq (.bi .len (.cons (.var 0) .nil)) (.con (.int 2))))) .nil)⟩
noncomputable def iE:Fn:=⟨1,1,false,(.cons (.ret (.bi .all (.cons (.comp (.rng (.op .sub (.bi .len (.cons (.var 0) .nil)) (.con (.int 1)))) [none,none,some 0] (.nm 1) .yes (.cmp .lt (.ix (.var 2) (.var 1)) (.ix (.var 2) (.op .add (.var 1) (.con (.int 1)))))) .nil))) .nil)⟩
noncomputable def fJ:Fn:=⟨1,3,false,(.cons (.ite (.not (.val (.call "is_pair" (.cons (.var 0) .nil)))) (.cons (.ret (.con (.bl false))) .nil) .nil) (.cons (.set (.tp [1,2]) (.var 0)) (.cons (.ite (.or (.not (.val (.call "is_between" (.cons (.var 1) (.cons (.con (.int 1)) (.cons (.glb "MOST") .nil)))))) (.not (.val (.isi (.var 2) (.ty "tuple"))))) (.cons (.ret (.con (.bl false))) .nil) .nil) (.cons (.ret (.and (.bi .all (.cons (.comp (.seq (.var 2)) [none,none,some 1] (.nm 1) .yes (.call "is_tie" (.cons (.var 1) (.cons (.var 2) .nil)))) .nil)) (.call "rises" (.cons (.var 2) .nil)))) .nil))))⟩
noncomputable def d_:Fn:=⟨2,4,false,(.cons (.ite (.not (.val (.call "is_pair" (.cons (.var 0) .nil)))) (.cons (.ret (.con (.bl false))) .nil) .nil) (.cons (.set (.tp [2,3]) (.var 0)) (.cons (.ret (.and (.call "is_whole" (.cons (.var 2) .nil)) (.and (.call "is_whole" (.cons (.var 3) .nil)) (.cmp3 .le .lt .lt (.con (.int 0)) (.var 2) (.var 3) (.var 1))))) .nil)))⟩
noncomputable def gF:Fn:=⟨1,1,false,(.cons (.ite (.not (.val (.call "is_web" (.cons (.var 0) .nil)))) (.cons (.raise "NoWeb" (.cons (.con (.str "a web is due")) .nil)) .nil) .nil) .nil)⟩
noncomputable def gD:Fn:=⟨1,1,false,(.cons (.exp (.call "need_web" (.cons (.var 0) .nil))) (.cons (.ret (.bi .tuple (.cons (.comp (.rng (.ix (.var 0) (.con (.int 0)))) [none,none,some 0] (.nm 1) .yes (.call "hood_of" (.cons (.var 2) (.cons (.var 1) .nil)))) .nil))) .nil))⟩
noncomputable def ft:Fn:=⟨2,4,false,(.cons (.set (.tp [2,3]) (.var 0)) (.cons (.ret (.bi .tuple (.cons (.comp (.rng (.var 2)) [none,none,some 1,some 3] (.nm 1) (.or (.cmp .eq (.var 1) (.var 2)) (.val (.call "are_tied" (.cons (.var 3) (.cons (.var 2) (.cons (.var 1) .nil)))))) (.var 1)) .nil))) .nil))⟩
noncomputable def e_:Fn:=⟨3,3,false,(.cons (.ret (.cmp .isin (.tup (.cons (.bi .min (.cons (.var 1) (.cons (.var 2) .nil))) (.cons (.bi .max (.cons (.var 1) (.cons (.var 2) .nil))) .nil))) (.var 0))) .nil)⟩
noncomputable def AA:Fn:=⟨2,2,false,(.cons (.ret (.bi .tuple (.cons (.comp (.seq (.var 1)) [none,none,some 0] (.nm 1) (.cmp .isin (.var 1) (.var 2)) (.var 1)) .nil))) .nil)⟩
noncomputable def Bp:Fn:=⟨2,2,false,(.cons (.ret (.comp (.seq (.var 0)) [none,none,some 1] (.nm 1) .yes (.call "mark_of" (.cons (.var 1) (.cons (.var 2) .nil))))) .nil)⟩
noncomputable def yq:Fn:=⟨1,3,false,(.cons (.set (.nm 1) (.lst (.cons (.tup .nil) .nil))) (.cons (.for (.nm 2) (.rng (.ix (.var 0) (.con (.int 0)))) (.cons (.set (.nm 1) (.op .add (.var 1) (.comp (.seq (.var 1)) [none,none,some 2] (.nm 1) .yes (.op .add (.var 1) (.tup (.cons (.var 2) .nil)))))) .nil)) (.cons (.ret (.bi .sorted (.cons (.var 1) .nil))) .nil)))⟩
noncomputable def mI:Fn:=⟨2,2,false,(.cons (.ite (.cmp .lt (.var 1) (.bi .len (.cons (.var 0) .nil))) (.cons (.ret (.ix (.var 0) (.var 1))) .nil) .nil) (.cons (.ret (.con (.int 0))) .nil))⟩
noncomputable def zV:Fn:=⟨2,3,false,(.cons (.set (.nm 2) (.op .mod (.op .mul (.op .add (.op .add (.op .mod (.var 0) (.con (.int 2147483647))) (.op .mul (.con (.int 977)) (.var 1))) (.con (.int 1))) (.con (.int 48271))) (.con (.int 2147483647)))) (.cons (.set (.nm 2) (.op .mod (.op .mul (.var 2) (.var 2)) (.con (.int 2147483629)))) (.cons (.set (.nm 2) (.op .mod (.op .mul (.op .add (.var 2) (.op .mul (.con (.int 40692)) (.op .add (.var 1) (.con (.int 3))))) (.con (.int 69621))) (.con (.int 2147483647)))) (.cons (.ret (.op .fdiv (.var 2) (.con (.int 8)))) .nil))))⟩
noncomputable def o8:Fn:=⟨2,10,false,(.cons (.set (.nm 2) (.op .add (.con (.int 1)) (.op .mod (.var 0) (.var 1)))) (.cons (.set (.nm 3) (.op .fdiv (.var 0) (.var 1))) (.cons (.set (.nm 4) (.op .mod (.var 3) (.con (.int 6)))) (.cons (.set (.nm 5) (.lst .nil)) (.cons (.for (.nm 6) (.rng2 (.con (.int 1)) (.var 2)) (.cons (.for (.nm 7) (.rng (.var 6)) (.cons (.set (.nm 8) (.op .band (.op .shr (.op .fdiv (.var 3) (.con (.int 6))) (.op .add (.op .fdiv (.op .mul (.var 6) (.op .sub (.var 6) (.con (.int 1)))) (.con (.int 2))) (.var 7))) (.con (.int 1)))) (.cons (.ite (.cmp .eq (.var 4) (.con (.int 3))) (.cons (.set (.nm 8) (.op .fdiv (.op .mod (.call "_law_stir" (.cons (.var 0) (.cons (.op .add (.op .mul (.con (.int 8)) (.var 7)) (.var 6)) .nil))) (.con (.int 3))) (.con (.int 2)))) .nil) .nil) (.cons (.ite (.cmp .eq (.var 4) (.con (.int 4))) (.cons (.set (.nm 8) (.op .fdiv (.op .add (.op .mod (.call "_law_stir" (.cons (.var 0) (.cons (.op .add (.op .mul (.con (.int 8)) (.var 7)) (.var 6)) .nil))) (.con (.int 4))) (.con (.int 2))) (.con (.int 3)))) .nil) .nil) (.cons (.ite (.cmp .eq (.var 4) (.con (.int 5))) (.cons (.set (.nm 9) (.lst (.cons (.cmp .eq (.var 6) (.op .add (.var 7) (.con (.int 1)))) (.cons (.or (.cmp .eq (.var 6) (.op .add (.var 7) (.con (.int 1)))) (.cmp .eq (.op .sub (.var 6) (.var 7)) (.op .sub (.var 2) (.con (.int 1))))) (.cons (.cmp .eq (.var 7) (.con (.int 0))) (.cons (.con (.bl true)) (.cons (.and (.cmp .eq (.var 6) (.op .add (.var 7) (.con (.int 1)))) (.cmp .lt (.op .mod (.var 7) (.con (.int 3))) (.con (.int 2)))) .nil))))))) (.cons (.set (.nm 8) (.bi .int (.cons (.ix (.var 9) (.op .mod (.op .fdiv (.var 3) (.con (.int 6))) (.con (.int 5)))) .nil))) .nil)) .nil) (.cons (.ite (.cmp .eq (.var 8) (.con (.int 1))) (.cons (.app 5 (.tup (.cons (.var 7) (.cons (.var 6) .nil)))) .nil) .nil) .nil)))))) .nil)) (.cons (.ret (.tup (.cons (.var 2) (.cons (.bi .tuple (.cons (.bi .sorted (.cons (.own 5) .nil)) .nil)) .nil)))) .nil))))))⟩
noncomputable def Ew:Fn:=⟨1,4,false,(.cons (.set (.nm 1) (.comp (.rng (.ix (.var 0) (.con (.int 0)))) [none,none] (.nm 1) .yes (.op .shl (.con (.int 1)) (.var 1)))) (.cons (.for (.tp [2,3]) (.seq (.ix (.var 0) (.con (.int 1)))) (.cons (.seti 1 (.var 2) (.op .bor (.ix (.own 1) (.var 2)) (.op .shl (.con (.int 1)) (.var 3)))) (.cons (.seti 1 (.var 3) (.op .bor (.ix (.own 1) (.var 3)) (.op .shl (.con (.int 1)) (.var 2)))) .nil))) (.cons (.ret (.own 1)) .nil)))⟩
noncomputable def ue:Fn:=⟨2,2,false,(.cons (.ret (.bi .tuple (.cons (.comp (.rng (.var 0)) [none,none,some 1] (.nm 1) (.cmp .eq (.op .band (.op .shr (.var 2) (.var 1)) (.con (.int 1))) (.con (.int 1))) (.var 1)) .nil))) .nil)⟩
noncomputable def eh:Fn:=⟨2,2,false,(.cons (.ret (.call "is_between" (.cons (.var 1) (.cons (.con (.int 0)) (.cons (.op .sub (.ix (.var 0) (.con (.int 0))) (.con (.int 1))) .nil))))) .nil)⟩
noncomputable def mq:Fn:=⟨2,2,false,(.cons (.ite (.not (.val (.isi (.var 1) (.ty "tuple")))) (.cons (.ret (.con (.bl false))) .nil) .nil) (.cons (.ret (.and (.bi .all (.cons (.comp (.seq (.var 1)) [none,none,some 0] (.nm 1) .yes (.call "is_place" (.cons (.var 2) (.cons (.var 1) .nil)))) .nil)) (.call "rises" (.cons (.var 1) .nil)))) .nil))⟩
noncomputable def p9:Fn:=⟨2,2,false,(.cons (.ite (.not (.val (.call "is_some" (.cons (.var 0) (.cons (.var 1) .nil))))) (.cons (.raise "NoPlaces" (.cons (.con (.str "a rising tuple of places of the web is due")) .nil)) .nil) .nil) .nil)⟩
structure Web(p:Pr):Prop where
 is_whole:p.fns "is_whole" = some ja
 is_between:p.fns "is_between" = some zX
 is_pair:p.fns "is_pair" = some gO
 rises:p.fns "rises" = some iE
 is_web:p.fns "is_web" = some fJ
 is_tie:p.fns "is_tie" = some d_
 need_web:p.fns "need_web" = some gF
 MOST:p.glb "MOST" = some (.int 8)
structure Base(p:Pr):Prop extends Web p where
 all_some:p.fns "all_some" = some yq
 _law_cell_at:p.fns "_law_cell_at" = some mI
 _law_stir:p.fns "_law_stir" = some zV
 _law_web:p.fns "_law_web" = some o8
 _law_some:p.fns "_law_some" = some ue
structure jA(p:Pr):Prop where
 _law_cell_at:p.fns "_law_cell_at" = some mI
 _law_stir:p.fns "_law_stir" = some zV
 _law_web:p.fns "_law_web" = some o8
theorem Base.draw{p:Pr}(B:Base p):jA p:=⟨B._law_cell_at,B._law_stir,B._law_web⟩
structure Hds(p:Pr):Prop where
 hoods:p.fns "hoods" = some gD
 hood_of:p.fns "hood_of" = some ft
 are_tied:p.fns "are_tied" = some e_
structure Nbr(p:Pr):Prop where
 hoods:p.fns "hoods" = some gD
 hood_of:p.fns "hood_of" = some ft
 are_tied:p.fns "are_tied" = some e_
 mark_of:p.fns "mark_of" = some AA
 marks_of:p.fns "marks_of" = some Bp
structure DI(p:Pr):Prop extends Nbr p where
 _law_masks:p.fns "_law_masks" = some Ew
noncomputable instance {p:Pr}:CoeOut (Base p) (Web p):=⟨λb=>b.toWeb⟩
theorem Nbr.hds{p:Pr}(O:Nbr p):Hds p:=⟨O.hoods,O.hood_of,O.are_tied⟩
noncomputable instance {p:Pr}:CoeOut (Base p) (jA p):=⟨λb=>b.draw⟩
noncomputable instance {p:Pr}:CoeOut (Nbr p) (Hds p):=⟨λb=>b.hds⟩
noncomputable instance {p:Pr}:CoeOut (DI p) (Nbr p):=⟨λb=>b.toNbr⟩
structure lS(p:Pr):Prop where
 is_place:p.fns "is_place" = some eh
 is_some:p.fns "is_some" = some mq
structure gK(p:Pr):Prop where
 is_place:p.fns "is_place" = some eh
 is_some:p.fns "is_some" = some mq
 need_some:p.fns "need_some" = some p9
theorem gK.a{p:Pr}(b:gK p):lS p:=⟨b.is_place,b.is_some⟩
noncomputable instance {p:Pr}:CoeOut (gK p) (lS p):=⟨λb=>b.a⟩
section
variable{p:Pr}
theorem qc{k:Nat}{x:Str}{f:Fn}{ds:List D}(h:p.fns x=some f):qa p (k+1) x ds=zF ⟨qa p k,p.glb,p.sub,p.cat⟩ f ds:=by
 rw[qa,h]
theorem lV{k:Nat}{x:Str}{f:Fn}{ds:List D}{τ:Env}{Q:D->Prop}(hf:p.fns x=some f)(hl:ds.length=f.ps)(hτ:ds.map some++aZ (f.N-f.ps) none=τ)(h:Ends (λ_=>False) Q (qe (wAt p k) f.body τ)):∃d,qa p (k+1) x ds=.ok d/\Q d:=by
 rw[qc hf,zF,if_pos hl,hτ];cases z:qe ⟨qa p k,p.glb,p.sub,p.cat⟩ f.body τ with
 |rt d=>rw[z]at h;exact⟨d,rfl,h⟩
 |nx _=>rw[z]at h;exact h.elim
 |_=>rw[z]at h;exact h.elim
section
variable(B:Web p)
include B
theorem is_whole{k:Nat}(i:Int):qa p (k+1) "is_whole" [.int i]=.ok (.bl true):=by rw[qc B.is_whole];rfl
theorem is_between{k:Nat}(i a b:Int)(h:a<=i/\i<=b):qa p (k+2) "is_between" [.int i,.int a,.int b]=.ok (.bl true):=by
 rw[qc B.is_between];refine qt rfl rfl ?_;simp[KG.Z,zX,is_whole B,qi,jP,h.1,h.2]
theorem is_pair{k:Nat}(a b:D):qa p (k+1) "is_pair" [.tup [a,b]]=.ok (.bl true):=by
 rw[qc B.is_pair];refine qt rfl rfl ?_;simp[KG.Z,gO,b1,seq?,qi,D.asks,D.plain,D.deep,D.eqv]
theorem is_tie{k:Nat}(a b m:Int)(h:0<=a/\a<b/\b<m):qa p (k+2) "is_tie" [.tup [.int a,.int b],.int m]=.ok (.bl true):=by
 rw[qc B.is_tie];refine qt rfl rfl ?_;simp[KG.Z,d_,is_pair B,is_whole B,qi,jP,h.1,h.2.1,h.2.2]
theorem rises{k:Nat}(xs:List D)(hz:xs.length<=28)(h:∀(i:Nat) (q:i+1<xs.length),qi .lt xs[i] xs[i+1]=.ok true):qa p (k+1) "rises" [.tup xs]=.ok (.bl true):=by
 rw[qc B.rises];refine qt rfl rfl ?_;have hr:qC ((xs.length:Int)-1)=true:=by simp[qC];lia
 have hc:evE ⟨qa p k,p.glb,p.sub,p.cat⟩ (.comp (.rng (.op .sub (.bi .len (.cons (.var 0) .nil)) (.con (.int 1)))) [none,none,some 0] (.nm 1) .yes (.cmp .lt (.ix (.var 2) (.var 1)) (.ix (.var 2) (.op .add (.var 1) (.con (.int 1)))))) [some (.tup xs)]=.ok (.lst ((zY 0 ((xs.length:Int)-1).toNat).flatMap λ_=>[.bl true])):=by
  refine iU (c:=[some (.tup xs)]) ?_ ?_ rfl ?_
  ·simp[KG.Z,b1,seq?,op2,hr]
  ·simp[zY,SZ];lia
  ·intro x hx;simp only[zY,aM,List.mem_range]at hx;obtain⟨i,hi,rfl⟩:=hx;have e1:atI xs ((0:Int)+(i:Int))=some xs[i]:=by rw[Int.zero_add];exact fQ (by lia)
   have e2:atI xs ((0:Int)+(i:Int)+1)=some xs[i+1]:=by rw[Int.zero_add];exact fQ (i:=i+1) (by lia)
   have e3:=h i (by lia);simp only[Int.zero_add]at e1 e2;simp[KG.Z,ixD,op2,e1,e2,e3]
 simp[KG.Z,iE,hc,b1,all_true,Co]
theorem is_web{k:Nat}{m:Int}{ts:List (Int×Int)}(h:GW m ts):qa p (k+3) "is_web" [wb m ts]=.ok (.bl true):=by
 rw[qc B.is_web];refine qt rfl rfl ?_;have hr:=rises B (k:=k+1) (ts.map prD) (by simpa using h.len) (λi q=>by
  rw[List.getElem_map,List.getElem_map];exact Bo (List.pairwise_iff_getElem.mp h.lt i (i+1) (by simp at q;lia) (by simpa using q) (by lia)))
 have hc:evE ⟨qa p (k+2),p.glb,p.sub,p.cat⟩ (.comp (.seq (.var 2)) [none,none,some 1] (.nm 1) .yes (.call "is_tie" (.cons (.var 1) (.cons (.var 2) .nil)))) [some (wb m ts),some (.int m),some (.tup (ts.map prD))]=.ok (.lst ((ts.map prD).flatMap λ_=>[.bl true])):=by
  refine iU (c:=[some (.int m)]) ?_ ?_ rfl ?_
  ·simp[KG.Z,seq?]
  ·simp[SZ];have:=h.len;lia
  ·intro x hx;rw[aM]at hx;obtain⟨t,ht,rfl⟩:=hx;have e:=is_tie B (k:=k) t.1 t.2 m (h.ok t ht);have e':qa p (k+2) "is_tie" [prD t,.int m]=.ok (.bl true):=e;simp[KG.Z,e']
 simp[KG.Z,fJ,is_pair B,is_between B m 1 8 ⟨h.lo,h.hi⟩,B.MOST,hc,b1,all_true,hr]
theorem need_web{k:Nat}{m:Int}{ts:List (Int×Int)}(h:GW m ts):qa p (k+4) "need_web" [wb m ts]=.ok .non:=by
 rw[qc B.need_web];simp only[zF];simp[KG.Z,gF,is_web B h]
end
theorem iV(hf:p.fns "_law_stir" = some zV){k:Nat}(c j:Int):qa p (k+1) "_law_stir" [.int c,.int j]=.ok (.int (st c j)):=by
 have s1:small 977=true:=by decide
 have s2:small 48271=true:=by decide
 have s3:small 40692=true:=by decide
 have s4:small 69621=true:=by decide
 have s5:=wY ((c%2147483647+977 * j+1) * 48271) 2147483647 (by decide) (by decide);rw[qc hf];refine qt rfl rfl ?_;simp[KG.Z,zV,op2,s1,s2,s3,s4,s5,st]
section
variable(B:Base p)
include B
end
section
variable(B:Web p)(S:lS p)
include B S
theorem is_place{k:Nat}(i m:Int)(t:D)(h:0<=i/\i<m):qa p (k+3) "is_place" [.tup [.int m,t],.int i]=.ok (.bl true):=by
 rw[qc S.is_place];refine qt rfl rfl ?_;simp[KG.Z,eh,ixD,atI,ixN,op2,is_between B i 0 (m-1) (by lia)]
theorem is_some{k:Nat}{m:Int}{t:D}{s:List Int}(h:GS m s):qa p (k+4) "is_some" [.tup [.int m,t],tu s]=.ok (.bl true):=by
 rw[qc S.is_some];refine qt rfl rfl ?_;have hr:=rises B (k:=k+2) (s.map D.int) (by simp;have:=h.len;lia) (λi q=>by
  rw[List.getElem_map,List.getElem_map];have:=List.pairwise_iff_getElem.mp h.lt i (i+1) (by simp at q;lia) (by simpa using q) (by lia);simp[qi,jP,this])
 have hc:evE ⟨qa p (k+3),p.glb,p.sub,p.cat⟩ (.comp (.seq (.var 1)) [none,none,some 0] (.nm 1) .yes (.call "is_place" (.cons (.var 2) (.cons (.var 1) .nil)))) [some (.tup [.int m,t]),some (tu s)]=.ok (.lst ((s.map D.int).flatMap λ_=>[.bl true])):=by
  refine iU (c:=[some (.tup [.int m,t])]) ?_ ?_ rfl ?_
  ·simp[KG.Z,seq?]
  ·simp[SZ];have:=h.len;lia
  ·intro x hx;rw[aM]at hx;obtain⟨i,hi,rfl⟩:=hx;simp[KG.Z,is_place B S i m t (h.ok i hi)]
 simp[KG.Z,mq,hc,b1,all_true,hr]
omit S in
theorem need_some(S:gK p){k:Nat}{m:Int}{t:D}{s:List Int}(h:GS m s):qa p (k+5) "need_some" [.tup [.int m,t],tu s]=.ok .non:=by
 rw[qc S.need_some];simp only[zF];simp[KG.Z,p9,is_some B S h]
end
theorem p8(hA:p.fns "are_tied" = some e_){k:Nat}(ts:List (Int×Int))(a b:Int):qa p (k+1) "are_tied" [.tup (ts.map prD),.int a,.int b]=.ok (.bl (dI ts a b)):=by
 rw[qc hA];refine qt rfl rfl ?_;simp[KG.Z,e_,b1,xF,dI,mn,mx]
theorem lq(hH:p.fns "hood_of" = some ft)(hA:p.fns "are_tied" = some e_){k:Nat}{m:Int}{ts:List (Int×Int)}(h:GW m ts)(a:Int):qa p (k+2) "hood_of" [wb m ts,.int a]=.ok (tu (hd m ts a)):=by
 rw[qc hH];refine qt rfl rfl ?_;have h1:=h.lo;have h2:=h.hi;have hc:evE ⟨qa p (k+1),p.glb,p.sub,p.cat⟩ (.comp (.rng (.var 2)) [none,none,some 1,some 3] (.nm 1) (.or (.cmp .eq (.var 1) (.var 2)) (.val (.call "are_tied" (.cons (.var 3) (.cons (.var 2) (.cons (.var 1) .nil)))))) (.var 1)) [some (wb m ts),some (.int a),some (.int m),some (.tup (ts.map prD))]=.ok (.lst ((hd m ts a).map D.int)):=by
  rw[hd,<-BU,<-zK];refine iU (c:=[some (.int a),some (.tup (ts.map prD))]) ?_ ?_ rfl ?_
  ·have:qC m=true:=by simp[qC];lia
   simp[KG.Z,this]
  ·simp[zY,SZ];lia
  ·intro x hx;rw[zK,aM]at hx;obtain⟨b,hb,rfl⟩:=hx;have e:qi .eq (.int b) (.int a)=.ok (b==a):=rfl;simp[KG.Z,e,p8 hA];by_cases q:b=a
   ·simp[q]
   ·simp[q];cases dI ts a b<;>simp
 simp[KG.Z,ft,hc,b1,seq?]
section
variable(B:Web p)(O:Hds p)
include O
theorem are_tied{k:Nat}(ts:List (Int×Int))(a b:Int):qa p (k+1) "are_tied" [.tup (ts.map prD),.int a,.int b]=.ok (.bl (dI ts a b)):=p8 O.are_tied ts a b
theorem hood_of{k:Nat}{m:Int}{ts:List (Int×Int)}(h:GW m ts)(a:Int):qa p (k+2) "hood_of" [wb m ts,.int a]=.ok (tu (hd m ts a)):=lq O.hood_of O.are_tied h a
include B
theorem hoods{k:Nat}{m:Int}{ts:List (Int×Int)}(h:GW m ts):qa p (k+5) "hoods" [wb m ts]=.ok (.tup ((rng m).map λa=>tu (hd m ts a))):=by
 rw[qc O.hoods];refine qt rfl rfl ?_;have h1:=h.lo;have h2:=h.hi;have hc:evE ⟨qa p (k+4),p.glb,p.sub,p.cat⟩ (.comp (.rng (.ix (.var 0) (.con (.int 0)))) [none,none,some 0] (.nm 1) .yes (.call "hood_of" (.cons (.var 2) (.cons (.var 1) .nil)))) [some (wb m ts)]=.ok (.lst ((rng m).map λa=>tu (hd m ts a))):=by
  rw[<-Ba,<-zK];refine iU (c:=[some (wb m ts)]) ?_ ?_ rfl ?_
  ·have:qC m=true:=by simp[qC];lia
   simp[KG.Z,this,ixD,atI,ixN]
  ·simp[zY,SZ];lia
  ·intro x hx;rw[zK,aM]at hx;obtain⟨b,hb,rfl⟩:=hx;simp[KG.Z,hood_of O h]
 simp[KG.Z,gD,need_web B h,hc,b1,seq?]
end
section
variable(O:Nbr p)
include O
end
end
theorem iH{α:Type}{w:W}{it:It}{cap:List (Option Nat)}{t:T}{elt:E}{τ c:Env}{l:List α}{f:α->D}(q:α->Bool)(g:α->D)(h:evI w it τ=.ok (l.map f))(hz:l.length<=SZ)(hc:dR cap τ=none::none::c)
  (hb:∀a∈l,evT w t (none::some (f a)::c)=.ok (q a)/\(q a=true->evE w elt (none::some (f a)::c)=.ok (g a))):evE w (.comp it cap (.nm 1) t elt) τ=.ok (.lst ((l.filter q).map g)):=by
 have key:∀(r:List α) (v:Option D) (acc:List D),(∀x∈r,x∈l)->zU (λx σ=>noEx ((store (.nm 1) x σ).bind λσ'=>(evT w t σ').bind λr=>if r then (evE w elt σ').bind λd=>.ok (σ',[d])else .ok (σ',[]))) (r.map f) (none::v::c) acc=.ok (acc++(r.filter q).map g):=by
  intro r
  induction r with
  |nil=>intro v acc _;simp[zU]
  |cons x r ih=>
   intro v acc hm;obtain⟨h1,h2⟩:=hb x (hm x aJ);rw[aQ,zU];have e:noEx ((store (.nm 1) (f x) (none::v::c)).bind λσ'=>(evT w t σ').bind λr=>if r then (evE w elt σ').bind λd=>.ok (σ',[d])else .ok (σ',[]))=.ok (none::some (f x)::c,if q x then [g x]else []):=by
    simp only[store,R.bind_ok,List.set_cons_succ,List.set_cons_zero,h1];cases hq:q x with
    |false=>rfl
    |true=>simp only[if_true,h2 hq,R.bind_ok];rfl
   rw[e];simp only[R.bind_ok];rw[ih (some (f x)) _ λy hy=>hm y (aK _ hy),List.filter_cons,List.append_assoc];cases q x<;>simp
 rw[qp,h];simp only[R.bind_ok];rw[if_neg (by simp;lia),hc,key l none [] λ_ h=>h]
 rfl
theorem fh{α:Type}{w:W}{it:It}{cap:List (Option Nat)}{elt:E}{τ c:Env}{l:List α}{f:α->D}(g:α->D)(h:evI w it τ=.ok (l.map f))(hz:l.length<=SZ)(hc:dR cap τ=none::none::c)
  (hb:∀a∈l,evE w elt (none::some (f a)::c)=.ok (g a)):evE w (.comp it cap (.nm 1) .yes elt) τ=.ok (.lst (l.map g)):=by
 have:=iH (t:=.yes) (elt:=elt) (f:=f) (λ_=>true) g h hz hc λa ha=>⟨rfl,λ_=>hb a ha⟩
 rwa[List.filter_eq_self.mpr (λ_ _=>rfl)]at this
theorem pk{w:W}{e:E}{τ:Env}{xs:List D}(h:evE w e τ=.ok (.lst xs)):evI w (.seq e) τ=.ok xs:=by rw[evI.eq_1,h];rfl
theorem lU{w:W}{e:E}{τ:Env}{xs:List D}(h:evE w e τ=.ok (.tup xs)):evI w (.seq e) τ=.ok xs:=by rw[evI.eq_1,h];rfl
theorem yk{α:Type}(l:List α)(f:α->Bool):bools? (l.map λa=>D.bl (f a))=some (l.map f):=by
 induction l with
 |nil=>rfl
 |cons a r ih=>rw[aQ,bools?,ih];rfl
theorem mj{α:Type}(l:List α)(f:α->Bool):b1 .all [.lst (l.map λa=>D.bl (f a))]=.ok (.bl (l.all f)):=by
 rw[b1,b11];simp only[dH];rw[yk];simp only[cN];rw[List.all_map];rfl
theorem oP(s:List Int):b1 .len [tu s]=.ok (.int s.length):=by
 show R.ok (D.int ((s.map D.int).length:Nat))=_;rw[aF]
theorem BR(xs:List D):b1 .len [.lst xs]=.ok (.int xs.length):=rfl
theorem lE(xs:List D):b1 .len [.tup xs]=.ok (.int xs.length):=rfl
theorem ne_int(a b:Int):qi .ne (.int a) (.int b)=.ok (!decide (a=b)):=by
 show R.ok (!(a==b))=_
 congr 1
theorem oF(a b:Bool):qi .ne (.bl a) (.bl b)=.ok (!decide (a=b)):=by
 cases a<;>cases b<;>rfl
theorem ix0{α:Type}(f:α->D)(a:α)(r:List α):ixD (.lst ((a::r).map f)) (.int 0)=.ok (f a):=by
 have:=fQ (xs:=(a::r).map f) (i:=0) (by simp);simp only[ixD];rw[show (0:Int)=((0:Nat):Int)from rfl,this];rfl
theorem x2(ns:List Int)(lo hi:Option Int):∃cs:List Int,cutD (ns.map D.int) lo hi=cs.map D.int/\cs.length<=ns.length:=by
 refine⟨(ns.drop _).take _,by rw[cutD,<-List.map_drop,<-List.map_take],by simp;lia⟩
theorem fx{α:Type}{f:α->D}{r:List D}{x:D}{l:List α}(e:x::r=l.map f):∃a l',l=a::l'/\x=f a/\r=l'.map f:=by
 cases l with
 |nil=>cases e
 |cons a l'=>rw[aQ]at e;injection e with e1 e2;exact⟨a,l',rfl,e1,e2⟩
theorem kq{w:W}{f:Fn}{ds:List D}{τ:Env}{Q:D->Prop}(hl:ds.length=f.ps)(hτ:ds.map some++aZ (f.N-f.ps) none=τ)(h:Ends (λ_=>False) Q (qe w f.body τ)):∃d,zF w f ds=.ok d/\Q d:=by
 rw[zF,if_pos hl,hτ];cases z:qe w f.body τ with
 |rt d=>rw[z]at h;exact⟨d,rfl,h⟩
 |nx _=>rw[z]at h;exact h.elim
 |_=>rw[z]at h;exact h.elim
noncomputable def fm:Fn:=⟨2,2,false,(.cons (.ite (.not (.val (.call "is_place" (.cons (.var 0) (.cons (.var 1) .nil))))) (.cons (.raise "NoPlace" (.cons (.con (.str "a place of the web is due")) .nil)) .nil) .nil) .nil)⟩
noncomputable def EW:Fn:=⟨2,2,false,(.cons (.exp (.call "need_web" (.cons (.var 0) .nil))) (.cons (.exp (.call "need_some" (.cons (.var 0) (.cons (.var 1) .nil)))) (.cons (.ret (.call "spare_by" (.cons (.call "marks_of" (.cons (.call "hoods" (.cons (.var 0) .nil)) (.cons (.var 1) .nil))) (.cons (.var 1) .nil)))) .nil)))⟩
noncomputable def tK:Fn:=⟨2,2,false,(.cons (.ret (.bi .tuple (.cons (.comp (.seq (.var 1)) [none,none,some 0] (.nm 1) (.cmp .notin (.tup (.cons (.var 1) .nil)) (.var 2)) (.var 1)) .nil))) .nil)⟩
noncomputable def eS:Fn:=⟨2,5,false,(.cons (.set (.nm 2) (.lst (.cons (.var 1) .nil))) (.cons (.for (.tp [3,4]) (.seq (.ix (.var 0) (.con (.int 1)))) (.cons (.ite (.cmp .isin (.var 1) (.tup (.cons (.var 3) (.cons (.var 4) .nil)))) (.cons (.app 2 (.op .sub (.op .add (.var 3) (.var 4)) (.var 1))) .nil) .nil) .nil)) (.cons (.ret (.bi .tuple (.cons (.bi .sorted (.cons (.own 2) .nil)) .nil))) .nil)))⟩
noncomputable def pO:Fn:=⟨3,3,false,(.cons (.ret (.bi .tuple (.cons (.comp (.seq (.call "_law_hood" (.cons (.var 0) (.cons (.var 2) .nil)))) [none,none,some 1] (.nm 1) (.cmp .isin (.var 1) (.var 2)) (.var 1)) .nil))) .nil)⟩
noncomputable def fL:Fn:=⟨2,4,false,(.cons (.ite (.cmp .is (.var 1) (.con .non)) (.cons (.ret (.cmp .is (.var 0) (.con .non))) .nil) .nil) (.cons (.ite (.val (.isi (.var 1) (.ty "bool"))) (.cons (.ret (.and (.isi (.var 0) (.ty "bool")) (.cmp .eq (.var 0) (.var 1)))) .nil) .nil) (.cons (.ite (.val (.isi (.var 1) (.ty "int"))) (.cons (.ret (.and (.isi (.var 0) (.ty "int")) (.and (.not (.isi (.var 0) (.ty "bool"))) (.cmp .eq (.var 0) (.var 1))))) .nil) .nil) (.cons (.ite (.val (.isi (.var 1) (.ty "str"))) (.cons (.ret (.and (.isi (.var 0) (.ty "str")) (.cmp .eq (.var 0) (.var 1)))) .nil) .nil) (.cons (.ite (.or (.cmp .ne (.isi (.var 1) (.ty "list")) (.isi (.var 0) (.ty "list"))) (.cmp .ne (.isi (.var 1) (.ty "tuple")) (.isi (.var 0) (.ty "tuple")))) (.cons (.ret (.con (.bl false))) .nil) .nil) (.cons (.ite (.cmp .ne (.bi .len (.cons (.var 0) .nil)) (.bi .len (.cons (.var 1) .nil))) (.cons (.ret (.con (.bl false))) .nil) .nil) (.cons (.for (.tp [2,3]) (.zip (.var 0) (.var 1)) (.cons (.ite (.not (.val (.call "_law_same" (.cons (.var 2) (.cons (.var 3) .nil))))) (.cons (.ret (.con (.bl false))) .nil) .nil) .nil)) (.cons (.ret (.con (.bl true))) .nil))))))))⟩
noncomputable def ud:Fn:=⟨1,3,false,(.cons (.set (.nm 1) (.lst .nil)) (.cons (.for (.nm 2) (.rng (.var 0)) (.cons (.set (.nm 1) (.op .add (.var 1) (.comp (.rng2 (.op .add (.var 2) (.con (.int 1))) (.var 0)) [none,none,some 2] (.nm 1) .yes (.tup (.cons (.var 2) (.cons (.var 1) .nil)))))) .nil)) (.cons (.ret (.var 1)) .nil)))⟩
noncomputable def Bn:Fn:=⟨2,5,false,(.cons (.set (.nm 2) (.lst .nil)) (.cons (.for (.tp [3,4]) (.enum (.call "_law_pairs" (.cons (.var 0) .nil))) (.cons (.ite (.and (.cmp .eq (.op .mod (.var 1) (.con (.int 2))) (.con (.int 0))) (.cmp .eq (.op .mod (.op .shr (.op .fdiv (.var 1) (.con (.int 2))) (.var 3)) (.con (.int 2))) (.con (.int 1)))) (.cons (.app 2 (.var 4)) .nil) .nil) (.cons (.ite (.and (.cmp .eq (.op .mod (.var 1) (.con (.int 2))) (.con (.int 1))) (.cmp .lt (.op .mod (.call "_law_stir" (.cons (.var 1) (.cons (.var 3) .nil))) (.con (.int 5))) (.op .add (.con (.int 1)) (.op .mod (.op .fdiv (.var 1) (.con (.int 2))) (.con (.int 3)))))) (.cons (.app 2 (.var 4)) .nil) .nil) .nil))) (.cons (.ret (.tup (.cons (.var 0) (.cons (.bi .tuple (.cons (.own 2) .nil)) .nil)))) .nil)))⟩
noncomputable def xR:Fn:=⟨2,2,false,(.cons (.ite (.cmp .eq (.op .mod (.var 1) (.con (.int 2))) (.con (.int 0))) (.cons (.ret (.bi .tuple (.cons (.comp (.rng (.var 0)) [none,none,some 1] (.nm 1) (.cmp .eq (.op .mod (.op .shr (.op .fdiv (.var 2) (.con (.int 2))) (.var 1)) (.con (.int 2))) (.con (.int 1))) (.var 1)) .nil))) .nil) .nil) (.cons (.ret (.bi .tuple (.cons (.comp (.rng (.var 0)) [none,none,some 1] (.nm 1) (.cmp .lt (.op .mod (.call "_law_stir" (.cons (.var 2) (.cons (.op .add (.var 1) (.con (.int 60))) .nil))) (.con (.int 4))) (.op .add (.con (.int 1)) (.op .mod (.op .fdiv (.var 2) (.con (.int 2))) (.con (.int 3))))) (.var 1)) .nil))) .nil))⟩
structure Lw(p:Pr):Prop where
 _law_stir:p.fns "_law_stir" = some zV
 _law_pairs:p.fns "_law_pairs" = some ud
 _law_web_by:p.fns "_law_web_by" = some Bn
 _law_some_by:p.fns "_law_some_by" = some xR
structure Lh(p:Pr):Prop where
 _law_hood:p.fns "_law_hood" = some eS
 _law_holders:p.fns "_law_holders" = some pO
section
variable{p:Pr}
theorem kn(a:D):qi .is a .non=.ok (eT a):=by cases a<;>rfl
theorem same_int(hf:p.fns "_law_same" = some fL){k:Nat}(i:Int):qa p (k+1) "_law_same" [.int i,.int i]=.ok (.bl true):=by
 rw[qc hf];refine qt rfl rfl ?_;simp[KG.Z,fL,kn,eT,eq_int]
theorem same_ints(hf:p.fns "_law_same" = some fL){k:Nat}(ns:List Int):qa p (k+2) "_law_same" [tu ns,tu ns]=.ok (.bl true):=by
 rw[qc hf];refine qt (τ:=[some (tu ns),some (tu ns),none,none]) rfl rfl ?_;refine zA (σ:=[some (tu ns),some (tu ns),none,none]) (by simp[KG.Z,kn,eT]) ?_;refine zA (σ:=[some (tu ns),some (tu ns),none,none]) (by simp[KG.Z]) ?_;refine zA (σ:=[some (tu ns),some (tu ns),none,none]) (by simp[KG.Z]) ?_;refine zA (σ:=[some (tu ns),some (tu ns),none,none]) (by simp[KG.Z]) ?_;refine zA (σ:=[some (tu ns),some (tu ns),none,none]) (by simp[KG.Z,oF]) ?_;refine zA (σ:=[some (tu ns),some (tu ns),none,none]) (by simp[KG.Z,ne_int,b1,seq?]) ?_;refine l5 (ds:=cD (ns.map D.int) (ns.map D.int)) (λr σ=>∃(ms:List Int) (v u:Option D),r=cD (ms.map D.int) (ms.map D.int)/\σ=[some (tu ns),some (tu ns),v,u]) (by simp[KG.Z]) ⟨ns,none,none,rfl,rfl⟩ ?_ ?_
 ·rintro x t σ ⟨ms,v,u,e,rfl⟩;cases ms with
  |nil=>cases e
  |cons y ms=>
   rw[aQ,cD]at e;injection e with e1 e2
   subst e1 e2;exact⟨[some (tu ns),some (tu ns),some (.int y),some (.int y)],[some (tu ns),some (tu ns),some (.int y),some (.int y)],by simp[KG.Z],by simp[KG.Z,same_int hf],ms,_,_,rfl,rfl⟩
 ·rintro σ ⟨ms,v,u,e,rfl⟩;simp[KG.Z]
theorem nM{i x:Int}{l:List Int}:x∈insI i l↔x=i\/x∈l:=by
 induction l with
 |nil=>simp[insI]
 |cons a r ih=>
  rw[insI];split
  ·simp
  ·simp only[aD,ih];constructor<;>rintro(h|h|h)<;>simp[h]
theorem ph{x:Int}{l:List Int}:x∈sortI l↔x∈l:=by
 induction l with
 |nil=>simp[sortI]
 |cons a r ih=>rw[sortI,nM,ih,aD]
theorem vE{i:Int}{l:List Int}(h:l.Pairwise (· < ·))(hn:i∉l):(insI i l).Pairwise (· < ·):=by
 induction l with
 |nil=>simp[insI]
 |cons a r ih=>
  rw[List.pairwise_cons]at h;have h0:i≠a:=λe=>hn (e▸aJ)
  rw[insI];split
  ·rename_i q
   rw[List.pairwise_cons];refine⟨λb hb=>?_,List.pairwise_cons.mpr h⟩;rcases aD.mp hb with rfl|hb
   ·lia
   ·have:=h.1 b hb;lia
  ·rename_i q
   rw[List.pairwise_cons];refine⟨λb hb=>?_,ih h.2 λe=>hn (aK _ e)⟩;rcases nM.mp hb with rfl|hb
   ·lia
   ·exact h.1 b hb
theorem Ab{l:List Int}(h:l.Nodup):(sortI l).Pairwise (· < ·):=by
 induction l with
 |nil=>simp[sortI]
 |cons a r ih=>
  rw[List.nodup_cons]at h;rw[sortI];exact vE (ih h.2) λe=>h.1 (ph.mp e)
theorem r8:∀{a b:List Int},a.Pairwise (· < ·)->b.Pairwise (· < ·)->(∀x,x∈a↔x∈b)->a=b
 | [],[],_,_,_=>rfl
 | [],y::_,_,_,h=>absurd ((h y).mpr aJ) (by simp)
 |x::_,[],_,_,h=>absurd ((h x).mp aJ) (by simp)
 |x::r,y::t,ha,hb,h=>by
  rw[List.pairwise_cons]at ha hb;have e:x=y:=by
   rcases aD.mp ((h x).mp aJ)with q|q
   ·exact q
   ·rcases aD.mp ((h y).mpr aJ)with q'|q'
    ·exact q'.symm
    ·have:=hb.1 x q;have:=ha.1 y q';lia
  subst e;rw[r8 ha.2 hb.2 λz=>⟨λq=>by
   rcases aD.mp ((h z).mp (aK _ q))with e|e
   ·subst e;have:=ha.1 z q;lia
   ·exact e,λq=>by
   rcases aD.mp ((h z).mpr (aK _ q))with e|e
   ·subst e;have:=hb.1 z q;lia
   ·exact e⟩]
noncomputable def nbf(a:Int)(t:Int×Int):List Int:=if t.1=a\/t.2=a then [t.1+t.2-a]else []
theorem vt{m:Int}{ts:List (Int×Int)}(h:GW m ts){a:Int}(ha:0<=a/\a<m):sortI (a::ts.flatMap (nbf a))=hd m ts a:=by
 have nb_mem:∀x t,t∈ts->x∈nbf a t->(t.1=a/\t.2=x/\a<x\/t.2=a/\t.1=x/\x<a):=by
  intro x t ht hx;have:=h.ok t ht;rw[nbf]at hx;split at hx
  ·simp only[List.mem_singleton]at hx;lia
  ·cases hx
 apply r8
 ·apply Ab;rw[List.nodup_cons];constructor
  ·intro q;obtain⟨t,ht,q⟩:=List.mem_flatMap.mp q;have:=nb_mem a t ht q;lia
  ·rw[List.Nodup,List.pairwise_flatMap];constructor
   ·intro t ht;rw[nbf];split<;>simp
   ·refine List.Pairwise.imp_of_mem ?_ h.lt;intro s t hs ht q x hx y hy e;subst e;have h1:=nb_mem _ s hs hx;have h2:=nb_mem _ t ht hy;have:s=t:=Prod.ext (by lia) (by lia);subst this;rw[ltP]at q;simp at q
 ·exact(iR m).sublist List.filter_sublist
 ·intro x;rw[ph,aD,List.mem_flatMap,hd,dk,cP];simp only[bP,beq_iff_eq,dI,dP,aI];constructor
  ·rintro(rfl|⟨t,ht,q⟩)
   ·exact⟨ha,.inl rfl⟩
   ·have h1:=nb_mem x t ht q;have h2:=h.ok t ht;refine⟨by lia,.inr ⟨t,ht,?_⟩⟩;rw[mn,mx];split<;>split<;>lia
  ·rintro⟨hx,rfl|⟨t,ht,q1,q2⟩⟩
   ·exact .inl rfl
   ·by_cases e:x=a
    ·exact .inl e
    ·refine .inr ⟨t,ht,?_⟩;rw[mn]at q1;rw[mx]at q2;rw[nbf];split at q1<;>split at q2<;>first|lia|(rw[if_pos (by lia),List.mem_singleton];lia)
theorem iY{w:W}{i:Nat}{e:E}{τ:Env}{xs:List D}{d:D}(h:zP τ i=.ok (.lst xs))(he:evE w e τ=.ok d)(hz:xs.length<SZ):evS w (.app i e) τ=.nx (τ.set i (some (.lst (xs++[d])))):=by
 rw[b5,h];simp only[R.out_ok];rw[he];simp only[R.out_ok,hz,if_true]
theorem lH(hf:p.fns "_law_hood" = some eS){k:Nat}{m:Int}{ts:List (Int×Int)}(h:GW m ts){a:Int}(ha:0<=a/\a<m):qa p (k+1) "_law_hood" [wb m ts,.int a]=.ok (tu (hd m ts a)):=by
 rw[qc hf];have hl:=h.len;refine qt (τ:=[some (wb m ts),some (.int a),none,none,none]) rfl rfl ?_;refine zA (σ:=[some (wb m ts),some (.int a),some (.lst [.int a]),none,none]) (by simp[KG.Z]) ?_;refine l5 (ds:=ts.map prD) (λr σ=>∃(ps:List (Int×Int)) (ns:List Int) (v u:Option D),r=ps.map prD/\ns++ps.flatMap (nbf a)=a::ts.flatMap (nbf a)/\ns.length+ps.length<=29/\σ=[some (wb m ts),some (.int a),some (.lst (ns.map D.int)),v,u]) ?_ ⟨ts,[a],none,none,rfl,rfl,by simp;lia,rfl⟩ ?_ ?_
 ·have e:ixD (wb m ts) (.int 1)=.ok (.tup (ts.map prD)):=rfl;simp[KG.Z,e,seq?]
 ·rintro x t σ ⟨ps,ns,v,u,e,e',hz,rfl⟩;cases ps with
  |nil=>cases e
  |cons y ps=>
   rw[aQ]at e;injection e with e1 e2
   subst e1 e2;have hin:=CF [y.1,y.2] a;have hin':qi .isin (.int a) (.tup [.int y.1,.int y.2])=.ok (y.1==a||(y.2==a||false)):=hin;have hs:ns.length<SZ:=by simp at hz;simp[SZ];lia
   by_cases q:y.1=a\/y.2=a
   ·refine⟨[some (wb m ts),some (.int a),some (.lst (ns.map D.int)),some (.int y.1),some (.int y.2)],[some (wb m ts),some (.int a),some (.lst ((ns++[y.1+y.2-a]).map D.int)),some (.int y.1),some (.int y.2)],rfl,?_,ps,ns++[y.1+y.2-a],_,_,rfl,?_,?_,rfl⟩
    ·simp[KG.Z,hin',op2,hs];rw[if_pos q]
    ·rw[<-e',List.flatMap_cons,nbf,if_pos q];simp
    ·simp at hz ⊢;lia
   ·refine⟨[some (wb m ts),some (.int a),some (.lst (ns.map D.int)),some (.int y.1),some (.int y.2)],[some (wb m ts),some (.int a),some (.lst (ns.map D.int)),some (.int y.1),some (.int y.2)],rfl,?_,ps,ns,_,_,rfl,?_,?_,rfl⟩
    ·have q1:¬ y.1=a:=λe=>q (.inl e)
     have q2:¬ y.2=a:=λe=>q (.inr e)
     simp[KG.Z,hin',q1,q2]
    ·rw[<-e',List.flatMap_cons,nbf,if_neg q];rfl
    ·simp at hz ⊢;lia
 ·rintro σ ⟨ps,ns,v,u,e,e',hz,rfl⟩;cases ps with
  |cons y ps=>cases e
  |nil=>
   simp only[List.flatMap_nil,cR]at e';subst e';have e1:=ints_map (a::ts.flatMap (nbf a));have e2:=vt h ha;have e3:b1 .sorted [.lst ((a::ts.flatMap (nbf a)).map D.int)]=.ok (.lst ((hd m ts a).map D.int)):=by
    rw[nQ,if_pos (by simp at hz ⊢;lia),e1];simp only;rw[e2]
   have e4:b1 .tuple [.lst ((hd m ts a).map D.int)]=.ok (tu (hd m ts a)):=rfl;simp only[aQ]at e3;simp[KG.Z,e3,e4]
theorem GS.none{m:Int}:GS m []:=⟨List.Pairwise.nil,by simp,by simp⟩
end
abbrev L(M c:Int)(m:Int)(ts:List (Int×Int))(b a dr ro:Option D):Env:=[some (.int c),some (.int M),some (.int m),some (.int (c/M)),some (.int (c/M%6)),some (.lst (ts.map prD)),b,a,dr,ro]
noncomputable def oK:S:=(.set (.nm 8) (.op .band (.op .shr (.op .fdiv (.var 3) (.con (.int 6))) (.op .add (.op .fdiv (.op .mul (.var 6) (.op .sub (.var 6) (.con (.int 1)))) (.con (.int 2))) (.var 7))) (.con (.int 1))))
noncomputable def tO:S:=(.ite (.cmp .eq (.var 4) (.con (.int 3))) (.cons (.set (.nm 8) (.op .fdiv (.op .mod (.call "_law_stir" (.cons (.var 0) (.cons (.op .add (.op .mul (.con (.int 8)) (.var 7)) (.var 6)) .nil))) (.con (.int 3))) (.con (.int 2)))) .nil) .nil)
noncomputable def B0:S:=(.ite (.cmp .eq (.var 4) (.con (.int 4))) (.cons (.set (.nm 8) (.op .fdiv (.op .add (.op .mod (.call "_law_stir" (.cons (.var 0) (.cons (.op .add (.op .mul (.con (.int 8)) (.var 7)) (.var 6)) .nil))) (.con (.int 4))) (.con (.int 2))) (.con (.int 3)))) .nil) .nil)
noncomputable def Df:S:=(.ite (.cmp .eq (.var 8) (.con (.int 1))) (.cons (.app 5 (.tup (.cons (.var 7) (.cons (.var 6) .nil)))) .nil) .nil)
abbrev LQ(M c:Int)(n:Int)(ts:List (Int×Int))(b a:Int):Env->Prop:=λσ=>∃(i:Int) (v4:Option D),σ=L M c n ts (some (.int b)) (some (.int a)) (some (.int i)) v4
section
variable{p:Pr}{k:Nat}{M c:Int}{n:Int}{ts:List (Int×Int)}{a b:Int}{i:Int}{v3 v4:Option D}{Q:D->Prop}
theorem w0(ha:0<=a)(hb0:0<=b)(hb:b<8):Ends (LQ M c n ts b a) Q (evS (wAt p (k+1)) oK (L M c n ts (some (.int b)) (some (.int a)) v3 v4)):=by
 have hbs:small b=true:=by simp[small];lia
 have hsh:0<=b * (b-1)/2+a:=by
  have:0<=b * (b-1):=by
   by_cases q:b=0
   ·rw[q];decide
   ·exact Int.mul_nonneg (by lia) (by lia)
  lia
 rw[oK];simp[KG.Z,op2,hbs,hsh];exact⟨_,_,rfl⟩
theorem w1(B:jA p):Ends (LQ M c n ts b a) Q (evS (wAt p (k+1)) tO (L M c n ts (some (.int b)) (some (.int a)) (some (.int i)) v4)):=by
 have s8:small 8=true:=by decide
 refine kF (v:=decide (c/M%6=3)) (by simp[KG.Z,eq_int]) (λ_=>jf (K:=LQ M c n ts b a) ?_ λ_ h=>zQ h) λ_=>zQ ⟨_,_,rfl⟩
 simp[KG.Z,op2,s8,iV B._law_stir];exact⟨_,_,rfl⟩
theorem w2(B:jA p):Ends (LQ M c n ts b a) Q (evS (wAt p (k+1)) B0 (L M c n ts (some (.int b)) (some (.int a)) (some (.int i)) v4)):=by
 have s8:small 8=true:=by decide
 refine kF (v:=decide (c/M%6=4)) (by simp[KG.Z,eq_int]) (λ_=>jf (K:=LQ M c n ts b a) ?_ λ_ h=>zQ h) λ_=>zQ ⟨_,_,rfl⟩
 simp[KG.Z,op2,s8,iV B._law_stir];exact⟨_,_,rfl⟩
theorem w4(hl:ts.length<SZ):Ends (λσ=>∃(us:List (Int×Int)) (v4:Option D),(us=ts\/us=ts++[(a,b)])/\σ=L M c n us (some (.int b)) (some (.int a)) (some (.int i)) v4) Q (evS (wAt p (k+1)) Df (L M c n ts (some (.int b)) (some (.int a)) (some (.int i)) v4)):=by
 refine kF (v:=decide (i=1)) (by simp[KG.Z,eq_int]) (λ_=>?_) λ_=>zQ ⟨ts,_,.inl rfl,rfl⟩
 refine zu (σ:=L M c n (ts++[(a,b)]) (some (.int b)) (some (.int a)) (some (.int i)) v4) ?_ (zQ ⟨_,_,.inr rfl,rfl⟩);simp[KG.Z,hl]
 rfl
end
end KG
namespace KG
open EV
open PySem (Str Builtin.bitAnd Builtin.bitOr)
open L2 (atI ixN ltP)
noncomputable def bs(m:Int)(n:Nat):List Int:=(rng m).filter λi=>n.testBit i.toNat
noncomputable def subs:Nat->List (List Int)
 | 0=>[[]]
 |j+1=>subs j++(subs j).map (· ++ [(j:Int)])
section
variable{p:Pr}(B:Base p)
include B
end
end KG
namespace KG
open EV
open PySem (Str)
open L2 (atI ixN ltP)
section
variable{p:Pr}(B:Base p)
include B
end
abbrev ln(N:List Nat):D:=.lst (N.map λ(x:Nat)=>D.int (x:Int))
theorem xm(ts:List (Int×Int))(a b:Int):dI ts a b=dI ts b a:=by
 rw[dI,dI]
 congr 1;funext t
 rw[Bool.eq_iff_iff];simp only[mn,mx,aI,beq_iff_eq];split<;>split<;>lia
theorem vV{m:Int}{ts:List (Int×Int)}{a b:Int}:b∈hd m ts a↔(0<=b/\b<m)/\(b=a\/dI ts a b=true):=by
 rw[hd,dk,cP];simp
noncomputable def hz(m:Int)(ts:List (Int×Int))(s:List Int):Bool:=(rng m).all λa=>!(mk m ts s a).isEmpty
noncomputable def hl(m:Int)(ts:List (Int×Int)):List (List Int):=(oy (subs m.toNat)).filter (hz m ts)
structure Sp(p:Pr):Prop where
 spare:p.fns "spare" = some EW
 spare_by:p.fns "spare_by" = some tK
noncomputable def ow(m:Int)(ts:List (Int×Int))(s:List Int)(x:Int):List Int:=(rng m).filter λa=>decide (mk m ts s a=[x])
noncomputable def sp(m:Int)(ts:List (Int×Int))(s:List Int):List Int:=s.filter λx=>decide (ow m ts s x=[])
section
variable{p:Pr}(B:Web p)(O:Nbr p)(S:gK p)
include B O S
end
noncomputable def lsm(L:List (List Int)):Int:=match L.map (λs=>(s.length:Int))with
 | []=>0
 |x::r=>o4 false x r
noncomputable def few(L:List (List Int)):List (List Int):=L.filter λs=>decide ((s.length:Int)=lsm L)
section
variable{w:W}{τ:Env}{L:List (List Int)}
end
noncomputable def iC:Fn:=⟨2,5,false,(.cons (.set (.tp [2,3]) (.var 0)) (.cons (.set (.nm 4) (.lst (.cons (.con .non) (.cons (.var 2) (.cons (.tup (.cons (.var 2) .nil)) (.cons (.tup (.cons (.var 2) (.cons (.bi .list (.cons (.var 3) .nil)) .nil))) (.cons (.tup (.cons (.con (.int 0)) (.cons (.tup .nil) .nil))) (.cons (.tup (.cons (.con (.int 9)) (.cons (.tup .nil) .nil))) (.cons (.tup (.cons (.con (.bl true)) (.cons (.tup .nil) .nil))) (.cons (.tup (.cons (.var 2) (.cons (.op .add (.var 3) (.tup (.cons (.tup (.cons (.con (.int 0)) (.cons (.con (.int 0)) .nil))) .nil))) .nil))) .nil)))))))))) (.cons (.set (.nm 4) (.op .add (.var 4) (.lst (.cons (.tup (.cons (.var 2) (.cons (.op .add (.var 3) (.tup (.cons (.tup (.cons (.op .sub (.var 2) (.con (.int 1))) (.cons (.var 2) .nil))) .nil))) .nil))) (.cons (.tup (.cons (.var 2) (.cons (.op .add (.var 3) (.tup (.cons (.tup (.cons (.con (.int 1)) (.cons (.con (.int 0)) .nil))) .nil))) .nil))) (.cons (.lst (.cons (.var 2) (.cons (.var 3) .nil))) (.cons (.tup (.cons (.var 2) (.cons (.var 3) (.cons (.tup .nil) .nil)))) (.cons (.con (.str "1")) .nil)))))))) (.cons (.set (.nm 4) (.op .add (.var 4) (.lst (.cons (.tup (.cons (.var 2) (.cons (.con .non) .nil))) (.cons (.tup (.cons (.var 2) (.cons (.tup (.cons (.tup (.cons (.con (.int 0)) .nil)) .nil)) .nil))) (.cons (.tup (.cons (.neg (.con (.int 1))) (.cons (.tup .nil) .nil))) (.cons (.tup (.cons (.var 2) (.cons (.op .add (.var 3) (.tup (.cons (.con .non) .nil))) .nil))) (.cons (.tup (.cons (.var 2) (.cons (.tup (.cons (.tup (.cons (.con (.int 0)) (.cons (.con (.int 1)) .nil))) (.cons (.tup (.cons (.con (.int 0)) (.cons (.con (.int 1)) .nil))) .nil))) .nil))) .nil)))))))) (.cons (.ret (.ix (.op .add (.var 4) (.lst (.cons (.tup (.cons (.con (.str "1")) (.cons (.tup .nil) .nil))) (.cons .dic (.cons (.tup (.cons (.var 2) (.cons (.tup (.cons (.tup (.cons (.con (.bl false)) (.cons (.con (.int 1)) .nil))) .nil)) .nil))) (.cons (.tup (.cons (.op .pow (.con (.int 10)) (.con (.int 30))) (.cons (.tup .nil) .nil))) .nil)))))) (.op .mod (.var 1) (.con (.int 22))))) .nil)))))⟩
noncomputable def od:D->Bool
 | .int _=>false
 | .fn _=>false
 | .exn _=>false
 |_=>true
noncomputable def nt:D->Bool
 | .tup _=>false
 | .fn _=>false
 | .exn _=>false
 |_=>true
theorem pick{l:List D}{P:D->Prop}(hL:∀d∈l,P d)(i:Int)(h:0<=i/\i<l.length):∃d,ixD (.lst l) (.int i)=.ok d/\P d:=by
 obtain⟨j,rfl⟩:∃j:Nat,i=j:=⟨i.toNat,by lia⟩
 have hj:j<l.length:=by lia
 refine⟨l[j],?_,hL _ (List.getElem_mem hj)⟩;simp only[ixD];rw[fQ hj]
theorem uq(xs ys:List D)(h:xs.length+ys.length<=SZ):op2 .add (.tup xs) (.tup ys)=.ok (.tup (xs++ys)):=by
 rw[op2,if_pos ⟨rfl,h⟩]
noncomputable def dU(m T:Int)(TS:List D):List D:=[.non,.int m,.tup [.int m],.tup [.int m,.lst (TS)],.tup [.int 0,.tup []],.tup [.int 9,.tup []],.tup [.bl true,.tup []],.tup [.int m,.tup (TS++[.tup [.int 0,.int 0]])],.tup [.int m,.tup (TS++[.tup [.int (m-1),.int m]])],.tup [.int m,.tup (TS++[.tup [.int 1,.int 0]])],.lst [.int m,.tup (TS)],.tup [.int m,.tup (TS),.tup []],.str "1",.tup [.int m,.non],.tup [.int m,.tup [.tup [.int 0]]],.tup [.int (-1),.tup []],.tup [.int m,.tup (TS++[.non])],.tup [.int m,.tup [.tup [.int 0,.int 1],.tup [.int 0,.int 1]]],.tup [.str "1",.tup []],.dic [],.tup [.int m,.tup [.tup [.bl false,.int 1]]],.tup [.int T,.tup []]]
section
variable{p:Pr}(B:Web p)
include B
theorem oI{k:Nat}{d:D}(h:od d=true):qa p (k+1) "is_whole" [d]=.ok (.bl false):=by
 rw[qc B.is_whole];cases d<;>first|(cases h;done)|rfl
theorem rZ{k:Nat}(i a b:Int):qa p (k+2) "is_between" [.int i,.int a,.int b]=.ok (.bl (decide (a<=i/\i<=b))):=by
 have e1:qi .le (.int a) (.int i)=.ok (decide (a<=i)):=rfl;have e2:qi .le (.int i) (.int b)=.ok (decide (i<=b)):=rfl;by_cases q:a<=i
 ·have e1:qi .le (.int a) (.int i)=.ok true:=by rw[e1,decide_eq_true q]
  by_cases q2:i<=b
  ·have e2:qi .le (.int i) (.int b)=.ok true:=by rw[e2,decide_eq_true q2]
   rw[qc B.is_between];refine qt rfl rfl ?_;simp[KG.Z,zX,is_whole B,e1,e2,q,q2]
  ·have e2:qi .le (.int i) (.int b)=.ok false:=by rw[e2,decide_eq_false q2]
   rw[qc B.is_between];refine qt rfl rfl ?_;simp[KG.Z,zX,is_whole B,e1,e2,q,q2]
 ·have e1:qi .le (.int a) (.int i)=.ok false:=by rw[e1,decide_eq_false q]
  rw[qc B.is_between];refine qt rfl rfl ?_;simp[KG.Z,zX,is_whole B,e1,q]
theorem lT{k:Nat}{d:D}(h:od d=true)(a b:D):qa p (k+2) "is_between" [d,a,b]=.ok (.bl false):=by
 rw[qc B.is_between];refine qt rfl rfl ?_;simp[KG.Z,zX,oI B h]
theorem gC{k:Nat}{d:D}(h:nt d=true):qa p (k+1) "is_pair" [d]=.ok (.bl false):=by
 rw[qc B.is_pair];cases d<;>first|(cases h;done)|rfl
theorem nI{k:Nat}(xs:List D):qa p (k+1) "is_pair" [.tup xs]=.ok (.bl (decide ((xs.length:Int)=2))):=by
 have e:=lE xs;have e2:=eq_int (xs.length:Int) 2;rw[qc B.is_pair];refine qt rfl rfl ?_;simp[KG.Z,gO,e,e2]
theorem oh{k:Nat}(a b m:Int):qa p (k+2) "is_tie" [.tup [.int a,.int b],.int m]=.ok (.bl (decide (0<=a/\a<b/\b<m))):=by
 have e1:qi .le (.int 0) (.int a)=.ok (decide (0<=a)):=rfl;have e2:qi .lt (.int a) (.int b)=.ok (decide (a<b)):=rfl;have e3:qi .lt (.int b) (.int m)=.ok (decide (b<m)):=rfl;by_cases q1:0<=a
 ·rw[decide_eq_true q1]at e1;by_cases q2:a<b
  ·rw[decide_eq_true q2]at e2;by_cases q3:b<m
   ·rw[decide_eq_true q3]at e3;rw[qc B.is_tie];refine qt rfl rfl ?_;simp[KG.Z,d_,is_pair B,is_whole B,e1,e2,e3,q1,q2,q3]
   ·rw[decide_eq_false q3]at e3;rw[qc B.is_tie];refine qt rfl rfl ?_;simp[KG.Z,d_,is_pair B,is_whole B,e1,e2,e3,q1,q2,q3]
  ·rw[decide_eq_false q2]at e2;rw[qc B.is_tie];refine qt rfl rfl ?_;simp[KG.Z,d_,is_pair B,is_whole B,e1,e2,q1,q2]
 ·rw[decide_eq_false q1]at e1;rw[qc B.is_tie];refine qt rfl rfl ?_;simp[KG.Z,d_,is_pair B,is_whole B,e1,q1]
theorem rN{k:Nat}{d:D}{m:D}(h:∀k,qa p (k+1) "is_pair" [d]=.ok (.bl false)):qa p (k+2) "is_tie" [d,m]=.ok (.bl false):=by
 rw[qc B.is_tie];refine qt rfl rfl ?_;simp[KG.Z,d_,h]
theorem BC{k:Nat}{a b:D}{m:D}(h:od a=true):qa p (k+2) "is_tie" [.tup [a,b],m]=.ok (.bl false):=by
 rw[qc B.is_tie];refine qt rfl rfl ?_;simp[KG.Z,d_,is_pair B,oI B h]
theorem Dg{k:Nat}(xs:List D)(hz:xs.length<=100)(b:Nat->Bool)(h:∀(i:Nat) (q:i+1<xs.length),qi .lt xs[i] xs[i+1]=.ok (b i)):qa p (k+1) "rises" [.tup xs]=.ok (.bl ((a8 (xs.length-1)).all b)):=by
 rw[qc B.rises];refine qt (τ:=[some (.tup xs)]) rfl rfl ?_;have hr:qC ((xs.length:Int)-1)=true:=by simp[qC];lia
 have hc:evE ⟨qa p k,p.glb,p.sub,p.cat⟩ (.comp (.rng (.op .sub (.bi .len (.cons (.var 0) .nil)) (.con (.int 1)))) [none,none,some 0] (.nm 1) .yes (.cmp .lt (.ix (.var 2) (.var 1)) (.ix (.var 2) (.op .add (.var 1) (.con (.int 1)))))) [some (.tup xs)]=.ok (.lst ((a8 (xs.length-1)).map λi=>.bl (b i))):=by
  refine fh (f:=λ(i:Nat)=>D.int (i:Int)) (c:=[some (.tup xs)]) (λi=>.bl (b i)) ?_ ?_ rfl ?_
  ·have e:zY 0 (xs.length-1)=(a8 (xs.length-1)).map λ(i:Nat)=>D.int (i:Int):=by
    rw[zY];simp
   simp[KG.Z,b1,seq?,op2,hr,e]
  ·simp[SZ];lia
  ·intro i hi;have hi:=List.mem_range.mp hi;have e1:atI xs (i:Int)=some xs[i]:=fQ (by lia);have e2:atI xs ((i:Int)+1)=some xs[i+1]:=fQ (i:=i+1) (by lia);have e3:=h i (by lia);simp[KG.Z,ixD,op2,e1,e2,e3]
 have h3:=mj (a8 (xs.length-1)) b;show qe _ (.cons (.ret (.bi .all (.cons _ .nil))) .nil) _=_;rw[qe,zL,qo,zz,hc];simp only[R.bind_ok,zz,h3,R.out_ok]
theorem gx{k:Nat}{d:D}(h:∀k,qa p (k+1) "is_pair" [d]=.ok (.bl false)):qa p (k+3) "is_web" [d]=.ok (.bl false):=by
 have h:=h (k+1);rw[qc B.is_web];refine qt rfl rfl ?_;simp[KG.Z,fJ,h]
theorem lu{k:Nat}{a b:D}(h:∀k,qa p (k+2) "is_between" [a,.int 1,.int 8]=.ok (.bl false)):qa p (k+3) "is_web" [.tup [a,b]]=.ok (.bl false):=by
 rw[qc B.is_web];refine qt rfl rfl ?_;simp[KG.Z,fJ,is_pair B,B.MOST,h]
theorem pT{k:Nat}{m:Int}(h:1<=m/\m<=8){b:D}(hb:nt b=true):qa p (k+3) "is_web" [.tup [.int m,b]]=.ok (.bl false):=by
 have e:∀w:W,ck w b (.ty "tuple")=.ok (.bl false):=λw=>by cases b<;>first|(cases hb;done)|rfl
 rw[qc B.is_web];refine qt rfl rfl ?_;simp[KG.Z,fJ,is_pair B,is_between B m 1 8 h,B.MOST,e]
theorem lK{k:Nat}{m:Int}(h:1<=m/\m<=8){ys:List (D×Bool)}{xs:List D}(hx:xs=ys.map (·.1))(hz:xs.length<=100)(hf:∀y∈ys,qa p (k+2) "is_tie" [y.1,.int m]=.ok (.bl y.2))(hb:ys.all (·.2)=false\/qa p (k+2) "rises" [.tup xs]=.ok (.bl false)):qa p (k+3) "is_web" [.tup [.int m,.tup xs]]=.ok (.bl false):=by
 rw[qc B.is_web];refine qt (τ:=[some (.tup [.int m,.tup xs]),none,none]) rfl rfl ?_;have hc:evE ⟨qa p (k+2),p.glb,p.sub,p.cat⟩ (.comp (.seq (.var 2)) [none,none,some 1] (.nm 1) .yes (.call "is_tie" (.cons (.var 1) (.cons (.var 2) .nil)))) [some (.tup [.int m,.tup xs]),some (.int m),some (.tup xs)]=.ok (.lst (ys.map λx=>.bl x.2)):=by
  refine fh (f:=λ(x:D×Bool)=>x.1) (c:=[some (.int m)]) (λ(x:D×Bool)=>.bl x.2) (by rw[<-hx];exact lU rfl) (by rw[hx]at hz;simp at hz;simp[SZ];lia) rfl λx hx=>?_
  have e:=hf x hx;simp[KG.Z,e]
 have h3:=mj ys (·.2);show qe _ (.cons (.ite _ _ _) (.cons (.set (.tp [1,2]) _) (.cons (.ite _ _ _) (.cons (.ret (.and (.bi .all (.cons _ .nil)) _)) .nil)))) _=_;refine zA (σ:=[some (.tup [.int m,.tup xs]),none,none]) (by simp[KG.Z,is_pair B]) ?_;refine zA (σ:=[some (.tup [.int m,.tup xs]),some (.int m),some (.tup xs)]) (by simp[KG.Z]) ?_;refine zA (σ:=[some (.tup [.int m,.tup xs]),some (.int m),some (.tup xs)]) (by simp[KG.Z,is_between B m 1 8 h,B.MOST]) ?_;rw[qe,zL,qy,qo,zz,hc];simp only[R.bind_ok,zz,h3];rcases hb with hb|hb
 ·rw[hb];rfl
 ·cases q:ys.all (·.2)with
  |false=>rfl
  |true=>simp[KG.Z,hb]
theorem DM(hf:p.fns "_law_no_web" = some iC){k:Nat}{m:Int}{ts:List (Int×Int)}(h:GW m ts)(n:Int):∃d,qa p (k+1) "_law_no_web" [wb m ts,.int n]=.ok d/\∀k,qa p (k+3) "is_web" [d]=.ok (.bl false):=by
 have hm:1<=m/\m<=8:=⟨h.lo,h.hi⟩
 have hl:=h.len;have hz:(ts.map prD).length<=99:=by simp;lia
 have old:∀(k:Nat) (x:D),x∈ts.map prD->qa p (k+2) "is_tie" [x,.int m]=.ok (.bl true):=λk x hx=>by
  obtain⟨t,ht,rfl⟩:=aM.mp hx;exact is_tie B t.1 t.2 m (h.ok t ht)
 -- a tie more that is none
 have more:∀(x:D),(∀k,qa p (k+2) "is_tie" [x,.int m]=.ok (.bl false))->∀k,qa p (k+3) "is_web" [.tup [.int m,.tup (ts.map prD++[x])]]=.ok (.bl false):=λx hx k=>by
  refine lK B hm (ys:=ts.map (λt=>(prD t,true))++[(x,false)]) (by simp) (by simp at hz ⊢;lia) (λy hy=>?_) (.inl (by simp));rcases List.mem_append.mp hy with z|z
  ·obtain⟨t,ht,rfl⟩:=aM.mp z;exact is_tie B t.1 t.2 m (h.ok t ht)
  ·rw[List.mem_singleton.mp z];exact hx k
 have hT:op2 .pow (.int 10) (.int 30)=.ok (.int (10^30)):=by rw[op2,opI,if_pos (by decide)];rfl
 have hb:¬ ((1:Int)<=10^30/\(10:Int)^30<=8):=by decide
 generalize (10:Int)^30=T at *;have hL:∀d∈dU m T (ts.map prD),∀k,qa p (k+3) "is_web" [d]=.ok (.bl false):=by
  have num:∀(i:Int) (b:D),¬ (1<=i/\i<=8)->∀k,qa p (k+3) "is_web" [.tup [.int i,b]]=.ok (.bl false):=λi b hi k=>lu B λk=>by rw[rZ B,decide_eq_false hi]
  have len:∀xs:List D,(xs.length:Int)≠2->∀k,qa p (k+3) "is_web" [.tup xs]=.ok (.bl false):=λxs hx k=>gx B λk=>by rw[nI B,decide_eq_false hx]
  have one:∀x:D,(∀k,qa p (k+2) "is_tie" [x,.int m]=.ok (.bl false))->∀k,qa p (k+3) "is_web" [.tup [.int m,.tup [x]]]=.ok (.bl false):=λx hx k=>lK B hm (ys:=[(x,false)]) rfl (by simp) (λy hy=>by rw[List.mem_singleton.mp hy];exact hx k) (.inl rfl)
  have tv:∀a b:Int,¬ (0<=a/\a<b/\b<m)->∀k,qa p (k+2) "is_tie" [.tup [.int a,.int b],.int m]=.ok (.bl false):=λa b q k=>by rw[oh B,decide_eq_false q]
  simp only[dU,List.forall_mem_cons];refine⟨λk=>gx B λk=>gC B rfl,λk=>gx B λk=>gC B rfl,len _ (by simp),λk=>pT B hm rfl,num 0 _ (by decide),num 9 _ (by decide),λk=>lu B λk=>lT B rfl _ _,more _ (tv 0 0 (by lia)),more _ (tv (m-1) m (by lia)),more _ (tv 1 0 (by lia)),λk=>gx B λk=>gC B rfl,len _ (by simp),λk=>gx B λk=>gC B rfl,λk=>pT B hm rfl,one _ λk=>rN B λk=>by rw[nI B];rfl,num (-1) _ (by decide),more _ λk=>rN B λk=>gC B rfl,?_,λk=>lu B λk=>lT B rfl _ _,λk=>gx B λk=>gC B rfl,one _ λk=>BC B rfl,num T _ hb,by simp⟩;intro k;refine lK B hm (ys:=[(.tup [.int 0,.int 1],decide (1<m)),(.tup [.int 0,.int 1],decide (1<m))]) rfl (by simp) (λy hy=>?_) ?_
  ·simp only[aD,bV,or_false,or_self]at hy;rw[hy,oh B];simp
  ·refine .inr ?_;have:=Dg B (k:=k+1) [.tup [.int 0,.int 1],.tup [.int 0,.int 1]] (by simp) (λ_=>false) λi q=>by
    have:i=0:=by simp at q;lia
    subst this;rfl
   rw[this];rfl
 obtain⟨d,e,hd⟩:=pick hL (n%22) ⟨by lia,by show n%22<22;lia⟩;refine⟨d,?_,hd⟩;rw[qc hf];refine qt (τ:=[some (.tup [.int m,.tup (ts.map prD)]),some (.int n),none,none,none]) rfl rfl ?_;have a1:∀x:D,op2 .add (.tup (ts.map prD)) (.tup [x])=.ok (.tup (ts.map prD++[x])):=λx=>uq _ _ (by simp[SZ];lia)
 have a2:b1 .list [.tup (ts.map prD)]=.ok (.lst (ts.map prD)):=rfl;have a3:op2 .mod (.int n) (.int 22)=.ok (.int (n%22)):=rfl;have a4:op2 .sub (.int m) (.int 1)=.ok (.int (m-1)):=rfl;have a5:∀xs ys:List D,xs.length+ys.length<=100->op2 .add (.lst xs) (.lst ys)=.ok (.lst (xs++ys)):=λxs ys q=>by rw[op2,if_pos ⟨rfl,by simp[SZ];lia⟩]
 generalize ts.map prD=TS at *;show qe _ (.cons _ (.cons _ (.cons _ (.cons _ (.cons _ .nil))))) _=_;refine zA (σ:=[some (.tup [.int m,.tup TS]),some (.int n),some (.int m),some (.tup TS),none]) (by simp[KG.Z]) ?_;refine zA (σ:=[some (.tup [.int m,.tup TS]),some (.int n),some (.int m),some (.tup TS),some (.lst ((dU m T TS).take 8))]) (by simp[KG.Z,a1,a2,dU]) ?_;refine zA (σ:=[some (.tup [.int m,.tup TS]),some (.int n),some (.int m),some (.tup TS),some (.lst ((dU m T TS).take 13))]) (by simp[KG.Z,a1,a4,a5,dU]) ?_;refine zA (σ:=[some (.tup [.int m,.tup TS]),some (.int n),some (.int m),some (.tup TS),some (.lst ((dU m T TS).take 18))]) (by simp[KG.Z,a1,a5,dU,zc]) ?_;rw[qe,zL,qx];have f1:evE ⟨qa p k,p.glb,p.sub,p.cat⟩ (.op .add (.var 4) (.lst (.cons (.tup (.cons (.con (.str "1")) (.cons (.tup .nil) .nil))) (.cons .dic (.cons (.tup (.cons (.var 2) (.cons (.tup (.cons (.tup (.cons (.con (.bl false)) (.cons (.con (.int 1)) .nil))) .nil)) .nil))) (.cons (.tup (.cons (.op .pow (.con (.int 10)) (.con (.int 30))) (.cons (.tup .nil) .nil))) .nil)))))) [some (.tup [.int m,.tup TS]),some (.int n),some (.int m),some (.tup TS),some (.lst ((dU m T TS).take 18))]=.ok (.lst (dU m T TS)):=by simp[KG.Z,hT,a5,dU,qw]
 rw[f1];have f2:evE ⟨qa p k,p.glb,p.sub,p.cat⟩ (.op .mod (.var 1) (.con (.int 22))) [some (.tup [.int m,.tup TS]),some (.int n),some (.int m),some (.tup TS),some (.lst ((dU m T TS).take 18))]=.ok (.int (n%22)):=by simp[KG.Z,a3]
 rw[f2];simp only[R.bind_ok];rw[e];rfl
end
end KG
namespace K40
open PySem PySem.Spec PyProof.Rows L2 EV
noncomputable def top(i:Nat):Stmt:=PySem.Challenge.pw_holdplaces_k40_ends_and_upper_places.main.body.getD i (.Pass ⟨0,0,0,0⟩)
abbrev ja:Fn:=KG.ja
abbrev zX:Fn:=KG.zX
abbrev gO:Fn:=KG.gO
abbrev iE:Fn:=KG.iE
abbrev fJ:Fn:=KG.fJ
abbrev d_:Fn:=KG.d_
abbrev gF:Fn:=KG.gF
abbrev eh:Fn:=KG.eh
abbrev fm:Fn:=KG.fm
abbrev gD:Fn:=KG.gD
abbrev ft:Fn:=KG.ft
abbrev e_:Fn:=KG.e_
noncomputable def gS:Fn:=⟨2,6,false,(.cons (.set (.nm 2) (.dic1 (.var 1) (.con (.int 0)))) (.cons (.set (.nm 3) (.lst (.cons (.var 1) .nil))) (.cons (.while (.val (.own 3)) (.cons (.pop0 4 3) (.cons (.for (.nm 5) (.seq (.call "hood_of" (.cons (.var 0) (.cons (.var 4) .nil)))) (.cons (.ite (.cmp .notin (.var 5) (.own 2)) (.cons (.seti 2 (.var 5) (.op .add (.ix (.own 2) (.var 4)) (.con (.int 1)))) (.cons (.app 3 (.var 5)) .nil)) .nil) .nil)) .nil))) (.cons (.ret (.own 2)) .nil))))⟩
noncomputable def gA:Fn:=⟨1,5,true,(.cons (.exp (.call "need_web" (.cons (.var 0) .nil))) (.cons (.set (.nm 1) (.lst .nil)) (.cons (.set (.nm 2) .dic) (.cons (.for (.nm 3) (.rng (.ix (.var 0) (.con (.int 0)))) (.cons (.ite (.cmp .notin (.var 3) (.own 2)) (.cons (.set (.nm 4) (.call "ways_from" (.cons (.var 0) (.cons (.var 3) .nil)))) (.cons (.dupd 2 (.var 4)) (.cons (.app 1 (.bi .tuple (.cons (.bi .sorted (.cons (.var 4) .nil)) .nil))) .nil))) .nil) .nil)) (.cons (.ret (.own 1)) .nil)))))⟩
noncomputable def i8:Fn:=⟨1,3,false,(.cons (.exp (.call "need_web" (.cons (.var 0) .nil))) (.cons (.set (.tp [1,2]) (.var 0)) (.cons (.ret (.and (.cmp .eq (.bi .len (.cons (.call "pieces" (.cons (.var 0) .nil)) .nil)) (.con (.int 1))) (.cmp .eq (.bi .len (.cons (.var 2) .nil)) (.op .sub (.var 1) (.con (.int 1)))))) .nil)))⟩
noncomputable def gp:Fn:=⟨1,1,false,(.cons (.ite (.not (.val (.call "is_tree" (.cons (.var 0) .nil)))) (.cons (.raise "NotTree" (.cons (.con (.str "a tree is due")) .nil)) .nil) .nil) .nil)⟩
noncomputable def jc:Fn:=⟨1,1,false,(.cons (.exp (.call "need_tree" (.cons (.var 0) .nil))) (.cons (.ret (.bi .tuple (.cons (.comp (.enum (.call "hoods" (.cons (.var 0) .nil))) [none,none,none] (.tp [1,2]) (.cmp .eq (.bi .len (.cons (.var 2) .nil)) (.con (.int 2))) (.var 1)) .nil))) .nil))⟩
noncomputable def kN:Fn:=⟨2,3,true,(.cons (.exp (.call "need_tree" (.cons (.var 0) .nil))) (.cons (.exp (.call "need_place" (.cons (.var 0) (.cons (.var 1) .nil)))) (.cons (.set (.nm 2) (.call "ways_from" (.cons (.var 0) (.cons (.var 1) .nil)))) (.cons (.retn (.bi .tuple (.cons (.comp (.rng (.ix (.var 0) (.con (.int 0)))) [none,none,some 2,some 0] (.nm 1) .yes (.call "upper" (.cons (.var 3) (.cons (.var 2) (.cons (.var 1) .nil))))) .nil))) .nil))))⟩
noncomputable def mr:Fn:=⟨3,4,false,(.cons (.set (.nm 3) (.comp (.seq (.call "hood_of" (.cons (.var 0) (.cons (.var 2) .nil)))) [none,none,some 2,some 1] (.nm 1) (.cmp .lt (.ix (.var 3) (.var 1)) (.ix (.var 3) (.var 2))) (.var 1))) (.cons (.ret (.ite (.val (.var 3)) (.ix (.var 3) (.con (.int 0))) (.neg (.con (.int 1))))) .nil))⟩
noncomputable def j':Fn:=⟨2,3,true,(.cons (.exp (.call "need_tree" (.cons (.var 0) .nil))) (.cons (.exp (.call "need_place" (.cons (.var 0) (.cons (.var 1) .nil)))) (.cons (.set (.nm 2) (.call "ways_from" (.cons (.var 0) (.cons (.var 1) .nil)))) (.cons (.ret (.comp (.seq (.bi .sorted (.cons (.comp (.rng (.ix (.var 0) (.con (.int 0)))) [none,none,some 2] (.nm 1) .yes (.tup (.cons (.neg (.ix (.var 2) (.var 1))) (.cons (.var 1) .nil)))) .nil))) [none,none,none] (.tp [1,2]) .yes (.var 2))) .nil))))⟩
abbrev eS:Fn:=KG.eS
noncomputable def mB:Fn:=⟨1,2,false,(.cons (.set (.nm 1) (.lst (.cons (.isi (.var 0) (.ex "NoWeb")) (.cons (.isi (.var 0) (.ex "NoPlaces")) (.cons (.isi (.var 0) (.ex "NoPlace")) (.cons (.isi (.var 0) (.ex "NoNumber")) .nil)))))) (.cons (.set (.nm 1) (.op .add (.var 1) (.lst (.cons (.isi (.var 0) (.ex "NotUntied")) (.cons (.isi (.var 0) (.ex "NoShares")) (.cons (.isi (.var 0) (.ex "NotTree")) (.cons (.isi (.var 0) (.ex "NotTold")) .nil))))))) (.cons (.set (.nm 1) (.op .add (.var 1) (.lst (.cons (.isi (.var 0) (.ex "NoCrowds")) (.cons (.isi (.var 0) (.ex "NoText")) (.cons (.isi (.var 0) (.ex "NoLine")) (.cons (.isi (.var 0) (.ex "NoDeed")) .nil))))))) (.cons (.set (.nm 1) (.op .add (.var 1) (.lst (.cons (.isi (.var 0) (.ex "NotAll")) (.cons (.isi (.var 0) (.ex "TooGreat")) .nil))))) (.cons (.ite (.or (.not (.val (.isi (.var 0) (.ty "ValueError")))) (.cmp .ne (.mth false (.var 1)) (.con (.int 1)))) (.cons (.ret (.neg (.con (.int 1)))) .nil) .nil) (.cons (.ret (.mth true (.var 1))) .nil))))))⟩
abbrev fL:Fn:=KG.fL
abbrev zV:Fn:=KG.zV
noncomputable def jl:Fn:=⟨2,6,false,(.cons (.set (.nm 2) (.lst .nil)) (.cons (.for (.nm 3) (.rng (.var 0)) (.cons (.ins 2 (.op .mod (.call "_law_stir" (.cons (.var 1) (.cons (.op .add (.var 3) (.con (.int 40))) .nil))) (.op .add (.var 3) (.con (.int 1)))) (.var 3)) .nil)) (.cons (.set (.nm 4) (.lst .nil)) (.cons (.for (.nm 5) (.rng2 (.con (.int 1)) (.var 0)) (.cons (.app 4 (.bi .tuple (.cons (.bi .sorted (.cons (.lst (.cons (.ix (.own 2) (.var 5)) (.cons (.ix (.own 2) (.op .mod (.call "_law_stir" (.cons (.var 1) (.cons (.var 5) .nil))) (.var 5))) .nil))) .nil)) .nil))) .nil)) (.cons (.ret (.tup (.cons (.var 0) (.cons (.bi .tuple (.cons (.bi .sorted (.cons (.own 4) .nil)) .nil)) .nil)))) .nil)))))⟩
noncomputable def kc:Fn:=⟨2,2,false,(.cons (.ret (.ix (.lst (.cons (.var 0) (.cons (.neg (.con (.int 1))) (.cons (.con (.bl true)) (.cons (.con (.bl false)) (.cons (.con .non) (.cons (.con (.str "0")) (.cons (.tup (.cons (.con (.int 0)) .nil)) (.cons (.op .pow (.con (.int 10)) (.con (.int 30))) (.cons (.lst (.cons (.con (.int 0)) .nil)) (.cons .dic (.cons (.neg (.op .pow (.con (.int 10)) (.con (.int 20)))) (.cons (.op .add (.var 0) (.con (.int 7))) .nil))))))))))))) (.op .mod (.var 1) (.con (.int 12))))) .nil)⟩
abbrev iC:Fn:=KG.iC
noncomputable def kZ:Fn:=⟨2,6,false,(.cons (.set (.nm 2) (.dic1 (.var 1) (.con (.int 0)))) (.cons (.for (.nm 3) (.rng (.ix (.var 0) (.con (.int 0)))) (.cons (.for (.nm 4) (.seq (.lsd (.own 2))) (.cons (.for (.nm 5) (.seq (.call "_law_hood" (.cons (.var 0) (.cons (.var 4) .nil)))) (.cons (.ite (.cmp .notin (.var 5) (.own 2)) (.cons (.seti 2 (.var 5) (.op .add (.ix (.own 2) (.var 4)) (.con (.int 1)))) .nil) .nil) .nil)) .nil)) .nil)) (.cons (.ret (.own 2)) .nil)))⟩
noncomputable def nA:Fn:=⟨3,4,true,(.cons (.try (.cons (.ite (.cmp .eq (.var 0) (.con (.int 0))) (.cons (.retn (.call "ends" (.cons (.var 1) .nil))) .nil) .nil) (.cons (.ret (.ite (.cmp .eq (.var 0) (.con (.int 1))) (.call "above" (.cons (.var 1) (.cons (.var 2) .nil))) (.call "from_far" (.cons (.var 1) (.cons (.var 2) .nil))))) .nil)) "PlaceError" (some 3) (.cons (.retn (.call "_law_kinds" (.cons (.var 3) .nil))) .nil)) .nil)⟩
noncomputable def rP:Fn:=⟨2,9,false,(.cons (.set (.nm 2) (.call "_law_ways" (.cons (.var 0) (.cons (.var 1) .nil)))) (.cons (.set (.nm 3) (.lst .nil)) (.cons (.for (.nm 4) (.rng (.ix (.var 0) (.con (.int 0)))) (.cons (.set (.nm 5) (.comp (.seq (.call "_law_hood" (.cons (.var 0) (.cons (.var 4) .nil)))) [none,none,some 4,some 2] (.nm 1) (.cmp .eq (.ix (.var 3) (.var 1)) (.op .sub (.ix (.var 3) (.var 2)) (.con (.int 1)))) (.var 1))) (.cons (.app 3 (.ix (.op .add (.var 5) (.lst (.cons (.neg (.con (.int 1))) .nil))) (.con (.int 0)))) .nil))) (.cons (.set (.nm 6) (.lst .nil)) (.cons (.for (.nm 7) (.rrev (.ix (.var 0) (.con (.int 0)))) (.cons (.set (.nm 6) (.op .add (.var 6) (.comp (.rng (.ix (.var 0) (.con (.int 0)))) [none,none,some 7,some 2] (.nm 1) (.cmp .eq (.ix (.var 3) (.var 1)) (.var 2)) (.var 1)))) .nil)) (.cons (.set (.nm 8) (.lstc "_law_told" (.cons (.con (.int 2)) (.cons (.var 0) (.cons (.var 1) .nil))))) (.cons (.ite (.or (.not (.val (.call "_law_same" (.cons (.call "_law_told" (.cons (.con (.int 1)) (.cons (.var 0) (.cons (.var 1) .nil)))) (.cons (.bi .tuple (.cons (.own 3) .nil)) .nil))))) (.not (.val (.callo "_law_same" (.cons (.own 8) (.cons (.var 6) .nil)))))) (.cons (.ret (.con (.bl false))) .nil) .nil) (.cons (.app 8 (.con (.int 0))) (.cons (.ret (.call "_law_same" (.cons (.call "_law_told" (.cons (.con (.int 2)) (.cons (.var 0) (.cons (.var 1) .nil)))) (.cons (.var 6) .nil)))) .nil)))))))))⟩
noncomputable def fV:Fn:=⟨1,8,false,(.cons (.for (.nm 1) (.seq (.op .add (.sl (.var 0) .none (.some (.con (.int 6)))) (.lst (.cons (.con (.int 0)) (.cons (.con (.int 3)) (.cons (.con (.int 129)) .nil)))))) (.cons (.set (.nm 2) (.op .add (.con (.int 1)) (.op .mod (.op .fdiv (.var 1) (.con (.int 64))) (.con (.int 8))))) (.cons (.set (.nm 3) (.call "_law_tree_by" (.cons (.var 2) (.cons (.op .fdiv (.var 1) (.con (.int 512))) .nil)))) (.cons (.set (.nm 4) (.bi .tuple (.cons (.comp (.rng (.var 2)) [none,none,some 3] (.nm 1) (.cmp .eq (.bi .len (.cons (.call "_law_hood" (.cons (.var 2) (.cons (.var 1) .nil))) .nil)) (.con (.int 2))) (.var 1)) .nil))) (.cons (.ite (.or (.not (.val (.call "_law_same" (.cons (.call "_law_told" (.cons (.con (.int 0)) (.cons (.var 3) (.cons (.con .non) .nil)))) (.cons (.var 4) .nil))))) (.not (.val (.bi .all (.cons (.comp (.rng (.var 2)) [none,none,some 3] (.nm 1) .yes (.call "_law_right" (.cons (.var 2) (.cons (.var 1) .nil)))) .nil))))) (.cons (.ret (.con (.bl false))) .nil) .nil) (.cons (.set (.nm 5) (.call "_law_no_place" (.cons (.var 2) (.cons (.call "_law_stir" (.cons (.var 1) (.cons (.con (.int 1)) .nil))) .nil)))) (.cons (.ite (.or (.cmp .ne (.call "_law_told" (.cons (.con (.int 1)) (.cons (.var 3) (.cons (.var 5) .nil)))) (.con (.int 2))) (.cmp .ne (.call "_law_told" (.cons (.con (.int 2)) (.cons (.var 3) (.cons (.var 5) .nil)))) (.con (.int 2)))) (.cons (.ret (.con (.bl false))) .nil) .nil) (.cons (.set (.nm 6) (.call "_law_no_web" (.cons (.var 3) (.cons (.call "_law_stir" (.cons (.var 1) (.cons (.con (.int 2)) .nil))) .nil)))) (.cons (.ite (.cmp .ne (.comp (.rng (.con (.int 3))) [none,none,some 5,some 6] (.nm 1) .yes (.call "_law_told" (.cons (.var 1) (.cons (.var 3) (.cons (.var 2) .nil))))) (.op .mul (.lst (.cons (.con (.int 0)) .nil)) (.con (.int 3)))) (.cons (.ret (.con (.bl false))) .nil) .nil) (.cons (.set (.nm 7) (.tup (.cons (.op .add (.var 2) (.con (.int 1))) (.cons (.ix (.var 3) (.con (.int 1))) .nil)))) (.cons (.ite (.and (.cmp .lt (.var 2) (.con (.int 8))) (.cmp .ne (.comp (.rng (.con (.int 3))) [none,none,some 5,some 7] (.nm 1) .yes (.call "_law_told" (.cons (.var 1) (.cons (.var 3) (.cons (.var 2) .nil))))) (.op .mul (.lst (.cons (.con (.int 6)) .nil)) (.con (.int 3))))) (.cons (.ret (.con (.bl false))) .nil) .nil) .nil))))))))))) (.cons (.ret (.cmp .eq (.comp (.rng (.con (.int 3))) [none,none] (.nm 1) .yes (.call "_law_told" (.cons (.var 1) (.cons (.tup (.cons (.con (.int 3)) (.cons (.tup (.cons (.tup (.cons (.con (.int 0)) (.cons (.con (.int 1)) .nil))) (.cons (.tup (.cons (.con (.int 0)) (.cons (.con (.int 2)) .nil))) (.cons (.tup (.cons (.con (.int 1)) (.cons (.con (.int 2)) .nil))) .nil)))) .nil))) (.cons (.con (.int 0)) .nil))))) (.op .mul (.lst (.cons (.con (.int 6)) .nil)) (.con (.int 3))))) .nil))⟩
abbrev uN:Ent:=⟨"is_whole",top 17,[],false,ja⟩
abbrev AM:Ent:=⟨"is_between",top 18,[],false,zX⟩
abbrev yJ:Ent:=⟨"is_pair",top 19,[],false,gO⟩
abbrev AE:Ent:=⟨"rises",top 20,[],false,iE⟩
abbrev AL:Ent:=⟨"is_web",top 23,[],false,fJ⟩
abbrev uo:Ent:=⟨"is_tie",top 24,[],false,d_⟩
abbrev Ck:Ent:=⟨"need_web",top 25,[],false,gF⟩
abbrev Ep:Ent:=⟨"is_place",top 26,[],false,eh⟩
abbrev w_:Ent:=⟨"need_place",top 27,[],false,fm⟩
abbrev yC:Ent:=⟨"hoods",top 28,[],false,gD⟩
abbrev yr:Ent:=⟨"hood_of",top 29,[],false,ft⟩
abbrev yL:Ent:=⟨"are_tied",top 30,[],false,e_⟩
abbrev Dl:Ent:=⟨"ways_from",top 31,[ag "ways",ag "waiting"],false,gS⟩
abbrev vZ:Ent:=⟨"pieces",top 32,[ag "seen",ag "found"],true,gA⟩
abbrev EF:Ent:=⟨"is_tree",top 33,[],false,i8⟩
abbrev wt:Ent:=⟨"need_tree",top 35,[],false,gp⟩
abbrev uP:Ent:=⟨"ends",top 36,[],false,jc⟩
abbrev tW:Ent:=⟨"above",top 37,[],true,kN⟩
abbrev Ef:Ent:=⟨"upper",top 38,[],false,mr⟩
abbrev xS:Ent:=⟨"from_far",top 39,[],true,j'⟩
abbrev yt:Ent:=⟨"_law_hood",top 41,[ag "_law_found"],false,eS⟩
abbrev oN:Ent:=⟨"_law_kinds",top 42,[],false,mB⟩
abbrev xB:Ent:=⟨"_law_same",top 43,[],false,fL⟩
abbrev yu:Ent:=⟨"_law_stir",top 44,[],false,zV⟩
abbrev EM:Ent:=⟨"_law_tree_by",top 45,[ag "_law_order",ag "_law_ties"],false,jl⟩
abbrev yX:Ent:=⟨"_law_no_place",top 46,[],false,kc⟩
abbrev CT:Ent:=⟨"_law_no_web",top 47,[],false,iC⟩
abbrev vM:Ent:=⟨"_law_ways",top 48,[ag "_law_found"],false,kZ⟩
abbrev B6:Ent:=⟨"_law_told",top 49,[],true,nA⟩
abbrev uz:Ent:=⟨"_law_right",top 50,[ag "_law_found",ag "_law_up"],false,rP⟩
abbrev g_:Ent:=⟨"law",top 51,[],false,fV⟩
abbrev tab:List Ent:=[uN,AM,yJ,AE,AL,uo,Ck,Ep,w_,yC,yr,yL,Dl,vZ,EF,wt,uP,tW,Ef,xS,yt,oN,xB,yu,EM,yX,CT,vM,B6,uz,g_]
abbrev oth:List (Str×GK):=[(ag "PlaceError",GK.exk),(ag "NoWeb",GK.exc),(ag "NoPlaces",GK.exk),(ag "NoPlace",GK.exc),(ag "NoNumber",GK.exk),(ag "NotAll",GK.exk),(ag "NotUntied",GK.exk),(ag "NoShares",GK.exk),(ag "NotTree",GK.exc),(ag "NotTold",GK.exk),(ag "NoCrowds",GK.exk),(ag "NoText",GK.exk),(ag "NoLine",GK.exk),(ag "NoDeed",GK.exk),(ag "TooGreat",GK.exk),(ag "MOST",GK.val),(ag "len",GK.bi .len),(ag "tuple",GK.ty "tuple" (some .tuple)),(ag "list",GK.ty "list" (some .list)),(ag "int",GK.ty "int" (some .int)),(ag "bool",GK.ty "bool" (some .bool)),(ag "str",GK.ty "str" none),(ag "sorted",GK.bi .sorted),(ag "all",GK.bi .all),(ag "min",GK.bi .min),(ag "max",GK.bi .max),(ag "range",GK.rng),(ag "reversed",GK.rvd),(ag "enumerate",GK.enum),(ag "zip",GK.zip),(ag "isinstance",GK.isi),(ag "ValueError",GK.ty "ValueError" none)]
abbrev vals:List (Str×D):=[(ag "MOST",(.int 8))]
abbrev G:List (Str×GK):=tab.map (λe=>(e.x,GK.fn e.fr))++oth
abbrev cV:List (Str×Str):=[(ag "NoWeb",ag "PlaceError"),(ag "NoPlace",ag "PlaceError"),(ag "NotTree",ag "PlaceError")]
abbrev us:List Ent:=[oN]
abbrev subs:List ((Str×Cl)×Bool):=[((ag "NoWeb",.ty "ValueError"),true),((ag "NoWeb",.ex (ag "NoWeb")),true),((ag "NoWeb",.ex (ag "NoPlaces")),false),((ag "NoWeb",.ex (ag "NoPlace")),false),((ag "NoWeb",.ex (ag "NoNumber")),false),((ag "NoWeb",.ex (ag "NotUntied")),false),((ag "NoWeb",.ex (ag "NoShares")),false),((ag "NoWeb",.ex (ag "NotTree")),false),((ag "NoWeb",.ex (ag "NotTold")),false),((ag "NoWeb",.ex (ag "NoCrowds")),false),((ag "NoWeb",.ex (ag "NoText")),false),((ag "NoWeb",.ex (ag "NoLine")),false),((ag "NoWeb",.ex (ag "NoDeed")),false),((ag "NoWeb",.ex (ag "NotAll")),false),((ag "NoWeb",.ex (ag "TooGreat")),false),((ag "NoPlace",.ty "ValueError"),true),((ag "NoPlace",.ex (ag "NoWeb")),false),((ag "NoPlace",.ex (ag "NoPlaces")),false),((ag "NoPlace",.ex (ag "NoPlace")),true),((ag "NoPlace",.ex (ag "NoNumber")),false),((ag "NoPlace",.ex (ag "NotUntied")),false),((ag "NoPlace",.ex (ag "NoShares")),false),((ag "NoPlace",.ex (ag "NotTree")),false),((ag "NoPlace",.ex (ag "NotTold")),false),((ag "NoPlace",.ex (ag "NoCrowds")),false),((ag "NoPlace",.ex (ag "NoText")),false),((ag "NoPlace",.ex (ag "NoLine")),false),((ag "NoPlace",.ex (ag "NoDeed")),false),((ag "NoPlace",.ex (ag "NotAll")),false),((ag "NoPlace",.ex (ag "TooGreat")),false),((ag "NotTree",.ty "ValueError"),true),((ag "NotTree",.ex (ag "NoWeb")),false),((ag "NotTree",.ex (ag "NoPlaces")),false),((ag "NotTree",.ex (ag "NoPlace")),false),((ag "NotTree",.ex (ag "NoNumber")),false),((ag "NotTree",.ex (ag "NotUntied")),false),((ag "NotTree",.ex (ag "NoShares")),false),((ag "NotTree",.ex (ag "NotTree")),true),((ag "NotTree",.ex (ag "NotTold")),false),((ag "NotTree",.ex (ag "NoCrowds")),false),((ag "NotTree",.ex (ag "NoText")),false),((ag "NotTree",.ex (ag "NoLine")),false),((ag "NotTree",.ex (ag "NoDeed")),false),((ag "NotTree",.ex (ag "NotAll")),false),((ag "NotTree",.ex (ag "TooGreat")),false)]
abbrev p:Pr:=prT tab vals cV subs
theorem rS:p.fns "is_place" = some eh:=by kernel_rfl
theorem yh:p.fns "need_place" = some fm:=by kernel_rfl
theorem l_:p.fns "_law_kinds" = some mB:=by kernel_rfl
theorem sR:p.fns "_law_no_place" = some kc:=by kernel_rfl
theorem pQ:p.fns "_law_told" = some nA:=by kernel_rfl
theorem vm:p.fns "_law_right" = some rP:=by kernel_rfl
theorem tw:p.fns "law" = some fV:=by kernel_rfl
end K40
namespace KG
open EV
open PySem (Str)
open L2 (atI ixN ltP)
section
variable(m:Int)(ts:List (Int×Int))
noncomputable def fr(h:List Int)(a:Int):Bool:=decide (((hd m ts a).filter λx=>h.any λt=>t==x)=[])
end
section
variable{m:Int}{ts:List (Int×Int)}
end
noncomputable def both(s:List Int)(t:Int×Int):Bool:=(s.any λx=>x==t.1)&&(s.any λx=>x==t.2)
section
variable{m:Int}{ts:List (Int×Int)}
end
noncomputable def AV:Fn:=⟨3,3,false,(.cons (.exp (.call "need_web" (.cons (.var 0) .nil))) (.cons (.exp (.call "need_some" (.cons (.var 0) (.cons (.var 1) .nil)))) (.cons (.exp (.call "need_place" (.cons (.var 0) (.cons (.var 2) .nil)))) (.cons (.ite (.cmp .notin (.var 2) (.var 1)) (.cons (.raise "NoPlace" (.cons (.con (.str "a place of some is due")) .nil)) .nil) .nil) (.cons (.ret (.call "places_marked" (.cons (.call "marks_of" (.cons (.call "hoods" (.cons (.var 0) .nil)) (.cons (.var 1) .nil))) (.cons (.tup (.cons (.var 2) .nil)) .nil)))) .nil)))))⟩
noncomputable def EH:Fn:=⟨2,4,false,(.cons (.exp (.call "need_web" (.cons (.var 0) .nil))) (.cons (.exp (.call "need_some" (.cons (.var 0) (.cons (.var 1) .nil)))) (.cons (.exp (.call "need_all" (.cons (.var 0) (.cons (.var 1) .nil)))) (.cons (.set (.nm 2) (.var 1)) (.cons (.set (.nm 3) (.call "spare" (.cons (.var 0) (.cons (.var 2) .nil)))) (.cons (.while (.val (.var 3)) (.cons (.set (.nm 2) (.call "without" (.cons (.var 2) (.cons (.ix (.var 3) (.neg (.con (.int 1)))) .nil)))) (.cons (.set (.nm 3) (.call "spare" (.cons (.var 0) (.cons (.var 2) .nil)))) .nil))) (.cons (.ret (.var 2)) .nil)))))))⟩
noncomputable def uh:Fn:=⟨2,2,false,(.cons (.ret (.bi .tuple (.cons (.comp (.seq (.var 0)) [none,none,some 1] (.nm 1) (.cmp .ne (.var 1) (.var 2)) (.var 1)) .nil))) .nil)⟩
structure Ld(p:Pr):Prop where
 leaned:p.fns "leaned" = some EH
 without:p.fns "without" = some uh
structure Ln(p:Pr):Prop extends Ld p where
 own:p.fns "own" = some AV
 need_place:p.fns "need_place" = some fm
section
variable{m:Int}{ts:List (Int×Int)}
end
section
variable{p:Pr}(B:Web p)(O:Nbr p)(S:gK p)
include B O S
end
end KG
namespace KG
open EV
open PySem (Str)
open L2 (atI ixN ltP atK cK cZ)
noncomputable def inR(m:Int)(ts:List (Int×Int))(r:Int):Nat->Int->Prop
 | 0,v=>v=r
 |k+1,v=>inR m ts r k v\/∃u,inR m ts r k u/\v∈hd m ts u
noncomputable def bS(m:Int)(ts:List (Int×Int))(r v d:Int):Prop:=∃k:Nat,d=k/\inR m ts r k v/\∀j,j<k->¬ inR m ts r j v
noncomputable def Key(kvs:List (Int×Int))(v:Int):Prop:=∃d,(v,d)∈kvs
section
variable{m:Int}{ts:List (Int×Int)}{r:Int}
theorem oE{j k:Nat}{v:Int}(h:j<=k)(q:inR m ts r j v):inR m ts r k v:=by
 induction k with
 |zero=>
  have:j=0:=by lia
  subst this;exact q
 |succ k ih=>
  by_cases e:j=k+1
  ·subst e;exact q
  ·exact .inl (ih (by lia))
theorem bS.uniq{v d e:Int}(h:bS m ts r v d)(h':bS m ts r v e):d=e:=by
 obtain⟨j,rfl,a1,a2⟩:=h;obtain⟨k,rfl,b1,b2⟩:=h';rcases Nat.lt_trichotomy j k with z|z|z
 ·exact absurd a1 (b2 j z)
 ·rw[z]
 ·exact absurd b1 (a2 k z)
theorem bS.le{v d:Int}(h:bS m ts r v d){k:Nat}(q:inR m ts r k v):d<=k:=by
 obtain⟨j,rfl,a1,a2⟩:=h;by_cases z:j<=k
 ·lia
 ·exact absurd q (a2 k (by lia))
theorem rA{k:Nat}{v:Int}(q:inR m ts r k v):∃d,bS m ts r v d:=by
 induction k with
 |zero=>exact⟨0,0,rfl,q,λj z=>by lia⟩
 |succ k ih=>
  by_cases z:inR m ts r k v
  ·exact ih z
  ·exact⟨((k+1:Nat):Int),k+1,rfl,q,λj hj y=>z (oE (by lia) y)⟩
theorem f_{u w:Int}(h:w∈hd m ts u):0<=w/\w<m:=cP.mp (dk.mp h).1
structure Bfs(m:Int)(ts:List (Int×Int))(r:Int)(kvs:List (Int×Int))(q:List Int):Prop where
 nd:(kvs.map (·.1)).Nodup
 ok:∀p∈kvs,bS m ts r p.1 p.2/\0<=p.1/\p.1<m
 rt:Key kvs r
 qk:∀u∈q,Key kvs u
 dn:∀p∈kvs,p.1∉q->∀w∈hd m ts p.1,Key kvs w
 so:∀v rr,q=v::rr->∃dv,(v,dv)∈kvs/\(∀u∈rr,∀du,(u,du)∈kvs->du<=dv+1)/\∀(k:Nat) w,(k:Int)<=dv->inR m ts r k w->Key kvs w
 sr:q.Pairwise λa b=>∀da db,(a,da)∈kvs->(b,db)∈kvs->da<=db
structure Bin(m:Int)(ts:List (Int×Int))(r v dv:Int)(kvs:List (Int×Int))(q l:List Int):Prop where
 nd:(kvs.map (·.1)).Nodup
 ok:∀p∈kvs,bS m ts r p.1 p.2/\0<=p.1/\p.1<m
 rt:Key kvs r
 vk:(v,dv)∈kvs
 qk:∀u∈q,Key kvs u
 dn:∀p∈kvs,p.1∉q->p.1≠v->∀w∈hd m ts p.1,Key kvs w
 pr:∀u∈hd m ts v,u∈l\/Key kvs u
 lh:∀u∈l,u∈hd m ts v
 bd:∀u∈q,∀du,(u,du)∈kvs->dv<=du/\du<=dv+1
 ev:∀(k:Nat) w,(k:Int)<=dv->inR m ts r k w->Key kvs w
 sr:q.Pairwise λa b=>∀da db,(a,da)∈kvs->(b,db)∈kvs->da<=db
theorem Bfs.start(h0:0<=r)(h:r<m):Bfs m ts r [(r,0)] [r]:=by
 have d0:bS m ts r r 0:=⟨0,rfl,rfl,λj z=>by lia⟩
 refine⟨by simp,λp hp=>?_,⟨0,by simp⟩,λu hu=>?_,λp hp hn=>?_,λv rr e=>?_,by simp⟩
 ·simp at hp;subst hp;exact⟨d0,h0,h⟩
 ·simp at hu;subst hu;exact⟨0,by simp⟩
 ·simp at hp;subst hp;simp at hn
 ·cases e;refine⟨0,by simp,λu hu=>by simp at hu,λk w hk q=>?_⟩;have:k=0:=by lia
  subst this;have q:w=r:=q;subst q;exact⟨0,by simp⟩
theorem Bfs.take{kvs:List (Int×Int)}{v:Int}{q:List Int}(b:Bfs m ts r kvs (v::q)):∃dv,Bin m ts r v dv kvs q (hd m ts v):=by
 obtain⟨dv,h1,h2,h3⟩:=b.so v q rfl;have sr:=List.pairwise_cons.mp b.sr;refine⟨dv,b.nd,b.ok,b.rt,h1,λu hu=>b.qk u (by simp[hu]),λp hp hn hv=>b.dn p hp (by simp[hn,hv]),λu hu=>.inl hu,λu hu=>hu,λu hu du hd'=>⟨sr.1 u hu dv du h1 hd',h2 u hu du hd'⟩,h3,sr.2⟩
theorem gn{kvs:List (Int×Int)}{u d w:Int}(h:Key kvs w):Key (kvs++[(u,d)]) w:=by
 obtain⟨e,h⟩:=h;exact⟨e,by simp[h]⟩
theorem Bin.old{v dv u:Int}{kvs:List (Int×Int)}{q l:List Int}(b:Bin m ts r v dv kvs q (u::l))(h:Key kvs u):Bin m ts r v dv kvs q l:=
 ⟨b.nd,b.ok,b.rt,b.vk,b.qk,b.dn,λw hw=>by
  rcases b.pr w hw with z|z
  ·rcases aD.mp z with rfl|z
   ·exact .inr h
   ·exact .inl z
  ·exact .inr z,λw hw=>b.lh w (by simp[hw]),b.bd,b.ev,b.sr⟩
theorem Bin.new{v dv u:Int}{kvs:List (Int×Int)}{q l:List Int}(b:Bin m ts r v dv kvs q (u::l))(h:¬ Key kvs u):Bin m ts r v dv (kvs++[(u,dv+1)]) (q++[u]) l:=by
 have hu:=b.lh u aJ;obtain⟨u0,u1⟩:=f_ hu;have dvd:=(b.ok _ b.vk).1;obtain⟨kv,rfl,k1,k2⟩:=dvd;have du:bS m ts r u ((kv:Int)+1):=⟨kv+1,by lia,.inr ⟨v,k1,hu⟩,λj hj y=>h (b.ev j u (by lia) y)⟩
 have nu:u∉kvs.map (·.1):=λz=>by
  obtain⟨p,hp,e⟩:=aM.mp z;exact h ⟨p.2,by rw[<-e];exact hp⟩
 have old:∀{w d:Int},(w,d)∈kvs++[(u,(kv:Int)+1)]->w≠u->(w,d)∈kvs:=λ{w d} hw hn=>by
  rcases List.mem_append.mp hw with z|z
  ·exact z
  ·simp at z;exact absurd z.1 hn
 have new:∀{d:Int},(u,d)∈kvs++[(u,(kv:Int)+1)]->d=kv+1:=λ{d} hw=>by
  rcases List.mem_append.mp hw with z|z
  ·exact absurd ⟨d,z⟩ h
  ·simp at z;exact z
 refine⟨?_,λp hp=>?_,gn b.rt,by simp[b.vk],λw hw=>?_,λp hp hn hv w hw=>?_,λw hw=>?_,λw hw=>b.lh w (by simp[hw]),λw hw d hd'=>?_,λk w hk y=>gn (b.ev k w hk y),?_⟩
 ·rw[List.map_append];refine List.nodup_append.mpr ⟨b.nd,by simp,λa ha c hc e=>?_⟩;simp at hc;subst hc e;exact nu ha
 ·rcases List.mem_append.mp hp with z|z
  ·exact b.ok p z
  ·simp at z;subst z;exact⟨du,u0,u1⟩
 ·rcases List.mem_append.mp hw with z|z
  ·exact gn (b.qk w z)
  ·simp at z;subst z;exact⟨(kv:Int)+1,by simp⟩
 ·have hpu:p.1≠u:=λe=>hn (by simp[e])
  have hp':=old (w:=p.1) (d:=p.2) hp hpu;exact gn (b.dn p hp' (λz=>hn (by simp[z])) hv w hw)
 ·rcases b.pr w hw with z|z
  ·rcases aD.mp z with rfl|z
   ·exact .inr ⟨(kv:Int)+1,by simp⟩
   ·exact .inl z
  ·exact .inr (gn z)
 ·by_cases e:w=u
  ·subst e;have:=new hd';lia
  ·rcases List.mem_append.mp hw with z|z
   ·exact b.bd w z d (old hd' e)
   ·simp at z;exact absurd z e
 ·refine List.pairwise_append.mpr ⟨?_,by simp,?_⟩
  ·refine(List.Pairwise.and_mem.mp b.sr).imp λ{x y} ⟨hx,hy,z⟩ dx dy h1 h2=>?_
   have nx:x≠u:=λe=>h (e▸b.qk x hx)
   have ny:y≠u:=λe=>h (e▸b.qk y hy)
   exact z dx dy (old h1 nx) (old h2 ny)
  ·intro x hx y hy dx dy h1 h2;simp at hy;subst hy;have nx:x≠y:=λe=>h (e▸b.qk x hx)
   have:=(b.bd x hx dx (old h1 nx)).2;have:=new h2;lia
theorem Bin.done{v dv:Int}{kvs:List (Int×Int)}{q:List Int}(b:Bin m ts r v dv kvs q []):Bfs m ts r kvs q:=by
 have dn:∀p∈kvs,p.1∉q->∀w∈hd m ts p.1,Key kvs w:=λp hp hn w hw=>by
  by_cases e:p.1=v
  ·rw[e]at hw;rcases b.pr w hw with z|z
   ·cases z
   ·exact z
  ·exact b.dn p hp hn e w hw
 refine⟨b.nd,b.ok,b.rt,b.qk,dn,λv2 rr e=>?_,b.sr⟩;subst e;obtain⟨d2,h2⟩:=b.qk v2 aJ;have b2:=b.bd v2 aJ d2 h2;have sr:=List.pairwise_cons.mp b.sr;refine⟨d2,h2,λu hu du hd'=>by have:=(b.bd u (by simp[hu]) du hd').2;lia,λk w hk y=>?_⟩;by_cases z:(k:Int)<=dv
 ·exact b.ev k w z y
 ·have dvd:=(b.ok _ b.vk).1;obtain⟨kv,rfl,k1,k2⟩:=dvd;have:k=kv+1:=by lia
  subst this;rcases y with y|⟨u,y,hw⟩
  ·exact b.ev kv w (by lia) y
  ·obtain⟨du,hdu⟩:=b.ev kv u (by lia) y;have le:=(b.ok _ hdu).1.le y;have le:du<=kv:=le;refine dn (u,du) hdu (λhq=>?_) w hw;rcases aD.mp hq with e|hq
   ·have e:u=v2:=e;subst e;have:=((b.ok _ hdu).1).uniq (b.ok _ h2).1;have:du=d2:=this;lia
   ·have:=sr.1 u hq d2 du h2 hdu;lia
structure bD(m:Int)(ts:List (Int×Int))(r:Int)(kvs:List (Int×Int)):Prop where
 nd:(kvs.map (·.1)).Nodup
 ok:∀p∈kvs,bS m ts r p.1 p.2/\0<=p.1/\p.1<m
 all:∀k w,inR m ts r k w->Key kvs w
theorem Bfs.ways{kvs:List (Int×Int)}(b:Bfs m ts r kvs []):bD m ts r kvs:=by
 refine⟨b.nd,b.ok,λk=>?_⟩
 induction k with
 |zero=>intro w h;have h:w=r:=h;subst h;exact b.rt
 |succ k ih=>
  rintro w (h|⟨u,h,hw⟩)
  ·exact ih w h
  ·obtain⟨d,hu⟩:=ih u h;exact b.dn (u,d) hu (by simp) w hw
theorem iM{kvs:List (Int×Int)}(nd:(kvs.map (·.1)).Nodup){v d:Int}:atK kvs v=some d↔(v,d)∈kvs:=by
 rw[atK]
 induction kvs with
 |nil=>simp
 |cons p l ih=>
  rw[aQ,List.nodup_cons]at nd;rw[List.find?_cons];by_cases e:p.1=v
  ·rw[decide_eq_true e];constructor
   ·intro h;cases h;rw[<-e];exact aJ
   ·intro h;rcases aD.mp h with z|z
    ·rw[<-z];rfl
    ·exact absurd (aM.mpr ⟨(v,d),z,e.symm⟩) nd.1
  ·rw[decide_eq_false e];rw[ih nd.2];constructor
   ·intro h;exact aK _ h
   ·intro h;rcases aD.mp h with z|z
    ·exact absurd (by rw[<-z]) e
    ·exact z
theorem fP(kvs:List (Int×Int))(v:Int):(kvs.any λp=>decide (p.1=v))=true↔Key kvs v:=by
 rw[dP];constructor
 ·rintro⟨p,hp,e⟩;exact⟨p.2,by rw[<-of_decide_eq_true e];exact hp⟩
 ·rintro⟨d,h⟩;exact⟨(v,d),h,by simp⟩
theorem bD.get{kvs kvs':List (Int×Int)}(a:bD m ts r kvs)(b:bD m ts r kvs')(v:Int):atK kvs v=atK kvs' v:=by
 have key:∀{x y:List (Int×Int)},bD m ts r x->bD m ts r y->∀d,atK x v=some d->atK y v=some d:=λ{x y} a b d h=>by
  rw[iM a.nd]at h;rw[iM b.nd];have h1:=(a.ok _ h).1;obtain⟨k,_,i,_⟩:=h1;obtain⟨e,he⟩:=b.all k v i;have:=bS.uniq (a.ok _ h).1 (b.ok _ he).1;have:d=e:=this;rw[this];exact he
 cases h:atK kvs v with
 |some d=>exact(key a b d h).symm
 |none=>
  cases h':atK kvs' v with
  |none=>rfl
  |some d=>rw[key b a d h']at h;cases h
theorem bD.mem{kvs:List (Int×Int)}(a:bD m ts r kvs){v:Int}:v∈kvs.map (·.1)↔∃k,inR m ts r k v:=by
 constructor
 ·intro h;obtain⟨p,hp,rfl⟩:=aM.mp h;obtain⟨k,_,i,_⟩:=(a.ok p hp).1;exact⟨k,i⟩
 ·rintro⟨k,h⟩;obtain⟨d,hd'⟩:=a.all k v h;exact aM.mpr ⟨(v,d),hd',rfl⟩
end
theorem sF{w:W}{τ:Env}{J K:Env->Prop}{Q:D->Prop}{t:T}{b r:Ss}(I:Nat->Env->Prop){n:Nat}(h0:I n τ)(hn:n<fu)
  (ht:∀n σ,I n σ->∃v,evT w t σ=.ok v/\(v=true->∃k,n=k+1/\Ends (I k) Q (qe w b σ))/\(v=false->K σ)) (hr:∀σ,K σ->Ends J Q (qe w r σ)):Ends J Q (qe w (.cons (.while t b) r) τ):=by
 have key:∀(f n:Nat) (σ:Env),I n σ->n<f->Ends K Q (dX (λσ=>evT w t σ) (λσ=>qe w b σ) f σ):=by
  intro f
  induction f with
  |zero=>intro n σ _ h;lia
  |succ f ih=>
   intro n σ hi hf;obtain⟨v,e,a1,a2⟩:=ht n σ hi;rw[dX,e];simp only[R.out_ok];cases v with
   |false=>simp only[bU,if_false];exact a2 rfl
   |true=>
    obtain⟨k,rfl,hb⟩:=a1 rfl;simp only[if_true];cases z:qe w b σ with
    |nx σ2=>rw[z]at hb;exact ih k σ2 hb (by lia)
    |rt d=>rw[z]at hb;exact hb
    |_=>rw[z]at hb;exact hb.elim
 refine jf (K:=K) ?_ hr;have hk:=key fu n τ h0 hn;rw[cg];cases z:dX (λσ=>evT w t σ) (λσ=>qe w b σ) fu τ with
 |nx σ2=>rw[z]at hk;exact hk
 |rt d=>rw[z]at hk;exact hk
 |_=>rw[z]at hk;exact hk.elim
noncomputable def gS:Fn:=⟨2,6,false,(.cons (.set (.nm 2) (.dic1 (.var 1) (.con (.int 0)))) (.cons (.set (.nm 3) (.lst (.cons (.var 1) .nil))) (.cons (.while (.val (.own 3)) (.cons (.pop0 4 3) (.cons (.for (.nm 5) (.seq (.call "hood_of" (.cons (.var 0) (.cons (.var 4) .nil)))) (.cons (.ite (.cmp .notin (.var 5) (.own 2)) (.cons (.seti 2 (.var 5) (.op .add (.ix (.own 2) (.var 4)) (.con (.int 1)))) (.cons (.app 3 (.var 5)) .nil)) .nil) .nil)) .nil))) (.cons (.ret (.own 2)) .nil))))⟩
theorem gr{m:Int}{l:List Int}(nd:l.Nodup)(h:∀x∈l,0<=x/\x<m):l.length<=m.toNat:=by
 have s:∀x∈l,x∈rng m:=λx hx=>cP.mpr (h x hx)
 have key:∀{L M:List Int},L.Nodup->(∀x∈L,x∈M)->L.length<=M.length:=by
  intro L
  induction L with
  |nil=>intros;exact cf _
  |cons x L ih=>
   intro M h s;have hx:=s x aJ;have h1:=List.nodup_cons.mp h;have:=ih (M:=M.erase x) h1.2 λy hy=>(List.mem_erase_of_ne (a:=y) (b:=x) (λe=>h1.1 (by rw[<-e];exact hy))).mpr (s y (aK _ hy))
   rw[List.length_erase_of_mem hx]at this;have:0<M.length:=List.length_pos_of_mem hx;rw[bA];lia
 have:=key nd s
 rwa[zH]at this
theorem m3{kvs:List (Int×Int)}{u d:Int}(h:¬ Key kvs u):cK kvs u d=kvs++[(u,d)]:=by
 rw[cK,if_neg (λz=>h ((fP kvs u).mp z))]
section
variable{p:Pr}(hHo:p.fns "hood_of" = some ft)(hAt:p.fns "are_tied" = some e_)(hf:p.fns "ways_from" = some gS)
include hHo hAt hf
theorem ways_from{k:Nat}{m:Int}{ts:List (Int×Int)}(h:GW m ts){r:Int}(h0:0<=r)(h1:r<m):∃kvs,bD m ts r kvs/\qa p (k+3) "ways_from" [wb m ts,.int r]=.ok (.dic kvs):=by
 have h8:=h.hi;have hood:∀a:Int,0<=a->a<m->qa p (k+2) "hood_of" [wb m ts,.int a]=.ok (tu (hd m ts a)):=λa _ _=>lq hHo hAt (k:=k) h a
 rw[qc hf];have main:Ends (λ_=>False) (λd=>∃kvs,bD m ts r kvs/\d=.dic kvs) (qe (wAt p (k+2)) gS.body [some (wb m ts),some (.int r),none,none,none,none]):=by
  refine zu (σ:=[some (wb m ts),some (.int r),some (.dic [(r,0)]),none,none,none]) rfl ?_;refine zu (σ:=[some (wb m ts),some (.int r),some (.dic [(r,0)]),some (.lst ([r].map D.int)),none,none]) rfl ?_;refine sF (K:=λσ=>∃kvs v5 v6,bD m ts r kvs/\σ=[some (wb m ts),some (.int r),some (.dic kvs),some (.lst []),v5,v6])
   (λn σ=>∃kvs q v5 v6,Bfs m ts r kvs q/\n=q.length+(m.toNat-kvs.length)/\n<=8/\σ=[some (wb m ts),some (.int r),some (.dic kvs),some (.lst (q.map D.int)),v5,v6]) ⟨[(r,0)],[r],none,none,.start h0 h1,rfl,by simp;lia,rfl⟩ (by simp[fu];lia) ?_ ?_
  ·rintro n σ ⟨kvs,q,v5,v6,b,rfl,hn8,rfl⟩;cases q with
   |nil=>exact⟨false,rfl,λz=>(by cases z),λ_=>⟨kvs,v5,v6,b.ways,rfl⟩⟩
   |cons v q=>
    refine⟨true,rfl,λ_=>⟨q.length+(m.toNat-kvs.length),by rw[bA];lia,?_⟩,λz=>(by cases z)⟩;obtain⟨dv,hv⟩:=b.qk v aJ;obtain⟨dv',bin⟩:=b.take;obtain⟨_,v0,v1⟩:=b.ok _ hv;refine zu (σ:=[some (wb m ts),some (.int r),some (.dic kvs),some (.lst (q.map D.int)),some (.int v),v6]) rfl ?_;have hh:=hood v v0 v1;refine eK (ds:=(hd m ts v).map D.int) (λl σ=>∃(us:List Int) (kvs':List (Int×Int)) (q':List Int) (v6:Option D),l=us.map D.int/\Bin m ts r v dv' kvs' q' us/\q'.length+(m.toNat-kvs'.length)=q.length+(m.toNat-kvs.length)/\σ=[some (wb m ts),some (.int r),some (.dic kvs'),some (.lst (q'.map D.int)),some (.int v),v6]) ?_ ⟨_,kvs,q,v6,rfl,bin,rfl,rfl⟩ ?_ ?_
    ·generalize wb m ts=WB at *;have e:seq? (tu (hd m ts v))=some ((hd m ts v).map D.int):=rfl;generalize tu (hd m ts v)=TH at *;simp[KG.Z,hh,e]
    ·rintro x t σ ⟨us,kvs',q',v6',e,bn,hm,rfl⟩;obtain⟨u,us,rfl,rfl,rfl⟩:=fx e;refine⟨[some (wb m ts),some (.int r),some (.dic kvs'),some (.lst (q'.map D.int)),some (.int v),some (.int u)],rfl,?_⟩;have kl:=gr bn.nd λy hy=>by
      obtain⟨p,hp,rfl⟩:=aM.mp hy;exact(bn.ok p hp).2
     rw[aF]at kl;have at1:ixD (.dic kvs') (.int v)=.ok (.int dv'):=by
      simp only[ixD,(iM bn.nd).mpr bn.vk]
     by_cases z:Key kvs' u
     ·have c1:qi .notin (.int u) (.dic kvs')=.ok false:=by
       simp only[qi,seq?,dg,R.bind_ok,(fP kvs' u).mpr z];rfl
      refine zu (σ:=[some (wb m ts),some (.int r),some (.dic kvs'),some (.lst (q'.map D.int)),some (.int v),some (.int u)]) ?_ (zQ ⟨us,kvs',q',_,rfl,bn.old z,hm,rfl⟩);generalize wb m ts=WB at *;generalize D.dic kvs'=DK at *;generalize D.lst (q'.map D.int)=LQ at *;simp[KG.Z,c1]
     ·have c1:qi .notin (.int u) (.dic kvs')=.ok true:=by
       have:(kvs'.any λp=>decide (p.1=u))=false:=by
        cases q:(kvs'.any λp=>decide (p.1=u))with
        |false=>rfl
        |true=>exact absurd ((fP kvs' u).mp q) z
       simp only[qi,seq?,dg,R.bind_ok,this];rfl
      have bw:=bn.new z;have kl2:=gr bw.nd λy hy=>by
       obtain⟨p,hp,rfl⟩:=aM.mp hy;exact(bw.ok p hp).2
      rw[aF,bO]at kl2;simp only[bA,List.length_nil]at kl2;have ql:q'.length<=8:=by rw[bA]at hn8;lia
      have qz:(q'.map D.int).length<SZ:=by rw[aF];simp[SZ];lia
      have kz:kvs'.length<SZ:=by simp[SZ];lia
      have pn:=m3 (d:=dv'+1) z;have a1:op2 .add (.int dv') (.int 1)=.ok (.int (dv'+1)):=rfl;refine zu (σ:=[some (wb m ts),some (.int r),some (.dic (kvs'++[(u,dv'+1)])),some (.lst ((q'++[u]).map D.int)),some (.int v),some (.int u)]) ?_ (zQ ⟨us,_,_,_,rfl,bw,by rw[bO,bO];simp only[bA,List.length_nil];lia,rfl⟩);rw[List.map_append];have st1:evS (wAt p (k+2)) (.seti 2 (.var 5) (.op .add (.ix (.own 2) (.var 4)) (.con (.int 1)))) [some (wb m ts),some (.int r),some (.dic kvs'),some (.lst (q'.map D.int)),some (.int v),some (.int u)]=.nx [some (wb m ts),some (.int r),some (.dic (kvs'++[(u,dv'+1)])),some (.lst (q'.map D.int)),some (.int v),some (.int u)]:=by
       have e1:evE (wAt p (k+2)) (.op .add (.ix (.own 2) (.var 4)) (.con (.int 1))) [some (wb m ts),some (.int r),some (.dic kvs'),some (.lst (q'.map D.int)),some (.int v),some (.int u)]=.ok (.int (dv'+1)):=by
        generalize wb m ts=WB at *;generalize D.dic kvs'=DK at *;generalize D.lst (q'.map D.int)=LQ at *;simp[KG.Z,at1,a1]
       rw[b9,e1];show (if kvs'.length<SZ then EV.O.nx _ else EV.O.no)=_;rw[if_pos kz,pn];rfl
      have st2:evS (wAt p (k+2)) (.app 3 (.var 5)) [some (wb m ts),some (.int r),some (.dic (kvs'++[(u,dv'+1)])),some (.lst (q'.map D.int)),some (.int v),some (.int u)]=.nx [some (wb m ts),some (.int r),some (.dic (kvs'++[(u,dv'+1)])),some (.lst (q'.map D.int++[.int u])),some (.int v),some (.int u)]:=by
       rw[iY (xs:=q'.map D.int) (d:=.int u) rfl rfl qz];rfl
      have t1:evT (wAt p (k+2)) (.cmp .notin (.var 5) (.own 2)) [some (wb m ts),some (.int r),some (.dic kvs'),some (.lst (q'.map D.int)),some (.int v),some (.int u)]=.ok true:=by
       generalize wb m ts=WB at *;generalize D.dic kvs'=DK at *;generalize D.lst (q'.map D.int)=LQ at *;simp[KG.Z,c1]
      rw[zT,t1];simp only[R.out_ok,if_true];rw[qe,st1];show qe _ (.cons _ .nil) _=_;rw[qe,st2];rfl
    ·rintro σ ⟨us,kvs',q',v6',e,bn,hm,rfl⟩;cases us with
     |nil=>exact zQ ⟨kvs',q',_,_,bn.done,hm.symm,by rw[bA]at hn8;lia,rfl⟩
     |cons _ _=>cases e
  ·rintro σ ⟨kvs,v5,v6,wy,rfl⟩;exact gR (d:=.dic kvs) rfl ⟨kvs,wy,rfl⟩
 obtain⟨d,e,kvs,wy,rfl⟩:=kq (w:=wAt p (k+2)) (f:=gS) (ds:=[wb m ts,.int r]) rfl rfl main;exact⟨kvs,wy,e⟩
end
theorem mY{kvs:List (Int×Int)}{u d:Int}:(cK kvs u d).map (·.1)=if (kvs.any λp=>decide (p.1=u))=true then kvs.map (·.1)else kvs.map (·.1)++[u]:=by
 rw[cK];split
 ·rw[bF];refine List.map_congr_left λp _=>?_
  show (if p.1=u then (p.1,d)else p).1=p.1;split<;>rfl
 ·rw[List.map_append];rfl
theorem uS{kvs:List (Int×Int)}{u d:Int}(h:(kvs.map (·.1)).Nodup):((cK kvs u d).map (·.1)).Nodup:=by
 rw[mY];split
 ·exact h
 ·rename_i z
  refine List.nodup_append.mpr ⟨h,by simp,λa ha c hc e=>?_⟩;simp at hc;subst hc e;obtain⟨p,hp,e⟩:=aM.mp ha;exact z (dP.mpr ⟨p,hp,by simpa using e⟩)
section
variable{m:Int}{ts:List (Int×Int)}{r:Int}
noncomputable def Lss(kvs kvs':List (Int×Int)):Prop:=∀x e,atK kvs x=some e->∃e',atK kvs' x=some e'/\e'<=e
theorem Lss.refl(kvs:List (Int×Int)):Lss kvs kvs:=λx e h=>⟨e,h,Int.le_refl _⟩
theorem oa{v d:Int}(h0:0<=r)(h1:r<m)(h:bS m ts r v d):d<m:=by
 have key:∀(k:Nat) (v:Int),bS m ts r v k->0<=v/\v<m:=by
  intro k v h;obtain⟨j,e,i,mn⟩:=h;have:j=k:=by lia
  subst this;cases j with
  |zero=>
   have i:v=r:=i;subst i;exact⟨h0,h1⟩
  |succ j=>
   rcases i with i|⟨u,_,hw⟩
   ·exact absurd i (mn j (by lia))
   ·exact f_ hw
 have chain:∀(k:Nat) (v:Int),bS m ts r v k->∃l:List Int,l.length=k+1/\l.Nodup/\(∀x∈l,0<=x/\x<m)/\∀x∈l,∃j:Nat,j<=k/\bS m ts r x j:=by
  intro k
  induction k with
  |zero=>intro v h;exact⟨[v],rfl,by simp,(λx hx=>by simp at hx;subst hx;exact key 0 x h),(λx hx=>by simp at hx;subst hx;exact⟨0,ay _,h⟩)⟩
  |succ k ih=>
   intro v h;have hv:=key (k+1) v h;obtain⟨j,e,i,mn⟩:=id h;have:j=k+1:=by lia
   subst this;rcases i with i|⟨u,i,hw⟩
   ·exact absurd i (mn k (by lia))
   ·have du:bS m ts r u k:=⟨k,rfl,i,λj hj y=>mn (j+1) (by lia) (.inr ⟨u,y,hw⟩)⟩
    obtain⟨l,l1,l2,l3,l4⟩:=ih u du;refine⟨v::l,by simp[l1],List.nodup_cons.mpr ⟨λz=>?_,l2⟩,λx hx=>?_,λx hx=>?_⟩
    ·obtain⟨j,j1,j2⟩:=l4 v z;have:=bS.uniq j2 h;lia
    ·rcases aD.mp hx with rfl|hx
     ·exact hv
     ·exact l3 x hx
    ·rcases aD.mp hx with rfl|hx
     ·exact⟨k+1,ay _,h⟩
     ·obtain⟨j,j1,j2⟩:=l4 x hx;exact⟨j,by lia,j2⟩
 obtain⟨k,rfl,_⟩:=id h;obtain⟨l,l1,l2,l3,_⟩:=chain k v h;have:=gr l2 l3;lia
end
noncomputable def kZ:Fn:=⟨2,6,false,(.cons (.set (.nm 2) (.dic1 (.var 1) (.con (.int 0)))) (.cons (.for (.nm 3) (.rng (.ix (.var 0) (.con (.int 0)))) (.cons (.for (.nm 4) (.seq (.lsd (.own 2))) (.cons (.for (.nm 5) (.seq (.call "_law_hood" (.cons (.var 0) (.cons (.var 4) .nil)))) (.cons (.seti 2 (.var 5) (.ite (.cmp .ne (.var 5) (.var 4)) (.bi .min (.cons (.dget2 (.own 2) (.var 5) (.con (.int 99))) (.cons (.op .add (.ix (.own 2) (.var 4)) (.con (.int 1))) .nil))) (.ix (.own 2) (.var 5)))) .nil)) .nil)) .nil)) (.cons (.ret (.own 2)) .nil)))⟩
section
variable{p:Pr}(hH:p.fns "_law_hood" = some eS)(hf:p.fns "_law_ways" = some kZ)
include hH hf
end
section
variable{m:Int}{ts:List (Int×Int)}
theorem pf{a x:Int}(ha:0<=a/\a<m)(h:x∈hd m ts a):a∈hd m ts x:=by
 rw[vV]at h ⊢;exact⟨ha,h.2.imp Eq.symm λe=>by rw[xm];exact e⟩
noncomputable def Rch(m:Int)(ts:List (Int×Int))(r v:Int):Prop:=∃k,inR m ts r k v
theorem Rch.refl(r:Int):Rch m ts r r:=⟨0,rfl⟩
theorem Rch.step{r u v:Int}(h:Rch m ts r u)(q:v∈hd m ts u):Rch m ts r v:=by
 obtain⟨k,h⟩:=h;exact⟨k+1,.inr ⟨u,h,q⟩⟩
theorem Rch.trans{a b c:Int}(h:Rch m ts a b)(h':Rch m ts b c):Rch m ts a c:=by
 obtain⟨k,h'⟩:=h'
 induction k generalizing c with
 |zero=>
  have e:c=b:=h';rw[e];exact h
 |succ k ih=>
  rcases h' with q|⟨u,q,hw⟩
  ·exact ih q
  ·exact(ih q).step hw
theorem Rch.symm{a b:Int}(ha:0<=a/\a<m)(h:Rch m ts a b):Rch m ts b a/\0<=b/\b<m:=by
 obtain⟨k,h⟩:=h
 induction k generalizing b with
 |zero=>
  have e:b=a:=h;rw[e];exact⟨.refl a,ha⟩
 |succ k ih=>
  rcases h with q|⟨u,q,hw⟩
  ·exact ih q
  ·obtain⟨i1,i2⟩:=ih q;have:=pf (m:=m) (ts:=ts) i2 hw;exact⟨Rch.trans (Rch.step (.refl b) this) i1,f_ hw⟩
theorem bD.key{r v:Int}{kvs:List (Int×Int)}(a:bD m ts r kvs):Key kvs v↔Rch m ts r v:=by
 constructor
 ·rintro⟨d,h⟩;obtain⟨k,_,i,_⟩:=(a.ok _ h).1;exact⟨k,i⟩
 ·rintro⟨k,h⟩;exact a.all k v h
noncomputable def ks(kvs:List (Int×Int)):List Int:=sortI (kvs.map (·.1))
theorem nk{kvs:List (Int×Int)}{v:Int}:v∈ks kvs↔Key kvs v:=by
 rw[ks,(sortI_perm _).mem_iff,aM];constructor
 ·rintro⟨p,hp,rfl⟩;exact⟨p.2,hp⟩
 ·rintro⟨d,h⟩;exact⟨(v,d),h,rfl⟩
theorem mR{a b:Int}{x y:List (Int×Int)}(ha:0<=a/\a<m)(hx:bD m ts a x)(hy:bD m ts b y)(h:Rch m ts a b):ks x=ks y:=by
 have hs:=(h.symm ha).1;have pm:(x.map (·.1)).Perm (y.map (·.1)):=(List.perm_ext_iff_of_nodup hx.nd hy.nd).mpr λv=>by
  rw[hx.mem,hy.mem];exact⟨λq=>hs.trans q,λq=>h.trans q⟩
 exact jD ((sortI_perm _).trans pm) (lY _)
noncomputable def ddp(S:Int->List Int):List Int->List (List Int)->List (List Int)
 | [],acc=>acc
 |a::l,acc=>ddp S l (if S a∈acc then acc else acc++[S a])
theorem A_{kvs:List (Int×Int)}{u d x:Int}:Key (cK kvs u d) x↔Key kvs x\/x=u:=by
 have e:∀l:List (Int×Int),Key l x↔x∈l.map (·.1):=λl=>by
  rw[aM];constructor
  ·rintro⟨d,h⟩;exact⟨(x,d),h,rfl⟩
  ·rintro⟨p,hp,rfl⟩;exact⟨p.2,hp⟩
 rw[e,e,mY];split
 ·rename_i h
  obtain⟨p,hp,f⟩:=dP.mp h;constructor
  ·exact .inl
  ·rintro(h|rfl)
   ·exact h
   ·exact aM.mpr ⟨p,hp,by simpa using f⟩
 ·simp
theorem kT{x:Int}:∀(ms kvs:List (Int×Int)),Key (cZ kvs ms) x↔Key kvs x\/Key ms x
 | [],kvs=>by
  show Key kvs x↔_;constructor
  ·exact .inl
  ·rintro(h|⟨d,h⟩)
   ·exact h
   ·cases h
 |p::l,kvs=>by
  show Key (cZ (cK kvs p.1 p.2) l) x↔_;rw[kT l,A_];constructor
  ·rintro((h|rfl)|⟨d,h⟩)
   ·exact .inl h
   ·exact .inr ⟨p.2,aJ⟩
   ·exact .inr ⟨d,aK _ h⟩
  ·rintro(h|⟨d,h⟩)
   ·exact .inl (.inl h)
   ·rcases aD.mp h with e|h
    ·exact .inl (.inr (by rw[<-e]))
    ·exact .inr ⟨d,h⟩
theorem q_:∀(ms kvs:List (Int×Int)),(kvs.map (·.1)).Nodup->((cZ kvs ms).map (·.1)).Nodup
 | [],kvs,h=>h
 |p::l,kvs,h=>q_ l (cK kvs p.1 p.2) (uS h)
end
noncomputable def gA(b:Bool):Fn:=⟨1,5,b,(.cons (.exp (.call "need_web" (.cons (.var 0) .nil))) (.cons (.set (.nm 1) (.lst .nil)) (.cons (.set (.nm 2) .dic) (.cons (.for (.nm 3) (.rng (.ix (.var 0) (.con (.int 0)))) (.cons (.ite (.cmp .notin (.var 3) (.own 2)) (.cons (.set (.nm 4) (.call "ways_from" (.cons (.var 0) (.cons (.var 3) .nil)))) (.cons (.dupd 2 (.var 4)) (.cons (.app 1 (.bi .tuple (.cons (.bi .sorted (.cons (.var 4) .nil)) .nil))) .nil))) .nil) .nil)) (.cons (.ret (.own 1)) .nil)))))⟩
theorem BM{kvs:List (Int×Int)}(h:kvs.length<64):b1 .sorted [.dic kvs]=.ok (.lst ((ks kvs).map D.int)):=by
 show (if kvs.length<64 then R.ok (D.lst ((sortI (kvs.map (·.1))).map D.int))else .no)=_;rw[if_pos h];rfl
section
variable{p:Pr}{b:Bool}(B:Web p)(hf:p.fns "pieces" = some (gA b))
include B hf
theorem pieces{k:Nat}{m:Int}{ts:List (Int×Int)}(h:GW m ts){W:Int->List (Int×Int)}(hW:∀a,0<=a->a<m->bD m ts a (W a)/\qa p (k+4) "ways_from" [wb m ts,.int a]=.ok (.dic (W a))) :
  qa p (k+5) "pieces" [wb m ts]=.ok (.lst ((ddp (λa=>ks (W a)) (rng m) []).map tu)):=by
 have h8:=h.hi;have hl:=h.lo;have hx:ixD (wb m ts) (.int 0)=.ok (.int m):=rfl;have hm:qC m=true:=by simp[qC];lia
 have e1:=need_web B (k:=k) h;have wl:∀a,0<=a->a<m->(W a).length<=8:=λa a0 a1=>by
  have w:=(hW a a0 a1).1;have:=gr w.nd λy hy=>by
   obtain⟨q,hq,rfl⟩:=aM.mp hy;exact(w.ok q hq).2
  rw[aF]at this;lia
 rw[qc hf];have main:Ends (λ_=>False) (λd=>d=.lst ((ddp (λa=>ks (W a)) (rng m) []).map tu)) (qe (wAt p (k+4)) (gA b).body [some (wb m ts),none,none,none,none]):=by
  refine zu (σ:=[some (wb m ts),none,none,none,none]) (by generalize wb m ts=WB at *;simp[KG.Z,e1]) ?_;refine zu (σ:=[some (wb m ts),some (.lst []),none,none,none]) rfl ?_;refine zu (σ:=[some (wb m ts),some (.lst []),some (.dic []),none,none]) rfl ?_;refine eK (ds:=(rng m).map D.int) (λl σ=>∃(as:List Int) (acc:List (List Int)) (seen:List (Int×Int)) (v3 v4:Option D),l=as.map D.int/\(∀a∈as,0<=a/\a<m)/\ddp (λa=>ks (W a)) as acc=ddp (λa=>ks (W a)) (rng m) []/\acc.length+as.length<=8/\(seen.map (·.1)).Nodup/\(∀x,Key seen x->0<=x/\x<m)/\(∀x,0<=x->x<m->(Key seen x↔ks (W x)∈acc))/\σ=[some (wb m ts),some (.lst (acc.map tu)),some (.dic seen),v3,v4]) ?_ ⟨rng m,[],[],none,none,rfl,λa ha=>cP.mp ha,rfl,by rw[zH];simp;lia,by simp,λx ⟨d,z⟩=>(by cases z),λx _ _=>⟨λ⟨d,z⟩=>(by cases z),λz=>(by cases z)⟩,rfl⟩ ?_ ?_
  ·rw[<-zK];generalize wb m ts=WB at *;simp[KG.Z,hx,hm]
  ·rintro x l σ ⟨as,acc,seen,v3,v4,e,has,hd',hlen,nd,rg,iff,rfl⟩;obtain⟨a,as,rfl,rfl,rfl⟩:=fx e;obtain⟨a0,a1⟩:=has a aJ;refine⟨[some (wb m ts),some (.lst (acc.map tu)),some (.dic seen),some (.int a),v4],rfl,?_⟩;rw[ddp]at hd';rw[bA]at hlen;by_cases z:Key seen a
   ·have c1:qi .notin (.int a) (.dic seen)=.ok false:=by
     simp only[qi,seq?,dg,R.bind_ok,(fP seen a).mpr z];rfl
    rw[if_pos ((iff a a0 a1).mp z)]at hd';refine zu (σ:=[some (wb m ts),some (.lst (acc.map tu)),some (.dic seen),some (.int a),v4]) ?_ (zQ ⟨as,acc,seen,_,_,rfl,λy hy=>has y (aK _ hy),hd',by lia,nd,rg,iff,rfl⟩);generalize wb m ts=WB at *;generalize D.dic seen=DK at *;generalize D.lst (acc.map tu)=LQ at *;simp[KG.Z,c1]
   ·have c1:qi .notin (.int a) (.dic seen)=.ok true:=by
     have:(seen.any λp=>decide (p.1=a))=false:=by
      cases q:(seen.any λp=>decide (p.1=a))with
      |false=>rfl
      |true=>exact absurd ((fP seen a).mp q) z
     simp only[qi,seq?,dg,R.bind_ok,this];rfl
    have nz:ks (W a)∉acc:=λq=>z ((iff a a0 a1).mpr q)
    rw[if_neg nz]at hd';obtain⟨wa,ca⟩:=hW a a0 a1;have sl:=gr nd λy hy=>by
     obtain⟨q,hq,rfl⟩:=aM.mp hy;exact rg q.1 ⟨q.2,hq⟩
    rw[aF]at sl;have wl':=wl a a0 a1;have kz:seen.length+(W a).length<SZ:=by simp[SZ];lia
    have sd:=BM (kvs:=W a) (by lia);have az:(acc.map tu).length<SZ:=by rw[aF];simp[SZ];lia
    refine zu (σ:=[some (wb m ts),some (.lst ((acc++[ks (W a)]).map tu)),some (.dic (cZ seen (W a))),some (.int a),some (.dic (W a))]) ?_ (zQ ⟨as,_,_,_,_,rfl,λy hy=>has y (aK _ hy),hd',by rw[bO];simp only[bA,List.length_nil];lia,q_ _ _ nd,λx hx=>?_,λx x0 x1=>?_,rfl⟩)
    ·have s1:evS (wAt p (k+4)) (.set (.nm 4) (.call "ways_from" (.cons (.var 0) (.cons (.var 3) .nil)))) [some (wb m ts),some (.lst (acc.map tu)),some (.dic seen),some (.int a),v4]=.nx [some (wb m ts),some (.lst (acc.map tu)),some (.dic seen),some (.int a),some (.dic (W a))]:=by
      generalize wb m ts=WB at *;generalize D.dic seen=DK at *;generalize D.dic (W a)=DW at *;generalize D.lst (acc.map tu)=LQ at *;simp[KG.Z,ca]
     have s2:evS (wAt p (k+4)) (.dupd 2 (.var 4)) [some (wb m ts),some (.lst (acc.map tu)),some (.dic seen),some (.int a),some (.dic (W a))]=.nx [some (wb m ts),some (.lst (acc.map tu)),some (.dic (cZ seen (W a))),some (.int a),some (.dic (W a))]:=by
      show (if seen.length+(W a).length<SZ then EV.O.nx _ else EV.O.no)=_;rw[if_pos kz];rfl
     have s3:evS (wAt p (k+4)) (.app 1 (.bi .tuple (.cons (.bi .sorted (.cons (.var 4) .nil)) .nil))) [some (wb m ts),some (.lst (acc.map tu)),some (.dic (cZ seen (W a))),some (.int a),some (.dic (W a))]=.nx [some (wb m ts),some (.lst (acc.map tu++[tu (ks (W a))])),some (.dic (cZ seen (W a))),some (.int a),some (.dic (W a))]:=by
      have t1:evE (wAt p (k+4)) (.bi .tuple (.cons (.bi .sorted (.cons (.var 4) .nil)) .nil)) [some (wb m ts),some (.lst (acc.map tu)),some (.dic (cZ seen (W a))),some (.int a),some (.dic (W a))]=.ok (tu (ks (W a))):=by
       have t2:b1 .tuple [.lst ((ks (W a)).map D.int)]=.ok (tu (ks (W a))):=rfl;generalize wb m ts=WB at *;generalize D.dic (cZ seen (W a))=DK at *;generalize D.dic (W a)=DW at *;generalize D.lst (acc.map tu)=LQ at *;generalize tu (ks (W a))=TT at *;simp[KG.Z,sd,t2]
      rw[iY (xs:=acc.map tu) (d:=tu (ks (W a))) rfl t1 az];rfl
     have t1:evT (wAt p (k+4)) (.cmp .notin (.var 3) (.own 2)) [some (wb m ts),some (.lst (acc.map tu)),some (.dic seen),some (.int a),v4]=.ok true:=by
      generalize wb m ts=WB at *;generalize D.dic seen=DK at *;generalize D.lst (acc.map tu)=LQ at *;simp[KG.Z,c1]
     rw[zT,t1];simp only[R.out_ok,if_true];rw[qe,s1];show qe _ (.cons _ (.cons _ .nil)) _=_;rw[qe,s2];show qe _ (.cons _ .nil) _=_;rw[qe,s3,List.map_append];rfl
    ·rcases(kT (W a) seen).mp hx with q|⟨d,q⟩
     ·exact rg x q
     ·exact(wa.ok _ q).2
    ·rw[kT,iff x x0 x1,wa.key,List.mem_append];constructor
     ·rintro(q|q)
      ·exact .inl q
      ·exact .inr (by rw[mR ⟨a0,a1⟩ wa (hW x x0 x1).1 q];simp)
     ·rintro(q|q)
      ·exact .inl q
      ·simp only[aD,bV,or_false]at q;have:x∈ks (W x):=nk.mpr ((hW x x0 x1).1.key.mpr (.refl x));rw[q]at this;exact .inr (wa.key.mp (nk.mp this))
  ·rintro σ ⟨as,acc,seen,v3,v4,e,has,hd',hlen,nd,rg,iff,rfl⟩;cases as with
   |cons _ _=>cases e
   |nil=>
    rw[ddp]at hd';subst hd';exact gR (d:=.lst ((ddp (λa=>ks (W a)) (rng m) []).map tu)) rfl rfl
 obtain⟨d,e,rfl⟩:=kq (w:=wAt p (k+4)) (f:=gA b) (ds:=[wb m ts]) rfl rfl main;exact e
end
end KG
namespace KG
open EV
open PySem (Str)
open L2 (atI ixN ltP)
noncomputable def rg2(lo hi:Int):List Int:=(a8 (hi-lo).toNat).map λ(i:Nat)=>lo+(i:Int)
theorem jR{lo hi i:Int}:i∈rg2 lo hi↔lo<=i/\i<hi:=by
 simp only[rg2,aM,List.mem_range];constructor
 ·rintro⟨a,h,rfl⟩;lia
 ·intro h;exact⟨(i-lo).toNat,by lia,by lia⟩
theorem BL(lo hi:Int):zY lo (hi-lo).toNat=(rg2 lo hi).map D.int:=by
 rw[zY,rg2,bF];rfl
section
variable{p:Pr}
end
noncomputable def srt(t:Int×Int):Int×Int:=if t.1<=t.2 then t else (t.2,t.1)
theorem xH(a b:Int):sortI [a,b]=[(srt (a,b)).1,(srt (a,b)).2]:=by
 show insI a [b]=_;rw[insI,srt];by_cases h:a<=b
 ·rw[if_pos h,if_pos h]
 ·rw[if_neg h,if_neg h];rfl
theorem yc{a b c d:Int}(h:srt (a,b)=srt (c,d)):(a=c/\b=d)\/(a=d/\b=c):=by
 unfold srt at h;split at h<;>split at h<;>(injection h with h1 h2;lia)
structure Iok(m:Int)(I:List (Int×Int)):Prop where
 ok:∀t∈I,0<=t.1/\t.1<m/\0<=t.2/\t.2<m/\t.1≠t.2
 pw:I.Pairwise λs t=>¬ (s.1=t.1/\s.2=t.2)/\¬ (s.1=t.2/\s.2=t.1)
 len:I.length<=8
noncomputable instance (m:Int) (I:List (Int×Int)):Decidable (Iok m I):=
 decidable_of_iff ((∀t∈I,0<=t.1/\t.1<m/\0<=t.2/\t.2<m/\t.1≠t.2)/\I.Pairwise (λs t=>¬ (s.1=t.1/\s.2=t.2)/\¬ (s.1=t.2/\s.2=t.1))/\I.length<=8) ⟨λ⟨a,b,c⟩=>⟨a,b,c⟩,λ⟨a,b,c⟩=>⟨a,b,c⟩⟩
section
variable{m:Int}{o:List Int}
theorem jv(hp:o.Perm (rng m)){i:Int}(h0:0<=i)(h:i<m):0<=o.getD i.toNat 0/\o.getD i.toNat 0<m:=by
 have hl:i.toNat<o.length:=by rw[hp.length_eq,zH];lia
 have e:o.getD i.toNat 0=o[i.toNat]:=by simp[List.getD,hl]
 rw[e];exact cP.mp (hp.mem_iff.mp (List.getElem_mem hl))
theorem iK(hp:o.Perm (rng m)){i j:Int}(h0:0<=i)(h:i<m)(g0:0<=j)(g:j<m)(e:o.getD i.toNat 0=o.getD j.toNat 0):i=j:=by
 have nd:o.Nodup:=hp.nodup_iff.mpr ((iR m).imp λh=>Int.ne_of_lt h);have hl:i.toNat<o.length:=by rw[hp.length_eq,zH];lia
 have gl:j.toNat<o.length:=by rw[hp.length_eq,zH];lia
 have e1:o.getD i.toNat 0=o[i.toNat]:=by simp[List.getD,hl]
 have e2:o.getD j.toNat 0=o[j.toNat]:=by simp[List.getD,gl]
 rw[e1,e2]at e;have key:=List.pairwise_iff_getElem.mp nd;rcases Nat.lt_trichotomy i.toNat j.toNat with z|z|z
 ·exact absurd e (key _ _ hl gl z)
 ·lia
 ·exact absurd e.symm (key _ _ gl hl z)
noncomputable def zw(o:List Int)(t:Int×Int):Int×Int:=srt (o.getD t.1.toNat 0,o.getD t.2.toNat 0)
theorem B5(h1:1<=m)(h2:m<=8)(hp:o.Perm (rng m)){I:List (Int×Int)}(hI:Iok m I):GW m (zx (I.map (zw o))):=by
 have pm:=gH (I.map (zw o));have nd:(I.map (zw o)).Nodup:=by
  rw[List.Nodup,List.pairwise_map];refine hI.pw.imp_of_mem λ{s t} hs ht h e=>?_
  obtain⟨a1,a2,a3,a4,_⟩:=hI.ok s hs;obtain⟨b1,b2,b3,b4,_⟩:=hI.ok t ht;rcases yc e with ⟨e1,e2⟩|⟨e1,e2⟩
  ·exact h.1 ⟨iK hp a1 a2 b1 b2 e1,iK hp a3 a4 b3 b4 e2⟩
  ·exact h.2 ⟨iK hp a1 a2 b3 b4 e1,iK hp a3 a4 b1 b2 e2⟩
 refine⟨h1,h2,vW (kx _) (pm.nodup_iff.mpr nd),λt ht=>?_,?_⟩
 ·obtain⟨s,hs,rfl⟩:=aM.mp (pm.mem_iff.mp ht);obtain⟨a1,a2,a3,a4,a5⟩:=hI.ok s hs;have b1:=jv hp a1 a2;have b2:=jv hp a3 a4;have b3:o.getD s.1.toNat 0≠o.getD s.2.toNat 0:=λe=>a5 (iK hp a1 a2 a3 a4 e)
  rw[zw,srt];split<;>(simp only;simp only at *;lia)
 ·rw[pm.length_eq,aF];have:=hI.len;lia
theorem yH(hl:(o.length:Int)=m){i:Int}(h0:0<=i)(h:i<m):ixD (.lst (o.map D.int)) (.int i)=.ok (.int (o.getD i.toNat 0)):=by
 obtain⟨j,rfl⟩:∃j:Nat,i=j:=⟨i.toNat,by lia⟩
 have hj:j<o.length:=by lia
 have:=fQ (xs:=o.map D.int) (i:=j) (by simpa using hj);simp only[ixD];rw[this];simp[hj]
end
theorem tU(j:Nat):rng ((j:Int)+1)=rng (j:Int)++[(j:Int)]:=by
 rw[rng,rng,show ((j:Int)+1).toNat=j+1 by lia,show ((j:Int)).toNat=j by lia,List.range_succ,List.map_append];rfl
theorem mD(m:Int):rng m=rg2 0 m:=by
 rw[rng,rg2,Int.sub_zero];simp
theorem ka{lo hi:Int}(h:lo<hi):rg2 lo hi=lo::rg2 (lo+1) hi:=by
 rw[rg2,rg2,show (hi-lo).toNat=(hi-(lo+1)).toNat+1 by lia,List.range_succ_eq_map,aQ,bF]
 congr 1
 ·simp
 ·refine List.map_congr_left λi _=>?_
  simp only[Function.comp];lia
abbrev TE(m c:Int)(o:List Int)(v3 v4:Option D):Env:=[some (.int m),some (.int c),some (.lst (o.map D.int)),v3,v4]
noncomputable def jl:Fn:=⟨2,6,false,(.cons (.set (.nm 2) (.lst .nil)) (.cons (.for (.nm 3) (.rng (.var 0)) (.cons (.ins 2 (.op .mod (.call "_law_stir" (.cons (.var 1) (.cons (.op .add (.var 3) (.con (.int 40))) .nil))) (.op .add (.var 3) (.con (.int 1)))) (.var 3)) .nil)) (.cons (.set (.nm 4) (.lst .nil)) (.cons (.for (.nm 5) (.rng2 (.con (.int 1)) (.var 0)) (.cons (.app 4 (.bi .tuple (.cons (.bi .sorted (.cons (.lst (.cons (.ix (.own 2) (.var 5)) (.cons (.ix (.own 2) (.op .mod (.call "_law_stir" (.cons (.var 1) (.cons (.var 5) .nil))) (.var 5))) .nil))) .nil)) .nil))) .nil)) (.cons (.ret (.tup (.cons (.var 0) (.cons (.bi .tuple (.cons (.bi .sorted (.cons (.own 4) .nil)) .nil)) .nil)))) .nil)))))⟩
abbrev TB(m c:Int)(o:List Int)(v3 v4 v5:Option D):Env:=[some (.int m),some (.int c),some (.lst (o.map D.int)),v3,v4,v5]
noncomputable def It(c m:Int):List (Int×Int):=(rg2 1 m).map λi=>(i,st c i%i)
theorem yG(lo hi:Int):(rg2 lo hi).Pairwise (· < ·):=by
 rw[rg2,List.pairwise_map];exact List.pairwise_lt_range.imp λz=>by lia
theorem rM(c m:Int)(h2:m<=8):Iok m (It c m):=by
 have hm:∀i,i∈rg2 1 m->1<=i/\i<m/\0<=st c i%i/\st c i%i<i:=λi hi=>by
  obtain⟨a,b⟩:=jR.mp hi;exact⟨a,b,Int.emod_nonneg _ (by lia),Int.emod_lt_of_pos _ (by lia)⟩
 refine⟨λt ht=>?_,?_,?_⟩
 ·obtain⟨i,hi,rfl⟩:=aM.mp ht;obtain⟨a,b,c1,d⟩:=hm i hi;refine⟨?_,?_,?_,?_,?_⟩<;>(simp only;lia)
 ·rw[It,List.pairwise_map];refine(List.Pairwise.and_mem.mp (yG 1 m)).imp λ{i j} ⟨hi,hj,z⟩=>?_
  obtain⟨a,b,c1,d⟩:=hm i hi;obtain⟨a',b',c',d'⟩:=hm j hj;constructor
  ·rintro⟨e1,e2⟩;simp only at e1 e2;lia
  ·rintro⟨e1,e2⟩;simp only at e1 e2;lia
 ·rw[It,aF,rg2,aF,List.length_range];lia
theorem Dn{p:Pr}(hS:p.fns "_law_stir" = some zV)(hf:p.fns "_law_tree_by" = some jl){k:Nat}(m c:Int)(h1:1<=m)(h2:m<=8):∃o,o.Perm (rng m)/\qa p (k+2) "_law_tree_by" [.int m,.int c]=.ok (wb m (zx ((It c m).map (zw o)))):=by
 suffices hs:∃d,qa p (k+2) "_law_tree_by" [.int m,.int c]=.ok d/\∃o,o.Perm (rng m)/\d=wb m (zx ((It c m).map (zw o)))by
  obtain⟨d,e,o,g,rfl⟩:=hs;exact⟨o,g,e⟩
 refine lV (k:=k+1) (τ:=[some (.int m),some (.int c),none,none,none,none]) hf rfl rfl ?_;refine zu (σ:=TB m c [] none none none) rfl ?_;have hm:qC m=true:=by simp[qC];lia
 refine eK (ds:=(rng m).map D.int) (λr σ=>∃(j:Nat) (o:List Int) (v3:Option D),(j:Int)<=m/\r=(rg2 (j:Int) m).map D.int/\o.Perm (rng (j:Int))/\σ=TB m c o v3 none none) (by rw[<-zK];simp[KG.Z,hm]) ⟨0,[],none,by lia,by rw[mD];rfl,by simp[rng],rfl⟩ ?_ ?_
 ·rintro x t σ ⟨j,o,v3,hj,e,hp,rfl⟩;have hlt:(j:Int)<m:=by
   by_cases z:(j:Int)<m
   ·exact z
   ·rw[rg2,show (m-(j:Int)).toNat=0 by lia]at e;cases e
  rw[ka hlt,aQ]at e;injection e with e1 e2
  subst e1 e2;refine⟨TB m c o (some (.int (j:Nat))) none none,rfl,?_⟩;have e5:=iV hS (k:=k) c ((j:Int)+40);have z1:op2 .add (.int (j:Nat)) (.int 40)=.ok (.int ((j:Int)+40)):=rfl;have z2:op2 .add (.int (j:Nat)) (.int 1)=.ok (.int ((j:Int)+1)):=rfl;have z3:op2 .mod (.int (st c ((j:Int)+40))) (.int ((j:Int)+1))=.ok (.int (st c ((j:Int)+40)%((j:Int)+1))):=by
   show opI .mod _ _=_;rw[opI,if_pos (by lia)]
  have q0:=Int.emod_nonneg (st c ((j:Int)+40)) (show ((j:Int)+1)≠0 by lia);have q1:=Int.emod_lt_of_pos (st c ((j:Int)+40)) (show (0:Int)<(j:Int)+1 by lia);have hl:o.length=j:=by rw[hp.length_eq,zH];lia
  generalize st c ((j:Int)+40)%((j:Int)+1)=q at *;have hk:evE (wAt p (k+1)) (.op .mod (.call "_law_stir" (.cons (.var 1) (.cons (.op .add (.var 3) (.con (.int 40))) .nil))) (.op .add (.var 3) (.con (.int 1)))) (TB m c o (some (.int (j:Nat))) none none)=.ok (.int q):=by
   dsimp only[TB];generalize st c ((j:Int)+40)=QQ at *;generalize (j:Int)+40=J1 at *;generalize (j:Int)+1=J2 at *;generalize (j:Int)=J at *;simp[KG.Z,z1,z2,z3,e5]
  refine zu (σ:=TB m c (o.take q.toNat++(j:Int)::o.drop q.toNat) (some (.int (j:Nat))) none none) ?_ (zQ ⟨j+1,_,_,by lia,by rw[show (((j+1:Nat)):Int)=(j:Int)+1 by lia],?_,rfl⟩)
  ·rw[zS];show ((evE (wAt p (k+1)) _ (TB m c o (some (.int (j:Nat))) none none)).out _)=_;rw[hk];show iA (.lst (o.map D.int)) (.int q) (.int (j:Nat)) 2 (TB m c o (some (.int (j:Nat))) none none)=_;rw[iA];rw[if_pos ⟨q0,by rw[aF,hl];lia,by simp[SZ,hl];lia⟩,<-List.map_take,<-List.map_drop,<-aQ,<-List.map_append]
   rfl
  ·rw[show (((j+1:Nat)):Int)=(j:Int)+1 by lia,tU];have a1:(o.take q.toNat++(j:Int)::o.drop q.toNat).Perm ((j:Int)::o):=by
    have:=List.perm_middle (a:=(j:Int)) (l₁:=o.take q.toNat) (l₂:=o.drop q.toNat)
    rwa[List.take_append_drop]at this
   exact a1.trans ((hp.cons _).trans (List.perm_append_comm (l₁:=[(j:Int)]) (l₂:=rng (j:Int))))
 ·rintro σ ⟨j,o,v3,hj,e,hp,rfl⟩;have hjm:(j:Int)=m:=by
   by_cases z:(j:Int)<m
   ·rw[ka z]at e;cases e
   ·lia
  rw[hjm]at hp;have hl:(o.length:Int)=m:=by rw[hp.length_eq,zH];lia
  have ho:=λ(i:Int) (h0:0<=i) (h:i<m)=>yH (o:=o) hl h0 h
  refine zu (σ:=TB m c o v3 (some (.lst [])) none) rfl ?_;have iok:=rM c m h2;refine eK (ds:=(rg2 1 m).map D.int) (λr σ=>∃(pre us:List Int) (v5:Option D),r=us.map D.int/\pre++us=rg2 1 m/\σ=TB m c o v3 (some (.lst (((pre.map λi=>(i,st c i%i)).map (zw o)).map prD))) v5) ?_ ⟨[],rg2 1 m,none,rfl,rfl,rfl⟩ ?_ ?_
  ·have s1:qC (1:Int)=true:=by decide
   rw[<-BL];dsimp only[TB];generalize D.lst (o.map D.int)=OL at *;simp[KG.Z,hm,s1]
  ·rintro x t σ ⟨pre,us,v5,e,hus,rfl⟩;obtain⟨i,us,rfl,rfl,rfl⟩:=fx e;have hi:i∈rg2 1 m:=by rw[<-hus];simp
   obtain⟨i1,i2⟩:=jR.mp hi;have t0:0<=st c i%i:=Int.emod_nonneg _ (by lia);have t1:st c i%i<i:=Int.emod_lt_of_pos _ (by lia);refine⟨TB m c o v3 (some (.lst (((pre.map λi=>(i,st c i%i)).map (zw o)).map prD))) (some (.int i)),rfl,?_⟩;have a0:=ho i (by lia) i2;have a1:=ho (st c i%i) t0 (by lia);have e5:=iV hS (k:=k) c i;have z3:op2 .mod (.int (st c i)) (.int i)=.ok (.int (st c i%i)):=by
    show opI .mod _ _=_;rw[opI,if_pos (by lia)]
   have pl:pre.length<=8:=by
    have:=congrArg List.length hus;rw[bO,rg2,aF,List.length_range]at this;lia
   have pz:((((pre.map λi=>(i,st c i%i)).map (zw o)).map prD)).length<SZ:=by simp[SZ];lia
   have hE:evE (wAt p (k+1)) (.bi .tuple (.cons (.bi .sorted (.cons (.lst (.cons (.ix (.own 2) (.var 5)) (.cons (.ix (.own 2) (.op .mod (.call "_law_stir" (.cons (.var 1) (.cons (.var 5) .nil))) (.var 5))) .nil))) .nil)) .nil)) (TB m c o v3 (some (.lst (((pre.map λi=>(i,st c i%i)).map (zw o)).map prD))) (some (.int i)))=.ok (prD (zw o (i,st c i%i))):=by
    have b1':b1 .sorted [.lst [.int (o.getD i.toNat 0),.int (o.getD (st c i%i).toNat 0)]]=.ok (.lst ((sortI [o.getD i.toNat 0,o.getD (st c i%i).toNat 0]).map D.int)):=rfl;have b2':b1 .tuple [.lst ((sortI [o.getD i.toNat 0,o.getD (st c i%i).toNat 0]).map D.int)]=.ok (prD (zw o (i,st c i%i))):=by rw[xH];rfl
    dsimp only[TB];generalize D.lst ((sortI [o.getD i.toNat 0,o.getD (st c i%i).toNat 0]).map D.int)=Y at *;generalize prD (zw o (i,st c i%i))=Z at *;generalize D.lst (((pre.map λi=>(i,st c i%i)).map (zw o)).map prD)=L4 at *;generalize D.lst (o.map D.int)=OL at *;generalize o.getD (st c i%i).toNat 0=A2 at *;generalize o.getD i.toNat 0=A1 at *;generalize st c i%i=R1 at *;generalize st c i=S1 at *;simp[KG.Z,a0,a1,e5,z3,b1',b2']
   refine zu (σ:=TB m c o v3 (some (.lst ((((pre++[i]).map λi=>(i,st c i%i)).map (zw o)).map prD))) (some (.int i))) ?_ (zQ ⟨pre++[i],us,_,rfl,by simpa using hus,rfl⟩);rw[iY (xs:=(((pre.map λi=>(i,st c i%i)).map (zw o)).map prD)) (d:=prD (zw o (i,st c i%i))) rfl hE pz];simp only[List.map_append,aQ,List.map_nil]
   rfl
  ·rintro σ ⟨pre,us,v5,e,hus,rfl⟩;cases us with
   |cons _ _=>cases e
   |nil=>
    rw[cR]at hus;subst hus;show Ends _ _ (qe (wAt p (k+1)) (.cons (.ret _) .nil) (TB m c o v3 (some (.lst (((It c m).map (zw o)).map prD))) v5));refine gR (d:=wb m (zx ((It c m).map (zw o)))) ?_ ⟨o,hp,rfl⟩;have t2:=nX ((It c m).map (zw o)) (by rw[aF];have:=iok.len;lia);have t3:b1 .tuple [.lst ((zx ((It c m).map (zw o))).map prD)]=.ok (.tup ((zx ((It c m).map (zw o))).map prD)):=rfl;dsimp only[TB];show _=R.ok (D.tup [.int m,.tup ((zx ((It c m).map (zw o))).map prD)]);generalize D.lst (((It c m).map (zw o)).map prD)=L1 at *;generalize D.lst ((zx ((It c m).map (zw o))).map prD)=L2 at *;generalize D.tup ((zx ((It c m).map (zw o))).map prD)=L3 at *;generalize D.lst (o.map D.int)=OL at *;simp[KG.Z,t2,t3]
end KG
namespace KG
open EV
open PySem (Str)
open L2 (atI ixN ltP atK cK cZ)
section
variable{m:Int}{ts:List (Int×Int)}
structure Tree(m:Int)(ts:List (Int×Int)):Prop where
 gw:GW m ts
 len:(ts.length:Int)=m-1
 con:∀a b,0<=a->a<m->0<=b->b<m->Rch m ts a b
theorem wx{a b:Int}(h:srt (a,b)∈ts)(ha:0<=a/\a<m):a∈hd m ts b:=by
 refine dk.mpr ⟨cP.mpr ha,?_⟩;rw[bP];right;rw[dI,dP];refine⟨_,h,?_⟩;rw[srt,mn,mx,aI,beq_iff_eq,beq_iff_eq];split<;>split<;>split<;>(constructor<;>first|lia|rfl|(simp only;lia))
theorem xh{c:Int}{o:List Int}(h1:1<=m)(h2:m<=8)(hp:o.Perm (rng m)):Tree m (zx ((It c m).map (zw o))):=by
 have pm:=gH ((It c m).map (zw o));have up:∀n:Nat,(n:Int)<m->Rch m (zx ((It c m).map (zw o))) (o.getD 0 0) (o.getD n 0):=by
  intro n
  induction n using Nat.strongRecOn with
  |ind n ih=>
   intro hn;by_cases z:n=0
   ·subst z;exact .refl _
   ·have t0:0<=st c (n:Int)%(n:Int):=Int.emod_nonneg _ (by lia);have t1:st c (n:Int)%(n:Int)<n:=Int.emod_lt_of_pos _ (by lia);have ht:zw o ((n:Int),st c (n:Int)%(n:Int))∈zx ((It c m).map (zw o)):=by
     refine pm.mem_iff.mpr (aM.mpr ⟨_,aM.mpr ⟨(n:Int),jR.mpr ⟨by lia,hn⟩,rfl⟩,rfl⟩)
    generalize st c (n:Int)%(n:Int)=q at *;have:=ih q.toNat (by lia) (by lia);refine this.step ?_;have hm:=jv hp (i:=(n:Int)) (by lia) hn;have hm':0<=o.getD n 0/\o.getD n 0<m:=by simpa using hm
    refine wx ?_ hm';have e:zw o ((n:Int),q)=srt (o.getD n 0,o.getD q.toNat 0):=by simp[zw]
    rwa[e]at ht
 have at_:∀a,0<=a->a<m->∃n:Nat,(n:Int)<m/\o.getD n 0=a:=λa a0 a1=>by
  obtain⟨n,hn,e⟩:=List.getElem_of_mem (hp.mem_iff.mpr (cP.mpr ⟨a0,a1⟩));refine⟨n,by rw[hp.length_eq,zH]at hn;lia,?_⟩;simp[List.getD,hn,e]
 have g:=B5 h1 h2 hp (rM c m h2);have z0:0<=o.getD 0 0/\o.getD 0 0<m:=by simpa using jv hp (i:=0) (by lia) (by lia)
 refine⟨g,?_,λa b a0 a1 b0 b1=>?_⟩
 ·rw[pm.length_eq,aF,It,aF,rg2,aF,List.length_range];lia
 ·obtain⟨i,hi,rfl⟩:=at_ a a0 a1;obtain⟨j,hj,rfl⟩:=at_ b b0 b1;exact((up i hi).symm z0).1.trans (up j hj)
noncomputable def dv(kvs:List (Int×Int))(v:Int):Int:=(atK kvs v).getD 0
theorem Tree.at(T:Tree m ts){r:Int}(h0:0<=r)(h1:r<m){kvs:List (Int×Int)}(w:bD m ts r kvs){v:Int}(v0:0<=v)(v1:v<m):atK kvs v=some (dv kvs v)/\bS m ts r v (dv kvs v):=by
 obtain⟨k,hk⟩:=T.con r v h0 h1 v0 v1;obtain⟨d,hd'⟩:=w.all k v hk;have e:=(iM w.nd).mpr hd';have e2:dv kvs v=d:=by rw[dv,e];rfl
 rw[e2];exact⟨e,(w.ok _ hd').1⟩
theorem og{r:Int}{kvs kvs':List (Int×Int)}(w:bD m ts r kvs)(w':bD m ts r kvs')(v:Int):dv kvs v=dv kvs' v:=by
 rw[dv,dv,w.get w' v]
theorem rh{r u v d e:Int}(hu:bS m ts r u d)(hv:bS m ts r v e)(h:v∈hd m ts u):e<=d+1:=by
 obtain⟨k,rfl,a1,a2⟩:=hu;have:=hv.le (k:=k+1) (.inr ⟨u,a1,h⟩);lia
noncomputable def nrr(m:Int)(ts kvs:List (Int×Int))(v:Int):List Int:=(hd m ts v).filter λo=>decide (dv kvs o<dv kvs v)
theorem AD(T:Tree m ts){r:Int}(h0:0<=r)(h1:r<m){kvs:List (Int×Int)}(w:bD m ts r kvs){v:Int}(v0:0<=v)(v1:v<m):nrr m ts kvs v=(hd m ts v).filter λo=>decide (dv kvs o=dv kvs v-1):=by
 refine List.filter_congr λo ho=>?_
 obtain⟨o0,o1⟩:=f_ ho;have a:=(T.at h0 h1 w v0 v1).2;have b:=(T.at h0 h1 w o0 o1).2;have:=rh b a (pf ⟨v0,v1⟩ ho);exact decide_eq_decide.mpr ⟨λ_=>by lia,λ_=>by lia⟩
noncomputable def frf(m:Int)(kvs:List (Int×Int)):List Int:=(rng m).reverse.flatMap λd=>(rng m).filter λv=>decide (dv kvs v=d)
theorem o9{kvs:List (Int×Int)}(h:∀v,0<=v->v<m->0<=dv kvs v/\dv kvs v<m):(zx ((rng m).map λv=>(- dv kvs v,v))).map (·.2)=frf m kvs:=by
 have e:(rng m).reverse.flatMap (λd=>((rng m).filter λv=>decide (dv kvs v=d)).map λv=>(-d,v))=zx ((rng m).map λv=>(- dv kvs v,v)):=by
  have mem:∀x:Int×Int,x∈(rng m).reverse.flatMap (λd=>((rng m).filter λv=>decide (dv kvs v=d)).map λv=>(-d,v))↔x∈(rng m).map λv=>(- dv kvs v,v):=λx=>by
   simp only[List.mem_flatMap,List.mem_reverse,aM,dk,decide_eq_true_eq];constructor
   ·rintro⟨d,_,v,⟨hv,e⟩,rfl⟩;exact⟨v,hv,by rw[e]⟩
   ·rintro⟨v,hv,rfl⟩;obtain⟨v0,v1⟩:=cP.mp hv;exact⟨dv kvs v,cP.mpr (h v v0 v1),v,⟨hv,rfl⟩,rfl⟩
  have pw:((rng m).reverse.flatMap (λd=>((rng m).filter λv=>decide (dv kvs v=d)).map λv=>(-d,v))).Pairwise λa b=>ltP a b=true:=by
   rw[List.pairwise_flatMap];refine⟨λd _=>?_,?_⟩
   ·rw[List.pairwise_map];exact((iR m).filter _).imp λ{a b} z=>by simp[ltP,z]
   ·rw[List.pairwise_reverse];refine(iR m).imp λ{a b} z x hx y hy=>?_
    obtain⟨v,_,rfl⟩:=aM.mp hx;obtain⟨u,_,rfl⟩:=aM.mp hy;have z1:-b < -a:=by lia
    rw[ltP,if_neg (by simp only;lia)];exact decide_eq_true z1
  have nd1:((rng m).reverse.flatMap (λd=>((rng m).filter λv=>decide (dv kvs v=d)).map λv=>(-d,v))).Nodup:=pw.imp λ{a b} z e=>by
   subst e;rw[show ltP a a=false by simp[ltP]]at z;cases z
  have nd2:((rng m).map λv=>(- dv kvs v,v)).Nodup:=by
   rw[List.Nodup,List.pairwise_map];exact(iR m).imp λ{a b} z e=>by injection e with _ e;lia
  refine n_ ((List.perm_ext_iff_of_nodup nd1 nd2).mpr mem) (pw.imp λ{a b} z=>?_);cases q:ltP b a with
  |false=>rfl
  |true=>
   rw[ltP]at z q;split at z<;>split at q<;>(have z:=of_decide_eq_true z;have q:=of_decide_eq_true q;lia)
 rw[<-e,frf,List.map_flatMap];refine congrArg (λf=>List.flatMap f (rng m).reverse) (funext λd=>?_);rw[bF];exact List.map_id _
end
noncomputable def i8:Fn:=⟨1,3,false,(.cons (.exp (.call "need_web" (.cons (.var 0) .nil))) (.cons (.set (.tp [1,2]) (.var 0)) (.cons (.ret (.and (.cmp .eq (.bi .len (.cons (.call "pieces" (.cons (.var 0) .nil)) .nil)) (.con (.int 1))) (.cmp .eq (.bi .len (.cons (.var 2) .nil)) (.op .sub (.var 1) (.con (.int 1)))))) .nil)))⟩
noncomputable def gp:Fn:=⟨1,1,false,(.cons (.ite (.not (.val (.call "is_tree" (.cons (.var 0) .nil)))) (.cons (.raise "NotTree" (.cons (.con (.str "a tree is due")) .nil)) .nil) .nil) .nil)⟩
noncomputable def kN:Fn:=⟨2,3,false,(.cons (.exp (.call "need_tree" (.cons (.var 0) .nil))) (.cons (.exp (.call "need_place" (.cons (.var 0) (.cons (.var 1) .nil)))) (.cons (.set (.nm 2) (.call "ways_from" (.cons (.var 0) (.cons (.var 1) .nil)))) (.cons (.ret (.bi .tuple (.cons (.comp (.rng (.ix (.var 0) (.con (.int 0)))) [none,none,some 2,some 0] (.nm 1) .yes (.call "upper" (.cons (.var 3) (.cons (.var 2) (.cons (.var 1) .nil))))) .nil))) .nil))))⟩
noncomputable def mr:Fn:=⟨3,4,false,(.cons (.set (.nm 3) (.comp (.seq (.call "hood_of" (.cons (.var 0) (.cons (.var 2) .nil)))) [none,none,some 2,some 1] (.nm 1) (.cmp .lt (.ix (.var 3) (.var 1)) (.ix (.var 3) (.var 2))) (.var 1))) (.cons (.ret (.ite (.val (.var 3)) (.ix (.var 3) (.con (.int 0))) (.neg (.con (.int 1))))) .nil))⟩
noncomputable def j':Fn:=⟨2,3,false,(.cons (.exp (.call "need_tree" (.cons (.var 0) .nil))) (.cons (.exp (.call "need_place" (.cons (.var 0) (.cons (.var 1) .nil)))) (.cons (.set (.nm 2) (.call "ways_from" (.cons (.var 0) (.cons (.var 1) .nil)))) (.cons (.ret (.comp (.seq (.bi .sorted (.cons (.comp (.rng (.ix (.var 0) (.con (.int 0)))) [none,none,some 2] (.nm 1) .yes (.tup (.cons (.neg (.ix (.var 2) (.var 1))) (.cons (.var 1) .nil)))) .nil))) [none,none,none] (.tp [1,2]) .yes (.var 2))) .nil))))⟩
structure Tr0(p:Pr)(b:Bool):Prop where
 web:Web p
 hds:Hds p
 ways_from:p.fns "ways_from" = some gS
 pieces:p.fns "pieces" = some (gA b)
 is_tree:p.fns "is_tree" = some i8
 need_tree:p.fns "need_tree" = some gp
 is_place:p.fns "is_place" = some eh
 need_place:p.fns "need_place" = some fm
 upper:p.fns "upper" = some mr
structure Trs(p:Pr)(b:Bool):Prop extends Tr0 p b where
 above:p.fns "above" = some kN
 from_far:p.fns "from_far" = some j'
theorem rW{S:Int->List Int}{s:List Int}:∀l:List Int,(∀a∈l,S a=s)->ddp S l [s]=[s]
 | [],_=>rfl
 |a::l,h=>by
  rw[ddp,h a aJ,if_pos (by simp)];exact rW l λx hx=>h x (aK _ hx)
theorem uT{w:W}{it:EV.It}{cap:List (Option Nat)}{τ:Env}{l:List (Int×Int)}(h:evI w it τ=.ok (l.map prD))(hz:l.length<=SZ)(hc:dR cap τ=[none,none,none]):evE w (.comp it cap (.tp [1,2]) .yes (.var 2)) τ=.ok (.lst ((l.map (·.2)).map D.int)):=by
 have key:∀(r:List (Int×Int)) (v v':Option D) (acc:List D),zU (λx σ=>noEx ((store (.tp [1,2]) x σ).bind λσ'=>(evT w .yes σ').bind λr=>if r then (evE w (.var 2) σ').bind λd=>.ok (σ',[d])else .ok (σ',[]))) (r.map prD) [none,v,v'] acc=.ok (acc++(r.map (·.2)).map D.int):=by
  intro r
  induction r with
  |nil=>intro v v' acc;simp[zU]
  |cons x r ih=>
   intro v v' acc;rw[aQ,zU];show zU _ (r.map prD) [none,some (.int x.1),some (.int x.2)] (acc++[.int x.2])=_;rw[ih];simp
 rw[qp,h];simp only[R.bind_ok];rw[if_neg (by simp;lia),hc,key l none none []]
 rfl
section
variable{p:Pr}{b:Bool}(P:Tr0 p b){m:Int}{ts:List (Int×Int)}(T:Tree m ts)
include P T
theorem Bi{k:Nat}:qa p (k+6) "is_tree" [wb m ts]=.ok (.bl true):=by
 have h:=T.gw;have ex:∀a,∃kvs,0<=a->a<m->bD m ts a kvs/\qa p (k+4) "ways_from" [wb m ts,.int a]=.ok (.dic kvs):=λa=>by
  by_cases z:0<=a/\a<m
  ·obtain⟨kvs,w,e⟩:=ways_from P.hds.hood_of P.hds.are_tied P.ways_from (k:=k+1) h z.1 z.2;exact⟨kvs,λ_ _=>⟨w,e⟩⟩
  ·exact⟨[],λh1 h2=>absurd ⟨h1,h2⟩ z⟩
 have hW:=λa=>Classical.choose_spec (ex a)
 have e2:=KG.pieces P.web P.pieces h hW;have one:ddp (λa=>ks (Classical.choose (ex a))) (rng m) []=[ks (Classical.choose (ex 0))]:=by
  have h1:=h.lo;have e:rng m=0::rg2 1 m:=by rw[mD,ka (by lia)];rfl
  rw[e,ddp,if_neg (by simp),List.nil_append];refine rW _ λa ha=>?_
  obtain⟨a1,a2⟩:=jR.mp ha;exact(mR ⟨Int.le_refl 0,by lia⟩ (hW 0 (by lia) (by lia)).1 (hW a (by lia) a2).1 (T.con 0 a (by lia) (by lia) (by lia) a2)).symm
 rw[one]at e2;have e1:=need_web P.web (k:=k+1) h;have l1:b1 .len [.lst ([ks (Classical.choose (ex 0))].map tu)]=.ok (.int 1):=rfl;have l2:b1 .len [.tup (ts.map prD)]=.ok (.int (ts.length)):=by rw[lE,aF]
 rw[T.len]at l2;have c1:=eq_int 1 1;have c2:=eq_int (m-1) (m-1);have o1:op2 .sub (.int m) (.int 1)=.ok (.int (m-1)):=rfl;rw[qc P.is_tree];refine qt (τ:=[some (wb m ts),none,none]) rfl rfl ?_;refine zA (σ:=[some (wb m ts),none,none]) (by generalize wb m ts=WB at *;simp[KG.Z,e1]) ?_;refine zA (σ:=[some (wb m ts),some (.int m),some (.tup (ts.map prD))]) rfl ?_;generalize D.tup (ts.map prD)=TT at *;generalize D.lst ([ks (Classical.choose (ex 0))].map tu)=PL at *;generalize wb m ts=WB at *;generalize m-1=M1 at *;simp[KG.Z,e2,l1,l2,c1,c2,o1]
theorem jQ{k:Nat}:qa p (k+7) "need_tree" [wb m ts]=.ok .non:=by
 have e:=Bi P T (k:=k);generalize wb m ts=WB at *;rw[qc P.need_tree];simp only[zF];simp[KG.Z,gp,e]
omit T in
theorem p5{k:Nat}{i:Int}(h:0<=i/\i<m):qa p (k+4) "need_place" [wb m ts,.int i]=.ok .non:=by
 have e:qa p (k+3) "is_place" [wb m ts,.int i]=.ok (.bl true):=by
  rw[qc P.is_place];refine qt rfl rfl ?_;simp[KG.Z,KG.eh,ixD,atI,ixN,op2,is_between P.web i 0 (m-1) (by lia)]
 generalize wb m ts=WB at *;rw[qc P.need_place];simp only[zF];simp[KG.Z,KG.fm,e]
noncomputable def upv(m:Int)(ts kvs:List (Int×Int))(v:Int):Int:=(nrr m ts kvs v++[-1]).headD 0
theorem xD{k:Nat}{r:Int}(h0:0<=r)(h1:r<m){kvs:List (Int×Int)}(w:bD m ts r kvs){v:Int}(v0:0<=v)(v1:v<m):qa p (k+3) "upper" [wb m ts,.dic kvs,.int v]=.ok (.int (upv m ts kvs v)):=by
 have hh:=KG.lq P.hds.hood_of P.hds.are_tied (k:=k) T.gw v;have ix:∀{o:Int},0<=o->o<m->ixD (.dic kvs) (.int o)=.ok (.int (dv kvs o)):=λ{o} o0 o1=>by
  simp only[ixD,(T.at h0 h1 w o0 o1).1]
 have hc:evE (wAt p (k+2)) (.comp (.seq (.call "hood_of" (.cons (.var 0) (.cons (.var 2) .nil)))) [none,none,some 2,some 1] (.nm 1) (.cmp .lt (.ix (.var 3) (.var 1)) (.ix (.var 3) (.var 2))) (.var 1)) [some (wb m ts),some (.dic kvs),some (.int v),none]=.ok (.lst ((nrr m ts kvs v).map D.int)):=by
  refine iH (f:=D.int) (l:=hd m ts v) (c:=[some (.int v),some (.dic kvs)]) (λo=>decide (dv kvs o<dv kvs v)) D.int ?_ ?_ rfl λo ho=>⟨?_,λ_=>rfl⟩
  ·refine lU ?_;generalize wb m ts=WB at *;generalize D.dic kvs=DK at *;simp[KG.Z,hh]
  ·have:=List.length_filter_le (λb=>b==v||dI ts v b) (rng m);rw[zH]at this;have:=T.gw.hi;simp only[hd,SZ];lia
  ·obtain⟨o0,o1⟩:=f_ ho;have a:=ix o0 o1;have c:=ix v0 v1;have l:=lt_int (dv kvs o) (dv kvs v);generalize D.dic kvs=DK at *;simp[KG.Z,a,c,l]
 rw[qc P.upper];refine qt (τ:=[some (wb m ts),some (.dic kvs),some (.int v),none]) rfl rfl ?_;refine zA (σ:=[some (wb m ts),some (.dic kvs),some (.int v),some (.lst ((nrr m ts kvs v).map D.int))]) (by
  show ((evE (wAt p (k+2)) _ _).out _)=_;rw[hc];rfl) ?_
 rw[upv];cases nrr m ts kvs v with
 |nil=>rfl
 |cons x l=>
  have a:=ix0 D.int x l;have te:evT (wAt p (k+2)) (.val (.var 3)) [some (wb m ts),some (.dic kvs),some (.int v),some (.lst ((x::l).map D.int))]=.ok true:=rfl;have xe:evE (wAt p (k+2)) (.ix (.var 3) (.con (.int 0))) [some (wb m ts),some (.dic kvs),some (.int v),some (.lst ((x::l).map D.int))]=.ok (.int x):=a;show qe (wAt p (k+2)) _ _=O.rt (.int x);rw[qe,zL,qr,te];simp only[R.bind_ok,if_true];rw[xe];rfl
end
section
variable{p:Pr}{b:Bool}(P:Trs p b){m:Int}{ts:List (Int×Int)}(T:Tree m ts)
include P T
omit P in
theorem pv{r:Int}(h0:0<=r)(h1:r<m){kvs:List (Int×Int)}(w:bD m ts r kvs):∀v,0<=v->v<m->0<=dv kvs v/\dv kvs v<m:=λv v0 v1=>by
 have d:=(T.at h0 h1 w v0 v1).2;have:=oa h0 h1 d;obtain⟨k,e,_⟩:=d;lia
end
noncomputable def vy:Fn:=⟨2,8,true,(.cons (.set (.nm 2) (.call "above" (.cons (.var 0) (.cons (.var 1) .nil)))) (.cons (.set (.nm 3) (.call "hoods" (.cons (.var 0) .nil))) (.cons (.set (.nm 4) (.lst .nil)) (.cons (.set (.nm 5) (.lst .nil)) (.cons (.for (.nm 6) (.seq (.call "from_far" (.cons (.var 0) (.cons (.var 1) .nil)))) (.cons (.ite (.cmp .notin (.var 6) (.own 4)) (.cons (.set (.nm 7) (.ite (.cmp .eq (.var 6) (.var 1)) (.var 1) (.ix (.var 2) (.var 6)))) (.cons (.app 5 (.tup (.cons (.var 6) (.cons (.var 7) .nil)))) (.cons (.ext 4 (.ix (.var 3) (.var 7))) .nil))) .nil) .nil)) (.cons (.ret (.own 5)) .nil))))))⟩
noncomputable def mw:Fn:=⟨2,6,false,(.cons (.set (.nm 2) (.dic1 (.var 1) (.con (.int 0)))) (.cons (.for (.nm 3) (.rng (.ix (.var 0) (.con (.int 0)))) (.cons (.for (.nm 4) (.seq (.lsd (.own 2))) (.cons (.for (.nm 5) (.seq (.call "_law_hood" (.cons (.var 0) (.cons (.var 4) .nil)))) (.cons (.ite (.cmp .notin (.var 5) (.own 2)) (.cons (.seti 2 (.var 5) (.op .add (.ix (.own 2) (.var 4)) (.con (.int 1)))) .nil) .nil) .nil)) .nil)) .nil)) (.cons (.ret (.own 2)) .nil)))⟩
noncomputable def A9:Fn:=⟨2,8,false,(.cons (.set (.nm 2) (.call "_law_ways" (.cons (.var 0) (.cons (.var 1) .nil)))) (.cons (.set (.nm 3) (.lst .nil)) (.cons (.set (.nm 4) (.lst .nil)) (.cons (.for (.nm 5) (.rrev (.ix (.var 0) (.con (.int 0)))) (.cons (.for (.nm 6) (.rng (.ix (.var 0) (.con (.int 0)))) (.cons (.ite (.and (.cmp .eq (.ix (.var 2) (.var 6)) (.var 5)) (.cmp .eq (.callo "_law_holders" (.cons (.var 0) (.cons (.own 4) (.cons (.var 6) .nil)))) (.tup .nil))) (.cons (.set (.nm 7) (.comp (.seq (.call "_law_hood" (.cons (.var 0) (.cons (.var 6) .nil)))) [none,none,some 5,some 2] (.nm 1) (.cmp .eq (.ix (.var 3) (.var 1)) (.op .sub (.var 2) (.con (.int 1)))) (.var 1))) (.cons (.app 4 (.ix (.op .add (.var 7) (.lst (.cons (.var 6) .nil))) (.con (.int 0)))) (.cons (.app 3 (.tup (.cons (.var 6) (.cons (.ix (.own 4) (.neg (.con (.int 1)))) .nil)))) .nil))) .nil) .nil)) .nil)) (.cons (.ret (.own 3)) .nil)))))⟩
theorem DC(m:Int)(h:0<=m):hZ (m-1) (-1) m.toNat=(rng m).reverse.map D.int:=by
 rw[hZ,rng,<-List.map_reverse,bF];refine List.ext_getElem (by simp) λi h1 h2=>?_
 simp at h1 h2 ⊢;lia
section
variable{m:Int}{ts:List (Int×Int)}
theorem xn{kvs:List (Int×Int)}(h:∀v,0<=v->v<m->0<=dv kvs v/\dv kvs v<m):(frf m kvs).length=m.toNat:=by
 rw[<-o9 h,aF,(gH _).length_eq,aF,zH]
theorem oJ(h:m<=8)(a:Int):(hd m ts a).length<=8:=a_ (List.length_filter_le _ _) (by rw[zH];lia)
end
section
variable{p:Pr}{b:Bool}(P:Trs p b)(hf:p.fns "steps" = some vy){m:Int}{ts:List (Int×Int)}(T:Tree m ts)
include P hf T
end
section
variable{m:Int}{ts:List (Int×Int)}{r:Int}
structure Ex(m:Int)(ts:List (Int×Int))(r:Int)(t:Nat)(kvs:List (Int×Int)):Prop where
 nd:(kvs.map (·.1)).Nodup
 ok:∀q∈kvs,bS m ts r q.1 q.2/\0<=q.1/\q.1<m
 bd:∀q∈kvs,q.2<=t
 all:∀(k:Nat) v,k<=t->inR m ts r k v->Key kvs v
structure Ey(m:Int)(ts:List (Int×Int))(r:Int)(t:Nat)(old kvs:List (Int×Int)):Prop where
 nd:(kvs.map (·.1)).Nodup
 ok:∀q∈kvs,bS m ts r q.1 q.2/\0<=q.1/\q.1<m
 bd:∀q∈kvs,q.2<=(t:Int)+1
 sub:∀q∈old,q∈kvs
theorem Ex.start(h0:0<=r)(h1:r<m):Ex m ts r 0 [(r,0)]:=by
 refine⟨by simp,λq hq=>?_,λq hq=>?_,λk v hk q=>?_⟩
 ·have:q=(r,0):=by simpa using hq
  subst this;exact⟨⟨0,rfl,rfl,λj z=>by lia⟩,h0,h1⟩
 ·have:q=(r,0):=by simpa using hq
  subst this;exact Int.le_refl _
 ·have:k=0:=by lia
  subst this;have q:v=r:=q;subst q;exact⟨0,by simp⟩
theorem Ey.add{t:Nat}{old kvs:List (Int×Int)}(x:Ex m ts r t old)(y:Ey m ts r t old kvs){u du w:Int}(hu:(u,du)∈old)(hw:w∈hd m ts u)(hn:¬ Key kvs w):Ey m ts r t old (kvs++[(w,du+1)]):=by
 have dw:bS m ts r w (du+1):=by
  obtain⟨⟨k,e,a1,a2⟩,u0,u1⟩:=x.ok _ hu;obtain⟨e',he⟩:=rA (m:=m) (ts:=ts) (r:=r) (k:=k+1) (.inr ⟨u,a1,hw⟩);have l1:=rh ⟨k,e,a1,a2⟩ he hw;have l2:=x.bd _ hu;obtain⟨j,ej,b1,b2⟩:=id he;by_cases z:j<=t
  ·obtain⟨d,hd'⟩:=x.all j w z b1;exact absurd ⟨d,y.sub _ hd'⟩ hn
  ·have:e'=du+1:=by simp only at e l2 ⊢;lia
   rw[<-this];exact he
 refine⟨?_,λq hq=>?_,λq hq=>?_,λq hq=>List.mem_append_left _ (y.sub q hq)⟩
 ·rw[List.map_append,List.nodup_append];refine⟨y.nd,by simp,λa ha b hb e=>?_⟩;have:b=w:=by simpa using hb
  subst this e;obtain⟨q,hq,rfl⟩:=aM.mp ha;exact hn ⟨q.2,hq⟩
 ·rcases List.mem_append.mp hq with z|z
  ·exact y.ok q z
  ·have:q=(w,du+1):=by simpa using z
   subst this;exact⟨dw,f_ hw⟩
 ·rcases List.mem_append.mp hq with z|z
  ·exact y.bd q z
  ·have:q=(w,du+1):=by simpa using z
   subst this;have:=x.bd _ hu;simp only at this ⊢;lia
theorem Ey.done{t:Nat}{old kvs:List (Int×Int)}(x:Ex m ts r t old)(y:Ey m ts r t old kvs)(h:∀q∈old,∀w∈hd m ts q.1,Key kvs w):Ex m ts r (t+1) kvs:=by
 refine⟨y.nd,y.ok,λq hq=>by have:=y.bd q hq;lia,λk v hk q=>?_⟩;have old':∀k v,k<=t->inR m ts r k v->Key kvs v:=λk v hk q=>by
  obtain⟨d,hd'⟩:=x.all k v hk q;exact⟨d,y.sub _ hd'⟩
 have q:=oE hk q;rcases q with z|⟨u,z,hu⟩
 ·exact old' t v (ay _) z
 ·obtain⟨d,hd'⟩:=x.all t u (ay _) z;exact h _ hd' v hu
theorem Ex.ways{t:Nat}{kvs:List (Int×Int)}(h0:0<=r)(h1:r<m)(x:Ex m ts r t kvs)(ht:m<=t):bD m ts r kvs:=by
 refine⟨x.nd,x.ok,λk w q=>?_⟩;obtain⟨d,hd'⟩:=rA q;have:=oa h0 h1 hd';obtain⟨j,e,a1,_⟩:=hd';exact x.all j w (by lia) a1
end
abbrev WX(m:Int)(ts:List (Int×Int))(r:Int)(kvs:List (Int×Int))(v3 v4 v5:Option D):Env:=[some (wb m ts),some (.int r),some (.dic kvs),v3,v4,v5]
section
variable{p:Pr}(hH:p.fns "_law_hood" = some eS)(hf:p.fns "_law_ways" = some mw)
include hH hf
theorem sX{k:Nat}{m:Int}{ts:List (Int×Int)}(h:GW m ts){r:Int}(h0:0<=r)(h1:r<m):∃kvs,bD m ts r kvs/\qa p (k+2) "_law_ways" [wb m ts,.int r]=.ok (.dic kvs):=by
 have h8:=h.hi;have hx:ixD (wb m ts) (.int 0)=.ok (.int m):=rfl;have hm:qC m=true:=by have:=h.lo;simp[qC];lia
 have hood:∀a:Int,0<=a->a<m->qa p (k+1) "_law_hood" [wb m ts,.int a]=.ok (tu (hd m ts a)):=λa a0 a1=>lH hH (k:=k) h ⟨a0,a1⟩
 suffices hs:∃d,qa p (k+2) "_law_ways" [wb m ts,.int r]=.ok d/\∃kvs,bD m ts r kvs/\d=.dic kvs by
  obtain⟨d,e,kvs,w,rfl⟩:=hs;exact⟨kvs,w,e⟩
 refine lV (k:=k+1) (τ:=[some (wb m ts),some (.int r),none,none,none,none]) hf rfl rfl ?_;refine zu (σ:=WX m ts r [(r,0)] none none none) rfl ?_;refine eK (ds:=(rng m).map D.int) (λl σ=>∃(t:Nat) (kvs:List (Int×Int)) (v3 v4 v5:Option D),l.length=m.toNat-t/\(t:Int)<=m/\Ex m ts r t kvs/\σ=WX m ts r kvs v3 v4 v5) ?_ ⟨0,[(r,0)],none,none,none,by rw[aF,zH];rfl,by lia,.start h0 h1,rfl⟩ ?_ ?_
 ·rw[<-zK];dsimp only[WX];generalize wb m ts=WB at *;simp[KG.Z,hx,hm]
 ·rintro x l σ ⟨t,kvs,v3,v4,v5,hl,htm,X,rfl⟩;refine⟨WX m ts r kvs (some x) v4 v5,rfl,?_⟩;have htl:(t:Int)+1<=m:=by rw[bA]at hl;lia
  refine eK (ds:=(kvs.map (·.1)).map D.int) (λl σ=>∃(us:List (Int×Int)) (kv2:List (Int×Int)) (v4 v5:Option D),l=(us.map (·.1)).map D.int/\(∀q∈us,q∈kvs)/\Ey m ts r t kvs kv2/\(∀q∈kvs,q∈us\/∀w∈hd m ts q.1,Key kv2 w)/\σ=WX m ts r kv2 (some x) v4 v5) ?_ ⟨kvs,kvs,v4,v5,rfl,λ_ h=>h,⟨X.nd,X.ok,λq hq=>by have:=X.bd q hq;lia,λ_ h=>h⟩,λ_ h=>.inl h,rfl⟩ ?_ ?_
  ·refine pk ?_;show R.ok (D.lst (kvs.map λp=>.int p.1))=_;rw[bF];rfl
  ·rintro y l' σ ⟨us,kv2,v4',v5',e,hus,Y,lk,rfl⟩;cases us with
   |nil=>cases e
   |cons q us=>
    simp only[aQ,List.cons.injEq]at e;obtain⟨rfl,rfl⟩:=e;have hq:=hus q aJ;obtain⟨_,u0,u1⟩:=X.ok q hq;have hh:=hood q.1 u0 u1;refine⟨WX m ts r kv2 (some x) (some (.int q.1)) v5',rfl,?_⟩;refine eK (ds:=(hd m ts q.1).map D.int) (λl σ=>∃(ws:List Int) (kv3:List (Int×Int)) (v5:Option D),l=ws.map D.int/\(∀w∈ws,w∈hd m ts q.1)/\Ey m ts r t kvs kv3/\(∀w,Key kv2 w->Key kv3 w)/\(∀w∈hd m ts q.1,w∈ws\/Key kv3 w)/\σ=WX m ts r kv3 (some x) (some (.int q.1)) v5) ?_ ⟨hd m ts q.1,kv2,v5',rfl,λ_ h=>h,Y,λ_ h=>h,λ_ h=>.inl h,rfl⟩ ?_ ?_
    ·dsimp only[WX];have e:seq? (tu (hd m ts q.1))=some ((hd m ts q.1).map D.int):=rfl;generalize tu (hd m ts q.1)=TH at *;generalize wb m ts=WB at *;generalize D.dic kv2=DK at *;simp[KG.Z,hh,e]
    ·rintro y l2 σ ⟨ws,kv3,v5'',e,hws,Z,ls,pr,rfl⟩;obtain⟨w,ws,rfl,rfl,rfl⟩:=fx e;refine⟨WX m ts r kv3 (some x) (some (.int q.1)) (some (.int w)),rfl,?_⟩;by_cases z:Key kv3 w
     ·have c1:qi .notin (.int w) (.dic kv3)=.ok false:=by
       simp only[qi,seq?,dg,R.bind_ok,(fP kv3 w).mpr z];rfl
      refine zu (σ:=WX m ts r kv3 (some x) (some (.int q.1)) (some (.int w))) ?_ (zQ ⟨ws,kv3,_,rfl,λy hy=>hws y (aK _ hy),Z,ls,λy hy=>?_,rfl⟩)
      ·dsimp only[WX];generalize wb m ts=WB at *;generalize D.dic kv3=DK at *;simp[KG.Z,c1]
      ·rcases pr y hy with z'|z'
       ·rcases aD.mp z' with rfl|z'
        ·exact .inr z
        ·exact .inl z'
       ·exact .inr z'
     ·have c1:qi .notin (.int w) (.dic kv3)=.ok true:=by
       have:(kv3.any λp=>decide (p.1=w))=false:=by
        cases q:(kv3.any λp=>decide (p.1=w))with
        |false=>rfl
        |true=>exact absurd ((fP kv3 w).mp q) z
       simp only[qi,seq?,dg,R.bind_ok,this];rfl
      have Z':=Z.add X (u:=q.1) (du:=q.2) hq (hws w aJ) z;have kl:=gr Z.nd λy hy=>by
       obtain⟨p,hp,rfl⟩:=aM.mp hy;exact(Z.ok p hp).2
      rw[aF]at kl;have kz:kv3.length<SZ:=by simp only[SZ];lia
      have pn:=m3 (d:=q.2+1) z;have at1:ixD (.dic kv3) (.int q.1)=.ok (.int q.2):=by
       simp only[ixD,(iM Z.nd).mpr (Z.sub q hq)]
      have a1:op2 .add (.int q.2) (.int 1)=.ok (.int (q.2+1)):=rfl;have st1:evS (wAt p (k+1)) (.seti 2 (.var 5) (.op .add (.ix (.own 2) (.var 4)) (.con (.int 1)))) (WX m ts r kv3 (some x) (some (.int q.1)) (some (.int w)))=.nx (WX m ts r (kv3++[(w,q.2+1)]) (some x) (some (.int q.1)) (some (.int w))):=by
       have e1:evE (wAt p (k+1)) (.op .add (.ix (.own 2) (.var 4)) (.con (.int 1))) (WX m ts r kv3 (some x) (some (.int q.1)) (some (.int w)))=.ok (.int (q.2+1)):=by
        dsimp only[WX];generalize wb m ts=WB at *;generalize D.dic kv3=DK at *;generalize q.2+1=Q1 at *;simp[KG.Z,at1,a1]
       rw[b9,e1];show (if kv3.length<SZ then EV.O.nx _ else EV.O.no)=_;rw[if_pos kz,pn];rfl
      have t1:evT (wAt p (k+1)) (.cmp .notin (.var 5) (.own 2)) (WX m ts r kv3 (some x) (some (.int q.1)) (some (.int w)))=.ok true:=by
       dsimp only[WX];generalize wb m ts=WB at *;generalize D.dic kv3=DK at *;simp[KG.Z,c1]
      refine zu (σ:=WX m ts r (kv3++[(w,q.2+1)]) (some x) (some (.int q.1)) (some (.int w))) ?_ (zQ ⟨ws,_,_,rfl,λy hy=>hws y (aK _ hy),Z',λy hy=>gn (ls y hy),λy hy=>?_,rfl⟩)
      ·rw[zT,t1];simp only[R.out_ok,if_true];rw[qe,st1];rfl
      ·rcases pr y hy with z'|z'
       ·rcases aD.mp z' with rfl|z'
        ·exact .inr ⟨q.2+1,by simp⟩
        ·exact .inl z'
       ·exact .inr (gn z')
    ·rintro σ ⟨ws,kv3,v5'',e,hws,Z,ls,pr,rfl⟩;cases ws with
     |cons _ _=>cases e
     |nil=>
      refine zQ ⟨us,kv3,_,_,rfl,λy hy=>hus y (aK _ hy),Z,λy hy=>?_,rfl⟩;rcases lk y hy with z|z
      ·rcases aD.mp z with rfl|z
       ·refine .inr λw hw=>?_
        rcases pr w hw with z|z
        ·cases z
        ·exact z
       ·exact .inl z
      ·exact .inr λw hw=>ls w (z w hw)
  ·rintro σ ⟨us,kv2,v4',v5',e,hus,Y,lk,rfl⟩;cases us with
   |cons _ _=>cases e
   |nil=>
    refine zQ ⟨t+1,kv2,_,_,_,by rw[bA]at hl;lia,by lia,Y.done X λq hq w hw=>?_,rfl⟩;rcases lk q hq with z|z
    ·cases z
    ·exact z w hw
 ·rintro σ ⟨t,kvs,v3,v4,v5,hl,htm,X,rfl⟩;have e:m<=(t:Int):=by simp only[List.length_nil]at hl;lia
  exact gR (d:=.dic kvs) rfl ⟨kvs,X.ways h0 h1 e,rfl⟩
end
section
variable{p:Pr}(hH:p.fns "_law_hood" = some eS)(hW:p.fns "_law_ways" = some mw)(hO:p.fns "_law_holders" = some pO)(hf:p.fns "_law_due" = some A9){m:Int}{ts:List (Int×Int)}
include hH hO in
include hH hW hO hf
end
noncomputable def ko:Fn:=⟨2,3,true,(.cons (.exp (.call "need_tree" (.cons (.var 0) .nil))) (.cons (.exp (.call "need_place" (.cons (.var 0) (.cons (.var 1) .nil)))) (.cons (.set (.nm 2) (.call "ways_from" (.cons (.var 0) (.cons (.var 1) .nil)))) (.cons (.retn (.bi .tuple (.cons (.comp (.rng (.ix (.var 0) (.con (.int 0)))) [none,none,some 2,some 0] (.nm 1) .yes (.call "upper" (.cons (.var 3) (.cons (.var 2) (.cons (.var 1) .nil))))) .nil))) .nil))))⟩
noncomputable def jU:Fn:=⟨2,3,true,(.cons (.exp (.call "need_tree" (.cons (.var 0) .nil))) (.cons (.exp (.call "need_place" (.cons (.var 0) (.cons (.var 1) .nil)))) (.cons (.set (.nm 2) (.call "ways_from" (.cons (.var 0) (.cons (.var 1) .nil)))) (.cons (.ret (.comp (.seq (.bi .sorted (.cons (.comp (.rng (.ix (.var 0) (.con (.int 0)))) [none,none,some 2] (.nm 1) .yes (.tup (.cons (.neg (.ix (.var 2) (.var 1))) (.cons (.var 1) .nil)))) .nil))) [none,none,none] (.tp [1,2]) .yes (.var 2))) .nil))))⟩
noncomputable def jc:Fn:=⟨1,1,false,(.cons (.exp (.call "need_tree" (.cons (.var 0) .nil))) (.cons (.ret (.bi .tuple (.cons (.comp (.enum (.call "hoods" (.cons (.var 0) .nil))) [none,none,none] (.tp [1,2]) (.cmp .eq (.bi .len (.cons (.var 2) .nil)) (.con (.int 2))) (.var 1)) .nil))) .nil))⟩
structure Tru(p:Pr)(b:Bool):Prop extends Tr0 p b where
 above:p.fns "above" = some ko
 from_far:p.fns "from_far" = some jU
 ends:p.fns "ends" = some jc
theorem wA{m:Int}(F:Int->D):dB 0 ((rng m).map F)=(rng m).map λa=>.tup [.int a,F a]:=by
 have he:∀(n j:Nat),dB j (((List.range' j n).map λ(i:Nat)=>(i:Int)).map F)=(((List.range' j n).map λ(i:Nat)=>(i:Int)).map λa=>.tup [.int a,F a]):=by
  intro n
  induction n with
  |zero=>intro j;rfl
  |succ n ih=>intro j;rw[List.range'_succ,aQ,aQ,dB,ih (j+1),aQ]
 have:=he m.toNat 0
 rwa[<-List.range_eq_range']at this
theorem DY{α:Type}{w:W}{it:EV.It}{cap:List (Option Nat)}{t:T}{elt:EV.E}{τ:Env}{l:List α}{f1 f2:α->D}(q:α->Bool)(g:α->D)(h:evI w it τ=.ok (l.map λa=>.tup [f1 a,f2 a]))(hz:l.length<=SZ)(hc:dR cap τ=[none,none,none])
  (hb:∀a∈l,evT w t [none,some (f1 a),some (f2 a)]=.ok (q a)/\evE w elt [none,some (f1 a),some (f2 a)]=.ok (g a)):evE w (.comp it cap (.tp [1,2]) t elt) τ=.ok (.lst ((l.filter q).map g)):=by
 have key:∀(r:List α) (v v':Option D) (acc:List D),(∀x∈r,x∈l)->zU (λx σ=>noEx ((store (.tp [1,2]) x σ).bind λσ'=>(evT w t σ').bind λr=>if r then (evE w elt σ').bind λd=>.ok (σ',[d])else .ok (σ',[]))) (r.map λa=>.tup [f1 a,f2 a]) [none,v,v'] acc=.ok (acc++(r.filter q).map g):=by
  intro r
  induction r with
  |nil=>intro v v' acc _;simp[zU]
  |cons x r ih=>
   intro v v' acc hm;obtain⟨h1,h2⟩:=hb x (hm x aJ);rw[aQ,zU];have e:noEx ((store (.tp [1,2]) (.tup [f1 x,f2 x]) [none,v,v']).bind λσ'=>(evT w t σ').bind λr=>if r then (evE w elt σ').bind λd=>.ok (σ',[d])else .ok (σ',[]))=.ok ([none,some (f1 x),some (f2 x)],if q x then [g x]else []):=by
    show noEx ((evT w t [none,some (f1 x),some (f2 x)]).bind λr=>if r then (evE w elt [none,some (f1 x),some (f2 x)]).bind λd=>.ok ([none,some (f1 x),some (f2 x)],[d])else .ok ([none,some (f1 x),some (f2 x)],[]))=_;rw[h1];simp only[R.bind_ok];rw[h2];cases q x<;>rfl
   rw[e];simp only[R.bind_ok];rw[ih _ _ _ λy hy=>hm y (aK _ hy),List.filter_cons,List.append_assoc];cases q x<;>simp
 rw[qp,h];simp only[R.bind_ok];rw[if_neg (by simp;lia),hc,key l none none [] λ_ h=>h]
 rfl
section
variable{p:Pr}{b:Bool}(P:Tru p b){m:Int}{ts:List (Int×Int)}(T:Tree m ts)
include P T
theorem tL{k:Nat}{r:Int}(h0:0<=r)(h1:r<m):∃kvs,bD m ts r kvs/\qa p (k+8) "above" [wb m ts,.int r]=.ok (.tup ((rng m).map λv=>.int (upv m ts kvs v))):=by
 obtain⟨kvs,w,e⟩:=ways_from P.hds.hood_of P.hds.are_tied P.ways_from (k:=k+4) T.gw h0 h1;refine⟨kvs,w,?_⟩;have e1:=jQ P.toTr0 T (k:=k);have e2:=p5 P.toTr0 (ts:=ts) (k:=k+3) ⟨h0,h1⟩;have hm:qC m=true:=by have:=T.gw.lo;have:=T.gw.hi;simp[qC];lia
 have hx:ixD (wb m ts) (.int 0)=.ok (.int m):=rfl;have hc:evE (wAt p (k+7)) (.comp (.rng (.ix (.var 0) (.con (.int 0)))) [none,none,some 2,some 0] (.nm 1) .yes (.call "upper" (.cons (.var 3) (.cons (.var 2) (.cons (.var 1) .nil))))) [some (wb m ts),some (.int r),some (.dic kvs)]=.ok (.lst ((rng m).map λv=>.int (upv m ts kvs v))):=by
  refine fh (f:=D.int) (c:=[some (.dic kvs),some (wb m ts)]) (λv=>.int (upv m ts kvs v)) ?_ ?_ rfl λv hv=>?_
  ·rw[<-zK];generalize wb m ts=WB at *;simp[KG.Z,hx,hm]
  ·have:=T.gw.hi;rw[zH];simp only[SZ];lia
  ·obtain⟨v0,v1⟩:=cP.mp hv;have u:=xD P.toTr0 T (k:=k+4) h0 h1 w v0 v1;generalize wb m ts=WB at *;generalize D.dic kvs=DK at *;simp[KG.Z,u]
 rw[qc P.above];refine qt (τ:=[some (wb m ts),some (.int r),none]) rfl rfl ?_;refine zA (σ:=[some (wb m ts),some (.int r),none]) (by generalize wb m ts=WB at *;simp[KG.Z,e1]) ?_;refine zA (σ:=[some (wb m ts),some (.int r),none]) (by generalize wb m ts=WB at *;simp[KG.Z,e2]) ?_;refine zA (σ:=[some (wb m ts),some (.int r),some (.dic kvs)]) (by generalize wb m ts=WB at *;generalize D.dic kvs=DK at *;simp[KG.Z,e]) ?_;show qe (wAt p (k+7)) (.cons (.retn _) .nil) _=_;rw[qe,zE,qo,zz,hc]
 rfl
theorem yW{k:Nat}{r:Int}(h0:0<=r)(h1:r<m){kvs:List (Int×Int)}(w:bD m ts r kvs):qa p (k+8) "from_far" [wb m ts,.int r]=.ok (.lst ((frf m kvs).map D.int)):=by
 obtain⟨kv2,w2,e⟩:=ways_from P.hds.hood_of P.hds.are_tied P.ways_from (k:=k+4) T.gw h0 h1;have e1:=jQ P.toTr0 T (k:=k);have e2:=p5 P.toTr0 (ts:=ts) (k:=k+3) ⟨h0,h1⟩;have hm:qC m=true:=by have:=T.gw.lo;have:=T.gw.hi;simp[qC];lia
 have hx:ixD (wb m ts) (.int 0)=.ok (.int m):=rfl;have fe:frf m kvs=frf m kv2:=by
  rw[frf,frf];refine congrArg (λf=>List.flatMap f (rng m).reverse) (funext λd=>List.filter_congr λv _=>?_);rw[og w w2]
 rw[fe,<-o9 (pv T h0 h1 w2)];have hc:evE (wAt p (k+7)) (.comp (.rng (.ix (.var 0) (.con (.int 0)))) [none,none,some 2] (.nm 1) .yes (.tup (.cons (.neg (.ix (.var 2) (.var 1))) (.cons (.var 1) .nil)))) [some (wb m ts),some (.int r),some (.dic kv2)]=.ok (.lst (((rng m).map λv=>(- dv kv2 v,v)).map prD)):=by
  rw[bF];refine fh (f:=D.int) (c:=[some (.dic kv2)]) (λv=>prD (- dv kv2 v,v)) ?_ ?_ rfl λv hv=>?_
  ·rw[<-zK];generalize wb m ts=WB at *;simp[KG.Z,hx,hm]
  ·have:=T.gw.hi;rw[zH];simp only[SZ];lia
  ·obtain⟨v0,v1⟩:=cP.mp hv;have a:ixD (.dic kv2) (.int v)=.ok (.int (dv kv2 v)):=by simp only[ixD,(T.at h0 h1 w2 v0 v1).1]
   generalize D.dic kv2=DK at *;simp[KG.Z,a,zc,prD,pairD]
 have l8:((rng m).map λv=>(- dv kv2 v,v)).length<=8:=by have:=T.gw.hi;rw[aF,zH];lia
 have hs:=nX ((rng m).map λv=>(- dv kv2 v,v)) (by lia);have l9:(zx ((rng m).map λv=>(- dv kv2 v,v))).length<=8:=by rw[(gH _).length_eq];exact l8
 rw[qc P.from_far];refine qt (τ:=[some (wb m ts),some (.int r),none]) rfl rfl ?_;refine zA (σ:=[some (wb m ts),some (.int r),none]) (by generalize wb m ts=WB at *;simp[KG.Z,e1]) ?_;refine zA (σ:=[some (wb m ts),some (.int r),none]) (by generalize wb m ts=WB at *;simp[KG.Z,e2]) ?_;refine zA (σ:=[some (wb m ts),some (.int r),some (.dic kv2)]) (by generalize wb m ts=WB at *;generalize D.dic kv2=DK at *;simp[KG.Z,e]) ?_;show qe (wAt p (k+7)) (.cons (.ret _) .nil) _=_;rw[qe,zL,uT (l:=zx ((rng m).map λv=>(- dv kv2 v,v))) (pk ?_) (by simp only[SZ];lia) rfl]
 ·rfl
 ·rw[qo,zz,hc];exact hs
noncomputable def enz(m:Int)(ts:List (Int×Int)):List Int:=(rng m).filter λv=>decide (((hd m ts v).length:Int)=2)
theorem uj{k:Nat}:qa p (k+8) "ends" [wb m ts]=.ok (tu (enz m ts)):=by
 have e1:=jQ P.toTr0 T (k:=k);have e2:=KG.hoods P.web P.hds (k:=k+2) T.gw;have hc:evE (wAt p (k+7)) (.comp (.enum (.call "hoods" (.cons (.var 0) .nil))) [none,none,none] (.tp [1,2]) (.cmp .eq (.bi .len (.cons (.var 2) .nil)) (.con (.int 2))) (.var 1)) [some (wb m ts)]=.ok (.lst ((enz m ts).map D.int)):=by
  refine DY (f1:=D.int) (f2:=λa=>tu (hd m ts a)) (λv=>decide (((hd m ts v).length:Int)=2)) D.int ?_ ?_ rfl λv _=>⟨?_,rfl⟩
  ·rw[<-wA];have e3:evE (wAt p (k+7)) (.call "hoods" (.cons (.var 0) .nil)) [some (wb m ts)]=.ok (.tup ((rng m).map λa=>tu (hd m ts a))):=by
    generalize D.tup ((rng m).map λa=>tu (hd m ts a))=TT at *;generalize wb m ts=WB at *;simp[KG.Z,e2]
   show ((evE (wAt p (k+7)) (.call "hoods" (.cons (.var 0) .nil)) [some (wb m ts)]).bind _)=_;rw[e3];rfl
  ·rw[zH];have:=T.gw.hi;simp only[SZ];lia
  ·have l:=oP (hd m ts v);have c:=eq_int ((hd m ts v).length) 2;generalize tu (hd m ts v)=TV at *;generalize ((hd m ts v).length:Int)=L at *;simp[KG.Z,l,c]
 rw[qc P.ends];refine qt (τ:=[some (wb m ts)]) rfl rfl ?_;refine zA (σ:=[some (wb m ts)]) (by generalize wb m ts=WB at *;simp[KG.Z,e1]) ?_;show qe (wAt p (k+7)) (.cons (.ret _) .nil) _=_;rw[qe,zL,qo,zz,hc]
 rfl
end
section
variable{p:Pr}{b:Bool}(P:Tru p b)
include P
theorem Az{k:Nat}{m:Int}{ts:List (Int×Int)}(h:GW m ts)(hn:(ts.length:Int)≠m-1):qa p (k+7) "need_tree" [wb m ts]=.ex "NotTree":=by
 have ex:∀a,∃kvs,0<=a->a<m->bD m ts a kvs/\qa p (k+4) "ways_from" [wb m ts,.int a]=.ok (.dic kvs):=λa=>by
  by_cases z:0<=a/\a<m
  ·obtain⟨kvs,w,e⟩:=ways_from P.hds.hood_of P.hds.are_tied P.ways_from (k:=k+1) h z.1 z.2;exact⟨kvs,λ_ _=>⟨w,e⟩⟩
  ·exact⟨[],λh1 h2=>absurd ⟨h1,h2⟩ z⟩
 have e2:=KG.pieces P.web P.pieces h λa=>Classical.choose_spec (ex a)
 have e1:=need_web P.web (k:=k+1) h;generalize (ddp (λa=>ks (Classical.choose (ex a))) (rng m) [])=PC at *;have l1:b1 .len [.lst (PC.map tu)]=.ok (.int PC.length):=by rw[BR,aF]
 have l2:b1 .len [.tup (ts.map prD)]=.ok (.int (ts.length)):=by rw[lE,aF]
 have c1:=eq_int PC.length 1;have c2:=eq_int (ts.length) (m-1);rw[decide_eq_false hn]at c2;have o1:op2 .sub (.int m) (.int 1)=.ok (.int (m-1)):=rfl;have e:qa p (k+6) "is_tree" [wb m ts]=.ok (.bl false):=by
  rw[qc P.is_tree];refine qt (τ:=[some (wb m ts),none,none]) rfl rfl ?_;refine zA (σ:=[some (wb m ts),none,none]) (by generalize wb m ts=WB at *;simp[KG.Z,e1]) ?_;refine zA (σ:=[some (wb m ts),some (.int m),some (.tup (ts.map prD))]) rfl ?_;generalize D.tup (ts.map prD)=TT at *;generalize D.lst (PC.map tu)=PL at *;generalize wb m ts=WB at *;generalize (ts.length:Int)=n2 at *;generalize m-1=M1 at *;generalize hq1:decide ((PC.length:Int)=1)=q1 at *;generalize (PC.length:Int)=n1 at *;cases q1<;>simp[KG.Z,e2,l1,l2,c1,c2,o1]
 generalize wb m ts=WB at *;rw[qc P.need_tree];simp only[zF];simp[KG.Z,gp,e]
theorem C_{k:Nat}{d:D}(h:qa p (k+3) "is_web" [d]=.ok (.bl false)):qa p (k+6) "need_tree" [d]=.ex "NoWeb":=by
 have e1:qa p (k+4) "need_web" [d]=.ex "NoWeb":=by
  rw[qc P.web.need_web];simp only[zF];simp[KG.Z,KG.gF,h]
 have e2:qa p (k+5) "is_tree" [d]=.ex "NoWeb":=by
  rw[qc P.is_tree];simp only[zF];simp[KG.Z,i8,e1]
 rw[qc P.need_tree];simp only[zF];simp[KG.Z,gp,e2]
end
end KG
namespace K40
open EV KG
open PySem (Str)
open L2 (atI ixN ltP atK)
noncomputable def depth:Nat:=13
theorem B:Web p:=⟨by kernel_rfl,by kernel_rfl,by kernel_rfl,by kernel_rfl,by kernel_rfl,by kernel_rfl,by kernel_rfl,by kernel_rfl⟩
theorem P:Tru p true:=⟨⟨B,⟨by kernel_rfl,by kernel_rfl,by kernel_rfl⟩,by kernel_rfl,by kernel_rfl,by kernel_rfl,by kernel_rfl,by kernel_rfl,by kernel_rfl,by kernel_rfl⟩,by kernel_rfl,by kernel_rfl,by kernel_rfl⟩
theorem hLH:p.fns "_law_hood" = some KG.eS:=by kernel_rfl
theorem hLW:p.fns "_law_ways" = some KG.mw:=by kernel_rfl
theorem hNW:p.fns "_law_no_web" = some KG.iC:=by kernel_rfl
theorem hTB:p.fns "_law_tree_by" = some KG.jl:=by kernel_rfl
theorem hSt:p.fns "_law_stir" = some KG.zV:=by kernel_rfl
theorem hSm:p.fns "_law_same" = some KG.fL:=by kernel_rfl
theorem B3{k:Nat}(i m:Int)(t:D):qa p (k+3) "is_place" [.tup [.int m,t],.int i]=.ok (.bl (decide (0<=i/\i<=m-1))):=by
 have e:=rZ B (k:=k) i 0 (m-1);rw[qc rS];refine qt rfl rfl ?_;simp[KG.Z,KG.eh,ixD,atI,ixN,op2,e]
theorem Eu{k:Nat}{d:D}(h:od d=true)(m:Int)(t:D):qa p (k+3) "is_place" [.tup [.int m,t],d]=.ok (.bl false):=by
 have e:=λa b=>lT B (k:=k) h a b
 rw[qc rS];refine qt rfl rfl ?_;simp[KG.Z,KG.eh,ixD,atI,ixN,op2,e]
noncomputable def BW(d:D):Prop:=∀k,qa p (k+3) "is_web" [d]=.ok (.bl false)
noncomputable def BP(u d:D):Prop:=∀k,qa p (k+3) "is_place" [u,d]=.ok (.bl false)
theorem Af{k:Nat}{m:Int}(hm:1<=m/\m<=8)(t:D)(n:Int):∃d,qa p (k+1) "_law_no_place" [.int m,.int n]=.ok d/\BP (.tup [.int m,t]) d:=by
 have hT:op2 .pow (.int 10) (.int 30)=.ok (.int (10^30)):=by rw[op2,opI,if_pos (by decide)];rfl
 have hU:op2 .pow (.int 10) (.int 20)=.ok (.int (10^20)):=by rw[op2,opI,if_pos (by decide)];rfl
 have h8:(8:Int)<10^30:=by decide
 have h9:(8:Int)<10^20:=by decide
 generalize (10:Int)^30=T at *;generalize (10:Int)^20=V at *;have nm:∀i:Int,¬ (0<=i/\i<=m-1)->BP (.tup [.int m,t]) (.int i):=λi hi k=>by rw[B3,decide_eq_false hi]
 have ot:∀d,od d=true->BP (.tup [.int m,t]) d:=λd hd k=>Eu hd m t
 have hL:∀d∈([.int m,.int (-1),.bl true,.bl false,.non,.str "0",.tup [.int 0],.int T,.lst [.int 0],.dic [],.int (-V),.int (m+7)]:List D),BP (.tup [.int m,t]) d:=by
  simp only[List.forall_mem_cons];exact⟨nm _ (by lia),nm _ (by lia),ot _ rfl,ot _ rfl,ot _ rfl,ot _ rfl,ot _ rfl,nm _ (by lia),ot _ rfl,ot _ rfl,nm _ (by lia),nm _ (by lia),by simp⟩
 obtain⟨d,e,hd⟩:=pick hL (n%12) ⟨by lia,by show n%12<12;lia⟩;refine⟨d,?_,hd⟩;have a3:op2 .mod (.int n) (.int 12)=.ok (.int (n%12)):=rfl;have a4:op2 .add (.int m) (.int 7)=.ok (.int (m+7)):=rfl;rw[qc sR];refine qt rfl rfl ?_;simp[KG.Z,kc,hT,hU,a3,a4,zc,qw];rw[e];rfl
theorem B'{k:Nat}{u d:D}(h:BP u d):qa p (k+4) "need_place" [u,d]=.ex "NoPlace":=by
 have h:=h k;rw[qc yh];simp only[zF];simp[KG.Z,KG.fm,h]
theorem uD{k:Nat}(ns:List Int):qa p (k+2) "_law_same" [.lst (ns.map D.int),.lst (ns.map D.int)]=.ok (.bl true):=by
 rw[qc hSm];have i1:ck ⟨qa p (k+1),p.glb,p.sub,p.cat⟩ (.lst (ns.map D.int)) (.ty "list")=.ok (.bl true):=rfl;have i2:ck ⟨qa p (k+1),p.glb,p.sub,p.cat⟩ (.lst (ns.map D.int)) (.ty "bool")=.ok (.bl false):=rfl;have i3:ck ⟨qa p (k+1),p.glb,p.sub,p.cat⟩ (.lst (ns.map D.int)) (.ty "int")=.ok (.bl false):=rfl;have i4:ck ⟨qa p (k+1),p.glb,p.sub,p.cat⟩ (.lst (ns.map D.int)) (.ty "str")=.ok (.bl false):=rfl;have i5:ck ⟨qa p (k+1),p.glb,p.sub,p.cat⟩ (.lst (ns.map D.int)) (.ty "tuple")=.ok (.bl false):=rfl;refine qt (τ:=[some (.lst (ns.map D.int)),some (.lst (ns.map D.int)),none,none]) rfl rfl ?_;refine zA (σ:=[some (.lst (ns.map D.int)),some (.lst (ns.map D.int)),none,none]) (by simp[KG.Z,kn,eT]) ?_;refine zA (σ:=[some (.lst (ns.map D.int)),some (.lst (ns.map D.int)),none,none]) (by simp[KG.Z,i1,i2,i3,i4,i5]) ?_;refine zA (σ:=[some (.lst (ns.map D.int)),some (.lst (ns.map D.int)),none,none]) (by simp[KG.Z,i1,i2,i3,i4,i5]) ?_;refine zA (σ:=[some (.lst (ns.map D.int)),some (.lst (ns.map D.int)),none,none]) (by simp[KG.Z,i1,i2,i3,i4,i5]) ?_;refine zA (σ:=[some (.lst (ns.map D.int)),some (.lst (ns.map D.int)),none,none]) (by simp[KG.Z,oF,i1,i2,i3,i4,i5]) ?_;refine zA (σ:=[some (.lst (ns.map D.int)),some (.lst (ns.map D.int)),none,none]) (by simp[KG.Z,ne_int,b1,seq?]) ?_;refine l5 (ds:=cD (ns.map D.int) (ns.map D.int)) (λr σ=>∃(ms:List Int) (v u:Option D),r=cD (ms.map D.int) (ms.map D.int)/\σ=[some (.lst (ns.map D.int)),some (.lst (ns.map D.int)),v,u]) (by simp[KG.Z,i1,i2,i3,i4,i5]) ⟨ns,none,none,rfl,rfl⟩ ?_ ?_
 ·rintro x t σ ⟨ms,v,u,e,rfl⟩;cases ms with
  |nil=>cases e
  |cons y ms=>
   rw[aQ,cD]at e;injection e with e1 e2
   subst e1 e2;have q:=same_int hSm (k:=k) y;refine⟨[some (.lst (ns.map D.int)),some (.lst (ns.map D.int)),some (.int y),some (.int y)],[some (.lst (ns.map D.int)),some (.lst (ns.map D.int)),some (.int y),some (.int y)],by simp[KG.Z],?_,ms,_,_,rfl,rfl⟩;generalize ns.map D.int=LT at *;simp[KG.Z,q]
 ·rintro σ ⟨ms,v,u,e,rfl⟩;simp[KG.Z]
abbrev TBd:Ss:=(.cons (.ite (.cmp .eq (.var 0) (.con (.int 0))) (.cons (.retn (.call "ends" (.cons (.var 1) .nil))) .nil) .nil) (.cons (.ret (.ite (.cmp .eq (.var 0) (.con (.int 1))) (.call "above" (.cons (.var 1) (.cons (.var 2) .nil))) (.call "from_far" (.cons (.var 1) (.cons (.var 2) .nil))))) .nil))
section
variable{k:Nat}{a b:D}
theorem mK{r:R D}(h:qa p (k+8) "ends" [a]=r):qe (wAt p (k+8)) TBd [some (.int 0),some a,some b,none]=r.out λd=>if bZ d then .no else .rt d:=by
 have c0:=eq_int 0 0;cases r with
 |ok d=>cases hl:bZ d<;>simp[KG.Z,h,c0,hl,zE]
 |ex z=>simp[KG.Z,h,c0,zE]
 |no=>simp[KG.Z,h,c0,zE]
theorem ly{r:R D}(h:qa p (k+8) "above" [a,b]=r):qe (wAt p (k+8)) TBd [some (.int 1),some a,some b,none]=r.out .rt:=by
 have c0:=eq_int 1 0;have c1:=eq_int 1 1;cases r<;>simp[KG.Z,h,c0,c1,qr]
theorem mf{r:R D}(h:qa p (k+8) "from_far" [a,b]=r):qe (wAt p (k+8)) TBd [some (.int 2),some a,some b,none]=r.out .rt:=by
 have c0:=eq_int 2 0;have c1:=eq_int 2 1;cases r<;>simp[KG.Z,h,c0,c1,qr]
theorem kK{w:Int}{d:D}(hb:qe (wAt p (k+8)) TBd [some (.int w),some a,some b,none]=.rt d):qa p (k+9) "_law_told" [.int w,a,b]=.ok d:=by
 rw[qc pQ];refine qt (τ:=[some (.int w),some a,some b,none]) rfl rfl ?_;show qe (wAt p (k+8)) (.cons (.try TBd "PlaceError" (some 3) _) _) _=_;rw[qe,zN,hb]
theorem iz{w:Int}{X:Str}{r:Int}(hb:qe (wAt p (k+8)) TBd [some (.int w),some a,some b,none]=.ex X)(hk:qa p (k+8) "_law_kinds" [.exn X]=.ok (.int r))(hc:p.cat X "PlaceError" = true):qa p (k+9) "_law_told" [.int w,a,b]=.ok (.int r):=by
 rw[qc pQ];refine qt (τ:=[some (.int w),some a,some b,none]) rfl rfl ?_;show qe (wAt p (k+8)) (.cons (.try TBd "PlaceError" (some 3) _) _) _=_;rw[qe,zN,hb];have hc':(wAt p (k+8)).cat X "PlaceError" = true:=hc;simp only[hc',if_true,dN];simp[KG.Z,hk,O.rtOnly,hc,zE,bZ]
end
theorem kd0{k:Nat}:qa p (k+1) "_law_kinds" [.exn "NoWeb"]=.ok (.int 0):=by rw[qc l_];kernel_rfl
theorem kd2{k:Nat}:qa p (k+1) "_law_kinds" [.exn "NoPlace"]=.ok (.int 2):=by rw[qc l_];kernel_rfl
theorem kd6{k:Nat}:qa p (k+1) "_law_kinds" [.exn "NotTree"]=.ok (.int 6):=by rw[qc l_];kernel_rfl
theorem pI{k:Nat}{a b:D}{X:Str}{r:Int}(h:qa p (k+7) "need_tree" [a]=.ex X)(hk:qa p (k+8) "_law_kinds" [.exn X]=.ok (.int r))(hc:p.cat X "PlaceError" = true){w:Int}(hw:w=0\/w=1\/w=2):qa p (k+9) "_law_told" [.int w,a,b]=.ok (.int r):=by
 rcases hw with rfl|rfl|rfl
 ·refine iz ((mK (r:=.ex X) ?_)) hk hc;rw[qc P.ends];simp only[zF];simp[KG.Z,KG.jc,h]
 ·refine iz ((ly (r:=.ex X) ?_)) hk hc;rw[qc P.above];simp only[zF];simp[KG.Z,KG.ko,h]
 ·refine iz ((mf (r:=.ex X) ?_)) hk hc;rw[qc P.from_far];simp only[zF];simp[KG.Z,KG.jU,h]
theorem vw{k:Nat}{m:Int}{ts:List (Int×Int)}(T:Tree m ts){b:D}(hb:BP (wb m ts) b){w:Int}(hw:w=1\/w=2):qa p (k+9) "_law_told" [.int w,wb m ts,b]=.ok (.int 2):=by
 have e1:=jQ P.toTr0 T (k:=k);have e2:=B' (k:=k+3) hb;generalize wb m ts=WB at *;rcases hw with rfl|rfl
 ·refine iz ((ly (r:=.ex "NoPlace") ?_)) kd2 (by kernel_rfl);rw[qc P.above];simp only[zF];simp[KG.Z,KG.ko,e1,e2]
 ·refine iz ((mf (r:=.ex "NoPlace") ?_)) kd2 (by kernel_rfl);rw[qc P.from_far];simp only[zF];simp[KG.Z,KG.jU,e1,e2]
abbrev RE(m:Int)(ts kvs:List (Int×Int))(r:Int)(up:List Int)(v4 v5 v6 v7 v8:Option D):Env:=[some (wb m ts),some (.int r),some (.dic kvs),some (.lst (up.map D.int)),v4,v5,v6,v7,v8]
theorem right{k:Nat}{m:Int}{ts:List (Int×Int)}(T:Tree m ts){r:Int}(h0:0<=r)(h1:r<m):qa p (k+10) "_law_right" [wb m ts,.int r]=.ok (.bl true):=by
 have h8:=T.gw.hi;have hl:=T.gw.lo;have hx:ixD (wb m ts) (.int 0)=.ok (.int m):=rfl;have hm:qC m=true:=by simp[qC];lia
 have hm0:0<=m:=by lia
 obtain⟨kv2,w,ew⟩:=sX hLH hLW (k:=k+7) T.gw h0 h1;obtain⟨kvs,w1,ea⟩:=tL P T (k:=k) h0 h1;have eu:((rng m).map λv=>D.int (upv m ts kvs v))=((rng m).map (upv m ts kv2)).map D.int:=by
  rw[bF];refine List.map_congr_left λv _=>?_
  have e:dv kvs=dv kv2:=funext λv=>og w1 w v
  simp only[Function.comp,upv,nrr,e]
 rw[eu]at ea;have t1:qa p (k+9) "_law_told" [.int 1,wb m ts,.int r]=.ok (tu ((rng m).map (upv m ts kv2))):=kK (ly ea);have ef:=yW P T (k:=k) h0 h1 w;have t2:qa p (k+9) "_law_told" [.int 2,wb m ts,.int r]=.ok (.lst ((frf m kv2).map D.int)):=kK (mf ef);have s1:=same_ints hSm (k:=k+7) ((rng m).map (upv m ts kv2));have s2:=uD (k:=k+7) (frf m kv2);have fl:=xn (pv T h0 h1 w);have ix:∀{o:Int},0<=o->o<m->ixD (.dic kv2) (.int o)=.ok (.int (dv kv2 o)):=λ{o} o0 o1=>by
  simp only[ixD,(T.at h0 h1 w o0 o1).1]
 suffices hs:∃d,qa p (k+10) "_law_right" [wb m ts,.int r]=.ok d/\d=.bl true by
  obtain⟨d,e,rfl⟩:=hs;exact e
 refine lV (k:=k+9) (τ:=[some (wb m ts),some (.int r),none,none,none,none,none,none,none]) vm rfl rfl ?_;refine zu (σ:=[some (wb m ts),some (.int r),some (.dic kv2),none,none,none,none,none,none]) (by
  generalize D.dic kv2=DK at *;generalize wb m ts=WB at *;simp[KG.Z,ew]) ?_
 refine zu (σ:=RE m ts kv2 r [] none none none none none) rfl ?_;refine eK (ds:=(rng m).map D.int) (λl σ=>∃(vs pre:List Int) (v4 v5:Option D),l=vs.map D.int/\pre++vs=rng m/\σ=RE m ts kv2 r (pre.map (upv m ts kv2)) v4 v5 none none none) ?_ ⟨rng m,[],none,none,rfl,rfl,rfl⟩ ?_ ?_
 ·rw[<-zK];dsimp only[RE];generalize wb m ts=WB at *;generalize D.dic kv2=DK at *;simp[KG.Z,hx,hm]
 ·rintro x l σ ⟨vs,pre,v4,v5,e,hp,rfl⟩;obtain⟨v,vs,rfl,rfl,rfl⟩:=fx e;have hv:v∈rng m:=by rw[<-hp];simp
  obtain⟨v0,v1⟩:=cP.mp hv;refine⟨RE m ts kv2 r (pre.map (upv m ts kv2)) (some (.int v)) v5 none none none,rfl,?_⟩;have pl:pre.length<=8:=by
   have:=congrArg List.length hp;rw[bO,zH]at this;lia
  have hh:=lH hLH (k:=k+8) T.gw ⟨v0,v1⟩;have hc:evE (wAt p (k+9)) (.comp (.seq (.call "_law_hood" (.cons (.var 0) (.cons (.var 4) .nil)))) [none,none,some 4,some 2] (.nm 1) (.cmp .eq (.ix (.var 3) (.var 1)) (.op .sub (.ix (.var 3) (.var 2)) (.con (.int 1)))) (.var 1)) (RE m ts kv2 r (pre.map (upv m ts kv2)) (some (.int v)) v5 none none none)=.ok (.lst ((nrr m ts kv2 v).map D.int)):=by
   rw[AD T h0 h1 w v0 v1];refine iH (f:=D.int) (l:=hd m ts v) (c:=[some (.int v),some (.dic kv2)]) (λo=>decide (dv kv2 o=dv kv2 v-1)) D.int ?_ ?_ rfl λo ho=>⟨?_,λ_=>rfl⟩
   ·refine lU ?_;dsimp only[RE];generalize wb m ts=WB at *;generalize D.dic kv2=DK at *;generalize D.lst ((pre.map (upv m ts kv2)).map D.int)=L3 at *;simp[KG.Z,hh]
   ·have:=oJ (ts:=ts) h8 v;simp only[SZ];lia
   ·obtain⟨o0,o1⟩:=f_ ho;have a:=ix o0 o1;have a':=ix v0 v1;have s:op2 .sub (.int (dv kv2 v)) (.int 1)=.ok (.int (dv kv2 v-1)):=rfl;have c:=eq_int (dv kv2 o) (dv kv2 v-1);generalize D.dic kv2=DK at *;generalize dv kv2 v-1=D1 at *;simp[KG.Z,a,a',s,c]
  refine zu (σ:=RE m ts kv2 r (pre.map (upv m ts kv2)) (some (.int v)) (some (.lst ((nrr m ts kv2 v).map D.int))) none none none) (by rw[bT,hc];rfl) ?_;refine zu (σ:=RE m ts kv2 r ((pre++[v]).map (upv m ts kv2)) (some (.int v)) (some (.lst ((nrr m ts kv2 v).map D.int))) none none none) ?_ (zQ ⟨vs,pre++[v],_,_,rfl,by rw[List.append_assoc];exact hp,rfl⟩);have nl:(nrr m ts kv2 v).length<=8:=a_ (List.length_filter_le _ _) (oJ h8 v);have o1:op2 .add (.lst ((nrr m ts kv2 v).map D.int)) (.lst [.int (-1)])=.ok (.lst ((nrr m ts kv2 v++[-1]).map D.int)):=by
   rw[op2,if_pos ⟨rfl,by rw[aF];simp only[SZ,bA,List.length_nil];lia⟩,List.map_append];rfl
  have o2:ixD (.lst ((nrr m ts kv2 v++[-1]).map D.int)) (.int 0)=.ok (.int (upv m ts kv2 v)):=by
   rw[upv];cases nrr m ts kv2 v with
   |nil=>exact ix0 D.int (-1) []
   |cons x l=>exact ix0 D.int x (l++[-1])
  have xe:evE (wAt p (k+9)) (.ix (.op .add (.var 5) (.lst (.cons (.neg (.con (.int 1))) .nil))) (.con (.int 0))) (RE m ts kv2 r (pre.map (upv m ts kv2)) (some (.int v)) (some (.lst ((nrr m ts kv2 v).map D.int))) none none none)=.ok (.int (upv m ts kv2 v)):=by
   dsimp only[RE];generalize D.lst ((nrr m ts kv2 v++[-1]).map D.int)=NV at *;generalize D.lst ((nrr m ts kv2 v).map D.int)=NN at *;generalize wb m ts=WB at *;generalize D.dic kv2=DK at *;generalize D.lst ((pre.map (upv m ts kv2)).map D.int)=L3 at *;simp[KG.Z,o1,o2,zc]
  rw[iY (xs:=(pre.map (upv m ts kv2)).map D.int) (d:=.int (upv m ts kv2 v)) rfl xe (by rw[aF,aF];simp only[SZ];lia)];have e2:((pre++[v]).map (upv m ts kv2)).map D.int=(pre.map (upv m ts kv2)).map D.int++[.int (upv m ts kv2 v)]:=by simp
  dsimp only[RE];rw[e2]
  rfl
 ·rintro σ ⟨vs,pre,v4,v5,e,hp,rfl⟩;have:vs=[]:=by cases vs with|nil=>rfl|cons=>cases e
  subst this;rw[cR]at hp;subst hp;refine zu (σ:=RE m ts kv2 r ((rng m).map (upv m ts kv2)) v4 v5 (some (.lst (([]:List Int).map D.int))) none none) rfl ?_;refine eK (ds:=(rng m).reverse.map D.int) (λl σ=>∃(ws:List Int) (acc:List Int) (v7:Option D),l=ws.map D.int/\acc++(ws.flatMap λd=>(rng m).filter λv=>decide (dv kv2 v=d))=frf m kv2/\σ=RE m ts kv2 r ((rng m).map (upv m ts kv2)) v4 v5 (some (.lst (acc.map D.int))) v7 none) ?_ ⟨(rng m).reverse,[],none,rfl,rfl,rfl⟩ ?_ ?_
  ·rw[<-DC m hm0];dsimp only[RE];generalize wb m ts=WB at *;generalize D.dic kv2=DK at *;simp[KG.Z,hx,hm,hm0]
  ·rintro x l σ ⟨ws,acc,v7,e,hac,rfl⟩;obtain⟨d,ws,rfl,rfl,rfl⟩:=fx e;rw[List.flatMap_cons,<-List.append_assoc]at hac;refine⟨RE m ts kv2 r ((rng m).map (upv m ts kv2)) v4 v5 (some (.lst (acc.map D.int))) (some (.int d)) none,rfl,?_⟩;have hlen:acc.length+((rng m).filter λv=>decide (dv kv2 v=d)).length<=8:=by
    have:=congrArg List.length hac;rw[bO,bO,fl]at this;lia
   have hc:evE (wAt p (k+9)) (.comp (.rng (.ix (.var 0) (.con (.int 0)))) [none,none,some 7,some 2] (.nm 1) (.cmp .eq (.ix (.var 3) (.var 1)) (.var 2)) (.var 1)) (RE m ts kv2 r ((rng m).map (upv m ts kv2)) v4 v5 (some (.lst (acc.map D.int))) (some (.int d)) none)=.ok (.lst (((rng m).filter λv=>decide (dv kv2 v=d)).map D.int)):=by
    refine iH (f:=D.int) (l:=rng m) (c:=[some (.int d),some (.dic kv2)]) (λv=>decide (dv kv2 v=d)) D.int ?_ ?_ rfl λv hv=>⟨?_,λ_=>rfl⟩
    ·rw[<-zK];dsimp only[RE];generalize wb m ts=WB at *;generalize D.dic kv2=DK at *;generalize D.lst (acc.map D.int)=L6 at *;generalize D.lst (((rng m).map (upv m ts kv2)).map D.int)=L3 at *;simp[KG.Z,hx,hm]
    ·rw[zH];simp only[SZ];lia
    ·obtain⟨v0,v1⟩:=cP.mp hv;have a:=ix v0 v1;have c:=eq_int (dv kv2 v) d;generalize D.dic kv2=DK at *;simp[KG.Z,a,c]
   have o1:op2 .add (.lst (acc.map D.int)) (.lst (((rng m).filter λv=>decide (dv kv2 v=d)).map D.int))=.ok (.lst ((acc++(rng m).filter λv=>decide (dv kv2 v=d)).map D.int)):=by
    rw[op2,if_pos ⟨rfl,by rw[aF,aF];simp only[SZ];lia⟩,List.map_append]
   refine zu (σ:=RE m ts kv2 r ((rng m).map (upv m ts kv2)) v4 v5 (some (.lst ((acc++(rng m).filter λv=>decide (dv kv2 v=d)).map D.int))) (some (.int d)) none) ?_ (zQ ⟨ws,_,_,rfl,hac,rfl⟩);have g6:evE (wAt p (k+9)) (.var 6) (RE m ts kv2 r ((rng m).map (upv m ts kv2)) v4 v5 (some (.lst (acc.map D.int))) (some (.int d)) none)=.ok (.lst (acc.map D.int)):=rfl;rw[bT,ze,g6,hc];simp only[R.bind_ok];rw[o1]
   rfl
  ·rintro σ ⟨ws,acc,v7,e,hac,rfl⟩;have:ws=[]:=by cases ws with|nil=>rfl|cons=>cases e
   subst this;rw[List.flatMap_nil,cR]at hac;subst hac;have lt:bZ (.lst ((frf m kv2).map D.int))=true:=rfl;have nz:(D.bl true).noL=true:=rfl;have bt:b1 .tuple [.lst (((rng m).map (upv m ts kv2)).map D.int)]=.ok (tu ((rng m).map (upv m ts kv2))):=rfl;have az:((frf m kv2).map D.int).length<SZ:=by rw[aF,fl];simp only[SZ];lia
   refine zu (σ:=RE m ts kv2 r ((rng m).map (upv m ts kv2)) v4 v5 (some (.lst ((frf m kv2).map D.int))) v7 (some (.lst ((frf m kv2).map D.int)))) (by
    dsimp only[RE];generalize D.lst ((frf m kv2).map D.int)=FF at *;generalize D.lst (((rng m).map (upv m ts kv2)).map D.int)=L3 at *;generalize wb m ts=WB at *;generalize D.dic kv2=DK at *;simp[KG.Z,t2,lt,qF]) ?_
   refine zu (σ:=RE m ts kv2 r ((rng m).map (upv m ts kv2)) v4 v5 (some (.lst ((frf m kv2).map D.int))) v7 (some (.lst ((frf m kv2).map D.int)))) (by
    dsimp only[RE];generalize tu ((rng m).map (upv m ts kv2))=UV at *;generalize D.lst ((frf m kv2).map D.int)=FF at *;generalize D.lst (((rng m).map (upv m ts kv2)).map D.int)=L3 at *;generalize wb m ts=WB at *;generalize D.dic kv2=DK at *;simp[KG.Z,t1,t2,bt,s1,s2,nz,qG]) ?_
   refine zu (σ:=RE m ts kv2 r ((rng m).map (upv m ts kv2)) v4 v5 (some (.lst ((frf m kv2).map D.int))) v7 (some (.lst ((frf m kv2).map D.int++[.int 0])))) (by
    rw[iY (xs:=(frf m kv2).map D.int) (d:=.int 0) rfl rfl az];rfl) ?_
   refine gR (d:=.bl true) ?_ rfl;dsimp only[RE];generalize D.lst ((frf m kv2).map D.int++[.int 0])=FG at *;generalize D.lst ((frf m kv2).map D.int)=FF at *;generalize D.lst (((rng m).map (upv m ts kv2)).map D.int)=L3 at *;generalize wb m ts=WB at *;generalize D.dic kv2=DK at *;simp[KG.Z,t2,s2]
theorem CG{k:Nat}{m:Int}{ts:List (Int×Int)}(T:Tree m ts)(b:D):qa p (k+9) "_law_told" [.int 0,wb m ts,b]=.ok (tu (enz m ts)):=kK ((mK (uj P T (k:=k))).trans rfl)
theorem vO{k:Nat}{d b:D}(h:BW d){x:Int}(hx:x=0\/x=1\/x=2):qa p (k+9) "_law_told" [.int x,d,b]=.ok (.int 0):=pI (C_ P (k:=k+1) (h (k+1))) kd0 (by kernel_rfl) hx
theorem rj{k:Nat}{m:Int}{ts:List (Int×Int)}{b:D}(h:GW m ts)(hn:(ts.length:Int)≠m-1){x:Int}(hx:x=0\/x=1\/x=2):qa p (k+9) "_law_told" [.int x,wb m ts,b]=.ok (.int 6):=pI (Az P (k:=k) h hn) kd6 (by kernel_rfl) hx
abbrev TRI:D:=.tup [.int 3,.tup [.tup [.int 0,.int 1],.tup [.int 0,.int 2],.tup [.int 1,.int 2]]]
theorem Ar{x:Int}(hx:x=0\/x=1\/x=2):qa p 12 "_law_told" [.int x,TRI,.int 0]=.ok (.int 6):=by
 have g:GW 3 [(0,1),(0,2),(1,2)]:=⟨by decide,by decide,by decide,by decide,by decide⟩
 exact rj (k:=3) g (by decide) hx
abbrev LS(ns:List Int)(v1 v2 v3 v4 v5 v6 v7:Option D):Env:=[some (.lst (ns.map D.int)),v1,v2,v3,v4,v5,v6,v7]
theorem three{x:Int}(h:x∈rng 3):x=0\/x=1\/x=2:=by
 obtain⟨a,b⟩:=cP.mp h;lia
theorem x5{w:W}(ns:List Int)(hn:ns.length<=63)(hst:∀c j:Int,w.call "_law_stir" [.int c,.int j]=.ok (.int (st c j)))
  (ht:∀m c:Int,1<=m->m<=8->∃ts,Tree m ts/\w.call "_law_tree_by" [.int m,.int c]=.ok (wb m ts))
  (hh:∀m ts (a:Int),GW m ts->0<=a->a<m->w.call "_law_hood" [wb m ts,.int a]=.ok (tu (hd m ts a)))
  (h0:∀m ts,Tree m ts->w.call "_law_told" [.int 0,wb m ts,.non]=.ok (tu (enz m ts)))
  (hs:∀ms:List Int,w.call "_law_same" [tu ms,tu ms]=.ok (.bl true))
  (hr:∀m ts (r:Int),Tree m ts->0<=r->r<m->w.call "_law_right" [wb m ts,.int r]=.ok (.bl true))
  (hb:∀m n:Int,∀t,1<=m->m<=8->∃d,w.call "_law_no_place" [.int m,.int n]=.ok d/\BP (.tup [.int m,t]) d)
  (hp:∀m ts b (x:Int),Tree m ts->BP (wb m ts) b->x=1\/x=2->w.call "_law_told" [.int x,wb m ts,b]=.ok (.int 2))
  (hnw:∀m ts n,GW m ts->∃d,w.call "_law_no_web" [wb m ts,.int n]=.ok d/\BW d)
  (h3:∀d b (x:Int),BW d->x=0\/x=1\/x=2->w.call "_law_told" [.int x,d,b]=.ok (.int 0))
  (h6:∀m ts b (x:Int),GW m ts->(ts.length:Int)≠m-1->x=0\/x=1\/x=2->w.call "_law_told" [.int x,wb m ts,b]=.ok (.int 6))
  (hT:∀x:Int,x=0\/x=1\/x=2->w.call "_law_told" [.int x,TRI,.int 0]=.ok (.int 6)) :
  Ends (λ_=>False) (λd=>d=.bl true) (qe w fV.body (LS ns none none none none none none none)):=by
 have r3:∀τ,evI w (.rng (.con (.int 3))) τ=.ok ((rng 3).map D.int):=λτ=>rfl
 have z3:(rng 3).length<=SZ:=by decide
 have mu:∀i:Int,op2 .mul (.lst [.int i]) (.int 3)=.ok (.lst ((rng 3).map λ_=>.int i)):=λi=>rfl
 have ne0:qi .ne (.lst ((rng 3).map λ_=>.int 0)) (.lst ((rng 3).map λ_=>.int 0))=.ok false:=by kernel_rfl
 have ne6:qi .ne (.lst ((rng 3).map λ_=>.int 6)) (.lst ((rng 3).map λ_=>.int 6))=.ok false:=by kernel_rfl
 have eq6:qi .eq (.lst ((rng 3).map λ_=>.int 6)) (.lst ((rng 3).map λ_=>.int 6))=.ok true:=by kernel_rfl
 obtain⟨cs,hcs,hcl⟩:=x2 ns none (some 6);refine eK (ds:=(cs++[0,3,129]).map D.int) (λr σ=>∃(ms:List Int) (v1 v2 v3 v4 v5 v6 v7:Option D),r=ms.map D.int/\σ=LS ns v1 v2 v3 v4 v5 v6 v7) ?_ ⟨_,none,none,none,none,none,none,none,rfl,rfl⟩ ?_ ?_
 ·have e:op2 .add (.lst (cs.map D.int)) (.lst [.int 0,.int 3,.int 129])=.ok (.lst ((cs++[0,3,129]).map D.int)):=by
   rw[op2,if_pos (by simp[SZ];lia)];simp
  simp[KG.Z,slD,hcs,e,seq?]
 ·rintro x t σ ⟨ms,v1,v2,v3,v4,v5,v6,v7,e,rfl⟩;obtain⟨c,ms,rfl,rfl,rfl⟩:=fx e;have m1:1<=1+c/64%8:=by lia
  have m2:1+c/64%8<=8:=by lia
  obtain⟨ts,T,et⟩:=ht (1+c/64%8) (c/512) m1 m2;refine⟨LS ns (some (.int c)) v2 v3 v4 v5 v6 v7,rfl,?_⟩;refine zu (σ:=LS ns (some (.int c)) (some (.int (1+c/64%8))) v3 v4 v5 v6 v7) (by simp[KG.Z,op2]) ?_;generalize hM:1+c/64%8=M at *;have zd:op2 .fdiv (.int c) (.int 512)=.ok (.int (c/512)):=rfl;have hm:qC M=true:=by simp[qC];lia
  refine zu (σ:=LS ns (some (.int c)) (some (.int M)) (some (wb M ts)) v4 v5 v6 v7) (by
   generalize wb M ts=WT at *;generalize c/512=C1 at *;simp[KG.Z,zd,et]) ?_
  have hc1:evE w (.comp (.rng (.var 2)) [none,none,some 3] (.nm 1) (.cmp .eq (.bi .len (.cons (.call "_law_hood" (.cons (.var 2) (.cons (.var 1) .nil))) .nil)) (.con (.int 2))) (.var 1)) (LS ns (some (.int c)) (some (.int M)) (some (wb M ts)) v4 v5 v6 v7)=.ok (.lst ((enz M ts).map D.int)):=by
   refine iH (f:=D.int) (l:=rng M) (c:=[some (wb M ts)]) (λv=>decide (((hd M ts v).length:Int)=2)) D.int ?_ ?_ rfl λv hv=>⟨?_,λ_=>rfl⟩
   ·rw[<-zK];dsimp only[LS];generalize wb M ts=WT at *;simp[KG.Z,hm]
   ·rw[zH];simp only[SZ];lia
   ·obtain⟨v0,v1⟩:=cP.mp hv;have e:=hh M ts v T.gw v0 v1;have l:=oP (hd M ts v);have cc:=eq_int ((hd M ts v).length) 2;generalize tu (hd M ts v)=TV at *;generalize ((hd M ts v).length:Int)=L at *;generalize wb M ts=WT at *;simp[KG.Z,e,l,cc]
  refine zu (σ:=LS ns (some (.int c)) (some (.int M)) (some (wb M ts)) (some (tu (enz M ts))) v5 v6 v7) (by
   rw[bT,qo,zz,hc1];rfl) ?_
  have hc2:evE w (.comp (.rng (.var 2)) [none,none,some 3] (.nm 1) .yes (.call "_law_right" (.cons (.var 2) (.cons (.var 1) .nil)))) (LS ns (some (.int c)) (some (.int M)) (some (wb M ts)) (some (tu (enz M ts))) v5 v6 v7)=.ok (.lst ((rng M).map λ_=>.bl true)):=by
   refine fh (f:=D.int) (l:=rng M) (c:=[some (wb M ts)]) (λ_=>.bl true) ?_ ?_ rfl λv hv=>?_
   ·rw[<-zK];dsimp only[LS];generalize wb M ts=WT at *;generalize tu (enz M ts)=TZ at *;simp[KG.Z,hm]
   ·rw[zH];simp only[SZ];lia
   ·obtain⟨v0,v1⟩:=cP.mp hv;have e:=hr M ts v T v0 v1;generalize wb M ts=WT at *;simp[KG.Z,e]
  have ab:b1 .all [.lst ((rng M).map λ_=>D.bl true)]=.ok (.bl true):=by
   rw[mj (rng M) λ_=>true];simp
  have q0:=h0 M ts T;have qs:=hs (enz M ts);refine zu (σ:=LS ns (some (.int c)) (some (.int M)) (some (wb M ts)) (some (tu (enz M ts))) v5 v6 v7) (by
   dsimp only[LS]at hc2 ⊢;generalize (EV.E.comp (.rng (.var 2)) [none,none,some 3] (.nm 1) .yes (.call "_law_right" (.cons (.var 2) (.cons (.var 1) .nil))))=EE at *;generalize D.lst ((rng M).map λ_=>D.bl true)=LB at *;generalize tu (enz M ts)=TZ at *;generalize wb M ts=WT at *;simp[KG.Z,q0,qs,hc2,ab]) ?_
  obtain⟨bd,eb,hbp⟩:=hb M (st c 1) (.tup (ts.map prD)) m1 m2;have t1':=hst c 1;have t2':=hst c 2;generalize st c 1=C1 at *;refine zu (σ:=LS ns (some (.int c)) (some (.int M)) (some (wb M ts)) (some (tu (enz M ts))) (some bd) v6 v7) (by
   dsimp only[LS];generalize tu (enz M ts)=TZ at *;generalize wb M ts=WT at *;simp[KG.Z,t1',eb]) ?_
  have p1:=hp M ts bd 1 T hbp (.inl rfl);have p2:=hp M ts bd 2 T hbp (.inr rfl);have n2:=ne_int 2 2;refine zu (σ:=LS ns (some (.int c)) (some (.int M)) (some (wb M ts)) (some (tu (enz M ts))) (some bd) v6 v7) (by
   dsimp only[LS];generalize tu (enz M ts)=TZ at *;generalize wb M ts=WT at *;simp[KG.Z,p1,p2,n2]) ?_
  obtain⟨u,eu,hu⟩:=hnw M ts (st c 2) T.gw;generalize st c 2=C2 at *;refine zu (σ:=LS ns (some (.int c)) (some (.int M)) (some (wb M ts)) (some (tu (enz M ts))) (some bd) (some u) v7) (by
   dsimp only[LS];generalize tu (enz M ts)=TZ at *;generalize wb M ts=WT at *;simp[KG.Z,t2',eu]) ?_
  have hc3:evE w (.comp (.rng (.con (.int 3))) [none,none,some 5,some 6] (.nm 1) .yes (.call "_law_told" (.cons (.var 1) (.cons (.var 3) (.cons (.var 2) .nil))))) (LS ns (some (.int c)) (some (.int M)) (some (wb M ts)) (some (tu (enz M ts))) (some bd) (some u) v7)=.ok (.lst ((rng 3).map λ_=>.int 0)):=by
   refine fh (f:=D.int) (l:=rng 3) (c:=[some bd,some u]) (λ_=>.int 0) (r3 _) z3 rfl λv hv=>?_
   have e:=h3 u bd v hu (three hv);simp[KG.Z,e]
  refine zu (σ:=LS ns (some (.int c)) (some (.int M)) (some (wb M ts)) (some (tu (enz M ts))) (some bd) (some u) v7) (by
   have m0:=mu 0;dsimp only[LS]at hc3 ⊢;generalize (EV.E.comp (.rng (.con (.int 3))) [none,none,some 5,some 6] (.nm 1) .yes (.call "_law_told" (.cons (.var 1) (.cons (.var 3) (.cons (.var 2) .nil)))))=EE at *;generalize D.lst ((rng 3).map λ_=>.int 0)=L0 at *;generalize tu (enz M ts)=TZ at *;generalize wb M ts=WT at *;simp[KG.Z,hc3,m0,ne0]) ?_
  have hx1:ixD (wb M ts) (.int 1)=.ok (.tup (ts.map prD)):=rfl;have oM:op2 .add (.int M) (.int 1)=.ok (.int (M+1)):=rfl;refine zu (σ:=LS ns (some (.int c)) (some (.int M)) (some (wb M ts)) (some (tu (enz M ts))) (some bd) (some u) (some (wb (M+1) ts))) (by
   show _=O.nx (LS ns (some (.int c)) (some (.int M)) (some (wb M ts)) (some (tu (enz M ts))) (some bd) (some u) (some (.tup [.int (M+1),.tup (ts.map prD)])));dsimp only[LS];generalize tu (enz M ts)=TZ at *;generalize wb M ts=WT at *;generalize D.tup (ts.map prD)=TT at *;generalize M+1=M1 at *;simp[KG.Z,hx1,oM]) ?_
  have l8:=lt_int M 8;refine zu (σ:=LS ns (some (.int c)) (some (.int M)) (some (wb M ts)) (some (tu (enz M ts))) (some bd) (some u) (some (wb (M+1) ts))) ?_ (zQ ⟨ms,_,_,_,_,_,_,_,rfl,rfl⟩);by_cases hM8:M<8
  ·have g1:GW (M+1) ts:=⟨by lia,by lia,T.gw.lt,λt ht=>by
    have:=T.gw.ok t ht;exact⟨this.1,this.2.1,by lia⟩,T.gw.len⟩
   have hc4:evE w (.comp (.rng (.con (.int 3))) [none,none,some 5,some 7] (.nm 1) .yes (.call "_law_told" (.cons (.var 1) (.cons (.var 3) (.cons (.var 2) .nil))))) (LS ns (some (.int c)) (some (.int M)) (some (wb M ts)) (some (tu (enz M ts))) (some bd) (some u) (some (wb (M+1) ts)))=.ok (.lst ((rng 3).map λ_=>.int 6)):=by
    refine fh (f:=D.int) (l:=rng 3) (c:=[some bd,some (wb (M+1) ts)]) (λ_=>.int 6) (r3 _) z3 rfl λv hv=>?_
    have e:=h6 (M+1) ts bd v g1 (by have:=T.len;lia) (three hv);generalize wb (M+1) ts=WO at *;simp[KG.Z,e]
   rw[decide_eq_true hM8]at l8;have m6:=mu 6;dsimp only[LS]at hc4 ⊢;generalize (EV.E.comp (.rng (.con (.int 3))) [none,none,some 5,some 7] (.nm 1) .yes (.call "_law_told" (.cons (.var 1) (.cons (.var 3) (.cons (.var 2) .nil)))))=EE at *;generalize D.lst ((rng 3).map λ_=>.int 6)=L6 at *;generalize tu (enz M ts)=TZ at *;generalize wb (M+1) ts=WO at *;generalize wb M ts=WT at *;simp[KG.Z,hc4,m6,ne6,l8]
  ·rw[decide_eq_false hM8]at l8;dsimp only[LS];generalize tu (enz M ts)=TZ at *;generalize wb (M+1) ts=WO at *;generalize wb M ts=WT at *;simp[KG.Z,l8]
 ·rintro σ ⟨ms,v1,v2,v3,v4,v5,v6,v7,e,rfl⟩;refine gR (d:=.bl true) ?_ rfl;have hc5:evE w (.comp (.rng (.con (.int 3))) [none,none] (.nm 1) .yes (.call "_law_told" (.cons (.var 1) (.cons (.tup (.cons (.con (.int 3)) (.cons (.tup (.cons (.tup (.cons (.con (.int 0)) (.cons (.con (.int 1)) .nil))) (.cons (.tup (.cons (.con (.int 0)) (.cons (.con (.int 2)) .nil))) (.cons (.tup (.cons (.con (.int 1)) (.cons (.con (.int 2)) .nil))) .nil)))) .nil))) (.cons (.con (.int 0)) .nil))))) (LS ns v1 v2 v3 v4 v5 v6 v7)=.ok (.lst ((rng 3).map λ_=>.int 6)):=by
   refine fh (f:=D.int) (l:=rng 3) (c:=[]) (λ_=>.int 6) (r3 _) z3 rfl λv hv=>?_
   have e:=hT v (three hv);exact e
  have m6:=mu 6;have rm:evE w (.op .mul (.lst (.cons (.con (.int 6)) .nil)) (.con (.int 3))) (LS ns v1 v2 v3 v4 v5 v6 v7)=.ok (.lst ((rng 3).map λ_=>.int 6)):=m6;rw[qu,hc5];simp only[R.bind_ok];rw[rm];simp only[R.bind_ok];show (qi .eq _ _).bind _=_;rw[eq6]
  rfl
theorem Ei{F:Str->List D->R D}(ns:List Int)(h:Ends (λ_=>False) (λd=>d=.bl true) (qe ⟨F,p.glb,p.sub,p.cat⟩ fV.body (LS ns none none none none none none none))):zF ⟨F,p.glb,p.sub,p.cat⟩ fV [.lst (ns.map D.int)]=.ok (.bl true):=by
 obtain⟨d,e,rfl⟩:=kq (w:=⟨F,p.glb,p.sub,p.cat⟩) (f:=fV) (ds:=[.lst (ns.map D.int)]) rfl rfl h;exact e
theorem D4{F:Str->List D->R D}(hF:F=qa p 12)(ns:List Int)(hn:ns.length<=63):zF ⟨F,p.glb,p.sub,p.cat⟩ fV [.lst (ns.map D.int)]=.ok (.bl true):=by
 refine Ei ns (x5 (w:=⟨F,p.glb,p.sub,p.cat⟩) ns hn ?_ ?_ ?_ ?_ ?_ ?_ ?_ ?_ ?_ ?_ ?_ ?_)<;>rw[hF]
 ·exact λc j=>iV hSt (k:=11) c j
 ·exact λm c h1 h2=>by
   obtain⟨o,hp,e⟩:=Dn hSt hTB (k:=10) m c h1 h2;exact⟨_,xh h1 h2 hp,e⟩
 ·exact λm ts a g a0 a1=>lH hLH (k:=11) g ⟨a0,a1⟩
 ·exact λm ts T=>CG (k:=3) T .non
 ·exact λms=>same_ints hSm (k:=10) ms
 ·exact λm ts r T h0 h1=>right (k:=2) T h0 h1
 ·exact λm n t h1 h2=>Af (k:=11) ⟨h1,h2⟩ t n
 ·exact λm ts b x T hb hx=>vw (k:=3) T hb hx
 ·exact λm ts n g=>DM B hNW (k:=11) g n
 ·exact λd b x h hx=>vO (k:=3) h hx
 ·exact λm ts b x g hn hx=>rj (k:=3) g hn hx
 ·exact λx hx=>Ar hx
theorem xY:∀ns:List Int,ns.length<=63->qa p depth "law" [.lst (ns.map D.int)]=.ok (.bl true):=by
 intro ns hn;rw[show depth=12+1 from rfl,qc tw];exact D4 rfl ns hn
end K40
namespace K40
open PySem PySem.Spec PyProof.Rows L2 EV
theorem rC:∀e∈tab,cFn G (fM us oth) e.own e.fr e.st=some e.fn:=by
 intro e he;simp only[tab,aD,bV,or_false]at he;rcases he with rfl|rfl|rfl|rfl|rfl|rfl|rfl|rfl|rfl|rfl|rfl|rfl|rfl|rfl|rfl|rfl|rfl|rfl|rfl|rfl|rfl|rfl|rfl|rfl|rfl|rfl|rfl|rfl|rfl|rfl|rfl<;>kernel_rfl
theorem tP:∀e∈us,e∈tab:=by
 intro e he;simp only[us,aD,bV,or_false]at he;rcases he with rfl
 ·simp[tab]
theorem Ax:∀e∈us,hV (eU oth) e.own e.fr e.st=some e.fn:=by
 intro e he;simp only[us,aD,bV,or_false]at he;rcases he with rfl<;>kernel_rfl
theorem nd:(tab.map (·.x)).Nodup:=by decide +kernel
section
variable{K:aq}{h:Heap}{mg:Str->Option ae}{f0:Addr}(d0:WB.Dd K "is_whole" (top 17) f0){f1:Addr}(d1:WB.Dd K "is_between" (top 18) f1){f2:Addr}(d2:WB.Dd K "is_pair" (top 19) f2){f3:Addr}(d3:WB.Dd K "rises" (top 20) f3){f4:Addr}(d4:WB.Dd K "is_web" (top 23) f4){f5:Addr}(d5:WB.Dd K "is_tie" (top 24) f5){f6:Addr}(d6:WB.Dd K "need_web" (top 25) f6){f7:Addr}(d7:WB.Dd K "is_place" (top 26) f7){f8:Addr}(d8:WB.Dd K "need_place" (top 27) f8){f9:Addr}(d9:WB.Dd K "hoods" (top 28) f9){f10:Addr}(d10:WB.Dd K "hood_of" (top 29) f10){f11:Addr}(d11:WB.Dd K "are_tied" (top 30) f11){f12:Addr}(d12:WB.Dd K "ways_from" (top 31) f12){f13:Addr}(d13:WB.Dd K "pieces" (top 32) f13){f14:Addr}(d14:WB.Dd K "is_tree" (top 33) f14){f15:Addr}(d15:WB.Dd K "need_tree" (top 35) f15){f16:Addr}(d16:WB.Dd K "ends" (top 36) f16){f17:Addr}(d17:WB.Dd K "above" (top 37) f17){f18:Addr}(d18:WB.Dd K "upper" (top 38) f18){f19:Addr}(d19:WB.Dd K "from_far" (top 39) f19){f20:Addr}(d20:WB.Dd K "_law_hood" (top 41) f20){f21:Addr}(d21:WB.Dd K "_law_kinds" (top 42) f21){f22:Addr}(d22:WB.Dd K "_law_same" (top 43) f22){f23:Addr}(d23:WB.Dd K "_law_stir" (top 44) f23){f24:Addr}(d24:WB.Dd K "_law_tree_by" (top 45) f24){f25:Addr}(d25:WB.Dd K "_law_no_place" (top 46) f25){f26:Addr}(d26:WB.Dd K "_law_no_web" (top 47) f26){f27:Addr}(d27:WB.Dd K "_law_ways" (top 48) f27){f28:Addr}(d28:WB.Dd K "_law_told" (top 49) f28){f29:Addr}(d29:WB.Dd K "_law_right" (top 50) f29){f30:Addr}(d30:WB.Dd K "law" (top 51) f30)
include d0 d1 d2 d3 d4 d5 d6 d7 d8 d9 d10 d11 d12 d13 d14 d15 d16 d17 d18 d19 d20 d21 d22 d23 d24 d25 d26 d27 d28 d29 d30
theorem D3:∀e∈tab,iP K G e:=by
 intro e he;simp only[tab,aD,bV,or_false]at he;rcases he with rfl|rfl|rfl|rfl|rfl|rfl|rfl|rfl|rfl|rfl|rfl|rfl|rfl|rfl|rfl|rfl|rfl|rfl|rfl|rfl|rfl|rfl|rfl|rfl|rfl|rfl|rfl|rfl|rfl|rfl|rfl<;>refine⟨⟨_,by assumption⟩,λ_ _ _ _ _ _ us hl=>?_⟩<;>first|(obtain⟨_,rfl⟩:=WB.sh hl;rfl)|(obtain⟨_,_,rfl⟩:=WB.pV hl;rfl)|(obtain⟨_,_,_,rfl⟩:=WB.Dt hl;rfl)
omit d0 d1 d2 d3 d4 d5 d6 d7 d8 d9 d10 d11 d12 d13 d14 d15 d16 d17 d18 d19 d20 d21 d22 d23 d24 d25 d26 d27 d28 d29 d30
theorem kD{x:Str}{k:GK}(h:oth.lookup x=some k):∃y∈oth,x=y.1/\k=y.2:=by
 generalize oth=l at h ⊢
 induction l with
 |nil=>cases h
 |cons a r ih=>
  rw[bf]at h;split at h
  ·rename_i q;cases h;exact⟨a,aJ,eq_of_beq q,rfl⟩
  ·obtain⟨y,h1,h2⟩:=ih h;exact⟨y,aK _ h1,h2⟩
theorem ub{K:aq}{C0:Addr}(k0:ao K ak "PlaceError" = some (some (.ref C0))){C1:Addr}(k1:ao K ak "NoWeb" = some (some (.ref C1)))(x1:PySem.W.excIn K C1 fG "ValueError.__new__" = true){C2:Addr}(k2:ao K ak "NoPlaces" = some (some (.ref C2))){C3:Addr}(k3:ao K ak "NoPlace" = some (some (.ref C3)))(x3:PySem.W.excIn K C3 fG "ValueError.__new__" = true){C4:Addr}(k4:ao K ak "NoNumber" = some (some (.ref C4))){C5:Addr}(k5:ao K ak "NotAll" = some (some (.ref C5))){C6:Addr}(k6:ao K ak "NotUntied" = some (some (.ref C6))){C7:Addr}(k7:ao K ak "NoShares" = some (some (.ref C7))){C8:Addr}(k8:ao K ak "NotTree" = some (some (.ref C8)))(x8:PySem.W.excIn K C8 fG "ValueError.__new__" = true){C9:Addr}(k9:ao K ak "NotTold" = some (some (.ref C9))){C10:Addr}(k10:ao K ak "NoCrowds" = some (some (.ref C10))){C11:Addr}(k11:ao K ak "NoText" = some (some (.ref C11))){C12:Addr}(k12:ao K ak "NoLine" = some (some (.ref C12))){C13:Addr}(k13:ao K ak "NoDeed" = some (some (.ref C13))){C14:Addr}(k14:ao K ak "TooGreat" = some (some (.ref C14))){tk0:Tok}(u0:ao K ak "MOST" = some (some (.int 8 tk0)))(z0:ao K ak "len" = some none)(z1:ao K ak "tuple" = some none)(z2:ao K ak "list" = some none)(z3:ao K ak "int" = some none)(z4:ao K ak "bool" = some none)(z5:ao K ak "str" = some none)(z6:ao K ak "sorted" = some none)(z7:ao K ak "all" = some none)(z8:ao K ak "min" = some none)(z9:ao K ak "max" = some none)(z10:ao K ak "range" = some none)(z11:ao K ak "reversed" = some none)(z12:ao K ak "enumerate" = some none)(z13:ao K ak "zip" = some none)(z14:ao K ak "isinstance" = some none)(z15:ao K ak "ValueError" = some none):∀x k,oth.lookup x=some k->pH K vals x k:=by
 intro x k h;obtain⟨y,h1,rfl,rfl⟩:=kD h;simp only[oth,aD,bV,or_false]at h1;rcases h1 with rfl|rfl|rfl|rfl|rfl|rfl|rfl|rfl|rfl|rfl|rfl|rfl|rfl|rfl|rfl|rfl|rfl|rfl|rfl|rfl|rfl|rfl|rfl|rfl|rfl|rfl|rfl|rfl|rfl|rfl|rfl|rfl
 ·exact⟨_,k0⟩
 ·exact⟨_,k1,x1⟩
 ·exact⟨_,k2⟩
 ·exact⟨_,k3,x3⟩
 ·exact⟨_,k4⟩
 ·exact⟨_,k5⟩
 ·exact⟨_,k6⟩
 ·exact⟨_,k7⟩
 ·exact⟨_,k8,x8⟩
 ·exact⟨_,k9⟩
 ·exact⟨_,k10⟩
 ·exact⟨_,k11⟩
 ·exact⟨_,k12⟩
 ·exact⟨_,k13⟩
 ·exact⟨_,k14⟩
 ·exact⟨_,.int 8,.int 8,u0,⟨_,rfl⟩,rfl,λg H _=>.int _⟩
 ·exact⟨z0,rfl,_,rfl⟩
 ·exact⟨z1,by decide +kernel,by simp,by simp[b1N,b1V]⟩
 ·exact⟨z2,by decide +kernel,by simp,by simp[b1N,b1V]⟩
 ·exact⟨z3,by decide +kernel,by simp,by simp[b1N,b1V]⟩
 ·exact⟨z4,by decide +kernel,by simp,by simp[b1N,b1V]⟩
 ·exact⟨z5,by decide +kernel,by simp,by simp⟩
 ·exact⟨z6,rfl,_,rfl⟩
 ·exact⟨z7,rfl,_,rfl⟩
 ·exact⟨z8,rfl,_,rfl⟩
 ·exact⟨z9,rfl,_,rfl⟩
 ·exact⟨z10,rfl⟩
 ·exact⟨z11,rfl⟩
 ·exact⟨z12,rfl⟩
 ·exact⟨z13,rfl⟩
 ·exact⟨z14,rfl⟩
 ·exact⟨z15,by decide +kernel,by simp,by simp⟩
theorem Bx:∀x fr,oth.lookup x≠some (.fn fr):=by
 intro x fr h;obtain⟨y,h1,rfl,h2⟩:=kD h;simp only[oth,aD,bV,or_false]at h1;rcases h1 with rfl|rfl|rfl|rfl|rfl|rfl|rfl|rfl|rfl|rfl|rfl|rfl|rfl|rfl|rfl|rfl|rfl|rfl|rfl|rfl|rfl|rfl|rfl|rfl|rfl|rfl|rfl|rfl|rfl|rfl|rfl|rfl<;>cases h2
theorem AU:∀x,(oth.lookup x=some .exc\/oth.lookup x=some .exk)->([ag "PlaceError",ag "NoWeb",ag "NoPlaces",ag "NoPlace",ag "NoNumber",ag "NotAll",ag "NotUntied",ag "NoShares",ag "NotTree",ag "NotTold",ag "NoCrowds",ag "NoText",ag "NoLine",ag "NoDeed",ag "TooGreat"]:List Str).contains x=true:=by
 intro x h;rcases h with h|h<;>obtain⟨y,h1,rfl,h2⟩:=kD h<;>simp only[oth,aD,bV,or_false]at h1<;>rcases h1 with rfl|rfl|rfl|rfl|rfl|rfl|rfl|rfl|rfl|rfl|rfl|rfl|rfl|rfl|rfl|rfl|rfl|rfl|rfl|rfl|rfl|rfl|rfl|rfl|rfl|rfl|rfl|rfl|rfl|rfl|rfl|rfl<;>first|(cases h2;done)|decide +kernel
theorem z_{K:aq}{C0:Addr}(k0:ao K ak "PlaceError" = some (some (.ref C0))){C1:Addr}(k1:ao K ak "NoWeb" = some (some (.ref C1))){C2:Addr}(k2:ao K ak "NoPlaces" = some (some (.ref C2))){C3:Addr}(k3:ao K ak "NoPlace" = some (some (.ref C3))){C4:Addr}(k4:ao K ak "NoNumber" = some (some (.ref C4))){C5:Addr}(k5:ao K ak "NotAll" = some (some (.ref C5))){C6:Addr}(k6:ao K ak "NotUntied" = some (some (.ref C6))){C7:Addr}(k7:ao K ak "NoShares" = some (some (.ref C7))){C8:Addr}(k8:ao K ak "NotTree" = some (some (.ref C8))){C9:Addr}(k9:ao K ak "NotTold" = some (some (.ref C9))){C10:Addr}(k10:ao K ak "NoCrowds" = some (some (.ref C10))){C11:Addr}(k11:ao K ak "NoText" = some (some (.ref C11))){C12:Addr}(k12:ao K ak "NoLine" = some (some (.ref C12))){C13:Addr}(k13:ao K ak "NoDeed" = some (some (.ref C13))){C14:Addr}(k14:ao K ak "TooGreat" = some (some (.ref C14)))(w0:bE K (.ref C1) (.ref C0)=some true)(w1:bE K (.ref C3) (.ref C0)=some true)(w2:bE K (.ref C8) (.ref C0)=some true):∀y∈cV,∃C D,ao K ak y.1=some (some (.ref C))/\ao K ak y.2=some (some (.ref D))/\bE K (.ref C) (.ref D)=some true:=by
 intro y h1;simp only[cV,aD,bV,or_false]at h1;rcases h1 with rfl|rfl|rfl
 ·exact⟨_,_,k1,k0,w0⟩
 ·exact⟨_,_,k3,k0,w1⟩
 ·exact⟨_,_,k8,k0,w2⟩
theorem Av{K:aq}{C0:Addr}(k0:ao K ak "PlaceError" = some (some (.ref C0))){C1:Addr}(k1:ao K ak "NoWeb" = some (some (.ref C1))){C2:Addr}(k2:ao K ak "NoPlaces" = some (some (.ref C2))){C3:Addr}(k3:ao K ak "NoPlace" = some (some (.ref C3))){C4:Addr}(k4:ao K ak "NoNumber" = some (some (.ref C4))){C5:Addr}(k5:ao K ak "NotAll" = some (some (.ref C5))){C6:Addr}(k6:ao K ak "NotUntied" = some (some (.ref C6))){C7:Addr}(k7:ao K ak "NoShares" = some (some (.ref C7))){C8:Addr}(k8:ao K ak "NotTree" = some (some (.ref C8))){C9:Addr}(k9:ao K ak "NotTold" = some (some (.ref C9))){C10:Addr}(k10:ao K ak "NoCrowds" = some (some (.ref C10))){C11:Addr}(k11:ao K ak "NoText" = some (some (.ref C11))){C12:Addr}(k12:ao K ak "NoLine" = some (some (.ref C12))){C13:Addr}(k13:ao K ak "NoDeed" = some (some (.ref C13))){C14:Addr}(k14:ao K ak "TooGreat" = some (some (.ref C14)))(y0:cL K C1)(v0:av K (.ref C1) (.type "ValueError")=some true)(y1:cL K C3)(v1:av K (.ref C3) (.type "ValueError")=some true)(y2:cL K C8)(v2:av K (.ref C8) (.type "ValueError")=some true)(t0:WB.Dk K "NoWeb" C1)(t1:WB.Dk K "NoPlaces" C2)(t2:WB.Dk K "NoPlace" C3)(t3:WB.Dk K "NoNumber" C4)(t4:WB.Dk K "NotUntied" C6)(t5:WB.Dk K "NoShares" C7)(t6:WB.Dk K "NotTree" C8)(t7:WB.Dk K "NotTold" C9)(t8:WB.Dk K "NoCrowds" C10)(t9:WB.Dk K "NoText" C11)(t10:WB.Dk K "NoLine" C12)(t11:WB.Dk K "NoDeed" C13)(t12:WB.Dk K "NotAll" C5)(t13:WB.Dk K "TooGreat" C14)(q0_1:av K (.ref C1) (.ref C2)=some false)(n0_1:C1≠C2)(q0_2:av K (.ref C1) (.ref C3)=some false)(n0_2:C1≠C3)(q0_3:av K (.ref C1) (.ref C4)=some false)(n0_3:C1≠C4)(q0_4:av K (.ref C1) (.ref C6)=some false)(n0_4:C1≠C6)(q0_5:av K (.ref C1) (.ref C7)=some false)(n0_5:C1≠C7)(q0_6:av K (.ref C1) (.ref C8)=some false)(n0_6:C1≠C8)(q0_7:av K (.ref C1) (.ref C9)=some false)(n0_7:C1≠C9)(q0_8:av K (.ref C1) (.ref C10)=some false)(n0_8:C1≠C10)(q0_9:av K (.ref C1) (.ref C11)=some false)(n0_9:C1≠C11)(q0_10:av K (.ref C1) (.ref C12)=some false)(n0_10:C1≠C12)(q0_11:av K (.ref C1) (.ref C13)=some false)(n0_11:C1≠C13)(q0_12:av K (.ref C1) (.ref C5)=some false)(n0_12:C1≠C5)(q0_13:av K (.ref C1) (.ref C14)=some false)(n0_13:C1≠C14)(q1_0:av K (.ref C3) (.ref C1)=some false)(n1_0:C3≠C1)(q1_1:av K (.ref C3) (.ref C2)=some false)(n1_1:C3≠C2)(q1_3:av K (.ref C3) (.ref C4)=some false)(n1_3:C3≠C4)(q1_4:av K (.ref C3) (.ref C6)=some false)(n1_4:C3≠C6)(q1_5:av K (.ref C3) (.ref C7)=some false)(n1_5:C3≠C7)(q1_6:av K (.ref C3) (.ref C8)=some false)(n1_6:C3≠C8)(q1_7:av K (.ref C3) (.ref C9)=some false)(n1_7:C3≠C9)(q1_8:av K (.ref C3) (.ref C10)=some false)(n1_8:C3≠C10)(q1_9:av K (.ref C3) (.ref C11)=some false)(n1_9:C3≠C11)(q1_10:av K (.ref C3) (.ref C12)=some false)(n1_10:C3≠C12)(q1_11:av K (.ref C3) (.ref C13)=some false)(n1_11:C3≠C13)(q1_12:av K (.ref C3) (.ref C5)=some false)(n1_12:C3≠C5)(q1_13:av K (.ref C3) (.ref C14)=some false)(n1_13:C3≠C14)(q2_0:av K (.ref C8) (.ref C1)=some false)(n2_0:C8≠C1)(q2_1:av K (.ref C8) (.ref C2)=some false)(n2_1:C8≠C2)(q2_2:av K (.ref C8) (.ref C3)=some false)(n2_2:C8≠C3)(q2_3:av K (.ref C8) (.ref C4)=some false)(n2_3:C8≠C4)(q2_4:av K (.ref C8) (.ref C6)=some false)(n2_4:C8≠C6)(q2_5:av K (.ref C8) (.ref C7)=some false)(n2_5:C8≠C7)(q2_7:av K (.ref C8) (.ref C9)=some false)(n2_7:C8≠C9)(q2_8:av K (.ref C8) (.ref C10)=some false)(n2_8:C8≠C10)(q2_9:av K (.ref C8) (.ref C11)=some false)(n2_9:C8≠C11)(q2_10:av K (.ref C8) (.ref C12)=some false)(n2_10:C8≠C12)(q2_11:av K (.ref C8) (.ref C13)=some false)(n2_11:C8≠C13)(q2_12:av K (.ref C8) (.ref C5)=some false)(n2_12:C8≠C5)(q2_13:av K (.ref C8) (.ref C14)=some false)(n2_13:C8≠C14):∀y∈subs,sj K [ag "PlaceError",ag "NoWeb",ag "NoPlaces",ag "NoPlace",ag "NoNumber",ag "NotAll",ag "NotUntied",ag "NoShares",ag "NotTree",ag "NotTold",ag "NoCrowds",ag "NoText",ag "NoLine",ag "NoDeed",ag "TooGreat"] y:=by
 intro y h1;simp only[subs,aD,bV,or_false]at h1;rcases h1 with rfl|rfl|rfl|rfl|rfl|rfl|rfl|rfl|rfl|rfl|rfl|rfl|rfl|rfl|rfl|rfl|rfl|rfl|rfl|rfl|rfl|rfl|rfl|rfl|rfl|rfl|rfl|rfl|rfl|rfl|rfl|rfl|rfl|rfl|rfl|rfl|rfl|rfl|rfl|rfl|rfl|rfl|rfl|rfl|rfl
 ·exact⟨_,_,by decide +kernel,k1,y0,WB.kL v0,rfl,rfl⟩
 ·exact⟨_,_,by decide +kernel,k1,y0,WB.mi,_,by decide +kernel,k1,rfl⟩
 ·exact⟨_,_,by decide +kernel,k1,y0,t1.kit q0_1 n0_1,_,by decide +kernel,k2,rfl⟩
 ·exact⟨_,_,by decide +kernel,k1,y0,t2.kit q0_2 n0_2,_,by decide +kernel,k3,rfl⟩
 ·exact⟨_,_,by decide +kernel,k1,y0,t3.kit q0_3 n0_3,_,by decide +kernel,k4,rfl⟩
 ·exact⟨_,_,by decide +kernel,k1,y0,t4.kit q0_4 n0_4,_,by decide +kernel,k6,rfl⟩
 ·exact⟨_,_,by decide +kernel,k1,y0,t5.kit q0_5 n0_5,_,by decide +kernel,k7,rfl⟩
 ·exact⟨_,_,by decide +kernel,k1,y0,t6.kit q0_6 n0_6,_,by decide +kernel,k8,rfl⟩
 ·exact⟨_,_,by decide +kernel,k1,y0,t7.kit q0_7 n0_7,_,by decide +kernel,k9,rfl⟩
 ·exact⟨_,_,by decide +kernel,k1,y0,t8.kit q0_8 n0_8,_,by decide +kernel,k10,rfl⟩
 ·exact⟨_,_,by decide +kernel,k1,y0,t9.kit q0_9 n0_9,_,by decide +kernel,k11,rfl⟩
 ·exact⟨_,_,by decide +kernel,k1,y0,t10.kit q0_10 n0_10,_,by decide +kernel,k12,rfl⟩
 ·exact⟨_,_,by decide +kernel,k1,y0,t11.kit q0_11 n0_11,_,by decide +kernel,k13,rfl⟩
 ·exact⟨_,_,by decide +kernel,k1,y0,t12.kit q0_12 n0_12,_,by decide +kernel,k5,rfl⟩
 ·exact⟨_,_,by decide +kernel,k1,y0,t13.kit q0_13 n0_13,_,by decide +kernel,k14,rfl⟩
 ·exact⟨_,_,by decide +kernel,k3,y1,WB.kL v1,rfl,rfl⟩
 ·exact⟨_,_,by decide +kernel,k3,y1,t0.kit q1_0 n1_0,_,by decide +kernel,k1,rfl⟩
 ·exact⟨_,_,by decide +kernel,k3,y1,t1.kit q1_1 n1_1,_,by decide +kernel,k2,rfl⟩
 ·exact⟨_,_,by decide +kernel,k3,y1,WB.mi,_,by decide +kernel,k3,rfl⟩
 ·exact⟨_,_,by decide +kernel,k3,y1,t3.kit q1_3 n1_3,_,by decide +kernel,k4,rfl⟩
 ·exact⟨_,_,by decide +kernel,k3,y1,t4.kit q1_4 n1_4,_,by decide +kernel,k6,rfl⟩
 ·exact⟨_,_,by decide +kernel,k3,y1,t5.kit q1_5 n1_5,_,by decide +kernel,k7,rfl⟩
 ·exact⟨_,_,by decide +kernel,k3,y1,t6.kit q1_6 n1_6,_,by decide +kernel,k8,rfl⟩
 ·exact⟨_,_,by decide +kernel,k3,y1,t7.kit q1_7 n1_7,_,by decide +kernel,k9,rfl⟩
 ·exact⟨_,_,by decide +kernel,k3,y1,t8.kit q1_8 n1_8,_,by decide +kernel,k10,rfl⟩
 ·exact⟨_,_,by decide +kernel,k3,y1,t9.kit q1_9 n1_9,_,by decide +kernel,k11,rfl⟩
 ·exact⟨_,_,by decide +kernel,k3,y1,t10.kit q1_10 n1_10,_,by decide +kernel,k12,rfl⟩
 ·exact⟨_,_,by decide +kernel,k3,y1,t11.kit q1_11 n1_11,_,by decide +kernel,k13,rfl⟩
 ·exact⟨_,_,by decide +kernel,k3,y1,t12.kit q1_12 n1_12,_,by decide +kernel,k5,rfl⟩
 ·exact⟨_,_,by decide +kernel,k3,y1,t13.kit q1_13 n1_13,_,by decide +kernel,k14,rfl⟩
 ·exact⟨_,_,by decide +kernel,k8,y2,WB.kL v2,rfl,rfl⟩
 ·exact⟨_,_,by decide +kernel,k8,y2,t0.kit q2_0 n2_0,_,by decide +kernel,k1,rfl⟩
 ·exact⟨_,_,by decide +kernel,k8,y2,t1.kit q2_1 n2_1,_,by decide +kernel,k2,rfl⟩
 ·exact⟨_,_,by decide +kernel,k8,y2,t2.kit q2_2 n2_2,_,by decide +kernel,k3,rfl⟩
 ·exact⟨_,_,by decide +kernel,k8,y2,t3.kit q2_3 n2_3,_,by decide +kernel,k4,rfl⟩
 ·exact⟨_,_,by decide +kernel,k8,y2,t4.kit q2_4 n2_4,_,by decide +kernel,k6,rfl⟩
 ·exact⟨_,_,by decide +kernel,k8,y2,t5.kit q2_5 n2_5,_,by decide +kernel,k7,rfl⟩
 ·exact⟨_,_,by decide +kernel,k8,y2,WB.mi,_,by decide +kernel,k8,rfl⟩
 ·exact⟨_,_,by decide +kernel,k8,y2,t7.kit q2_7 n2_7,_,by decide +kernel,k9,rfl⟩
 ·exact⟨_,_,by decide +kernel,k8,y2,t8.kit q2_8 n2_8,_,by decide +kernel,k10,rfl⟩
 ·exact⟨_,_,by decide +kernel,k8,y2,t9.kit q2_9 n2_9,_,by decide +kernel,k11,rfl⟩
 ·exact⟨_,_,by decide +kernel,k8,y2,t10.kit q2_10 n2_10,_,by decide +kernel,k12,rfl⟩
 ·exact⟨_,_,by decide +kernel,k8,y2,t11.kit q2_11 n2_11,_,by decide +kernel,k13,rfl⟩
 ·exact⟨_,_,by decide +kernel,k8,y2,t12.kit q2_12 n2_12,_,by decide +kernel,k5,rfl⟩
 ·exact⟨_,_,by decide +kernel,k8,y2,t13.kit q2_13 n2_13,_,by decide +kernel,k14,rfl⟩
include d0 d1 d2 d3 d4 d5 d6 d7 d8 d9 d10 d11 d12 d13 d14 d15 d16 d17 d18 d19 d20 d21 d22 d23 d24 d25 d26 d27 d28 d29 d30
theorem all_mk(X:K.In h)(N:h.Ns ak mg){C0:Addr}(k0:ao K ak "PlaceError" = some (some (.ref C0))){C1:Addr}(k1:ao K ak "NoWeb" = some (some (.ref C1)))(x1:PySem.W.excIn K C1 fG "ValueError.__new__" = true){C2:Addr}(k2:ao K ak "NoPlaces" = some (some (.ref C2))){C3:Addr}(k3:ao K ak "NoPlace" = some (some (.ref C3)))(x3:PySem.W.excIn K C3 fG "ValueError.__new__" = true){C4:Addr}(k4:ao K ak "NoNumber" = some (some (.ref C4))){C5:Addr}(k5:ao K ak "NotAll" = some (some (.ref C5))){C6:Addr}(k6:ao K ak "NotUntied" = some (some (.ref C6))){C7:Addr}(k7:ao K ak "NoShares" = some (some (.ref C7))){C8:Addr}(k8:ao K ak "NotTree" = some (some (.ref C8)))(x8:PySem.W.excIn K C8 fG "ValueError.__new__" = true){C9:Addr}(k9:ao K ak "NotTold" = some (some (.ref C9))){C10:Addr}(k10:ao K ak "NoCrowds" = some (some (.ref C10))){C11:Addr}(k11:ao K ak "NoText" = some (some (.ref C11))){C12:Addr}(k12:ao K ak "NoLine" = some (some (.ref C12))){C13:Addr}(k13:ao K ak "NoDeed" = some (some (.ref C13))){C14:Addr}(k14:ao K ak "TooGreat" = some (some (.ref C14))){tk0:Tok}(u0:ao K ak "MOST" = some (some (.int 8 tk0)))(z0:ao K ak "len" = some none)(z1:ao K ak "tuple" = some none)(z2:ao K ak "list" = some none)(z3:ao K ak "int" = some none)(z4:ao K ak "bool" = some none)(z5:ao K ak "str" = some none)(z6:ao K ak "sorted" = some none)(z7:ao K ak "all" = some none)(z8:ao K ak "min" = some none)(z9:ao K ak "max" = some none)(z10:ao K ak "range" = some none)(z11:ao K ak "reversed" = some none)(z12:ao K ak "enumerate" = some none)(z13:ao K ak "zip" = some none)(z14:ao K ak "isinstance" = some none)(z15:ao K ak "ValueError" = some none)(w0:bE K (.ref C1) (.ref C0)=some true)(w1:bE K (.ref C3) (.ref C0)=some true)(w2:bE K (.ref C8) (.ref C0)=some true)(y0:cL K C1)(v0:av K (.ref C1) (.type "ValueError")=some true)(y1:cL K C3)(v1:av K (.ref C3) (.type "ValueError")=some true)(y2:cL K C8)(v2:av K (.ref C8) (.type "ValueError")=some true)(t0:WB.Dk K "NoWeb" C1)(t1:WB.Dk K "NoPlaces" C2)(t2:WB.Dk K "NoPlace" C3)(t3:WB.Dk K "NoNumber" C4)(t4:WB.Dk K "NotUntied" C6)(t5:WB.Dk K "NoShares" C7)(t6:WB.Dk K "NotTree" C8)(t7:WB.Dk K "NotTold" C9)(t8:WB.Dk K "NoCrowds" C10)(t9:WB.Dk K "NoText" C11)(t10:WB.Dk K "NoLine" C12)(t11:WB.Dk K "NoDeed" C13)(t12:WB.Dk K "NotAll" C5)(t13:WB.Dk K "TooGreat" C14)(q0_1:av K (.ref C1) (.ref C2)=some false)(n0_1:C1≠C2)(q0_2:av K (.ref C1) (.ref C3)=some false)(n0_2:C1≠C3)(q0_3:av K (.ref C1) (.ref C4)=some false)(n0_3:C1≠C4)(q0_4:av K (.ref C1) (.ref C6)=some false)(n0_4:C1≠C6)(q0_5:av K (.ref C1) (.ref C7)=some false)(n0_5:C1≠C7)(q0_6:av K (.ref C1) (.ref C8)=some false)(n0_6:C1≠C8)(q0_7:av K (.ref C1) (.ref C9)=some false)(n0_7:C1≠C9)(q0_8:av K (.ref C1) (.ref C10)=some false)(n0_8:C1≠C10)(q0_9:av K (.ref C1) (.ref C11)=some false)(n0_9:C1≠C11)(q0_10:av K (.ref C1) (.ref C12)=some false)(n0_10:C1≠C12)(q0_11:av K (.ref C1) (.ref C13)=some false)(n0_11:C1≠C13)(q0_12:av K (.ref C1) (.ref C5)=some false)(n0_12:C1≠C5)(q0_13:av K (.ref C1) (.ref C14)=some false)(n0_13:C1≠C14)(q1_0:av K (.ref C3) (.ref C1)=some false)(n1_0:C3≠C1)(q1_1:av K (.ref C3) (.ref C2)=some false)(n1_1:C3≠C2)(q1_3:av K (.ref C3) (.ref C4)=some false)(n1_3:C3≠C4)(q1_4:av K (.ref C3) (.ref C6)=some false)(n1_4:C3≠C6)(q1_5:av K (.ref C3) (.ref C7)=some false)(n1_5:C3≠C7)(q1_6:av K (.ref C3) (.ref C8)=some false)(n1_6:C3≠C8)(q1_7:av K (.ref C3) (.ref C9)=some false)(n1_7:C3≠C9)(q1_8:av K (.ref C3) (.ref C10)=some false)(n1_8:C3≠C10)(q1_9:av K (.ref C3) (.ref C11)=some false)(n1_9:C3≠C11)(q1_10:av K (.ref C3) (.ref C12)=some false)(n1_10:C3≠C12)(q1_11:av K (.ref C3) (.ref C13)=some false)(n1_11:C3≠C13)(q1_12:av K (.ref C3) (.ref C5)=some false)(n1_12:C3≠C5)(q1_13:av K (.ref C3) (.ref C14)=some false)(n1_13:C3≠C14)(q2_0:av K (.ref C8) (.ref C1)=some false)(n2_0:C8≠C1)(q2_1:av K (.ref C8) (.ref C2)=some false)(n2_1:C8≠C2)(q2_2:av K (.ref C8) (.ref C3)=some false)(n2_2:C8≠C3)(q2_3:av K (.ref C8) (.ref C4)=some false)(n2_3:C8≠C4)(q2_4:av K (.ref C8) (.ref C6)=some false)(n2_4:C8≠C6)(q2_5:av K (.ref C8) (.ref C7)=some false)(n2_5:C8≠C7)(q2_7:av K (.ref C8) (.ref C9)=some false)(n2_7:C8≠C9)(q2_8:av K (.ref C8) (.ref C10)=some false)(n2_8:C8≠C10)(q2_9:av K (.ref C8) (.ref C11)=some false)(n2_9:C8≠C11)(q2_10:av K (.ref C8) (.ref C12)=some false)(n2_10:C8≠C12)(q2_11:av K (.ref C8) (.ref C13)=some false)(n2_11:C8≠C13)(q2_12:av K (.ref C8) (.ref C5)=some false)(n2_12:C8≠C5)(q2_13:av K (.ref C8) (.ref C14)=some false)(n2_13:C8≠C14):Ground p (gOf K (tab.map (·.x)) [ag "PlaceError",ag "NoWeb",ag "NoPlaces",ag "NoPlace",ag "NoNumber",ag "NotAll",ag "NotUntied",ag "NoShares",ag "NotTree",ag "NotTold",ag "NoCrowds",ag "NoText",ag "NoLine",ag "NoDeed",ag "TooGreat"]) G (fM us oth) (eU oth) mg/\iP K G g_:=
 have A:=D3 d0 d1 d2 d3 d4 d5 d6 d7 d8 d9 d10 d11 d12 d13 d14 d15 d16 d17 d18 d19 d20 d21 d22 d23 d24 d25 d26 d27 d28 d29 d30
 ⟨sZ X N rfl nd (ub k0 k1 x1 k2 k3 x3 k4 k5 k6 k7 k8 x8 k9 k10 k11 k12 k13 k14 u0 z0 z1 z2 z3 z4 z5 z6 z7 z8 z9 z10 z11 z12 z13 z14 z15) Bx tP Ax rC A _ (z_ k0 k1 k2 k3 k4 k5 k6 k7 k8 k9 k10 k11 k12 k13 k14 w0 w1 w2) AU (Av k0 k1 k2 k3 k4 k5 k6 k7 k8 k9 k10 k11 k12 k13 k14 y0 v0 y1 v1 y2 v2 t0 t1 t2 t3 t4 t5 t6 t7 t8 t9 t10 t11 t12 t13 q0_1 n0_1 q0_2 n0_2 q0_3 n0_3 q0_4 n0_4 q0_5 n0_5 q0_6 n0_6 q0_7 n0_7 q0_8 n0_8 q0_9 n0_9 q0_10 n0_10 q0_11 n0_11 q0_12 n0_12 q0_13 n0_13 q1_0 n1_0 q1_1 n1_1 q1_3 n1_3 q1_4 n1_4 q1_5 n1_5 q1_6 n1_6 q1_7 n1_7 q1_8 n1_8 q1_9 n1_9 q1_10 n1_10 q1_11 n1_11 q1_12 n1_12 q1_13 n1_13 q2_0 n2_0 q2_1 n2_1 q2_2 n2_2 q2_3 n2_3 q2_4 n2_4 q2_5 n2_5 q2_7 n2_7 q2_8 n2_8 q2_9 n2_9 q2_10 n2_10 q2_11 n2_11 q2_12 n2_12 q2_13 n2_13),A g_ (by simp[tab])⟩
end
theorem walk{l:PySem.W.OpenLaw}{q:aw}{loose:List Str}{XP:(Str->Option ae)->Heap->Prop}{YP:au->Heap->Prop}{d:DefRec}{K:Params->aq}(hn:l.most=some 63)(hdf:d.params.defaults=[])(hd:d.name = "law")(hY:∀(w:au) (h:Heap),YP w h->(K w.params).In h)
  (hG:∀(w:au) (mg:Str->Option ae) (h:Heap),(K w.params).In h->h.Ns ak mg->Ground p (gOf (K w.params) (tab.map (·.x)) [ag "PlaceError",ag "NoWeb",ag "NoPlaces",ag "NoPlace",ag "NoNumber",ag "NotAll",ag "NotUntied",ag "NoShares",ag "NotTree",ag "NotTold",ag "NoCrowds",ag "NoText",ag "NoLine",ag "NoDeed",ag "TooGreat"]) G (fM us oth) (eU oth) mg/\iP (K w.params) G g_):PySem.W.WalkO q loose XP YP l.row.toRowW d [] (λf vs=>PySem.call f vs):=
 By (e:=g_) (k:=depth) hn hdf hd ⟨rfl,by decide,by decide⟩ hY (by simp[tab]) nd rfl rfl (by kernel_rfl) hG (rC g_ (by simp[tab])) xY
end K40
end
open PySem PySem.W PyProof.Rows
namespace PySem.W.Fast
def tw8045933215607517888:Nat:=0
theorem te8045933215607517888:tw8045933215607517888=0:=rfl
def tw15436765118707784963:Nat:=0
theorem te15436765118707784963:tw15436765118707784963=0:=rfl
def tw14141694837181841428:Nat:=0
theorem te14141694837181841428:tw14141694837181841428=0:=rfl
def tw8541059334112139677:Nat:=0
theorem te8541059334112139677:tw8541059334112139677=0:=rfl
def tw15525464415225199681:Nat:=0
theorem te15525464415225199681:tw15525464415225199681=0:=rfl
def tw1344229567595296466:Nat:=0
theorem te1344229567595296466:tw1344229567595296466=0:=rfl
def tw1511679006703864661:Nat:=0
theorem te1511679006703864661:tw1511679006703864661=0:=rfl
def tw12332747150221145739:Nat:=0
theorem te12332747150221145739:tw12332747150221145739=0:=rfl
def tw6282603360084737968:Nat:=0
theorem te6282603360084737968:tw6282603360084737968=0:=rfl
def tw5429006860624275389:Nat:=0
theorem te5429006860624275389:tw5429006860624275389=0:=rfl
def tw6428584831736554795:Nat:=0
theorem te6428584831736554795:tw6428584831736554795=0:=rfl
def tw10971979596435486194:Nat:=0
theorem te10971979596435486194:tw10971979596435486194=0:=rfl
def tw1579944028922375890:Nat:=0
theorem te1579944028922375890:tw1579944028922375890=0:=rfl
def tw12712191721125214302:Nat:=0
theorem te12712191721125214302:tw12712191721125214302=0:=rfl
def tw3215851736446566140:Nat:=0
theorem te3215851736446566140:tw3215851736446566140=0:=rfl
def tw12686685181544593315:Nat:=0
theorem te12686685181544593315:tw12686685181544593315=0:=rfl
def tw16875541748692174545:Nat:=0
theorem te16875541748692174545:tw16875541748692174545=0:=rfl
def tw16883453465312121034:Nat:=0
theorem te16883453465312121034:tw16883453465312121034=0:=rfl
def tw4376177995008114854:Nat:=0
theorem te4376177995008114854:tw4376177995008114854=0:=rfl
def tw10842966997766465038:Nat:=0
theorem te10842966997766465038:tw10842966997766465038=0:=rfl
def tw7617798515172901785:Nat:=0
theorem te7617798515172901785:tw7617798515172901785=0:=rfl
def tw558001217790351909:Nat:=0
theorem te558001217790351909:tw558001217790351909=0:=rfl
def tw947285248134428783:Nat:=0
theorem te947285248134428783:tw947285248134428783=0:=rfl
def tw12854592224011852910:Nat:=0
theorem te12854592224011852910:tw12854592224011852910=0:=rfl
def tw3824951316253422958:Nat:=0
theorem te3824951316253422958:tw3824951316253422958=0:=rfl
def tw3984823505008506235:Nat:=0
theorem te3984823505008506235:tw3984823505008506235=0:=rfl
def tw14197191961766723164:Nat:=0
theorem te14197191961766723164:tw14197191961766723164=0:=rfl
def tw15617812107796185796:Nat:=0
theorem te15617812107796185796:tw15617812107796185796=0:=rfl
def tw3393361769233946004:Nat:=0
theorem te3393361769233946004:tw3393361769233946004=0:=rfl
def tw15039534314522906326:Nat:=0
theorem te15039534314522906326:tw15039534314522906326=0:=rfl
def tw11884986751720821857:Nat:=0
theorem te11884986751720821857:tw11884986751720821857=0:=rfl
def tw108041219862254281:Nat:=0
theorem te108041219862254281:tw108041219862254281=0:=rfl
def tw1714035562042923479:Nat:=0
theorem te1714035562042923479:tw1714035562042923479=0:=rfl
def tw11108434544976581077:Nat:=0
theorem te11108434544976581077:tw11108434544976581077=0:=rfl
def tw5042945578309559525:Nat:=0
theorem te5042945578309559525:tw5042945578309559525=0:=rfl
def tw13874467656698666611:Nat:=0
theorem te13874467656698666611:tw13874467656698666611=0:=rfl
def tw3117656375053313956:Nat:=0
theorem te3117656375053313956:tw3117656375053313956=0:=rfl
def tw9588241528342492146:Nat:=0
theorem te9588241528342492146:tw9588241528342492146=0:=rfl
def tw5068133248027657975:Nat:=0
theorem te5068133248027657975:tw5068133248027657975=0:=rfl
def tw2137086413429850971:Nat:=0
theorem te2137086413429850971:tw2137086413429850971=0:=rfl
def tw13907103368356659217:Nat:=0
theorem te13907103368356659217:tw13907103368356659217=0:=rfl
def tw13729427942312444843:Nat:=0
theorem te13729427942312444843:tw13729427942312444843=0:=rfl
def tw10751106912269617998:Nat:=0
theorem te10751106912269617998:tw10751106912269617998=0:=rfl
def tw1329814077005541323:Nat:=0
theorem te1329814077005541323:tw1329814077005541323=0:=rfl
def tw17714292715306055030:Nat:=0
theorem te17714292715306055030:tw17714292715306055030=0:=rfl
def tw4427099337914412638:Nat:=0
theorem te4427099337914412638:tw4427099337914412638=0:=rfl
def tw13320061486926354200:Nat:=0
theorem te13320061486926354200:tw13320061486926354200=0:=rfl
def tw5391084939171123748:Nat:=0
theorem te5391084939171123748:tw5391084939171123748=0:=rfl
def tw15227850066047010985:Nat:=0
theorem te15227850066047010985:tw15227850066047010985=0:=rfl
def tw3582793990100906226:Nat:=0
theorem te3582793990100906226:tw3582793990100906226=0:=rfl
def tw18139957494994811102:Nat:=0
theorem te18139957494994811102:tw18139957494994811102=0:=rfl
def tw4348631779734063393:Nat:=0
theorem te4348631779734063393:tw4348631779734063393=0:=rfl
def tw15331643476638934640:Nat:=0
theorem te15331643476638934640:tw15331643476638934640=0:=rfl
def tw571547587447591386:Nat:=0
theorem te571547587447591386:tw571547587447591386=0:=rfl
def tw9606893877195324855:Nat:=0
theorem te9606893877195324855:tw9606893877195324855=0:=rfl
def tw15681318281604749162:Nat:=0
theorem te15681318281604749162:tw15681318281604749162=0:=rfl
def tw13645668893225214610:Nat:=0
theorem te13645668893225214610:tw13645668893225214610=0:=rfl
def tw12287140334073296257:Nat:=0
theorem te12287140334073296257:tw12287140334073296257=0:=rfl
def tw9376305786864429771:Nat:=0
theorem te9376305786864429771:tw9376305786864429771=0:=rfl
def tw11482368989585277613:Nat:=0
theorem te11482368989585277613:tw11482368989585277613=0:=rfl
def tw18026766222878355655:Nat:=0
theorem te18026766222878355655:tw18026766222878355655=0:=rfl
def tw12515276538335111447:Nat:=0
theorem te12515276538335111447:tw12515276538335111447=0:=rfl
def tw11477493483921069870:Nat:=0
theorem te11477493483921069870:tw11477493483921069870=0:=rfl
def tw7022010109561210504:Nat:=0
theorem te7022010109561210504:tw7022010109561210504=0:=rfl
def tw3056662774795793523:Nat:=0
theorem te3056662774795793523:tw3056662774795793523=0:=rfl
def tw13071749332624178538:Nat:=0
theorem te13071749332624178538:tw13071749332624178538=0:=rfl
def tw16732613611003273811:Nat:=0
theorem te16732613611003273811:tw16732613611003273811=0:=rfl
def tw13199062727074350869:Nat:=0
theorem te13199062727074350869:tw13199062727074350869=0:=rfl
def tw17038771992785658352:Nat:=0
theorem te17038771992785658352:tw17038771992785658352=0:=rfl
def tw9715743728639086363:Nat:=0
theorem te9715743728639086363:tw9715743728639086363=0:=rfl
def tw3105090565251162906:Nat:=0
theorem te3105090565251162906:tw3105090565251162906=0:=rfl
def tw5666605004242635619:Nat:=0
theorem te5666605004242635619:tw5666605004242635619=0:=rfl
def tw12513405035720965852:Nat:=0
theorem te12513405035720965852:tw12513405035720965852=0:=rfl
def tw14373653098306371151:Nat:=0
theorem te14373653098306371151:tw14373653098306371151=0:=rfl
def tw16913961253768778776:Nat:=0
theorem te16913961253768778776:tw16913961253768778776=0:=rfl
def tw568797665137652966:Nat:=0
theorem te568797665137652966:tw568797665137652966=0:=rfl
def tw2062852946628800026:Nat:=0
theorem te2062852946628800026:tw2062852946628800026=0:=rfl
def tw9530828783715402006:Nat:=0
theorem te9530828783715402006:tw9530828783715402006=0:=rfl
def tw7564274949255660138:Nat:=0
theorem te7564274949255660138:tw7564274949255660138=0:=rfl
def tw4350018067608581738:Nat:=0
theorem te4350018067608581738:tw4350018067608581738=0:=rfl
def tw12870806256732546235:Nat:=0
theorem te12870806256732546235:tw12870806256732546235=0:=rfl
def tw3706505620772726297:Nat:=0
theorem te3706505620772726297:tw3706505620772726297=0:=rfl
def tw12682603899072748135:Nat:=0
theorem te12682603899072748135:tw12682603899072748135=0:=rfl
def tw16041986883746784187:Nat:=0
theorem te16041986883746784187:tw16041986883746784187=0:=rfl
def tw13475064333089260714:Nat:=0
theorem te13475064333089260714:tw13475064333089260714=0:=rfl
def tw16373764048839435355:Nat:=0
theorem te16373764048839435355:tw16373764048839435355=0:=rfl
def tw6849076077522923612:Nat:=0
theorem te6849076077522923612:tw6849076077522923612=0:=rfl
def tw17807379082542934237:Nat:=0
theorem te17807379082542934237:tw17807379082542934237=0:=rfl
def tw16954210886352838710:Nat:=0
theorem te16954210886352838710:tw16954210886352838710=0:=rfl
def tw5398295100702376109:Nat:=0
theorem te5398295100702376109:tw5398295100702376109=0:=rfl
def tw13239154311191467813:Nat:=0
theorem te13239154311191467813:tw13239154311191467813=0:=rfl
def tw11474449428788173721:Nat:=0
theorem te11474449428788173721:tw11474449428788173721=0:=rfl
def tw11744029048246497026:Nat:=0
theorem te11744029048246497026:tw11744029048246497026=0:=rfl
def tw7051983106718548573:Nat:=0
theorem te7051983106718548573:tw7051983106718548573=0:=rfl
def tw5710547670807809596:Nat:=0
theorem te5710547670807809596:tw5710547670807809596=0:=rfl
def tw6123960996384193616:Nat:=0
theorem te6123960996384193616:tw6123960996384193616=0:=rfl
def tw15329816598682586870:Nat:=0
theorem te15329816598682586870:tw15329816598682586870=0:=rfl
def tw12652570480800666969:Nat:=0
theorem te12652570480800666969:tw12652570480800666969=0:=rfl
def tw1600176624589935885:Nat:=0
theorem te1600176624589935885:tw1600176624589935885=0:=rfl
def tw1687457422794808987:Nat:=0
theorem te1687457422794808987:tw1687457422794808987=0:=rfl
def tw18233555070690591355:Nat:=0
theorem te18233555070690591355:tw18233555070690591355=0:=rfl
def tw4430858746849090446:Nat:=0
theorem te4430858746849090446:tw4430858746849090446=0:=rfl
def tw5467012918462010992:Nat:=0
theorem te5467012918462010992:tw5467012918462010992=0:=rfl
def tw135329544109943557:Nat:=0
theorem te135329544109943557:tw135329544109943557=0:=rfl
def tw1864478749706842729:Nat:=0
theorem te1864478749706842729:tw1864478749706842729=0:=rfl
def tw14488168678447135753:Nat:=0
theorem te14488168678447135753:tw14488168678447135753=0:=rfl
def tw13587098962609787515:Nat:=0
theorem te13587098962609787515:tw13587098962609787515=0:=rfl
def tw7064183015786978933:Nat:=0
theorem te7064183015786978933:tw7064183015786978933=0:=rfl
def tw13001047797376370519:Nat:=0
theorem te13001047797376370519:tw13001047797376370519=0:=rfl
def tw11044899845410753790:Nat:=0
theorem te11044899845410753790:tw11044899845410753790=0:=rfl
def tw8599393150334855250:Nat:=0
theorem te8599393150334855250:tw8599393150334855250=0:=rfl
def tw4354290718017173583:Nat:=0
theorem te4354290718017173583:tw4354290718017173583=0:=rfl
def tw8570661611226533002:Nat:=0
theorem te8570661611226533002:tw8570661611226533002=0:=rfl
def tw763660987573640285:Nat:=0
theorem te763660987573640285:tw763660987573640285=0:=rfl
def tw11203977976267598160:Nat:=0
theorem te11203977976267598160:tw11203977976267598160=0:=rfl
def tw6505344941267668327:Nat:=0
theorem te6505344941267668327:tw6505344941267668327=0:=rfl
def tw10679271023876339544:Nat:=0
theorem te10679271023876339544:tw10679271023876339544=0:=rfl
def tw9518198420864452102:Nat:=0
theorem te9518198420864452102:tw9518198420864452102=0:=rfl
def tw2513446344640042488:Nat:=0
theorem te2513446344640042488:tw2513446344640042488=0:=rfl
def tw1700685743668662651:Nat:=0
theorem te1700685743668662651:tw1700685743668662651=0:=rfl
def tw15891739085880811882:Nat:=0
theorem te15891739085880811882:tw15891739085880811882=0:=rfl
def tw10272712028898348503:Nat:=0
theorem te10272712028898348503:tw10272712028898348503=0:=rfl
def tw3589112735694226092:Nat:=0
theorem te3589112735694226092:tw3589112735694226092=0:=rfl
def tw3767611423143089092:Nat:=0
theorem te3767611423143089092:tw3767611423143089092=0:=rfl
def tw14774599670079776036:Nat:=0
theorem te14774599670079776036:tw14774599670079776036=0:=rfl
def tw18350864901561823349:Nat:=0
theorem te18350864901561823349:tw18350864901561823349=0:=rfl
def tw14437882409991174996:Nat:=0
theorem te14437882409991174996:tw14437882409991174996=0:=rfl
def tw5028087935130047453:Nat:=0
theorem te5028087935130047453:tw5028087935130047453=0:=rfl
def tw9794744104753300549:Nat:=0
theorem te9794744104753300549:tw9794744104753300549=0:=rfl
def tw7271657353402865750:Nat:=0
theorem te7271657353402865750:tw7271657353402865750=0:=rfl
def tw14081275648208215450:Nat:=0
theorem te14081275648208215450:tw14081275648208215450=0:=rfl
def tw3155093886937740155:Nat:=0
theorem te3155093886937740155:tw3155093886937740155=0:=rfl
def tw12615022938507674483:Nat:=0
theorem te12615022938507674483:tw12615022938507674483=0:=rfl
def tw2179391241825303275:Nat:=0
theorem te2179391241825303275:tw2179391241825303275=0:=rfl
def tw194394028244568502:Nat:=0
theorem te194394028244568502:tw194394028244568502=0:=rfl
def tw4532397356737715218:Nat:=0
theorem te4532397356737715218:tw4532397356737715218=0:=rfl
def tw18431463786309843011:Nat:=0
theorem te18431463786309843011:tw18431463786309843011=0:=rfl
def tw5356525153112863447:Nat:=0
theorem te5356525153112863447:tw5356525153112863447=0:=rfl
def tw14614110647250893128:Nat:=0
theorem te14614110647250893128:tw14614110647250893128=0:=rfl
def tw16009395368986199285:Nat:=0
theorem te16009395368986199285:tw16009395368986199285=0:=rfl
def tw4490796256477217164:Nat:=0
theorem te4490796256477217164:tw4490796256477217164=0:=rfl
def tw13789783428896512317:Nat:=0
theorem te13789783428896512317:tw13789783428896512317=0:=rfl
def tw8166306851739551872:Nat:=0
theorem te8166306851739551872:tw8166306851739551872=0:=rfl
def tw4280300518801351511:Nat:=0
theorem te4280300518801351511:tw4280300518801351511=0:=rfl
def tw15458805542873432540:Nat:=0
theorem te15458805542873432540:tw15458805542873432540=0:=rfl
def tw3184840034470799704:Nat:=0
theorem te3184840034470799704:tw3184840034470799704=0:=rfl
def tw7766321113981546274:Nat:=0
theorem te7766321113981546274:tw7766321113981546274=0:=rfl
def tw3412833708458327859:Nat:=0
theorem te3412833708458327859:tw3412833708458327859=0:=rfl
def tw7610435739635365376:Nat:=0
theorem te7610435739635365376:tw7610435739635365376=0:=rfl
def tw11111159635528900634:Nat:=0
theorem te11111159635528900634:tw11111159635528900634=0:=rfl
def tw14677418815006685211:Nat:=0
theorem te14677418815006685211:tw14677418815006685211=0:=rfl
def tw8730119164919366255:Nat:=0
theorem te8730119164919366255:tw8730119164919366255=0:=rfl
def tw100700845092036745:Nat:=0
theorem te100700845092036745:tw100700845092036745=0:=rfl
def tw11497970719771947928:Nat:=0
theorem te11497970719771947928:tw11497970719771947928=0:=rfl
def tw13295828202867843790:Nat:=0
theorem te13295828202867843790:tw13295828202867843790=0:=rfl
def tw2853070488997399046:Nat:=0
theorem te2853070488997399046:tw2853070488997399046=0:=rfl
def tw5347398532090996604:Nat:=0
theorem te5347398532090996604:tw5347398532090996604=0:=rfl
def tw11638100895765765946:Nat:=0
theorem te11638100895765765946:tw11638100895765765946=0:=rfl
def tw8926064977794794025:Nat:=0
theorem te8926064977794794025:tw8926064977794794025=0:=rfl
def tw15727118451122106658:Nat:=0
theorem te15727118451122106658:tw15727118451122106658=0:=rfl
def tw1249713000722500490:Nat:=0
theorem te1249713000722500490:tw1249713000722500490=0:=rfl
def tw2893363917171061191:Nat:=0
theorem te2893363917171061191:tw2893363917171061191=0:=rfl
def tw618141684583927486:Nat:=0
theorem te618141684583927486:tw618141684583927486=0:=rfl
def tw8741415519888985117:Nat:=0
theorem te8741415519888985117:tw8741415519888985117=0:=rfl
def tw6829178022948512145:Nat:=0
theorem te6829178022948512145:tw6829178022948512145=0:=rfl
def tw4131583621676324644:Nat:=0
theorem te4131583621676324644:tw4131583621676324644=0:=rfl
def tw1108586304753897557:Nat:=0
theorem te1108586304753897557:tw1108586304753897557=0:=rfl
def tw15236653497388775019:Nat:=0
theorem te15236653497388775019:tw15236653497388775019=0:=rfl
def tw10233108401810689512:Nat:=0
theorem te10233108401810689512:tw10233108401810689512=0:=rfl
def tw11399500040818433798:Nat:=0
theorem te11399500040818433798:tw11399500040818433798=0:=rfl
def tw14369526212723662699:Nat:=0
theorem te14369526212723662699:tw14369526212723662699=0:=rfl
def tw5985639681761339960:Nat:=0
theorem te5985639681761339960:tw5985639681761339960=0:=rfl
def tw12145253865075927942:Nat:=0
theorem te12145253865075927942:tw12145253865075927942=0:=rfl
def tw1199191374339354008:Nat:=0
theorem te1199191374339354008:tw1199191374339354008=0:=rfl
def tw3988847402460639189:Nat:=0
theorem te3988847402460639189:tw3988847402460639189=0:=rfl
def tw15231293351100152:Nat:=0
theorem te15231293351100152:tw15231293351100152=0:=rfl
def tw1003487538773461065:Nat:=0
theorem te1003487538773461065:tw1003487538773461065=0:=rfl
def tw11506736285050725169:Nat:=0
theorem te11506736285050725169:tw11506736285050725169=0:=rfl
def tw12488670382728403232:Nat:=0
theorem te12488670382728403232:tw12488670382728403232=0:=rfl
def tw14163649528696489912:Nat:=0
theorem te14163649528696489912:tw14163649528696489912=0:=rfl
def tw13372840446935232346:Nat:=0
theorem te13372840446935232346:tw13372840446935232346=0:=rfl
def tw10232432657495792938:Nat:=0
theorem te10232432657495792938:tw10232432657495792938=0:=rfl
def tw5271100452832837174:Nat:=0
theorem te5271100452832837174:tw5271100452832837174=0:=rfl
def tw4609233323625072367:Nat:=0
theorem te4609233323625072367:tw4609233323625072367=0:=rfl
def tw7047754098927181959:Nat:=0
theorem te7047754098927181959:tw7047754098927181959=0:=rfl
def tw4874393787583209020:Nat:=0
theorem te4874393787583209020:tw4874393787583209020=0:=rfl
def tw1010152597186632550:Nat:=0
theorem te1010152597186632550:tw1010152597186632550=0:=rfl
def tw17136072507984147978:Nat:=0
theorem te17136072507984147978:tw17136072507984147978=0:=rfl
def tw16834684419902224986:Nat:=0
theorem te16834684419902224986:tw16834684419902224986=0:=rfl
def tw4179326202382791805:Nat:=0
theorem te4179326202382791805:tw4179326202382791805=0:=rfl
def tw14252666069322600882:Nat:=0
theorem te14252666069322600882:tw14252666069322600882=0:=rfl
def tw7768088031380778078:Nat:=0
theorem te7768088031380778078:tw7768088031380778078=0:=rfl
def tw15334619104081272811:Nat:=0
theorem te15334619104081272811:tw15334619104081272811=0:=rfl
def tw3897017555352933801:Nat:=0
theorem te3897017555352933801:tw3897017555352933801=0:=rfl
def tw5182153032672594340:Nat:=0
theorem te5182153032672594340:tw5182153032672594340=0:=rfl
def tw14628352683000603292:Nat:=0
theorem te14628352683000603292:tw14628352683000603292=0:=rfl
def tw5966323438536274509:Nat:=0
theorem te5966323438536274509:tw5966323438536274509=0:=rfl
def tw18046346839317399511:Nat:=0
theorem te18046346839317399511:tw18046346839317399511=0:=rfl
def tw1066576975152631785:Nat:=0
theorem te1066576975152631785:tw1066576975152631785=0:=rfl
def tw9010118909805409202:Nat:=0
theorem te9010118909805409202:tw9010118909805409202=0:=rfl
def tw10997314530986357858:Nat:=0
theorem te10997314530986357858:tw10997314530986357858=0:=rfl
def tw5368107395857927027:Nat:=0
theorem te5368107395857927027:tw5368107395857927027=0:=rfl
def tw8407377407450574685:Nat:=0
theorem te8407377407450574685:tw8407377407450574685=0:=rfl
def tw10572533412193348075:Nat:=0
theorem te10572533412193348075:tw10572533412193348075=0:=rfl
def tw5757590582591854513:Nat:=0
theorem te5757590582591854513:tw5757590582591854513=0:=rfl
def tw18077720240388278268:Nat:=0
theorem te18077720240388278268:tw18077720240388278268=0:=rfl
def tw3055163481026296215:Nat:=0
theorem te3055163481026296215:tw3055163481026296215=0:=rfl
def tw5892670773736102161:Nat:=0
theorem te5892670773736102161:tw5892670773736102161=0:=rfl
def tw4877828633012560523:Nat:=0
theorem te4877828633012560523:tw4877828633012560523=0:=rfl
def tw10024905082516830442:Nat:=0
theorem te10024905082516830442:tw10024905082516830442=0:=rfl
def tw4941821906374254266:Nat:=0
theorem te4941821906374254266:tw4941821906374254266=0:=rfl
def tw9252633813371322699:Nat:=0
theorem te9252633813371322699:tw9252633813371322699=0:=rfl
def tw7346683758002723807:Nat:=0
theorem te7346683758002723807:tw7346683758002723807=0:=rfl
def tw15668343343660188547:Nat:=0
theorem te15668343343660188547:tw15668343343660188547=0:=rfl
def tw726356033772074285:Nat:=0
theorem te726356033772074285:tw726356033772074285=0:=rfl
def tw3717992723242448218:Nat:=0
theorem te3717992723242448218:tw3717992723242448218=0:=rfl
def tw229619151329082545:Nat:=0
theorem te229619151329082545:tw229619151329082545=0:=rfl
def tw971775876325611653:Nat:=0
theorem te971775876325611653:tw971775876325611653=0:=rfl
def tw14904929795664048467:Nat:=0
theorem te14904929795664048467:tw14904929795664048467=0:=rfl
def tw4270290836408328883:Nat:=0
theorem te4270290836408328883:tw4270290836408328883=0:=rfl
end PySem.W.Fast
set_option maxRecDepth 100000 in
set_option maxHeartbeats 0 in
theorem PySem.Challenge.cw_holdplaces_k40_ends_and_upper_places_holds : PySem.Challenge.rw_holdplaces_k40_ends_and_upper_places.Holds := by
 w_on;o_law;k_head;(case hw=>w_witness2)
 k_fill
 refine K40.walk (l:=PySem.Challenge.rw_holdplaces_k40_ends_and_upper_places) rfl rfl rfl (λw h Y=>PySem.W.kIn_of Y) ?F
 case F=>
  intro w mg h KX N
  refine' K40.all_mk (WB.zB ?_ ?_ ?_ ?_) (WB.zB ?_ ?_ ?_ ?_) (WB.zB ?_ ?_ ?_ ?_) (WB.zB ?_ ?_ ?_ ?_) (WB.zB ?_ ?_ ?_ ?_) (WB.zB ?_ ?_ ?_ ?_) (WB.zB ?_ ?_ ?_ ?_) (WB.zB ?_ ?_ ?_ ?_) (WB.zB ?_ ?_ ?_ ?_) (WB.zB ?_ ?_ ?_ ?_) (WB.zB ?_ ?_ ?_ ?_) (WB.zB ?_ ?_ ?_ ?_) (WB.zB ?_ ?_ ?_ ?_) (WB.zB ?_ ?_ ?_ ?_) (WB.zB ?_ ?_ ?_ ?_) (WB.zB ?_ ?_ ?_ ?_) (WB.zB ?_ ?_ ?_ ?_) (WB.zB ?_ ?_ ?_ ?_) (WB.zB ?_ ?_ ?_ ?_) (WB.zB ?_ ?_ ?_ ?_) (WB.zB ?_ ?_ ?_ ?_) (WB.zB ?_ ?_ ?_ ?_) (WB.zB ?_ ?_ ?_ ?_) (WB.zB ?_ ?_ ?_ ?_) (WB.zB ?_ ?_ ?_ ?_) (WB.zB ?_ ?_ ?_ ?_) (WB.zB ?_ ?_ ?_ ?_) (WB.zB ?_ ?_ ?_ ?_) (WB.zB ?_ ?_ ?_ ?_) (WB.zB ?_ ?_ ?_ ?_) (WB.zB ?_ ?_ ?_ ?_) KX N ?_ ?_ ?_ ?_ ?_ ?_ ?_ ?_ ?_ ?_ ?_ ?_ ?_ ?_ ?_ ?_ ?_ ?_ ?_ ?_ ?_ ?_ ?_ ?_ ?_ ?_ ?_ ?_ ?_ ?_ ?_ ?_ ?_ ?_ ?_ (WB.kR ?w0_1 ?w0_2 ?w0_3 ?w0_4) (WB.kR ?w1_1 ?w1_2 ?w1_3 ?w1_4) (WB.kR ?w2_1 ?w2_2 ?w2_3 ?w2_4) (WB.lL ?s0_1 ?s0_2 ?s0_3 ?s0_4 ?s0_5 ?s0_6) ?v0 (WB.lL ?s1_1 ?s1_2 ?s1_3 ?s1_4 ?s1_5 ?s1_6) ?v1 (WB.lL ?s2_1 ?s2_2 ?s2_3 ?s2_4 ?s2_5 ?s2_6) ?v2 (WB.dA ?t0_1 ?t0_2 ?t0_3) (WB.dA ?t1_1 ?t1_2 ?t1_3) (WB.dA ?t2_1 ?t2_2 ?t2_3) (WB.dA ?t3_1 ?t3_2 ?t3_3) (WB.dA ?t4_1 ?t4_2 ?t4_3) (WB.dA ?t5_1 ?t5_2 ?t5_3) (WB.dA ?t6_1 ?t6_2 ?t6_3) (WB.dA ?t7_1 ?t7_2 ?t7_3) (WB.dA ?t8_1 ?t8_2 ?t8_3) (WB.dA ?t9_1 ?t9_2 ?t9_3) (WB.dA ?t10_1 ?t10_2 ?t10_3) (WB.dA ?t11_1 ?t11_2 ?t11_3) (WB.dA ?t12_1 ?t12_2 ?t12_3) (WB.dA ?t13_1 ?t13_2 ?t13_3) ?q0_1 ?n0_1 ?q0_2 ?n0_2 ?q0_3 ?n0_3 ?q0_4 ?n0_4 ?q0_5 ?n0_5 ?q0_6 ?n0_6 ?q0_7 ?n0_7 ?q0_8 ?n0_8 ?q0_9 ?n0_9 ?q0_10 ?n0_10 ?q0_11 ?n0_11 ?q0_12 ?n0_12 ?q0_13 ?n0_13 ?q1_0 ?n1_0 ?q1_1 ?n1_1 ?q1_3 ?n1_3 ?q1_4 ?n1_4 ?q1_5 ?n1_5 ?q1_6 ?n1_6 ?q1_7 ?n1_7 ?q1_8 ?n1_8 ?q1_9 ?n1_9 ?q1_10 ?n1_10 ?q1_11 ?n1_11 ?q1_12 ?n1_12 ?q1_13 ?n1_13 ?q2_0 ?n2_0 ?q2_1 ?n2_1 ?q2_2 ?n2_2 ?q2_3 ?n2_3 ?q2_4 ?n2_4 ?q2_5 ?n2_5 ?q2_7 ?n2_7 ?q2_8 ?n2_8 ?q2_9 ?n2_9 ?q2_10 ?n2_10 ?q2_11 ?n2_11 ?q2_12 ?n2_12 ?q2_13 ?n2_13
  any_goals k_is
  any_goals k_exc
  any_goals decide
#print axioms PySem.Challenge.cw_holdplaces_k40_ends_and_upper_places_holds
