import PyProof.Rows.All
import Wide.All
import OpenK.AllK
import Wide.FinOn
import PyProof.EqAt
import PyProof.EqKinds
import PyProof.TupleCall
import KE.BitLaws
import PyProof.SetKind
import PyProof.DictIter
import PyProof.DictWalks
import PyProof.CollectWalk
import PyProof.MakeMany
import PyProof.ForAny
import PyProof.FactsAll.set
import PyProof.Walks
import PyProof.WalkLemmas
import PyProof.SetNew
import PyProof.Rows.SetFrom
import PyProof.Rows.SortShellAny
import KE.KDictList
import PyProof.SumAny
import KE.KDictLaws
import PyProof.DictUpdate
import Open.SpecLaws
import KE.OsHead
import KE.OsGo
import PySem.Challenge.RW_stepsweep_s01_answers
set_option Elab.async false
set_option linter.all false
set_option maxRecDepth 100000
section
namespace L2
open PySem PySem.Spec PyProof.Rows
abbrev Key:=Sum Int Str
def keyIs:Key→Value→Bool
 | .inl k,v=>Value.isInt k v
 | .inr x,v=>Value.isStrOf x v
def keyH (w:World):Key→Int
 | .inl k=>hashInt k
 | .inr x=>hashStr w x
theorem keyIs_shape:∀ {k:Key}{v:Value},keyIs k v=true→(∃ i t,k=Sum.inl i∧v=Value.int i t)∨(∃ x t,k=Sum.inr x∧v=Value.str x t)
 | .inl i,v,h=>by
  obtain ⟨t,e⟩:=Value.isInt_shape (k:=i) (v:=v) h
  exact .inl ⟨i,t,rfl,e⟩
 | .inr x,v,h=>by
  obtain ⟨t,e⟩:=Value.isStrOf_shape (x:=x) (v:=v) h
  exact .inr ⟨x,t,rfl,e⟩
theorem keyIs_int (i:Int) (t:Tok):keyIs (.inl i) (.int i t)=true:=by simp [keyIs,Value.isInt]
theorem keyIs_str (x:Str) (t:Tok):keyIs (.inr x) (.str x t)=true:=by simp [keyIs,Value.isStrOf]
theorem key_ll (a b:Int):decide ((Sum.inl a:Key)=Sum.inl b)=(a==b):=by
 by_cases e:a=b
 ·subst e;simp
 ·have h:¬ (Sum.inl a:Key)=Sum.inl b:=fun q=>e (Sum.inl.inj q)
  rw [decide_eq_false h]
  exact (beq_eq_false_iff_ne.mpr e).symm
theorem key_rr (a b:Str):decide ((Sum.inr a:Key)=Sum.inr b)=decide (a=b):=by
 by_cases e:a=b
 ·subst e;simp
 ·have h:¬ (Sum.inr a:Key)=Sum.inr b:=fun q=>e (Sum.inr.inj q)
  rw [decide_eq_false h,decide_eq_false e]
theorem key_lr (a:Int) (b:Str):decide ((Sum.inl a:Key)=Sum.inr b)=false:=decide_eq_false (fun q=>nomatch q)
theorem key_rl (a:Str) (b:Int):decide ((Sum.inr a:Key)=Sum.inl b)=false:=decide_eq_false (fun q=>nomatch q)
def mixKind (prog:Program) (w:World):PySem.KeyKind prog w Key where
 is:=keyIs
 hash:=keyH w
 inj:=fun v a b ha hb=>by
  rcases keyIs_shape ha with ⟨i,t,rfl,rfl⟩ | ⟨x,t,rfl,rfl⟩
  ·rcases keyIs_shape hb with ⟨j,u,rfl,e⟩ | ⟨y,u,rfl,e⟩
   ·injection e with e1 _;rw [e1]
   ·exact nomatch e
  ·rcases keyIs_shape hb with ⟨j,u,rfl,e⟩ | ⟨y,u,rfl,e⟩
   ·exact nomatch e
   ·injection e with e1 _;rw [e1]
 byValue:=fun k v h=>by
  rcases keyIs_shape h with ⟨i,t,rfl,rfl⟩ | ⟨x,t,rfl,rfl⟩ <;> rfl
 pyHash:=fun hv h=>by
  rcases keyIs_shape hv with ⟨i,t,rfl,rfl⟩ | ⟨x,t,rfl,rfl⟩
  ·exact wpAny_pyHash_int h
  ·exact wpAny_pyHash_str h
 eqBool:=fun hu hv h=>by
  rcases keyIs_shape hu with ⟨i,t,rfl,rfl⟩ | ⟨x,t,rfl,rfl⟩
  ·rcases keyIs_shape hv with ⟨j,u,rfl,rfl⟩ | ⟨y,u,rfl,rfl⟩
   ·rw [key_ll] at h;exact wpAny_eqBool_int h
   ·rw [key_lr] at h;exact SeqAt.EqAt.int_str i t y u _ _ _ _ h
  ·rcases keyIs_shape hv with ⟨j,u,rfl,rfl⟩ | ⟨y,u,rfl,rfl⟩
   ·rw [key_rl] at h;exact SeqAt.EqAt.str_int x t j u _ _ _ _ h
   ·rw [key_rr] at h;exact wpAny_eqBool_str h
 «strs»:=fun k x t v h=>by
  rcases keyIs_shape h with ⟨i,u,rfl,e⟩ | ⟨y,u,rfl,e⟩
  ·exact nomatch e
  ·injection e with e1 _
   subst e1
   cases v <;> rfl
theorem mixKind_int (prog:Program) (w:World) (i:Int) (t:Tok):(mixKind prog w).is (.inl i) (.int i t)=true:=keyIs_int i t
theorem mixKind_str (prog:Program) (w:World) (x:Str) (t:Tok):(mixKind prog w).is (.inr x) (.str x t)=true:=keyIs_str x t
end L2
namespace L2
open PySem PySem.Spec PyProof.Rows
inductive V where
 | non | bl (b:Bool) | int (i:Int) | str (x:Str) | byt (b:Array UInt8) | flt (b:UInt64) | ref (a:Addr) | ty (n:String)
 deriving DecidableEq
def RelV:V→Value→Prop
 | .non,u=>u=Value.none
 | .bl b,u=>u=Value.bool b
 | .int i,u=>∃ t,u=Value.int i t
 | .str x,u=>∃ t,u=Value.str x t
 | .byt b,u=>∃ t,u=Value.bytes b t
 | .flt b,u=>∃ t,u=Value.float b t
 | .ref a,u=>u=Value.ref a
 | .ty n,u=>u=Value.type n
abbrev Vals:List V→List Value→Prop:=Paired RelV
theorem Vals.length {xs:List V}{us:List Value} (r:Vals xs us):xs.length=us.length:=Paired.length r
theorem Vals.get:∀ {xs:List V}{us:List Value}{i:Nat}{x:V},Vals xs us→xs[i]?=some x→∃ u,us[i]?=some u∧RelV x u
 | _,_,_,_,.nil,e=>by simp at e
 | _,_,0,_,.cons r _,e=>by simp at e;subst e;exact ⟨_,rfl,r⟩
 | _,_,i+1,x,.cons _ t,e=>by
  obtain ⟨u,h1,h2⟩:=Vals.get (i:=i) (x:=x) t (by simpa using e)
  exact ⟨u,by simpa using h1,h2⟩
theorem Vals.append:∀ {xs ys:List V}{us ws:List Value},Vals xs us→Vals ys ws→Vals (xs++ys) (us++ws)
 | _,_,_,_,.nil,s=>s
 | _,_,_,_,.cons r t,s=>.cons r (Vals.append t s)
theorem Vals.take:∀ {xs:List V}{us:List Value} (n:Nat),Vals xs us→Vals (xs.take n) (us.take n)
 | _,_,0,_=>.nil
 | _,_,_+1,.nil=>.nil
 | _,_,n+1,.cons r t=>.cons r (Vals.take n t)
theorem Vals.drop:∀ {xs:List V}{us:List Value} (n:Nat),Vals xs us→Vals (xs.drop n) (us.drop n)
 | _,_,0,r=>r
 | _,_,_+1,.nil=>.nil
 | _,_,n+1,.cons _ t=>Vals.drop n t
def RelO:Option V→Option Value→Prop
 | some v,some u=>RelV v u
 | none,none=>True
 | _,_=>False
def KV {κ:Type}:List (κ×V)→List (κ×Value)→Prop:=Paired fun (p:κ×V) (q:κ×Value)=>p.1=q.1∧RelV p.2 q.2
def kV:Key→V
 | .inl i=>.int i
 | .inr x=>.str x
inductive HO where
 | lst (xs:List V)
 | tup (xs:List V)
 | dK (kvs:List (Key×V)) | dT (kvs:List (List Key×V))
 | set (S:Int→Bool) (n:Nat)
 | ins (C dx:Addr) (fs:List (Str×V))
 | own (x:Addr)
 | xd (fs:List (Str×V))
 | met (f x:Addr)
 | rng (lo hi:Int)
 | frz (o:Obj) (u:HO)
 | tbl (ps:Array Value)
 | ext (φ:Heap→Prop)
abbrev Hp:=Addr→Option HO
def upd (H:Hp) (a:Addr) (o:HO):Hp:=fun b=>if b=a then some o else H b
theorem upd_same {H:Hp}{a:Addr}{o:HO}:upd H a o a=some o:=by unfold upd;rw [if_pos rfl]
theorem upd_ne {H:Hp}{a b:Addr}{o:HO} (h:b≠a):upd H a o b=H b:=by unfold upd;rw [if_neg h]
theorem upd_upd {H:Hp}{a:Addr}{o u:HO}:upd (upd H a o) a u=upd H a u:=by
 funext b;unfold upd;split <;> rfl
theorem ne_of {H:Hp}{a b:Addr}{o u:HO} (h:H a=some o) (h':H b=some u) (d:o≠u):a≠b:=by
 intro e;subst e;rw [h] at h';exact d (Option.some.inj h')
theorem ne_of_none {H:Hp}{a b:Addr}{o:HO} (h:H a=some o) (h':H b=none):a≠b:=by
 intro e;subst e;rw [h] at h';cases h'
section
variable (P:Program) (w:World)
def ObjOk (H:Hp) (h:Heap) (a:Addr):HO→Prop
 | .lst xs=>xs.length≤sizeLine∧∃ (its:List Value) (n:Nat),Vals xs its∧h.get? a=some {cls:=.type "list",data:=.seq its.toArray n}
 | .tup xs=>xs.length≤sizeLine∧∃ its:List Value,Vals xs its∧IsTup h a its.toArray
 | .dK kvs=>kvs.length≤sizeLine∧(a==sysModules)=false∧∃ vs,KV kvs vs∧h.DictOf (mixKind P w) a vs
 | .dT kvs=>kvs.length≤sizeLine∧(a==sysModules)=false∧∃ xs:List (List Key×Addr×Value),
   Paired (fun (p:List Key×V) (q:List Key×Addr×Value)=>p.1=q.1∧H q.2.1=some (.tup (p.1.map kV))∧RelV p.2 q.2.2) kvs xs ∧
   ∃ o es ep,h.get? a=some o∧o.ExactDict∧o.data=.dict es ep∧es.toList=xs.map (entryOfKey (tupleKind (mixKind P w)))∧(xs.map (·.1)).Nodup
 | .set S n=>h.SetOf (intKind P w) a S n
 | .ins C dx fs=>H dx=some (.own a)∧fs.length≤1000∧dx≠a∧h.get? a=some (PySem.W.instObj C dx) ∧
   ∃ mA,h.Ns1 dx mA∧(∀ f,RelO (fs.lookup f) (mA f))∧PySem.Within mA (fs.map (·.1))
 | .own _=>∃ o,h.get? a=some o
 | .xd fs=>∃ mA,h.Ns1 a mA∧∀ f,RelO (fs.lookup f) (mA f)
 | .rng lo hi=>∃ t u v,h.get? a=some {cls:=.type "range",data:=.fields #[.int lo t,.int hi u,.int 1 v]}
 | .frz o u=>h.get? a=some o∧ObjOk H h a u
 | .tbl ps=>h.get? a=some {cls:=.none,data:=.fields ps}
 | .met f x=>h.get? a=some (PySem.W.methodObj (.ref f) (.ref x))
 | .ext φ=>φ h∧(∃ o,h.get? a=some o)∧∀ h1 h2:Heap,φ h1→(∀ o,h1.get? a=some o→h2.get? a=some o)→φ h2
def HOk (H:Hp) (h:Heap):Prop:=∀ a o,H a=some o→ObjOk P w H h a o
end
section
variable {P:Program}{w:World}{H H':Hp}{h h':Heap}{a:Addr}{o:HO}
theorem ObjOk.lt (x:ObjOk P w H h a o):a<h.objs.size:=by
 cases o with
 | lst xs=>obtain ⟨_,_,_,_,e⟩:=x;exact Heap.lt_size e
 | tup xs=>obtain ⟨_,_,_,p⟩:=x;exact p.lt
 | dK kvs=>obtain ⟨_,_,_,_,o,_,_,e,_⟩:=x;exact Heap.lt_size e
 | dT kvs=>obtain ⟨_,_,_,_,o,_,_,e,_⟩:=x;exact Heap.lt_size e
 | set S n=>obtain ⟨o,_,_,_,e,_⟩:=x;exact Heap.lt_size e
 | ins C dx fs=>obtain ⟨_,_,_,e,_⟩:=x;exact Heap.lt_size e
 | own y=>obtain ⟨_,e⟩:=x;exact Heap.lt_size e
 | xd fs=>obtain ⟨_,⟨_,_,_,e,_⟩,_⟩:=x;exact Heap.lt_size e
 | rng lo hi=>obtain ⟨_,_,_,e⟩:=x;exact Heap.lt_size e
 | frz ob u=>obtain ⟨e,_⟩:=x;exact Heap.lt_size e
 | tbl ps=>exact Heap.lt_size (show h.get? a=some _ from x)
 | met f y=>exact Heap.lt_size (show h.get? a=some _ from x)
 | ext φ=>obtain ⟨_,⟨_,e⟩,_⟩:=x;exact Heap.lt_size e
theorem Paired.mapP {α β:Type}{F G:α→β→Prop}:∀ {l₁:List α}{l₂:List β},Paired F l₁ l₂→(∀ a b,F a b→G a b)→Paired G l₁ l₂
 | _,_,.nil,_=>.nil
 | _,_,.cons r t,f=>.cons (f _ _ r) (Paired.mapP t f)
theorem ObjOk.stay (x:ObjOk P w H h a o) (k:∀ b u,(b=a∨H b=some (.own a))→h.get? b=some u→h'.get? b=some u)
  (ho:∀ b,H b=some (.own a)→H' b=some (.own a)) (ht:∀ b xs,H b=some (.tup xs)→H' b=some (.tup xs)):ObjOk P w H' h' a o:=by
 induction o with
 | lst xs=>obtain ⟨z,its,n,r,e⟩:=x;exact ⟨z,its,n,r,k _ _ (.inl rfl) e⟩
 | tup xs=>obtain ⟨z,its,r,ob,e,c⟩:=x;exact ⟨z,its,r,ob,k _ _ (.inl rfl) e,c⟩
 | dK kvs=>obtain ⟨z,y,vs,r,ob,es,ep,e,c⟩:=x;exact ⟨z,y,vs,r,ob,es,ep,k _ _ (.inl rfl) e,c⟩
 | dT kvs =>
  obtain ⟨z,y,xs,r,ob,es,ep,e,c⟩:=x
  exact ⟨z,y,xs,Paired.mapP r fun p q z=>⟨z.1,ht _ _ z.2.1,z.2.2⟩,ob,es,ep,k _ _ (.inl rfl) e,c⟩
 | set S n=>obtain ⟨ob,es,ep,t,e,c⟩:=x;exact ⟨ob,es,ep,t,k _ _ (.inl rfl) e,c⟩
 | ins C dx fs =>
  obtain ⟨d,z,ne,e,mA,⟨od,es,ep,e2,c⟩,r⟩:=x
  exact ⟨ho _ d,z,ne,k _ _ (.inl rfl) e,mA,⟨od,es,ep,k _ _ (.inr d) e2,c⟩,r⟩
 | own y=>obtain ⟨ob,e⟩:=x;exact ⟨ob,k _ _ (.inl rfl) e⟩
 | xd fs=>obtain ⟨mA,⟨od,es,ep,e,c⟩,r⟩:=x;exact ⟨mA,⟨od,es,ep,k _ _ (.inl rfl) e,c⟩,r⟩
 | rng lo hi=>obtain ⟨t,u,v,e⟩:=x;exact ⟨t,u,v,k _ _ (.inl rfl) e⟩
 | frz ob u ih=>obtain ⟨e,q⟩:=x;exact ⟨k _ _ (.inl rfl) e,ih q⟩
 | tbl ps =>
  have e:h.get? a=some {cls:=.none,data:=.fields ps}:=x
  show h'.get? a=some {cls:=.none,data:=.fields ps}
  exact k a _ (.inl rfl) e
 | met f y =>
  have e:h.get? a=some (PySem.W.methodObj (.ref f) (.ref y)):=x
  show h'.get? a=some (PySem.W.methodObj (.ref f) (.ref y))
  exact k a _ (.inl rfl) e
 | ext φ=>obtain ⟨p,⟨o,e⟩,st⟩:=x;exact ⟨st _ _ p fun o q=>k _ _ (.inl rfl) q,⟨o,k _ _ (.inl rfl) e⟩,st⟩
theorem HOk.lt (x:HOk P w H h) (e:H a=some o):a<h.objs.size:=(x a o e).lt
theorem HOk.fresh (x:HOk P w H h) (e:h.objs.size≤a):H a=none:=by
 cases q:H a with
 | none=>rfl
 | some u=>exact absurd (Nat.lt_of_lt_of_le (x.lt q) e) (Nat.lt_irrefl _)
theorem HOk.kept (x:HOk P w H h) (k:∀ b u,h.get? b=some u→h'.get? b=some u):HOk P w H h':=fun a o e =>
 (x a o e).stay (fun b u _ q=>k b u q) (fun _ q=>q) fun _ _ q=>q
theorem HOk.laid (x:HOk P w H h) (k:∀ b u,h.get? b=some u→h'.get? b=some u) (hp:h.objs.size≤a) (new:ObjOk P w (upd H a o) h' a o):HOk P w (upd H a o) h':=fun b u e=>by
 have hn:=x.fresh hp
 by_cases hb:b=a
 ·subst hb;rw [upd_same] at e;cases e;exact new
 ·rw [upd_ne hb] at e
  exact (x b u e).stay (fun c v _ q=>k c v q) (fun c q=>by rw [upd_ne (ne_of_none q hn)];exact q) fun c xs q=>by rw [upd_ne (ne_of_none q hn)];exact q
end
def Rd (H:Hp) (a:Addr) (u:HO):Prop:=H a=some u∨∃ o,H a=some (.frz o u)
theorem Rd.of {H:Hp}{a:Addr}{u:HO} (h:H a=some u):Rd H a u:=.inl h
theorem Rd.ok {P:Program}{w:World}{H:Hp}{h:Heap}{a:Addr}{u:HO} (r:Rd H a u) (x:HOk P w H h):ObjOk P w H h a u:=by
 rcases r with r | ⟨o,r⟩
 ·exact x a u r
 ·obtain ⟨_,q⟩:=x a _ r
  exact q
def Mut:Option HO→Prop
 | some (.lst _)=>True
 | some (.dK _)=>True
 | some (.dT _)=>True
 | some (.set _ _)=>True
 | some (.ins _ _ _)=>True
 | some (.ext _)=>True
 | _=>False
section
variable {P:Program}{w:World}{H:Hp}{h h':Heap}{x e:Addr}{o':HO}
theorem HOk.write (ok:HOk P w H h) (mu:Mut (H x)) (he:e=x∨H e=some (.own x)) (k:∀ b u,b≠e→h.get? b=some u→h'.get? b=some u) (heo:∃ u,h'.get? e=some u)
  (new:ObjOk P w (upd H x o') h' x o'):HOk P w (upd H x o') h':=fun b u q=>by
 have nown:∀ c y,H c=some (.own y)→c≠x:=fun c y r z=>by subst z;rw [r] at mu;exact mu
 have ntup:∀ c xs,H c=some (.tup xs)→c≠x:=fun c xs r z=>by subst z;rw [r] at mu;exact mu
 by_cases hb:b=x
 ·subst hb;rw [upd_same] at q;cases q;exact new
 ·rw [upd_ne hb] at q
  by_cases hbe:b=e
  ·have q':H b=some (.own x):=by
    rcases he with z | z
    ·exact absurd (hbe.trans z) hb
    ·rw [hbe];exact z
   rw [q] at q';cases q'
   obtain ⟨v,hv⟩:=heo
   exact ⟨v,by rw [hbe];exact hv⟩
  ·refine (ok b u q).stay (fun c v hc r=>k c v ?_ r) (fun c r=>by rw [upd_ne (nown c b r)];exact r) fun c xs r=>by rw [upd_ne (ntup c xs r)];exact r
   rcases hc with rfl | hc
   ·exact hbe
   ·rintro rfl
    rcases he with z | z
    ·exact nown c b hc z
    ·rw [hc] at z;cases z;exact hb rfl
end
structure Un (fs ex:List Addr) (H H':Hp) (h h':Heap):Prop where
 keep:∀ b o,h.get? b=some o→H b=none→b∉fs→b∉ex→h'.get? b=some o
 slot:∀ b o,h.get? b=some o→H b=none→b∈fs→b∉ex→∃ sl,h'.get? b=some {o with slots:=sl}
 free:∀ b o,h.get? b=some o→H b=none→b∉ex→H' b=none
 there:∀ b o,h.get? b=some o→b∉ex→∃ o',h'.get? b=some o'
 tups:∀ b xs,H b=some (.tup xs)→H' b=some (.tup xs)
 frzs:∀ b o u,H b=some (.frz o u)→H' b=some (.frz o u)
 tbls:∀ b ps,H b=some (.tbl ps)→∃ more,H' b=some (.tbl (ps++more))
section
variable {fs fs' ex ex':List Addr}{H H1 H2:Hp}{h h1 h2 h':Heap}{a x e:Addr}{o:HO}
theorem Un.any (u:Un fs ex H H1 h h1) {b:Addr}{ob:Obj} (q:h.get? b=some ob) (n:H b=none) (hx:b∉ex):∃ sl,h1.get? b=some {ob with slots:=sl}:=by
 by_cases hb:b∈fs
 ·exact u.slot b ob q n hb hx
 ·exact ⟨ob.slots,u.keep b ob q n hb hx⟩
theorem Un.kept (k:∀ b u,h.get? b=some u→h'.get? b=some u):Un fs ex H H h h' :=
 ⟨fun b ob q _ _ _=>k b ob q,fun b ob q _ _ _=>⟨ob.slots,k b ob q⟩,fun _ _ _ n _=>n,fun b ob q _=>⟨ob,k b ob q⟩,fun _ _ q=>q,fun _ _ _ q=>q,fun _ ps q=>⟨#[],by rw [q];simp⟩⟩
theorem Un.refl:Un fs ex H H h h:=Un.kept fun _ _ q=>q
theorem Un.laid (k:∀ b u,h.get? b=some u→h'.get? b=some u) (hp:h.objs.size≤a) (hn:H a=none):Un fs ex H (upd H a o) h h' where
 keep:=fun b u q _ _ _=>k b u q
 slot:=fun b u q _ _ _=>⟨u.slots,k b u q⟩
 free:=fun b u q n _=>by rw [upd_ne (Nat.ne_of_lt (Nat.lt_of_lt_of_le (Heap.lt_size q) hp))];exact n
 there:=fun b u q _=>⟨u,k b u q⟩
 tups:=fun b xs q=>by rw [upd_ne (ne_of_none q hn)];exact q
 frzs:=fun b u xs q=>by rw [upd_ne (ne_of_none q hn)];exact q
 tbls:=fun b ps q=>⟨#[],by rw [upd_ne (ne_of_none q hn),q];simp⟩
theorem Un.write (mu:Mut (H x)) (he:e=x∨H e=some (.own x)) (k:∀ b u,b≠e→h.get? b=some u→h'.get? b=some u) (heo:∃ u,h'.get? e=some u):Un fs ex H (upd H x o) h h':=by
 have hx:∀ b,H b=none→b≠x:=fun b n z=>by subst z;rw [n] at mu;exact mu
 have hb:∀ b,H b=none→b≠e:=fun b n z=>by
  subst z
  rcases he with r | r
  ·exact hx b n r
  ·rw [n] at r;cases r
 have hm:∀ b u,H b=some u→¬ Mut (some u)→b≠x:=fun b u q nm z=>by subst z;rw [q] at mu;exact nm mu
 refine ⟨fun b u q n _ _=>k b u (hb b n) q,fun b u q n _ _=>⟨u.slots,k b u (hb b n) q⟩,fun b u q n _=>by rw [upd_ne (hx b n)];exact n,fun b u q _=>?_,
  fun b xs q=>by rw [upd_ne (hm b _ q fun z=>z)];exact q,fun b u xs q=>by rw [upd_ne (hm b _ q fun z=>z)];exact q,fun b ps q=>⟨#[],by rw [upd_ne (hm b _ q fun z=>z),q];simp⟩⟩
 by_cases hbe:b=e
 ·subst hbe;exact heo
 ·exact ⟨u,k b u hbe q⟩
end
def trk (h:Heap) (H:Hp):List Addr:=(List.range h.objs.size).filter fun a=>(H a).isSome
def hidT (h:Heap) (H:Hp):Heap:=PySem.W.hideAll h (trk h H)
theorem hidT_size (h:Heap) (H:Hp):(hidT h H).objs.size=h.objs.size:=PySem.W.hideAll_size _ _
theorem hidT_get {h:Heap}{H:Hp}{b:Addr}{o:Obj} (e:h.get? b=some o) (n:H b=none):(hidT h H).get? b=some o :=
 PySem.W.hideAll_get _ e fun hm=>by
  have q:(H b).isSome=true:=(List.mem_filter.mp hm).2
  rw [n] at q;simp at q
theorem of_hidT {h:Heap}{H:Hp}{b:Addr}{o:Obj} (e:(hidT h H).get? b=some o):h.get? b=some o∧H b=none:=by
 have e':h.get? b=some o:=PySem.W.of_hideAll (trk h H) e
 refine ⟨e',?_⟩
 cases q:H b with
 | none=>rfl
 | some x =>
  have hm:b∈trk h H:=List.mem_filter.mpr ⟨List.mem_range.mpr (Heap.lt_size e'),by simp [q]⟩
  have z:(hidT h H).get? b=none:=PySem.W.hideAll_none (trk h H) hm
  rw [z] at e;cases e
end L2
namespace L2
open PySem PySem.Spec PyProof.Rows
structure Mod (K:PySem.W.Frag) (mg:Str→Option Value) (base:Heap):Prop where
 kin:K.In base
 glob:base.Ns mainGlobals mg
 blt:∃ mb,base.Ns builtinsNs mb∧∀ x:Str,x≠"__name__"→mb x=bootBuiltins x
 nolimit:base.NoLimit
structure Cx where
 prog:Program
 w:World
 K:PySem.W.Frag
 mg:Str→Option Value
 base:Heap
 A:Around
 N:List Str
 s_0:Shared
 H_0:Hp
 env:Env
 outer:List Env
 stack:List Env
 ex:List Addr
 fn:Str→Bool
 calm:Bool
 pn:List (Addr×Obj)
 xe:Value→Shared→Prop
def frs (l:List Env):List Addr:=l.filterMap (·.frame)
abbrev Cx.fs (X:Cx):List Addr:=frs X.outer
def Vis (sc:Scope) (x:Str):Prop:=sc.names.lookup x=some .local∨sc.names.lookup x=some .cell∨sc.names.lookup x=some .free
def Loc (sc:Scope) (x:Str):Prop:=sc.names.lookup x=some .local∨sc.names.lookup x=some .cell
def Look (env:Env) (h:Heap) (m:Str→Option Value) (x:Str) (u:Value):Prop :=
 (env.kindOf x=some .local∧m x=some u)∨((env.kindOf x=some .cell∨env.kindOf x=some .free)∧∃ c,env.cells.lookup x=some c∧h.IsCell c (some u))
structure Cx.Ok (X:Cx):Prop where
 mod:Mod X.K X.mg X.base
 kind:X.env.scope.kind=.function
 glob:X.env.globals=mainGlobals
 blt:X.env.builtins=builtinsNs
 above:X.s_0.heap.objs.size≤X.env.locals
 inj:∀ x y c,X.env.cells.lookup x=some c→X.env.cells.lookup y=some c→x=y
 has:∀ x,(X.env.kindOf x=some .cell∨X.env.kindOf x=some .free)→∃ c,X.env.cells.lookup x=some c
 cab:∀ x c,X.fn x=true→X.env.cells.lookup x=some c→X.s_0.heap.objs.size≤c
 hd:X.calm=true→X.A.handled=none
 frames:X.A.frames=some X.stack
 stk:X.stack=X.outer∨(X.stack=X.env::X.outer∧X.env.frame=some X.env.locals)
 exf:∀ b∈X.ex,b≠X.env.locals∧∀ x c,X.env.cells.lookup x=some c→c≠b
 bs:∀ b o,X.base.get? b=some o→X.s_0.heap.get? b=some o∧X.H_0 b=none
 bsz:X.base.objs.size≤X.s_0.heap.objs.size
 noex:∀ b o,X.base.get? b=some o→b∉X.ex
 exfs:∀ b∈X.ex,b∉X.fs
 funs:X.s_0.heap.FunFrames X.base X.outer
 frf:∀ b∈X.fs,X.H_0 b=none
structure Inv (X:Cx) (pins:List (Addr×Obj)) (σ:List (Option V)) (H:Hp) (s:Shared):Prop where
 ok:X.Ok
 os:s.os=X.s_0.os
 bare:AllBare s.gens
 base:Un X.fs X.ex X.H_0 H X.s_0.heap s.heap
 loc:∃ m,s.heap.Ns X.env.locals m∧∀ (i:Nat) (x:Str) (v:V),X.N[i]?=some x→σ[i]?=some (some v)→Vis X.env.scope x→∃ u,RelV v u∧Look X.env s.heap m x u
 cell:∀ x c,X.env.cells.lookup x=some c→∃ v,s.heap.IsCell c v
 free:H X.env.locals=none
 freeC:∀ x c,X.env.cells.lookup x=some c→H c=none
 pin:∀ p∈X.pn++pins,s.heap.get? p.1=some p.2∧H p.1=none∧p.1≠X.env.locals∧p.1∉X.fs∧∀ v,p.2.data≠.cell v
 hok:HOk X.prog X.w H s.heap
 len:σ.length=X.N.length
section
variable {X:Cx}{pins:List (Addr×Obj)}{σ:List (Option V)}{H H':Hp}{s:Shared}{h':Heap}
theorem Cx.Ok.nofr (ok:X.Ok) {b:Addr}{o:Obj} (e:X.base.get? b=some o):b∉X.fs:=fun hb=>by
 have:=(ok.funs.mem hb).1
 rw [e] at this;cases this
theorem Inv.bs (I:Inv X pins σ H s):∀ b o,X.base.get? b=some o→s.heap.get? b=some o∧H b=none:=fun b o e =>
 ⟨I.base.keep b o (I.ok.bs b o e).1 (I.ok.bs b o e).2 (I.ok.nofr e) (I.ok.noex b o e),I.base.free b o (I.ok.bs b o e).1 (I.ok.bs b o e).2 (I.ok.noex b o e)⟩
theorem Inv.bk (I:Inv X pins σ H s):∀ b o,X.base.get? b=some o→s.heap.get? b=some o:=fun b o e=>(I.bs b o e).1
theorem Inv.mod (I:Inv X pins σ H s):Mod X.K X.mg X.base:=I.ok.mod
theorem Inv.kIn (I:Inv X pins σ H s):X.K.In s.heap:=I.ok.mod.kin.keeps I.bk
theorem Inv.fr (I:Inv X pins σ H s):∃ m,Fr X.base X.env.locals s.heap m :=
 let ⟨m,hn,_⟩:=I.loc
 ⟨m,hn,I.bk,Nat.le_trans I.ok.bsz I.ok.above⟩
theorem Inv.lt (I:Inv X pins σ H s):X.env.locals<s.heap.objs.size:=let ⟨_,hn,_⟩:=I.loc;hn.lt
theorem Inv.sz (I:Inv X pins σ H s):X.s_0.heap.objs.size≤s.heap.objs.size:=Nat.le_trans I.ok.above (Nat.le_of_lt I.lt)
theorem Inv.nofs (I:Inv X pins σ H s) {a:Addr} (h:s.heap.objs.size≤a):a∉X.fs:=fun hb=>by
 obtain ⟨_,o,ho,_⟩:=I.ok.funs.mem hb
 exact absurd (Nat.lt_of_lt_of_le (Heap.lt_size ho) (Nat.le_trans I.sz h)) (Nat.lt_irrefl _)
theorem Inv.cne (I:Inv X pins σ H s):∀ x c,X.env.cells.lookup x=some c→c≠X.env.locals:=fun x c e z=>by
 obtain ⟨v,o,ho,hd⟩:=I.cell x c e
 obtain ⟨m,⟨o',es,ep,ho',hd',_⟩,_⟩:=I.loc
 rw [z,ho'] at ho;cases ho;rw [hd'] at hd;cases hd
theorem Inv.funs (I:Inv X pins σ H s):s.heap.FunFrames X.base X.outer:=by
 have all:∀ (l:List Env),(∀ b∈frs l,b∈X.fs)→X.s_0.heap.FunFrames X.base l→s.heap.FunFrames X.base l:=by
  intro l
  induction l with
  | nil=>intro _ _;trivial
  | cons env r ih =>
   intro hs hl
   obtain ⟨hk,⟨L,o,hf,hn,ho,hd⟩,hr⟩:=hl
   have hL:L∈X.fs:=hs L (by unfold frs;rw [List.filterMap_cons,hf];exact List.mem_cons_self)
   obtain ⟨sl,e⟩:=I.base.slot L o ho (I.ok.frf L hL) hL fun z=>I.ok.exfs L z hL
   exact ⟨hk,⟨L,_,hf,hn,e,hd⟩,ih (fun b hb=>hs b (by unfold frs;rw [List.filterMap_cons,hf];exact List.mem_cons_of_mem _ hb)) hr⟩
 exact all X.outer (fun _ hb=>hb) I.ok.funs
theorem Inv.stack (I:Inv X pins σ H s):s.heap.FunFrames X.base X.stack:=by
 rcases I.ok.stk with e | ⟨e,hf⟩
 ·rw [e];exact I.funs
 ·rw [e]
  obtain ⟨m,hn,_⟩:=I.loc
  refine .cons (by rw [I.ok.kind];decide) hf hn ?_ I.funs
  exact Heap.get?_none_of_le (Nat.le_trans I.ok.bsz I.ok.above)
theorem Inv.stkSub (I:Inv X pins σ H s):∀ b∈frs X.stack,b∈X.env.locals::X.fs:=fun b hb=>by
 rcases I.ok.stk with e | ⟨e,hf⟩
 ·rw [e] at hb;exact List.mem_cons_of_mem _ hb
 ·rw [e] at hb
  unfold frs at hb
  rw [List.filterMap_cons,hf] at hb
  exact hb
theorem Inv.stkFree (I:Inv X pins σ H s):∀ b∈frs X.stack,H b=none:=fun b hb=>by
 rcases List.mem_cons.mp (I.stkSub b hb) with e | hb
 ·rw [e];exact I.free
 ·obtain ⟨_,o,ho,_⟩:=I.ok.funs.mem hb
  exact I.base.free b o ho (I.ok.frf b hb) fun z=>I.ok.exfs b z hb
theorem Inv.step {g':Array GenState}{t':Nat}{d':Drawn}{ch:List Addr} (I:Inv X pins σ H s)
  (hch:∀ b∈ch,(b∈X.ex∨X.s_0.heap.objs.size≤b)∧b≠X.env.locals∧(∀ x c,X.env.cells.lookup x=some c→c≠b)∧∀ p∈X.pn++pins,p.1≠b)
  (keep:∀ b o,b≠X.env.locals→b∉X.fs→b∉ch→s.heap.get? b=some o→H b=none→h'.get? b=some o)
  (slot:∀ b o,b≠X.env.locals→b∈X.fs→b∉ch→s.heap.get? b=some o→H b=none→∃ sl,h'.get? b=some {o with slots:=sl}) (free:∀ b o,b∉ch→s.heap.get? b=some o→H b=none→H' b=none)
  (there:∀ b o,b∉ch→s.heap.get? b=some o→∃ o',h'.get? b=some o')
  (tups:∀ b xs,H b=some (.tup xs)→H' b=some (.tup xs)) (frzs:∀ b o u,H b=some (.frz o u)→H' b=some (.frz o u)) (tbls:∀ b ps,H b=some (.tbl ps)→∃ more,H' b=some (.tbl (ps++more)))
  (ns:∀ m,s.heap.Ns X.env.locals m→h'.Ns X.env.locals m) (hok:HOk X.prog X.w H' h') (hg:AllBare g') :
  Inv X pins σ H' {s with heap:=h',gens:=g',drawn:=d',toks:=t'}:=by
 have neL:∀ b o,X.s_0.heap.get? b=some o→b≠X.env.locals:=fun b o e=>Nat.ne_of_lt (Nat.lt_of_lt_of_le (Heap.lt_size e) I.ok.above)
 have neC:∀ b o,X.s_0.heap.get? b=some o→b∉X.ex→b∉ch:=fun b o e hx hb=>by
  rcases (hch b hb).1 with z | z
  ·exact hx z
  ·exact absurd (Nat.lt_of_lt_of_le (Heap.lt_size e) z) (Nat.lt_irrefl _)
 have cellK:∀ x c,X.env.cells.lookup x=some c→∀ v,s.heap.IsCell c v→h'.IsCell c v:=fun x c e v ⟨o,ho,hd⟩=>by
  have nch:c∉ch:=fun z=>(hch c z).2.2.1 x c e rfl
  by_cases hc:c∈X.fs
  ·obtain ⟨sl,q⟩:=slot c o (I.cne x c e) hc nch ho (I.freeC x c e)
   exact ⟨_,q,hd⟩
  ·exact ⟨o,keep c o (I.cne x c e) hc nch ho (I.freeC x c e),hd⟩
 refine ⟨I.ok,I.os,hg,⟨fun b o e n hb hx=>?_,fun b o e n hb hx=>?_,fun b o e n hx=>?_,fun b o e hx=>?_,fun b xs e=>tups b xs (I.base.tups b xs e),fun b o xs e=>frzs b o xs (I.base.frzs b o xs e),fun b ps e=>?_⟩,?_,fun x c e=>?_,?_,fun x c e=>?_,fun p hp=>?_,hok,I.len⟩
 ·exact keep b o (neL b o e) hb (neC b o e hx) (I.base.keep b o e n hb hx) (I.base.free b o e n hx)
 ·obtain ⟨sl,e1⟩:=I.base.slot b o e n hb hx
  obtain ⟨sl',e2⟩:=slot b _ (neL b o e) hb (neC b o e hx) e1 (I.base.free b o e n hx)
  exact ⟨sl',e2⟩
 ·obtain ⟨o',e1⟩:=I.base.there b o e hx
  exact free b o' (neC b o e hx) e1 (I.base.free b o e n hx)
 ·obtain ⟨o',e1⟩:=I.base.there b o e hx
  exact there b o' (neC b o e hx) e1
 ·obtain ⟨m1,e1⟩:=I.base.tbls b ps e
  obtain ⟨m2,e2⟩:=tbls b _ e1
  exact ⟨m1++m2,by rw [e2,Array.append_assoc]⟩
 ·obtain ⟨m,hn,hl⟩:=I.loc
  refine ⟨m,ns m hn,fun i x v e1 e2 e3=>?_⟩
  obtain ⟨u,r,l⟩:=hl i x v e1 e2 e3
  refine ⟨u,r,?_⟩
  rcases l with l | ⟨k,c,e,z⟩
  ·exact .inl l
  ·exact .inr ⟨k,c,e,cellK x c e _ z⟩
 ·obtain ⟨v,z⟩:=I.cell x c e
  exact ⟨v,cellK x c e v z⟩
 ·obtain ⟨m,⟨o,_,_,ho,_⟩,_⟩:=I.loc
  exact free _ o (fun z=>(hch _ z).2.1 rfl) ho I.free
 ·obtain ⟨v,o,ho,hd⟩:=I.cell x c e
  exact free c o (fun z=>(hch c z).2.2.1 x c e rfl) ho (I.freeC x c e)
 ·obtain ⟨e,n,ne,nf,d⟩:=I.pin p hp
  have nch:p.1∉ch:=fun z=>(hch p.1 z).2.2.2 p hp rfl
  exact ⟨keep p.1 p.2 ne nf nch e n,free p.1 p.2 nch e n,ne,nf,d⟩
theorem Inv.un {t':Nat} (I:Inv X pins σ H s) (u:Un X.fs [] H H' s.heap h') (hok:HOk X.prog X.w H' h'):Inv X pins σ H' {s with heap:=h',toks:=t'}:=by
 obtain ⟨m,⟨o,es,ep,ho,r⟩,_⟩:=id I.loc
 obtain ⟨sl,hL⟩:=u.any ho I.free (by simp)
 exact I.step (g':=s.gens) (d':=s.drawn) (ch:=[]) (fun _ z=>nomatch z) (fun b o _ hb _ e n=>u.keep b o e n hb (by simp)) (fun b o _ hb _ e n=>u.slot b o e n hb (by simp)) (fun b o _ e n=>u.free b o e n (by simp)) (fun b o _ e=>u.there b o e (by simp)) u.tups u.frzs u.tbls (fun m' hm=>by
  obtain ⟨o',es',ep',ho',r'⟩:=hm
  rw [ho] at ho';cases ho'
  exact ⟨_,es',ep',hL,r'⟩) hok I.bare
theorem Inv.call {g':Array GenState}{t':Nat}{d':Drawn}{ch:List Addr} (I:Inv X pins σ H s) (u:Un (frs X.stack) ch H H' s.heap h') (hok:HOk X.prog X.w H' h') (hg:AllBare g')
  (hch:∀ b∈ch,(b∈X.ex∨X.s_0.heap.objs.size≤b)∧b≠X.env.locals∧(∀ x c,X.env.cells.lookup x=some c→c≠b)∧∀ p∈X.pn++pins,p.1≠b) :
  Inv X pins σ H' {s with heap:=h',gens:=g',drawn:=d',toks:=t'}:=by
 obtain ⟨m,⟨o,es,ep,ho,r⟩,_⟩:=id I.loc
 obtain ⟨sl,hL⟩:=u.any ho I.free fun z=>(hch _ z).2.1 rfl
 exact I.step (ch:=ch) hch (fun b o hL hb hc e n=>u.keep b o e n (fun z=>(List.mem_cons.mp (I.stkSub b z)).elim hL hb) hc) (fun b o _ _ hc e n=>u.any e n hc) (fun b o hc e n=>u.free b o e n hc) (fun b o hc e=>u.there b o e hc) u.tups u.frzs u.tbls (fun m' hm=>by
  obtain ⟨o',es',ep',ho',r'⟩:=hm
  rw [ho] at ho';cases ho'
  exact ⟨_,es',ep',hL,r'⟩) hok hg
theorem Inv.turned {t':Nat}{it:Addr} (I:Inv X pins σ H s) (k:∀ b o,b≠it→s.heap.get? b=some o→h'.get? b=some o) (hn:H it=none) (hL:it≠X.env.locals)
  (h1:it∈X.ex∨X.s_0.heap.objs.size≤it) (h2:∀ x c,X.env.cells.lookup x=some c→c≠it) (h3:∀ p∈X.pn++pins,p.1≠it):Inv X pins σ H {s with heap:=h',toks:=t'}:=by
 have nit:∀ b u,H b=some u→b≠it:=fun b u e z=>by rw [z,hn] at e;cases e
 refine I.step (g':=s.gens) (d':=s.drawn) (ch:=[it]) (fun b hb=>?_) (fun b o _ _ hc e _=>k b o (fun z=>hc (by simp [z])) e) (fun b o _ _ hc e _=>⟨o.slots,k b o (fun z=>hc (by simp [z])) e⟩) (fun _ _ _ _ n=>n)
  (fun b o hc e=>⟨o,k b o (fun z=>hc (by simp [z])) e⟩) (fun _ _ e=>e) (fun _ _ _ e=>e) (fun b ps e=>⟨#[],by rw [e];simp⟩) (fun m hm=>?_) (fun b u e=>?_) I.bare
 ·have e:b=it:=by simpa using hb
  subst e
  exact ⟨h1,hL,h2,h3⟩
 ·obtain ⟨o,es,ep,ho,r⟩:=hm
  exact ⟨o,es,ep,k _ o (Ne.symm hL) ho,r⟩
 ·refine (I.hok b u e).stay (fun c v hc q=>k c v ?_ q) (fun _ q=>q) fun _ _ q=>q
  rcases hc with z | z
  ·rw [z];exact nit b u e
  ·exact nit c _ z
theorem Inv.tok (I:Inv X pins σ H s) (t:Nat):Inv X pins σ H {s with toks:=t}:=I.un (h':=s.heap) (t':=t) Un.refl I.hok
theorem Inv.kept {t':Nat} (I:Inv X pins σ H s) (k:∀ b u,s.heap.get? b=some u→h'.get? b=some u):Inv X pins σ H {s with heap:=h',toks:=t'}:=I.un (Un.kept k) (I.hok.kept k)
theorem Inv.laid {a:Addr}{o:HO}{t':Nat} (I:Inv X pins σ H s) (k:∀ b u,s.heap.get? b=some u→h'.get? b=some u) (hp:s.heap.objs.size≤a) (new:ObjOk X.prog X.w (upd H a o) h' a o) :
  Inv X pins σ (upd H a o) {s with heap:=h',toks:=t'}:=I.un (Un.laid k hp (I.hok.fresh hp)) (I.hok.laid k hp new)
theorem Inv.write {x e:Addr}{o:HO}{t':Nat} (I:Inv X pins σ H s) (mu:Mut (H x)) (he:e=x∨H e=some (.own x)) (k:∀ b u,b≠e→s.heap.get? b=some u→h'.get? b=some u) (heo:∃ u,h'.get? e=some u)
  (new:ObjOk X.prog X.w (upd H x o) h' x o):Inv X pins σ (upd H x o) {s with heap:=h',toks:=t'}:=I.un (Un.write mu he k heo) (I.hok.write mu he k heo new)
theorem Inv.weak {σ':List (Option V)} (I:Inv X pins σ H s) (hl:σ'.length=σ.length) (w:∀ (i:Nat) v,σ'[i]?=some (some v)→σ[i]?=some (some v)):Inv X pins σ' H s :=
 ⟨I.ok,I.os,I.bare,I.base,let ⟨m,hn,hl'⟩:=I.loc;⟨m,hn,fun i x v e1 e2 e3=>hl' i x v e1 (w i v e2) e3⟩,I.cell,I.free,I.freeC,I.pin,I.hok,hl.trans I.len⟩
theorem Inv.pins_of {pins':List (Addr×Obj)} (I:Inv X pins σ H s) (h:∀ p∈pins',s.heap.get? p.1=some p.2∧H p.1=none∧p.1≠X.env.locals∧p.1∉X.fs∧∀ v,p.2.data≠.cell v):Inv X pins' σ H s :=
 ⟨I.ok,I.os,I.bare,I.base,I.loc,I.cell,I.free,I.freeC,fun p hp=>(List.mem_append.mp hp).elim (fun z=>I.pin p (List.mem_append_left _ z)) (h p),I.hok,I.len⟩
theorem nodup_ix {N:List Str} (hN:N.Nodup) {i j:Nat}{x:Str} (a:N[i]?=some x) (b:N[j]?=some x):i=j:=by
 obtain ⟨h1,e1⟩:=List.getElem?_eq_some_iff.mp a
 obtain ⟨h2,e2⟩:=List.getElem?_eq_some_iff.mp b
 exact (List.getElem_inj hN).mp (e1.trans e2.symm)
theorem store_ok2 {M:Model}{A:Around}{E:Value→Shared→Prop}{i:Nat}{x:Str}{v:V}{u:Value}{Q:Unit→Shared→Prop} (I:Inv X pins σ H s) (hN:X.N.Nodup) (hi:X.N[i]?=some x) (hx:Loc X.env.scope x) (r:RelV v u)
  (h:∀ s',Inv X pins (σ.set i (some v)) H s'→(∃ a,Heap.SameBut a s.heap s'.heap∧(a=X.env.locals∨X.env.cells.lookup x=some a))→Q () s') (hf:X.fn x=true∨X.env.scope.names.lookup x=some .local:=by first | exact .inl rfl | exact .inr rfl | assumption):wpAny M A (storeName X.env x u) Q E s:=by
 obtain ⟨m,hn,hl⟩:=id I.loc
 have hcls:(X.env.scope.kind==.class || (X.env.scope.kind==.module&&X.env.locals != X.env.globals))=false:=by rw [I.ok.kind];rfl
 have hiσ:i<σ.length:=by rw [I.len];exact (List.getElem?_eq_some_iff.mp hi).1
 have cne:=I.cne
 have tracked:∀ {a:Addr}{h':Heap},(∃ o,s.heap.get? a=some o∧H a=none)→Heap.SameBut a s.heap h'→HOk X.prog X.w H h':=fun {a h'} ha hs b ob e=>by
  obtain ⟨_,_,hfree⟩:=ha
  refine (I.hok b ob e).stay (fun c w' hc q=>(hs.2 c ?_).trans q) (fun _ q=>q) fun _ _ q=>q
  rintro rfl
  rcases hc with rfl | hc
  ·rw [hfree] at e;cases e
  ·rw [hfree] at hc;cases hc
 rcases hx with hk | hk
 ·refine wpAny_storeName_local hk hn (fun h' hn' hs=>?_) hcls
  obtain ⟨oL,_,_,hoL,_⟩:=id hn
  refine h _ ⟨I.ok,I.os,I.bare,⟨fun b o e n hb hx=>?_,fun b o e n hb hx=>?_,I.base.free,fun b o e hx=>?_,I.base.tups,I.base.frzs,I.base.tbls⟩,⟨_,hn',fun j y v' e1 e2 e3=>?_⟩,fun y c e=>?_,I.free,I.freeC,fun p hp=>?_,tracked ⟨oL,hoL,I.free⟩ hs,by simpa using I.len⟩ ⟨_,hs,.inl rfl⟩
  ·exact (hs.2 b (Nat.ne_of_lt (Nat.lt_of_lt_of_le (Heap.lt_size e) I.ok.above))).trans (I.base.keep b o e n hb hx)
  ·obtain ⟨sl,e1⟩:=I.base.slot b o e n hb hx
   exact ⟨sl,(hs.2 b (Nat.ne_of_lt (Nat.lt_of_lt_of_le (Heap.lt_size e) I.ok.above))).trans e1⟩
  ·obtain ⟨o',e1⟩:=I.base.there b o e hx
   exact ⟨o',(hs.2 b (Nat.ne_of_lt (Nat.lt_of_lt_of_le (Heap.lt_size e) I.ok.above))).trans e1⟩
  ·by_cases hj:j=i
   ·subst hj
    rw [hi] at e1;cases e1
    rw [List.getElem?_set_self hiσ] at e2
    cases e2
    exact ⟨u,r,.inl ⟨hk,by simp⟩⟩
   ·rw [List.getElem?_set_ne (Ne.symm hj)] at e2
    obtain ⟨u',r',q⟩:=hl j y v' e1 e2 e3
    refine ⟨u',r',?_⟩
    rcases q with ⟨k,e⟩ | ⟨k,c,e,z⟩
    ·refine .inl ⟨k,?_⟩
     have:y≠x:=fun e=>hj (nodup_ix hN e1 (e▸hi))
     simp [this,e]
    ·exact .inr ⟨k,c,e,z.sameBut hs (cne y c e)⟩
  ·obtain ⟨w',z⟩:=I.cell y c e
   exact ⟨w',z.sameBut hs (cne y c e)⟩
  ·obtain ⟨e,n,ne,nf,d⟩:=I.pin p hp
   exact ⟨(hs.2 p.1 ne).trans e,n,ne,nf,d⟩
 ·have hfn:X.fn x=true:=by
   rcases hf with z | z
   ·exact z
   ·rw [z] at hk;cases hk
  obtain ⟨c,hc⟩:=I.ok.has x (.inl hk)
  obtain ⟨w',z⟩:=I.cell x c hc
  refine wpAny_storeName_cell I.ok.kind hk hc z (fun h' hc' hs=>?_)
  obtain ⟨oc,hoc,hocd⟩:=id z
  refine h {s with heap:=h'} ⟨I.ok,I.os,I.bare,⟨fun b o e n hb hx=>?_,fun b o e n hb hx=>?_,I.base.free,fun b o e hx=>?_,I.base.tups,I.base.frzs,I.base.tbls⟩,⟨m,hn.sameBut hs (Ne.symm (cne x c hc)),fun j y v' e1 e2 e3=>?_⟩,fun y c' e=>?_,I.free,I.freeC,fun p hp=>?_,tracked ⟨oc,hoc,I.freeC x c hc⟩ hs,by simpa using I.len⟩ ⟨c,hs,.inr hc⟩
  ·exact (hs.2 b (Nat.ne_of_lt (Nat.lt_of_lt_of_le (Heap.lt_size e) (I.ok.cab x c hfn hc)))).trans (I.base.keep b o e n hb hx)
  ·obtain ⟨sl,e1⟩:=I.base.slot b o e n hb hx
   exact ⟨sl,(hs.2 b (Nat.ne_of_lt (Nat.lt_of_lt_of_le (Heap.lt_size e) (I.ok.cab x c hfn hc)))).trans e1⟩
  ·obtain ⟨o',e1⟩:=I.base.there b o e hx
   exact ⟨o',(hs.2 b (Nat.ne_of_lt (Nat.lt_of_lt_of_le (Heap.lt_size e) (I.ok.cab x c hfn hc)))).trans e1⟩
  ·by_cases hj:j=i
   ·subst hj
    rw [hi] at e1;cases e1
    rw [List.getElem?_set_self hiσ] at e2
    cases e2
    exact ⟨u,r,.inr ⟨.inl hk,c,hc,hc'⟩⟩
   ·rw [List.getElem?_set_ne (Ne.symm hj)] at e2
    obtain ⟨u',r',q⟩:=hl j y v' e1 e2 e3
    refine ⟨u',r',?_⟩
    rcases q with q | ⟨k,c',e,z'⟩
    ·exact .inl q
    ·refine .inr ⟨k,c',e,z'.sameBut hs ?_⟩
     rintro rfl
     exact hj (nodup_ix hN e1 (I.ok.inj _ _ _ e hc▸hi))
  ·by_cases hcc:c'=c
   ·subst hcc;exact ⟨_,hc'⟩
   ·obtain ⟨w2,z2⟩:=I.cell y c' e
    exact ⟨w2,z2.sameBut hs hcc⟩
  ·obtain ⟨e,n,ne,nf,d⟩:=I.pin p hp
   refine ⟨(hs.2 p.1 ?_).trans e,n,ne,nf,d⟩
   intro q
   rw [q,hoc] at e
   have q':oc=p.2:=Option.some.inj e
   exact d w' (by rw [← q'];exact hocd)
theorem store_ok {M:Model}{A:Around}{E:Value→Shared→Prop}{i:Nat}{x:Str}{v:V}{u:Value}{Q:Unit→Shared→Prop} (I:Inv X pins σ H s) (hN:X.N.Nodup) (hi:X.N[i]?=some x) (hx:Loc X.env.scope x) (r:RelV v u)
  (h:∀ s',Inv X pins (σ.set i (some v)) H s'→Q () s') (hf:X.fn x=true∨X.env.scope.names.lookup x=some .local:=by first | exact .inl rfl | exact .inr rfl | assumption):wpAny M A (storeName X.env x u) Q E s :=
 store_ok2 I hN hi hx r (fun s' I' _=>h s' I') hf
theorem Inv.call' {s':Shared}{ch:List Addr} (I:Inv X pins σ H s) (ho:s'.os=s.os) (u:Un (frs X.stack) ch H H' s.heap s'.heap) (hok:HOk X.prog X.w H' s'.heap) (hg:AllBare s'.gens)
  (hch:∀ b∈ch,(b∈X.ex∨X.s_0.heap.objs.size≤b)∧b≠X.env.locals∧(∀ x c,X.env.cells.lookup x=some c→c≠b)∧∀ p∈X.pn++pins,p.1≠b):Inv X pins σ H' s':=by
 obtain ⟨h',g',d',t',o'⟩:=s'
 have e:o'=s.os:=ho
 subst e
 exact I.call (g':=g') (t':=t') (d':=d') u hok hg hch
end
abbrev XK:=Value→Option Addr→Hp→Prop
abbrev St:=List (Option V)
abbrev VK:=V→Hp→Prop
abbrev TE:=St→Hp→VK→Prop
abbrev TT:=St→Hp→(Bool→Hp→Prop)→Prop
abbrev TA:=St→Hp→(List V→Hp→Prop)→Prop
structure Ends where
 nx:St→Hp→Prop
 rt:VK
 bk:St→Hp→Prop:=fun _ _=>False
 ct:St→Hp→Prop:=fun _ _=>False
abbrev TS:=Ends→St→Hp→Prop
def EP (X:Cx) (pins:List (Addr×Obj)) (σ:St) (Q:VK) (u:Value) (s':Shared):Prop:=∃ v H',Inv X pins σ H' s'∧RelV v u∧Q v H'
def TP (X:Cx) (pins:List (Addr×Obj)) (σ:St) (Q:Bool→Hp→Prop) (b:Bool) (s':Shared):Prop:=∃ H',Inv X pins σ H' s'∧Q b H'
def AP (X:Cx) (pins:List (Addr×Obj)) (σ:St) (Q:List V→Hp→Prop) (us:List Value) (s':Shared):Prop:=∃ vs H',Inv X pins σ H' s'∧Vals vs us∧Q vs H'
def SP (X:Cx) (pins:List (Addr×Obj)) (D:Ends) (f:Flow) (s':Shared):Prop :=
 match f with
 | .next=>∃ σ' H',Inv X pins σ' H' s'∧D.nx σ' H'
 | .brk=>∃ σ' H',Inv X pins σ' H' s'∧D.bk σ' H'
 | .cont=>∃ σ' H',Inv X pins σ' H' s'∧D.ct σ' H'
 | .ret u=>∃ v σ' H',Inv X pins σ' H' s'∧RelV v u∧D.rt v H'
def PE (X:Cx) (e:Expr) (t:TE):Prop :=
 ∀ (pins:List (Addr×Obj)) (s:Shared) (σ:St) (H:Hp) (Q:VK),Inv X pins σ H s→t σ H Q→wpAny (model X.prog X.w) X.A (eval e X.env) (EP X pins σ Q) X.xe s
def PT (X:Cx) (e:Expr) (t:TT):Prop :=
 ∀ (pins:List (Addr×Obj)) (s:Shared) (σ:St) (H:Hp) (Q:Bool→Hp→Prop),Inv X pins σ H s→t σ H Q→wpAny (model X.prog X.w) X.A (isTrue e X.env (eval e X.env)) (TP X pins σ Q) X.xe s
def PW (X:Cx) (e:Expr) (t:TT):Prop :=
 ∀ (whole:Sem Value) (pins:List (Addr×Obj)) (s:Shared) (σ:St) (H:Hp) (Q:Bool→Hp→Prop),Inv X pins σ H s→t σ H Q→wpAny (model X.prog X.w) X.A (isTrue e X.env whole) (TP X pins σ Q) X.xe s
theorem PW.pt {X:Cx}{e:Expr}{t:TT} (h:PW X e t):PT X e t:=h _
def PA (X:Cx) (es:List Expr) (t:TA):Prop :=
 ∀ (pos:Pos) (pins:List (Addr×Obj)) (s:Shared) (σ:St) (H:Hp) (Q:List V→Hp→Prop),Inv X pins σ H s→t σ H Q→wpAny (model X.prog X.w) X.A (spliced (backTo pos (starEach es X.env))) (AP X pins σ Q) X.xe s
def PS (X:Cx) (st:Stmt) (t:TS):Prop :=
 ∀ (pins:List (Addr×Obj)) (s:Shared) (σ:St) (H:Hp) (D:Ends),Inv X pins σ H s→t D σ H→wpAny (model X.prog X.w) X.A (exec st X.env) (SP X pins D) X.xe s
def PSs (X:Cx) (st:List Stmt) (t:TS):Prop :=
 ∀ (pins:List (Addr×Obj)) (s:Shared) (σ:St) (H:Hp) (D:Ends),Inv X pins σ H s→t D σ H→wpAny (model X.prog X.w) X.A (execs st X.env) (SP X pins D) X.xe s
theorem thn {α:Type}{t:Sem α}{Q Q':α→Shared→Prop}{M:Model}{A:Around}{E:Value→Shared→Prop}{s:Shared} (h:wpAny M A t Q E s) (hQ:∀ a s,Q a s→Q' a s):wpAny M A t Q' E s:=wpAny_mono h hQ fun _ _ x=>x
end L2
namespace L2
open PySem PySem.Spec PyProof.Rows
section
variable {X:Cx}
theorem bin {a b:Expr}{ta tb:TE} (ha:PE X a ta) (hb:PE X b tb) {pins:List (Addr×Obj)}{s:Shared}{σ:St}{H:Hp}{R:V→V→Hp→Prop} (I:Inv X pins σ H s) (h:ta σ H fun x H1=>tb σ H1 fun y H2=>R x y H2)
  {α:Type}{Q:α→Shared→Prop}{f:Value→Value→Sem α}
  (hf:∀ v u s2 x y H2,Inv X pins σ H2 s2→RelV x v→RelV y u→R x y H2→wpAny (model X.prog X.w) X.A (f v u) Q X.xe s2) :
  wpAny (model X.prog X.w) X.A (eval a X.env) (fun v s₁=>wpAny (model X.prog X.w) X.A (eval b X.env) (fun u s₂=>wpAny (model X.prog X.w) X.A (f v u) Q X.xe s₂) X.xe s₁) X.xe s:=by
 refine thn (ha pins s σ H _ I h) fun v s1 ⟨x,H1,I1,r1,q1⟩=>?_
 refine thn (hb pins s1 σ H1 _ I1 q1) fun u s2 ⟨y,H2,I2,r2,q2⟩=>?_
 exact hf v u s2 x y H2 I2 r1 r2 q2
def tVar (i:Nat):TE:=fun σ H Q=>∃ v,σ[i]?=some (some v)∧Q v H
def tC (v:V):TE:=fun _ H Q=>Q v H
theorem pe_var {i:Nat}{x:Str}{pos:Pos} (hN:X.N[i]?=some x) (hv:Vis X.env.scope x) (hd:(x==("__debug__":Str))=false:=by decide) (hcd:(x==("__classdict__":Str))=false:=by decide):PE X (.Name x pos) (tVar i):=by
 intro pins s σ H Q I h
 obtain ⟨v,e,h⟩:=h
 obtain ⟨m,hn,hl⟩:=I.loc
 obtain ⟨u,r,l⟩:=hl i x v hN e hv
 have fin:EP X pins σ Q u s:=⟨v,H,I,r,h⟩
 rcases l with ⟨hk,hm⟩ | ⟨hk,c,hc,hcell⟩
 ·exact wpAny_Name (wpAny_loadName_local I.ok.kind hk hn hm fin) hd
 ·rcases hk with hk | hk
  ·exact wpAny_Name (wpAny_loadName_cell I.ok.kind hk hc hcell fin) hd
  ·exact wpAny_Name (wpAny_loadName_free I.ok.kind hk hc hcell fin hcd) hd
theorem pe_int {i j pos}:PE X (.Constant (.int i) j pos) (tC (.int i)):=fun _ _ _ H _ I h=>wpAny_Constant_int ⟨.int i,H,I.tok _,⟨_,rfl⟩,h⟩
theorem pe_bl {b j pos}:PE X (.Constant (.bool b) j pos) (tC (.bl b)):=fun _ _ _ H _ I h=>Constant_bool ⟨.bl b,H,I,rfl,h⟩
theorem pe_non {j pos}:PE X (.Constant .none j pos) (tC .non):=fun _ _ _ H _ I h=>Constant_none ⟨.non,H,I,rfl,h⟩
def Gl (X:Cx) (x:Str):Prop:=X.env.kindOf x=some .globalImplicit
theorem ld_glob {E:Value→Shared→Prop}{pins:List (Addr×Obj)}{s:Shared}{σ:St}{H:Hp}{x:Str}{u:Value}{pos:Pos}{Q:Value→Shared→Prop} (I:Inv X pins σ H s) (hg:Gl X x) (hm:X.mg x=some u) (h:Q u s)
  (hd:(x==("__debug__":Str))=false:=by decide):wpAny (model X.prog X.w) X.A (eval (.Name x pos) X.env) Q E s :=
 Calls.Name_function_global I.ok.kind hg (Calls.loadGlobal_global (by rw [I.ok.glob];exact I.mod.glob.keeps I.bk) hm h) hd
theorem ld_blt {E:Value→Shared→Prop}{pins:List (Addr×Obj)}{s:Shared}{σ:St}{H:Hp}{x:Str}{u:Value}{pos:Pos}{Q:Value→Shared→Prop} (I:Inv X pins σ H s) (hg:Gl X x) (hm:X.mg x=none) (hv:bootBuiltins x=some u) (h:Q u s)
  (hn:x≠"__name__":=by decide) (hd:(x==("__debug__":Str))=false:=by decide):wpAny (model X.prog X.w) X.A (eval (.Name x pos) X.env) Q E s:=by
 obtain ⟨mb,h1,h2⟩:=I.mod.blt
 exact Calls.Name_function_global I.ok.kind hg (Calls.loadGlobal_builtin (by rw [I.ok.glob];exact I.mod.glob.keeps I.bk) hm (by rw [I.ok.blt];exact h1.keeps I.bk) ((h2 x hn).trans hv) h) hd
theorem pe_glob {x:Str}{v:V}{u:Value}{pos:Pos} (hg:Gl X x) (hm:X.mg x=some u) (r:RelV v u) (hd:(x==("__debug__":Str))=false:=by decide):PE X (.Name x pos) (tC v) :=
 fun _ _ _ H _ I h=>ld_glob I hg hm ⟨v,H,I,r,h⟩ hd
variable {a b:Expr}{ta tb:TE}{pos:Pos}
def PC (X:Cx) (op:CmpOp) (a b:Expr) (t:TE):Prop :=
 ∀ (pins:List (Addr×Obj)) (s:Shared) (σ:St) (H:Hp) (Q:VK),Inv X pins σ H s→t σ H Q →
  wpAny (model X.prog X.w) X.A (eval a X.env) (fun v s₁=>wpAny (model X.prog X.w) X.A (eval b X.env) (fun u s₂=>wpAny (model X.prog X.w) X.A (compareOp op v u) (EP X pins σ Q) X.xe s₂) X.xe s₁) X.xe s
theorem nobehind (b:Expr) {op:CmpOp} (h:op≠.In) (h2:op≠.NotIn):behindInMarks op b=false:=by
 have e1:(op==CmpOp.In)=false:=by cases op <;> first | rfl | exact absurd rfl h
 have e2:(op==CmpOp.NotIn)=false:=by cases op <;> first | rfl | exact absurd rfl h2
 cases b <;> simp [behindInMarks,e1,e2]
def tIsN (ta:TE):TE:=fun σ H Q=>ta σ H fun x H1=>Q (.bl (decide (x=.non))) H1
theorem RelV.none_iff {x:V}{v:Value} (r:RelV x v):(v==Value.none)=decide (x=.non):=by
 cases x with
 | non=>cases r;rfl
 | bl _=>cases r;rfl
 | int _=>obtain ⟨t,rfl⟩:=r;rfl
 | str _=>obtain ⟨t,rfl⟩:=r;rfl
 | byt _=>obtain ⟨t,rfl⟩:=r;rfl
 | flt _=>obtain ⟨t,rfl⟩:=r;rfl
 | ref _=>cases r;rfl
 | ty _=>cases r;rfl
theorem pc_isN {j pos'} (ha:PE X a ta):PC X .Is a (.Constant .none j pos') (tIsN ta):=by
 intro pins s σ H Q I h
 refine thn (ha pins s σ H _ I h) fun v s1 ⟨x,H1,I1,r1,q1⟩=>?_
 exact Constant_none (is_none_gen ⟨.bl _,H1,I1,by rw [r1.none_iff];rfl,q1⟩)
def tB (t:TE):TT:=fun σ H Q=>t σ H fun x H1=>∃ c,x=.bl c∧Q c H1
theorem pe_cmp {op:CmpOp}{t:TE} (h:PC X op a b t) (h1:behindInMarks op b=false:=by first | exact nobehind _ (by decide) (by decide) | rfl):PE X (.Compare a [op] [b] pos) t:=fun pins s σ H Q I hw=>wpAny_Compare1 (h pins s σ H Q I hw) h1
theorem pt_cmp {op:CmpOp}{t:TE} (h:PC X op a b t) (h1:behindInMarks op b=false:=by first | exact nobehind _ (by decide) (by decide) | rfl):PT X (.Compare a [op] [b] pos) (tB t):=by
 intro pins s σ H Q I hw
 refine wpAny_isTrue_Compare1 (thn (h pins s σ H _ I hw) fun v s1 h1=>thn h1 fun u s2 h2=>thn h2 fun c s3 ⟨x,H1,I1,r1,q1⟩=>?_) h1
 obtain ⟨d,rfl,q⟩:=q1
 cases r1
 exact wpAny_truthy_bool ⟨H1,I1,q⟩
theorem pt_val {e:Expr}{t:TE} (h:PE X e t) (he:∀ whole,isTrue e X.env whole=(do let v ← whole;standAt e.pos;holding [v] (truthy v)):=by intro _;rfl):PT X e (tB t):=by
 intro pins s σ H Q I hw
 refine isTrue_plain (thn (h pins s σ H _ I hw) fun v s1 ⟨x,H1,I1,r1,q1⟩=>?_) (he _)
 obtain ⟨d,rfl,q⟩:=q1
 cases r1
 exact wpAny_truthy_bool ⟨H1,I1,q⟩
variable {tA tB':TT}{rest:List Expr}
def tAnd (t u:TT):TT:=fun σ H Q=>t σ H fun c H1=>if c=true then u σ H1 Q else Q false H1
def tOr (t u:TT):TT:=fun σ H Q=>t σ H fun c H1=>if c=true then Q true H1 else u σ H1 Q
def tNot (t:TT):TT:=fun σ H Q=>t σ H fun c H1=>Q (!c) H1
theorem pw_and1 (ha:PT X a tA):PW X (.BoolOp .And [a] pos) tA:=by
 intro wh pins s σ H Q I h
 refine isTrue_and (thn (ha pins s σ H Q I h) fun c s1 e=>?_)
 cases c with
 | true=>exact isTrue_and_nil e
 | false=>exact e
theorem pw_or1 (ha:PT X a tA):PW X (.BoolOp .Or [a] pos) tA:=by
 intro wh pins s σ H Q I h
 refine isTrue_or (thn (ha pins s σ H Q I h) fun c s1 e=>?_)
 cases c with
 | false=>exact isTrue_or_nil e
 | true=>exact e
theorem pw_and (ha:PT X a tA) (hb:PW X (.BoolOp .And (b::rest) pos) tB'):PW X (.BoolOp .And (a::b::rest) pos) (tAnd tA tB'):=by
 intro wh pins s σ H Q I h
 refine isTrue_and (thn (ha pins s σ H _ I h) fun c s1 ⟨H1,I1,q1⟩=>?_)
 cases c with
 | true=>exact hb wh pins s1 σ H1 Q I1 q1
 | false=>exact ⟨H1,I1,q1⟩
theorem pw_or (ha:PT X a tA) (hb:PW X (.BoolOp .Or (b::rest) pos) tB'):PW X (.BoolOp .Or (a::b::rest) pos) (tOr tA tB'):=by
 intro wh pins s σ H Q I h
 refine isTrue_or (thn (ha pins s σ H _ I h) fun c s1 ⟨H1,I1,q1⟩=>?_)
 cases c with
 | true=>exact ⟨H1,I1,q1⟩
 | false=>exact hb wh pins s1 σ H1 Q I1 q1
theorem pt_not (ha:PT X a tA):PT X (.UnaryOp .Not a pos) (tNot tA):=by
 intro pins s σ H Q I h
 exact isTrue_not (ha pins s σ H (fun c H1=>Q (!c) H1) I h)
end
end L2
namespace L2
open PySem PySem.Spec PyProof.Rows
def SqL (K:PySem.W.Frag) (H:Hp) (a:Addr) (xs:List V):Prop :=
 Rd H a (.lst xs) ∨
  ∃ (o:Obj) (its:Array Value) (n:Nat),K.lookup a=some o∧o.cls=.type "list"∧o.dict=none∧o.data=.seq its n∧its.size≤sizeLine∧Vals xs its.toList
def SqT (K:PySem.W.Frag) (H:Hp) (a:Addr) (xs:List V):Prop :=
 Rd H a (.tup xs) ∨
  ∃ (o:Obj) (its:Array Value) (n:Nat),K.lookup a=some o∧o.cls=.type "tuple"∧o.data=.seq its n∧its.size≤sizeLine∧Vals xs its.toList
def absV:Value→Option V
 | .none=>some .non
 | .bool b=>some (.bl b)
 | .int i _=>some (.int i)
 | .str x _=>some (.str x)
 | .bytes b _=>some (.byt b)
 | .float b _=>some (.flt b)
 | .ref a=>some (.ref a)
 | .type n=>some (.ty n)
 | _=>none
theorem RelV.abs {x:V}{u:Value} (r:RelV x u):absV u=some x:=by
 cases x with
 | non=>cases r;rfl
 | bl _=>cases r;rfl
 | int _=>obtain ⟨t,rfl⟩:=r;rfl
 | str _=>obtain ⟨t,rfl⟩:=r;rfl
 | byt _=>obtain ⟨t,rfl⟩:=r;rfl
 | flt _=>obtain ⟨t,rfl⟩:=r;rfl
 | ref _=>cases r;rfl
 | ty _=>cases r;rfl
theorem RelV.inj {x y:V}{u:Value} (r:RelV x u) (q:RelV y u):x=y:=Option.some.inj (r.abs.symm.trans q.abs)
theorem Vals.inj:∀ {xs ys:List V}{us:List Value},Vals xs us→Vals ys us→xs=ys
 | _,_,_,.nil,.nil=>rfl
 | _,_,_,.cons r t,.cons r' t'=>by rw [r.inj r',Vals.inj t t']
section
variable {X:Cx}{pins:List (Addr×Obj)}{σ:St}{H:Hp}{s:Shared}{a:Addr}{xs ys:List V}
theorem SqL.of {K:PySem.W.Frag} (h:H a=some (.lst xs)):SqL K H a xs:=.inl (.inl h)
theorem SqT.of {K:PySem.W.Frag} (h:H a=some (.tup xs)):SqT K H a xs:=.inl (.inl h)
theorem Inv.list (I:Inv X pins σ H s) (h:SqL X.K H a xs):∃ its:List Value,Vals xs its∧PlainL s.heap a its.toArray∧xs.length≤sizeLine:=by
 rcases h with h | ⟨o,its,n,hk,hc,hd,hs,hz,r⟩
 ·obtain ⟨z,its,n,r,e⟩:=h.ok I.hok
  exact ⟨its,r,⟨_,n,e,rfl,rfl,rfl⟩,z⟩
 ·refine ⟨its.toList,r,⟨o,n,I.kIn a o hk,hc,hd,by simpa using hs⟩,?_⟩
  have e:=r.length
  simp only [Array.length_toList] at e
  omega
theorem Inv.tuple (I:Inv X pins σ H s) (h:SqT X.K H a xs):∃ its:List Value,Vals xs its∧IsTup s.heap a its.toArray∧xs.length≤sizeLine:=by
 rcases h with h | ⟨o,its,n,hk,hc,hs,hz,r⟩
 ·obtain ⟨z,its,r,p⟩:=h.ok I.hok
  exact ⟨its,r,p,z⟩
 ·refine ⟨its.toList,r,⟨o,I.kIn a o hk,hc,n,by simpa using hs⟩,?_⟩
  have e:=r.length
  simp only [Array.length_toList] at e
  omega
theorem Inv.list_inj (I:Inv X pins σ H s) (h:SqL X.K H a xs) (h':SqL X.K H a ys):xs=ys:=by
 obtain ⟨its,r,⟨o,n,e,_,_,d⟩,_⟩:=I.list h
 obtain ⟨its',r',⟨o',n',e',_,_,d'⟩,_⟩:=I.list h'
 rw [e] at e';cases e'
 rw [d] at d'
 injection d' with d1 _
 have:its=its':=by simpa using congrArg Array.toList d1
 subst this
 exact r.inj r'
end
abbrev Cx.wish (X:Cx) (E:Value→Shared→Prop):Cx:={X with xe:=E}
abbrev Cx.nox (X:Cx):Cx:=X.wish fun _ _=>False
theorem Cx.Ok.wish {X:Cx} (ok:X.Ok) (E:Value→Shared→Prop):(X.wish E).Ok :=
 ⟨ok.mod,ok.kind,ok.glob,ok.blt,ok.above,ok.inj,ok.has,ok.cab,ok.hd,ok.frames,ok.stk,ok.exf,ok.bs,ok.bsz,ok.noex,ok.exfs,ok.funs,ok.frf⟩
theorem Cx.Ok.unwish {X:Cx}{E:Value→Shared→Prop} (ok:(X.wish E).Ok):X.Ok :=
 ⟨ok.mod,ok.kind,ok.glob,ok.blt,ok.above,ok.inj,ok.has,ok.cab,ok.hd,ok.frames,ok.stk,ok.exf,ok.bs,ok.bsz,ok.noex,ok.exfs,ok.funs,ok.frf⟩
section
variable {X:Cx}{pins:List (Addr×Obj)}{σ:St}{H:Hp}{s:Shared}{E:Value→Shared→Prop}
theorem Inv.wish (I:Inv X pins σ H s) (E:Value→Shared→Prop):Inv (X.wish E) pins σ H s:=⟨I.ok.wish E,I.os,I.bare,I.base,I.loc,I.cell,I.free,I.freeC,I.pin,I.hok,I.len⟩
theorem Inv.unwish (I:Inv (X.wish E) pins σ H s):Inv X pins σ H s:=⟨I.ok.unwish,I.os,I.bare,I.base,I.loc,I.cell,I.free,I.freeC,I.pin,I.hok,I.len⟩
theorem SP.unwish {D:Ends}{f:Flow}{s':Shared} (h:SP (X.wish E) pins D f s'):SP X pins D f s':=by
 cases f with
 | next=>obtain ⟨σ',H',I,q⟩:=h;exact ⟨σ',H',I.unwish,q⟩
 | brk=>obtain ⟨σ',H',I,q⟩:=h;exact ⟨σ',H',I.unwish,q⟩
 | cont=>obtain ⟨σ',H',I,q⟩:=h;exact ⟨σ',H',I.unwish,q⟩
 | ret u=>obtain ⟨v,σ',H',I,r,q⟩:=h;exact ⟨v,σ',H',I.unwish,r,q⟩
theorem PSs.nox {st:List Stmt}{t:TS} (h:PSs X.nox st t):PSs X st t:=fun pins s σ H D I hw =>
 wpAny_mono (h pins s σ H D (I.wish _) hw) (fun _ _ q=>q.unwish) fun _ _ z=>False.elim z
end
section
variable {X:Cx}{st:Stmt}{rest:List Stmt}{t u:TS}{e:Expr}{te:TE}{pos:Pos}
def tNext:TS:=fun D σ H=>D.nx σ H
def tSeq (t u:TS):TS:=fun D σ H=>t {D with nx:=u D} σ H
theorem pss_nil:PSs X [] tNext:=fun _ _ σ H _ I h=>wpAny_execs_nil ⟨σ,H,I,h⟩
theorem pss_cons (h1:PS X st t) (h2:PSs X rest u):PSs X (st::rest) (tSeq t u):=by
 intro pins s σ H D I h
 refine wpAny_execs_cons (thn (h1 pins s σ H {D with nx:=u D} I h) fun f s1 q=>?_)
 cases f with
 | next =>
  obtain ⟨σ',H',I',q⟩:=q
  exact h2 pins s1 σ' H' D I' q
 | ret v=>exact q
 | brk=>exact q
 | cont=>exact q
theorem pss_one (h1:PS X st t):PSs X [st] t:=by
 intro pins s σ H D I h
 refine wpAny_execs_cons (thn (h1 pins s σ H D I h) fun f s1 q=>?_)
 cases f with
 | next=>exact wpAny_execs_nil q
 | ret v=>exact q
 | brk=>exact q
 | cont=>exact q
theorem Inv.quiet {pins:List (Addr×Obj)}{σ:St}{H:Hp}{s:Shared} (I:Inv X pins σ H s):interactive X.env=false:=by simp [interactive,I.ok.kind]
def tDrop (te:TE):TS:=fun D σ H=>te σ H fun _ H1=>D.nx σ H1
theorem ps_expr (he:PE X e te) (hs:swapsWith e none pos.line X.env=pure false:=by rfl):PS X (.Expr e pos) (tDrop te):=by
 intro pins s σ H D I h
 exact wpAny_Expr_any (thn (he pins s σ H _ I h) fun v s1 ⟨x,H1,I1,r1,q1⟩=>⟨σ,H1,I1,q1⟩) I.quiet hs
def tRet (te:TE):TS:=fun D σ H=>te σ H D.rt
theorem ps_ret (he:PE X e te):PS X (.Return (some e) pos) (tRet te):=by
 intro pins s σ H D I h
 exact wpAny_Return_some (thn (he pins s σ H _ I h) fun v s1 ⟨x,H1,I1,r1,q1⟩=>⟨x,σ,H1,I1,r1,q1⟩)
def tRetN:TS:=fun D _ H=>D.rt .non H
theorem ps_retN:PS X (.Return none pos) tRetN:=fun _ _ σ H _ I h=>wpAny_Return_none ⟨.non,σ,H,I,rfl,h⟩
def tIfS (c:TT) (t u:TS):TS:=fun D σ H=>c σ H fun b H1=>if b=true then t D σ H1 else u D σ H1
theorem ps_if {c:Expr}{a b:List Stmt}{tc:TT} (hc:PT X c tc) (ha:PSs X a t) (hb:PSs X b u):PS X (.If c a b pos) (tIfS tc t u):=by
 intro pins s σ H D I h
 refine wpAny_If (thn (hc pins s σ H _ I h) fun d s1 ⟨H1,I1,q1⟩=>?_)
 cases d with
 | true=>exact ha pins s1 σ H1 D I1 q1
 | false=>exact hb pins s1 σ H1 D I1 q1
end
abbrev TG:=V→St→Hp→(St→Hp→Prop)→Prop
abbrev TGs:=List V→St→Hp→(St→Hp→Prop)→Prop
def PG (X:Cx) (target:Expr) (t:TG):Prop :=
 ∀ (pins:List (Addr×Obj)) (s:Shared) (σ:St) (H:Hp) (v:V) (u:Value) (Q:St→Hp→Prop),Inv X pins σ H s→RelV v u→t v σ H Q →
  wpAny (model X.prog X.w) X.A (assign target X.env u) (fun _ s'=>∃ σ' H',Inv X pins σ' H' s'∧Q σ' H') X.xe s
def PGs (X:Cx) (ts:List Expr) (t:TGs):Prop :=
 ∀ (pins:List (Addr×Obj)) (s:Shared) (σ:St) (H:Hp) (vs:List V) (us:List Value) (Q:St→Hp→Prop),Inv X pins σ H s→Vals vs us→t vs σ H Q →
  wpAny (model X.prog X.w) X.A (assignInOrder ((assignEach ts X.env).map (·.2)) us) (fun _ s'=>∃ σ' H',Inv X pins σ' H' s'∧Q σ' H') X.xe s
section
variable {X:Cx}{pos:Pos}
def gName (i:Nat):TG:=fun v σ H Q=>Q (σ.set i (some v)) H
theorem pg_name {i:Nat}{x:Str} (hN:X.N.Nodup) (hi:X.N[i]?=some x) (hx:Loc X.env.scope x) (hf:X.fn x=true∨X.env.scope.names.lookup x=some .local:=by first | exact .inl rfl | exact .inr rfl | assumption):PG X (.Name x pos) (gName i):=by
 intro pins s σ H v u Q I r h
 exact wpAny_assign_Name (store_ok I hN hi hx r (fun s' I'=>⟨_,H,I',h⟩) hf)
def gNil:TGs:=fun vs σ H Q=>vs=[]∧Q σ H
def gCons (t:TG) (u:TGs):TGs:=fun vs σ H Q=>∃ v r,vs=v::r∧t v σ H fun σ' H'=>u r σ' H' Q
theorem pgs_nil:PGs X [] gNil:=by
 intro pins s σ H vs us Q I r h
 obtain ⟨e,h⟩:=h
 subst e
 cases r
 exact assignInOrder_nil ⟨σ,H,I,h⟩
theorem pgs_cons {e:Expr}{es:List Expr}{t:TG}{u:TGs} (h1:PG X e t) (h2:PGs X es u)
  (hs:(assignEach (e::es) X.env).map (·.2)=assign e X.env::(assignEach es X.env).map (·.2):=by rfl):PGs X (e::es) (gCons t u):=by
 intro pins s σ H vs us Q I r h
 obtain ⟨v,vr,e1,h⟩:=h
 subst e1
 cases r with
 | cons r rr =>
  rw [hs]
  refine assignInOrder_cons (thn (h1 pins s σ H _ _ _ I r h) fun _ s1 ⟨σ1,H1,I1,q1⟩=>?_)
  exact h2 pins s1 σ1 H1 _ _ Q I1 rr q1
def gTup (K:PySem.W.Frag) (n:Nat) (t:TGs):TG:=fun v σ H Q=>∃ a xs,v=.ref a∧SqT K H a xs∧xs.length=n∧t xs σ H Q
theorem pg_tup {es:List Expr}{k:Nat}{t:TGs}{n:Nat} (hc:X.calm=true) (h:PGs X es t)
  (hn:(assignEach es X.env).length=n:=by rfl) (hst:(assignEach es X.env).findIdx? (·.1)=none:=by rfl):PG X (.Tuple es k pos) (gTup X.K n t):=by
 intro pins s σ H v u Q I r hw
 obtain ⟨a,xs,e1,hq,hl,hw⟩:=hw
 subst e1
 cases r
 obtain ⟨its,rv,ht,hz⟩:=I.tuple hq
 refine assign_Tuple_tuple (I.ok.hd hc) ht (by simp [hn,← hl,rv.length]) hst fun h' hx=>?_
 have I1:Inv X pins σ H {s with heap:=h'}:=I.kept (t':=s.toks) fun b o e=>hx b o (Nat.ne_of_lt (Heap.lt_size e)) e
 exact h pins _ σ H xs _ Q I1 (by simpa using rv) hw
def tAsg (te:TE) (g:TG):TS:=fun D σ H=>te σ H fun x H1=>g x σ H1 D.nx
theorem ps_set {i:Nat}{x:Str}{e:Expr}{te:TE}{pos':Pos} (hN:X.N.Nodup) (hi:X.N[i]?=some x) (hx:Loc X.env.scope x) (he:PE X e te) (hs:swapsWith e (some (.Name x pos')) pos.line X.env=pure false:=by rfl) (hf:X.fn x=true∨X.env.scope.names.lookup x=some .local:=by first | exact .inl rfl | exact .inr rfl | assumption) :
  PS X (.Assign [.Name x pos'] e pos) (tAsg te (gName i)):=by
 intro pins s σ H D I h
 refine wpAny_Assign_Name (thn (he pins s σ H _ I h) fun v s1 ⟨y,H1,I1,r1,q1⟩=>?_) hs
 exact store_ok I1 hN hi hx r1 (fun s2 I2=>⟨_,H1,I2,q1⟩) hf
end
section
variable {X:Cx}{pos:Pos}
def tWhile (c:TT) (tb:TS):TS:=fun D σ H=>∃ W:Nat→St→Hp→Prop,(∃ m,W m σ H)∧∀ m σ H,W m σ H →
 c σ H fun b H1=>if b=true then ∃ N:St→Hp→Prop,(∀ σ' H',N σ' H'→∃ m',m'<m∧W m' σ' H')∧tb {D with nx:=N,ct:=N,bk:=D.nx} σ H1 else D.nx σ H1
theorem ps_while {c:Expr}{body:List Stmt}{tc:TT}{tb:TS} (hp:PassesOwn (model X.prog X.w) X.A X.env X.xe) (hc:PT X c tc) (hb:PSs X body tb):PS X (.While c body [] pos) (tWhile tc tb):=by
 intro pins s σ H D I h
 obtain ⟨W,⟨m0,w0⟩,turn⟩:=h
 refine wpAny_While (codeAny_whileLoop (fun n s'=>∃ σ' H',Inv X pins σ' H' s'∧W n σ' H') ?_ m0 ⟨σ,H,I,w0⟩)
 rintro n s1 ⟨σ1,H1,I1,w1⟩
 refine wpAny_passesOwn hp (thn (hc pins s1 σ1 H1 _ I1 (turn n σ1 H1 w1)) fun b s2 ⟨H2,I2,q2⟩=>?_)
 cases b with
 | true =>
  obtain ⟨N,hN,q2⟩:=q2
  rw [if_pos rfl]
  refine wpAny_passesOwn hp (thn (hb pins s2 σ1 H2 _ I2 q2) fun f s3 q3=>?_)
  cases f with
  | next =>
   obtain ⟨σ3,H3,I3,n3⟩:=q3
   obtain ⟨m',hm,w3⟩:=hN σ3 H3 n3
   exact ⟨m',hm,σ3,H3,I3,w3⟩
  | cont =>
   obtain ⟨σ3,H3,I3,n3⟩:=q3
   obtain ⟨m',hm,w3⟩:=hN σ3 H3 n3
   exact ⟨m',hm,σ3,H3,I3,w3⟩
  | brk=>exact q3
  | ret v=>exact q3
 | false =>
  rw [if_neg Bool.false_ne_true]
  exact wpAny_execs_nil ⟨σ1,H2,I2,q2⟩
end
structure It where
 go:Nat→Hp→Prop
 yld:Nat→Hp→V→Hp→Prop
 stop:Nat→Hp→Prop
def FpOk (X:Cx) (pins:List (Addr×Obj)) (H:Hp) (b:Addr):Prop :=
 H b=none∧b≠X.env.locals∧b∉X.fs∧(b∈X.ex∨X.s_0.heap.objs.size≤b)∧(∀ x c,X.env.cells.lookup x=some c→c≠b)∧∀ p∈X.pn++pins,p.1≠b
theorem Inv.fpOk {X:Cx}{pins:List (Addr×Obj)}{σ:St}{H H':Hp}{s:Shared}{b:Addr} (I:Inv X pins σ H s) (hb:s.heap.objs.size≤b) (hn:H' b=none):FpOk X pins H' b:=by
 refine ⟨hn,Nat.ne_of_gt (Nat.lt_of_lt_of_le I.lt hb),I.nofs hb,.inr (Nat.le_trans I.sz hb),fun x c e z=>?_,fun p hp z=>?_⟩
 ·obtain ⟨v,q⟩:=I.cell x c e
  exact absurd (Nat.lt_of_lt_of_le q.lt (by rw [z];exact hb)) (Nat.lt_irrefl _)
 ·exact absurd (Nat.lt_of_lt_of_le (Heap.lt_size (I.pin p hp).1) (by rw [z];exact hb)) (Nat.lt_irrefl _)
structure Turn (P:Program) (w:World) (K:PySem.W.Frag) (tg:Expr) (J:It) (fp:List Addr) (it:Addr) (tn:Nat→Heap→Prop):Prop where
 mem:it∈fp
 obj:∀ i h,tn i h→∀ b∈fp,∃ o,h.get? b=some o∧∀ v,o.data≠.cell v
 keep:∀ i h h',tn i h→(∀ b∈fp,∀ o,h.get? b=some o→h'.get? b=some o)→tn i h'
 item:∀ (X:Cx),X.prog=P→X.w=w→X.K=K→X.calm=true→∀ (i:Nat) (pins:List (Addr×Obj)) (s:Shared) (σ:St) (H:Hp) (E:Value→Shared→Prop),Inv X pins σ H s→(∀ b∈fp,FpOk X pins H b)→tn i s.heap→J.go i H →
  wpAny (model P w) X.A (pyNext (.ref it)) (fun r s1=>∃ u,r=some u ∧
   wpAny (model P w) X.A (letOwnedTupleGo tg (.ref it) u) (fun _ s2=>∃ x H',Inv X pins σ H' s2∧RelV x u∧J.yld i H x H'∧tn (i+1) s2.heap∧∀ b∈fp,H' b=none) E s1) E s
 done:∀ (X:Cx),X.prog=P→X.w=w→X.K=K→X.calm=true→∀ (i:Nat) (pins:List (Addr×Obj)) (s:Shared) (σ:St) (H:Hp) (E:Value→Shared→Prop),Inv X pins σ H s→(∀ b∈fp,FpOk X pins H b)→tn i s.heap→J.stop i H →
  wpAny (model P w) X.A (pyNext (.ref it)) (fun r s1=>r=none∧Inv X pins σ H s1) E s
 self:∀ (A:Around) (i:Nat) (s:Shared) (Q:Value→Shared→Prop) (E:Value→Shared→Prop),tn i s.heap→Q (.ref it) s→wpAny (model P w) A (pyIter (.ref it)) Q E s
abbrev TI:=St→Hp→(It→Hp→Prop)→Prop
def PIE (X:Cx) (pins:List (Addr×Obj)) (σ:St) (tg:Expr) (R:It→Hp→Prop) (itv:Value) (s2:Shared):Prop :=
 ∃ (it:Addr) (fp:List Addr) (tn:Nat→Heap→Prop) (J:It) (H':Hp),itv=.ref it∧Inv X pins σ H' s2∧Turn X.prog X.w X.K tg J fp it tn∧tn 0 s2.heap∧(∀ b∈fp,FpOk X pins H' b)∧R J H'
def PI (X:Cx) (tg iter:Expr) (wi:TI):Prop :=
 ∀ (pins:List (Addr×Obj)) (s:Shared) (σ:St) (H:Hp) (R:It→Hp→Prop),Inv X pins σ H s→wi σ H R →
  wpAny (model X.prog X.w) X.A (eval iter X.env) (fun v s1=>wpAny (model X.prog X.w) X.A (pyIter v) (PIE X pins σ tg R) X.xe s1) X.xe s
theorem go_of {M:Model}{A:Around}{E:Value→Shared→Prop}{s:Shared}{tg:Expr}{it:Addr}{u:Value}{o:Obj}{n:String}{vs:Array Value}{Q:Unit→Shared→Prop} (ho:s.heap.get? it=some o) (hc:o.cls=.type n) (hd:o.data=.fields vs)
  (hn:["enumerate","zip","dict_itemiterator","dict_reverseitemiterator","odict_iterator","itertools.zip_longest","itertools.pairwise"].contains n=false) (hQ:Q () s):wpAny M A (letOwnedTupleGo tg (.ref it) u) Q E s:=by
 unfold letOwnedTupleGo
 cases tg <;> first
  | exact wpAny_pure hQ
  | (cases u <;> first
    | exact wpAny_pure hQ
    | (refine wpAny_bind (wpAny_load ho ?_);rw [hc,hd];(show wpAny M A (if (["enumerate","zip","dict_itemiterator","dict_reverseitemiterator","odict_iterator","itertools.zip_longest","itertools.pairwise"].contains n&&vs[0]?==some (rawInt _))=true then _ else _) Q E s);rw [if_neg (by intro h;rw [hn,Bool.false_and] at h;cases h)];exact wpAny_pure hQ))
def Itl (K:PySem.W.Frag) (a:Addr):It :=
 ⟨fun i H=>∃ xs x,SqL K H a xs∧xs[i]?=some x,fun i H x H'=>H'=H∧∀ xs,SqL K H a xs→xs[i]?=some x,fun i H=>∃ xs,SqL K H a xs∧xs.length≤i⟩
theorem turn_list {P:Program}{w:World}{K:PySem.W.Frag}{tg:Expr} (a it:Addr):Turn P w K tg (Itl K a) [it] it (fun i h=>h.IsListIter it a i) where
 mem:=by simp
 obj:=fun i h st b hb=>by
  have e:b=it:=by simpa using hb
  subst e
  obtain ⟨o,e,c,d⟩:=st
  exact ⟨o,e,fun v z=>by rw [d] at z;cases z⟩
 keep:=fun i h h' st k=>st.at fun o e=>k it (by simp) o e
 item:=by
  intro X hP hw hK hc i pins s σ H E I hf st hg
  subst hP hw hK
  obtain ⟨xs,x,hq,hx⟩:=hg
  obtain ⟨its,rv,p,hz⟩:=I.list hq
  obtain ⟨u,hu,ru⟩:=rv.get hx
  obtain ⟨f0,f1,f2,f3,f4,f5⟩:=hf it (by simp)
  refine wpAny_pyNext_list_item st p.isList (x:=u) (by simpa using hu) fun h' st' sb=>?_
  have I1:Inv X pins σ H {s with heap:=h'}:=I.turned (t':=s.toks) (fun b o hb e=>(sb.2 b hb).trans e) f0 f1 f3 f4 f5
  obtain ⟨o,e,c,d⟩:=id st'
  exact ⟨u,rfl,go_of (s:={s with heap:=h'}) e c d (by decide) ⟨x,H,I1,ru,⟨rfl,fun ys hy=>by rw [I.list_inj hy hq];exact hx⟩,st',fun b hb=>(hf b hb).1⟩⟩
 done:=by
  intro X hP hw hK hc i pins s σ H E I hf st hg
  subst hP hw hK
  obtain ⟨xs,hq,hx⟩:=hg
  obtain ⟨its,rv,p,hz⟩:=I.list hq
  obtain ⟨f0,f1,f2,f3,f4,f5⟩:=hf it (by simp)
  have hl:=rv.length
  exact wpAny_pyNext_list_end (I.ok.hd hc) st p.isList (by simp;omega) fun h' eb=>⟨rfl,I.turned (t':=s.toks) (fun b o hb e=>eb b o hb e) f0 f1 f3 f4 f5⟩
 self:=fun _ _ _ _ _ st h=>wpAny_pyIter_listiter st h
end L2
namespace L2
open PySem PySem.Spec PyProof.Rows
section
variable {X:Cx}{tg:Expr}
def iList (K:PySem.W.Frag) (tl:TE):TI:=fun σ H R=>tl σ H fun x H1=>∃ a,x=.ref a∧(∃ xs,SqL K H1 a xs)∧R (Itl K a) H1
theorem pi_list {l:Expr}{tl:TE} (hl:PE X l tl):PI X tg l (iList X.K tl):=by
 intro pins s σ H R I h
 refine thn (hl pins s σ H _ I h) fun v s1 ⟨x,H1,I1,r1,q1⟩=>?_
 obtain ⟨a,e,⟨xs,hq⟩,q⟩:=q1
 subst e
 cases r1
 obtain ⟨its,rv,p,hz⟩:=I1.list hq
 refine wpAny_pyIter_list p.isList ?_
 refine ⟨s1.heap.objs.size,[s1.heap.objs.size],_,_,H1,rfl,I1.kept (t':=s1.toks) fun b o e=>Heap.get?_push_of_some _ e,turn_list a _,⟨_,Heap.get?_push_size _ rfl,rfl,rfl⟩,fun b hb=>?_,q⟩
 have e:b=s1.heap.objs.size:=by simpa using hb
 subst e
 exact I1.fpOk (Nat.le_refl _) (I1.hok.fresh (Nat.le_refl _))
def tFor (wi:TI) (g:TG) (tb:TS):TS:=fun D σ H=>wi σ H fun J H1=>∃ W:Nat→Nat→St→Hp→Prop,(∃ m,W 0 m σ H1)∧∀ i m σ H,W i m σ H →
 (J.stop i H∧D.nx σ H)∨(J.go i H∧∃ N:St→Hp→Prop,(∀ σ' H',N σ' H'→∃ m',m'<m∧W (i+1) m' σ' H')∧∀ x H',J.yld i H x H'→g x σ H' fun σ2 H2=>tb {D with nx:=N,ct:=N,bk:=D.nx} σ2 H2)
def pinsAt (fp:List Addr) (h:Heap):List (Addr×Obj):=fp.filterMap fun b=>(h.get? b).map fun o=>(b,o)
theorem mem_pinsAt {fp:List Addr}{h:Heap}{b:Addr}{o:Obj} (hb:b∈fp) (e:h.get? b=some o):(b,o)∈pinsAt fp h:=List.mem_filterMap.mpr ⟨b,hb,by rw [e];rfl⟩
theorem of_pinsAt {fp:List Addr}{h:Heap}{p:Addr×Obj} (hp:p∈pinsAt fp h):p.1∈fp∧h.get? p.1=some p.2:=by
 obtain ⟨b,hb,e⟩:=List.mem_filterMap.mp hp
 cases q:h.get? b with
 | none=>rw [q] at e;cases e
 | some o =>
  rw [q] at e
  have e':(b,o)=p:=Option.some.inj e
  subst e'
  exact ⟨hb,q⟩
theorem Inv.pinned {pins:List (Addr×Obj)}{σ:St}{H:Hp}{s:Shared}{fp:List Addr} (I:Inv X pins σ H s) (hf:∀ b∈fp,FpOk X pins H b) (ho:∀ b∈fp,∃ o,s.heap.get? b=some o∧∀ v,o.data≠.cell v):Inv X (pins++pinsAt fp s.heap) σ H s :=
 I.pins_of fun p hp=>(List.mem_append.mp hp).elim (fun z=>I.pin p (List.mem_append_right _ z)) fun z=>by
  obtain ⟨hb,e⟩:=of_pinsAt z
  obtain ⟨f0,f1,f2,_⟩:=hf p.1 hb
  obtain ⟨o,e',d⟩:=ho p.1 hb
  rw [e] at e';cases e'
  exact ⟨e,f0,f1,f2,d⟩
theorem Inv.unpinned {pins pl:List (Addr×Obj)}{σ:St}{H:Hp}{s:Shared} (I:Inv X (pins++pl) σ H s):Inv X pins σ H s:=I.pins_of fun p hp=>I.pin p (List.mem_append_right _ (List.mem_append_left _ hp))
theorem ps_for {iter:Expr}{body:List Stmt}{wi:TI}{g:TG}{tb:TS}{pos:Pos} (hp:PassesOwn (model X.prog X.w) X.A X.env X.xe) (hc:X.calm=true) (hi:PI X tg iter wi) (hg:PG X tg g) (hb:PSs X body tb)
  (hs:∀ x,foldedSetIterable iter X.env x=pure x:=by intro _;rfl):PS X (.For tg iter body [] pos) (tFor wi g tb):=by
 intro pins s σ H D I h
 refine wpAny_For (thn (hi pins s σ H _ I h) fun v s1 h1=>thn h1 fun itv s2 h2=>?_) hs
 obtain ⟨it,fp,tn,J,H2,e,I2,T,st2,f2,W,⟨m0,w0⟩,turn⟩:=h2
 subst e
 have stat:∀ {H':Hp},(∀ b∈fp,H' b=none)→∀ b∈fp,FpOk X pins H' b:=fun hn b hb=>⟨hn b hb,(f2 b hb).2⟩
 refine codeAny_forLoop_any (fun n s'=>∃ i σ' H',Inv X pins σ' H' s'∧tn i s'.heap∧(∀ b∈fp,H' b=none)∧W i n σ' H') ?_ m0 ⟨0,σ,H2,I2,st2,fun b hb=>(f2 b hb).1,w0⟩
 rintro n s3 ⟨i,σ3,H3,I3,st3,fr3,w3⟩
 rcases turn i n σ3 H3 w3 with ⟨stop,qn⟩ | ⟨go,N,hN,step⟩
 ·refine wpAny_passesOwn hp (thn (T.done X rfl rfl rfl hc i pins s3 σ3 H3 X.xe I3 (stat fr3) st3 stop) fun r s4 ⟨hr,I4⟩=>?_)
  subst hr
  exact wpAny_execs_nil ⟨σ3,H3,I4,qn⟩
 ·refine wpAny_passesOwn hp (thn (T.item X rfl rfl rfl hc i pins s3 σ3 H3 X.xe I3 (stat fr3) st3 go) fun r s4 ⟨u,hr,h4⟩=>?_)
  subst hr
  refine wpAny_passesOwn hp (thn h4 fun _ s5 ⟨x,H5,I5,r5,y5,st5,fr5⟩=>?_)
  have I5':=I5.pinned (stat fr5) (T.obj _ _ st5)
  refine wpAny_passesOwn hp (thn (hg _ s5 σ3 H5 x u _ I5' r5 (step x H5 y5)) fun _ s6 ⟨σ6,H6,I6,q6⟩=>?_)
  refine wpAny_passesOwn hp (thn (hb _ s6 σ6 H6 _ I6 q6) fun f s7 q7=>?_)
  have again:∀ {σ7:St}{H7:Hp},Inv X (pins++pinsAt fp s5.heap) σ7 H7 s7→N σ7 H7→∃ m,m<n∧∃ i σ' H',Inv X pins σ' H' s7∧tn i s7.heap∧(∀ b∈fp,H' b=none)∧W i m σ' H':=fun {σ7 H7} I7 n7=>by
   obtain ⟨m',hm,w7⟩:=hN σ7 H7 n7
   refine ⟨m',hm,i+1,σ7,H7,I7.unpinned,T.keep _ _ _ st5 fun b hb o e=>(I7.pin (b,o) (List.mem_append_right _ (List.mem_append_right _ (mem_pinsAt hb e)))).1,fun b hb=>?_,w7⟩
   obtain ⟨o,e,d⟩:=T.obj _ _ st5 b hb
   exact (I7.pin (b,o) (List.mem_append_right _ (List.mem_append_right _ (mem_pinsAt hb e)))).2.1
  cases f with
  | next=>obtain ⟨σ7,H7,I7,n7⟩:=q7;exact again I7 n7
  | cont=>obtain ⟨σ7,H7,I7,n7⟩:=q7;exact again I7 n7
  | brk=>obtain ⟨σ7,H7,I7,q7⟩:=q7;exact ⟨σ7,H7,I7.unpinned,q7⟩
  | ret v=>obtain ⟨x7,σ7,H7,I7,r7,q7⟩:=q7;exact ⟨x7,σ7,H7,I7.unpinned,r7,q7⟩
end
theorem for_list {K:PySem.W.Frag}{a:Addr}{xs:List V}{g:TG}{tb:TS}{D:Ends}{σ:St}{H:Hp} (Pv:Nat→St→Hp→Prop) (h0:Pv 0 σ H) (hl:∀ i σ H,i≤xs.length→Pv i σ H→SqL K H a xs)
  (hs:∀ i x σ H,xs[i]?=some x→Pv i σ H→g x σ H fun σ2 H2=>tb {D with nx:=Pv (i+1),ct:=Pv (i+1),bk:=D.nx} σ2 H2) (hd:∀ σ H,Pv xs.length σ H→D.nx σ H) :
  ∃ W:Nat→Nat→St→Hp→Prop,(∃ m,W 0 m σ H)∧∀ i m σ H,W i m σ H →
   ((Itl K a).stop i H∧D.nx σ H)∨((Itl K a).go i H∧∃ N:St→Hp→Prop,(∀ σ' H',N σ' H'→∃ m',m'<m∧W (i+1) m' σ' H')∧∀ x H',(Itl K a).yld i H x H'→g x σ H' fun σ2 H2=>tb {D with nx:=N,ct:=N,bk:=D.nx} σ2 H2):=by
 refine ⟨fun i m σ H=>m=xs.length - i∧i≤xs.length∧Pv i σ H,⟨xs.length,by simp,Nat.zero_le _,h0⟩,?_⟩
 rintro i m σ H ⟨rfl,hi,p⟩
 have q:=hl i σ H hi p
 by_cases hlt:i<xs.length
 ·refine .inr ⟨⟨xs,xs[i],q,by simp [hlt]⟩,Pv (i+1),fun σ' H' p'=>⟨xs.length - (i+1),by omega,rfl,hlt,p'⟩,fun x H' y=>?_⟩
  obtain ⟨e,y⟩:=y
  subst e
  exact hs i x σ _ (y xs q) p
 ·have e:i=xs.length:=by omega
  subst e
  exact .inl ⟨⟨xs,q,Nat.le_refl _⟩,hd σ H p⟩
end L2
namespace L2
open PySem PySem.Spec PyProof.Rows
abbrev R2:=V→V→Hp→VK→Prop
def OpR (X:Cx) (f:Value→Value→Sem Value) (r:R2):Prop :=
 ∀ (pins:List (Addr×Obj)) (s:Shared) (σ:St) (H:Hp) (x y:V) (v u:Value) (Q:VK),Inv X pins σ H s→RelV x v→RelV y u→r x y H Q →
  wpAny (model X.prog X.w) X.A (f v u) (EP X pins σ Q) X.xe s
def UnR (X:Cx) (f:Value→Sem Value) (r:V→Hp→VK→Prop):Prop :=
 ∀ (pins:List (Addr×Obj)) (s:Shared) (σ:St) (H:Hp) (x:V) (v:Value) (Q:VK),Inv X pins σ H s→RelV x v→r x H Q →
  wpAny (model X.prog X.w) X.A (f v) (EP X pins σ Q) X.xe s
def CallR (X:Cx) (f:Value) (r:List V→Hp→VK→Prop):Prop :=
 ∀ (pins:List (Addr×Obj)) (s:Shared) (σ:St) (H:Hp) (xs:List V) (us:List Value) (Q:VK),Inv X pins σ H s→Vals xs us→r xs H Q →
  wpAny (model X.prog X.w) X.A (call f us) (EP X pins σ Q) X.xe s
def TruR (X:Cx) (r:V→Hp→(Bool→Hp→Prop)→Prop):Prop :=
 ∀ (pins:List (Addr×Obj)) (s:Shared) (σ:St) (H:Hp) (x:V) (v:Value) (Q:Bool→Hp→Prop),Inv X pins σ H s→RelV x v→r x H Q →
  wpAny (model X.prog X.w) X.A (truthy v) (TP X pins σ Q) X.xe s
def tOp (r:R2) (ta tb:TE):TE:=fun σ H Q=>ta σ H fun x H1=>tb σ H1 fun y H2=>r x y H2 Q
def tUn (r:V→Hp→VK→Prop) (ta:TE):TE:=fun σ H Q=>ta σ H fun x H1=>r x H1 Q
def rI0 (g:Int→Int→V):R2:=fun x y H Q=>∃ i j,x=.int i∧y=.int j∧Q (g i j) H
def rU (g:Int→V):V→Hp→VK→Prop:=fun x H Q=>∃ i,x=.int i∧Q (g i) H
section
variable {X:Cx}{a b c:Expr}{ta tb tc:TE}{pos:Pos}
theorem binT (ha:PE X a ta) (hb:PE X b tb) {pins:List (Addr×Obj)}{s:Shared}{σ:St}{H:Hp}{R:V→V→Hp→Prop} (I:Inv X pins σ H s)
  (h:ta σ H fun x H1=>tb σ H1 fun y H2=>R x y H2) {Q:Value→Shared→Prop}{f:Value→Value→Sem Value}
  (hf:∀ v u s2 x y H2,Inv X pins σ H2 s2→RelV x v→RelV y u→R x y H2→wpAny (model X.prog X.w) X.A (f v u) Q X.xe s2) :
  wpAny (model X.prog X.w) X.A (eval a X.env) (fun v s₁=>wpAny (model X.prog X.w) X.A (eval b X.env) (fun u s₂=>wpAny (model X.prog X.w) X.A (f v u) Q X.xe s₂) X.xe s₁) X.xe s:=by
 refine thn (ha pins s σ H _ I h) fun v s1 ⟨x,H1,I1,r1,q1⟩=>?_
 refine thn (hb pins s1 σ H1 _ I1 q1) fun u s2 ⟨y,H2,I2,r2,q2⟩=>?_
 exact hf v u s2 x y H2 I2 r1 r2 q2
theorem pe_op {op:Operator}{r:R2} (ho:OpR X (binaryOp op) r) (ha:PE X a ta) (hb:PE X b tb):PE X (.BinOp a op b pos) (tOp r ta tb):=by
 intro pins s σ H Q I h
 exact wpAny_BinOp (binT ha hb I h fun v u s2 x y H2 I2 rx ry q=>ho pins s2 σ H2 x y v u Q I2 rx ry q)
theorem pe_un {op:UnaryOp}{r:V→Hp→VK→Prop} (ho:UnR X (unaryOp op) r) (ha:PE X a ta):PE X (.UnaryOp op a pos) (tUn r ta):=by
 intro pins s σ H Q I h
 exact UnaryOp_ (thn (ha pins s σ H _ I h) fun v s1 ⟨x,H1,I1,r1,q1⟩=>ho pins s1 σ H1 x v Q I1 r1 q1)
theorem opI0 {f:Value→Value→Sem Value}{g:Int→Int→Int}
  (rule:∀ (i j:Int) (t u:Tok) (s:Shared) (Q:Value→Shared→Prop) (E:Value→Shared→Prop),Q (.int (g i j) s.toks) {s with toks:=s.toks+1}→wpAny (model X.prog X.w) X.A (f (.int i t) (.int j u)) Q E s) :
  OpR X f (rI0 fun i j=>.int (g i j)):=by
 intro pins s σ H x y v u Q I rx ry h
 obtain ⟨i,j,rfl,rfl,q⟩:=h
 obtain ⟨t,rfl⟩:=rx
 obtain ⟨t',rfl⟩:=ry
 exact rule i j t t' s _ _ ⟨.int (g i j),H,I.tok _,⟨_,rfl⟩,q⟩
theorem opB0 {f:Value→Value→Sem Value}{g:Int→Int→Bool}
  (rule:∀ (i j:Int) (t u:Tok) (s:Shared) (Q:Value→Shared→Prop) (E:Value→Shared→Prop),Q (.bool (g i j)) s→wpAny (model X.prog X.w) X.A (f (.int i t) (.int j u)) Q E s) :
  OpR X f (rI0 fun i j=>.bl (g i j)):=by
 intro pins s σ H x y v u Q I rx ry h
 obtain ⟨i,j,rfl,rfl,q⟩:=h
 obtain ⟨t,rfl⟩:=rx
 obtain ⟨t',rfl⟩:=ry
 exact rule i j t t' s _ _ ⟨.bl (g i j),H,I,rfl,q⟩
theorem op_add:OpR X (binaryOp .Add) (rI0 fun i j=>.int (i+j)):=opI0 fun _ _ _ _ _ _ _ q=>add_int q
theorem op_sub:OpR X (binaryOp .Sub) (rI0 fun i j=>.int (i - j)):=opI0 fun _ _ _ _ _ _ _ q=>sub_int q
theorem unI {f:Value→Sem Value}{g:Int→Int}
  (rule:∀ (i:Int) (t:Tok) (s:Shared) (Q:Value→Shared→Prop) (E:Value→Shared→Prop),Q (.int (g i) s.toks) {s with toks:=s.toks+1}→wpAny (model X.prog X.w) X.A (f (.int i t)) Q E s) :
  UnR X f (rU fun i=>.int (g i)):=by
 intro pins s σ H x v Q I rx h
 obtain ⟨i,rfl,q⟩:=h
 obtain ⟨t,rfl⟩:=rx
 exact rule i t s _ _ ⟨.int (g i),H,I.tok _,⟨_,rfl⟩,q⟩
theorem un_neg:UnR X (unaryOp .USub) (rU fun i=>.int (-i)):=unI fun _ _ _ _ _ q=>neg_int q
end
def scal:V→V→Bool
 | .non,.non=>true | .non,.int _=>true | .int _,.non=>true | .non,.bl _=>true | .bl _,.non=>true | .non,.str _=>true | .str _,.non=>true
 | .int _,.int _=>true | .bl _,.bl _=>true | .str _,.str _=>true | .byt _,.byt _=>true
 | .int _,.str _=>true | .str _,.int _=>true | .bl _,.str _=>true | .str _,.bl _=>true
 | _,_=>false
def rEq:R2:=fun x y H Q=>scal x y=true∧Q (.bl (decide (x=y))) H
def rNe:R2:=fun x y H Q=>scal x y=true∧Q (.bl (!decide (x=y))) H
theorem dec_int {i j:Int}:decide (V.int i=V.int j)=(i==j):=by
 rw [Bool.eq_iff_iff]
 simp
theorem dec_bl {i j:Bool}:decide (V.bl i=V.bl j)=(i==j):=by
 rw [Bool.eq_iff_iff]
 simp
theorem dec_str {i j:Str}:decide (V.str i=V.str j)=(i==j):=by
 rw [Bool.eq_iff_iff]
 simp
theorem dec_byt {i j:Array UInt8}:decide (V.byt i=V.byt j)=(i.toList==j.toList):=by
 rw [Bool.eq_iff_iff]
 cases i
 cases j
 simp
section
variable {X:Cx}{a b c:Expr}{ta tb tc:TE}{pos:Pos}
theorem fin_bl {pins:List (Addr×Obj)}{σ:St}{H:Hp}{s:Shared}{Q:VK}{k k':Bool} (I:Inv X pins σ H s) (q:Q (.bl k) H) (e:k=k'):EP X pins σ Q (.bool k') s:=by
 subst e
 exact ⟨.bl k,H,I,rfl,q⟩
theorem op_eq:OpR X (compareOp .Eq) rEq:=by
 intro pins s σ H x y v u Q I rx ry h
 obtain ⟨hs,q⟩:=h
 cases x with
 | non =>
  cases rx
  cases y with
  | non=>cases ry;exact PySem.EqNone.eq_none_none (fin_bl I q (by simp))
  | bl j=>cases ry;exact PySem.EqNone.eq_none_bool (fin_bl I q (by simp))
  | int j=>obtain ⟨t',rfl⟩:=ry;exact PySem.EqNone.eq_none_int (fin_bl I q (by simp))
  | str j=>obtain ⟨t',rfl⟩:=ry;exact PySem.EqNone.eq_none_str (fin_bl I q (by simp))
  | _=>exact absurd (show false=true from hs) Bool.false_ne_true
 | bl i =>
  cases rx
  cases y with
  | non=>cases ry;exact PySem.EqNone.eq_bool_none (fin_bl I q (by simp))
  | bl j=>cases ry;exact eq_bool (fin_bl I q dec_bl)
  | str j=>obtain ⟨t',rfl⟩:=ry;exact PySem.EqMixed.eq_bool_str (fin_bl I q (by simp))
  | _=>exact absurd (show false=true from hs) Bool.false_ne_true
 | int i =>
  obtain ⟨t,rfl⟩:=rx
  cases y with
  | non=>cases ry;exact PySem.EqNone.eq_int_none (fin_bl I q (by simp))
  | int j=>obtain ⟨t',rfl⟩:=ry;exact eq_int (fin_bl I q dec_int)
  | str j=>obtain ⟨t',rfl⟩:=ry;exact PySem.EqMixed.eq_int_str (fin_bl I q (by simp))
  | _=>exact absurd (show false=true from hs) Bool.false_ne_true
 | str i =>
  obtain ⟨t,rfl⟩:=rx
  cases y with
  | non=>cases ry;exact PySem.EqNone.eq_str_none (fin_bl I q (by simp))
  | bl j=>cases ry;exact PySem.EqMixed.eq_str_bool (fin_bl I q (by simp))
  | int j=>obtain ⟨t',rfl⟩:=ry;exact PySem.EqMixed.eq_str_int (fin_bl I q (by simp))
  | str j=>obtain ⟨t',rfl⟩:=ry;exact eq_str (fin_bl I q dec_str)
  | _=>exact absurd (show false=true from hs) Bool.false_ne_true
 | byt i =>
  obtain ⟨t,rfl⟩:=rx
  cases y with
  | byt j=>obtain ⟨t',rfl⟩:=ry;exact PySem.W.eq_bytes (fin_bl I q dec_byt)
  | _=>exact absurd (show false=true from hs) Bool.false_ne_true
 | _=>cases y <;> exact absurd (show false=true from hs) Bool.false_ne_true
theorem op_ne:OpR X (compareOp .NotEq) rNe:=by
 intro pins s σ H x y v u Q I rx ry h
 obtain ⟨hs,q⟩:=h
 cases x with
 | non =>
  cases rx
  cases y with
  | non=>cases ry;exact PySem.EqNone.ne_none_none (fin_bl I q (by simp))
  | bl j=>cases ry;exact PySem.EqNone.ne_none_bool (fin_bl I q (by simp))
  | int j=>obtain ⟨t',rfl⟩:=ry;exact PySem.EqNone.ne_none_int (fin_bl I q (by simp))
  | str j=>obtain ⟨t',rfl⟩:=ry;exact PySem.EqNone.ne_none_str (fin_bl I q (by simp))
  | _=>exact absurd (show false=true from hs) Bool.false_ne_true
 | bl i =>
  cases rx
  cases y with
  | non=>cases ry;exact PySem.EqNone.ne_bool_none (fin_bl I q (by simp))
  | bl j=>cases ry;exact ne_bool (fin_bl I q (congrArg not dec_bl))
  | str j=>obtain ⟨t',rfl⟩:=ry;exact PySem.EqMixed.ne_bool_str (fin_bl I q (by simp))
  | _=>exact absurd (show false=true from hs) Bool.false_ne_true
 | int i =>
  obtain ⟨t,rfl⟩:=rx
  cases y with
  | non=>cases ry;exact PySem.EqNone.ne_int_none (fin_bl I q (by simp))
  | int j=>obtain ⟨t',rfl⟩:=ry;exact ne_int (fin_bl I q (congrArg not dec_int))
  | str j=>obtain ⟨t',rfl⟩:=ry;exact PySem.EqMixed.ne_int_str (fin_bl I q (by simp))
  | _=>exact absurd (show false=true from hs) Bool.false_ne_true
 | str i =>
  obtain ⟨t,rfl⟩:=rx
  cases y with
  | non=>cases ry;exact PySem.EqNone.ne_str_none (fin_bl I q (by simp))
  | bl j=>cases ry;exact PySem.EqMixed.ne_str_bool (fin_bl I q (by simp))
  | int j=>obtain ⟨t',rfl⟩:=ry;exact PySem.EqMixed.ne_str_int (fin_bl I q (by simp))
  | str j=>obtain ⟨t',rfl⟩:=ry;exact ne_str (fin_bl I q (congrArg not dec_str))
  | _=>exact absurd (show false=true from hs) Bool.false_ne_true
 | byt i =>
  obtain ⟨t,rfl⟩:=rx
  cases y with
  | byt j=>obtain ⟨t',rfl⟩:=ry;exact PySem.W.ne_bytes (fin_bl I q (congrArg not dec_byt))
  | _=>exact absurd (show false=true from hs) Bool.false_ne_true
 | _=>cases y <;> exact absurd (show false=true from hs) Bool.false_ne_true
theorem op_lt:OpR X (compareOp .Lt) (rI0 fun i j=>.bl (decide (i<j))):=opB0 fun _ _ _ _ _ _ _ q=>lt_int q
theorem op_le:OpR X (compareOp .LtE) (rI0 fun i j=>.bl (decide (i≤j))):=opB0 fun _ _ _ _ _ _ _ q=>le_int q
theorem op_gt:OpR X (compareOp .Gt) (rI0 fun i j=>.bl (decide (j<i))):=opB0 fun _ _ _ _ _ _ _ q=>gt_int q
theorem op_ge:OpR X (compareOp .GtE) (rI0 fun i j=>.bl (decide (j≤i))):=opB0 fun _ _ _ _ _ _ _ q=>ge_int q
theorem nomark (b:Expr) {op:CmpOp} (h:op≠.In:=by decide) (h2:op≠.NotIn:=by decide):behindInMarks op b=false:=by
 have e1:(op==CmpOp.In)=false:=by cases op <;> first | rfl | exact absurd rfl h
 have e2:(op==CmpOp.NotIn)=false:=by cases op <;> first | rfl | exact absurd rfl h2
 cases b <;> simp [behindInMarks,e1,e2]
theorem pe_cmpR {op:CmpOp}{r:R2} (ho:OpR X (compareOp op) r) (ha:PE X a ta) (hb:PE X b tb) (hm:behindInMarks op b=false):PE X (.Compare a [op] [b] pos) (tOp r ta tb):=by
 intro pins s σ H Q I h
 exact wpAny_Compare1 (binT ha hb I h fun v u s2 x y H2 I2 rx ry q=>ho pins s2 σ H2 x y v u Q I2 rx ry q) hm
def tTest (t:TE):TT:=fun σ H Q=>t σ H fun x H'=>∃ k,x=.bl k∧Q k H'
theorem pt_cmpR {op:CmpOp}{r:R2} (ho:OpR X (compareOp op) r) (ha:PE X a ta) (hb:PE X b tb) (hm:behindInMarks op b=false):PT X (.Compare a [op] [b] pos) (tTest (tOp r ta tb)):=by
 intro pins s σ H Q I h
 refine wpAny_isTrue_Compare1 (thn (ha pins s σ H _ I h) fun v s1 ⟨x,H1,I1,r1,q1⟩=>thn (hb pins s1 σ H1 _ I1 q1) fun u s2 ⟨y,H2,I2,r2,q2⟩ =>
  thn (ho pins s2 σ H2 x y v u _ I2 r1 r2 q2) fun c s3 ⟨z,H3,I3,r3,k,e,q3⟩=>?_) hm
 subst e
 cases r3
 exact wpAny_truthy_bool ⟨H3,I3,q3⟩
def tChain (r r':R2) (ta tb tc:TE):TE:=fun σ H Q=>ta σ H fun x H1=>tb σ H1 fun y H2=>r x y H2 fun z H3=>∃ k,z=.bl k ∧
 (if k=true then tc σ H3 fun w' H4=>r' y w' H4 Q else Q (.bl false) H3)
theorem pe_chain {op op':CmpOp}{r r':R2} (ho:OpR X (compareOp op) r) (ho':OpR X (compareOp op') r') (ha:PE X a ta) (hb:PE X b tb) (hc:PE X c tc)
  (hm:lastMarks [op,op'] [b,c]=false:=by with_unfolding_all rfl):PE X (.Compare a [op,op'] [b,c] pos) (tChain r r' ta tb tc):=by
 intro pins s σ H Q I h
 refine Compare_chain (thn (ha pins s σ H _ I h) fun v s1 ⟨x,H1,I1,r1,q1⟩=>chain_link (thn (hb pins s1 σ H1 _ I1 q1) fun u s2 ⟨y,H2,I2,r2,q2⟩ =>
  thn (ho pins s2 σ H2 x y v u _ I2 r1 r2 q2) fun d s3 ⟨z,H3,I3,r3,k,e,q3⟩=>?_)) hm
 subst e
 cases r3
 refine wpAny_truthy_bool ?_
 cases k with
 | false=>exact ite_ff ⟨.bl false,H3,I3,rfl,q3⟩
 | true=>exact ite_tt (chain_last (thn (hc pins s3 σ H3 _ I3 q3) fun w' s4 ⟨z',H4,I4,r4,q4⟩=>ho' pins s4 σ H4 y z' u w' Q I4 r2 r4 q4))
theorem pt_chain {op op':CmpOp}{r r':R2} (ho:OpR X (compareOp op) r) (ho':OpR X (compareOp op') r') (ha:PE X a ta) (hb:PE X b tb) (hc:PE X c tc)
  (hm:lastMarks [op,op'] [b,c]=false:=by with_unfolding_all rfl):PT X (.Compare a [op,op'] [b,c] pos) (tTest (tChain r r' ta tb tc)):=by
 intro pins s σ H Q I h
 refine isTrue_chain (thn (ha pins s σ H _ I h) fun v s1 ⟨x,H1,I1,r1,q1⟩=>test_link (thn (hb pins s1 σ H1 _ I1 q1) fun u s2 ⟨y,H2,I2,r2,q2⟩ =>
  thn (ho pins s2 σ H2 x y v u _ I2 r1 r2 q2) fun d s3 ⟨z,H3,I3,r3,k,e,q3⟩=>?_)) hm
 subst e
 cases r3
 refine wpAny_truthy_bool ?_
 cases k with
 | false =>
  obtain ⟨k',e',q'⟩:=q3
  cases e'
  exact ite_ff ⟨H3,I3,q'⟩
 | true =>
  refine ite_tt (test_last (thn (hc pins s3 σ H3 _ I3 q3) fun w' s4 ⟨z',H4,I4,r4,q4⟩=>thn (ho' pins s4 σ H4 y z' u w' _ I4 r2 r4 q4) fun d' s5 ⟨z2,H5,I5,r5,k2,e2,q5⟩=>?_))
  subst e2
  cases r5
  exact wpAny_truthy_bool ⟨H5,I5,q5⟩
def TruV (K:PySem.W.Frag) (x:V) (H:Hp) (k:Bool):Prop :=
 match x with
 | .non=>k=false
 | .bl b=>k=b
 | .int i=>k=(i != 0)
 | .str y=>y.length≤sizeLine∧k=((y.length:Int) != 0)
 | .byt y=>y.size≤sizeLine∧k=((y.size:Int) != 0)
 | .ref p=>(∃ xs,SqL K H p xs∧k=!xs.isEmpty)∨(∃ xs,SqT K H p xs∧k=!xs.isEmpty)∨∃ kvs,H p=some (.dK kvs)∧k=!kvs.isEmpty
 | _=>False
theorem isEmpty_kv {κ:Type}{kvs:List (κ×V)}{vs:List (κ×Value)} (r:KV kvs vs):(!vs.isEmpty)=!kvs.isEmpty:=by
 cases r <;> rfl
theorem isEmpty_of {xs:List V}{its:List Value} (r:Vals xs its):(!its.toArray.isEmpty)=!xs.isEmpty:=by
 cases r <;> simp
theorem line63:(sizeLine:Nat)<2 ^ 63:=by rw [sizeLine_eq];decide
theorem tru_ok:TruR X (fun x H Q=>∃ k,TruV X.K x H k∧Q k H):=by
 intro pins s σ H x v Q I rx h
 obtain ⟨k,e,q⟩:=h
 have hl:=line63
 have hs:sizeLine=16777216:=sizeLine_eq
 cases x with
 | non =>
  cases rx
  have e':k=false:=e
  subst e'
  exact truthy_none ⟨H,I,q⟩
 | bl b =>
  cases rx
  have e':k=b:=e
  subst e'
  exact wpAny_truthy_bool ⟨H,I,q⟩
 | int i =>
  obtain ⟨t,rfl⟩:=rx
  have e':k=(i != 0):=e
  subst e'
  exact PySem.P.truthy_int ⟨H,I,q⟩
 | str y =>
  obtain ⟨t,rfl⟩:=rx
  obtain ⟨hy,e'⟩:y.length≤sizeLine∧k=((y.length:Int) != 0):=e
  subst e'
  exact PySem.P.truthy_str (by omega) ⟨H,I.tok _,q⟩
 | byt y =>
  obtain ⟨t,rfl⟩:=rx
  obtain ⟨hy,e'⟩:y.size≤sizeLine∧k=((y.size:Int) != 0):=e
  subst e'
  exact PySem.W.truthy_bytes (by omega) ⟨H,I.tok _,q⟩
 | ref p =>
  cases rx
  have e':(∃ xs,SqL X.K H p xs∧k=!xs.isEmpty)∨(∃ xs,SqT X.K H p xs∧k=!xs.isEmpty)∨∃ kvs,H p=some (.dK kvs)∧k=!kvs.isEmpty:=e
  rcases e' with ⟨xs,hx,e'⟩ | ⟨xs,hx,e'⟩ | ⟨kvs,hx,e'⟩
  ·subst e'
   obtain ⟨its,r,pl,hz⟩:=I.list hx
   have hlen:=r.length
   exact wpAny_truthy_list pl.isList (by simp only [List.size_toArray];omega) ⟨H,I.tok _,by rw [isEmpty_of r];exact q⟩
  ·subst e'
   obtain ⟨its,r,pl,hz⟩:=I.tuple hx
   have hlen:=r.length
   exact truthy_tuple pl (by simp only [List.size_toArray];omega) ⟨H,I.tok _,by rw [isEmpty_of r];exact q⟩
  ·subst e'
   obtain ⟨hz,hS,vs,r,m⟩:kvs.length≤sizeLine∧(p==sysModules)=false∧∃ vs,KV kvs vs∧s.heap.DictOf (mixKind X.prog X.w) p vs:=I.hok p _ hx
   have hlen:kvs.length=vs.length:=Paired.length r
   exact wpAny_truthy_dict hS m (by omega) ⟨H,I.tok _,by rw [isEmpty_kv r];exact q⟩
 | _=>exact (show False from e).elim
theorem pt_truth (ha:PE X a ta) (he:∀ whole,isTrue a X.env whole=(do let v ← whole;standAt a.pos;holding [v] (truthy v))) :
  PT X a (fun σ H Q=>ta σ H fun x H'=>∃ k,TruV X.K x H' k∧Q k H'):=by
 intro pins s σ H Q I h
 exact isTrue_plain (thn (ha pins s σ H _ I h) fun v s1 ⟨x,H1,I1,r1,q1⟩=>tru_ok pins s1 σ H1 x v Q I1 r1 q1) (he _)
theorem vals1 {x:V}{us:List Value} (r:Vals [x] us):∃ u,us=[u]∧RelV x u:=by
 cases r with
 | cons r1 r2=>cases r2;exact ⟨_,rfl,r1⟩
theorem vals2 {x y:V}{us:List Value} (r:Vals [x,y] us):∃ u w',us=[u,w']∧RelV x u∧RelV y w':=by
 cases r with
 | cons r1 r2 =>
  cases r2 with
  | cons r3 r4=>cases r4;exact ⟨_,_,rfl,r1,r3⟩
end
end L2
namespace L2
open PySem PySem.Spec PyProof.Rows
structure ObjM (h:Heap) (x dx C:Addr) (mA:Str→Option Value):Prop where
 obj:h.get? x=some (PySem.W.instObj C dx)
 ns:h.Ns1 dx mA
 ne:dx≠x
theorem lookIn_ns {h:Heap}{dx:Addr}{mA:Str→Option Value} (n:h.Ns1 dx mA):∃ od,h.get? dx=some od∧∀ name,PySem.W.lookIn name od=some (mA name):=by
 obtain ⟨o,es,ep,ho,hd,hk,_,hm⟩:=n
 refine ⟨o,ho,fun name=>?_⟩
 have e:=hm name
 unfold nsFind findBy at e
 rw [← Array.find?_toList] at e
 unfold PySem.W.lookIn
 rw [hd]
 dsimp only
 split
 ·rename_i y q
  rw [q] at e
  exact congrArg some e
 ·rename_i q
  rw [q] at e
  have a:es.toList.any (·.refKey)=false:=by
   rw [List.any_eq_false]
   intro y hy
   obtain ⟨z,t,hkey⟩:=hk y (Array.mem_toList_iff.mp hy)
   simp [DictEntry.refKey,hkey]
  have a':¬ es.toList.any (·.refKey)=true:=by rw [a];exact Bool.false_ne_true
  rw [if_neg a']
  exact congrArg some e
theorem ObjM.look {h:Heap}{x dx C:Addr}{mA:Str→Option Value} (I:ObjM h x dx C mA):∃ od,PySem.W.InstAt h x (PySem.W.instObj C dx) C (some od)∧∀ name,PySem.W.lookIn name od=some (mA name) :=
 let ⟨od,ho,hl⟩:=lookIn_ns I.ns
 ⟨od,⟨I.obj,rfl,rfl,ho⟩,hl⟩
section
variable {prog:Program}{w:World}{A:Around}{E:Value→Shared→Prop}{s:Shared}{K:PySem.W.Frag}{x dx C f:Addr}{mA:Str→Option Value}{name:Str}{v:Value}
theorem get_map {expr:Bool}{Q:Value→Shared→Prop} (X:K.In s.heap) (I:ObjM s.heap x dx C mA) (hg:PySem.W.plainGet K C name=true) (hh:PySem.W.hasDictIn K C=true)
  (ha:PySem.W.findIn K (.ref C) name=some none) (hv:mA name=some v) (hv':PySem.W.handedIn v=true) (h:Q v {s with toks:=s.toks+1}) :
  wpAny (model prog w) A (getAttr (.ref x) name expr) Q E s:=by
 obtain ⟨od,J,hl⟩:=I.look
 exact PySem.W.get_value X J (PySem.W.plainGet_of hg).1 (PySem.W.findObj_own hh ha rfl (by rw [hl,hv])) hv' h
theorem get_meth {pl:Sem Bool}{Q:Value×List Value→Shared→Prop} (X:K.In s.heap) (I:ObjM s.heap x dx C mA) (hg:PySem.W.plainGet K C name=true)
  (hf:PySem.W.findIn K (.ref C) name=some (some (.ref f))) (ht:PySem.W.isFn K (.ref f)=true) (hv:mA name=none) (h:Q (.ref f,[.ref x]) s) :
  wpAny (model prog w) A (getMethod (.ref x) name pl) Q E s:=by
 obtain ⟨od,J,hl⟩:=I.look
 exact PySem.W.method_fn X J (PySem.W.plainGet_of hg).1 (PySem.W.plainGet_of hg).2 hf (beq_iff_eq.mp ht) (by show (PySem.W.lookIn name od).map (·.isSome)=some false;rw [hl,hv];rfl) h
theorem set_map {ns:List Str}{Q:Unit→Shared→Prop} (X:K.In s.heap) (I:ObjM s.heap x dx C mA)
  (hs:PySem.W.findIn K (.ref C) "__setattr__"=some (some (.builtin "object.__setattr__"))) (hp:PySem.W.plainOver K C=true) (ht:PySem.W.takerIn K C name=some none) (hh:PySem.W.hasDictIn K C=true)
  (hw:PySem.Within mA ns) (hsz:ns.length≤sizeLine)
  (h:∀ h',ObjM h' x dx C (fun y=>if y=name then some v else mA y)→Heap.SameBut dx s.heap h'→Q () {s with heap:=h',toks:=s.toks+2}) :
  wpAny (model prog w) A (setAttr (.ref x) name v) Q E s:=by
 obtain ⟨od,J,hl⟩:=I.look
 refine PySem.W.set_plain X J hs (PySem.W.osa_open (s:={s with toks:=s.toks+1}) (r:=none) X J hp ht fun b=>?_)
 obtain ⟨cd,hc,hd'⟩:=PySem.W.any_some hh
 have hx:s.heap.get? x=some ⟨.ref C,some dx,.plain,#[]⟩:=I.obj
 refine wpAny_bind (wpAny_pure (wpAny_bind (wpAny_bind (wpAny_loadPart hx (wpAny_bind (PySem.W.Looks.here (s:={s with toks:=s.toks+1}) (PySem.W.looks_clsIn X hc) ?_))))))
 rw [hd']
 refine wpAny_pure (a:=some dx) (wpAny_bind (wpAny_pure (wpAny_bind ?_)))
 refine wpAny_nsSet1 (s:={s with toks:=s.toks+1}) I.ns fun h' hn2 hs2=>?_
 obtain ⟨oD,esD,epD,hoD,hdD,hcD⟩:=hn2.count (PySem.Within.cons name v hw)
 refine wpAny_bind (wpAny_lookBehind hoD (by rw [hdD];exact pastItsLine_dict (Nat.le_trans hcD (by rw [List.length_cons];omega))) ?_)
 exact wpAny_pure (h _ ⟨(hs2.2 _ (Ne.symm I.ne)).trans I.obj,hn2,I.ne⟩ hs2)
theorem make_map {R:Result→Shared→Prop}{vs:List Value}{kw:List (Str×Value)} (X:K.In s.heap) (hm:PySem.W.makesIn K C=true)
  (hi:PySem.W.findIn K (.ref C) "__init__"=some (some (.ref f))) (hf:PySem.W.typeIn K (.ref f)=some (.type "function"))
  (h:codeAny (model prog w) (A.under (.builtin "type.__call__" ⟨.ref C::vs,kw⟩)) (.call (.ref f) ⟨.ref (s.heap.objs.size+1)::vs,kw⟩) (PySem.W.InitBack (s.heap.objs.size+1) R)
   {s with heap:=(s.heap.push PySem.W.emptyDict).push (PySem.W.instObj C s.heap.objs.size)}) :
  codeAny (model prog w) A (.call (.ref C) ⟨vs,kw⟩) R s:=by
 obtain ⟨hh,g,d,t,os⟩:=s
 exact PySem.W.make_core (PySem.W.makes_of X hm) (PySem.W.looks_findIn X hi) (fun self=>PySem.W.bind_fn X self hf) (.inl rfl) h
end
def putF (f:Str) (v:V):List (Str×V)→List (Str×V)
 | []=>[(f,v)]
 | (g,x)::r=>if g=f then (g,v)::r else (g,x)::putF f v r
theorem lookup_putF (f g:Str) (v:V):∀ fs:List (Str×V),(putF f v fs).lookup g=if g=f then some v else fs.lookup g
 | []=>by
  show List.lookup g [(f,v)]=_
  by_cases h:g=f
  ·have hb:(g==f)=true:=beq_iff_eq.mpr h
   simp only [List.lookup,hb,if_pos h]
  ·have hb:(g==f)=false:=beq_eq_false_iff_ne.mpr h
   simp only [List.lookup,hb,if_neg h]
 | (k,x)::r=>by
  have ih:=lookup_putF f g v r
  rw [show putF f v ((k,x)::r)=(if k=f then (k,v)::r else (k,x)::putF f v r) from rfl]
  by_cases hk:k=f
  ·rw [if_pos hk]
   by_cases h:g=k
   ·have hb:(g==k)=true:=beq_iff_eq.mpr h
    simp only [List.lookup,hb,if_pos (h.trans hk)]
   ·have hb:(g==k)=false:=beq_eq_false_iff_ne.mpr h
    simp only [List.lookup,hb,if_neg (fun e:g=f=>h (e.trans hk.symm))]
  ·rw [if_neg hk]
   by_cases h:g=k
   ·have hb:(g==k)=true:=beq_iff_eq.mpr h
    simp only [List.lookup,hb,if_neg (fun e:g=f=>hk (h.symm.trans e))]
   ·have hb:(g==k)=false:=beq_eq_false_iff_ne.mpr h
    simp only [List.lookup,hb]
    exact ih
theorem keys_putF (f:Str) (v:V):∀ fs:List (Str×V),f∈(putF f v fs).map (·.1)∧∀ g,g∈fs.map (·.1)→g∈(putF f v fs).map (·.1)
 | []=>⟨by simp [putF],fun g h=>by simp at h⟩
 | (k,x)::r=>by
  obtain ⟨i1,i2⟩:=keys_putF f v r
  rw [show putF f v ((k,x)::r)=(if k=f then (k,v)::r else (k,x)::putF f v r) from rfl]
  by_cases hk:k=f
  ·rw [if_pos hk]
   subst hk
   exact ⟨by simp,fun g h=>by simpa using h⟩
  ·rw [if_neg hk]
   refine ⟨?_,fun g h=>?_⟩
   ·rw [List.map_cons]
    exact List.mem_cons_of_mem _ i1
   ·rw [List.map_cons] at h ⊢
    rcases List.mem_cons.mp h with e | e
    ·exact List.mem_cons.mpr (.inl e)
    ·exact List.mem_cons_of_mem _ (i2 g e)
theorem length_putF (f:Str) (v:V):∀ fs:List (Str×V),(putF f v fs).length≤fs.length+1
 | []=>by simp [putF]
 | (k,x)::r=>by
  have ih:=length_putF f v r
  rw [show putF f v ((k,x)::r)=(if k=f then (k,v)::r else (k,x)::putF f v r) from rfl]
  by_cases hk:k=f
  ·rw [if_pos hk,List.length_cons,List.length_cons];omega
  ·rw [if_neg hk,List.length_cons,List.length_cons];omega
theorem RelO.some_of {v:V}{o:Option Value} (r:RelO (some v) o):∃ u,o=some u∧RelV v u:=by
 cases o with
 | none=>exact (show False from r).elim
 | some u=>exact ⟨u,rfl,r⟩
theorem RelO.none_of {o:Option Value} (r:RelO none o):o=none:=by
 cases o with
 | none=>rfl
 | some u=>exact (show False from r).elim
theorem handed_of {v:V}{u:Value} (r:RelV v u):PySem.W.handedIn u=true:=by
 cases v with
 | non=>cases (show u=Value.none from r);rfl
 | bl b=>cases (show u=Value.bool b from r);rfl
 | int i=>obtain ⟨t,e⟩:=(show ∃ t,u=Value.int i t from r);cases e;rfl
 | str x=>obtain ⟨t,e⟩:=(show ∃ t,u=Value.str x t from r);cases e;rfl
 | byt b=>obtain ⟨t,e⟩:=(show ∃ t,u=Value.bytes b t from r);cases e;rfl
 | flt b=>obtain ⟨t,e⟩:=(show ∃ t,u=Value.float b t from r);cases e;rfl
 | ref a=>cases (show u=Value.ref a from r);rfl
 | ty n=>cases (show u=Value.type n from r);rfl
section
variable {P:Program}{w:World}{H H':Hp}{h h':Heap}{a C dx:Addr}{fs fs':List (Str×V)}
theorem ins_get (hok:HOk P w H h) (e:H a=some (.ins C dx fs)):∃ mA,ObjM h a dx C mA∧(∀ f,RelO (fs.lookup f) (mA f))∧PySem.Within mA (fs.map (·.1))∧fs.length≤1000∧H dx=some (.own a):=by
 obtain ⟨d,z,ne,ob,mA,n,r,q⟩:=(show ObjOk P w H h a (.ins C dx fs) from hok a _ e)
 exact ⟨mA,⟨ob,n,ne⟩,r,q,z,d⟩
end
structure Cls (K:PySem.W.Frag) (C:Addr):Prop where
 pg:PySem.W.plainGet K C Str.empty=true
 hd:PySem.W.hasDictIn K C=true
 po:PySem.W.plainOver K C=true
 sa:PySem.W.findIn K (.ref C) "__setattr__"=some (some (.builtin "object.__setattr__"))
theorem Cls.get {K:PySem.W.Frag}{C:Addr} (c:Cls K C) (f:Str):PySem.W.plainGet K C f=true:=c.pg
def NoAttr (K:PySem.W.Frag) (C:Addr) (f:Str):Prop:=PySem.W.findIn K (.ref C) f=some none
theorem NoAttr.taker {K:PySem.W.Frag}{C:Addr}{f:Str} (n:NoAttr K C f):PySem.W.takerIn K C f=some none:=by
 unfold PySem.W.takerIn
 rw [show PySem.W.findIn K (.ref C) f=some none from n]
 rfl
structure Meth (K:PySem.W.Frag) (C:Addr) (m:Str) (f:Addr):Prop where
 at_:PySem.W.findIn K (.ref C) m=some (some (.ref f))
 fn:PySem.W.isFn K (.ref f)=true
 kp:PySem.W.keepIn K (.ref f)=true
section
variable {X:Cx}{pins:List (Addr×Obj)}{σ:St}{H:Hp}{s:Shared}{a C dx:Addr}{fs:List (Str×V)}{f:Str}{v:V}{A:Around}{E:Value→Shared→Prop}
theorem getattr_ok {b:Bool}{Q:Value→Shared→Prop} (I:Inv X pins σ H s) (e:H a=some (.ins C dx fs)) (c:Cls X.K C) (n:NoAttr X.K C f) (l:fs.lookup f=some v)
  (h:∀ u s',Inv X pins σ H s'→RelV v u→Q u s'):wpAny (model X.prog X.w) A (getAttr (.ref a) f b) Q E s:=by
 obtain ⟨mA,O,r,_,_,_⟩:=ins_get I.hok e
 obtain ⟨u,hu,ru⟩:=RelO.some_of (v:=v) (o:=mA f) (by rw [← l];exact r f)
 exact get_map I.kIn O (c.get f) c.hd n hu (handed_of ru) (h u _ (I.tok _) ru)
theorem getmeth_ok {m:Str}{g:Addr}{pl:Sem Bool}{Q:Value×List Value→Shared→Prop} (I:Inv X pins σ H s) (e:H a=some (.ins C dx fs)) (c:Cls X.K C) (k:Meth X.K C m g) (l:fs.lookup m=none)
  (h:Q (.ref g,[.ref a]) s):wpAny (model X.prog X.w) A (getMethod (.ref a) m pl) Q E s:=by
 obtain ⟨mA,O,r,_,_,_⟩:=ins_get I.hok e
 have hn:mA m=none:=RelO.none_of (by rw [← l];exact r m)
 exact get_meth I.kIn O (c.get m) k.at_ k.fn hn h
theorem setattr_ok {y:V}{u:Value}{Q:Unit→Shared→Prop} (I:Inv X pins σ H s) (e:H a=some (.ins C dx fs)) (c:Cls X.K C) (n:NoAttr X.K C f) (hl:fs.length<1000) (ry:RelV y u)
  (h:∀ s',Inv X pins σ (upd H a (.ins C dx (putF f y fs))) s'→Q () s'):wpAny (model X.prog X.w) A (setAttr (.ref a) f u) Q E s:=by
 obtain ⟨mA,O,r,wi,_,ho⟩:=ins_get I.hok e
 have hz:(fs.map (·.1)).length≤sizeLine:=by rw [List.length_map,sizeLine_eq];omega
 refine set_map I.kIn O c.sa c.po n.taker c.hd wi hz fun h' O' sb=>h _ ?_
 have hd:∃ o,h'.get? dx=some o:=let ⟨o,_,_,e',_⟩:=O'.ns;⟨o,e'⟩
 refine I.write (x:=a) (e:=dx) (by rw [e];exact True.intro) (.inr ho) (fun b q hb z=>(sb.2 b hb).trans z) hd ?_
 refine ⟨by rw [upd_ne O.ne];exact ho,?_,O.ne,O'.obj,_,O'.ns,fun g=>?_,fun g hg=>?_⟩
 ·have:=length_putF f y fs;omega
 ·show RelO ((putF f y fs).lookup g) (if g=f then some u else mA g)
  rw [lookup_putF]
  by_cases q:g=f
  ·rw [if_pos q,if_pos q];exact ry
  ·rw [if_neg q,if_neg q];exact r g
 ·by_cases q:g=f
  ·rw [q];exact (keys_putF f y fs).1
  ·refine (keys_putF f y fs).2 g (wi g fun z=>hg ?_)
   show (if g=f then some u else mA g)=none
   rw [if_neg q];exact z
theorem Inv.made (I:Inv X pins σ H s):Inv X pins σ (upd (upd H s.heap.objs.size (.own (s.heap.objs.size+1))) (s.heap.objs.size+1) (.ins C s.heap.objs.size []))
  {s with heap:=(s.heap.push PySem.W.emptyDict).push (PySem.W.instObj C s.heap.objs.size)}:=by
 have e1:(s.heap.push PySem.W.emptyDict).get? s.heap.objs.size=some PySem.W.emptyDict:=Heap.get?_push_size s.heap rfl
 have e2:((s.heap.push PySem.W.emptyDict).push (PySem.W.instObj C s.heap.objs.size)).get? (s.heap.objs.size+1)=some (PySem.W.instObj C s.heap.objs.size):=by
  have:=Heap.get?_push_size (s.heap.push PySem.W.emptyDict) (o:=PySem.W.instObj C s.heap.objs.size) rfl
  rwa [Heap.size_push] at this
 have e3:(s.heap.push PySem.W.emptyDict).Ns s.heap.objs.size (fun _=>none):=⟨PySem.W.emptyDict,#[],_,e1,rfl,(fun e he=>absurd he (by simp)),fun _=>rfl⟩
 have I1:=I.laid (a:=s.heap.objs.size) (o:=.own (s.heap.objs.size+1)) (h':=s.heap.push PySem.W.emptyDict) (t':=s.toks) (fun b u q=>Heap.get?_push_of_some _ q) (Nat.le_refl _) ⟨_,e1⟩
 refine I1.laid (a:=s.heap.objs.size+1) (o:=.ins C s.heap.objs.size []) (t':=s.toks) (fun b u q=>Heap.get?_push_of_some _ q) (Nat.le_of_eq (Heap.size_push _ _)) ?_
 have ne:s.heap.objs.size≠s.heap.objs.size+1:=Nat.ne_of_lt (Nat.lt_succ_self _)
 refine ⟨by rw [upd_ne ne,upd_same],Nat.zero_le _,ne,e2,fun _=>none,(Heap.Ns1.of_empty e3).at fun o q=>Heap.get?_push_of_some _ q,fun _=>True.intro,fun y hy=>absurd rfl hy⟩
theorem attr_of {prog:Program}{w:World}{env:Env}{e:Expr}{f:Str}{pos:Pos}{s:Shared}{Q:Value→Shared→Prop} (hb:attributeBase e f env (eval e env)=eval e env)
  (h:wpAny (model prog w) A (eval e env) (fun o s₁=>wpAny (model prog w) A (getAttr o f true) Q E s₁) E s):wpAny (model prog w) A (eval (.Attribute e f pos) env) Q E s :=
 Attribute_any_ h (by rw [arm_eval_Attribute,hb])
end
def tFld (K:PySem.W.Frag) (ta:TE) (f:Str):TE:=fun σ H Q=>ta σ H fun x H1=>∃ a C dx fs v,x=.ref a∧H1 a=some (.ins C dx fs)∧Cls K C∧NoAttr K C f∧fs.lookup f=some v∧Q v H1
def sFld (K:PySem.W.Frag) (ta tv:TE) (f:Str):TS:=fun D σ H=>tv σ H fun y H1=>ta σ H1 fun x H2=>∃ a C dx fs,x=.ref a∧H2 a=some (.ins C dx fs)∧Cls K C∧NoAttr K C f∧fs.length<1000 ∧
 D.nx σ (upd H2 a (.ins C dx (putF f y fs)))
section
variable {X:Cx}{o e value:Expr}{f:Str}{pos pos' tpos:Pos}{ta tv:TE}
theorem pe_fld (he:PE X e ta) (hb:attributeBase e f X.env (eval e X.env)=eval e X.env):PE X (.Attribute e f pos) (tFld X.K ta f):=by
 intro pins s σ H Q I h
 refine attr_of hb (thn (he pins s σ H _ I h) fun u s1 ⟨x,H1,I1,rx,a,C,dx,fs,v,ex,ea,c,n,l,q⟩=>?_)
 subst ex
 obtain rfl:u=Value.ref a:=rx
 exact getattr_ok I1 ea c n l fun u' s2 I2 ru=>⟨v,H1,I2,ru,q⟩
theorem ps_fld (ha:PE X o ta) (hv:PE X value tv) (hs:swapsWith value (some (.Attribute o f pos')) pos.line X.env=pure false):PS X (.Assign [.Attribute o f pos'] value pos) (sFld X.K ta tv f):=by
 intro pins s σ H D I h
 refine plainObj_wpAny_Assign_Attribute (thn (hv pins s σ H _ I h) fun u s1 ⟨y,H1,I1,ry,q⟩=>thn (ha pins s1 σ H1 _ I1 q) fun ov s2 ⟨x,H2,I2,rx,a,C,dx,fs,ex,ea,c,n,l,q2⟩=>?_) hs
 subst ex
 obtain rfl:ov=Value.ref a:=rx
 exact setattr_ok I2 ea c n l ry fun s3 I3=>⟨σ,_,I3,q2⟩
theorem methcall_of {pl:Sem Bool}{m:Str}{apos:Pos}{args:List Expr}{pins:List (Addr×Obj)}{s:Shared}{σ:St}{H:Hp}{Q:Value→Shared→Prop}{te:TE} (he:PE X e te) (I:Inv X pins σ H s)
  (h:te σ H fun x H1=>∃ a C dx fs g,x=.ref a∧H1 a=some (.ins C dx fs)∧Cls X.K C∧Meth X.K C m g∧fs.lookup m=none ∧
   ∀ s1,Inv X pins σ H1 s1→wpAny (model X.prog X.w) X.A (callWith pos (.ref g) [.ref a] (backTo pos (starEach args X.env)) (backToKw pos (keywordEach [] X.env))) Q X.xe s1)
  (ht:eval (.Call (.Attribute e m apos) args [] pos) X.env=(do
   let ov ← eval e X.env
   standAt apos.atName
   let (f,first) ← holding [ov] (getMethod ov m pl)
   callWith pos f first (backTo pos (starEach args X.env)) (backToKw pos (keywordEach [] X.env)))) :
  wpAny (model X.prog X.w) X.A (eval (.Call (.Attribute e m apos) args [] pos) X.env) Q X.xe s:=by
 refine PySem.W.methodCall_KW (pl:=pl) (thn (he pins s σ H _ I h) fun u s1 ⟨x,H1,I1,rx,a,C,dx,fs,g,ex,ea,c,k,l,q⟩=>?_) ht
 subst ex
 obtain rfl:u=Value.ref a:=rx
 exact getmeth_ok I1 ea c k l (q s1 I1)
end
section
variable {X:Cx}{pins:List (Addr×Obj)}{σ:St}{H:Hp}{s:Shared}{A:Around}{E:Value→Shared→Prop}{Q:Value→Shared→Prop}{c:Value}{b:Bool}
end
end L2
namespace L2
open PySem PySem.Spec PyProof.Rows
structure Room (k:Nat) (A:Around):Prop where
 hd:A.handled=none
 dp:A.depth+3*k+5<recursionLimit
 un:A.units+16*k+200<cLine
theorem Room.mono {j k:Nat}{A:Around} (r:Room k A) (h:j≤k):Room j A:=⟨r.hd,by have:=r.dp;omega,by have:=r.un;omega⟩
theorem Room.deeper {k:Nat}{A:Around} (r:Room (k+1) A) (env:Env):Room k (A.deeper env) :=
 ⟨r.hd,by have:=r.dp;show A.depth+1+3*k+5<_;omega,by have:=r.un;show A.units+3+16*k+200<_;omega⟩
theorem make_depth {A:Around}{C:Addr}{us:List Value}{kw:List (Str×Value)}:(A.under (.builtin "type.__call__" ⟨.ref C::us,kw⟩)).depth=A.depth+1:=by
 first | rfl | simp [Around.under,Code.weight,Code.isCreation,Code.isGuard,Code.isCaller,Code.frames,Code.isFrame,guardIds]
theorem make_units {A:Around}{C:Addr}{us:List Value}{kw:List (Str×Value)}:(A.under (.builtin "type.__call__" ⟨.ref C::us,kw⟩)).units=A.units+1:=by
 first | rfl | simp [Around.under,Code.cUnits,Code.frames,Code.isFrame]
theorem Room.make {k:Nat}{A:Around} (r:Room (k+1) A) (C:Addr) (us:List Value) (kw:List (Str×Value)):Room k (A.under (.builtin "type.__call__" ⟨.ref C::us,kw⟩)) :=
 ⟨r.hd,by have:=r.dp;rw [make_depth];omega,by have:=r.un;rw [make_units];omega⟩
theorem Room.depth {k:Nat}{A:Around} (r:Room k A):A.depth<recursionLimit:=by have:=r.dp;omega
theorem Room.units {k:Nat}{A:Around} (r:Room k A):A.units+64<cLine:=by have:=r.un;omega
def tNil:TA:=fun _ H Q=>Q [] H
def tCons (ta:TE) (tr:TA):TA:=fun σ H Q=>ta σ H fun x H1=>tr σ H1 fun xs H2=>Q (x::xs) H2
section
variable {X:Cx}{e:Expr}{es:List Expr}{te:TE}{t:TA}{pos:Pos}
theorem pa_nil:PA X [] tNil:=fun _ _ _ _ H Q I h=>Calls.spliced_nil ⟨[],H,I,.nil,h⟩
theorem pa_cons (ha:PE X e te) (hr:PA X es t) (hs:starEach (e::es) X.env=(false,eval e X.env)::starEach es X.env:=by rfl):PA X (e::es) (tCons te t):=by
 intro pos pins s σ H Q I h
 rw [hs]
 show wpAny _ _ (spliced ((false,eval e X.env)::backTo pos (starEach es X.env))) _ _ s
 refine Calls.spliced_cons (thn (ha pins s σ H _ I h) fun u s1 ⟨x,H1,I1,r1,q1⟩=>?_)
 exact thn (hr pos pins s1 σ H1 _ I1 q1) fun us s2 ⟨xs,H2,I2,r2,q2⟩=>⟨x::xs,H2,I2,.cons r1 r2,q2⟩
def tLst (t:TA):TE:=fun σ H Q=>t σ H fun xs H1=>xs.length≤sizeLine∧∀ p,H1 p=none→Q (.ref p) (upd H1 p (.lst xs))
theorem pe_lst (h:PA X es t):PE X (.List es pos) (tLst t):=by
 intro pins s σ H Q I hq
 refine wpAny_List_spliced (thn (h pos pins s σ H _ I hq) fun us s1 ⟨xs,H1,I1,r,z,q⟩=>⟨by rw [← r.length];exact z,?_⟩)
 have hf:H1 s1.heap.objs.size=none:=I1.hok.fresh (Nat.le_refl _)
 refine ⟨.ref s1.heap.objs.size,upd H1 s1.heap.objs.size (.lst xs),I1.laid (t':=s1.toks) (fun b u e=>Heap.get?_push_of_some _ e) (Nat.le_refl _) ?_,rfl,q _ hf⟩
 exact ⟨z,us,0,r,Heap.get?_push_size _ rfl⟩
end
abbrev Sp:=List V→Hp→VK→XK→Prop
abbrev CXT:=List Env→Hp→Shared→XK→Value→Shared→Prop
structure Env0 (P:Program) (w:World) (K:PySem.W.Frag) (mg:Str→Option Value) (base:Heap) (A:Around) (outer:List Env) (s:Shared) (H:Hp):Prop where
 frames:A.frames=some outer
 mod:Mod K mg base
 bs:∀ b o,base.get? b=some o→s.heap.get? b=some o∧H b=none
 bsz:base.objs.size≤s.heap.objs.size
 funs:s.heap.FunFrames base outer
 frf:∀ b∈frs outer,H b=none
 hok:HOk P w H s.heap
 bare:AllBare s.gens
def CE (outer:List Env) (P:Program) (w:World) (H:Hp) (s:Shared) (Q:VK) (u:Value) (s':Shared):Prop :=
 ∃ v H',s'.os=s.os∧AllBare s'.gens∧Un (frs outer) [] H H' s.heap s'.heap∧HOk P w H' s'.heap∧RelV v u∧Q v H'
def CR (CX:CXT) (outer:List Env) (P:Program) (w:World) (H:Hp) (s:Shared) (Q:VK) (E:XK) (r:Result) (s':Shared):Prop :=
 match r with
 | .ok (.ret u)=>CE outer P w H s Q u s'
 | .ok _=>False
 | .error e=>CX outer H s E e s'
structure FnOk (P:Program) (w:World) (K:PySem.W.Frag) (mg:Str→Option Value) (base:Heap) (CX:CXT) (k:Nat) (f:Addr) (fd:FuncData) (ps:List Str) (sp:Sp):Prop where
 len:∀ vs H Q E,sp vs H Q E→vs.length=ps.length
 run:∀ (A:Around) (outer:List Env) (s:Shared) (H:Hp) (args:Args) (us:List Value) (vs:List V) (Q:VK) (E:XK),Room k A→Env0 P w K mg base A outer s H→BindsTo s fd args (ps.zip us)→Vals vs us→sp vs H Q E →
  codeAny (model P w) A (.call (.ref f) args) (CR CX outer P w H s Q E) s
theorem FnOk.mono {P:Program}{w:World}{K:PySem.W.Frag}{mg:Str→Option Value}{base:Heap}{CX:CXT}{j k:Nat}{f:Addr}{fd:FuncData}{ps:List Str}{sp:Sp} (F:FnOk P w K mg base CX j f fd ps sp) (h:j≤k) :
  FnOk P w K mg base CX k f fd ps sp:=⟨F.len,fun A outer s H args us vs Q E hr=>F.run A outer s H args us vs Q E (hr.mono h)⟩
theorem Env0.make {P:Program}{w:World}{K:PySem.W.Frag}{mg:Str→Option Value}{base:Heap}{A:Around}{outer:List Env}{s:Shared}{H:Hp} (e:Env0 P w K mg base A outer s H) (C:Addr) (us:List Value) (kw:List (Str×Value)) :
  Env0 P w K mg base (A.under (.builtin "type.__call__" ⟨.ref C::us,kw⟩)) outer s H:=⟨by first | exact e.frames | (simpa [Around.under,Code.envs,Code.isFrame,pushEnvs] using e.frames),e.mod,e.bs,e.bsz,e.funs,e.frf,e.hok,e.bare⟩
section
variable {X:Cx}{pins:List (Addr×Obj)}{σ:St}{H:Hp}{s s':Shared}
theorem Inv.env0 (I:Inv X pins σ H s):Env0 X.prog X.w X.K X.mg X.base X.A X.stack s H :=
 ⟨I.ok.frames,I.ok.mod,I.bs,Nat.le_trans I.ok.bsz I.sz,I.stack,I.stkFree,I.hok,I.bare⟩
theorem Inv.after {Q:VK}{u:Value} (I:Inv X pins σ H s) (h:CE X.stack X.prog X.w H s Q u s'):EP X pins σ Q u s':=by
 obtain ⟨v,H',os,bare,un,hok,r,q⟩:=h
 obtain ⟨hh,g,d,t,os'⟩:=s'
 obtain rfl:os'=s.os:=os
 exact ⟨v,H',I.call (h':=hh) (g':=g) (d':=d) (t':=t) (ch:=[]) un hok bare (fun b z=>absurd z (by simp)),r,q⟩
end
def tCall (sp:Sp) (dvs:List V) (E:XK) (t:TA):TE:=fun σ H Q=>t σ H fun vs H1=>sp (vs++dvs) H1 Q E
def tMeth (C:Addr) (m:Str) (sp:Sp) (dvs:List V) (E:XK) (ta:TE) (t:TA):TE:=fun σ H Q=>ta σ H fun x H1=>∃ a dx fs,x=.ref a∧H1 a=some (.ins C dx fs)∧fs.lookup m=none ∧
 t σ H1 fun vs H2=>sp (x::(vs++dvs)) H2 Q E
def tMake (C:Addr) (sp:Sp) (dvs:List V) (E:XK) (t:TA):TE:=fun σ H Q=>t σ H fun vs H1=>∀ x dx,H1 x=none→H1 dx=none→dx≠x →
 sp (.ref x::(vs++dvs)) (upd (upd H1 dx (.own x)) x (.ins C dx [])) (fun v H2=>v=.non∧Q (.ref x) H2) E
def Binds (K:PySem.W.Frag) (fd:FuncData) (ps:List Str) (ds:List Value):Prop :=
 ∀ (s:Shared) (us:List Value),K.In s.heap→(us++ds).length=ps.length→BindsTo s fd ⟨us,[]⟩ (ps.zip (us++ds))
theorem Binds.all {K:PySem.W.Frag}{fd:FuncData}{ps:List Str} (h:∀ us:List Value,us.length=ps.length→bindArgs fd ⟨us,[]⟩=pure (ps.zip us)):Binds K fd ps []:=fun s us _ hl=>by
 rw [List.append_nil] at hl ⊢
 exact .of_eq (h us hl)
def Passes (CX:CXT) (X:Cx) (E:XK):Prop:=∀ (pins:List (Addr×Obj)) (σ:St) (H:Hp) (s:Shared) (e:Value) (s':Shared),Inv X pins σ H s→CX X.stack H s E e s'→X.xe e s'
section
variable {X:Cx}{CX:CXT}{k:Nat}{f C:Addr}{fd:FuncData}{ps:List Str}{sp:Sp}{dvs:List V}{ds:List Value}{E:XK}{x m:Str}{p pos apos:Pos}{e o:Expr}{es:List Expr}{ta:TE}{t:TA}
theorem run_fn {pins:List (Addr×Obj)}{σ:St}{H:Hp}{s:Shared}{Q:VK}{us:List Value}{vs:List V} (F:FnOk X.prog X.w X.K X.mg X.base CX k f fd ps sp) (hr:Room k X.A) (hb:Binds X.K fd ps ds) (hd:Vals dvs ds) (hx:Passes CX X E)
  (I:Inv X pins σ H s) (r:Vals vs us) (h:sp (vs++dvs) H Q E):wpAny (model X.prog X.w) X.A (call (.ref f) us) (EP X pins σ Q) X.xe s:=by
 have r2:Vals (vs++dvs) (us++ds):=r.append hd
 have hl:(us++ds).length=ps.length:=by rw [← r2.length];exact F.len _ _ _ _ h
 refine wpAny_call (codeAny_mono (F.run X.A X.stack s H ⟨us,[]⟩ (us++ds) (vs++dvs) Q E hr I.env0 (hb s us I.kIn hl) r2 h) fun r s' hq=>?_)
 cases r with
 | error e=>exact hx pins σ H s e s' I hq
 | ok fl =>
  cases fl with
  | ret u=>exact I.after hq
  | next=>exact False.elim hq
  | brk=>exact False.elim hq
  | cont=>exact False.elim hq
theorem pe_call (F:FnOk X.prog X.w X.K X.mg X.base CX k f fd ps sp) (hr:Room k X.A) (hg:Gl X x) (hm:X.mg x=some (.ref f)) (hk:PySem.W.keepIn X.K (.ref f)=true) (hb:Binds X.K fd ps ds) (hd:Vals dvs ds) (hx:Passes CX X E)
  (ha:PA X (e::es) t) (hdb:(x==("__debug__":Str))=false:=by decide) (he:starEach (e::es) X.env=(false,eval e X.env)::starEach es X.env:=by rfl) (hpl:(backTo pos (starEach es X.env)).any (·.1)=false:=by rfl) :
  PE X (.Call (.Name x p) (e::es) [] pos) (tCall sp dvs E t):=by
 intro pins s σ H Q I h
 refine wpAny_Call_Name_kw (ld_glob I hg hm ?_ hdb)
 refine PySem.W.callWith_K (h₀:=X.base) I.ok.mod.kin hk (thn (ha pos pins s σ H _ I h) fun us s1 ⟨vs,H1,I1,r,q⟩=>⟨I1.kIn,?_⟩) he hpl
 exact run_fn F hr hb hd hx I1 r q
theorem pe_meth {pl:Sem Bool} (he:PE X o ta) (c:Cls X.K C) (hm:Meth X.K C m f) (F:FnOk X.prog X.w X.K X.mg X.base CX k f fd ps sp) (hr:Room k X.A) (hb:Binds X.K fd ps ds) (hd:Vals dvs ds) (hx:Passes CX X E) (ha:PA X (e::es) t)
  (hst:starEach (e::es) X.env=(false,eval e X.env)::starEach es X.env:=by rfl) (hpl:(backTo pos (starEach es X.env)).any (·.1)=false:=by rfl)
  (ht:eval (.Call (.Attribute o m apos) (e::es) [] pos) X.env=(do
   let ov ← eval o X.env
   standAt apos.atName
   let (f,first) ← holding [ov] (getMethod ov m pl)
   callWith pos f first (backTo pos (starEach (e::es) X.env)) (backToKw pos (keywordEach [] X.env))):=by rfl) :
  PE X (.Call (.Attribute o m apos) (e::es) [] pos) (tMeth C m sp dvs E ta t):=by
 intro pins s σ H Q I h
 refine PySem.W.methodCall_KW (pl:=pl) (thn (he pins s σ H _ I h) fun u s1 ⟨x,H1,I1,rx,a,dx,fs,ex,ea,l,q⟩=>?_) ht
 subst ex
 obtain rfl:u=Value.ref a:=rx
 refine getmeth_ok I1 ea c hm l ?_
 refine PySem.W.callWith_K (first:=[.ref a]) (h₀:=X.base) I.ok.mod.kin hm.kp (thn (ha pos pins s1 σ H1 _ I1 q) fun us s2 ⟨vs,H2,I2,r,q2⟩=>⟨I2.kIn,?_⟩) hst hpl
 exact run_fn (us:=.ref a::us) (vs:=.ref a::vs) F hr hb hd hx I2 (.cons rfl r) q2
theorem pe_meth0 {pl:Sem Bool} (he:PE X o ta) (c:Cls X.K C) (hm:Meth X.K C m f) (F:FnOk X.prog X.w X.K X.mg X.base CX k f fd ps sp) (hr:Room k X.A) (hb:Binds X.K fd ps ds) (hd:Vals dvs ds) (hx:Passes CX X E)
  (ht:eval (.Call (.Attribute o m apos) [] [] pos) X.env=(do
   let ov ← eval o X.env
   standAt apos.atName
   let (f,first) ← holding [ov] (getMethod ov m pl)
   callWith pos f first (backTo pos (starEach [] X.env)) (backToKw pos (keywordEach [] X.env))):=by rfl) :
  PE X (.Call (.Attribute o m apos) [] [] pos) (tMeth C m sp dvs E ta tNil):=by
 intro pins s σ H Q I h
 refine PySem.W.methodCall_KW (pl:=pl) (thn (he pins s σ H _ I h) fun u s1 ⟨x,H1,I1,rx,a,dx,fs,ex,ea,l,q⟩=>?_) ht
 subst ex
 obtain rfl:u=Value.ref a:=rx
 refine getmeth_ok I1 ea c hm l ?_
 exact PySem.W.callWith_K0 (first:=[.ref a]) I1.kIn hm.kp (run_fn (us:=[.ref a]) (vs:=[.ref a]) F hr hb hd hx I1 (.cons rfl .nil) q)
structure Mk (K:PySem.W.Frag) (C f:Addr):Prop where
 makes:PySem.W.makesIn K C=true
 init:PySem.W.findIn K (.ref C) "__init__"=some (some (.ref f))
 fn:PySem.W.isFn K (.ref f)=true
 kp:PySem.W.keepIn K (.ref C)=true
theorem run_make {pins:List (Addr×Obj)}{σ:St}{H:Hp}{s:Shared}{Q:VK}{us:List Value}{vs:List V} (M:Mk X.K C f) (F:FnOk X.prog X.w X.K X.mg X.base CX k f fd ps sp) (hr:Room (k+1) X.A) (hb:Binds X.K fd ps ds) (hd:Vals dvs ds)
  (hx:Passes CX X E) (I:Inv X pins σ H s) (r:Vals vs us)
  (h:∀ x dx,H x=none→H dx=none→dx≠x→sp (.ref x::(vs++dvs)) (upd (upd H dx (.own x)) x (.ins C dx [])) (fun v H2=>v=.non∧Q (.ref x) H2) E) :
  wpAny (model X.prog X.w) X.A (call (.ref C) us) (EP X pins σ Q) X.xe s:=by
 have hq:=h (s.heap.objs.size+1) s.heap.objs.size (I.hok.fresh (Nat.le_succ _)) (I.hok.fresh (Nat.le_refl _)) (Nat.ne_of_lt (Nat.lt_succ_self _))
 have I2:=Inv.made (C:=C) I
 have r2:Vals (V.ref (s.heap.objs.size+1)::(vs++dvs)) (Value.ref (s.heap.objs.size+1)::(us++ds)):=.cons rfl (r.append hd)
 have hl:(Value.ref (s.heap.objs.size+1)::us++ds).length=ps.length:=by
  have e:=r2.length
  rw [F.len _ _ _ _ hq] at e
  exact e.symm
 refine wpAny_call (make_map (f:=f) I.kIn M.makes M.init (beq_iff_eq.mp M.fn) (codeAny_mono (F.run _ X.stack _ _ ⟨Value.ref (s.heap.objs.size+1)::us,[]⟩ (Value.ref (s.heap.objs.size+1)::(us++ds)) _ _ E (hr.make C us [])
  (I2.env0.make C us []) (hb _ (Value.ref (s.heap.objs.size+1)::us) I2.kIn hl) r2 hq) fun r s' hq'=>?_))
 cases r with
 | error e=>exact hx pins σ _ _ e s' I2 hq'
 | ok fl =>
  cases fl with
  | ret u =>
   obtain ⟨v,H',I3,rv,ev,q3⟩:=I2.after hq'
   subst ev
   exact ⟨rv,⟨V.ref (s.heap.objs.size+1),H',I3,rfl,q3⟩⟩
  | next=>exact False.elim hq'
  | brk=>exact False.elim hq'
  | cont=>exact False.elim hq'
theorem pe_make (M:Mk X.K C f) (F:FnOk X.prog X.w X.K X.mg X.base CX k f fd ps sp) (hr:Room (k+1) X.A) (hg:Gl X x) (hm:X.mg x=some (.ref C)) (hb:Binds X.K fd ps ds) (hd:Vals dvs ds) (hx:Passes CX X E)
  (ha:PA X (e::es) t) (hdb:(x==("__debug__":Str))=false:=by decide) (he:starEach (e::es) X.env=(false,eval e X.env)::starEach es X.env:=by rfl) (hpl:(backTo pos (starEach es X.env)).any (·.1)=false:=by rfl) :
  PE X (.Call (.Name x p) (e::es) [] pos) (tMake C sp dvs E t):=by
 intro pins s σ H Q I h
 refine wpAny_Call_Name_kw (ld_glob I hg hm ?_ hdb)
 refine PySem.W.callWith_K (h₀:=X.base) I.ok.mod.kin M.kp (thn (ha pos pins s σ H _ I h) fun us s1 ⟨vs,H1,I1,r,q⟩=>⟨I1.kIn,?_⟩) he hpl
 exact run_make M F hr hb hd hx I1 r q
theorem pe_make0 (M:Mk X.K C f) (F:FnOk X.prog X.w X.K X.mg X.base CX k f fd ps sp) (hr:Room (k+1) X.A) (hg:Gl X x) (hm:X.mg x=some (.ref C)) (hb:Binds X.K fd ps ds) (hd:Vals dvs ds) (hx:Passes CX X E)
  (hdb:(x==("__debug__":Str))=false:=by decide):PE X (.Call (.Name x p) [] [] pos) (tMake C sp dvs E tNil):=by
 intro pins s σ H Q I h
 refine wpAny_Call_Name_kw (ld_glob I hg hm ?_ hdb)
 exact PySem.W.callWith_K0 I.kIn M.kp (run_make (us:=[]) M F hr hb hd hx I .nil h)
end
section
variable {X:Cx}{CX:CXT}{k:Nat}{f C:Addr}{fd:FuncData}{ps ks:List Str}{sp:Sp}{E:XK}{x m:Str}{p pos apos kpos:Pos}{e o:Expr}{es:List Expr}{kws:List Keyword}{te ta:TE}{t tk:TA}{nm:Option Str}
variable {g:List Value→List Value→List Value}{gV:List V→List V→List V}
end
structure FnScope (N P:List Str) (sc:Scope):Prop where
 kind:sc.kind=.function
 co:sc.isCoroutine=false
 gen:sc.isGenerator=false
 nd:N.Nodup
 pre:N.take P.length=P
 par:∀ x∈P,sc.names.lookup x=some .local∨sc.names.lookup x=some .cell
 nofree:∀ y∈sc.names,y.2≠.free
theorem bindL_out {kindOf:Str→Option NameKind}{x:Str}:∀ {binds:List (Str×Value)}{m:Str→Option Value},(∀ v,(x,v)∉binds)→bindL kindOf binds m x=m x
 | [],_,_=>rfl
 | (n,v)::r,m,h=>by
  unfold bindL
  rw [bindL_out fun w hw=>h w (List.mem_cons_of_mem _ hw)]
  split
  ·have:x≠n:=by rintro rfl;exact h v List.mem_cons_self
   simp [this]
  ·rfl
theorem bindC_out {kindOf:Str→Option NameKind}{x:Str}:∀ {binds:List (Str×Value)}{m:Str→Option Value},(∀ v,(x,v)∉binds)→bindC kindOf binds m x=m x
 | [],_,_=>rfl
 | (n,v)::r,m,h=>by
  unfold bindC
  rw [bindC_out fun w hw=>h w (List.mem_cons_of_mem _ hw)]
  split
  ·rfl
  ·have:x≠n:=by rintro rfl;exact h v List.mem_cons_self
   simp [this]
theorem bindL_get {kindOf:Str→Option NameKind}{x:Str}{v:Value}:∀ {P:List Str}{vs:List Value}{i:Nat}{m:Str→Option Value},P.Nodup→P[i]?=some x→vs[i]?=some v→kindOf x=some .local →
  bindL kindOf (P.zip vs) m x=some v
 | [],_,_,_,_,h,_,_=>by simp at h
 | _::_,[],_,_,_,_,h,_=>by simp at h
 | p::P,w::vs,0,m,nd,h1,h2,hk=>by
  simp at h1 h2;subst h1;subst h2
  show bindL kindOf ((p,w)::P.zip vs) m p=_
  unfold bindL
  rw [bindL_out fun v hv=>(List.nodup_cons.mp nd).1 (List.of_mem_zip hv).1,if_pos hk]
  simp
 | p::P,w::vs,i+1,m,nd,h1,h2,hk=>by
  show bindL kindOf ((p,w)::P.zip vs) m x=_
  unfold bindL
  exact bindL_get (i:=i) (List.nodup_cons.mp nd).2 (by simpa using h1) (by simpa using h2) hk
theorem bindC_get {kindOf:Str→Option NameKind}{x:Str}{v:Value}:∀ {P:List Str}{vs:List Value}{i:Nat}{m:Str→Option Value},P.Nodup→P[i]?=some x→vs[i]?=some v→kindOf x≠some .local →
  bindC kindOf (P.zip vs) m x=some v
 | [],_,_,_,_,h,_,_=>by simp at h
 | _::_,[],_,_,_,_,h,_=>by simp at h
 | p::P,w::vs,0,m,nd,h1,h2,hk=>by
  simp at h1 h2;subst h1;subst h2
  show bindC kindOf ((p,w)::P.zip vs) m p=_
  unfold bindC
  rw [bindC_out fun v hv=>(List.nodup_cons.mp nd).1 (List.of_mem_zip hv).1,if_neg hk]
  simp
 | p::P,w::vs,i+1,m,nd,h1,h2,hk=>by
  show bindC kindOf ((p,w)::P.zip vs) m x=_
  unfold bindC
  exact bindC_get (i:=i) (List.nodup_cons.mp nd).2 (by simpa using h1) (by simpa using h2) hk
def start (N:List Str) (vs:List V):St:=vs.map some++List.replicate (N.length - vs.length) none
def cxOf (CX:CXT) (P:Program) (w:World) (K:PySem.W.Frag) (mg:Str→Option Value) (base:Heap) (N:List Str) (qual:Str) (scope:Scope) (f:Addr) (cd:Value) (A:Around) (outer:List Env) (s:Shared) (H:Hp) (E:XK):Cx where
 prog:=P
 w:=w
 K:=K
 mg:=mg
 base:=base
 A:=A.deeper (envOfC qual scope s.heap.objs.size f cd)
 N:=N
 s_0:=s
 H_0:=H
 env:=envOfC qual scope s.heap.objs.size f cd
 outer:=outer
 stack:=envOfC qual scope s.heap.objs.size f cd::outer
 ex:=[]
 calm:=true
 fn:=fun _=>true
 pn:=[]
 xe:=fun e s'=>wpAny (model P w) (A.deeper (envOfC qual scope s.heap.objs.size f cd)) (leaving (envOfC qual scope s.heap.objs.size f cd) e) (fun _ s''=>CX outer H s E e s'') (fun e' s''=>CX outer H s E e' s'') s'
theorem cell_has {sc:Scope}{n:Nat}{x:Str} (h:sc.names.lookup x=some .cell):∃ c,(cellsFrom n sc.names []).lookup x=some c:=by
 have q:=PySem.W.cellsFrom_some sc.names n [] (.inl h)
 exact Option.isSome_iff_exists.mp q
theorem inv_start {CX:CXT}{P:Program}{w:World}{K:PySem.W.Frag}{mg:Str→Option Value}{base:Heap}{N ps:List Str}{qual:Str}{scope:Scope}{f:Addr}{cd:Value}{A:Around}{outer:List Env}{s s1:Shared}{H:Hp}{E:XK}{us:List Value}{vs:List V}
  (S:FnScope N ps scope) (hd:A.handled=none) (e0:Env0 P w K mg base A outer s H) (hl:vs.length=ps.length) (r:Vals vs us)
  (x:InCallC s s.heap.objs.size (bindL (envOfC qual scope s.heap.objs.size f cd).kindOf (ps.zip us) fun _=>none) (cellsFrom (s.heap.objs.size+1) scope.names []) (bindC (envOfC qual scope s.heap.objs.size f cd).kindOf (ps.zip us) fun _=>none) s1) :
  Inv (cxOf CX P w K mg base N qual scope f cd A outer s H E) [] (start N vs) H s1:=by
 have hpl:ps.length≤N.length:=by have:=congrArg List.length S.pre;rw [List.length_take] at this;omega
 obtain ⟨h1,tk,rfl,hk⟩:=x.done
 have noA:∀ b:Addr,b∉(cxOf CX P w K mg base N qual scope f cd A outer s H E).ex:=fun b z=>absurd (show b∈([]:List Addr) from z) (by simp)
 refine ⟨⟨e0.mod,S.kind,rfl,rfl,Nat.le_refl _,fun y z c h1 h2=>?_,fun y hy=>?_,fun y c _ h=>?_,fun _=>hd,Around.frames_deeper e0.frames,.inr ⟨rfl,rfl⟩,fun b z=>absurd z (noA b),e0.bs,e0.bsz,fun b _ _=>noA b,fun b z=>absurd z (noA b),e0.funs,e0.frf⟩,
  rfl,e0.bare,Un.kept hk,⟨_,x.toInCall.ns,fun i y v h1 h2 h3=>?_⟩,fun y c h=>⟨_,x.cell y c h⟩,e0.hok.fresh (Nat.le_refl _),fun y c h=>?_,fun p hp=>absurd (show p∈([]:List (Addr×Obj)) from hp) (by simp),e0.hok.kept hk,?_⟩
 ·exact name_of_addr x.apart (PySem.mem_of_lookup h1) (PySem.mem_of_lookup h2)
 ·have hy:scope.names.lookup y=some .cell∨scope.names.lookup y=some .free:=hy
  rcases hy with hy | hy
  ·exact cell_has hy
  ·exact absurd rfl (S.nofree _ (PySem.mem_of_lookup hy))
 ·exact Nat.le_of_lt (x.above y c (PySem.mem_of_lookup h))
 ·have hi:i<vs.length:=by
   unfold start at h2
   by_cases hi:i<vs.length
   ·exact hi
   ·rw [List.getElem?_append_right (by simpa using hi)] at h2
    rw [List.getElem?_replicate] at h2
    split at h2 <;> cases h2
  have ha:vs[i]?=some v:=by
   unfold start at h2
   rw [List.getElem?_append_left (by simpa using hi),List.getElem?_map] at h2
   cases e:vs[i]? with
   | none=>rw [e] at h2;cases h2
   | some a=>rw [e] at h2;cases h2;rfl
  obtain ⟨u,hu,rv⟩:=r.get ha
  have hp:ps[i]?=some y:=by
   rw [← S.pre,List.getElem?_take_of_lt (by omega)];exact h1
  have ndP:ps.Nodup:=by rw [← S.pre];exact S.nd.sublist (List.take_sublist _ _)
  refine ⟨u,rv,?_⟩
  rcases S.par y (List.mem_of_getElem? hp) with k | k
  ·exact .inl ⟨k,bindL_get ndP hp hu k⟩
  ·obtain ⟨c,e⟩:=cell_has (n:=s.heap.objs.size+1) k
   refine .inr ⟨.inl k,c,e,?_⟩
   have q:=x.cell y c e
   rw [bindC_get ndP hp hu (by show scope.names.lookup y≠_;rw [k];decide)] at q
   exact q
 ·exact e0.hok.fresh (Nat.le_of_lt (x.above y c (PySem.mem_of_lookup h)))
 ·unfold start
  show _=N.length
  rw [List.length_append,List.length_map,List.length_replicate]
  omega
theorem fn_of {CX:CXT}{P:Program}{w:World}{K:PySem.W.Frag}{mg:Str→Option Value}{base:Heap}{k:Nat}{f:Addr}{name qual:Str}{params:Arguments}{body:List Stmt}{scope:Scope}{dV kV doc pm cdv ct oc:Value}{an od:Option Addr}
  {osl:Array (Option Value)}{N ps:List Str}{sp:Sp} (lk:K.lookup f=some ⟨oc,od,.func (PySem.W.fnOf name qual params body scope dV kV doc pm an cdv ct),osl⟩) (hcd:PySem.W.codeIn K cdv qual=true) (S:FnScope N ps scope)
  (len:∀ vs H Q E,sp vs H Q E→vs.length=ps.length)
  (hbody:∀ (A:Around) (outer:List Env) (s:Shared) (H:Hp) (vs:List V) (Q:VK) (E:XK),Room k (A.deeper (envOfC qual scope s.heap.objs.size f cdv))→sp vs H Q E →
   ∃ t,PSs (cxOf CX P w K mg base N qual scope f cdv A outer s H E) body t∧t {nx:=fun _ H'=>Q .non H',rt:=Q} (start N vs) H) :
  FnOk P w K mg base CX (k+1) f (PySem.W.fnOf name qual params body scope dV kV doc pm an cdv ct) ps sp:=by
 refine ⟨len,fun A outer s H args us vs Q E hr e0 hb r hsp=>?_⟩
 have hl:=len _ _ _ _ hsp
 have KX:K.In s.heap:=e0.mod.kin.keeps fun b o e=>(e0.bs b o e).1
 have lim:s.heap.NoLimit:=e0.mod.nolimit.keeps fun b o e=>(e0.bs b o e).1
 have hkind:∀ y∈ps.zip us,scope.names.lookup y.1=some .local∨(scope.names.lookup y.1=some .cell∧((cellsFrom (s.heap.objs.size+1) scope.names []).lookup y.1).isSome=true):=fun ⟨n,v⟩ hy=>by
  rcases S.par n (List.of_mem_zip hy).1 with q | q
  ·exact .inl q
  ·exact .inr ⟨q,PySem.W.cellsFrom_some _ _ _ (.inl q)⟩
 refine codeAny_call_function hr.depth (KX _ _ lk) rfl S.co S.gen rfl (PySem.W.codeRec_of KX hcd) (hb _ _ _ _ ?_)
 refine wpAny_newFunctionEnv_cells S.kind hkind fun env he s1 x=>?_
 subst he
 refine ⟨lim.keeps x.toInCall.keep,codeAny_func ?_⟩
 obtain ⟨t,ht,hq⟩:=hbody A outer s H vs Q E (hr.deeper _) hsp
 have I:Inv (cxOf CX P w K mg base N qual scope f cdv A outer s H E) [] (start N vs) H s1:=inv_start S hr.hd e0 hl r x
 refine wpAny_mono (ht [] s1 (start N vs) H _ I hq) (fun fl s' hs=>?_) fun e s' hs=>hs
 have fin:∀ {σ':St}{H':Hp}{v:V}{u:Value},Inv (cxOf CX P w K mg base N qual scope f cdv A outer s H E) [] σ' H' s'→RelV v u→Q v H'→CE outer P w H s Q u s' :=
  fun {σ' H' v u} J rv q=>⟨v,H',J.os,J.bare,J.base,J.hok,rv,q⟩
 cases fl with
 | ret u =>
  obtain ⟨v,σ',H',J,rv,q⟩:=hs
  exact fin J rv q
 | next =>
  obtain ⟨σ',H',J,q⟩:=hs
  exact fin (v:=V.non) (u:=Value.none) J rfl q
 | brk =>
  obtain ⟨_,_,_,q⟩:=hs
  exact False.elim q
 | cont =>
  obtain ⟨_,_,_,q⟩:=hs
  exact False.elim q
end L2
namespace L2
open PySem PySem.Spec PyProof.Rows
section
variable {X:Cx}{x:Str}{p pos:Pos}{e:Expr}{es:List Expr}{t:TA}{id T:String}{r:List V→Hp→VK→Prop}
def tCB (r:List V→Hp→VK→Prop) (t:TA):TE:=fun σ H Q=>t σ H fun vs H1=>r vs H1 Q
theorem pe_callB (hc:CallR X (.builtin id) r) (hg:Gl X x) (hm:X.mg x=none) (hv:bootBuiltins x=some (.builtin id)) (ha:PA X (e::es) t) (hn:x≠"__name__":=by decide) (hdb:(x==("__debug__":Str))=false:=by decide)
  (he:starEach (e::es) X.env=(false,eval e X.env)::starEach es X.env:=by rfl) (hpl:(backTo pos (starEach es X.env)).any (·.1)=false:=by rfl):PE X (.Call (.Name x p) (e::es) [] pos) (tCB r t):=by
 intro pins s σ H Q I h
 refine wpAny_Call_Name_kw (ld_blt I hg hm hv ?_ hn hdb)
 exact PyProof.Rows.callWith_builtin1 (thn (ha pos pins s σ H _ I h) fun us s1 ⟨vs,H1,I1,r1,q1⟩=>hc pins s1 σ H1 vs us Q I1 r1 q1) he hpl
theorem pe_callTy (hc:CallR X (.type T) r) (hg:Gl X x) (hm:X.mg x=none) (hv:bootBuiltins x=some (.type T)) (ha:PA X (e::es) t) (hn:x≠"__name__":=by decide) (hdb:(x==("__debug__":Str))=false:=by decide)
  (he:starEach (e::es) X.env=(false,eval e X.env)::starEach es X.env:=by rfl) (hpl:(backTo pos (starEach es X.env)).any (·.1)=false:=by rfl):PE X (.Call (.Name x p) (e::es) [] pos) (tCB r t):=by
 intro pins s σ H Q I h
 refine wpAny_Call_Name_kw (ld_blt I hg hm hv ?_ hn hdb)
 exact PyProof.Rows.callWith_type1 (thn (ha pos pins s σ H _ I h) fun us s1 ⟨vs,H1,I1,r1,q1⟩=>hc pins s1 σ H1 vs us Q I1 r1 q1) he hpl
end
end L2
namespace HT
open PySem PyProof.Rows
section
open PySem.SeqAt
open PySem.AutoSeq1 (wpAny_loadPart')
open PySem.MeetsSeq PySem.MeetsSeq2 PySem.MeetsSeq3
end
section
variable {prog:Program}{w:World}{A:Around}{E:Value→Shared→Prop}{s:Shared}
def sIx (n d:Nat):Option Int→Nat
 | none=>d
 | some v=>if v<0 then (v+(n:Int)).toNat else min v.toNat n
theorem sIx_nat (n d k:Nat):sIx n d (some (k:Int))=min k n:=by
 show (if (k:Int)<0 then ((k:Int)+(n:Int)).toNat else min (k:Int).toNat n)=min k n
 rw [if_neg (by omega),Int.toNat_natCast]
end
end HT
namespace L2
open PySem PySem.Spec PyProof.Rows
abbrev TO:=St→Hp→(Option Int→Hp→Prop)→Prop
def PO (X:Cx) (e:Option Expr) (t:TO):Prop :=
 ∀ (pins:List (Addr×Obj)) (s:Shared) (σ:St) (H:Hp) (Q:Option Int→Hp→Prop),Inv X pins σ H s→t σ H Q →
  wpAny (model X.prog X.w) X.A (evalPart e X.env) (fun u s'=>∃ o H',Inv X pins σ H' s'∧IsPart u o∧Q o H') X.xe s
def tPart (t:TE):TO:=fun σ H Q=>t σ H fun x H1=>∃ i,x=.int i∧Q (some i) H1
section
variable {X:Cx}{e:Expr}{te:TE}{lo hi:Option Expr}{tl th:TO}{pos p2:Pos}
theorem po_some (h:PE X e te):PO X (some e) (tPart te):=by
 intro pins s σ H Q I hw
 rw [evalPart_some]
 refine thn (h pins s σ H _ I hw) fun u s1 ⟨x,H1,I1,r1,q1⟩=>?_
 obtain ⟨i,rfl,q⟩:=q1
 obtain ⟨t,rfl⟩:=r1
 exact ⟨some i,H1,I1,.int i t,q⟩
def SlR (X:Cx) (r:V→Option Int→Option Int→Hp→VK→Prop):Prop :=
 ∀ (pins:List (Addr×Obj)) (s:Shared) (σ:St) (H:Hp) (x:V) (v vl vu:Value) (lo hi:Option Int) (sl:Addr) (Q:VK),Inv X pins σ H s→RelV x v→s.heap.IsSliceOf sl vl vu .none→IsPart vl lo→IsPart vu hi→r x lo hi H Q →
  ∃ T id,typeLookup (.type T) "__getitem__"=pure (some (.builtin id))∧s.TypeIs v T∧wpAny (model X.prog X.w) X.A (getItem v (.ref sl)) (EP X pins σ Q) X.xe s
def tSl (r:V→Option Int→Option Int→Hp→VK→Prop) (te:TE) (tl th:TO):TE:=fun σ H Q=>te σ H fun x H1=>tl σ H1 fun l H2=>th σ H2 fun u H3=>r x l u H3 Q
theorem pe_slice {r:V→Option Int→Option Int→Hp→VK→Prop} (hr:SlR X r) (he:PE X e te) (hl:PO X lo tl) (hu:PO X hi th):PE X (.Subscript e (.Slice lo hi none p2) pos) (tSl r te tl th):=by
 intro pins s σ H Q I h
 refine Subscript_ (thn (he pins s σ H _ I h) fun v s1 ⟨x,H1,I1,r1,q1⟩=>?_)
 refine wpAny_Slice (thn (hl pins s1 σ H1 _ I1 q1) fun vl s2 ⟨l,H2,I2,pl,q2⟩=>thn (hu pins s2 σ H2 _ I2 q2) fun vu s3 ⟨u,H3,I3,pu,q3⟩=>?_)
 rw [evalPart_none]
 refine wpAny_pure ?_
 have I4:Inv X pins σ H3 {s3 with heap:=s3.heap.push {cls:=.type "slice",data:=.fields #[vl,vu,.none]}}:=I3.kept (t':=s3.toks) fun b ob q=>Heap.get?_push_of_some _ q
 obtain ⟨T,id,hT,ht,hg⟩:=hr pins {s3 with heap:=s3.heap.push {cls:=.type "slice",data:=.fields #[vl,vu,.none]}} σ H3 x v vl vu l u s3.heap.objs.size Q I4 r1 (Heap.IsSliceOf.new ..) pl pu q3
 show wpAny (model X.prog X.w) X.A (subscriptTail e (.Slice lo hi none p2) v (.ref s3.heap.objs.size)) (EP X pins σ Q) X.xe {s3 with heap:=s3.heap.push {cls:=.type "slice",data:=.fields #[vl,vu,.none]}}
 exact tail_any (ops:=[.ref s3.heap.objs.size,v]) ht hT hg (by with_unfolding_all rfl)
def cutV (xs:List V) (lo hi:Option Int):List V:=(xs.drop (HT.sIx xs.length 0 lo)).take (HT.sIx xs.length xs.length hi - HT.sIx xs.length 0 lo)
theorem cutV_length (xs:List V) (lo hi:Option Int):(cutV xs lo hi).length≤xs.length:=by
 unfold cutV
 rw [List.length_take,List.length_drop]
 omega
end
end L2
namespace L2
open PySem PySem.Spec PyProof.Rows
def ixN (n:Nat) (i:Int):Option Nat:=if 0≤i then (if i<n then some i.toNat else none) else if -(n:Int)≤i then some (i+n).toNat else none
def atI {α:Type} (xs:List α) (i:Int):Option α:=(ixN xs.length i).bind fun j=>xs[j]?
theorem ixN_seq {n:Nat}{i:Int}{j:Nat} (h:ixN n i=some j):seqIndex? i n=some j∧j<n∧-(n:Int)≤i∧i<n:=by
 unfold ixN at h
 by_cases h0:0≤i
 ·rw [if_pos h0] at h
  by_cases h1:i<n
  ·rw [if_pos h1] at h
   have e:i.toNat=j:=Option.some.inj h
   exact ⟨by rw [seqIndex_of h0 h1,e],by omega,by omega,h1⟩
  ·rw [if_neg h1] at h;cases h
 ·rw [if_neg h0] at h
  by_cases h1:-(n:Int)≤i
  ·rw [if_pos h1] at h
   have e:(i+n).toNat=j:=Option.some.inj h
   exact ⟨by rw [seqIndex_neg (by omega) h1,e],by omega,h1,by omega⟩
  ·rw [if_neg h1] at h;cases h
theorem atI_get {α:Type}{xs:List α}{i:Int}{v:α} (h:atI xs i=some v):∃ j,seqIndex? i xs.length=some j∧xs[j]?=some v∧j<xs.length∧-(xs.length:Int)≤i∧i<xs.length:=by
 unfold atI at h
 cases e:ixN xs.length i with
 | none=>rw [e] at h;cases h
 | some j =>
  rw [e] at h
  obtain ⟨h1,h2,h3,h4⟩:=ixN_seq e
  exact ⟨j,h1,h,h2,h3,h4⟩
theorem atI_nat {α:Type}{xs:List α}{j:Nat}{v:α} (h:xs[j]?=some v):atI xs (j:Int)=some v:=by
 have hj:j<xs.length:=(List.getElem?_eq_some_iff.mp h).1
 have e:ixN xs.length (j:Int)=some j:=by
  unfold ixN
  rw [if_pos (by omega),if_pos (by omega)];simp
 unfold atI;rw [e];exact h
def PlainIx (b:Expr):Prop:=∀ o i,subscripted b false o i=operate [o,i] (getItem o i)
def IxR (X:Cx) (r:R2):Prop :=
 ∀ (value slice:Expr) (pins:List (Addr×Obj)) (s:Shared) (σ:St) (H:Hp) (x y:V) (v u:Value) (Q:VK),Inv X pins σ H s→RelV x v→RelV y u→r x y H Q →
  subscripted slice false v u=operate [v,u] (getItem v u)→wpAny (model X.prog X.w) X.A (subscriptTail value slice v u) (EP X pins σ Q) X.xe s
def MtR (X:Cx) (id:String) (r:V→List V→Hp→VK→Prop):Prop :=
 ∀ (pins:List (Addr×Obj)) (s:Shared) (σ:St) (H:Hp) (x:V) (xs:List V) (v:Value) (us:List Value) (Q:VK),Inv X pins σ H s→RelV x v→Vals xs us→r x xs H Q →
  wpAny (model X.prog X.w) X.A (call (.builtin id) (v::us)) (EP X pins σ Q) X.xe s
section
variable {X:Cx}{a b:Expr}{ta tb:TE}{pos:Pos}
theorem pe_ix {r:R2} (hr:IxR X r) (ha:PE X a ta) (hb:PE X b tb) (hs:PlainIx b):PE X (.Subscript a b pos) (tOp r ta tb):=by
 intro pins s σ H Q I h
 exact Subscript_ (binT ha hb I h fun v u s2 x y H2 I2 rx ry q=>hr a b pins s2 σ H2 x y v u Q I2 rx ry q (hs _ _))
def rIxL (K:PySem.W.Frag):R2:=fun x y H Q=>∃ p xs i v,x=.ref p∧y=.int i∧SqL K H p xs∧atI xs i=some v∧Q v H
theorem ix_list:IxR X (rIxL X.K):=by
 intro value slice pins s σ H x y v u Q I rx ry h hs
 obtain ⟨p,xs,i,z,rfl,rfl,hq,he,q⟩:=h
 cases rx
 obtain ⟨t,rfl⟩:=ry
 obtain ⟨its,r,pl,hz⟩:=I.list hq
 obtain ⟨j,h1,h2,h3,h4,h5⟩:=atI_get he
 obtain ⟨w,ew,rw'⟩:=r.get h2
 have hl:=r.length
 have hn:=line63
 have fin:EP X pins σ Q w s:=⟨z,H,I,rw',q⟩
 by_cases h0:0≤i
 ·have hj:i.toNat=j:=by
   rw [seqIndex_of h0 h5] at h1
   exact Option.some.inj h1
  exact item_listR pl.isList h0 (by omega) (by rw [hj];simpa using ew) fin hs
 ·have hj:(i+(its.toArray.size:Int)).toNat=j:=by
   rw [seqIndex_neg (by omega) h4] at h1
   rw [List.size_toArray,← hl]
   exact Option.some.inj h1
  exact subscriptTail_builtinR (x:=w) pl.isList.typeIs slot_list_getitem.lookup
   (wpAny_getItem_list_neg (Q:=fun r s'=>r=w∧EP X pins σ Q r s') pl.isList (by omega) (by rw [List.size_toArray] <;> omega) (by omega) (by rw [hj];simpa using ew) ⟨rfl,fin⟩) hs
theorem slice_bounds (lo hi:Option Int) (n:Nat):(sliceBounds lo hi none n).1=((HT.sIx n 0 lo:Nat):Int)∧(sliceBounds lo hi none n).2.1=((HT.sIx n n hi:Nat):Int)∧(sliceBounds lo hi none n).2.2=1:=by
 refine ⟨?_,?_,rfl⟩
 ·cases lo with
  | none=>simp [sliceBounds,HT.sIx]
  | some i =>
   simp only [sliceBounds,HT.sIx,Option.getD_none,show (1:Int)>0 by decide,if_true]
   by_cases h:i<0
   ·simp only [h,if_true] <;> omega
   ·simp only [h,if_false] <;> omega
 ·cases hi with
  | none=>simp [sliceBounds,HT.sIx]
  | some i =>
   simp only [sliceBounds,HT.sIx,Option.getD_none,show (1:Int)>0 by decide,if_true]
   by_cases h:i<0
   ·simp only [h,if_true] <;> omega
   ·simp only [h,if_false] <;> omega
theorem slicePick_cut (its:List Value) (lo hi:Option Int):slicePick its.toArray lo hi none=((its.drop (HT.sIx its.length 0 lo)).take (HT.sIx its.length its.length hi - HT.sIx its.length 0 lo)).toArray:=by
 obtain ⟨h1,h2,h3⟩:=slice_bounds lo hi its.toArray.size
 unfold slicePick
 rw [h1,h2,h3]
 simp only [sliceRange_one,pick_run,List.size_toArray] <;> rfl
def rSlL (K:PySem.W.Frag):V→Option Int→Option Int→Hp→VK→Prop:=fun x lo hi H Q=>∃ a xs,x=.ref a∧SqL K H a xs∧∀ p,H p=none→Q (.ref p) (upd H p (.lst (cutV xs lo hi)))
theorem sl_list:SlR X (rSlL X.K):=by
 intro pins s σ H x v vl vu lo hi sl Q I rx hs pl pu h
 obtain ⟨a,xs,rfl,hx,q⟩:=h
 cases rx
 obtain ⟨its,r,ht,hz⟩:=I.list hx
 have hlen:=r.length
 refine ⟨"list",_,slot_list_getitem.lookup,ht.isList.typeIs,?_⟩
 refine wpAny_getItem_list_slice ht.isList hs pl pu .none (by simp) ?_ (by rw [List.size_toArray] <;> omega)
 rw [slicePick_cut,← hlen]
 refine ⟨.ref s.heap.objs.size,_,I.laid (t':=s.toks) (o:=.lst (cutV xs lo hi)) (fun b ob q=>Heap.get?_push_of_some _ q) (Nat.le_refl _) ?_,rfl,q _ (I.hok.fresh (Nat.le_refl _))⟩
 exact ⟨Nat.le_trans (cutV_length xs lo hi) hz,_,0,(r.drop (HT.sIx xs.length 0 lo)).take (HT.sIx xs.length xs.length hi - HT.sIx xs.length 0 lo),Heap.get?_push_size _ rfl⟩
def flatV:V→Bool
 | .non=>true
 | .bl _=>true
 | .int _=>true
 | .str _=>true
 | _=>false
def eqV:V→V→Bool
 | .non,.non=>true
 | .bl a,.bl b=>a==b
 | .bl a,.int b=>(if a then 1 else 0)==b
 | .int a,.bl b=>a==(if b then 1 else 0)
 | .int a,.int b=>a==b
 | .str a,.str b=>a==b
 | _,_=>false
theorem eqAt_V {A:Around}{s:Shared}{y x:V}{u v:Value} (ry:RelV y u) (rx:RelV x v) (fy:flatV y=true) (fx:flatV x=true):SeqAt.EqAt A s u v (eqV y x):=by
 cases y with
 | non =>
  cases ry
  cases x with
  | non=>cases rx;exact SeqAt.EqAt.same _
  | bl b=>cases rx;exact SeqAt.EqAt.none_bool b
  | int b=>obtain ⟨t,rfl⟩:=rx;exact SeqAt.EqAt.none_int b t
  | str b=>obtain ⟨t,rfl⟩:=rx;exact SeqAt.EqAt.none_str b t
  | _=>exact absurd (show false=true from fx) Bool.false_ne_true
 | bl a =>
  cases ry
  cases x with
  | non=>cases rx;exact SeqAt.EqAt.bool_none a
  | bl b=>cases rx;exact SeqAt.EqAt.bool_bool a b
  | int b=>obtain ⟨t,rfl⟩:=rx;exact SeqAt.EqAt.bool_int a b t
  | str b=>obtain ⟨t,rfl⟩:=rx;exact SeqAt.EqAt.bool_str a b t
  | _=>exact absurd (show false=true from fx) Bool.false_ne_true
 | int a =>
  obtain ⟨t',rfl⟩:=ry
  cases x with
  | non=>cases rx;exact SeqAt.EqAt.int_none a t'
  | bl b=>cases rx;exact SeqAt.EqAt.int_bool a t' b
  | int b=>obtain ⟨t,rfl⟩:=rx;exact SeqAt.EqAt.int_int a t' b t
  | str b=>obtain ⟨t,rfl⟩:=rx;exact SeqAt.EqAt.int_str a t' b t
  | _=>exact absurd (show false=true from fx) Bool.false_ne_true
 | str a =>
  obtain ⟨t',rfl⟩:=ry
  cases x with
  | non=>cases rx;exact SeqAt.EqAt.str_none a t'
  | bl b=>cases rx;exact SeqAt.EqAt.str_bool a t' b
  | int b=>obtain ⟨t,rfl⟩:=rx;exact SeqAt.EqAt.str_int a t' b t
  | str b=>obtain ⟨t,rfl⟩:=rx;exact SeqAt.EqAt.str_str a t' b t
  | _=>exact absurd (show false=true from fx) Bool.false_ne_true
 | _=>exact absurd (show false=true from fy) Bool.false_ne_true
def eqU (x:V) (u:Value):Bool:=match u with
 | .none=>eqV .non x
 | .bool b=>eqV (.bl b) x
 | .int i _=>eqV (.int i) x
 | .str z _=>eqV (.str z) x
 | _=>false
theorem eqU_of {x y:V}{u:Value} (r:RelV y u) (f:flatV y=true):eqU x u=eqV y x:=by
 cases y with
 | non=>cases r;rfl
 | bl b=>cases r;rfl
 | int i=>obtain ⟨t,rfl⟩:=r;rfl
 | str z=>obtain ⟨t,rfl⟩:=r;rfl
 | _=>exact absurd (show false=true from f) Bool.false_ne_true
theorem any_eqU {x:V}:∀ {xs:List V}{us:List Value},Vals xs us→xs.all flatV=true→us.any (eqU x)=xs.any fun y=>eqV y x
 | _,_,.nil,_=>rfl
 | y::xs,u::us,.cons r t,f=>by
  rw [List.all_cons,Bool.and_eq_true] at f
  rw [List.any_cons,List.any_cons,eqU_of r f.1,any_eqU t f.2]
theorem mem_eqAt {A:Around}{s:Shared}{x:V}{v:Value} (rx:RelV x v) (fx:flatV x=true):∀ {xs:List V}{us:List Value},Vals xs us→xs.all flatV=true→∀ u∈us,SeqAt.EqAt A s u v (eqU x u)
 | _,_,.nil,_=>fun u hu=>by cases hu
 | y::xs,u::us,.cons r t,f=>fun u' hu=>by
  rw [List.all_cons,Bool.and_eq_true] at f
  rcases List.mem_cons.mp hu with rfl | hu
  ·rw [eqU_of r f.1];exact eqAt_V r rx f.1 fx
  ·exact mem_eqAt rx fx t f.2 u' hu
def inV (x:V) (xs:List V):Bool:=xs.any fun y=>eqV y x
def rIn (K:PySem.W.Frag) (neg:Bool):R2:=fun x y H Q=>∃ p xs,y=.ref p∧(SqL K H p xs∨SqT K H p xs)∧flatV x=true∧xs.all flatV=true∧Q (.bl (if neg then !inV x xs else inV x xs)) H
theorem op_in_seq:OpR X (compareOp .In) (rIn X.K false):=by
 intro pins s σ H x y v u Q I rx ry h
 obtain ⟨p,xs,rfl,hq,fx,fs,q⟩:=h
 cases ry
 rcases hq with hq | hq
 ·obtain ⟨its,r,pl,hz⟩:=I.list hq
  refine SeqAt.in_listAt (eqU x) pl.isList (fun w hw=>mem_eqAt rx fx r fs w (by simpa using hw)) ⟨.bl _,H,I,rfl,?_⟩
  rw [show its.toArray.any (eqU x)=its.any (eqU x) by simp,any_eqU r fs]
  exact q
 ·obtain ⟨its,r,pl,hz⟩:=I.tuple hq
  refine SeqAt.in_tupleAt (eqU x) pl (fun w hw=>mem_eqAt rx fx r fs w (by simpa using hw)) ⟨.bl _,H,I,rfl,?_⟩
  rw [show its.toArray.any (eqU x)=its.any (eqU x) by simp,any_eqU r fs]
  exact q
theorem call_len_seq:CallR X (.builtin "len") (fun xs H Q=>∃ p ys,xs=[.ref p]∧(SqL X.K H p ys∨SqT X.K H p ys)∧Q (.int ys.length) H):=by
 intro pins s σ H xs us Q I r h
 obtain ⟨p,ys,rfl,hq,q⟩:=h
 obtain ⟨u,rfl,rx⟩:=vals1 r
 cases rx
 have hn:=line63
 rcases hq with hq | hq
 ·obtain ⟨its,r',pl,hz⟩:=I.list hq
  have hlen:=r'.length
  exact Calls.call_len_list pl.isList (by simp only [List.size_toArray] <;> omega) ⟨.int ys.length,H,I.tok _,⟨s.toks+1,by rw [List.size_toArray,hlen]⟩,q⟩
 ·obtain ⟨its,r',pl,hz⟩:=I.tuple hq
  have hlen:=r'.length
  exact len_tuple pl (by simp only [List.size_toArray] <;> omega) ⟨.int ys.length,H,I.tok _,⟨s.toks+1,by rw [List.size_toArray,hlen]⟩,q⟩
def tyV (K:PySem.W.Frag) (T:String) (x:V) (H:Hp):Prop:=match x with
 | .str _=>T="str"
 | .int _=>T="int"
 | .ref p=>(T="list"∧∃ xs,SqL K H p xs)∨(T="tuple"∧∃ o,K.lookup p=some o∧o.cls=.type "tuple"∧o.dict=none) ∨
   (T="dict"∧((∃ kvs,H p=some (.dK kvs))∨∃ kvs,H p=some (.dT kvs)))∨(T="set"∧∃ S n,H p=some (.set S n))
 | _=>False
theorem tyV_is {pins:List (Addr×Obj)}{σ:St}{H:Hp}{s:Shared}{T:String}{x:V}{v:Value} (I:Inv X pins σ H s) (r:RelV x v) (ty:tyV X.K T x H) :
  s.TypeIs v T∧∀ a,v=.ref a→∃ ob,s.heap.get? a=some ob∧ob.dict=none:=by
 cases x with
 | str z =>
  obtain ⟨t,rfl⟩:=r
  cases (show T="str" from ty)
  exact ⟨typeIs_str s z t,fun _ e=>nomatch e⟩
 | int i =>
  obtain ⟨t,rfl⟩:=r
  cases (show T="int" from ty)
  exact ⟨typeIs_int s i t,fun _ e=>nomatch e⟩
 | ref p =>
  cases r
  rcases ty with ⟨rfl,xs,hq⟩ | ⟨rfl,o,hk,hc,hd⟩ | ⟨rfl,hk⟩ | ⟨rfl,S,n,hk⟩
  ·obtain ⟨its,_,pl,_⟩:=I.list hq
   refine ⟨pl.isList.typeIs,fun a e=>?_⟩
   cases e
   obtain ⟨o,n,e,c,hd,_⟩:=pl
   exact ⟨o,e,hd⟩
  ·refine ⟨⟨o,I.kIn p o hk,hc⟩,fun a e=>?_⟩
   cases e
   exact ⟨o,I.kIn _ o hk,hd⟩
  ·have z:∃ o,s.heap.get? p=some o∧o.ExactDict:=by
    rcases hk with ⟨kvs,hk⟩ | ⟨kvs,hk⟩
    ·obtain ⟨_,_,_,_,o,_,_,e,ex,_⟩:=I.hok p _ hk
     exact ⟨o,e,ex⟩
    ·obtain ⟨_,_,_,_,o,_,_,e,ex,_⟩:=I.hok p _ hk
     exact ⟨o,e,ex⟩
   obtain ⟨o,e,ex⟩:=z
   refine ⟨⟨o,e,ex.1⟩,fun a e2=>?_⟩
   cases e2
   exact ⟨o,e,ex.2.1⟩
  ·obtain ⟨o,_,_,_,e,ex,_⟩:=I.hok p _ hk
   refine ⟨⟨o,e,ex.1⟩,fun a e2=>?_⟩
   cases e2
   exact ⟨o,e,ex.2.1⟩
 | _=>exact False.elim ty
def tBM0 (K:PySem.W.Frag) (T:String) (r:V→List V→Hp→VK→Prop) (to:TE):TE:=fun σ H Q=>to σ H fun x H1=>tyV K T x H1∧r x [] H1 Q
def tBM (K:PySem.W.Frag) (T:String) (r:V→List V→Hp→VK→Prop) (to:TE) (t:TA):TE:=fun σ H Q=>to σ H fun x H1=>tyV K T x H1∧t σ H1 fun xs H2=>r x xs H2 Q
variable {o e:Expr}{es:List Expr}{to:TE}{t:TA}{name:Str}{apos cpos:Pos}{T id:String}{r:V→List V→Hp→VK→Prop}
theorem pe_bm0 (pa:PlainAttrs T) (slot:Slot T name id) (hty:typeOf (.builtin id)=pure (.type "method_descriptor")) (hm:MtR X id r) (ho:PE X o to)
  (hbase:attributeBase o name X.env (eval o X.env)=eval o X.env:=by rfl) (hline:(apos.endLine==cpos.line)=true:=by rfl):PE X (.Call (.Attribute o name apos) [] [] cpos) (tBM0 X.K T r to):=by
 intro pins s σ H Q I h
 refine wpAny_Call_method0_late hbase hline (thn (ho pins s σ H _ I h) fun v s1 ⟨x,H1,I1,r1,ty,q1⟩=>?_)
 obtain ⟨h1,h2⟩:=tyV_is I1 r1 ty
 exact ⟨T,id,pa,slot,hty,h1,h2,Calls.callWith_builtin rfl (PySem.evalArgs_none (hm pins s1 σ H1 x [] v [] Q I1 r1 .nil q1))⟩
theorem pe_bm (pa:PlainAttrs T) (slot:Slot T name id) (hty:typeOf (.builtin id)=pure (.type "method_descriptor")) (hm:MtR X id r) (ho:PE X o to) (ha:PA X (e::es) t)
  (hbase:attributeBase o name X.env (eval o X.env)=eval o X.env:=by rfl)
  (hfew:((backTo cpos (starEach (e::es) X.env)).all (fun x=>!x.1)&&(backToKw cpos (keywordEach [] X.env)).all (fun x=>x.1.isSome)
   && decide ((e::es).length+([]:List Keyword).length+(if ([]:List Keyword).isEmpty then 0 else 1)<30))=true:=by rfl)
  (hline:(apos.endLine==cpos.line)=true:=by rfl) (hs:starEach (e::es) X.env=(false,eval e X.env)::starEach es X.env:=by rfl) (hplain:(backTo cpos (starEach es X.env)).any (·.1)=false:=by rfl) :
  PE X (.Call (.Attribute o name apos) (e::es) [] cpos) (tBM X.K T r to t):=by
 intro pins s σ H Q I h
 refine wpAny_Call_method_late hbase hfew hline rfl (thn (ho pins s σ H _ I h) fun v s1 ⟨x,H1,I1,r1,ty,q1⟩=>?_)
 obtain ⟨h1,h2⟩:=tyV_is I1 r1 ty
 refine ⟨T,id,pa,slot,hty,h1,h2,?_⟩
 have hA:=ha cpos pins s1 σ H1 _ I1 q1
 rw [hs] at hA ⊢
 refine Calls.callWith_builtin (by show (false || (backTo cpos (starEach es X.env)).any (·.1))=false;rw [hplain] <;> rfl) (Calls.evalArgs_plain ?_)
 exact thn hA fun us s2 ⟨vs,H2,I2,r2,q2⟩=>hm pins s2 σ H2 x vs v us Q I2 r1 r2 q2
end
end L2
namespace L2
open PySem PySem.Spec PyProof.Rows
def MtM (X:Cx) (id:String) (r:V→List V→Hp→VK→Prop):Prop :=
 ∀ (pins:List (Addr×Obj)) (s:Shared) (σ:St) (H:Hp) (x:V) (xs:List V) (v:Value) (us:List Value) (Q:VK),Inv X pins σ H s→RelV x v→Vals xs us→r x xs H Q →
  wpAny (model X.prog X.w) X.A (call (.builtin id) (v::us)) (EP X pins σ Q) X.xe s
theorem Vals.one:∀ {x:V}{us:List Value},Vals [x] us→∃ u,us=[u]∧RelV x u
 | _,_,.cons r .nil=>⟨_,rfl,r⟩
theorem Vals.zero:∀ {us:List Value},Vals [] us→us=[]
 | _,.nil=>rfl
theorem Vals.dropLast {xs:List V}{us:List Value} (h:Vals xs us):Vals xs.dropLast us.dropLast:=by
 induction h with
 | nil=>exact .nil
 | cons r t ih =>
  cases t with
  | nil=>exact .nil
  | cons q t'=>exact .cons r ih
theorem erase_last {α:Type} (l:List α):l.eraseIdx (l.length - 1)=l.dropLast:=by
 induction l with
 | nil=>rfl
 | cons a r ih =>
  cases r with
  | nil=>rfl
  | cons b r =>
   have e:(a::b::r).length - 1=((b::r).length - 1)+1:=by
    have h1:(a::b::r).length=r.length+2:=rfl
    have h2:(b::r).length=r.length+1:=rfl
    omega
   rw [e,List.eraseIdx_cons_succ,ih]
   all_goals rfl
section
variable {X:Cx}{pins:List (Addr×Obj)}{σ:St}{H:Hp}{s:Shared}{l b:Addr}{xs ys zs:List V}
theorem Inv.lset {its its':List Value}{n:Nat}{f:Array Value→Array Value}{t':Nat} (I:Inv X pins σ H s) (hH:H l=some (.lst xs))
  (e:s.heap.get? l=some {cls:=.type "list",data:=.seq its.toArray n}) (hf:f its.toArray=its'.toArray) (hv:Vals ys its') (hz:ys.length≤sizeLine) :
  Inv X pins σ (upd H l (.lst ys)) {s with heap:=s.heap.update l (Obj.mapSeq f),toks:=t'}:=by
 have q:=PySem.IsL.update e f
 rw [hf] at q
 refine I.write (x:=l) (e:=l) (by rw [hH];exact trivial) (.inl rfl) (fun b' u hb hu=>(Heap.get?_update_other s.heap (Obj.mapSeq f) (Ne.symm hb)).trans hu) ⟨_,q⟩ ?_
 exact ⟨hz,its',_,hv,q⟩
theorem Inv.lnew {its:List Value}{t':Nat} (I:Inv X pins σ H s) (hv:Vals ys its) (hz:ys.length≤sizeLine) :
  Inv X pins σ (upd H s.heap.objs.size (.lst ys)) {s with heap:=s.heap.push {cls:=.type "list",data:=.seq its.toArray},toks:=t'} :=
 I.laid (fun _ _ q=>Heap.get?_push_of_some _ q) (Nat.le_refl _) ⟨hz,its,0,hv,Heap.get?_push_size _ rfl⟩
theorem Inv.fresh (I:Inv X pins σ H s):H s.heap.objs.size=none:=I.hok.fresh (Nat.le_refl _)
theorem Inv.lstM (I:Inv X pins σ H s) (hH:H l=some (.lst xs)):xs.length≤sizeLine∧∃ (its:List Value) (n:Nat),Vals xs its∧xs.length=its.length∧s.heap.get? l=some {cls:=.type "list",data:=.seq its.toArray n}:=by
 obtain ⟨z,its,n,r,e⟩:=I.hok l _ hH
 exact ⟨z,its,n,r,r.length,e⟩
theorem notLongL {n:Nat} (h:n≤sizeLine):Builtin.List.listTooLong n=false:=by
 unfold Builtin.List.listTooLong
 exact decide_eq_false (by omega)
end
section
variable {X:Cx}
def rAppend:V→List V→Hp→VK→Prop:=fun x vs H Q=>∃ l xs y,x=.ref l∧vs=[y]∧H l=some (.lst xs)∧xs.length<sizeLine∧Q .non (upd H l (.lst (xs++[y])))
theorem mt_append:MtM X "list.append" rAppend:=by
 intro pins s σ H x vs v us Q I rx rv h
 obtain ⟨l,xs,y,rfl,rfl,hH,hz,q⟩:=h
 cases rx
 obtain ⟨u,rfl,ru⟩:=rv.one
 obtain ⟨z,its,n,r,hl,e⟩:=I.lstM hH
 refine call_meets F.slot_list_append ⟨_,e,rfl⟩ F.entry_list_append (F.args_list_append_2 _ _) (PySem.list_append l its.toArray n u (by rw [List.size_toArray];omega)) ⟨e,?_⟩
 refine ⟨.non,_,I.lset (its':=its++[u]) hH e (by simp) (r.append (.cons ru .nil)) ?_,rfl,q⟩
 rw [List.length_append,List.length_singleton]
 omega
def rExtend:V→List V→Hp→VK→Prop:=fun x vs H Q=>∃ l b xs zs,x=.ref l∧vs=[.ref b]∧H l=some (.lst xs)∧H b=some (.lst zs)∧xs.length+zs.length≤sizeLine∧Q .non (upd H l (.lst (xs++zs)))
theorem mt_extend:MtM X "list.extend" rExtend:=by
 intro pins s σ H x vs v us Q I rx rv h
 obtain ⟨l,b,xs,zs,rfl,rfl,hH,hB,hz,q⟩:=h
 cases rx
 obtain ⟨u,rfl,ru⟩:=rv.one
 cases ru
 obtain ⟨z,its,n,r,hl,e⟩:=I.lstM hH
 obtain ⟨z2,its2,n2,r2,hl2,e2⟩:=I.lstM hB
 have hsz:its.toArray.size+its2.toArray.size≤sizeLine:=by rw [List.size_toArray,List.size_toArray];omega
 have hlong:¬ (!its.toArray.isEmpty&&Builtin.List.listTooLong (its.toArray.size+its2.toArray.size))=true:=by
  rw [notLongL hsz,Bool.and_false]
  exact Bool.false_ne_true
 refine call_meets F.slot_list_extend ⟨_,e,rfl⟩ F.entry_list_extend (F.args_list_extend_2 _ _)
  (AutoSeq1.list_extend_list_list_0 l its.toArray n b its2.toArray n2 hlong (by rw [List.size_toArray];omega) (by omega)) ⟨e,e2,?_⟩
 refine ⟨.non,_,I.lset (its':=its++its2) hH e (by simp) (r.append r2) ?_,rfl,q⟩
 rw [List.length_append]
 omega
def rPop:V→List V→Hp→VK→Prop:=fun x vs H Q=>∃ l xs y,x=.ref l∧vs=[]∧H l=some (.lst xs)∧xs[xs.length - 1]?=some y∧Q y (upd H l (.lst xs.dropLast))
theorem mt_pop:MtM X "list.pop" rPop:=by
 intro pins s σ H x vs v us Q I rx rv h
 obtain ⟨l,xs,y,rfl,rfl,hH,hy,q⟩:=h
 cases rx
 have hus:=rv.zero
 subst hus
 obtain ⟨z,its,n,r,hl,e⟩:=I.lstM hH
 obtain ⟨u,hu,ru⟩:=r.get hy
 have hy':its.toArray[its.toArray.size - 1]?=some u:=by
  show its.toArray[its.length - 1]?=some u
  rw [← Array.getElem?_toList,← hl]
  exact hu
 refine call_meets F.slot_list_pop ⟨_,e,rfl⟩ F.entry_list_pop (F.args_list_pop_1 _) (MeetsSeq.list_pop_last l its.toArray n u hy' (by rw [List.size_toArray];omega)) ⟨e,?_⟩
 refine ⟨y,_,I.lset (its':=its.dropLast) hH e ?_ r.dropLast ?_,ru,q⟩
 ·show its.toArray.eraseIdxIfInBounds (its.toArray.size - 1)=its.dropLast.toArray
  rw [List.size_toArray,List.eraseIdxIfInBounds_toArray,erase_last]
 ·rw [List.length_dropLast]
  omega
def rCat:R2:=fun x y H Q=>∃ l b xs zs,x=.ref l∧y=.ref b∧H l=some (.lst xs)∧H b=some (.lst zs)∧xs.length+zs.length≤sizeLine∧∀ p,H p=none→Q (.ref p) (upd H p (.lst (xs++zs)))
theorem op_cat:OpR X (binaryOp .Add) rCat:=by
 intro pins s σ H x y v u Q I rx ry h
 obtain ⟨l,b,xs,zs,rfl,rfl,hH,hB,hz,q⟩:=h
 cases rx
 cases ry
 obtain ⟨z,its,n,r,hl,e⟩:=I.lstM hH
 obtain ⟨z2,its2,n2,r2,hl2,e2⟩:=I.lstM hB
 refine PySem.P.add_list e e2 ?_ (by rw [List.size_toArray,List.size_toArray];omega)
 have ea:its.toArray++its2.toArray=(its++its2).toArray:=by simp
 rw [ea]
 exact ⟨.ref _,_,I.lnew (t':=s.toks) (r.append r2) (by rw [List.length_append];omega),rfl,q _ I.fresh⟩
end
section
variable {prog:Program}{w:World}{A:Around}{E:Value→Shared→Prop}{s:Shared}
set_option maxRecDepth 100000 in
end
section
variable {X:Cx}
end
end L2
namespace L2
open PySem PySem.Spec PyProof.Rows
theorem Vals.ints:∀ {ns:List Int}{us:List Value},Vals (ns.map V.int) us→IntsAre us ns
 | [],us,h=>by
  rw [List.map_nil] at h
  cases h
  exact IntsAre.nil
 | n::ns,us,h=>by
  rw [List.map_cons] at h
  cases h with
  | cons r t =>
   obtain ⟨k,rfl⟩:=r
   exact IntsAre.cons n k (Vals.ints t)
theorem vals_of_ints:∀ {us:List Value}{ns:List Int},IntsAre us ns→Vals (ns.map V.int) us
 | _,_,.nil=>by rw [List.map_nil];exact Paired.nil
 | _,_,.cons n t h=>by rw [List.map_cons];exact Paired.cons (show RelV (V.int n) (Value.int n t) from ⟨t,rfl⟩) (vals_of_ints h)
theorem Vals.bls:∀ {bs:List Bool}{us:List Value},Vals (bs.map V.bl) us→us=bs.map Value.bool
 | [],us,h=>by
  rw [List.map_nil] at h
  cases h
  rfl
 | b::bs,us,h=>by
  rw [List.map_cons] at h
  cases h with
  | cons r t =>
   cases r
   rw [Vals.bls t,List.map_cons]
theorem Vals.ref1 {a:Addr}{us:List Value} (r:Vals [V.ref a] us):us=[Value.ref a]:=by
 cases r with
 | cons r t =>
  cases t
  cases r
  rfl
section
variable {prog:Program}{w:World}{A:Around}{E:Value→Shared→Prop}{s:Shared}{l:Addr}{its:List Value}{ns:List Int}{Q:Value→Shared→Prop}
theorem sum_raw (hh:A.handled=none) (hl:s.heap.IsList l its.toArray) (hi:IntsAre its ns)
  (h:∀ h' tk t',(∀ b o,s.heap.get? b=some o→h'.get? b=some o)→Q (.int ns.sum t') {s with heap:=h',toks:=tk}):wpAny (model prog w) A (call (.builtin "sum") [.ref l]) Q E s:=by
 obtain ⟨xs,e⟩:=hi.allInts.items
 have hn:numsOf (intItems xs).toList=ns:=by rw [← e];exact hi.numsOf
 rw [nums_intItems] at hn
 rw [e] at hl
 refine PySem.sum_intListG hh hl fun h' tk t' hk=>?_
 have:=h h' tk t' hk
 rw [preSum_eq,List.take_of_length_le (by simp),hn];exact this
theorem max_raw (hh:A.handled=none) (hl:s.heap.IsList l its.toArray) (hi:IntsAre its ns) (hne:0<ns.length)
  (h:∀ h' tk M t',(∀ b o,s.heap.get? b=some o→h'.get? b=some o)→M∈ns→(∀ a,a∈ns→a≤M)→Q (.int M t') {s with heap:=h',toks:=tk}):wpAny (model prog w) A (call (.builtin "max") [.ref l]) Q E s:=by
 obtain ⟨xs,e⟩:=hi.allInts.items
 have hn:numsOf (intItems xs).toList=ns:=by rw [← e];exact hi.numsOf
 rw [nums_intItems] at hn
 subst hn
 rw [e] at hl
 have hsz:0<xs.size:=by simpa using hne
 refine PySem.max_intList hh hl hsz fun v h' tk hv hk=>?_
 obtain ⟨t,rfl⟩:=intItems_at hv
 obtain ⟨h1,h2⟩:=argBest_gt (numAt xs) (xs.size - 1)
 refine h h' tk _ t hk ?_ fun a ha=>?_
 ·rw [numAt_eq];exact PySem.getD_mem (by rw [List.length_map,Array.length_toList];omega)
 ·obtain ⟨j,hj,rfl⟩:=mem_getD ha
  rw [List.length_map,Array.length_toList] at hj
  rw [← numAt_eq];exact h2 j (by omega)
theorem min_raw (hh:A.handled=none) (hl:s.heap.IsList l its.toArray) (hi:IntsAre its ns) (hne:0<ns.length)
  (h:∀ h' tk M t',(∀ b o,s.heap.get? b=some o→h'.get? b=some o)→M∈ns→(∀ a,a∈ns→M≤a)→Q (.int M t') {s with heap:=h',toks:=tk}):wpAny (model prog w) A (call (.builtin "min") [.ref l]) Q E s:=by
 obtain ⟨xs,e⟩:=hi.allInts.items
 have hn:numsOf (intItems xs).toList=ns:=by rw [← e];exact hi.numsOf
 rw [nums_intItems] at hn
 subst hn
 rw [e] at hl
 have hsz:0<xs.size:=by simpa using hne
 refine PySem.min_intList hh hl hsz fun v h' tk hv hk=>?_
 obtain ⟨t,rfl⟩:=intItems_at hv
 obtain ⟨h1,h2⟩:=argBest_lt (numAt xs) (xs.size - 1)
 refine h h' tk _ t hk ?_ fun a ha=>?_
 ·rw [numAt_eq];exact PySem.getD_mem (by rw [List.length_map,Array.length_toList];omega)
 ·obtain ⟨j,hj,rfl⟩:=mem_getD ha
  rw [List.length_map,Array.length_toList] at hj
  rw [← numAt_eq];exact h2 j (by omega)
end
section
variable {X:Cx}
def rSum (K:PySem.W.Frag):List V→Hp→VK→Prop:=fun vs H Q=>∃ (a:Addr) (ns:List Int),vs=[V.ref a]∧SqL K H a (ns.map V.int)∧Q (.int ns.sum) H
def rMin (K:PySem.W.Frag):List V→Hp→VK→Prop:=fun vs H Q=>∃ (a:Addr) (ns:List Int),vs=[V.ref a]∧SqL K H a (ns.map V.int)∧0<ns.length∧∀ m,m∈ns→(∀ y,y∈ns→m≤y)→Q (.int m) H
theorem cr_sum (hc:X.calm=true):CallR X (.builtin "sum") (rSum X.K):=by
 intro pins s σ H vs us Q I r h
 obtain ⟨a,ns,rfl,hs,q⟩:=h
 obtain ⟨its,rv,hl,_⟩:=I.list hs
 rw [Vals.ref1 r]
 exact sum_raw (I.ok.hd hc) hl.isList rv.ints fun h' tk t' hk=>⟨.int _,H,I.kept hk,⟨_,rfl⟩,q⟩
theorem cr_min (hc:X.calm=true):CallR X (.builtin "min") (rMin X.K):=by
 intro pins s σ H vs us Q I r h
 obtain ⟨a,ns,rfl,hs,hne,q⟩:=h
 obtain ⟨its,rv,hl,_⟩:=I.list hs
 rw [Vals.ref1 r]
 exact min_raw (I.ok.hd hc) hl.isList rv.ints hne fun h' tk m t' hk h1 h2=>⟨.int _,H,I.kept hk,⟨_,rfl⟩,q m h1 h2⟩
end
section
variable {X:Cx}
end
section
variable {X:Cx}
end
theorem iter_any {prog:Program}{w:World}{A:Around}{E:Value→Shared→Prop}{s:Shared}{l:Addr}{items:Array Value}{Q:Value→Shared→Prop} (hl:s.heap.IsList l items)
  (h:∀ s₂:Shared,s₂={s with heap:=s.heap.push {cls:=.type "list_iterator",data:=.fields #[.ref l,.int 0 0]}} →
   (s₂.heap.IsListIter s.heap.objs.size l 0∧s₂.heap.IsList l items)→l≠s.heap.objs.size→Q (.ref s.heap.objs.size) s₂):wpAny (model prog w) A (pyIter (.ref l)) Q E s:=by
 have hlt:l<s.heap.objs.size:=by obtain ⟨_,e,_⟩:=hl;exact Heap.lt_size e
 exact wpAny_pyIter_list hl (h _ rfl ⟨⟨_,Heap.get?_push_size _ rfl,rfl,rfl⟩,hl.push _⟩ (Nat.ne_of_lt hlt))
theorem truth_bools {prog:Program}{w:World}{A:Around}{bs:List Bool}{its:List Value} (e:its=bs.map Value.bool) :
  TruthOf prog w A (fun i v=>its.toArray[i]?=some v) (fun i=>bs.getD i false):=fun i v s Q E hv hq=>by
 have hv':its[i]?=some v:=by simpa using hv
 rw [e,List.getElem?_map] at hv'
 obtain ⟨b,hb,rfl⟩:=Option.map_eq_some_iff.mp hv'
 have hg:bs.getD i false=b:=by rw [List.getD_eq_getElem?_getD,hb] <;> rfl
 have hq':Q (bs.getD i false) s:=hq
 rw [hg] at hq'
 exact wpAny_truthy_bool hq'
theorem any_range:∀ bs:List Bool,(List.range bs.length).any (fun i=>bs.getD i false)=bs.any id
 | []=>rfl
 | b::bs=>by
  rw [List.length_cons,List.range_succ_eq_map,List.any_cons,List.any_map,List.any_cons,← any_range bs]
  all_goals rfl
theorem all_range:∀ bs:List Bool,(List.range bs.length).all (fun i=>bs.getD i false)=bs.all id
 | []=>rfl
 | b::bs=>by
  rw [List.length_cons,List.range_succ_eq_map,List.all_cons,List.all_map,List.all_cons,← all_range bs]
  all_goals rfl
section
variable {X:Cx}
def rAny (K:PySem.W.Frag):List V→Hp→VK→Prop:=fun vs H Q=>∃ (a:Addr) (bs:List Bool),vs=[V.ref a]∧SqL K H a (bs.map V.bl)∧Q (.bl (bs.any id)) H
def rAll (K:PySem.W.Frag):List V→Hp→VK→Prop:=fun vs H Q=>∃ (a:Addr) (bs:List Bool),vs=[V.ref a]∧SqL K H a (bs.map V.bl)∧Q (.bl (bs.all id)) H
theorem cr_any (hc:X.calm=true):CallR X (.builtin "any") (rAny X.K):=by
 intro pins s σ H vs us Q I r h
 obtain ⟨a,bs,rfl,hs,q⟩:=h
 obtain ⟨its,rv,hl,_⟩:=I.list hs
 rw [Vals.ref1 r]
 have hb:=rv.bls
 refine call_any_walk (iter_any hl.isList fun s₂ e2 st hne=>?_)
 subst e2
 refine ⟨_,_,_,_,_,_,_,rfl,Walks.list (A:=X.A.in1) (I.ok.hd hc) _ a hne its.toArray,st,truth_bools hb,fun h' tk hk=>?_⟩
 refine ⟨.bl _,H,I.kept fun b o eo=>hk b o (fun hmem=>?_) (Heap.get?_push_of_some _ eo),?_,q⟩
 ·rcases List.mem_cons.mp hmem with e1 | hmem
  ·exact absurd (e1▸Heap.lt_size eo) (Nat.lt_irrefl _)
  ·cases hmem
 ·show Value.bool _=Value.bool _
  rw [← any_range,hb,List.size_toArray,List.length_map]
theorem cr_all (hc:X.calm=true):CallR X (.builtin "all") (rAll X.K):=by
 intro pins s σ H vs us Q I r h
 obtain ⟨a,bs,rfl,hs,q⟩:=h
 obtain ⟨its,rv,hl,_⟩:=I.list hs
 rw [Vals.ref1 r]
 have hb:=rv.bls
 refine call_all_walk (iter_any hl.isList fun s₂ e2 st hne=>?_)
 subst e2
 refine ⟨_,_,_,_,_,_,_,rfl,Walks.list (A:=X.A.in1) (I.ok.hd hc) _ a hne its.toArray,st,truth_bools hb,fun h' tk hk=>?_⟩
 refine ⟨.bl _,H,I.kept fun b o eo=>hk b o (fun hmem=>?_) (Heap.get?_push_of_some _ eo),?_,q⟩
 ·rcases List.mem_cons.mp hmem with e1 | hmem
  ·exact absurd (e1▸Heap.lt_size eo) (Nat.lt_irrefl _)
  ·cases hmem
 ·show Value.bool _=Value.bool _
  rw [← all_range,hb,List.size_toArray,List.length_map]
end
mutual
inductive Dp (K:PySem.W.Frag) (H:Hp):V→PyData→Prop
 | non:Dp K H .non .none
 | bl (b:Bool):Dp K H (.bl b) (.bool b)
 | int (i:Int):Dp K H (.int i) (.int i)
 | str (x:Str):Dp K H (.str x) (.str x)
 | lst {a:Addr}{xs:List V}{ds:List PyData}:SqL K H a xs→DpAll K H xs ds→Dp K H (.ref a) (.list ds)
 | tup {a:Addr}{xs:List V}{ds:List PyData}:SqT K H a xs→DpAll K H xs ds→Dp K H (.ref a) (.tuple ds)
inductive DpAll (K:PySem.W.Frag) (H:Hp):List V→List PyData→Prop
 | nil:DpAll K H [] []
 | cons {v:V}{vs:List V}{d:PyData}{ds:List PyData}:Dp K H v d→DpAll K H vs ds→DpAll K H (v::vs) (d::ds)
end
section
variable {X:Cx}{pins:List (Addr×Obj)}{σ:St}{H:Hp}{s:Shared}
mutual
theorem Dp.reads (I:Inv X pins σ H s):∀ (d:PyData) (v:V) (u:Value),Dp X.K H v d→RelV v u→∃ as,Reads s.heap u d as
 | .none,_,_,h,r=>by
  cases h
  cases r
  exact ⟨_,Reads.none⟩
 | .bool b,_,_,h,r=>by
  cases h
  cases r
  exact ⟨_,Reads.bool b⟩
 | .int i,_,_,h,r=>by
  cases h
  obtain ⟨t,rfl⟩:=r
  exact ⟨_,Reads.int i t⟩
 | .str x,_,_,h,r=>by
  cases h
  obtain ⟨t,rfl⟩:=r
  exact ⟨_,Reads.str x t⟩
 | .list ds,_,_,h,r=>by
  cases h with
  | lst hs ha =>
   cases r
   obtain ⟨its,rv,⟨o,n,ho,hc,_,hd⟩,_⟩:=I.list hs
   obtain ⟨as,hr⟩:=Dp.readsAll I ds _ its ha rv
   exact ⟨_,Reads.list ho hc hd hr⟩
 | .tuple ds,_,_,h,r=>by
  cases h with
  | tup hs ha =>
   cases r
   obtain ⟨its,rv,⟨o,ho,hc,n,hd⟩,_⟩:=I.tuple hs
   obtain ⟨as,hr⟩:=Dp.readsAll I ds _ its ha rv
   exact ⟨_,Reads.tuple ho hc hd hr⟩
 | .dict _,_,_,h,_=>by cases h
theorem Dp.readsAll (I:Inv X pins σ H s):∀ (ds:List PyData) (vs:List V) (us:List Value),DpAll X.K H vs ds→Vals vs us→∃ as,ReadsAll s.heap us ds as
 | [],_,_,h,r=>by
  cases h
  cases r
  exact ⟨_,ReadsAll.nil⟩
 | d::ds,_,_,h,r=>by
  cases h with
  | cons h1 h2 =>
   cases r with
   | cons r1 r2 =>
    obtain ⟨as,q1⟩:=Dp.reads I d _ _ h1 r1
    obtain ⟨bs,q2⟩:=Dp.readsAll I ds _ _ h2 r2
    exact ⟨_,ReadsAll.cons q1 q2⟩
end
end
section
variable {X:Cx}
def rEqD (K:PySem.W.Frag):R2:=fun x y H Q=>∃ d e,Dp K H x d∧Dp K H y e∧SeqAt.shaped d=true∧SeqAt.shaped e=true∧Q (.bl (PyData.eqv d e)) H
theorem op_eqD (hu:X.A.units+64<cLine):OpR X (compareOp .Eq) (rEqD X.K):=by
 intro pins s σ H x y v u Q I rx ry h
 obtain ⟨d,e,hd,he,sd,se,q⟩:=h
 obtain ⟨as,r1⟩:=Dp.reads I d x v hd rx
 obtain ⟨bs,r2⟩:=Dp.reads I e y u he ry
 exact SeqAt.compareEq_shaped r1 r2 sd se hu ⟨.bl _,H,I,rfl,q⟩
end
end L2
namespace L2
open PySem PySem.Spec PyProof.Rows
abbrev CellAt (h:Heap) (c:Addr) (v:Option Value):Prop:=h.IsCell c v
def relS (scope sc:Scope):Scope :=
 {scope with names:=scope.names.map fun (n,k)=>if (k==.free&&sc.kind==.function&&sc.names.lookup n==some .cell) then (n,.cell) else (n,k)}
def cloFrom (cells:List (Str×Addr)):List (Str×NameKind)→List (Str×Addr)→List (Str×Addr)
 | [],acc=>acc
 | (n,k)::r,acc=>if k==.free then cloFrom cells r ((n,(cells.lookup n).getD 0)::acc) else cloFrom cells r acc
theorem closure_loop (env:Env) (f:Str×NameKind→List (Str×Addr)→Sem (ForInStep (List (Str×Addr))))
  (hf:∀ n k c,f (n,k) c=if k==.free then (do let a ← cellOf env n;pure (.yield ((n,a)::c))) else pure (.yield c)) :
  ∀ (names:List (Str×NameKind)) (acc:List (Str×Addr)),(∀ y∈names,y.2=.free→∃ c,env.cells.lookup y.1=some c)→forIn names acc f=pure (cloFrom env.cells names acc)
 | [],acc,_=>by rw [List.forIn_nil];rfl
 | (n,k)::r,acc,h=>by
  rw [List.forIn_cons,hf]
  have ih:=fun acc=>closure_loop env f hf r acc fun y hy=>h y (List.mem_cons_of_mem _ hy)
  unfold cloFrom
  by_cases hk:(k==NameKind.free)=true
  ·rw [if_pos hk,if_pos hk]
   obtain ⟨c,hc⟩:=h (n,k) List.mem_cons_self (by simpa using hk)
   have e:cellOf env n=pure c:=by unfold cellOf;rw [hc]
   rw [e]
   have e2:(env.cells.lookup n).getD 0=c:=by rw [hc];rfl
   rw [e2]
   exact ih _
  ·rw [if_neg hk,if_neg hk]
   exact ih _
theorem closure_ok {scope:Scope}{env:Env} (h:∀ y∈scope.names,y.2=.free→∃ c,env.cells.lookup y.1=some c):closureFor scope env=pure (cloFrom env.cells scope.names []):=by
 simp only [closureFor]
 rw [closure_loop env _ (fun n k c=>rfl) scope.names [] h]
 rfl
theorem mem_lookup {α:Type}:∀ {l:List (Str×α)}{n:Str}{c:α},(n,c)∈l→∃ c',l.lookup n=some c'
 | (k,v)::r,n,c,h=>by
  rw [List.lookup_cons]
  cases hb:n==k with
  | true=>exact ⟨_,rfl⟩
  | false =>
   rcases List.mem_cons.mp h with e | h
   ·cases e;simp at hb
   ·exact mem_lookup h
theorem cloFrom_mem {cells:List (Str×Addr)}:∀ {names:List (Str×NameKind)}{acc:List (Str×Addr)}{n:Str}{c:Addr},(n,c)∈cloFrom cells names acc→(n,c)∈acc∨((n,.free)∈names∧c=(cells.lookup n).getD 0)
 | [],_,_,_,h=>.inl h
 | (m,k)::r,acc,n,c,h=>by
  unfold cloFrom at h
  split at h
  ·rename_i hk
   have hk:k=.free:=by simpa using hk
   rcases cloFrom_mem h with h | ⟨h1,h2⟩
   ·rcases List.mem_cons.mp h with e | h
    ·cases e;exact .inr ⟨hk▸List.mem_cons_self,rfl⟩
    ·exact .inl h
   ·exact .inr ⟨List.mem_cons_of_mem _ h1,h2⟩
  ·rcases cloFrom_mem h with h | ⟨h1,h2⟩
   ·exact .inl h
   ·exact .inr ⟨List.mem_cons_of_mem _ h1,h2⟩
theorem cloFrom_acc {cells:List (Str×Addr)}:∀ {names:List (Str×NameKind)}{acc:List (Str×Addr)}{p:Str×Addr},p∈acc→p∈cloFrom cells names acc
 | [],_,_,h=>h
 | (m,k)::r,acc,p,h=>by
  unfold cloFrom
  split
  ·exact cloFrom_acc (List.mem_cons_of_mem _ h)
  ·exact cloFrom_acc h
theorem cloFrom_has {cells:List (Str×Addr)}:∀ {names:List (Str×NameKind)}{acc:List (Str×Addr)}{n:Str},(n,.free)∈names→(n,(cells.lookup n).getD 0)∈cloFrom cells names acc
 | (m,k)::r,acc,n,h=>by
  unfold cloFrom
  rcases List.mem_cons.mp h with e | h
  ·cases e
   exact cloFrom_acc List.mem_cons_self
  ·split
   ·exact cloFrom_has h
   ·exact cloFrom_has h
theorem cells_mem:∀ {names:List (Str×NameKind)}{h:Heap}{acc:List (Str×Addr)}{x:Str}{c:Addr},(x,c)∈cellsFrom h.objs.size names acc →
  (x,c)∈acc∨((x,.cell)∈names∧h.objs.size≤c∧CellAt (pushCells h names) c none)
 | [],_,_,_,_,h=>.inl h
 | (n,k)::r,h,acc,x,c,hm=>by
  unfold cellsFrom at hm
  unfold pushCells
  split at hm
  ·rename_i hk
   rw [if_pos hk]
   have hk:k=.cell:=by simpa using hk
   rw [← Heap.size_push h {cls:=.type "cell",data:=.cell none}] at hm
   rcases cells_mem hm with hm | ⟨h1,h2,h3⟩
   ·rcases List.mem_cons.mp hm with e | hm
    ·cases e
     exact .inr ⟨hk▸List.mem_cons_self,Nat.le_refl _,_,pushCells_keeps r _ _ _ (Heap.get?_push_size _ rfl),rfl⟩
    ·exact .inl hm
   ·rw [Heap.size_push] at h2
    exact .inr ⟨List.mem_cons_of_mem _ h1,Nat.le_of_succ_le h2,h3⟩
  ·rename_i hk
   rw [if_neg hk]
   rcases cells_mem hm with hm | ⟨h1,h2,h3⟩
   ·exact .inl hm
   ·exact .inr ⟨List.mem_cons_of_mem _ h1,h2,h3⟩
theorem cells_acc:∀ {names:List (Str×NameKind)}{n:Nat}{acc:List (Str×Addr)}{p:Str×Addr},p∈acc→p∈cellsFrom n names acc
 | [],_,_,_,h=>h
 | (m,k)::r,n,acc,p,h=>by
  unfold cellsFrom
  split
  ·exact cells_acc (List.mem_cons_of_mem _ h)
  ·exact cells_acc h
theorem cells_has:∀ {names:List (Str×NameKind)}{n:Nat}{acc:List (Str×Addr)}{x:Str},(x,.cell)∈names→∃ c,(x,c)∈cellsFrom n names acc
 | (m,k)::r,n,acc,x,h=>by
  unfold cellsFrom
  rcases List.mem_cons.mp h with e | h
  ·cases e
   exact ⟨n,cells_acc List.mem_cons_self⟩
  ·split
   ·exact cells_has h
   ·exact cells_has h
theorem cells_inj:∀ {names:List (Str×NameKind)}{h:Heap}{acc:List (Str×Addr)}{x y:Str}{c:Addr},(∀ p∈acc,p.2<h.objs.size)→(∀ x y c,(x,c)∈acc→(y,c)∈acc→x=y) →
  (x,c)∈cellsFrom h.objs.size names acc→(y,c)∈cellsFrom h.objs.size names acc→x=y
 | [],_,_,_,_,_,_,hi,h1,h2=>hi _ _ _ h1 h2
 | (n,k)::r,h,acc,x,y,c,hl,hi,h1,h2=>by
  unfold cellsFrom at h1 h2
  split at h1
  ·rename_i hk
   rw [if_pos hk] at h2
   rw [← Heap.size_push h {cls:=.type "cell",data:=.cell none}] at h1 h2
   refine cells_inj (h:=h.push _) (fun p hp=>?_) (fun x y c a b=>?_) h1 h2
   ·rw [Heap.size_push]
    rcases List.mem_cons.mp hp with rfl | hp
    ·exact Nat.lt_succ_self _
    ·exact Nat.lt_succ_of_lt (hl p hp)
   ·rcases List.mem_cons.mp a with e | a <;> rcases List.mem_cons.mp b with e' | b
    ·cases e;cases e';rfl
    ·cases e;exact absurd (hl _ b) (Nat.lt_irrefl _)
    ·cases e';exact absurd (hl _ a) (Nat.lt_irrefl _)
    ·exact hi _ _ _ a b
  ·rename_i hk
   rw [if_neg hk] at h2
   exact cells_inj hl hi h1 h2
theorem newEnv_comp {M:Model}{A:Around}{E:Value→Shared→Prop}{s:Shared}{scope:Scope}{globals:Addr}{closure:List (Str×Addr)}{qual:Str}{func:Option Addr}{code:Value}{around:Env}{builtins:Addr}{Q:Env→Shared→Prop}
  (h:Q (newEnv scope s.heap.objs.size globals (cellsFrom (s.heap.objs.size+1) scope.names closure) qual func code (some around) builtins)
   {s with heap:=pushCells (s.heap.push {cls:=.type "dict",data:=.dict #[]}) scope.names}) :
  wpAny M A (newFunctionEnv scope globals closure [] qual func code (some around) builtins) Q E s:=by
 simp only [newFunctionEnv,Option.isSome_some,if_true]
 refine wpAny_bind (wpAny_alloc ?_)
 refine wpAny_bind (wpAny_layCells _ (fun n k c=>rfl) scope.names closure _ _ ?_)
 rw [show ({s with heap:=s.heap.push {cls:=.type "dict",data:=.dict #[]}}:Shared).heap.objs.size=s.heap.objs.size+1 from Heap.size_push ..]
 rw [List.forIn_nil]
 exact wpAny_bind (wpAny_pure (wpAny_pure h))
theorem lookup_relS {sc:Scope}:∀ {names:List (Str×NameKind)}{x:Str}{k:NameKind},
  (names.map fun (n,k)=>if (k==NameKind.free&&sc.kind==.function&&sc.names.lookup n==some .cell) then (n,NameKind.cell) else (n,k)).lookup x=some k →
  ∃ k',names.lookup x=some k'∧(k=k'∨(k'=.free∧k=.cell))
 | [],_,_,h=>by simp at h
 | (n,k₀)::r,x,k,h=>by
  have ih:=@lookup_relS sc r x k
  have h':List.lookup x ((if (k₀==NameKind.free&&sc.kind==.function&&sc.names.lookup n==some .cell)=true then (n,NameKind.cell) else (n,k₀))::(r.map _))=some k:=h
  cases hx:x==n with
  | true =>
   simp only [List.lookup_cons,hx]
   by_cases hc:(k₀==NameKind.free&&sc.kind==.function&&sc.names.lookup n==some .cell)=true
   ·rw [if_pos hc] at h'
    simp only [List.lookup_cons,hx] at h'
    cases h'
    simp only [Bool.and_eq_true,beq_iff_eq] at hc
    exact ⟨k₀,rfl,.inr ⟨hc.1.1,rfl⟩⟩
   ·rw [if_neg hc] at h'
    simp only [List.lookup_cons,hx] at h'
    cases h'
    exact ⟨_,rfl,.inl rfl⟩
  | false =>
   simp only [List.lookup_cons,hx]
   by_cases hc:(k₀==NameKind.free&&sc.kind==.function&&sc.names.lookup n==some .cell)=true
   ·rw [if_pos hc] at h'
    simp only [List.lookup_cons,hx] at h'
    exact ih h'
   ·rw [if_neg hc] at h'
    simp only [List.lookup_cons,hx] at h'
    exact ih h'
structure BlkOk (N:List Str) (sc scope:Scope) (own:List (Str×Nat)):Prop where
 kind:scope.kind=.function
 uniq:∀ y∈scope.names,scope.names.lookup y.1=some y.2
 ix:∀ p∈own,N[p.2]?=some p.1
 free:∀ y∈scope.names,y.2=.free→sc.names.lookup y.1=some .cell∨sc.names.lookup y.1=some .free
 own:∀ y∈scope.names,y.2=.local∨y.2=.cell→y.1∈own.map (·.1)∨y.1∉N
def wipe (σ:St):List Nat→St
 | []=>σ
 | v::vs=>(wipe σ vs).set v none
theorem wipe_length (σ:St):∀ vs:List Nat,(wipe σ vs).length=σ.length
 | []=>rfl
 | v::vs=>by unfold wipe;rw [List.length_set,wipe_length σ vs]
theorem wipe_some {σ:St}{i:Nat}{x:V}:∀ {vs:List Nat},(wipe σ vs)[i]?=some (some x)→σ[i]?=some (some x)∧i∉vs
 | [],h=>⟨h,by simp⟩
 | v::vs,h=>by
  unfold wipe at h
  by_cases hi:v=i
  ·subst hi
   by_cases hv:v<(wipe σ vs).length
   ·rw [List.getElem?_set_self hv] at h;cases h
   ·rw [List.getElem?_eq_none (by simpa using hv)] at h;cases h
  ·rw [List.getElem?_set_ne hi] at h
   obtain ⟨h1,h2⟩:=wipe_some h
   exact ⟨h1,by simp only [List.mem_cons,not_or];exact ⟨fun e=>hi e.symm,h2⟩⟩
abbrev Cx.blk (X:Cx) (s:Shared) (H:Hp) (scope:Scope) (cenv:Env) (fp:List Addr):Cx:={X with s_0:=s,H_0:=H,env:=cenv,outer:=X.stack,ex:=fp,fn:=fun x=>scope.names.lookup x==some .cell,pn:=[],xe:=fun _ _=>False}
section
variable {X:Cx}{pins:List (Addr×Obj)}{σ:St}{H:Hp}{s:Shared}
theorem block_start {scope:Scope}{own:List (Str×Nat)}{fp:List Addr} (I:Inv X pins σ H s) (ok:BlkOk X.N X.env.scope scope own) (hN:X.N.Nodup) (hfp:∀ b∈fp,FpOk X pins H b∧b<s.heap.objs.size) :
  Inv (X.blk s H scope (compEnvC scope (cellsFrom (s.heap.objs.size+1) scope.names (cloFrom X.env.cells scope.names [])) s.heap.objs.size X.env) fp) [] (wipe σ (own.map (·.2))) H {s with heap:=pushCells (s.heap.push {cls:=.type "dict",data:=.dict #[]}) scope.names}:=by
 have hfree:∀ y∈scope.names,y.2=.free→∃ c,X.env.cells.lookup y.1=some c:=fun y hy e=>by
  rcases ok.free y hy e with k | k
  ·exact I.ok.has _ (.inl k)
  ·exact I.ok.has _ (.inr k)
 generalize hcenv:compEnvC scope (cellsFrom (s.heap.objs.size+1) scope.names (cloFrom X.env.cells scope.names [])) s.heap.objs.size X.env=cenv
 have kp:∀ b o,s.heap.get? b=some o→(pushCells (s.heap.push {cls:=.type "dict",data:=.dict #[]}) scope.names).get? b=some o:=fun b o e=>pushCells_keeps _ _ _ _ (Heap.get?_push_of_some _ e)
 have hL:cenv.locals=s.heap.objs.size:=by rw [← hcenv];rfl
 have hcl:cenv.cells=cellsFrom (s.heap.objs.size+1) scope.names (cloFrom X.env.cells scope.names []):=by rw [← hcenv];rfl
 have hsc:cenv.scope=relS scope X.env.scope:=by rw [← hcenv];rfl
 rw [← Heap.size_push s.heap {cls:=.type "dict",data:=.dict #[]}] at hcl
 have cm:∀ {y c},(y,c)∈cloFrom X.env.cells scope.names []→X.env.cells.lookup y=some c∧c<s.heap.objs.size:=fun {y c} hm=>by
  rcases cloFrom_mem hm with hm | ⟨h1,rfl⟩
  ·cases hm
  ·obtain ⟨c,hc⟩:=hfree _ h1 rfl
   rw [hc]
   obtain ⟨w,z⟩:=I.cell _ _ hc
   exact ⟨rfl,z.lt⟩
 have mem:∀ {y c},cenv.cells.lookup y=some c→(X.env.cells.lookup y=some c∧c<s.heap.objs.size)∨(s.heap.objs.size+1≤c∧CellAt (pushCells (s.heap.push {cls:=.type "dict",data:=.dict #[]}) scope.names) c none):=fun {y c} e=>by
  rw [hcl] at e
  rcases cells_mem (PySem.mem_of_lookup e) with hm | ⟨_,h2,h3⟩
  ·exact .inl (cm hm)
  ·rw [Heap.size_push] at h2;exact .inr ⟨h2,h3⟩
 have look:∀ {y},scope.names.lookup y=some .free→∃ c,cenv.cells.lookup y=some c∧X.env.cells.lookup y=some c:=fun {y} hl=>by
  have hy:(y,NameKind.free)∈scope.names:=PySem.mem_of_lookup hl
  obtain ⟨c',e'⟩:=mem_lookup (cells_acc (names:=scope.names) (n:=(s.heap.push {cls:=.type "dict",data:=.dict #[]}).objs.size) (cloFrom_has (cells:=X.env.cells) (acc:=[]) hy))
  rw [← hcl] at e'
  refine ⟨c',e',?_⟩
  rw [hcl] at e'
  rcases cells_mem (PySem.mem_of_lookup e') with hm | ⟨h1,_,_⟩
  ·exact (cm hm).1
  ·have:=ok.uniq _ h1
   rw [hl] at this;cases this
 have okB:(X.blk s H scope cenv fp).Ok:=by
  refine ⟨I.ok.mod,by show cenv.scope.kind=_;rw [hsc];exact ok.kind,by show cenv.globals=_;rw [← hcenv];exact I.ok.glob,by show cenv.builtins=_;rw [← hcenv];exact I.ok.blt,by show s.heap.objs.size≤cenv.locals;rw [hL];exact Nat.le_refl _,
   fun y z c e1 e2=>?_,fun y hy=>?_,fun y c z e=>?_,I.ok.hd,I.ok.frames,.inl rfl,fun b hb=>⟨?_,fun y c e z=>?_⟩,I.bs,Nat.le_trans I.ok.bsz I.sz,fun b o e hb=>?_,fun b hb z=>?_,I.stack,I.stkFree⟩
  ·have e1:cenv.cells.lookup y=some c:=e1
   have e2:cenv.cells.lookup z=some c:=e2
   rw [hcl] at e1 e2
   refine cells_inj (fun p hp=>?_) (fun y z c a b=>I.ok.inj y z c (cm a).1 (cm b).1) (PySem.mem_of_lookup e1) (PySem.mem_of_lookup e2)
   rw [Heap.size_push]
   exact Nat.lt_succ_of_lt (cm (y:=p.1) (c:=p.2) hp).2
  ·show ∃ c,cenv.cells.lookup y=some c
   have key:∀ k,cenv.kindOf y=some k→(k=.cell∨k=.free)→∃ c,cenv.cells.lookup y=some c:=fun k hk hk'=>by
    unfold Env.kindOf at hk
    rw [hsc] at hk
    obtain ⟨k',e,r⟩:=lookup_relS hk
    have:k'=.cell∨k'=.free:=by
     rcases r with rfl | ⟨rfl,_⟩
     ·exact hk'
     ·exact .inr rfl
    rcases this with rfl | rfl
    ·obtain ⟨c,hm⟩:=cells_has (n:=(s.heap.push {cls:=.type "dict",data:=.dict #[]}).objs.size) (acc:=cloFrom X.env.cells scope.names []) (PySem.mem_of_lookup e)
     obtain ⟨c',e'⟩:=mem_lookup hm
     exact ⟨c',by rw [hcl];exact e'⟩
    ·obtain ⟨c,h1,_⟩:=look e
     exact ⟨c,h1⟩
   rcases hy with hy | hy
   ·exact key _ hy (.inl rfl)
   ·exact key _ hy (.inr rfl)
  ·have z:(scope.names.lookup y==some NameKind.cell)=true:=z
   have z:scope.names.lookup y=some .cell:=by simpa using z
   have e:cenv.cells.lookup y=some c:=e
   rw [hcl] at e
   rcases cells_mem (PySem.mem_of_lookup e) with hm | ⟨_,h2,_⟩
   ·rcases cloFrom_mem hm with hm | ⟨h1,_⟩
    ·cases hm
    ·have q:=ok.uniq _ h1
     rw [z] at q;cases q
   ·rw [Heap.size_push] at h2
    exact Nat.le_of_succ_le h2
  ·show b≠cenv.locals
   rw [hL];exact Nat.ne_of_lt (hfp b hb).2
  ·have e:cenv.cells.lookup y=some c:=e
   rcases mem e with ⟨h1,_⟩ | ⟨h1,_⟩
   ·exact (hfp b hb).1.2.2.2.2.1 y c h1 z
   ·have h2:s.heap.objs.size+1≤b:=by rw [← z];exact h1
    exact absurd (Nat.lt_of_lt_of_le (hfp b hb).2 (Nat.le_of_succ_le h2)) (Nat.lt_irrefl _)
  ·rcases (hfp b hb).1.2.2.2.1 with z | z
   ·exact I.ok.noex b o e z
   ·exact absurd (Nat.lt_of_lt_of_le (Heap.lt_size e) (Nat.le_trans I.ok.bsz z)) (Nat.lt_irrefl _)
  ·rcases List.mem_cons.mp (I.stkSub b z) with z | z
   ·exact (hfp b hb).1.2.1 z
   ·exact (hfp b hb).1.2.2.1 z
 refine ⟨okB,rfl,I.bare,Un.kept kp,⟨fun _=>none,?_,fun i y av e1 e2 e3=>?_⟩,fun y c e=>?_,?_,fun y c e=>?_,fun p hp=>?_,I.hok.kept kp,by rw [wipe_length];exact I.len⟩
 ·show Heap.Ns _ cenv.locals _
  rw [hL]
  exact Heap.Ns.keeps (Heap.Ns.new ..) fun b o e=>pushCells_keeps _ _ _ _ e
 ·obtain ⟨e2,hne⟩:=wipe_some e2
  have hfr:scope.names.lookup y=some .free∧(cenv.kindOf y=some .cell∨cenv.kindOf y=some .free):=by
   have key:∀ k,cenv.scope.names.lookup y=some k→k=.local∨k=.cell∨k=.free→scope.names.lookup y=some .free∧(cenv.kindOf y=some .cell∨cenv.kindOf y=some .free):=fun k hk hk'=>by
    have hk0:=hk
    rw [hsc] at hk
    obtain ⟨k',e,r⟩:=lookup_relS hk
    have no:¬ (k'=.local∨k'=.cell):=fun hh=>by
     rcases ok.own _ (PySem.mem_of_lookup e) hh with e' | e'
     ·obtain ⟨p,hp,hpy⟩:=List.mem_map.mp e'
      have e3:=ok.ix p hp
      have:p.1=y:=hpy
      rw [this] at e3
      exact hne (List.mem_map.mpr ⟨p,hp,nodup_ix hN e3 e1⟩)
     ·exact e' (List.mem_of_getElem? e1)
    rcases r with rfl | ⟨rfl,rfl⟩
    ·rcases hk' with rfl | rfl | rfl
     ·exact absurd (.inl rfl) no
     ·exact absurd (.inr rfl) no
     ·exact ⟨e,.inr hk0⟩
    ·exact ⟨e,.inl hk0⟩
   have e3:Vis cenv.scope y:=e3
   rcases e3 with e3 | e3 | e3
   ·exact key _ e3 (.inl rfl)
   ·exact key _ e3 (.inr (.inl rfl))
   ·exact key _ e3 (.inr (.inr rfl))
  obtain ⟨m,hn,hl⟩:=I.loc
  have hvis:Vis X.env.scope y:=(ok.free _ (PySem.mem_of_lookup hfr.1) rfl).elim (fun k=>.inr (.inl k)) (fun k=>.inr (.inr k))
  obtain ⟨w,r,q⟩:=hl i y av e1 e2 hvis
  refine ⟨w,r,.inr ⟨hfr.2,?_⟩⟩
  obtain ⟨c,h1,h2⟩:=look hfr.1
  rcases q with ⟨k,_⟩ | ⟨_,c',e',z⟩
  ·have k:X.env.scope.names.lookup y=some .local:=k
   rcases ok.free _ (PySem.mem_of_lookup hfr.1) rfl with k' | k' <;> rw [show X.env.scope.names.lookup y=_ from k'] at k <;> cases k
  ·rw [h2] at e';cases e'
   exact ⟨c,h1,z.keeps kp⟩
 ·have e:cenv.cells.lookup y=some c:=e
  rcases mem e with ⟨h1,_⟩ | ⟨_,z⟩
  ·obtain ⟨w,z⟩:=I.cell y c h1
   exact ⟨w,z.keeps kp⟩
  ·exact ⟨_,z⟩
 ·show H cenv.locals=none
  rw [hL];exact I.hok.fresh (Nat.le_refl _)
 ·have e:cenv.cells.lookup y=some c:=e
  rcases mem e with ⟨h1,_⟩ | ⟨h1,_⟩
  ·exact I.freeC y c h1
  ·exact I.hok.fresh (Nat.le_of_succ_le h1)
 ·exact absurd (show p∈([]:List (Addr×Obj))++[] from hp) (by simp)
theorem app_ok {E:Value→Shared→Prop}{D:Addr}{xs:List V}{y:V}{v:Value}{Q:Value→Shared→Prop} (I:Inv X pins σ H s) (hD:H D=some (.lst xs)) (hz:xs.length<sizeLine) (r:RelV y v)
  (h:∀ s',Inv X pins σ (upd H D (.lst (xs++[y]))) s'→Q .none s'):wpAny (model X.prog X.w) X.A (call (.builtin "list.append") [.ref D,v]) Q E s:=by
 obtain ⟨hz',its,n,ri,e⟩:=I.hok D _ hD
 have hl:=ri.length
 refine append_at (hsz:=by rw [List.size_toArray];omega) e fun h' sb ho'=>?_
 refine h {s with heap:=h'} (I.write (t':=s.toks) (by rw [hD];trivial) (.inl rfl) (fun b u hb q=>(sb.2 b hb).trans q) ⟨_,ho'⟩ ⟨by rw [List.length_append];exact hz,its++[v],n+1,ri.append (.cons r .nil),?_⟩)
 rw [ho']
 simp
def PTs (X:Cx) (ifs:List Expr) (t:TT):Prop :=
 ∀ (pins:List (Addr×Obj)) (s:Shared) (σ:St) (H:Hp) (Q:Bool→Hp→Prop),Inv X pins σ H s→t σ H Q →
  wpAny (model X.prog X.w) X.A (forIn ifs true fun c r=>if r=true then do let ok ← isTrue c X.env (eval c X.env);pure (ForInStep.yield ok) else pure (ForInStep.yield r)) (TP X pins σ Q) X.xe s
def tYes:TT:=fun _ H Q=>Q true H
theorem pts_nil:PTs X [] tYes:=fun _ _ _ H _ I h=>wpAny_tests_nil ⟨H,I,h⟩
theorem pts_one {c:Expr}{t:TT} (h:PT X c t):PTs X [c] t:=fun pins s σ H Q I hw=>wpAny_tests_one (h pins s σ H Q I hw)
end
theorem thnF {α:Type}{t:Sem α}{Q Q':α→Shared→Prop}{M:Model}{A:Around}{E:Value→Shared→Prop}{s:Shared} (h:wpAny M A t Q (fun _ _=>False) s) (hQ:∀ a s,Q a s→Q' a s):wpAny M A t Q' E s:=wpAny_mono h hQ fun _ _ z=>False.elim z
theorem compLoop_any {prog:Program}{w:World}{A:Around}{R:Result→Shared→Prop}{s:Shared}{elt target iter:Expr}{ifs:List Expr}{scope:Scope}{pos:Pos}{it acc:Value}{env:Env} (I:Nat→Shared→Prop)
  (turn:∀ n s,I n s→wpAny (model prog w) A (pyNext it) (fun r s₁=>match r with
   | none=>R (.ok .next) s₁
   | some v=>wpAny (model prog w) A (letOwnedTupleGo target it v) (fun _ s₁'=>wpAny (model prog w) A (assign target env v) (fun _ s₂ =>
     wpAny (model prog w) A (forIn ifs true fun c r=>if r=true then do let ok ← isTrue c env (eval c env);pure (ForInStep.yield ok) else pure (ForInStep.yield r)) (fun ok s₃ =>
      if ok=true then wpAny (model prog w) A (eval elt env) (fun x s₄ =>
       wpAny (model prog w) A (call (.builtin "list.append") [acc,x]) (fun _ s₅=>∃ m,m<n∧I m s₅) (notedBy (model prog w) A env fun e s'=>R (.error e) s') s₄) (notedBy (model prog w) A env fun e s'=>R (.error e) s') s₃
      else ∃ m,m<n∧I m s₃) (notedBy (model prog w) A env fun e s'=>R (.error e) s') s₂) (notedBy (model prog w) A env fun e s'=>R (.error e) s') s₁') (notedBy (model prog w) A env fun e s'=>R (.error e) s') s₁) (notedBy (model prog w) A env fun e s'=>R (.error e) s') s)
  (n:Nat) (h:I n s) :
  codeAny (model prog w) A (.compLoop (.ListComp elt [⟨target,iter,ifs,0⟩] scope pos) 0 it acc env) R s:=by
 refine codeAny_loop rfl I (fun n s hI=>?_) n h
 show wpAny _ A ((compTurn (.ListComp elt [⟨target,iter,ifs,0⟩] scope pos) 0 it acc env).onRaise (fun x=>do noteFrame x env;theTreesLotGoes x)) _ _ s
 refine wpAny_noted ?_
 rw [compTurn_list]
 refine wpAny_bind (wpAny_standAt (wpAny_bind (wpAny_mono (turn n s hI) (fun r s₁ h₁=>?_) fun _ _ h'=>h')))
 cases r with
 | none=>exact wpAny_pure h₁
 | some v =>
  refine wpAny_bind (wpAny_mono h₁ (fun _ s₁' h₁'=>?_) fun _ _ h'=>h')
  refine wpAny_bind (wpAny_mono h₁' (fun _ s₂ h₂=>wpAny_bind (wpAny_mono h₂ (fun ok s₃ h₃=>?_) fun _ _ h'=>h')) fun _ _ h'=>h')
  cases ok with
  | false=>exact wpAny_pure ⟨rfl,h₃⟩
  | true =>
   exact wpAny_bind (wpAny_bind (wpAny_mono h₃ (fun x s₄ h₄=>wpAny_bind (wpAny_mono h₄ (fun _ s₅ h₅=>wpAny_pure (wpAny_pure ⟨rfl,h₅⟩)) fun _ _ h'=>h')) fun _ _ h'=>h'))
section
variable {X:Cx}
def tLc (wi:TI) (g:TG) (tt:TT) (te:TE) (vs:List Nat):TE:=fun σ H Q=>wi σ H fun J H1=>∀ D,H1 D=none→∃ W:Nat→Nat→Hp→Prop,(∃ m,W 0 m (upd H1 D (.lst [])))∧∀ i m H,W i m H →
 (J.stop i H∧Q (.ref D) H)∨(J.go i H∧∃ Nx:Hp→Prop,(∀ H',Nx H'→∃ m',m'<m∧W (i+1) m' H')∧∀ x H',J.yld i H x H'→g x (wipe σ vs) H' fun σ2 H2=>wipe σ2 vs=wipe σ vs∧tt σ2 H2 fun b H3 =>
  if b=true then te σ2 H3 fun y H4=>∃ acc,H4 D=some (.lst acc)∧acc.length<sizeLine∧Nx (upd H4 D (.lst (acc++[y]))) else Nx H3)
theorem lc_core {pins:List (Addr×Obj)}{s:Shared}{σ:St}{H:Hp}{Q:VK}{elt tg iter:Expr}{ifs:List Expr}{scope:Scope}{own:List (Str×Nat)}{pos pos':Pos}{wi:TI}{g:TG}{tt:TT}{te:TE}{use:Option (Value→Sem Unit)}{Qf:Value→Shared→Prop}
  (hc:X.calm=true) (hN:X.N.Nodup) (I:Inv X pins σ H s) (hi:PI X tg iter wi) (ok:BlkOk X.N X.env.scope scope own)
  (hg:∀ (s:Shared) (H:Hp) (C:Addr) (cl:List (Str×Addr)) (fp:List Addr),PG (X.blk s H scope (compEnvC scope cl C X.env) fp) tg g) (ht:∀ (s:Shared) (H:Hp) (C:Addr) (cl:List (Str×Addr)) (fp:List Addr),PTs (X.blk s H scope (compEnvC scope cl C X.env) fp) ifs tt)
  (he:∀ (s:Shared) (H:Hp) (C:Addr) (cl:List (Str×Addr)) (fp:List Addr),PE (X.blk s H scope (compEnvC scope cl C X.env) fp) elt te) (hs:∀ x,foldedSetIterable iter X.env x=pure x)
  (h:tLc wi g tt te (own.map (·.2)) σ H Q)
  (hRR:∀ D C s' m H',Inv X pins σ H' s'→Q (.ref D) H'→s'.heap.Ns C m→FpOk X pins H' C→compPost (model X.prog X.w) X.A X.xe use Qf (.ref D) C (.ok .next) s') :
  wpAny (model X.prog X.w) X.A (comprehension (.ListComp elt [⟨tg,iter,ifs,0⟩] scope pos) scope X.env pos' (newList []) false (eval iter X.env) use) Qf X.xe s:=by
 have hfree:∀ y∈scope.names,y.2=.free→∃ c,X.env.cells.lookup y.1=some c:=fun y hy e=>by
  rcases ok.free y hy e with k | k
  ·exact I.ok.has _ (.inl k)
  ·exact I.ok.has _ (.inr k)
 refine wpAny_comprehension_free (use:=use) rfl hs (closure_ok hfree) ok.kind (fun y hy e=>by rw [ok.uniq y hy,e])
  (thn (hi pins s σ H _ I h) fun xv s1 hx=>thn hx fun itv s2 h2=>?_)
 obtain ⟨it,fp,tn,J,H2,e,I2,T,st2,f2,q⟩:=h2
 subst e
 refine wpAny_newObj_type (newEnv_comp ?_) (by show 0≤sizeLine;decide)
 generalize hD:s2.heap.objs.size=D
 have hDn:H2 D=none:=I2.hok.fresh (Nat.le_of_eq hD)
 obtain ⟨W,⟨m0,w0⟩,turn⟩:=q D hDn
 generalize hs3:({s2 with heap:=s2.heap.push {cls:=.type "list",data:=.seq ([]:List Value).toArray}}:Shared)=s3
 have I3:Inv X pins σ (upd H2 D (.lst [])) s3:=by
  rw [← hs3]
  refine I2.laid (t':=s2.toks) (fun b o e=>Heap.get?_push_of_some _ e) (Nat.le_of_eq hD) ⟨Nat.zero_le _,[],0,.nil,?_⟩
  rw [← hD]
  exact Heap.get?_push_size _ rfl
 have h3:s3.heap=s2.heap.push {cls:=.type "list",data:=.seq ([]:List Value).toArray}:=by rw [← hs3]
 have sz:∀ b∈fp,b<s2.heap.objs.size:=fun b hb=>by
  obtain ⟨o,e,_⟩:=T.obj _ _ st2 b hb
  exact Heap.lt_size e
 have f3:∀ b∈fp,FpOk X pins (upd H2 D (.lst [])) b∧b<s3.heap.objs.size:=fun b hb=>by
  have hlt:=sz b hb
  refine ⟨⟨?_,(f2 b hb).2⟩,by rw [h3,Heap.size_push];exact Nat.lt_succ_of_lt hlt⟩
  rw [upd_ne (by rw [← hD];exact Nat.ne_of_lt hlt)]
  exact (f2 b hb).1
 have st3:tn 0 s3.heap:=T.keep _ _ _ st2 fun b _ o e=>by rw [h3];exact Heap.get?_push_of_some _ e
 have I4:=block_start I3 ok hN f3
 have pg:=hg s3 (upd H2 D (.lst [])) s3.heap.objs.size (cellsFrom (s3.heap.objs.size+1) scope.names (cloFrom X.env.cells scope.names [])) fp
 have pt:=ht s3 (upd H2 D (.lst [])) s3.heap.objs.size (cellsFrom (s3.heap.objs.size+1) scope.names (cloFrom X.env.cells scope.names [])) fp
 have pe:=he s3 (upd H2 D (.lst [])) s3.heap.objs.size (cellsFrom (s3.heap.objs.size+1) scope.names (cloFrom X.env.cells scope.names [])) fp
 show codeAny _ _ (.compStart (.ListComp elt [⟨tg,iter,ifs,0⟩] scope pos) 0 (.ref it) (.ref D) (compEnvC scope (cellsFrom (s3.heap.objs.size+1) scope.names (cloFrom X.env.cells scope.names [])) s3.heap.objs.size X.env)) (compPost (model X.prog X.w) X.A X.xe use Qf (.ref D) s3.heap.objs.size) {s3 with heap:=pushCells (s3.heap.push {cls:=.type "dict",data:=.dict #[]}) scope.names}
 have nfp:∀ b∈fp,(upd H2 D (.lst [])) b=none:=fun b hb=>(f3 b hb).1.1
 generalize hce:compEnvC scope (cellsFrom (s3.heap.objs.size+1) scope.names (cloFrom X.env.cells scope.names [])) s3.heap.objs.size X.env=ce at I4 pg pt pe ⊢
 have cL:ce.locals=s3.heap.objs.size:=by subst hce;rfl
 generalize hH3:upd H2 D (.lst [])=H3 at I3 I4 pg pt pe w0 nfp f3
 generalize hs4:({s3 with heap:=pushCells (s3.heap.push {cls:=.type "dict",data:=.dict #[]}) scope.names}:Shared)=s4 at I4 ⊢
 have st4:tn 0 s4.heap:=T.keep _ _ _ st3 fun b _ o e=>by rw [← hs4];exact pushCells_keeps _ _ _ _ (Heap.get?_push_of_some _ e)
 have stat:∀ {σ':St}{H':Hp}{s':Shared},Inv (X.blk s3 H3 scope ce fp) [] σ' H' s'→(∀ b∈fp,H' b=none)→∀ b∈fp,FpOk (X.blk s3 H3 scope ce fp) [] H' b:=fun {σ' H' s'} I' hn b hb =>
  ⟨hn b hb,(I'.ok.exf b hb).1,I'.ok.exfs b hb,.inl hb,fun x c e=>(I'.ok.exf b hb).2 x c e,fun p hp=>absurd (show p∈([]:List (Addr×Obj))++[] from hp) (by simp)⟩
 have loop:codeAny (model X.prog X.w) X.A (.compLoop (.ListComp elt [⟨tg,iter,ifs,0⟩] scope pos) 0 (.ref it) (.ref D) ce) (compPost (model X.prog X.w) X.A X.xe use Qf (.ref D) s3.heap.objs.size) s4:=by
  refine compLoop_any (fun n s'=>∃ i H',Inv (X.blk s3 H3 scope ce fp) [] (wipe σ (own.map (·.2))) H' s'∧tn i s'.heap∧(∀ b∈fp,H' b=none)∧W i n H') ?_ m0 ⟨0,H3,I4,st4,nfp,w0⟩
  rintro n s5 ⟨i,H5,I5,st5,n5,w5⟩
  rcases turn i n H5 w5 with ⟨stop,qq⟩ | ⟨go,Nx,hNx,step⟩
  ·have td:=T.done (X.blk s3 H3 scope ce fp) rfl rfl rfl hc i [] s5 _ H5 (fun _ _=>False) I5 (stat I5 n5) st5 stop
   refine thnF td fun r s6 ⟨hr,I6⟩=>?_
   subst hr
   have I7:Inv X pins σ H5 s6:=I3.call' (ch:=fp) I6.os I6.base I6.hok I6.bare fun b hb=>⟨(f3 b hb).1.2.2.2.1,(f3 b hb).1.2.1,(f3 b hb).1.2.2.2.2.1,(f3 b hb).1.2.2.2.2.2⟩
   have nC:H5 s3.heap.objs.size=none:=by
    have z:H5 ce.locals=none:=I6.free
    rw [cL] at z
    exact z
   obtain ⟨m,hn,_⟩:=I6.loc
   have hn:s6.heap.Ns ce.locals m:=hn
   rw [cL] at hn
   exact hRR D s3.heap.objs.size s6 m H5 I7 qq hn (I3.fpOk (Nat.le_refl _) nC)
  ·have ti:=T.item (X.blk s3 H3 scope ce fp) rfl rfl rfl hc i [] s5 _ H5 (fun _ _=>False) I5 (stat I5 n5) st5 go
   refine thnF ti fun r s6 ⟨u,hr,h6⟩=>?_
   subst hr
   refine thnF h6 fun _ s7 ⟨x,H7,I7,r7,y7,st7,n7⟩=>?_
   have I7':=I7.pinned (stat I7 n7) (T.obj _ _ st7)
   refine thnF (pg _ s7 _ H7 x u _ I7' r7 (step x H7 y7)) fun _ s8 ⟨σ8,H8,I8,hw8,q8⟩=>?_
   refine thnF (pt _ s8 σ8 H8 _ I8 q8) fun b s9 ⟨H9,I9,q9⟩=>?_
   have fin:∀ {s':Shared}{H':Hp},Inv (X.blk s3 H3 scope ce fp) ([]++pinsAt fp s7.heap) σ8 H' s'→Nx H'→∃ m,m<n∧∃ i H',Inv (X.blk s3 H3 scope ce fp) [] (wipe σ (own.map (·.2))) H' s'∧tn i s'.heap∧(∀ b∈fp,H' b=none)∧W i m H':=fun {s' H'} I' nx=>by
    obtain ⟨m',hm,w'⟩:=hNx H' nx
    have pin':∀ b∈fp,∀ o,s7.heap.get? b=some o→s'.heap.get? b=some o∧H' b=none:=fun b hb o e =>
     let z:=I'.pin (b,o) (List.mem_append_right _ (List.mem_append_right _ (mem_pinsAt hb e)))
     ⟨z.1,z.2.1⟩
    have hl:(wipe σ (own.map (·.2))).length=σ8.length:=by rw [← hw8,wipe_length]
    refine ⟨m',hm,i+1,H',(I'.unpinned (pins:=[])).weak hl (fun j v e=>?_),T.keep _ _ _ st7 fun b hb o e=>(pin' b hb o e).1,fun b hb=>?_,w'⟩
    ·rw [← hw8] at e
     exact (wipe_some e).1
    ·obtain ⟨o,e,_⟩:=T.obj _ _ st7 b hb
     exact (pin' b hb o e).2
   cases b with
   | false =>
    simp only [Bool.false_eq_true,if_false] at q9 ⊢
    exact fin I9 q9
   | true =>
    simp only [if_true] at q9 ⊢
    refine thnF (pe _ s9 σ8 H9 _ I9 q9) fun z s10 ⟨yv,H10,I10,r10,acc,hD10,hz10,nx⟩=>?_
    exact app_ok (X:=X.blk s3 H3 scope ce fp) I10 hD10 hz10 r10 fun s11 I11=>fin I11 nx
 exact codeAny_compStart_list loop (T.self X.A 0 _ _ _ st4 loop)
theorem pe_lc {elt tg iter:Expr}{ifs:List Expr}{scope:Scope}{own:List (Str×Nat)}{pos:Pos}{wi:TI}{g:TG}{tt:TT}{te:TE} (hc:X.calm=true) (hN:X.N.Nodup) (hi:PI X tg iter wi) (ok:BlkOk X.N X.env.scope scope own)
  (hg:∀ (s:Shared) (H:Hp) (C:Addr) (cl:List (Str×Addr)) (fp:List Addr),PG (X.blk s H scope (compEnvC scope cl C X.env) fp) tg g) (ht:∀ (s:Shared) (H:Hp) (C:Addr) (cl:List (Str×Addr)) (fp:List Addr),PTs (X.blk s H scope (compEnvC scope cl C X.env) fp) ifs tt)
  (he:∀ (s:Shared) (H:Hp) (C:Addr) (cl:List (Str×Addr)) (fp:List Addr),PE (X.blk s H scope (compEnvC scope cl C X.env) fp) elt te) (hs:∀ x,foldedSetIterable iter X.env x=pure x:=by intro _;rfl) :
  PE X (.ListComp elt [⟨tg,iter,ifs,0⟩] scope pos) (tLc wi g tt te (own.map (·.2))):=by
 intro pins s σ H Q I h
 rw [eval_ListComp]
 refine lc_core hc hN I hi ok hg ht he hs h fun D C s' m H' I' q hn f=>⟨m,hn,fun h'' sb=>?_⟩
 obtain ⟨f0,f1,f2,f3,f4,f5⟩:=f
 exact ⟨.ref D,H',I'.turned (t':=s'.toks) (fun b o hb e=>(sb.2 b hb).trans e) f0 f1 f3 f4 f5,rfl,q⟩
theorem ps_setLc {i:Nat}{y:Str}{py:Pos}{elt tg iter:Expr}{ifs:List Expr}{scope:Scope}{own:List (Str×Nat)}{pos spos:Pos}{wi:TI}{g:TG}{tt:TT}{te:TE} (hc:X.calm=true) (hN:X.N.Nodup) (hy:X.N[i]?=some y) (hyl:X.env.scope.names.lookup y=some .local)
  (hsw:swapsWith (.ListComp elt [⟨tg,iter,ifs,0⟩] scope pos) (some (.Name y py)) spos.line X.env=pure true) (hi:PI X tg iter wi) (ok:BlkOk X.N X.env.scope scope own)
  (hg:∀ (s:Shared) (H:Hp) (C:Addr) (cl:List (Str×Addr)) (fp:List Addr),PG (X.blk s H scope (compEnvC scope cl C X.env) fp) tg g) (ht:∀ (s:Shared) (H:Hp) (C:Addr) (cl:List (Str×Addr)) (fp:List Addr),PTs (X.blk s H scope (compEnvC scope cl C X.env) fp) ifs tt)
  (he:∀ (s:Shared) (H:Hp) (C:Addr) (cl:List (Str×Addr)) (fp:List Addr),PE (X.blk s H scope (compEnvC scope cl C X.env) fp) elt te) (hs:∀ x,foldedSetIterable iter X.env x=pure x:=by intro _;rfl) :
  PS X (.Assign [.Name y py] (.ListComp elt [⟨tg,iter,ifs,0⟩] scope pos) spos) (tAsg (tLc wi g tt te (own.map (·.2))) (gName i)):=by
 intro pins s σ H D I h
 rw [exec_Assign_Name_used _ _ _ _ hsw]
 refine wpAny_bind (wpAny_standAt (wpAny_bind ?_))
 show wpAny _ X.A (do let _ ← comprehension (.ListComp elt [⟨tg,iter,ifs,0⟩] scope pos) scope X.env (firstIterPos [⟨tg,iter,ifs,0⟩] pos) (newList []) false (eval iter X.env) (some (assign (.Name y py) X.env))) _ _ s
 have h:tLc wi g tt te (own.map (·.2)) σ H (fun x H1=>gName i x σ H1 D.nx):=h
 refine wpAny_bind (thn (lc_core (Qf:=fun _ s'=>SP X pins D .next s') hc hN I hi ok hg ht he hs h fun L C s' m H' I' q hn f=>?_) fun _ s' hq=>wpAny_pure (wpAny_pure hq))
 show wpAny _ _ (assign (.Name y py) X.env (.ref L)) _ _ _
 refine wpAny_assign_Name (store_ok2 (v:=V.ref L) I' hN hy (.inl hyl) rfl (fun s2 I2 ⟨a,sb,ha⟩=>?_) (.inr hyl))
 obtain ⟨f0,f1,f2,f3,f4,f5⟩:=f
 have haC:C≠a:=by
  rcases ha with z | z
  ·rw [z];exact f1
  ·exact fun e=>f4 y a z e.symm
 refine ⟨m,hn.sameBut sb haC,fun h3 sb3=>?_⟩
 exact ⟨_,H',I2.turned (t':=s2.toks) (fun b o hb e=>(sb3.2 b hb).trans e) f0 f1 f3 f4 f5,q⟩
end
theorem lc_list {K:PySem.W.Frag}{a:Addr}{xs:List V}{g:TG}{tt:TT}{te:TE}{vs:List Nat}{σ:St}{H1:Hp}{D:Addr}{Qd:Hp→Prop} (Pv:Nat→Hp→Prop) (h0:Pv 0 (upd H1 D (.lst []))) (hl:∀ i H,i≤xs.length→Pv i H→SqL K H a xs)
  (hs:∀ i x H,xs[i]?=some x→Pv i H→g x (wipe σ vs) H fun σ2 H2=>wipe σ2 vs=wipe σ vs∧tt σ2 H2 fun b H3 =>
   if b=true then te σ2 H3 fun y H4=>∃ acc,H4 D=some (.lst acc)∧acc.length<sizeLine∧Pv (i+1) (upd H4 D (.lst (acc++[y]))) else Pv (i+1) H3) (hd:∀ H,Pv xs.length H→Qd H) :
  ∃ W:Nat→Nat→Hp→Prop,(∃ m,W 0 m (upd H1 D (.lst [])))∧∀ i m H,W i m H →
   ((Itl K a).stop i H∧Qd H)∨((Itl K a).go i H∧∃ Nx:Hp→Prop,(∀ H',Nx H'→∃ m',m'<m∧W (i+1) m' H')∧∀ x H',(Itl K a).yld i H x H'→g x (wipe σ vs) H' fun σ2 H2=>wipe σ2 vs=wipe σ vs∧tt σ2 H2 fun b H3 =>
    if b=true then te σ2 H3 fun y H4=>∃ acc,H4 D=some (.lst acc)∧acc.length<sizeLine∧Nx (upd H4 D (.lst (acc++[y]))) else Nx H3):=by
 refine ⟨fun i m H=>m=xs.length - i∧i≤xs.length∧Pv i H,⟨xs.length,by simp,Nat.zero_le _,h0⟩,?_⟩
 rintro i m H ⟨rfl,hi,p⟩
 have q:=hl i H hi p
 by_cases hlt:i<xs.length
 ·refine .inr ⟨⟨xs,xs[i],q,by simp [hlt]⟩,Pv (i+1),fun H' p'=>⟨xs.length - (i+1),by omega,rfl,hlt,p'⟩,fun x H' y=>?_⟩
  obtain ⟨e,y⟩:=y
  subst e
  exact hs i x _ (y xs q) p
 ·have e:i=xs.length:=by omega
  subst e
  exact .inl ⟨⟨xs,q,Nat.le_refl _⟩,hd H p⟩
def blkC (N:List Str) (sc scope:Scope) (own:List (Str×Nat)):Bool :=
 (match scope.kind with | .function=>true | _=>false)&&(scope.names.all fun y=>decide (scope.names.lookup y.1=some y.2))&&(own.all fun p=>decide (N[p.2]?=some p.1)) &&
  (scope.names.all fun y=>match y.2 with
   | .free=>(match sc.names.lookup y.1 with | some .cell=>true | some .free=>true | _=>false)
   | .local=>decide (y.1∈own.map (·.1)) || decide (y.1∉N)
   | .cell=>decide (y.1∈own.map (·.1)) || decide (y.1∉N)
   | _=>true)
theorem blkOk_by {N:List Str}{sc scope:Scope}{own:List (Str×Nat)} (h:blkC N sc scope own=true):BlkOk N sc scope own:=by
 unfold blkC at h
 simp only [Bool.and_eq_true,List.all_eq_true,decide_eq_true_eq] at h
 obtain ⟨⟨⟨h1,h2⟩,h3⟩,h4⟩:=h
 refine ⟨?_,h2,h3,fun y hy e=>?_,fun y hy e=>?_⟩
 ·split at h1
  ·assumption
  ·cases h1
 ·have q:=h4 y hy
  simp only [e] at q
  split at q <;> first | exact .inl (by assumption) | exact .inr (by assumption) | cases q
 ·have q:=h4 y hy
  rcases e with e | e <;> (simp only [e,Bool.or_eq_true,decide_eq_true_eq] at q;exact q)
end L2
namespace L2
open PySem PySem.Spec PyProof.Rows
section
variable {prog:Program}{w:World}{A:Around}{R:Result→Shared→Prop}{s:Shared}{elt t0 i0 t1 i1:Expr}{ifs0 ifs1:List Expr}{scope:Scope}{pos:Pos}{it acc:Value}{env:Env}
end
section
variable {X:Cx}
end
end L2
namespace L2
open PySem PySem.Spec PyProof.Rows
section
variable {κ:Type} [DecidableEq κ]
def valV (kvs:List (κ×V)) (k:κ):Option V:=(kvs.find? fun kv=>decide (kv.1=k)).map (·.2)
def putK (kvs:List (κ×V)) (k:κ) (v:V):List (κ×V) :=
 if (kvs.any fun kv=>decide (kv.1=k))=true then kvs.map (fun kv=>if kv.1=k then (kv.1,v) else kv) else kvs++[(k,v)]
def dropK (kvs:List (κ×V)) (k:κ):List (κ×V):=kvs.filter fun kv=>decide (kv.1≠k)
theorem valV_pos {p:κ×V}{r:List (κ×V)}{k:κ} (e:p.1=k):valV (p::r) k=some p.2:=by simp [valV,List.find?_cons,e]
theorem valV_neg {p:κ×V}{r:List (κ×V)}{k:κ} (e:¬ p.1=k):valV (p::r) k=valV r k:=by simp [valV,List.find?_cons,e]
theorem valV_any (k:κ):∀ kvs:List (κ×V),(kvs.any fun kv=>decide (kv.1=k))=(valV kvs k).isSome
 | []=>rfl
 | p::r=>by
  rw [List.any_cons]
  by_cases e:p.1=k
  ·simp only [valV_pos e,decide_eq_true e,Bool.true_or,Option.isSome_some]
  ·rw [valV_neg e,decide_eq_false e,Bool.false_or];exact valV_any k r
theorem valV_map (k j:κ) (y:V):∀ kvs:List (κ×V),valV (kvs.map fun kv=>if kv.1=k then (kv.1,y) else kv) j=(valV kvs j).map fun x=>if j=k then y else x
 | []=>rfl
 | p::r=>by
  have ih:=valV_map k j y r
  rw [List.map_cons]
  by_cases h:p.1=k
  ·rw [if_pos h]
   by_cases e:p.1=j
   ·rw [valV_pos (p:=(p.1,y)) e,valV_pos e,Option.map_some,if_pos (e.symm.trans h)]
   ·rw [valV_neg (p:=(p.1,y)) e,valV_neg e,ih]
  ·rw [if_neg h]
   by_cases e:p.1=j
   ·rw [valV_pos (p:=p) e,valV_pos e,Option.map_some,if_neg (fun z=>h (e.trans z))]
   ·rw [valV_neg (p:=p) e,valV_neg e,ih]
theorem valV_snoc (k j:κ) (y:V):∀ kvs:List (κ×V),valV kvs k=none→valV (kvs++[(k,y)]) j=if j=k then some y else valV kvs j
 | [],_=>by
  by_cases e:k=j
  ·rw [if_pos e.symm];exact valV_pos (p:=(k,y)) e
  ·rw [if_neg (fun z=>e z.symm)];exact valV_neg (p:=(k,y)) e
 | p::r,hn=>by
  rw [List.cons_append]
  have hk:¬ p.1=k:=fun z=>by rw [valV_pos z] at hn;cases hn
  rw [valV_neg hk] at hn
  have ih:=valV_snoc k j y r hn
  by_cases e:p.1=j
  ·rw [valV_pos e,valV_pos e,if_neg (fun z=>hk (e.trans z))]
  ·rw [valV_neg e,valV_neg e,ih]
theorem valV_put (kvs:List (κ×V)) (k j:κ) (y:V):valV (putK kvs k y) j=if j=k then some y else valV kvs j:=by
 unfold putK
 by_cases a:(kvs.any fun kv=>decide (kv.1=k))=true
 ·rw [if_pos a,valV_map]
  rw [valV_any] at a
  by_cases e:j=k
  ·obtain ⟨x,hx⟩:=Option.isSome_iff_exists.mp a
   rw [if_pos e,e,hx,Option.map_some,if_pos rfl]
  ·rw [if_neg e]
   cases valV kvs j with
   | none=>rfl
   | some x=>rw [Option.map_some,if_neg e]
 ·rw [if_neg a]
  refine valV_snoc k j y kvs ?_
  rw [valV_any] at a
  cases q:valV kvs k with
  | none=>rfl
  | some x=>rw [q] at a;exact (a rfl).elim
theorem length_putK (kvs:List (κ×V)) (k:κ) (v:V):(putK kvs k v).length≤kvs.length+1:=by
 unfold putK
 split
 ·rw [List.length_map];omega
 ·rw [List.length_append,List.length_cons,List.length_nil];omega
theorem putK_new {kvs:List (κ×V)}{k:κ} (v:V) (h:valV kvs k=none):putK kvs k v=kvs++[(k,v)]:=by
 unfold putK
 rw [valV_any,h]
 exact if_neg (by decide)
theorem RelO.isSome_eq {o:Option V}{u:Option Value} (r:RelO o u):o.isSome=u.isSome:=by
 cases o with
 | none=>cases u with
  | none=>rfl
  | some _=>exact (show False from r).elim
 | some _=>cases u with
  | none=>exact (show False from r).elim
  | some _=>rfl
theorem RelO.getD {o:Option V}{u:Option Value}{d:V}{d':Value} (r:RelO o u) (rd:RelV d d'):RelV (o.getD d) (u.getD d'):=by
 cases o with
 | none=>cases u with
  | none=>exact rd
  | some _=>exact (show False from r).elim
 | some _=>cases u with
  | none=>exact (show False from r).elim
  | some _=>exact r
theorem KV.val {kvs:List (κ×V)}{vs:List (κ×Value)} (r:KV kvs vs) (k:κ):RelO (valV kvs k) (valueAt vs k):=by
 unfold KV at r
 induction r with
 | nil=>exact True.intro
 | @cons p q ps qs h t ih =>
  obtain ⟨h1,h2⟩:=h
  by_cases e:p.1=k
  ·have e':q.1=k:=h1.symm.trans e
   have b:valueAt (q::qs) k=some q.2:=by simp [valueAt,List.find?_cons,e']
   rw [valV_pos e,b];exact h2
  ·have e':¬ q.1=k:=fun z=>e (h1.trans z)
   have b:valueAt (q::qs) k=valueAt qs k:=by simp [valueAt,List.find?_cons,e']
   rw [valV_neg e,b];exact ih
theorem KV.any {kvs:List (κ×V)}{vs:List (κ×Value)} (r:KV kvs vs) (k:κ):(kvs.any fun kv=>decide (kv.1=k))=vs.any fun kv=>decide (kv.1=k):=by
 unfold KV at r
 induction r with
 | nil=>rfl
 | cons h t ih=>rw [List.any_cons,List.any_cons,ih,h.1]
theorem KV.repl {kvs:List (κ×V)}{vs:List (κ×Value)} (r:KV kvs vs) (k:κ) {y:V}{u:Value} (ry:RelV y u) :
  KV (kvs.map fun kv=>if kv.1=k then (kv.1,y) else kv) (vs.map fun kv=>if kv.1=k then (kv.1,u) else kv):=by
 unfold KV at r ⊢
 induction r with
 | nil=>exact .nil
 | @cons p q ps qs h t ih =>
  rw [List.map_cons,List.map_cons]
  refine .cons ?_ ih
  obtain ⟨h1,h2⟩:=h
  by_cases e:p.1=k
  ·rw [if_pos e,if_pos (h1.symm.trans e)];exact ⟨h1,ry⟩
  ·rw [if_neg e,if_neg (fun z=>e (h1.trans z))];exact ⟨h1,h2⟩
theorem KV.put {kvs:List (κ×V)}{vs:List (κ×Value)} (r:KV kvs vs) (k:κ) {y:V}{u:Value} (ry:RelV y u):KV (putK kvs k y) (stored vs k u):=by
 unfold putK stored
 rw [r.any k]
 by_cases e:(vs.any fun kv=>decide (kv.1=k))=true
 ·rw [if_pos e,if_pos e];exact r.repl k ry
 ·rw [if_neg e,if_neg e];exact Paired.snoc r ⟨rfl,ry⟩
theorem KV.drop {kvs:List (κ×V)}{vs:List (κ×Value)} (r:KV kvs vs) (k:κ):KV (dropK kvs k) (without vs k):=by
 unfold KV at r ⊢
 unfold dropK without
 induction r with
 | nil=>exact .nil
 | @cons p q ps qs h t ih =>
  obtain ⟨h1,h2⟩:=h
  rw [List.filter_cons,List.filter_cons]
  by_cases e:p.1=k
  ·have a:¬ decide (p.1≠k)=true:=by simp [e]
   have b:¬ decide (q.1≠k)=true:=by simp [h1.symm.trans e]
   rw [if_neg a,if_neg b];exact ih
  ·have e':¬ q.1=k:=fun z=>e (h1.trans z)
   have a:decide (p.1≠k)=true:=by simp [e]
   have b:decide (q.1≠k)=true:=by simp [e']
   rw [if_pos a,if_pos b];exact .cons ⟨h1,h2⟩ ih
theorem KV.keys {kvs:List (κ×V)}{vs:List (κ×Value)} (r:KV kvs vs):kvs.map (·.1)=vs.map (·.1):=by
 unfold KV at r
 induction r with
 | nil=>rfl
 | cons h t ih=>rw [List.map_cons,List.map_cons,ih,h.1]
theorem KV.length {kvs:List (κ×V)}{vs:List (κ×Value)} (r:KV kvs vs):kvs.length=vs.length:=Paired.length r
theorem dropK_le (kvs:List (κ×V)) (k:κ):(dropK kvs k).length≤kvs.length:=List.length_filter_le _ _
end
theorem kV_is {P:Program}{w:World}{k:Key}{u:Value} (r:RelV (kV k) u):(mixKind P w).is k u=true:=by
 cases k with
 | inl i=>obtain ⟨t,e⟩:=(show ∃ t,u=Value.int i t from r);subst e;exact mixKind_int P w i t
 | inr x=>obtain ⟨t,e⟩:=(show ∃ t,u=Value.str x t from r);subst e;exact mixKind_str P w x t
theorem items_are {P:Program}{w:World}:∀ {ks:List Key}{us:List Value},Vals (ks.map kV) us→ItemsAre (mixKind P w) ks us
 | [],_,r=>by rw [List.map_nil] at r;cases r;exact .nil
 | k::ks,_,r=>by
  rw [List.map_cons] at r
  cases r with
  | cons h t=>exact .cons (kV_is h) (items_are t)
abbrev KT (H:Hp):List (List Key×V)→List (List Key×Addr×Value)→Prop:=Paired fun p q=>p.1=q.1∧H q.2.1=some (.tup (p.1.map kV))∧RelV p.2 q.2.2
theorem KT.val {H:Hp}{kvs:List (List Key×V)}{xs:List (List Key×Addr×Value)} (r:KT H kvs xs) (k:List Key):RelO (valV kvs k) ((atKey xs k).map (·.2)):=by
 induction r with
 | nil=>exact True.intro
 | @cons p q ps qs h t ih =>
  obtain ⟨h1,_,h2⟩:=h
  by_cases e:p.1=k
  ·have e':q.1=k:=h1.symm.trans e
   have b:atKey (q::qs) k=some q.2:=by simp [atKey,List.find?_cons,e']
   rw [valV_pos e,b];exact h2
  ·have e':¬ q.1=k:=fun z=>e (h1.trans z)
   have b:atKey (q::qs) k=atKey qs k:=by simp [atKey,List.find?_cons,e']
   rw [valV_neg e,b];exact ih
theorem KT.repl {H:Hp}{kvs:List (List Key×V)}{xs:List (List Key×Addr×Value)} (r:KT H kvs xs) (k:List Key) {y:V}{u:Value} (ry:RelV y u) :
  KT H (kvs.map fun kv=>if kv.1=k then (kv.1,y) else kv) (xs.map (putAt k u)):=by
 induction r with
 | nil=>exact .nil
 | @cons p q ps qs h t ih =>
  rw [List.map_cons,List.map_cons]
  refine .cons ?_ ih
  obtain ⟨h1,h2,h3⟩:=h
  unfold putAt
  by_cases e:p.1=k
  ·rw [if_pos e,if_pos (h1.symm.trans e)];exact ⟨h1,h2,ry⟩
  ·rw [if_neg e,if_neg (fun z=>e (h1.trans z))];exact ⟨h1,h2,h3⟩
theorem KT.put {H:Hp}{kvs:List (List Key×V)}{xs:List (List Key×Addr×Value)} (r:KT H kvs xs) (k:List Key) {b:Addr}{y:V}{u:Value} (hb:H b=some (.tup (k.map kV))) (ry:RelV y u) :
  KT H (putK kvs k y) (storedH xs k b u):=by
 have e:(kvs.any fun kv=>decide (kv.1=k))=(atKey xs k).isSome:=by
  rw [valV_any,(r.val k).isSome_eq,Option.isSome_map]
 unfold putK storedH
 rw [e]
 by_cases q:(atKey xs k).isSome=true
 ·rw [if_pos q,if_pos q];exact r.repl k ry
 ·rw [if_neg q,if_neg q];exact Paired.snoc r ⟨rfl,hb,ry⟩
theorem KT.keeps {H H':Hp}{kvs:List (List Key×V)}{xs:List (List Key×Addr×Value)} (r:KT H kvs xs) (ht:∀ b ys,H b=some (.tup ys)→H' b=some (.tup ys)):KT H' kvs xs :=
 Paired.mapP r fun _ _ z=>⟨z.1,ht _ _ z.2.1,z.2.2⟩
section
variable {P:Program}{w:World}{H:Hp}{h:Heap}{a:Addr}
theorem rd_of {u:HO} (ok:HOk P w H h) (e:Rd H a u):ObjOk P w H h a u:=e.ok ok
theorem dk_rd {kvs:List (Key×V)} (ok:HOk P w H h) (e:Rd H a (.dK kvs)):kvs.length≤sizeLine∧(a==sysModules)=false∧∃ vs,KV kvs vs∧h.DictOf (mixKind P w) a vs :=
 show ObjOk P w H h a (.dK kvs) from rd_of ok e
theorem dk_of {kvs:List (Key×V)} (ok:HOk P w H h) (e:H a=some (.dK kvs)):kvs.length≤sizeLine∧(a==sysModules)=false∧∃ vs,KV kvs vs∧h.DictOf (mixKind P w) a vs:=dk_rd ok (.inl e)
theorem key_of {ks:List Key} (ok:HOk P w H h) (e:H a=some (.tup (ks.map kV))):(tupleKind (mixKind P w)).is h ks a:=by
 obtain ⟨_,its,r,o,h1,h2,n,h3⟩:=(show ObjOk P w H h a (.tup (ks.map kV)) from ok a _ e)
 exact ⟨o,its.toArray,n,h1,h2,h3,by simpa using items_are r⟩
theorem dt_rd {kvs:List (List Key×V)} (ok:HOk P w H h) (e:Rd H a (.dT kvs)):kvs.length≤sizeLine∧(a==sysModules)=false ∧
  ∃ xs,KT H kvs xs∧h.DictOfH (tupleKind (mixKind P w)) a xs:=by
 obtain ⟨z,y,xs,r,o,es,ep,h1,h2,h3,h4,h5⟩:=(show ObjOk P w H h a (.dT kvs) from rd_of ok e)
 refine ⟨z,y,xs,r,o,es,ep,h1,h2,h3,h4,fun x hx=>?_,h5⟩
 have all:∀ {l:List (List Key×V)}{m:List (List Key×Addr×Value)},KT H l m→∀ x∈m,(tupleKind (mixKind P w)).is h x.1 x.2.1:=by
  intro l m q
  induction q with
  | nil=>intro x hx;exact nomatch hx
  | @cons p q ps qs hq t ih =>
   intro x hx
   rcases List.mem_cons.mp hx with e | hx
   ·subst e
    exact key_of ok (by rw [← hq.1];exact hq.2.1)
   ·exact ih x hx
 exact all r x hx
theorem dt_of {kvs:List (List Key×V)} (ok:HOk P w H h) (e:H a=some (.dT kvs)):kvs.length≤sizeLine∧(a==sysModules)=false ∧
  ∃ xs,KT H kvs xs∧h.DictOfH (tupleKind (mixKind P w)) a xs:=dt_rd ok (.inl e)
end
def DGet (H:Hp) (a:Addr) (y:V) (r:Option V):Prop :=
 (∃ kvs k,Rd H a (.dK kvs)∧y=kV k∧r=valV kvs k)∨∃ kvs k b,Rd H a (.dT kvs)∧y=.ref b∧H b=some (.tup (k.map kV))∧r=valV kvs k
def DPut (H:Hp) (a:Addr) (y v:V) (H':Hp):Prop :=
 (∃ kvs k,H a=some (.dK kvs)∧y=kV k∧kvs.length<sizeLine∧H'=upd H a (.dK (putK kvs k v))) ∨
 ∃ kvs k b,H a=some (.dT kvs)∧y=.ref b∧H b=some (.tup (k.map kV))∧kvs.length<sizeLine∧H'=upd H a (.dT (putK kvs k v))
theorem DPut.k {H:Hp}{a:Addr}{kvs:List (Key×V)}{k:Key}{v:V} (e:H a=some (.dK kvs)) (hl:kvs.length<sizeLine):DPut H a (kV k) v (upd H a (.dK (putK kvs k v))):=.inl ⟨kvs,k,e,rfl,hl,rfl⟩
section
variable {X:Cx}{pins:List (Addr×Obj)}{σ:St}{H:Hp}{s:Shared}{a:Addr}{y v:V}{u r:Value}{o:Option V}{A:Around}{E:Value→Shared→Prop}
theorem Inv.big (I:Inv X pins σ H s):sysModules<s.heap.objs.size:=by
 have h:mainGlobals<s.heap.objs.size:=(I.mod.glob.keeps I.bk).lt
 exact Nat.lt_trans (by decide) h
theorem d_getItem {Q:Value→Shared→Prop} (hu:A.units+1<cLine) (I:Inv X pins σ H s) (g:DGet H a y (some v)) (ry:RelV y u) (h:∀ w' s',Inv X pins σ H s'→RelV v w'→Q w' s') :
  wpAny (model X.prog X.w) A (getItem (.ref a) u) Q E s:=by
 rcases g with ⟨kvs,k,e,ey,l⟩ | ⟨kvs,k,b,e,ey,eb,l⟩
 ·subst ey
  obtain ⟨z,hd,vs,rel,dd⟩:=dk_rd I.hok e
  obtain ⟨w',hw,rw'⟩:=RelO.some_of (v:=v) (o:=valueAt vs k) (by rw [l];exact rel.val k)
  exact wpAny_getItem_of (kV_is ry) dd.mapOf hw (h w' _ (I.tok _) rw')
 ·subst ey
  cases (show u=Value.ref b from ry)
  obtain ⟨z,hd,xs,rel,dd⟩:=dt_rd I.hok e
  obtain ⟨w',hw,rw'⟩:=RelO.some_of (v:=v) (o:=(atKey xs k).map (·.2)) (by rw [l];exact rel.val k)
  obtain ⟨p,hp,hp2⟩:=Option.map_eq_some_iff.mp hw
  refine wpAny_getItem_heap (tupleKind_room_in1 hu) (key_of I.hok eb) dd hp ?_
  rw [hp2]
  exact h w' _ (I.tok _) rw'
theorem d_in {Q:Value→Shared→Prop} (hu:A.units+1<cLine) (I:Inv X pins σ H s) (g:DGet H a y o) (ry:RelV y u) (h:∀ s',Inv X pins σ H s'→Q (.bool o.isSome) s') :
  wpAny (model X.prog X.w) A (compareOp .In u (.ref a)) Q E s:=by
 rcases g with ⟨kvs,k,e,ey,l⟩ | ⟨kvs,k,b,e,ey,eb,l⟩
 ·subst ey
  obtain ⟨z,hd,vs,rel,dd⟩:=dk_rd I.hok e
  refine wpAny_in_of (kV_is ry) hd dd.mapOf ?_
  rw [← (rel.val k).isSome_eq,← l]
  exact h _ (I.tok _)
 ·subst ey
  cases (show u=Value.ref b from ry)
  obtain ⟨z,hd,xs,rel,dd⟩:=dt_rd I.hok e
  refine wpAny_in_heap (tupleKind_room_in1 hu) (key_of I.hok eb) hd dd ?_
  have q:=(rel.val k).isSome_eq
  rw [Option.isSome_map] at q
  rw [← q,← l]
  exact h _ (I.tok _)
theorem d_notIn {Q:Value→Shared→Prop} (hu:A.units+1<cLine) (I:Inv X pins σ H s) (g:DGet H a y o) (ry:RelV y u) (h:∀ s',Inv X pins σ H s'→Q (.bool (!o.isSome)) s') :
  wpAny (model X.prog X.w) A (compareOp .NotIn u (.ref a)) Q E s:=by
 rcases g with ⟨kvs,k,e,ey,l⟩ | ⟨kvs,k,b,e,ey,eb,l⟩
 ·subst ey
  obtain ⟨z,hd,vs,rel,dd⟩:=dk_rd I.hok e
  refine wpAny_notIn_of (kV_is ry) hd dd.mapOf ?_
  rw [← (rel.val k).isSome_eq,← l]
  exact h _ (I.tok _)
 ·subst ey
  cases (show u=Value.ref b from ry)
  obtain ⟨z,hd,xs,rel,dd⟩:=dt_rd I.hok e
  refine wpAny_notIn_heap (tupleKind_room_in1 hu) (key_of I.hok eb) hd dd ?_
  have q:=(rel.val k).isSome_eq
  rw [Option.isSome_map] at q
  rw [← q,← l]
  exact h _ (I.tok _)
theorem d_write {h':Heap}{t':Nat}{ob:HO} (I:Inv X pins σ H s) (mu:Mut (H a)) (hs:Heap.SameBut a s.heap h') (he:∃ q,h'.get? a=some q) (new:ObjOk X.prog X.w (upd H a ob) h' a ob) :
  Inv X pins σ (upd H a ob) {s with heap:=h',toks:=t'} :=
 I.write (x:=a) (e:=a) mu (.inl rfl) (fun b q hb z=>(hs.2 b hb).trans z) he new
theorem dk_new {P:Program}{w:World}{H':Hp}{h':Heap}{kvs:List (Key×V)}{vs:List (Key×Value)} (z:kvs.length≤sizeLine) (hd:(a==sysModules)=false) (rel:KV kvs vs) (dd:h'.DictOf (mixKind P w) a vs) :
  ObjOk P w H' h' a (.dK kvs):=⟨z,hd,vs,rel,dd⟩
theorem d_setItem {H':Hp}{Q:Unit→Shared→Prop} (hu:A.units+1<cLine) (I:Inv X pins σ H s) (g:DPut H a y v H') (ry:RelV y u) (rv:RelV v r) (h:∀ s',Inv X pins σ H' s'→Q () s') :
  wpAny (model X.prog X.w) A (setItem (.ref a) u r) Q E s:=by
 rcases g with ⟨kvs,k,e,ey,l,eH⟩ | ⟨kvs,k,b,e,ey,eb,l,eH⟩
 ·subst ey eH
  obtain ⟨z,hd,vs,rel,dd⟩:=dk_of I.hok e
  have hz:vs.length≤sizeLine:=by rw [← rel.length];exact z
  have hl:(putK kvs k v).length≤sizeLine:=by have:=length_putK kvs k v;omega
  refine wpAny_setItem_pairs (hsz:=hz) (kV_is ry) dd fun h' dd' hs=>h _ ?_
  have he:∃ q,h'.get? a=some q:=let ⟨q,_,_,hq,_⟩:=dd';⟨q,hq⟩
  exact d_write I (by rw [e];exact True.intro) hs he (dk_new hl hd (rel.put k rv) dd')
 ·subst ey eH
  cases (show u=Value.ref b from ry)
  obtain ⟨z,hd,xs,rel,dd⟩:=dt_of I.hok e
  have hz:xs.length≤sizeLine:=by rw [← Paired.length rel];exact z
  have hl:(putK kvs k v).length≤sizeLine:=by have:=length_putK kvs k v;omega
  refine wpAny_setItem_heap (hsz:=hz) (tupleKind_room_in1 hu) (key_of I.hok eb) dd fun h' dd' hs=>h _ ?_
  obtain ⟨q,es,ep,hq,h2,h3,h4,_,h5⟩:=dd'
  refine d_write I (by rw [e];exact True.intro) hs ⟨q,hq⟩ ⟨hl,hd,_,(rel.put k eb rv).keeps fun c ys ec=>?_,q,es,ep,hq,h2,h3,h4,h5⟩
  rw [upd_ne (ne_of ec e (fun z=>nomatch z))]
  exact ec
end
section
variable {X:Cx}{pins:List (Addr×Obj)}{σ:St}{H:Hp}{s:Shared}{a:Addr}{kvs:List (Key×V)}{k:Key}{u:Value}{A:Around}{E:Value→Shared→Prop}
theorem d_delItem {Q:Unit→Shared→Prop} (I:Inv X pins σ H s) (e:H a=some (.dK kvs)) (ry:RelV (kV k) u) (l:(valV kvs k).isSome=true) (h:∀ s',Inv X pins σ (upd H a (.dK (dropK kvs k))) s'→Q () s') :
  wpAny (model X.prog X.w) A (delItem (.ref a) u) Q E s:=by
 obtain ⟨z,hd,vs,rel,dd⟩:=dk_of I.hok e
 refine wpAny_delItem_slot dd.typeIs (by decide) PySem.F.slot_dict_delitem
  (call_meetsIn PySem.F.slot_dict_delitem dd.typeIs PySem.F.entry_dict_delitem (PySem.F.args_dict_delitem_2 _ _) (meets_dict_delitem_pairs (mixKind X.prog X.w) a (kV_is ry)) ⟨vs,dd,by rw [← rel.length];exact z,by rw [← (rel.val k).isSome_eq];exact l,fun h' dd' hs=>h _ ?_⟩)
 have he:∃ q,h'.get? a=some q:=let ⟨q,_,_,hq,_⟩:=dd';⟨q,hq⟩
 exact d_write I (by rw [e];exact True.intro) hs he (dk_new (Nat.le_trans (dropK_le kvs k) z) hd (rel.drop k) dd')
theorem d_pop {v:V}{more:List Value}{Q:Value→Shared→Prop} (I:Inv X pins σ H s) (e:H a=some (.dK kvs)) (ry:RelV (kV k) u) (l:valV kvs k=some v) (hm:more=[]∨∃ x,more=[x])
  (h:∀ w' s',Inv X pins σ (upd H a (.dK (dropK kvs k))) s'→RelV v w'→Q w' s'):wpAny (model X.prog X.w) A (call (.builtin "dict.pop") (.ref a::u::more)) Q E s:=by
 obtain ⟨z,hd,vs,rel,dd⟩:=dk_of I.hok e
 obtain ⟨w',hw,rw'⟩:=RelO.some_of (v:=v) (o:=valueAt vs k) (by rw [← l];exact rel.val k)
 have hp:(keyPart u).isSome=true:=by
  cases k with
  | inl i=>obtain ⟨t,q⟩:=(show ∃ t,u=Value.int i t from ry);subst q;rfl
  | inr x=>obtain ⟨t,q⟩:=(show ∃ t,u=Value.str x t from ry);subst q;rfl
 have ha:argsOk "dict.pop" ⟨.ref a::u::more,[]⟩:=by
  rcases hm with q | ⟨x,q⟩
  ·subst q;exact PySem.F.args_dict_pop_2 _ _
  ·subst q;exact PySem.F.args_dict_pop_3 _ _ _
 refine call_meetsIn PySem.F.slot_dict_pop dd.typeIs PySem.F.entry_dict_pop ha (meets_dict_pop_there (mixKind X.prog X.w) a (kV_is ry) more hm hp)
  ⟨vs,w',dd,by rw [← rel.length];exact z,hw,fun h' dd' hs=>h w' _ ?_ rw'⟩
 have he:∃ q,h'.get? a=some q:=let ⟨q,_,_,hq,_⟩:=dd';⟨q,hq⟩
 exact d_write I (by rw [e];exact True.intro) hs he (dk_new (Nat.le_trans (dropK_le kvs k) z) hd (rel.drop k) dd')
theorem d_len {Q:Value→Shared→Prop} (I:Inv X pins σ H s) (e:Rd H a (.dK kvs)) (h:∀ t s',Inv X pins σ H s'→Q (.int kvs.length t) s'):wpAny (model X.prog X.w) A (call (.builtin "len") [.ref a]) Q E s:=by
 obtain ⟨z,hd,vs,rel,dd⟩:=dk_rd I.hok e
 refine call_len_dict hd dd (by rw [← rel.length];rw [sizeLine_eq] at z;omega) ?_
 rw [← rel.length]
 exact h _ _ (I.tok _)
end
def NoSl (i:Expr):Prop:=∀ ov iv,subscripted i false ov iv=operate [ov,iv] (getItem ov iv)
theorem subD_of {prog:Program}{w:World}{A:Around}{E:Value→Shared→Prop}{s:Shared}{env:Env}{value slice:Expr}{pos:Pos}{T id:String}{Q:Value→Shared→Prop}
  (hl:typeLookup (.type T) "__getitem__"=pure (some (.builtin id))) (hs:NoSl slice)
  (h:wpAny (model prog w) A (eval value env) (fun o s₁=>wpAny (model prog w) A (eval slice env) (fun i s₂=>s₂.TypeIs o T∧wpAny (model prog w) A (getItem o i) Q E s₂) E s₁) E s) :
  wpAny (model prog w) A (eval (.Subscript value slice pos) env) Q E s:=by
 refine Subscript_ (wpAny_mono h (fun o s₁ h₁=>wpAny_mono h₁ (fun i s₂ h₂=>?_) fun _ _ x=>x) fun _ _ x=>x)
 obtain ⟨hT,h₂⟩:=h₂
 unfold subscriptTail
 refine wpAny_bind ?_
 rw [getitemInPython_of_ne hT.not_modules]
 refine wpAny_bind (wpAny_specialOf hT hl ?_)
 have fin:wpAny (model prog w) A (subscripted slice false o i) (fun r s₃=>wpAny (model prog w) A (letTemporaryGo value o r >>= fun _=>pure r) Q E s₃) E s₂:=by
  rw [hs o i]
  exact wpAny_operating (wpAny_mono h₂ (fun r s₃ h₃=>wpAny_bind (wpAny_letTemporaryGo (wpAny_pure h₃))) fun _ _ x=>x)
 first
  | exact wpAny_pure (wpAny_bind fin)
  | exact wpAny_bind (wpAny_pure (wpAny_bind fin))
  | exact wpAny_bind fin
theorem dict_typeIs {X:Cx}{pins:List (Addr×Obj)}{σ:St}{H:Hp}{s:Shared}{a:Addr}{y:V}{o:Option V} (I:Inv X pins σ H s) (g:DGet H a y o):s.TypeIs (.ref a) "dict":=by
 rcases g with ⟨kvs,k,e,_,_⟩ | ⟨kvs,k,b,e,_,_,_⟩
 ·obtain ⟨_,_,vs,_,dd⟩:=dk_rd I.hok e
  exact dd.typeIs
 ·obtain ⟨_,_,xs,_,dd⟩:=dt_rd I.hok e
  exact dd.typeIs
def tDGet (td ty:TE):TE:=fun σ H Q=>td σ H fun x H1=>ty σ H1 fun y H2=>∃ a v,x=.ref a∧DGet H2 a y (some v)∧Q v H2
def tDIn (ty td:TE):TE:=fun σ H Q=>ty σ H fun y H1=>td σ H1 fun x H2=>∃ a o,x=.ref a∧DGet H2 a y o∧Q (.bl o.isSome) H2
def tDNotIn (ty td:TE):TE:=fun σ H Q=>ty σ H fun y H1=>td σ H1 fun x H2=>∃ a o,x=.ref a∧DGet H2 a y o∧Q (.bl (!o.isSome)) H2
def sDPut (td ty tv:TE):TS:=fun D σ H=>tv σ H fun v H1=>td σ H1 fun x H2=>ty σ H2 fun y H3=>∃ a H4,x=.ref a∧DPut H3 a y v H4∧D.nx σ H4
section
variable {X:Cx}{o i e value:Expr}{pos pos' tpos:Pos}{td ty tv:TE}
theorem pe_dget (hu:X.A.units+1<cLine) (ho:PE X o td) (hi:PE X i ty) (hs:NoSl i):PE X (.Subscript o i pos) (tDGet td ty):=by
 intro pins s σ H Q I h
 refine subD_of PySem.F.slot_dict_getitem.lookup hs (thn (ho pins s σ H _ I h) fun u s1 ⟨x,H1,I1,rx,q1⟩=>thn (hi pins s1 σ H1 _ I1 q1) fun iv s2 ⟨y,H2,I2,ry,a,v,ex,g,q2⟩=>?_)
 subst ex
 obtain rfl:u=Value.ref a:=rx
 exact ⟨dict_typeIs I2 g,d_getItem hu I2 g ry fun w' s3 I3 rw'=>⟨v,H2,I3,rw',q2⟩⟩
theorem pc_din (hu:X.A.units+1<cLine) (hi:PE X i ty) (ho:PE X o td):PC X .In i o (tDIn ty td):=by
 intro pins s σ H Q I h
 refine thn (hi pins s σ H _ I h) fun iv s1 ⟨y,H1,I1,ry,q1⟩=>thn (ho pins s1 σ H1 _ I1 q1) fun u s2 ⟨x,H2,I2,rx,a,ov,ex,g,q2⟩=>?_
 subst ex
 obtain rfl:u=Value.ref a:=rx
 exact d_in hu I2 g ry fun s3 I3=>⟨.bl ov.isSome,H2,I3,rfl,q2⟩
theorem pc_dnotin (hu:X.A.units+1<cLine) (hi:PE X i ty) (ho:PE X o td):PC X .NotIn i o (tDNotIn ty td):=by
 intro pins s σ H Q I h
 refine thn (hi pins s σ H _ I h) fun iv s1 ⟨y,H1,I1,ry,q1⟩=>thn (ho pins s1 σ H1 _ I1 q1) fun u s2 ⟨x,H2,I2,rx,a,ov,ex,g,q2⟩=>?_
 subst ex
 obtain rfl:u=Value.ref a:=rx
 exact d_notIn hu I2 g ry fun s3 I3=>⟨.bl (!ov.isSome),H2,I3,rfl,q2⟩
theorem ps_dput (hu:X.A.units+1<cLine) (ho:PE X o td) (hi:PE X i ty) (hv:PE X value tv) (hs:swapsWith value (some (.Subscript o i pos')) pos.line X.env=pure false) :
  PS X (.Assign [.Subscript o i pos'] value pos) (sDPut td ty tv):=by
 intro pins s σ H D I h
 refine wpAny_Assign_Subscript (thn (hv pins s σ H _ I h) fun r s1 ⟨v,H1,I1,rv,q1⟩=>thn (ho pins s1 σ H1 _ I1 q1) fun u s2 ⟨x,H2,I2,rx,q2⟩=>thn (hi pins s2 σ H2 _ I2 q2) fun iv s3 ⟨y,H3,I3,ry,a,H4,ex,g,q3⟩=>?_) hs
 subst ex
 obtain rfl:u=Value.ref a:=rx
 exact d_setItem hu I3 g ry rv fun s4 I4=>⟨σ,H4,I4,q3⟩
end
theorem dk_empty {P:Program}{w:World}{H:Hp} (h:Heap) (hb:sysModules<h.objs.size):ObjOk P w H (h.push {cls:=.type "dict",data:=.dict #[]}) h.objs.size (.dK []) :=
 ⟨Nat.zero_le _,beq_eq_false_iff_ne.mpr (Ne.symm (Nat.ne_of_lt hb)),[],.nil,Heap.DictOf.new h⟩
def tDNewK:TE:=fun _ H Q=>∀ p,H p=none→Q (.ref p) (upd H p (.dK []))
section
variable {X:Cx}{pos:Pos}
theorem pe_dnewK:PE X (.Dict [] [] pos) tDNewK:=fun pins s σ H Q I h =>
 wpAny_Dict_empty ⟨.ref s.heap.objs.size,_,I.laid (a:=s.heap.objs.size) (o:=.dK []) (t':=s.toks) (fun _ _ q=>Heap.get?_push_of_some _ q) (Nat.le_refl _) (dk_empty s.heap I.big),rfl,h _ (I.hok.fresh (Nat.le_refl _))⟩
end
def mergeK (kvs more:List (Key×V)):List (Key×V):=more.foldl (fun acc kv=>putK acc kv.1 kv.2) kvs
theorem KV.merge:∀ {more:List (Key×V)}{rs:List (Key×Value)}{kvs:List (Key×V)}{vs:List (Key×Value)},KV more rs→KV kvs vs→KV (mergeK kvs more) (merged vs rs):=by
 intro more rs kvs vs r
 unfold KV at r
 induction r generalizing kvs vs with
 | nil=>intro q;exact q
 | @cons p q ps qs h t ih =>
  intro r0
  have e:KV (putK kvs p.1 p.2) (stored vs q.1 q.2):=by
   have:=r0.put p.1 h.2
   rw [← h.1];exact this
  exact ih e
structure M1 (X:Cx) (o:Expr) (m:Str) (apos:Pos) (e:Expr) (cpos:Pos):Prop where
 base:attributeBase o m X.env (eval o X.env)=eval o X.env
 few:((backTo cpos (starEach [e] X.env)).all (fun x=>!x.1)&&(backToKw cpos (keywordEach [] X.env)).all (fun x=>x.1.isSome)
  && decide (([e]:List Expr).length+([]:List Keyword).length+(if ([]:List Keyword).isEmpty then 0 else 1)<30))=true
 line:(apos.endLine==cpos.line)=true
 trees:backTo cpos (starEach [e] X.env)=[(false,eval e X.env)]
structure M2 (X:Cx) (o:Expr) (m:Str) (apos:Pos) (e f:Expr) (cpos:Pos):Prop where
 base:attributeBase o m X.env (eval o X.env)=eval o X.env
 few:((backTo cpos (starEach [e,f] X.env)).all (fun x=>!x.1)&&(backToKw cpos (keywordEach [] X.env)).all (fun x=>x.1.isSome)
  && decide (([e,f]:List Expr).length+([]:List Keyword).length+(if ([]:List Keyword).isEmpty then 0 else 1)<30))=true
 line:(apos.endLine==cpos.line)=true
 trees:backTo cpos (starEach [e,f] X.env)=[(false,eval e X.env),(false,eval f X.env)]
def IsD (H:Hp) (a:Addr):Prop:=(∃ kvs,Rd H a (.dK kvs))∨∃ kvs,Rd H a (.dT kvs)
theorem isD_at {X:Cx}{pins:List (Addr×Obj)}{σ:St}{H:Hp}{s:Shared}{a:Addr} (I:Inv X pins σ H s) (d:IsD H a) :
  s.TypeIs (.ref a) "dict"∧(∀ b,Value.ref a=.ref b→∃ ob,s.heap.get? b=some ob∧ob.dict=none)∧(a==sysModules)=false:=by
 rcases d with ⟨kvs,e⟩ | ⟨kvs,e⟩
 ·obtain ⟨_,hd,vs,_,dd⟩:=dk_rd I.hok e
  refine ⟨dd.typeIs,fun b q=>?_,hd⟩
  cases q
  obtain ⟨ob,_,_,h1,h2,_⟩:=dd
  exact ⟨ob,h1,h2.2.1⟩
 ·obtain ⟨_,hd,xs,_,dd⟩:=dt_rd I.hok e
  refine ⟨dd.typeIs,fun b q=>?_,hd⟩
  cases q
  obtain ⟨ob,_,_,h1,h2,_⟩:=dd
  exact ⟨ob,h1,h2.2.1⟩
section
variable {X:Cx}{pins:List (Addr×Obj)}{σ:St}{H:Hp}{s:Shared}{a:Addr}{y d:V}{u r:Value}{o:Option V}{A:Around}{E:Value→Shared→Prop}
theorem d_get2 {Q:Value→Shared→Prop} (hu:A.units+1<cLine) (I:Inv X pins σ H s) (g:DGet H a y o) (ry:RelV y u) (rd:RelV d r) (h:∀ w' s',Inv X pins σ H s'→RelV (o.getD d) w'→Q w' s') :
  wpAny (model X.prog X.w) A (call (.builtin "dict.get") [.ref a,u,r]) Q E s:=by
 rcases g with ⟨kvs,k,e,ey,l⟩ | ⟨kvs,k,b,e,ey,eb,l⟩
 ·subst ey
  obtain ⟨z,hd,vs,rel,dd⟩:=dk_rd I.hok e
  refine call_meetsIn PySem.F.slot_dict_get dd.typeIs PySem.F.entry_dict_get (PySem.F.args_dict_get_3 _ _ _) (meets_dict_get_default (mixKind X.prog X.w) a (kV_is ry) hd r) ⟨_,dd.mapOf,h _ _ (I.tok _) ?_⟩
  rw [l]
  exact (rel.val k).getD rd
 ·subst ey
  cases (show u=Value.ref b from ry)
  obtain ⟨z,hd,xs,rel,dd⟩:=dt_rd I.hok e
  refine call_meetsIn PySem.F.slot_dict_get dd.typeIs PySem.F.entry_dict_get (PySem.F.args_dict_get_3 _ _ _) (meetsH_dict_get_default (tupleKind (mixKind X.prog X.w)) a b hd r) ⟨tupleKind_room_in1 hu,k,xs,key_of I.hok eb,dd,h _ _ (I.tok _) ?_⟩
  rw [l]
  exact (rel.val k).getD rd
end
def tDGet2 (td ty tx:TE):TE:=fun σ H Q=>td σ H fun x H1=>∃ a,x=.ref a∧IsD H1 a∧ty σ H1 fun y H2=>tx σ H2 fun z H3=>∃ o,DGet H3 a y o∧Q (o.getD z) H3
def tDPop1 (td ty:TE):TE:=fun σ H Q=>td σ H fun x H1=>∃ a,x=.ref a∧IsD H1 a∧ty σ H1 fun y H2=>∃ kvs k v,H2 a=some (.dK kvs)∧y=kV k∧valV kvs k=some v∧Q v (upd H2 a (.dK (dropK kvs k)))
section
variable {X:Cx}{o e f:Expr}{apos cpos:Pos}{td ty tx:TE}
theorem pe_dget2 (hu:X.A.units+1<cLine) (ho:PE X o td) (he:PE X e ty) (hf:PE X f tx) (m:M2 X o "get" apos e f cpos):PE X (.Call (.Attribute o "get" apos) [e,f] [] cpos) (tDGet2 td ty tx):=by
 intro pins s σ H Q I h
 refine wpAny_Call_method m.base m.few m.line PySem.F.plainAttrs_dict PySem.F.slot_dict_get PySem.F.type_dict_get (thn (ho pins s σ H _ I h) fun u s1 ⟨x,H1,I1,rx,a,ex,d,q1⟩=>?_)
 subst ex
 obtain rfl:u=Value.ref a:=rx
 obtain ⟨t1,t2,_⟩:=isD_at I1 d
 refine ⟨t1,t2,?_⟩
 rw [m.trees]
 refine Calls.callWith_builtin rfl (Calls.evalArgs_plain (Calls.spliced_cons (thn (he pins s1 σ H1 _ I1 q1) fun iv s2 ⟨y,H2,I2,ry,q2⟩ =>
  Calls.spliced_cons (thn (hf pins s2 σ H2 _ I2 q2) fun fv s3 ⟨z,H3,I3,rz,ov,g,q3⟩=>Calls.spliced_nil ?_))))
 exact d_get2 hu I3 g ry rz fun w' s4 I4 rw'=>⟨_,H3,I4,rw',q3⟩
theorem pe_dpop1 (ho:PE X o td) (he:PE X e ty) (m:M1 X o "pop" apos e cpos):PE X (.Call (.Attribute o "pop" apos) [e] [] cpos) (tDPop1 td ty):=by
 intro pins s σ H Q I h
 refine wpAny_Call_method m.base m.few m.line PySem.F.plainAttrs_dict PySem.F.slot_dict_pop PySem.F.type_dict_pop (thn (ho pins s σ H _ I h) fun u s1 ⟨x,H1,I1,rx,a,ex,d,q1⟩=>?_)
 subst ex
 obtain rfl:u=Value.ref a:=rx
 obtain ⟨t1,t2,_⟩:=isD_at I1 d
 refine ⟨t1,t2,?_⟩
 rw [m.trees]
 refine Calls.callWith_builtin rfl (Calls.evalArgs_plain (Calls.spliced_cons (thn (he pins s1 σ H1 _ I1 q1) fun iv s2 ⟨y,H2,I2,ry,kvs,k,v,ea,ey,l,q2⟩=>Calls.spliced_nil ?_)))
 subst ey
 exact d_pop I2 ea ry l (.inl rfl) fun w' s3 I3 rw'=>⟨v,_,I3,rw',q2⟩
end
section
variable {X:Cx}{pins:List (Addr×Obj)}{σ:St}{H:Hp}{s:Shared}{a:Addr}{kvs:List (Key×V)}{A:Around}{E:Value→Shared→Prop}
end
section
variable {X:Cx}{pins:List (Addr×Obj)}{σ:St}{H:Hp}{s:Shared}{a:Addr}{y:V}{u:Value}{A:Around}{E:Value→Shared→Prop}
end
end L2
namespace L2
open PySem PySem.Spec PyProof.Rows
section
variable {prog:Program}{w:World}{A:Around}{E:Value→Shared→Prop}
end
section
variable {X:Cx}
end
end L2
namespace L2
open PySem PySem.Spec PyProof.Rows
section
variable {X:Cx}{pins:List (Addr×Obj)}{σ:St}{H:Hp}{s:Shared}{h':Heap}
theorem Inv.turnedNew {t':Nat}{ch:List Addr}{T:Addr}{ob:HO} (I:Inv X pins σ H s) (k:∀ b o,b∉ch→s.heap.get? b=some o→h'.get? b=some o) (hf:∀ b∈ch,FpOk X pins H b) (hT:s.heap.objs.size≤T)
  (new:ObjOk X.prog X.w (upd H T ob) h' T ob):Inv X pins σ (upd H T ob) {s with heap:=h',toks:=t'}:=by
 have hn:H T=none:=I.hok.fresh hT
 have nit:∀ b u,H b=some u→b∉ch:=fun b u e z=>by
  have q:=(hf b z).1
  rw [q] at e;cases e
 refine I.step (g':=s.gens) (d':=s.drawn) (ch:=ch) (fun b hb=>⟨(hf b hb).2.2.2.1,(hf b hb).2.1,(hf b hb).2.2.2.2.1,(hf b hb).2.2.2.2.2⟩) (fun b o _ _ hc e _=>k b o hc e) (fun b o _ _ hc e _=>⟨o.slots,k b o hc e⟩)
  (fun b o _ e n=>?_) (fun b o hc e=>⟨o,k b o hc e⟩) (fun b xs e=>?_) (fun b o u e=>?_) (fun b ps e=>⟨#[],?_⟩) (fun m hm=>?_) (fun b u e=>?_) I.bare
 ·rw [upd_ne (Nat.ne_of_lt (Nat.lt_of_lt_of_le (Heap.lt_size e) hT))];exact n
 ·rw [upd_ne (ne_of_none e hn)];exact e
 ·rw [upd_ne (ne_of_none e hn)];exact e
 ·rw [upd_ne (ne_of_none e hn),e];simp
 ·obtain ⟨o,es,ep,ho,r⟩:=hm
  exact ⟨o,es,ep,k _ o (fun z=>(hf _ z).2.1 rfl) ho,r⟩
 ·by_cases hb:b=T
  ·subst hb
   rw [upd_same] at e
   cases e
   exact new
  ·rw [upd_ne hb] at e
   refine (I.hok b u e).stay (fun c v hc q=>k c v ?_ q) (fun c q=>by rw [upd_ne (ne_of_none q hn)];exact q) fun c xs q=>by rw [upd_ne (ne_of_none q hn)];exact q
   rcases hc with z | z
   ·rw [z];exact nit b u e
   ·exact nit c _ z
theorem Inv.lock {d:Addr}{u:HO} (I:Inv X pins σ H s) (h:H d=some u) (mu:Mut (some u)):∃ od,Inv X pins σ (upd H d (.frz od u)) s:=by
 have x:=I.hok d u h
 have ex:∃ od,s.heap.get? d=some od:=by
  cases u with
  | lst xs=>obtain ⟨_,_,_,_,e⟩:=x;exact ⟨_,e⟩
  | dK kvs=>obtain ⟨_,_,_,_,o,_,_,e,_⟩:=x;exact ⟨o,e⟩
  | dT kvs=>obtain ⟨_,_,_,_,o,_,_,e,_⟩:=x;exact ⟨o,e⟩
  | set S n=>obtain ⟨o,_,_,_,e,_⟩:=x;exact ⟨o,e⟩
  | ins C dx fs=>obtain ⟨_,_,_,e,_⟩:=x;exact ⟨_,e⟩
  | ext φ=>obtain ⟨_,⟨_,e⟩,_⟩:=x;exact ⟨_,e⟩
  | _=>exact False.elim mu
 obtain ⟨od,e⟩:=ex
 have new:ObjOk X.prog X.w (upd H d (.frz od u)) s.heap d (.frz od u):=by
  refine ⟨e,x.stay (fun b v _ q=>q) (fun b q=>?_) fun b xs q=>?_⟩
  ·rw [upd_ne (fun z=>by rw [z,h] at q;cases q;exact mu)];exact q
  ·rw [upd_ne (fun z=>by rw [z,h] at q;cases q;exact mu)];exact q
 exact ⟨od,I.write (x:=d) (e:=d) (t':=s.toks) (h':=s.heap) (by rw [h];exact mu) (.inl rfl) (fun b v _ q=>q) ⟨od,e⟩ new⟩
theorem Inv.nofrz {d:Addr}{u:HO} (I:Inv X pins σ H s) (h:H d=some u) (mu:Mut (some u)):∀ o' u',X.H_0 d≠some (.frz o' u'):=fun o' u' e=>by
 have q:=I.base.frzs d o' u' e
 rw [h] at q
 cases q
 exact mu
theorem Inv.unlock {d:Addr}{od:Obj}{u:HO} (I:Inv X pins σ H s) (h:H d=some (.frz od u)) (hn:∀ o' u',X.H_0 d≠some (.frz o' u')):Inv X pins σ (upd H d u) s:=by
 have neH:∀ b o,H b=some o→(∀ o' u',o≠.frz o' u')→b≠d:=fun b o e hne z=>by
  rw [z,h] at e
  cases e
  exact hne _ _ rfl
 have neN:∀ b,H b=none→b≠d:=fun b e z=>by rw [z,h] at e;cases e
 refine ⟨I.ok,I.os,I.bare,⟨I.base.keep,I.base.slot,fun b o e n hx=>?_,I.base.there,fun b xs e=>?_,fun b o x e=>?_,fun b ps e=>?_⟩,I.loc,I.cell,?_,fun x c e=>?_,fun p hp=>?_,fun b o e=>?_,I.len⟩
 ·rw [upd_ne (neN b (I.base.free b o e n hx))];exact I.base.free b o e n hx
 ·have q:=I.base.tups b xs e
  rw [upd_ne (neH b _ q (fun _ _ z=>nomatch z))];exact q
 ·have q:=I.base.frzs b o x e
  rw [upd_ne (fun z=>by rw [z] at e;exact hn _ _ e)];exact q
 ·obtain ⟨m,q⟩:=I.base.tbls b ps e
  exact ⟨m,by rw [upd_ne (neH b _ q (fun _ _ z=>nomatch z))];exact q⟩
 ·rw [upd_ne (neN _ I.free)];exact I.free
 ·rw [upd_ne (neN c (I.freeC x c e))];exact I.freeC x c e
 ·obtain ⟨e,n,r⟩:=I.pin p hp
  exact ⟨e,by rw [upd_ne (neN _ n)];exact n,r⟩
 ·by_cases hb:b=d
  ·rw [hb,upd_same] at e
   cases e
   rw [hb]
   obtain ⟨_,x⟩:=I.hok d _ h
   exact x.stay (fun c v _ q=>q) (fun c q=>by rw [upd_ne (neH c _ q (fun _ _ z=>nomatch z))];exact q) fun c xs q=>by rw [upd_ne (neH c _ q (fun _ _ z=>nomatch z))];exact q
  ·rw [upd_ne hb] at e
   exact (I.hok b o e).stay (fun c v _ q=>q) (fun c q=>by rw [upd_ne (neH c _ q (fun _ _ z=>nomatch z))];exact q) fun c xs q=>by rw [upd_ne (neH c _ q (fun _ _ z=>nomatch z))];exact q
end
def tLock (t:TS):TS:=fun D σ H=>∃ d u,H d=some u∧Mut (some u)∧∀ od,t ⟨fun σ' H'=>H' d=some (.frz od u)∧D.nx σ' (upd H' d u),fun v H'=>H' d=some (.frz od u)∧D.rt v (upd H' d u),fun σ' H'=>H' d=some (.frz od u)∧D.bk σ' (upd H' d u),fun σ' H'=>H' d=some (.frz od u)∧D.ct σ' (upd H' d u)⟩ σ (upd H d (.frz od u))
def tLockE (t:TE):TE:=fun σ H Q=>∃ d u,H d=some u∧Mut (some u)∧∀ od,t σ (upd H d (.frz od u)) fun v H'=>H' d=some (.frz od u)∧Q v (upd H' d u)
section
variable {X:Cx}
theorem ps_lock {st:Stmt}{t:TS} (h:PS X st t):PS X st (tLock t):=by
 intro pins s σ H D I hw
 obtain ⟨d,u,hd,mu,hw⟩:=hw
 obtain ⟨od,I1⟩:=I.lock hd mu
 refine thn (h pins s σ _ _ I1 (hw od)) fun f s1 q=>?_
 cases f with
 | next=>obtain ⟨σ',H',I2,e,q⟩:=q;exact ⟨σ',_,I2.unlock e (I.nofrz hd mu),q⟩
 | brk=>obtain ⟨σ',H',I2,e,q⟩:=q;exact ⟨σ',_,I2.unlock e (I.nofrz hd mu),q⟩
 | cont=>obtain ⟨σ',H',I2,e,q⟩:=q;exact ⟨σ',_,I2.unlock e (I.nofrz hd mu),q⟩
 | ret v=>obtain ⟨x,σ',H',I2,r,e,q⟩:=q;exact ⟨x,σ',_,I2.unlock e (I.nofrz hd mu),r,q⟩
theorem pe_lock {e:Expr}{t:TE} (h:PE X e t):PE X e (tLockE t):=by
 intro pins s σ H Q I hw
 obtain ⟨d,u,hd,mu,hw⟩:=hw
 obtain ⟨od,I1⟩:=I.lock hd mu
 refine thn (h pins s σ _ _ I1 (hw od)) fun v s1 ⟨x,H1,I2,r,e2,q⟩=>?_
 exact ⟨x,_,I2.unlock e2 (I.nofrz hd mu),r,q⟩
theorem pi_one {tg:Expr}{pins:List (Addr×Obj)}{σ:St}{H:Hp}{s:Shared}{R:It→Hp→Prop}{J:It}{tn:Nat→Heap→Prop}{tk:Nat} (I:Inv X pins σ H s) (o:Obj)
  (T:Turn X.prog X.w X.K tg J [s.heap.objs.size] s.heap.objs.size tn) (st:tn 0 (s.heap.push o)) (q:R J H):PIE X pins σ tg R (.ref s.heap.objs.size) {s with heap:=s.heap.push o,toks:=tk}:=by
 refine ⟨s.heap.objs.size,[s.heap.objs.size],tn,J,H,rfl,I.kept fun b ob e=>Heap.get?_push_of_some _ e,T,st,fun b hb=>?_,q⟩
 have e:b=s.heap.objs.size:=by simpa using hb
 subst e
 exact I.fpOk (Nat.le_refl _) (I.hok.fresh (Nat.le_refl _))
end
section
variable {X:Cx}{tg:Expr}
end
section
variable {X:Cx}{tg:Expr}
end
section
variable {prog:Program}{w:World}{A:Around}{E:Value→Shared→Prop}{s:Shared}
theorem iter_keys {d:Addr}{o:Obj}{es:Array DictEntry}{ep:Nat}{Q:Value→Shared→Prop} (hd:(d==sysModules)=false) (ho:s.heap.get? d=some o) (hc:o.ExactDict) (hdat:o.data=.dict es ep)
  (hQ:Q (.ref s.heap.objs.size) {s with heap:=s.heap.push {cls:=.type "dict_keyiterator",data:=.fields #[.ref d,.int 0 0,.int es.size 0,.int ep 0]}}) :
  wpAny (model prog w) A (pyIter (.ref d)) Q E s:=by
 have hT:s.TypeIs (.ref d) "dict":=⟨o,ho,hc.1⟩
 refine wpAny_pyIter_slot hT F.slot_dict_iter (wpAny_call_entry F.slot_dict_iter hT F.entry_dict_iter ?_ (F.args_dict_iter_1 _))
 unfold Builtin.«dict.__iter__»
 refine wpAny_bind ?_
 unfold Builtin.Dict.dictSlotNone
 refine wpAny_bind (wpAny_notOrdered_dict hT ?_)
 show wpAny _ _ (pure (Value.ref d)) _ _ s
 refine wpAny_pure ?_
 show wpAny _ _ (Builtin.Dict.showsAll d >>= _) _ _ s
 unfold Builtin.Dict.showsAll
 rw [if_neg (by rw [hd];exact Bool.false_ne_true)]
 refine wpAny_bind (wpAny_pure ?_)
 refine wpAny_bind (wpAny_dictEntries ho hdat ?_)
 refine wpAny_bind (wpAny_dictEpoch ho hdat ?_)
 refine wpAny_bind (wpAny_newObj_type (wpAny_pure ⟨_,rfl,"dict_keyiterator",_,⟨_,Heap.get?_push_size _ rfl,rfl⟩,F.slot_dict_keyiterator_next.lookup,?_⟩))
 simpa [rawInt] using hQ
theorem next_key_item {it d:Addr}{i n ep:Nat}{od:Obj}{es:Array DictEntry}{en:DictEntry}{Q:Option Value→Shared→Prop} (hit:s.heap.IsKeyIter it d i n ep) (hod:s.heap.get? d=some od) (hdd:od.data=.dict es ep)
  (hsz:es.size=n) (hx:es[i]?=some en) (hQ:∀ h',h'.IsKeyIter it d (i+1) n ep→Heap.SameBut it s.heap h'→Q (some en.key) {s with heap:=h'}):wpAny (model prog w) A (pyNext (.ref it)) Q E s:=by
 obtain ⟨o,ho,hc,hd⟩:=id hit
 unfold pyNext
 refine wpAny_bind (wpAny_attempt (wpAny_callSpecial?_slot (name:=Str.ofString "__next__") hit.typeIs F.slot_dict_keyiterator_next
  (wpAny_call_entry F.slot_dict_keyiterator_next hit.typeIs F.entry_dict_keyiterator_next ?_ (F.args_dict_keyiterator_next_1 _))))
 refine wpAny_bind (wpAny_pure ?_)
 refine wpAny_bind ?_
 refine wpAny_bind ?_
 first | refine wpAny_bind (wpAny_typeNameOfWhole_keyiter hit.typeIs (wpAny_pure ?_)) | refine wpAny_bind (wpAny_typeNameOf_keyiter hit.typeIs (wpAny_pure ?_))
 refine wpAny_bind (wpAny_fieldsOf ho hd ?_)
 have hown:Builtin.Dict_items.ownsTuple "dict_keyiterator"=false:=by decide
 simp only [hown,Bool.false_eq_true,if_false]
 show wpAny _ _ (if (Value.ref d==Value.none)=true then _ else _) _ _ s
 rw [if_neg (show ¬ ((Value.ref d==Value.none)=true) from Bool.false_ne_true)]
 refine wpAny_bind (wpAny_pure ?_)
 refine wpAny_bind (wpAny_dictEntries hod hdd ?_)
 rw [if_neg (by rw [hsz];simp)]
 refine wpAny_bind (wpAny_pure ?_)
 refine wpAny_bind (wpAny_dictEpoch hod hdd ?_)
 rw [if_neg (by simp)]
 refine wpAny_pure ?_
 obtain ⟨hlt',hen⟩:=Array.getElem?_eq_some_iff.mp hx
 simp only [show ¬ ((i:Int)<0) from by omega,if_false,Int.toNat_natCast,Array.getElem?_eq_getElem hlt']
 refine wpAny_bind ?_
 first | refine wpAny_bind (wpAny_typeNameOfWhole_keyiter hit.typeIs (wpAny_pure ?_)) | refine wpAny_bind (wpAny_typeNameOf_keyiter hit.typeIs (wpAny_pure ?_))
 refine wpAny_bind (wpAny_isOneOf_keyiter hit.typeIs ?_)
 show wpAny _ _ (setField (.ref it) 1 (rawInt ((i:Int)+1)) >>= _) _ _ s
 refine wpAny_bind (wpAny_setField ho hd (by simp) ?_)
 have hit':(s.heap.update it (Obj.mapFields (·.setIfInBounds 1 (rawInt ((i:Int)+1))))).IsKeyIter it d (i+1) n ep :=
  ⟨_,Heap.get?_update_self _ ho (Obj.isFreed_of_fields (Obj.data_mapFields hd _)),(Obj.cls_mapFields ..).trans hc,by rw [Obj.data_mapFields hd];simp [rawInt]⟩
 refine wpAny_bind (wpAny_holding ?_)
 refine wpAny_bind (wpAny_isOneOf_keyiter (s:={s with heap:=s.heap.update it (Obj.mapFields (·.setIfInBounds 1 (rawInt ((i:Int)+1))))}) hit'.typeIs ?_)
 show wpAny _ _ (pure es[i].key) _ _ _
 rw [hen]
 exact wpAny_pure (wpAny_pure ⟨_,rfl,wpAny_pure (hQ _ hit' (Heap.SameBut.update ..))⟩)
theorem next_key_end {it d:Addr}{i n ep:Nat}{od:Obj}{es:Array DictEntry}{Q:Option Value→Shared→Prop} (hh:A.handled=none) (hit:s.heap.IsKeyIter it d i n ep) (hod:s.heap.get? d=some od) (hdd:od.data=.dict es ep)
  (hsz:es.size=n) (hge:n≤i) (hQ:∀ h',Heap.ExtBut it s.heap h'→Q none {s with heap:=h'}):wpAny (model prog w) A (pyNext (.ref it)) Q E s:=by
 obtain ⟨o,ho,hc,hd⟩:=id hit
 unfold pyNext
 refine wpAny_bind (wpAny_attempt (wpAny_callSpecial?_slot (name:=Str.ofString "__next__") hit.typeIs F.slot_dict_keyiterator_next
  (wpAny_call_entry F.slot_dict_keyiterator_next hit.typeIs F.entry_dict_keyiterator_next ?_ (F.args_dict_keyiterator_next_1 _))))
 refine wpAny_bind (wpAny_pure ?_)
 refine wpAny_bind ?_
 refine wpAny_bind ?_
 first | refine wpAny_bind (wpAny_typeNameOfWhole_keyiter hit.typeIs (wpAny_pure ?_)) | refine wpAny_bind (wpAny_typeNameOf_keyiter hit.typeIs (wpAny_pure ?_))
 refine wpAny_bind (wpAny_fieldsOf ho hd ?_)
 have hown:Builtin.Dict_items.ownsTuple "dict_keyiterator"=false:=by decide
 simp only [hown,Bool.false_eq_true,if_false]
 show wpAny _ _ (if (Value.ref d==Value.none)=true then _ else _) _ _ s
 rw [if_neg (show ¬ ((Value.ref d==Value.none)=true) from Bool.false_ne_true)]
 refine wpAny_bind (wpAny_pure ?_)
 refine wpAny_bind (wpAny_dictEntries hod hdd ?_)
 rw [if_neg (by rw [hsz];simp)]
 refine wpAny_bind (wpAny_pure ?_)
 refine wpAny_bind (wpAny_dictEpoch hod hdd ?_)
 rw [if_neg (by simp)]
 refine wpAny_pure ?_
 have hge':es.size≤i:=by rw [hsz];exact hge
 simp only [show ¬ ((i:Int)<0) from by omega,if_false,Int.toNat_natCast,Array.getElem?_eq_none hge']
 refine wpAny_bind ?_
 first | refine wpAny_bind (wpAny_typeNameOfWhole_keyiter hit.typeIs (wpAny_pure ?_)) | refine wpAny_bind (wpAny_typeNameOf_keyiter hit.typeIs (wpAny_pure ?_))
 show wpAny _ _ (setField (.ref it) 0 .none >>= _) _ _ s
 refine wpAny_bind (wpAny_setField ho hd (by simp) ?_)
 show wpAny _ _ (newExc (.type "StopIteration") [] >>= _) _ _ _
 refine wpAny_bind ?_
 simp only [newExc,newTuple]
 refine wpAny_bind (wpAny_newObj_type ?_ (by size_fits))
 refine wpAny_bind (m:=firstArgMember _ _) (wpAny_of_eq (a:=Value.none) (by first | rfl | (simp only [firstArgMember];rfl)) ?_)
 refine wpAny_newObj_type ?_ (by size_fits)
 simp only [raiseNew]
 refine wpAny_bind (wpAny_handled ?_)
 rw [show A.in1.handled=none from hh]
 refine wpAny_bind (wpAny_pure (wpAny_throw ?_))
 refine wpAny_bind (wpAny_isInstance (T:="StopIteration") (b:=true) ⟨_,Heap.get?_push_size _ rfl,rfl⟩ isSubtype_stop ?_)
 exact wpAny_pure (hQ _ (((Heap.SameBut.update ..).extBut.push _).push _))
end
theorem kv_get {κ:Type}{kvs:List (κ×V)}{vs:List (κ×Value)} (h:KV kvs vs):∀ {i:Nat}{k:κ}{v:V},kvs[i]?=some (k,v)→∃ u,vs[i]?=some (k,u)∧RelV v u:=by
 unfold KV at h
 induction h with
 | nil=>intro i k v e;simp at e
 | @cons a b l₁ l₂ r t ih =>
  intro i k v e
  cases i with
  | zero =>
   simp only [List.getElem?_cons_zero,Option.some.injEq] at e
   subst e
   refine ⟨b.2,?_,r.2⟩
   simp only [List.getElem?_cons_zero]
   exact congrArg some (Prod.ext r.1.symm rfl)
  | succ j =>
   simp only [List.getElem?_cons_succ] at e ⊢
   exact ih e
theorem paired_get {α β:Type}{G:α→β→Prop}{l₁:List α}{l₂:List β} (h:Paired G l₁ l₂):∀ {i:Nat}{a:α},l₁[i]?=some a→∃ b,l₂[i]?=some b∧G a b:=by
 induction h with
 | nil=>intro i a e;simp at e
 | @cons a b l₁ l₂ r t ih =>
  intro i a' e
  cases i with
  | zero =>
   simp only [List.getElem?_cons_zero,Option.some.injEq] at e
   subst e
   exact ⟨b,rfl,r⟩
  | succ j =>
   simp only [List.getElem?_cons_succ] at e ⊢
   exact ih e
theorem relV_key {k:Key}{u:Value} (h:keyIs k u=true):RelV (kV k) u:=by
 rcases keyIs_shape h with ⟨i,t,rfl,rfl⟩ | ⟨x,t,rfl,rfl⟩
 ·exact ⟨t,rfl⟩
 ·exact ⟨t,rfl⟩
section
variable {X:Cx}{pins:List (Addr×Obj)}{σ:St}{H:Hp}{s:Shared}{d:Addr}{o:Obj}
theorem Inv.frzK {kvs:List (Key×V)} (I:Inv X pins σ H s) (h:H d=some (.frz o (.dK kvs))) :
  (d==sysModules)=false∧s.heap.get? d=some o∧o.ExactDict∧∃ (es:Array DictEntry) (ep:Nat) (vs:List (Key×Value)),o.data=.dict es ep∧es.size=kvs.length∧KV kvs vs∧s.heap.DictAt (mixKind X.prog X.w) d vs ep:=by
 obtain ⟨hd,z,hs,vs,kv,o',es,ep,ho,hx,hdt,r⟩:=I.hok d _ h
 rw [hd] at ho
 cases ho
 refine ⟨hs,hd,hx,es,ep,vs,hdt,?_,kv,o,es,hd,hx,hdt,r⟩
 have l1:=r.2.1.length
 have l2:kvs.length=vs.length:=Paired.length kv
 rw [Array.length_toList] at l1
 omega
theorem Inv.frzT {kvs:List (List Key×V)} (I:Inv X pins σ H s) (h:H d=some (.frz o (.dT kvs))) :
  (d==sysModules)=false∧s.heap.get? d=some o∧o.ExactDict∧∃ (es:Array DictEntry) (ep:Nat),o.data=.dict es ep∧es.size=kvs.length ∧
   ∀ (i:Nat) (k:List Key) (v:V),kvs[i]?=some (k,v)→∃ (en:DictEntry) (q:Addr),es[i]?=some en∧en.key=.ref q∧H q=some (.tup (k.map kV)):=by
 obtain ⟨hd,z,hs,xs,pr,o',es,ep,ho,hx,hdt,he,_⟩:=I.hok d _ h
 rw [hd] at ho
 cases ho
 refine ⟨hs,hd,hx,es,ep,hdt,?_,fun i k v e=>?_⟩
 ·have l1:es.size=xs.length:=size_of_entries he
  have l2:kvs.length=xs.length:=Paired.length pr
  omega
 ·obtain ⟨b,hb,e1,e2,_⟩:=paired_get pr e
  have q:=entry_at he i
  rw [hb] at q
  exact ⟨_,b.2.1,q,rfl,e2⟩
end
def Itk (d:Addr) (o:Obj) (kvs:List (Key×V)):It :=
 ⟨fun i H=>H d=some (.frz o (.dK kvs))∧i<kvs.length,fun i H x H'=>H'=H∧∃ k v,kvs[i]?=some (k,v)∧x=kV k,fun i H=>H d=some (.frz o (.dK kvs))∧kvs.length≤i⟩
def Itkt (d:Addr) (o:Obj) (kvs:List (List Key×V)):It :=
 ⟨fun i H=>H d=some (.frz o (.dT kvs))∧i<kvs.length,fun i H x H'=>H'=H∧∃ (k:List Key) (v:V) (q:Addr),kvs[i]?=some (k,v)∧x=.ref q∧H q=some (.tup (k.map kV)),fun i H=>H d=some (.frz o (.dT kvs))∧kvs.length≤i⟩
def Itd (d:Addr) (o:Obj) (kvs:List (Key×V)):It :=
 ⟨fun i H=>H d=some (.frz o (.dK kvs))∧i<kvs.length,fun i H x H'=>H'=H∧∃ k,kvs[i]?=some (k,x),fun i H=>H d=some (.frz o (.dK kvs))∧kvs.length≤i⟩
theorem dict_ep {o:Obj}{es es':Array DictEntry}{ep ep':Nat} (h:o.data=.dict es ep) (h':o.data=.dict es' ep'):es'=es∧ep'=ep:=by
 rw [h] at h'
 cases h'
 exact ⟨rfl,rfl⟩
section
variable {P:Program}{w:World}{K:PySem.W.Frag}{tg:Expr}{d:Addr}{o:Obj}{es:Array DictEntry}{ep:Nat}
theorem turn_keys {kvs:List (Key×V)} (it:Addr) (hod:o.data=.dict es ep):Turn P w K tg (Itk d o kvs) [it] it (fun i h=>h.IsKeyIter it d i kvs.length ep) where
 mem:=by simp
 obj:=fun i h st b hb=>by
  have e:b=it:=by simpa using hb
  subst e
  obtain ⟨oi,e,c,dd⟩:=st
  exact ⟨oi,e,fun v z=>by rw [dd] at z;cases z⟩
 keep:=fun i h h' st k=>st.at fun oi e=>k it (by simp) oi e
 item:=by
  intro X hP hw hK hc i pins s σ H E I hf st hg
  subst hP hw hK
  obtain ⟨hd,hi⟩:=hg
  obtain ⟨f0,f1,f2,f3,f4,f5⟩:=hf it (by simp)
  obtain ⟨hs,hgd,hx,es',ep',vs,hdt,hsz,kv,hm⟩:=I.frzK hd
  obtain ⟨rfl,rfl⟩:=dict_ep hod hdt
  obtain ⟨⟨k,v⟩,hkv⟩:∃ p,kvs[i]?=some p:=⟨kvs[i],List.getElem?_eq_getElem hi⟩
  obtain ⟨u,hu,ru⟩:=kv_get kv hkv
  have hl:kvs.length=vs.length:=Paired.length kv
  rw [hl] at st
  refine wpAny_pyNext_dict_item st hm hu fun key h' hkey st' sb=>?_
  have I1:Inv X pins σ H {s with heap:=h'}:=I.turned (t':=s.toks) (fun b ob hb e=>(sb.2 b hb).trans e) f0 f1 f3 f4 f5
  obtain ⟨oi,e,c,dd⟩:=id st'
  refine ⟨key,rfl,go_of (s:={s with heap:=h'}) e c dd (by decide) ⟨kV k,H,I1,relV_key (show keyIs k key=true from hkey),⟨rfl,k,v,hkv,rfl⟩,?_,fun b hb=>(hf b hb).1⟩⟩
  show h'.IsKeyIter it d (i+1) kvs.length _
  rw [hl]
  exact st'
 done:=by
  intro X hP hw hK hc i pins s σ H E I hf st hg
  subst hP hw hK
  obtain ⟨hd,hi⟩:=hg
  obtain ⟨f0,f1,f2,f3,f4,f5⟩:=hf it (by simp)
  obtain ⟨hs,hgd,hx,es',ep',vs,hdt,hsz,kv,hm⟩:=I.frzK hd
  obtain ⟨rfl,rfl⟩:=dict_ep hod hdt
  exact next_key_end (I.ok.hd hc) st hgd hdt hsz hi fun h' eb=>⟨rfl,I.turned (t':=s.toks) (fun b ob hb e=>eb b ob hb e) f0 f1 f3 f4 f5⟩
 self:=fun A i s Q E st h=>wpAny_pyIter_keyiter st h
theorem turn_keysT {kvs:List (List Key×V)} (it:Addr) (hod:o.data=.dict es ep):Turn P w K tg (Itkt d o kvs) [it] it (fun i h=>h.IsKeyIter it d i kvs.length ep) where
 mem:=by simp
 obj:=fun i h st b hb=>by
  have e:b=it:=by simpa using hb
  subst e
  obtain ⟨oi,e,c,dd⟩:=st
  exact ⟨oi,e,fun v z=>by rw [dd] at z;cases z⟩
 keep:=fun i h h' st k=>st.at fun oi e=>k it (by simp) oi e
 item:=by
  intro X hP hw hK hc i pins s σ H E I hf st hg
  subst hP hw hK
  obtain ⟨hd,hi⟩:=hg
  obtain ⟨f0,f1,f2,f3,f4,f5⟩:=hf it (by simp)
  obtain ⟨hs,hgd,hx,es',ep',hdt,hsz,ent⟩:=I.frzT hd
  obtain ⟨rfl,rfl⟩:=dict_ep hod hdt
  obtain ⟨⟨k,v⟩,hkv⟩:∃ p,kvs[i]?=some p:=⟨kvs[i],List.getElem?_eq_getElem hi⟩
  obtain ⟨en,q,hen,hkey,hq⟩:=ent i k v hkv
  refine next_key_item st hgd hdt hsz hen fun h' st' sb=>?_
  have I1:Inv X pins σ H {s with heap:=h'}:=I.turned (t':=s.toks) (fun b ob hb e=>(sb.2 b hb).trans e) f0 f1 f3 f4 f5
  obtain ⟨oi,e,c,dd⟩:=id st'
  exact ⟨en.key,rfl,go_of (s:={s with heap:=h'}) e c dd (by decide) ⟨.ref q,H,I1,hkey,⟨rfl,k,v,q,hkv,rfl,hq⟩,st',fun b hb=>(hf b hb).1⟩⟩
 done:=by
  intro X hP hw hK hc i pins s σ H E I hf st hg
  subst hP hw hK
  obtain ⟨hd,hi⟩:=hg
  obtain ⟨f0,f1,f2,f3,f4,f5⟩:=hf it (by simp)
  obtain ⟨hs,hgd,hx,es',ep',hdt,hsz,ent⟩:=I.frzT hd
  obtain ⟨rfl,rfl⟩:=dict_ep hod hdt
  exact next_key_end (I.ok.hd hc) st hgd hdt hsz hi fun h' eb=>⟨rfl,I.turned (t':=s.toks) (fun b ob hb e=>eb b ob hb e) f0 f1 f3 f4 f5⟩
 self:=fun A i s Q E st h=>by
  refine wpAny_pyIter_slot st.typeIs F.slot_dict_keyiterator_iter (wpAny_call_entry F.slot_dict_keyiterator_iter st.typeIs F.entry_dict_keyiterator_iter ?_ (F.args_dict_keyiterator_iter_1 _))
  show wpAny _ _ (ret (.ref it)) _ _ s
  exact wpAny_pure ⟨_,rfl,"dict_keyiterator",_,st.typeIs,F.slot_dict_keyiterator_next.lookup,h⟩
theorem turn_vals {kvs:List (Key×V)} (it:Addr) (hod:o.data=.dict es ep):Turn P w K tg (Itd d o kvs) [it] it (fun i h=>h.IsValIter it d i kvs.length ep) where
 mem:=by simp
 obj:=fun i h st b hb=>by
  have e:b=it:=by simpa using hb
  subst e
  obtain ⟨oi,e,c,dd⟩:=st
  exact ⟨oi,e,fun v z=>by rw [dd] at z;cases z⟩
 keep:=fun i h h' st k=>st.at fun oi e=>k it (by simp) oi e
 item:=by
  intro X hP hw hK hc i pins s σ H E I hf st hg
  subst hP hw hK
  obtain ⟨hd,hi⟩:=hg
  obtain ⟨f0,f1,f2,f3,f4,f5⟩:=hf it (by simp)
  obtain ⟨hs,hgd,hx,es',ep',vs,hdt,hsz,kv,hm⟩:=I.frzK hd
  obtain ⟨rfl,rfl⟩:=dict_ep hod hdt
  obtain ⟨⟨k,v⟩,hkv⟩:∃ p,kvs[i]?=some p:=⟨kvs[i],List.getElem?_eq_getElem hi⟩
  obtain ⟨u,hu,ru⟩:=kv_get kv hkv
  have hl:kvs.length=vs.length:=Paired.length kv
  rw [hl] at st
  refine wpAny_pyNext_values_item st hm hu fun h' st' sb=>?_
  have I1:Inv X pins σ H {s with heap:=h'}:=I.turned (t':=s.toks) (fun b ob hb e=>(sb.2 b hb).trans e) f0 f1 f3 f4 f5
  obtain ⟨oi,e,c,dd⟩:=id st'
  refine ⟨u,rfl,go_of (s:={s with heap:=h'}) e c dd (by decide) ⟨v,H,I1,ru,⟨rfl,k,hkv⟩,?_,fun b hb=>(hf b hb).1⟩⟩
  show h'.IsValIter it d (i+1) kvs.length _
  rw [hl]
  exact st'
 done:=by
  intro X hP hw hK hc i pins s σ H E I hf st hg
  subst hP hw hK
  obtain ⟨hd,hi⟩:=hg
  obtain ⟨f0,f1,f2,f3,f4,f5⟩:=hf it (by simp)
  obtain ⟨hs,hgd,hx,es',ep',vs,hdt,hsz,kv,hm⟩:=I.frzK hd
  obtain ⟨rfl,rfl⟩:=dict_ep hod hdt
  have hl:kvs.length=vs.length:=Paired.length kv
  rw [hl] at st
  exact wpAny_pyNext_values_end (I.ok.hd hc) st hm (List.getElem?_eq_none (by omega)) fun h' eb=>⟨rfl,I.turned (t':=s.toks) (fun b ob hb e=>eb b ob hb e) f0 f1 f3 f4 f5⟩
 self:=fun A i s Q E st h=>wpAny_pyIter_valiter st h
end
def iKeys (td:TE):TI:=fun σ H R=>td σ H fun x H1=>∃ d o,x=.ref d∧((∃ kvs,H1 d=some (.frz o (.dK kvs))∧R (Itk d o kvs) H1)∨∃ kvs,H1 d=some (.frz o (.dT kvs))∧R (Itkt d o kvs) H1)
def iVals (td:TE):TI:=fun σ H R=>td σ H fun x H1=>∃ d o kvs,x=.ref d∧H1 d=some (.frz o (.dK kvs))∧R (Itd d o kvs) H1
section
variable {X:Cx}{tg e:Expr}{td:TE}{apos cpos:Pos}
theorem pi_keys (he:PE X e td):PI X tg e (iKeys td):=by
 intro pins s σ H R I h
 refine thn (he pins s σ H _ I h) fun u s1 ⟨x,H1,I1,rx,d,o,ex,q⟩=>?_
 subst ex
 obtain rfl:u=Value.ref d:=rx
 rcases q with ⟨kvs,hd,q⟩ | ⟨kvs,hd,q⟩
 ·obtain ⟨hs,hgd,hx,es,ep,vs,hdt,hsz,kv,hm⟩:=I1.frzK hd
  refine iter_keys hs hgd hx hdt (pi_one (tk:=s1.toks) I1 _ (turn_keys _ hdt) ⟨_,Heap.get?_push_size _ rfl,rfl,?_⟩ q)
  rw [hsz] <;> rfl
 ·obtain ⟨hs,hgd,hx,es,ep,hdt,hsz,ent⟩:=I1.frzT hd
  refine iter_keys hs hgd hx hdt (pi_one (tk:=s1.toks) I1 _ (turn_keysT _ hdt) ⟨_,Heap.get?_push_size _ rfl,rfl,?_⟩ q)
  rw [hsz] <;> rfl
theorem pi_values (he:PE X e td) (hbase:attributeBase e "values" X.env (eval e X.env)=eval e X.env:=by rfl) (hline:(apos.endLine==cpos.line)=true:=by rfl):PI X tg (.Call (.Attribute e "values" apos) [] [] cpos) (iVals td):=by
 intro pins s σ H R I h
 refine wpAny_Call_method (T:="dict") (id:="dict.values") hbase rfl hline F.plainAttrs_dict F.slot_dict_values F.type_dict_values (thn (he pins s σ H _ I h) fun u s1 ⟨x,H1,I1,rx,d,o,kvs,ex,hd,q⟩=>?_)
 subst ex
 obtain rfl:u=Value.ref d:=rx
 obtain ⟨hs,hgd,hx,es,ep,vs,hdt,hsz,kv,hm⟩:=I1.frzK hd
 have hl:kvs.length=vs.length:=Paired.length kv
 refine ⟨hm.dictOf.typeIs,hm.dictOf.mapOf.noDict,?_⟩
 have I2:Inv X pins σ H1 {s1 with heap:=s1.heap.push {cls:=.type "dict_values",data:=.fields #[.ref d]}}:=I1.kept (t':=s1.toks) fun b ob q=>Heap.get?_push_of_some _ q
 have fin:wpAny (model X.prog X.w) X.A (pyIter (.ref s1.heap.objs.size)) (PIE X pins σ tg R) X.xe {s1 with heap:=s1.heap.push {cls:=.type "dict_values",data:=.fields #[.ref d]}}:=by
  refine wpAny_pyIter_values (d:=d) (knd:=mixKind X.prog X.w) ⟨_,Heap.get?_push_size _ rfl,rfl,rfl⟩ (hm.push _) (pi_one (tk:=s1.toks) I2 _ (turn_vals _ hdt) ⟨_,Heap.get?_push_size _ rfl,rfl,?_⟩ q)
  rw [hl] <;> rfl
 show wpAny _ _ (callWith cpos (.builtin "dict.values") [.ref d] [] []) _ X.xe s1
 exact method_meetsIn F.slot_dict_values F.entry_dict_values rfl (PySem.evalArgs_none ⟨rfl,hm.dictOf.typeIs,F.args_dict_values_1 _,_,meets_dict_values (mixKind X.prog X.w) d hs,⟨vs,hm.dictOf⟩,fin⟩)
end
def Ite (K:PySem.W.Frag) (a:Addr):It :=
 ⟨fun i H=>∃ (xs:List V) (x:V),SqL K H a xs∧xs[i]?=some x,fun i H v H'=>∃ T x,v=.ref T∧H T=none∧H'=upd H T (.tup [.int (i:Nat),x])∧∀ xs,SqL K H a xs→xs[i]?=some x,fun i H=>∃ xs:List V,SqL K H a xs∧xs.length≤i⟩
theorem turn_enum {P:Program}{w:World}{K:PySem.W.Frag}{elts:List Expr}{kk:Nat}{tpos:Pos} (a e it:Addr) :
  Turn P w K (.Tuple elts kk tpos) (Ite K a) [e,it] e (fun i h=>(∃ old,IsEnum h e it ((i:Nat):Int) old)∧h.IsListIter it a i∧e≠it) where
 mem:=by simp
 obj:=fun i h st b hb=>by
  obtain ⟨⟨old,he⟩,⟨o,ho,hc,hd⟩,_⟩:=st
  have e':b=e∨b=it:=by simpa using hb
  rcases e' with z | z
  ·rw [z];exact ⟨_,he,fun v q=>nomatch q⟩
  ·rw [z];exact ⟨o,ho,fun v q=>by rw [hd] at q;cases q⟩
 keep:=fun i h h' st k=>let ⟨⟨old,he⟩,hi,hne⟩:=st;⟨⟨old,k e (by simp) _ he⟩,hi.at fun o q=>k it (by simp) o q,hne⟩
 item:=by
  intro X hP hw hK hc i pins s σ H E I hf st hg
  subst hP hw hK
  obtain ⟨⟨old,he⟩,hit,hne⟩:=st
  obtain ⟨xs,x,hq,hx⟩:=hg
  obtain ⟨its,rv,p,hz⟩:=I.list hq
  obtain ⟨u,hu,ru⟩:=rv.get hx
  have hel:e<s.heap.objs.size:=Heap.lt_size he
  have hil:it<s.heap.objs.size:=by obtain ⟨_,q,_⟩:=hit;exact Heap.lt_size q
  refine wpAny_pyNext_enum_item he hit p.isList (x:=u) (by simpa using hu) hne fun h' ho hit' hT hsz hk=>?_
  refine ⟨_,rfl,wpAny_letOwnedTupleGo_enum (s:={s with heap:=h',toks:=s.toks+1}) ho fun h'' he' sb=>?_⟩
  have hT2:h''.get? s.heap.objs.size=some {cls:=.type "tuple",data:=.seq #[.int i s.toks,u]}:=(sb.2 _ (Nat.ne_of_gt hel)).trans hT
  have new:ObjOk X.prog X.w (upd H s.heap.objs.size (.tup [.int (i:Nat),x])) h'' s.heap.objs.size (.tup [.int (i:Nat),x]) :=
   ⟨by show 2≤sizeLine;decide,[.int i s.toks,u],.cons ⟨_,rfl⟩ (.cons ru .nil),⟨_,hT2,rfl,_,rfl⟩⟩
  have I1:Inv X pins σ (upd H s.heap.objs.size (.tup [.int (i:Nat),x])) {s with heap:=h'',toks:=s.toks+1} :=
   I.turnedNew (ch:=[e,it]) (fun b ob hb q=>(sb.2 b (fun z=>hb (by simp [z]))).trans (hk b ob (fun z=>hb (by simp [z])) (fun z=>hb (by simp [z])) q)) hf (Nat.le_refl _) new
  refine ⟨.ref s.heap.objs.size,_,I1,rfl,⟨_,x,rfl,I.hok.fresh (Nat.le_refl _),rfl,fun ys hy=>by rw [I.list_inj hy hq];exact hx⟩,⟨⟨u,?_⟩,hit'.at fun o q=>(sb.2 it (Ne.symm hne)).trans q,hne⟩,fun b hb=>?_⟩
  ·have e1:((i+1:Nat):Int)=(i:Int)+1:=by omega
   rw [e1];exact he'
  ·have hb':b<s.heap.objs.size:=by
    have e':b=e∨b=it:=by simpa using hb
    rcases e' with z | z
    ·rw [z];exact hel
    ·rw [z];exact hil
   rw [upd_ne (Nat.ne_of_lt hb')]
   exact (hf b hb).1
 done:=by
  intro X hP hw hK hc i pins s σ H E I hf st hg
  subst hP hw hK
  obtain ⟨⟨old,he⟩,hit,hne⟩:=st
  obtain ⟨xs,hq,hx⟩:=hg
  obtain ⟨its,rv,p,hz⟩:=I.list hq
  obtain ⟨f0,f1,f2,f3,f4,f5⟩:=hf it (by simp)
  have hl:=rv.length
  exact wpAny_pyNext_enum_end (I.ok.hd hc) he hit p.isList (by simp;omega) fun h' eb=>⟨rfl,I.turned (t':=s.toks) (fun b o hb q=>eb b o hb q) f0 f1 f3 f4 f5⟩
 self:=fun A i s Q E st h=>let ⟨⟨_,he⟩,_⟩:=st;wpAny_pyIter_enum he h
def iEnum (K:PySem.W.Frag) (ta:TA):TI:=fun σ H R=>ta σ H fun vs H1=>∃ a xs,vs=[.ref a]∧SqL K H1 a xs∧R (Ite K a) H1
theorem pi_enum {X:Cx}{e:Expr}{ta:TA}{p pos tpos:Pos}{elts:List Expr}{kk:Nat} (hg:Gl X "enumerate") (hm:X.mg "enumerate"=none) (ha:PA X [e] ta) (hs:starEach [e] X.env=[(false,eval e X.env)]:=by rfl) :
  PI X (.Tuple elts kk tpos) (.Call (.Name "enumerate" p) [e] [] pos) (iEnum X.K ta):=by
 intro pins s σ H R I h
 refine Call_ (ld_blt I hg hm boot_enumerate (PyProof.Rows.callWith_type1 (thn (ha pos pins s σ H _ I h) fun us s1 ⟨vs,H1,I1,r1,q1⟩=>?_) hs rfl))
 obtain ⟨a,xs,ex,hq,q⟩:=q1
 subst ex
 cases r1 with
 | cons r rr =>
  cases rr
  cases r
  obtain ⟨its,rv,p',hz⟩:=I1.list hq
  refine call_enumerate_list p'.isList fun h' he hit hsz hk=>wpAny_pyIter_enum he ?_
  have I2:Inv X pins σ H1 {s1 with heap:=h'}:=I1.kept (t':=s1.toks) hk
  refine ⟨s1.heap.objs.size+1,[s1.heap.objs.size+1,s1.heap.objs.size],_,_,H1,rfl,I2,turn_enum a (s1.heap.objs.size+1) s1.heap.objs.size,⟨⟨.none,he⟩,hit,Nat.succ_ne_self _⟩,fun b hb=>?_,q⟩
  have e':b=s1.heap.objs.size+1∨b=s1.heap.objs.size:=by simpa using hb
  have hle:s1.heap.objs.size≤b:=by
   rcases e' with z | z
   ·rw [z];exact Nat.le_add_right _ _
   ·rw [z];exact Nat.le_refl _
  exact I1.fpOk hle (I1.hok.fresh hle)
end L2
section
namespace Bits
open PySem PyProof.Rows
end Bits
end
section
namespace TL
open PySem PySem.Builtin PySem.Builtin.Str PySem.StrLaws
end TL
end
namespace L2
open PySem PySem.Spec PyProof.Rows
section
variable {X:Cx}{pins:List (Addr×Obj)}{σ:St}{H:Hp}{s:Shared}{Q:VK}
end
section
variable {X:Cx}
end
section
variable {X:Cx}{o e:Expr}{to te:TE}
end
end L2
namespace L2
open PySem PySem.Spec PyProof.Rows
section
variable {X:Cx}
end
end L2
namespace Att
open PySem PySem.W PySem.Calls PyProof.Rows
section
variable {prog:Program}{w:World}{A:Around}{E:Value→Shared→Prop}{s:Shared}{K:Frag}
end
end Att
namespace L2
open PySem PySem.Spec PyProof.Rows
end L2
namespace L2
open PySem PySem.Spec PyProof.Rows
end L2
namespace L2
open PySem PySem.Spec PyProof.Rows
def inClass (s:Stmt) (j:Nat):Stmt:=match s with
 | .ClassDef _ _ _ body _ _ _ _ _ _ _=>body.getD j (.Pass ⟨0,0,0,0⟩)
 | _=>.Pass ⟨0,0,0,0⟩
def defArgs (s:Stmt):Arguments:=match s with
 | .FunctionDef _ a _ _ _ _ _ _ _ _=>a
 | _=>{posonlyargs:=[],args:=[],vararg:=none,kwonlyargs:=[],kw_defaults:=[],kwarg:=none,defaults:=[]}
def defBody (s:Stmt):List Stmt:=match s with
 | .FunctionDef _ _ b _ _ _ _ _ _ _=>b
 | _=>[]
def defScope (s:Stmt):Scope:=match s with
 | .FunctionDef _ _ _ _ _ _ sc _ _ _=>sc
 | _=>{kind:=.function,names:=[],isGenerator:=false,isCoroutine:=false}
abbrev CX0:CXT:=fun _ _ _ _ _ _=>False
abbrev E0:XK:=fun _ _ _=>False
theorem pass0 {X:Cx}:Passes CX0 X E0:=fun _ _ _ _ _ _ _ h=>h.elim
structure Fun (K:PySem.W.Frag) (x qual:Str) (st:Stmt) (f:Addr) (fd:FuncData):Prop where
 ex:∃ (oc:Value) (od:Option Addr) (kV doc pm:Value) (an:Option Addr) (cdv ct:Value) (osl:Array (Option Value)),
  fd=PySem.W.fnOf x qual (defArgs st) (defBody st) (defScope st) .none kV doc pm an cdv ct∧K.lookup f=some ⟨oc,od,.func fd,osl⟩∧PySem.W.codeIn K cdv qual=true
 kp:PySem.W.keepIn K (.ref f)=true
section
variable {P:Program}{w:World}{K:PySem.W.Frag}{mg:Str→Option Value}{base:Heap}
theorem Fun.ok {x qual:Str}{st:Stmt}{f:Addr}{fd:FuncData}{N ps:List Str}{k:Nat}{sp:Sp} (F:Fun K x qual st f fd) (S:FnScope N ps (defScope st)) (len:∀ vs H Q E,sp vs H Q E→vs.length=ps.length)
  (hbody:∀ (cdv:Value) (A:Around) (outer:List Env) (s:Shared) (H:Hp) (vs:List V) (Q:VK) (E:XK),Room k (A.deeper (envOfC qual (defScope st) s.heap.objs.size f cdv))→sp vs H Q E →
   ∃ t,PSs (cxOf CX0 P w K mg base N qual (defScope st) f cdv A outer s H E).nox (defBody st) t∧t {nx:=fun _ H'=>Q .non H',rt:=Q} (start N vs) H):FnOk P w K mg base CX0 (k+1) f fd ps sp:=by
 obtain ⟨oc,od,kV,doc,pm,an,cdv,ct,osl,rfl,lk,hcd⟩:=F.ex
 refine fn_of lk hcd S len fun A outer s H vs Q E hr hsp=>?_
 obtain ⟨t,h,q⟩:=hbody cdv A outer s H vs Q E hr hsp
 exact ⟨t,h.nox,q⟩
theorem Fun.binds {x qual:Str}{st:Stmt}{f:Addr}{fd:FuncData}{ps:List Str} (F:Fun K x qual st f fd)
  (h:∀ (kV doc pm:Value) (an:Option Addr) (cdv ct:Value) (us:List Value),us.length=ps.length→bindArgs (PySem.W.fnOf x qual (defArgs st) (defBody st) (defScope st) .none kV doc pm an cdv ct) ⟨us,[]⟩=pure (ps.zip us)):Binds K fd ps []:=by
 obtain ⟨oc,od,kV,doc,pm,an,cdv,ct,osl,rfl,lk,hcd⟩:=F.ex
 exact .all (h kV doc pm an cdv ct)
theorem fun_mk {x qual:Str}{st:Stmt}{f:Addr}{oc:Value}{od an:Option Addr}{osl:Array (Option Value)}{kV doc pm cdv ct:Value} (l:K.lookup f=some ⟨oc,od,.func (PySem.W.fnOf x qual (defArgs st) (defBody st) (defScope st) .none kV doc pm an cdv ct),osl⟩)
  (c:PySem.W.codeIn K cdv qual=true) (k:PySem.W.keepIn K (.ref f)=true):Fun K x qual st f (PySem.W.fnOf x qual (defArgs st) (defBody st) (defScope st) .none kV doc pm an cdv ct):=⟨⟨oc,od,kV,doc,pm,an,cdv,ct,osl,rfl,l,c⟩,k⟩
end
theorem hu_of {A:Around}{k:Nat} (hr:Room k A):A.units+1<cLine:=Nat.lt_of_le_of_lt (Nat.add_le_add_left (by decide:1≤64) _) hr.units
section
variable {X:Cx}
theorem pv (i:Nat) {x:Str}{pos:Pos} (hN:X.N[i]?=some x:=by rfl) (hv:Vis X.env.scope x:=by first | exact Or.inl rfl | exact Or.inr (Or.inl rfl) | exact Or.inr (Or.inr rfl)) (hd:(x==("__debug__":Str))=false:=by decide)
  (hcd:(x==("__classdict__":Str))=false:=by decide):PE X (.Name x pos) (tVar i):=pe_var hN hv hd hcd
theorem call_lenD:CallR X (.builtin "len") (fun xs H Q=>∃ a kvs,xs=[V.ref a]∧H a=some (.dK kvs)∧Q (.int kvs.length) H):=by
 intro pins s σ H xs us Q I r h
 obtain ⟨a,kvs,rfl,ha,q⟩:=h
 obtain ⟨u,rfl,ru⟩:=vals1 r
 cases ru
 exact d_len I (.inl ha) fun t s' I'=>⟨.int kvs.length,H,I',⟨t,rfl⟩,q⟩
end
theorem iteF {A B:Prop} (h:B):if false=true then A else B:=by
 rw [if_neg Bool.false_ne_true]
 exact h
theorem iteT {A B:Prop} (h:A):if true=true then A else B:=by
 rw [if_pos rfl]
 exact h
theorem ite2 {c A B:Prop} [Decidable c] (h1:c→A) (h2:¬ c→B):if c then A else B:=by
 by_cases h:c
 ·rw [if_pos h]
  exact h1 h
 ·rw [if_neg h]
  exact h2 h
def Same (H H':Hp):Prop:=∀ b o,H b=some o→H' b=some o
theorem Same.refl (H:Hp):Same H H:=fun _ _ h=>h
theorem Same.trans {H H1 H2:Hp} (a:Same H H1) (b:Same H1 H2):Same H H2:=fun c o h=>b c o (a c o h)
theorem Same.free {H H':Hp} (e:Same H H') {l:Addr} (h:H' l=Option.none):H l=Option.none:=by
 cases q:H l with
 | none=>rfl
 | some o =>
  rw [e l o q] at h
  cases h
theorem Same.seq {K:PySem.W.Frag}{H H':Hp}{a:Addr}{xs:List V} (e:Same H H') (h:SqL K H a xs):SqL K H' a xs:=by
 rcases h with (h | ⟨o,h⟩) | h
 ·exact .inl (.inl (e _ _ h))
 ·exact .inl (.inr ⟨o,e _ _ h⟩)
 ·exact .inr h
section
variable {κ:Type} [DecidableEq κ]
theorem valV_not {kvs:List (κ×V)}{k:κ} (h:valV kvs k=none):¬ k∈kvs.map (·.1):=by
 intro m
 obtain ⟨p,hp,e⟩:=List.mem_map.mp m
 have q:(kvs.any fun kv=>decide (kv.1=k))=true:=List.any_eq_true.mpr ⟨p,hp,decide_eq_true e⟩
 rw [valV_any,h] at q
 exact absurd q (by simp)
theorem valV_in {kvs:List (κ×V)}{k:κ}{v:V} (h:valV kvs k=some v):k∈kvs.map (·.1):=by
 have q:(kvs.any fun kv=>decide (kv.1=k))=true:=by
  rw [valV_any,h]
  all_goals rfl
 obtain ⟨p,hp,e⟩:=List.any_eq_true.mp q
 exact List.mem_map.mpr ⟨p,hp,of_decide_eq_true e⟩
theorem nd_snoc:∀ {l:List κ}{k:κ},l.Nodup→¬ k∈l→(l++[k]).Nodup
 | [],k,_,_=>by simp
 | a::r,k,h,hk=>by
  obtain ⟨h1,h2⟩:=List.nodup_cons.mp h
  show (a::(r++[k])).Nodup
  refine List.nodup_cons.mpr ⟨fun m=>?_,nd_snoc h2 fun m=>hk (List.mem_cons.mpr (Or.inr m))⟩
  rcases List.mem_append.mp m with q | q
  ·exact h1 q
  ·exact hk (List.mem_cons.mpr (Or.inl (List.mem_singleton.mp q).symm))
theorem nd_putK {kvs:List (κ×V)}{k:κ} (v:V) (hn:(kvs.map (·.1)).Nodup) (h:valV kvs k=none):((putK kvs k v).map (·.1)).Nodup:=by
 rw [putK_new v h,List.map_append]
 exact nd_snoc hn (valV_not h)
theorem dropK_pos {p:κ×V}{r:List (κ×V)}{k:κ} (e:p.1=k):dropK (p::r) k=dropK r k:=by
 unfold dropK
 rw [List.filter_cons,if_neg (by simp [e])]
theorem dropK_neg {p:κ×V}{r:List (κ×V)}{k:κ} (e:¬ p.1=k):dropK (p::r) k=p::dropK r k:=by
 unfold dropK
 rw [List.filter_cons,if_pos (by simp [e])]
theorem dropK_mem {kvs:List (κ×V)}{k:κ}{p:κ×V} (h:p∈dropK kvs k):p∈kvs:=(List.mem_filter.mp h).1
theorem nd_dropK:∀ {kvs:List (κ×V)}{k:κ},(kvs.map (·.1)).Nodup→((dropK kvs k).map (·.1)).Nodup
 | [],_,_=>List.nodup_nil
 | p::r,k,h=>by
  have h:(p.1::r.map (·.1)).Nodup:=h
  obtain ⟨h1,h2⟩:=List.nodup_cons.mp h
  by_cases e:p.1=k
  ·rw [dropK_pos e]
   exact nd_dropK h2
  ·rw [dropK_neg e]
   show (p.1::(dropK r k).map (·.1)).Nodup
   refine List.nodup_cons.mpr ⟨fun m=>h1 ?_,nd_dropK h2⟩
   obtain ⟨q,hq,eq⟩:=List.mem_map.mp m
   exact List.mem_map.mpr ⟨q,dropK_mem hq,eq⟩
end
theorem at_of {xs:List V}{z:Int}{j:Nat}{v:V} (e:z=(j:Int)) (h:xs[j]?=some v):atI xs z=some v:=by
 rw [e]
 exact atI_nat h
theorem nd_ix {α:Type}{l:List α} (hN:l.Nodup) {i j:Nat}{x:α} (a:l[i]?=some x) (b:l[j]?=some x):i=j:=by
 obtain ⟨h1,e1⟩:=List.getElem?_eq_some_iff.mp a
 obtain ⟨h2,e2⟩:=List.getElem?_eq_some_iff.mp b
 exact (List.getElem_inj hN).mp (e1.trans e2.symm)
theorem Same.made {H H1:Hp}{x dx C:Addr} (nx:H x=Option.none) (nd:H dx=Option.none) (k:∀ b o,(upd (upd H dx (.own x)) x (.ins C dx [])) b=some o→b≠x→H1 b=some o):Same H H1:=fun b o e =>
 k b o (by rw [upd_ne (ne_of_none e nx),upd_ne (ne_of_none e nd)];exact e) (ne_of_none e nx)
end L2
end
section
set_option maxHeartbeats 1000000
namespace VL
open Vastoj
def Asc (l:List Nat):Prop:=l.Pairwise (·<·)
theorem mem_putIn {n m:Nat}:∀ {l:List Nat},m∈putIn n l↔m=n∨m∈l
 | []=>by simp [putIn]
 | a::r=>by
  unfold putIn
  by_cases h:n=a
  ·subst h;simp
  ·by_cases h2:n<a
   ·simp [h,h2]
   ·simp only [h,h2,if_false,List.mem_cons,mem_putIn (l:=r)]
    constructor
    ·rintro (h | h | h) <;> simp [h]
    ·rintro (h | h | h) <;> simp [h]
theorem asc_putIn {n:Nat}:∀ {l:List Nat},Asc l→Asc (putIn n l)
 | [],_=>by simp [putIn,Asc]
 | a::r,h=>by
  have h':=List.pairwise_cons.mp h
  unfold putIn
  by_cases e:n=a
  ·simp only [e,if_true];exact h
  ·by_cases h2:n<a
   ·simp only [e,h2,if_true,if_false]
    refine List.pairwise_cons.mpr ⟨fun x hx=>?_,h⟩
    rcases List.mem_cons.mp hx with rfl | hx
    ·exact h2
    ·exact Nat.lt_trans h2 (h'.1 x hx)
   ·simp only [e,h2,if_false]
    refine List.pairwise_cons.mpr ⟨fun x hx=>?_,asc_putIn h'.2⟩
    rcases mem_putIn.mp hx with rfl | hx
    ·omega
    ·exact h'.1 x hx
theorem mem_takeIn {m:Nat}{s:List Nat}:∀ {l:List Nat},m∈takeIn l s↔m∈l∨m∈s
 | []=>by simp [takeIn]
 | a::r=>by
  show m∈putIn a (takeIn r s)↔_
  rw [mem_putIn,mem_takeIn (l:=r),List.mem_cons,or_assoc]
theorem asc_takeIn {s:List Nat} (h:Asc s):∀ {l:List Nat},Asc (takeIn l s)
 | []=>h
 | a::r=>asc_putIn (asc_takeIn h (l:=r))
theorem mem_inOrder {m:Nat}{l:List Nat}:m∈inOrder l↔m∈l:=by
 have h:=mem_takeIn (m:=m) (s:=[]) (l:=l)
 simp only [List.not_mem_nil,or_false] at h
 exact h
theorem asc_inOrder (l:List Nat):Asc (inOrder l):=asc_takeIn (s:=[]) List.Pairwise.nil
theorem asc_ext:∀ {a b:List Nat},Asc a→Asc b→(∀ x,x∈a↔x∈b)→a=b
 | [],[],_,_,_=>rfl
 | [],b::t,_,_,h=>by have:=(h b).mpr (by simp);simp at this
 | a::r,[],_,_,h=>by have:=(h a).mp (by simp);simp at this
 | a::r,b::t,h1,h2,h=>by
  have g1:=List.pairwise_cons.mp h1
  have g2:=List.pairwise_cons.mp h2
  have e:a=b:=by
   have x1:=(h a).mp (by simp)
   have x2:=(h b).mpr (by simp)
   rcases List.mem_cons.mp x1 with e | x1
   ·exact e
   ·rcases List.mem_cons.mp x2 with e | x2
    ·exact e.symm
    ·have:=g1.1 b x2;have:=g2.1 a x1;omega
  subst e
  refine congrArg (List.cons a) (asc_ext g1.2 g2.2 fun x=>?_)
  have hx:=h x
  simp only [List.mem_cons] at hx
  constructor
  ·intro m
   rcases hx.mp (.inr m) with e | q
   ·subst e;exact absurd (g1.1 x m) (Nat.lt_irrefl _)
   ·exact q
  ·intro m
   rcases hx.mpr (.inr m) with e | q
   ·subst e;exact absurd (g2.1 x m) (Nat.lt_irrefl _)
   ·exact q
theorem Asc.nodup {l:List Nat} (h:Asc l):l.Nodup:=h.imp fun h=>Nat.ne_of_lt h
theorem Asc.filter {l:List Nat} (h:Asc l) (p:Nat→Bool):Asc (l.filter p):=List.Pairwise.filter p h
theorem inOrder_of_asc {l:List Nat} (h:Asc l):inOrder l=l:=asc_ext (asc_inOrder l) h fun _=>mem_inOrder
theorem takeIn_nil (l:List Nat):takeIn l []=inOrder l:=rfl
theorem asc_len {n:Nat}:∀ {l:List Nat}{a:Nat},Asc l→(∀ x∈l,a≤x∧x<n)→a≤n→l.length+a≤n
 | [],a,_,_,h=>by simpa using h
 | x::r,a,h,hb,ha=>by
  have g:=List.pairwise_cons.mp h
  have hx:=hb x (by simp)
  have:=asc_len (l:=r) (a:=x+1) g.2 (fun y hy=>⟨g.1 y hy,(hb y (by simp [hy])).2⟩) hx.2
  simp only [List.length_cons]
  omega
theorem asc_len_le {n:Nat}{l:List Nat} (h:Asc l) (hb:∀ x∈l,x<n):l.length≤n:=by
 have:=asc_len (a:=0) h (fun x hx=>⟨Nat.zero_le _,hb x hx⟩) (Nat.zero_le _)
 simpa using this
theorem mem_valid {s:Store}{p:Nat}:p∈s.valid↔∃ n∈s,n.place=p:=by simp [Store.valid]
theorem has_iff {s:Store}{p:Nat}:s.has p=true↔p∈s.valid:=by
 simp [Store.has,Store.valid]
theorem has_false {s:Store}{p:Nat}:s.has p=false↔p∉s.valid:=by
 rw [← has_iff];simp
structure StoreOk (s:Store):Prop where
 asc:Asc s.valid
 lt:∀ p∈s.valid,p<128
 size:∀ n∈s,n.size≤9999
 rasc:∀ n∈s,Asc n.refs
 rval:∀ n∈s,∀ q∈n.refs,q∈s.valid
theorem node_unique:∀ {s:Store},Asc s.valid→∀ {n m:Node},n∈s→m∈s→n.place=m.place→n=m
 | [],_,_,_,h,_,_=>by simp at h
 | a::r,ha,n,m,hn,hm,e=>by
  have g:=List.pairwise_cons.mp (show ((a.place::Store.valid r).Pairwise (·<·)) from ha)
  rcases List.mem_cons.mp hn with e1 | h1
  ·rcases List.mem_cons.mp hm with e2 | h2
   ·rw [e1,e2]
   ·have:=g.1 m.place (mem_valid.mpr ⟨m,h2,rfl⟩);rw [e1] at e;omega
  ·rcases List.mem_cons.mp hm with e2 | h2
   ·have:=g.1 n.place (mem_valid.mpr ⟨n,h1,rfl⟩);rw [e2] at e;omega
   ·exact node_unique g.2 h1 h2 e
theorem find_node {s:Store} (h:Asc s.valid) {n:Node} (hn:n∈s):s.find? (fun m=>m.place==n.place)=some n:=by
 cases e:s.find? (fun m=>m.place==n.place) with
 | none =>
  have:=List.find?_eq_none.mp e n hn
  simp at this
 | some m =>
  have h1:=List.find?_some e
  have h2:=List.mem_of_find?_eq_some e
  rw [node_unique h h2 hn (by simpa using h1)]
theorem refs_node {s:Store} (h:Asc s.valid) {n:Node} (hn:n∈s):s.refs n.place=n.refs:=by
 simp [Store.refs,find_node h hn]
theorem refs_none {s:Store}{p:Nat} (h:p∉s.valid):s.refs p=[]:=by
 have:s.find? (fun m=>m.place==p)=none:=List.find?_eq_none.mpr fun n hn e=>h (mem_valid.mpr ⟨n,hn,by simpa using e⟩)
 simp [Store.refs,this]
theorem node_of_valid {s:Store} (h:Asc s.valid) {p:Nat} (hp:p∈s.valid):∃ z,(⟨p,z,s.refs p⟩:Node)∈s:=by
 obtain ⟨n,hn,rfl⟩:=mem_valid.mp hp
 exact ⟨n.size,by rw [refs_node h hn];exact hn⟩
theorem StoreOk.refs_val {s:Store} (h:StoreOk s) {p q:Nat} (hq:q∈s.refs p):q∈s.valid:=by
 by_cases hp:p∈s.valid
 ·obtain ⟨n,hn,rfl⟩:=mem_valid.mp hp
  rw [refs_node h.asc hn] at hq
  exact h.rval n hn q hq
 ·rw [refs_none hp] at hq;simp at hq
theorem StoreOk.refs_asc {s:Store} (h:StoreOk s) (p:Nat):Asc (s.refs p):=by
 by_cases hp:p∈s.valid
 ·obtain ⟨n,hn,rfl⟩:=mem_valid.mp hp
  rw [refs_node h.asc hn]
  exact h.rasc n hn
 ·rw [refs_none hp];exact List.Pairwise.nil
inductive Reach (s:Store):Nat→Nat→Prop
 | refl (p:Nat):Reach s p p
 | step {p q r:Nat}:Reach s p q→r∈s.refs q→Reach s p r
theorem Reach.trans {s:Store}{p q r:Nat} (h:Reach s p q):Reach s q r→Reach s p r:=by
 intro h2
 induction h2 with
 | refl=>exact h
 | step _ hr ih=>exact .step ih hr
theorem Reach.valid {s:Store} (h:StoreOk s) {p q:Nat} (hp:p∈s.valid) (r:Reach s p q):q∈s.valid:=by
 cases r with
 | refl=>exact hp
 | step _ hr=>exact h.refs_val hr
theorem Reach.in_ {s:Store}{X:Nat→Prop} (hX:∀ p,X p→∀ q∈s.refs p,X q) {p q:Nat} (hp:X p) (r:Reach s p q):X q:=by
 induction r with
 | refl=>exact hp
 | step _ hr ih=>exact hX _ ih _ hr
theorem mem_grownF (s0:List Nat) {q:Nat}:∀ (s:Store) (l:List Nat),q∈s.foldl (fun r n=>if s0.contains n.place then takeIn n.refs r else r) l↔q∈l∨∃ n∈s,n.place∈s0∧q∈n.refs
 | [],l=>by simp
 | a::r,l=>by
  rw [List.foldl_cons,mem_grownF s0 r]
  by_cases h:a.place∈s0
  ·have h':s0.contains a.place=true:=by simpa using h
   simp only [h',if_true,mem_takeIn]
   constructor
   ·rintro ((x | x) | ⟨n,hn,x,y⟩)
    ·exact .inr ⟨a,by simp,h,x⟩
    ·exact .inl x
    ·exact .inr ⟨n,by simp [hn],x,y⟩
   ·rintro (x | ⟨n,hn,x,y⟩)
    ·exact .inl (.inr x)
    ·rcases List.mem_cons.mp hn with rfl | hn
     ·exact .inl (.inl y)
     ·exact .inr ⟨n,hn,x,y⟩
  ·have h':s0.contains a.place=false:=by simpa using h
   simp only [h',if_false]
   constructor
   ·rintro (x | ⟨n,hn,x,y⟩)
    ·exact .inl x
    ·exact .inr ⟨n,by simp [hn],x,y⟩
   ·rintro (x | ⟨n,hn,x,y⟩)
    ·exact .inl x
    ·rcases List.mem_cons.mp hn with rfl | hn
     ·exact absurd x h
     ·exact .inr ⟨n,hn,x,y⟩
theorem asc_grownF (s0:List Nat):∀ (s:Store) (l:List Nat),Asc l→Asc (s.foldl (fun r n=>if s0.contains n.place then takeIn n.refs r else r) l)
 | [],l,h=>h
 | a::r,l,h=>by
  rw [List.foldl_cons]
  apply asc_grownF s0 r
  split
  ·exact asc_takeIn h
  ·exact h
theorem mem_grown {s:Store} (h:Asc s.valid) {l:List Nat}{q:Nat}:q∈grown s l↔q∈l∨∃ p∈l,q∈s.refs p:=by
 unfold grown
 rw [mem_grownF]
 constructor
 ·rintro (x | ⟨n,hn,x,y⟩)
  ·exact .inl x
  ·exact .inr ⟨n.place,x,by rw [refs_node h hn];exact y⟩
 ·rintro (x | ⟨p,hp,y⟩)
  ·exact .inl x
  ·by_cases hv:p∈s.valid
   ·obtain ⟨n,hn,rfl⟩:=mem_valid.mp hv
    rw [refs_node h hn] at y
    exact .inr ⟨n,hn,hp,y⟩
   ·rw [refs_none hv] at y;simp at y
theorem asc_grown {s:Store}{l:List Nat} (h:Asc l):Asc (grown s l):=asc_grownF l s l h
theorem asc_grownOut {s:Store}:∀ {k:Nat}{l:List Nat},Asc l→Asc (grownOut s k l)
 | 0,_,h=>h
 | k+1,l,h=>by
  unfold grownOut
  split
  ·exact h
  ·exact asc_grownOut (asc_grown h)
theorem sub_grownOut {s:Store} (h:Asc s.valid):∀ {k:Nat}{l:List Nat}{q:Nat},q∈l→q∈grownOut s k l
 | 0,_,_,hq=>hq
 | k+1,l,q,hq=>by
  unfold grownOut
  split
  ·exact hq
  ·exact sub_grownOut h ((mem_grown h).mpr (.inl hq))
theorem grownOut_reach {s:Store} (h:Asc s.valid):∀ {k:Nat}{l:List Nat}{q:Nat},q∈grownOut s k l→∃ p∈l,Reach s p q
 | 0,_,q,hq=>⟨q,hq,.refl q⟩
 | k+1,l,q,hq=>by
  unfold grownOut at hq
  split at hq
  ·exact ⟨q,hq,.refl q⟩
  ·obtain ⟨p,hp,hr⟩:=grownOut_reach h hq
   rcases (mem_grown h).mp hp with x | ⟨p',hp',x⟩
   ·exact ⟨p,x,hr⟩
   ·exact ⟨p',hp',Reach.trans (.step (.refl _) x) hr⟩
theorem filter_len_lt {α:Type}{p q:α→Bool}:∀ {l:List α},(∀ x∈l,p x=true→q x=true)→(∃ x∈l,q x=true∧p x=false)→(l.filter p).length<(l.filter q).length
 | [],_,⟨x,hx,_⟩=>by simp at hx
 | a::r,h1,h2=>by
  have le:(r.filter p).length≤(r.filter q).length:=by
   clear h2
   induction r with
   | nil=>simp
   | cons b t ih =>
    have ih':=ih (fun x hx=>h1 x (by simp only [List.mem_cons] at hx ⊢;rcases hx with h | h <;> simp [h]))
    have hb:=h1 b (by simp)
    cases eb:p b with
    | true=>simp [List.filter_cons,eb,hb eb];exact ih'
    | false =>
     cases eq:q b <;> simp [List.filter_cons,eb,eq]
     ·exact ih'
     ·omega
  obtain ⟨x,hx,qx,px⟩:=h2
  rcases List.mem_cons.mp hx with rfl | hx
  ·simp [List.filter_cons,qx,px];omega
  ·have ih:=filter_len_lt (p:=p) (q:=q) (l:=r) (fun y hy=>h1 y (by simp [hy])) ⟨x,hx,qx,px⟩
   have hb:=h1 a (by simp)
   cases eb:p a with
   | true=>simp [List.filter_cons,eb,hb eb];exact ih
   | false =>
    cases eq:q a <;> simp [List.filter_cons,eb,eq]
    ·exact ih
    ·omega
theorem closed_grownOut {s:Store} (h:StoreOk s):∀ {k:Nat}{l:List Nat},Asc l→(s.valid.filter fun p=>!l.contains p).length≤k→∀ p∈grownOut s k l,∀ q∈s.refs p,q∈grownOut s k l
 | 0,l,_,hk,p,hp,q,hq=>by
  have e:s.valid.filter (fun p=>!l.contains p)=[]:=List.length_eq_zero_iff.mp (Nat.le_zero.mp hk)
  have:=List.filter_eq_nil_iff.mp e q (h.refs_val hq)
  simpa [grownOut] using this
 | k+1,l,ha,hk,p,hp,q,hq=>by
  unfold grownOut at hp ⊢
  by_cases e:grown s l=l
  ·simp only [e,if_true] at hp ⊢
   rw [← e]
   exact (mem_grown h.asc).mpr (.inr ⟨p,hp,hq⟩)
  ·simp only [e,if_false] at hp ⊢
   refine closed_grownOut h (asc_grown ha) ?_ p hp q hq
   have:∃ x,x∈grown s l∧x∉l:=by
    refine Classical.byContradiction fun hn=>e (asc_ext (asc_grown ha) ha fun x=>⟨fun hx=>Classical.byContradiction fun h2=>hn ⟨x,hx,h2⟩,fun hx=>(mem_grown h.asc).mpr (.inl hx)⟩)
   obtain ⟨x,hx,hxl⟩:=this
   have xv:x∈s.valid:=by
    rcases (mem_grown h.asc).mp hx with a | ⟨p',_,a⟩
    ·exact absurd a hxl
    ·exact h.refs_val a
   have:=filter_len_lt (p:=fun p=>!(grown s l).contains p) (q:=fun p=>!l.contains p) (l:=s.valid)
    (fun y _ hy=>by
     simp only [Bool.not_eq_true',List.contains_eq_mem,decide_eq_false_iff_not] at hy ⊢
     exact fun hl=>hy ((mem_grown h.asc).mpr (.inl hl)))
    ⟨x,xv,by simpa using hxl,by simpa using hx⟩
   omega
theorem asc_closure (s:Store) (l:List Nat):Asc (closure s l):=asc_grownOut (asc_inOrder l)
theorem mem_closure {s:Store} (h:StoreOk s) {l:List Nat}{q:Nat}:q∈closure s l↔∃ p∈l,Reach s p q:=by
 unfold closure
 constructor
 ·intro hq
  obtain ⟨p,hp,r⟩:=grownOut_reach h.asc hq
  exact ⟨p,mem_inOrder.mp hp,r⟩
 ·rintro ⟨p,hp,r⟩
  refine r.in_ (X:=fun q=>q∈grownOut s s.length (inOrder l)) ?_ (sub_grownOut h.asc (mem_inOrder.mpr hp))
  refine closed_grownOut h (asc_inOrder l) ?_
  refine Nat.le_trans (List.length_filter_le _ _) ?_
  simp [Store.valid]
theorem closure_ext {s:Store} (h:StoreOk s) {l m:List Nat} (e:∀ x,x∈l↔x∈m):closure s l=closure s m :=
 asc_ext (asc_closure s l) (asc_closure s m) fun x=>by
  rw [mem_closure h,mem_closure h]
  exact ⟨fun ⟨p,hp,r⟩=>⟨p,(e p).mp hp,r⟩,fun ⟨p,hp,r⟩=>⟨p,(e p).mpr hp,r⟩⟩
theorem closure_valid {s:Store} (h:StoreOk s) {l:List Nat} (hl:∀ p∈l,p∈s.valid) {q:Nat} (hq:q∈closure s l):q∈s.valid:=by
 obtain ⟨p,hp,r⟩:=(mem_closure h).mp hq
 exact r.valid h (hl p hp)
theorem closure_self {s:Store} (h:StoreOk s) {l:List Nat}{p:Nat} (hp:p∈l):p∈closure s l:=(mem_closure h).mpr ⟨p,hp,.refl p⟩
theorem closure_closed {s:Store} (h:StoreOk s) {l:List Nat}{p q:Nat} (hp:p∈closure s l) (hq:q∈s.refs p):q∈closure s l:=by
 obtain ⟨p0,h0,r⟩:=(mem_closure h).mp hp
 exact (mem_closure h).mpr ⟨p0,h0,.step r hq⟩
theorem closure_is {s:Store} (h:StoreOk s) {l:List Nat}{X:Nat→Prop} (h1:∀ p∈l,X p) (h2:∀ p,X p→∀ q∈s.refs p,X q) (h3:∀ q,X q→∃ p∈l,Reach s p q) (q:Nat):X q↔q∈closure s l:=by
 rw [mem_closure h]
 exact ⟨h3 q,fun ⟨p,hp,r⟩=>r.in_ h2 (h1 p hp)⟩
theorem reaches_iff {s:Store} (h:StoreOk s) {p q:Nat}:reaches s p q=true↔Reach s p q:=by
 unfold reaches
 rw [List.contains_iff_mem,mem_closure h]
 simp
theorem mem_knot {s:Store} (h:StoreOk s) {p q:Nat}:q∈knot s p↔Reach s p q∧Reach s q p:=by
 unfold knot
 rw [List.mem_filter,reaches_iff h,mem_closure h]
 simp
theorem asc_knot (s:Store) (p:Nat):Asc (knot s p):=(asc_closure s [p]).filter _
theorem isTop_iff {s:Store} (h:StoreOk s) {p:Nat}:isTop s p=true↔∀ v∈s.valid,v∈knot s p∨∀ q∈s.refs v,q∉knot s p:=by
 unfold isTop
 simp only [List.all_eq_true,Bool.or_eq_true,List.contains_iff_mem,Bool.not_eq_true',List.contains_eq_mem,decide_eq_false_iff_not,decide_eq_true_eq]
 constructor
 ·intro g v hv
  obtain ⟨n,hn,rfl⟩:=mem_valid.mp hv
  rcases g n hn with a | a
  ·exact .inl a
  ·exact .inr (by rw [refs_node h.asc hn];exact a)
 ·intro g n hn
  rcases g n.place (mem_valid.mpr ⟨n,hn,rfl⟩) with a | a
  ·exact .inl a
  ·rw [refs_node h.asc hn] at a;exact .inr a
theorem top_exists {s:Store} (h:StoreOk s) {B:Nat→Prop} (hB:∀ p,B p→∀ q∈s.refs p,B q):∀ (m:Nat) {p:Nat},p∈s.valid→¬ B p→s.length - (closure s [p]).length≤m→∃ t∈s.valid,¬ B t∧isTop s t=true
 | m,p,hp,hb,hm=>by
  cases e:isTop s p with
  | true=>exact ⟨p,hp,hb,e⟩
  | false =>
   have e':¬ (∀ v∈s.valid,v∈knot s p∨∀ q∈s.refs v,q∉knot s p):=by
    rw [← isTop_iff h,e];simp
   have:∃ v,v∈s.valid∧v∉knot s p∧∃ q∈s.refs v,q∈knot s p:=by
    refine Classical.byContradiction fun hn=>e' fun v hv=>?_
    by_cases h1:v∈knot s p
    ·exact .inl h1
    ·refine .inr fun q hq hk=>hn ⟨v,hv,h1,q,hq,hk⟩
   obtain ⟨v,hv,hvk,q,hq,hqk⟩:=this
   have kq:=(mem_knot h).mp hqk
   have vp:Reach s v p:=Reach.trans (.step (.refl v) hq) kq.2
   have pv:¬ Reach s p v:=fun r=>hvk ((mem_knot h).mpr ⟨r,vp⟩)
   have bv:¬ B v:=fun b=>hb (vp.in_ hB b)
   have sub:∀ x∈closure s [p],x∈closure s [v]:=fun x hx=>by
    obtain ⟨y,hy,r⟩:=(mem_closure h).mp hx
    have:y=p:=by simpa using hy
    subst this
    exact (mem_closure h).mpr ⟨v,by simp,vp.trans r⟩
   have lt:(closure s [p]).length<(closure s [v]).length:=by
    have e1:closure s [p]=(closure s [v]).filter fun x=>(closure s [p]).contains x:=asc_ext (asc_closure _ _) ((asc_closure _ _).filter _) fun x=>by
     rw [List.mem_filter,List.contains_iff_mem]
     exact ⟨fun hx=>⟨sub x hx,hx⟩,fun hx=>hx.2⟩
    have e2:closure s [v]=(closure s [v]).filter fun _=>true:=(List.filter_eq_self.mpr fun _ _=>rfl).symm
    have l1:=congrArg List.length e1
    have l2:=congrArg List.length e2
    have l3:=filter_len_lt (p:=fun x=>(closure s [p]).contains x) (q:=fun _=>true) (l:=closure s [v]) (fun x _ _=>rfl) ⟨v,closure_self h (by simp),rfl,by
     rw [← Bool.not_eq_true,List.contains_iff_mem]
     intro hx
     obtain ⟨y,hy,r⟩:=(mem_closure h).mp hx
     have:y=p:=by simpa using hy
     subst this
     exact pv r⟩
    omega
   have up:(closure s [v]).length≤s.length:=by
    have e1:closure s [v]=s.valid.filter fun x=>(closure s [v]).contains x:=asc_ext (asc_closure _ _) (h.asc.filter _) fun x=>by
     rw [List.mem_filter,List.contains_iff_mem]
     exact ⟨fun hx=>⟨closure_valid h (by simpa using hv) hx,hx⟩,fun hx=>hx.2⟩
    rw [e1]
    refine Nat.le_trans (List.length_filter_le _ _) ?_
    simp [Store.valid]
   cases m with
   | zero=>omega
   | succ m=>exact top_exists h hB m hv bv (by omega)
end VL
end
section
set_option maxHeartbeats 1000000
namespace VL
open Vastoj
theorem mem_put {n m:Node}:∀ {s:Store},m∈Store.put n s↔m=n∨m∈s
 | []=>by simp [Store.put]
 | a::r=>by
  unfold Store.put
  split
  ·simp
  ·simp only [List.mem_cons,mem_put (s:=r)]
   constructor
   ·rintro (h | h | h) <;> simp [h]
   ·rintro (h | h | h) <;> simp [h]
theorem valid_put {n:Node}{s:Store}{p:Nat}:p∈(Store.put n s).valid↔p=n.place∨p∈s.valid:=by
 simp only [mem_valid,mem_put]
 constructor
 ·rintro ⟨m,rfl | h,rfl⟩
  ·exact .inl rfl
  ·exact .inr ⟨m,h,rfl⟩
 ·rintro (rfl | ⟨m,h,rfl⟩)
  ·exact ⟨n,.inl rfl,rfl⟩
  ·exact ⟨m,.inr h,rfl⟩
theorem asc_put {n:Node}:∀ {s:Store},Asc s.valid→n.place∉s.valid→Asc (Store.put n s).valid
 | [],_,_=>by simp [Store.put,Store.valid,Asc]
 | a::r,h,hn=>by
  have g:=List.pairwise_cons.mp (show ((a.place::Store.valid r).Pairwise (·<·)) from h)
  have hne:n.place≠a.place∧n.place∉Store.valid r:=by
   refine ⟨fun e=>hn ?_,fun e=>hn ?_⟩
   ·exact mem_valid.mpr ⟨a,by simp,e.symm⟩
   ·obtain ⟨m,hm,e⟩:=mem_valid.mp e
    exact mem_valid.mpr ⟨m,by simp [hm],e⟩
  unfold Store.put
  split
  ·rename_i lt
   show ((n.place::a.place::Store.valid r).Pairwise (·<·))
   refine List.pairwise_cons.mpr ⟨fun x hx=>?_,h⟩
   rcases List.mem_cons.mp hx with rfl | hx
   ·exact lt
   ·exact Nat.lt_trans lt (g.1 x hx)
  ·rename_i lt
   show ((a.place::(Store.put n r).valid).Pairwise (·<·))
   refine List.pairwise_cons.mpr ⟨fun x hx=>?_,asc_put g.2 hne.2⟩
   rcases valid_put.mp hx with rfl | hx
   ·omega
   ·exact g.1 x hx
theorem load_put {n:Node}:∀ {s:Store},(Store.put n s).load=s.load+n.size
 | []=>by simp [Store.put,Store.load]
 | a::r=>by
  unfold Store.put
  split
  ·simp only [Store.load,List.map_cons,List.sum_cons];omega
  ·have:=load_put (n:=n) (s:=r)
   simp only [Store.load,List.map_cons,List.sum_cons] at this ⊢;omega
def putAll (ns:List Node) (s:Store):Store:=ns.foldl (fun st n=>Store.put n st) s
theorem mem_putAll {m:Node}:∀ {ns:List Node}{s:Store},m∈putAll ns s↔m∈ns∨m∈s
 | [],s=>by simp [putAll]
 | n::r,s=>by
  show m∈putAll r (Store.put n s)↔_
  rw [mem_putAll,mem_put,List.mem_cons]
  constructor
  ·rintro (h | h | h) <;> simp [h]
  ·rintro ((h | h) | h) <;> simp [h]
theorem valid_putAll {ns:List Node}{s:Store}{p:Nat}:p∈(putAll ns s).valid↔p∈ns.map (fun n=>n.place)∨p∈s.valid:=by
 simp only [mem_valid,mem_putAll,List.mem_map]
 constructor
 ·rintro ⟨m,h | h,rfl⟩
  ·exact .inl ⟨m,h,rfl⟩
  ·exact .inr ⟨m,h,rfl⟩
 ·rintro (⟨m,h,rfl⟩ | ⟨m,h,rfl⟩)
  ·exact ⟨m,.inl h,rfl⟩
  ·exact ⟨m,.inr h,rfl⟩
theorem asc_putAll:∀ {ns:List Node}{s:Store},Asc s.valid→(ns.map fun n=>n.place).Nodup→(∀ n∈ns,n.place∉s.valid)→Asc (putAll ns s).valid
 | [],s,h,_,_=>h
 | n::r,s,h,nd,hn=>by
  have g:=List.nodup_cons.mp (show (n.place::r.map fun n=>n.place).Nodup from nd)
  refine asc_putAll (ns:=r) (s:=Store.put n s) (asc_put h (hn n (by simp))) g.2 fun m hm e=>?_
  rcases valid_put.mp e with e | e
  ·exact g.1 (List.mem_map.mpr ⟨m,hm,e⟩)
  ·exact hn m (by simp [hm]) e
theorem load_putAll:∀ {ns:List Node}{s:Store},(putAll ns s).load=s.load+(ns.map fun n=>n.size).sum
 | [],s=>by simp [putAll]
 | n::r,s=>by
  show (putAll r (Store.put n s)).load=_
  rw [load_putAll,load_put,List.map_cons,List.sum_cons]
  omega
theorem refs_putAll_old {ns:List Node}{s:Store} (h:Asc s.valid) (h2:Asc (putAll ns s).valid) {p:Nat} (hp:p∈s.valid):(putAll ns s).refs p=s.refs p:=by
 obtain ⟨n,hn,rfl⟩:=mem_valid.mp hp
 rw [refs_node h hn,refs_node h2 (mem_putAll.mpr (.inr hn))]
theorem parted_len:∀ {n:Nat}{l:List Int}{rs:List (List Int)},parted n l=some rs→rs.length=n
 | 0,[],rs,h=>by simp [parted] at h;subst h;rfl
 | 0,_::_,rs,h=>by simp [parted] at h
 | n+1,[],rs,h=>by simp [parted] at h
 | n+1,c::r,rs,h=>by
  unfold parted at h
  split at h
  ·cases h
  ·cases e:parted n (r.drop c.toNat) with
   | none=>rw [e] at h;cases h
   | some l =>
    rw [e] at h
    cases h
    simp [parted_len e]
theorem map_zip_fst {α β:Type}:∀ {a:List α}{b:List β},a.length=b.length→(a.zip b).map (fun x=>x.1)=a
 | [],[],_=>rfl
 | x::a,y::b,h=>by
  simp only [List.zip_cons_cons,List.map_cons]
  rw [map_zip_fst (by simpa using h)]
theorem newNodes_places {outs:List Nat}{sizes:List Int}{rs:List (List Int)} (h1:sizes.length=outs.length) (h2:rs.length=outs.length):(newNodes outs sizes rs).map (fun n=>n.place)=outs:=by
 unfold newNodes
 rw [List.map_map]
 show (outs.zip (sizes.zip rs)).map (fun x=>x.1)=outs
 refine map_zip_fst ?_
 rw [List.length_zip];omega
theorem newNodes_sizes:∀ {outs:List Nat}{sizes:List Int}{rs:List (List Int)},sizes.length=outs.length→rs.length=outs.length→((newNodes outs sizes rs).map fun n=>n.size).sum=(sizes.map Int.toNat).sum
 | [],[],[],_,_=>rfl
 | o::os,z::zs,r::rs,h1,h2=>by
  have:=newNodes_sizes (outs:=os) (sizes:=zs) (rs:=rs) (by simpa using h1) (by simpa using h2)
  unfold newNodes at this ⊢
  simp only [List.zip_cons_cons,List.map_cons,List.sum_cons]
  rw [this]
theorem mem_newNodes {outs:List Nat}{sizes:List Int}{rs:List (List Int)}{n:Node} (h:n∈newNodes outs sizes rs):n.place∈outs∧(∃ z∈sizes,n.size=z.toNat)∧∃ r∈rs,n.refs=inOrder (r.map Int.toNat):=by
 unfold newNodes at h
 obtain ⟨⟨o,z,r⟩,hx,rfl⟩:=List.mem_map.mp h
 have h1:=List.of_mem_zip hx
 have h2:=List.of_mem_zip h1.2
 exact ⟨h1.1,⟨z,h2.1,rfl⟩,⟨r,h2.2,rfl⟩⟩
structure SesOk (x:Session):Prop where
 num:x.number<8
 hasc:Asc x.holds
 hlt:∀ p∈x.holds,p<128
 oasc:∀ b,x.building=some b→Asc b.outs
 olt:∀ b,x.building=some b→∀ p∈b.outs,p<128
 one:∀ b,x.building=some b→b.outs≠[]
 iasc:∀ b,x.building=some b→Asc b.ins
structure Sess (st:Store) (l:List Session):Prop where
 asc:Asc (l.map fun x=>x.number)
 ok:∀ x∈l,SesOk x
 insV:∀ x∈l,∀ b,x.building=some b→∀ p∈b.ins,p∈st.valid
 outsV:∀ x∈l,∀ b,x.building=some b→∀ p∈b.outs,p∉st.valid
 outsD:∀ x∈l,∀ y∈l,∀ b c,x.building=some b→y.building=some c→∀ p,p∈b.outs→p∈c.outs→x.number=y.number
structure Marks (st:Store) (phase:Nat) (black grey:List Nat):Prop where
 ph:phase≤2
 basc:Asc black
 gasc:Asc grey
 bval:∀ p∈black,p∈st.valid
 gval:∀ p∈grey,p∈st.valid
 bg:∀ p∈black,p∉grey
 idle:phase=0→black=[]∧grey=[]
 p2:phase=2→grey=[]
 tri:phase≠0→∀ p∈black,∀ q∈st.refs p,q∈black∨q∈grey
structure Roots (l:List (Nat×Nat)):Prop where
 asc:Asc (l.map fun r=>r.1)
 lt:∀ r∈l,r.1<32∧r.2<128
def InsM (l:List Session) (phase:Nat) (black grey:List Nat):Prop :=
 phase≠0→∀ x∈l,∀ b,x.building=some b→∀ p∈b.ins,p∈black∨p∈grey
structure StInv (s:State):Prop where
 st:StoreOk s.store
 roots:Roots s.roots
 ses:Sess s.store s.sessions
 load:s.store.load≤s.room
 room:s.room≤100000
 mks:Marks s.store s.phase s.black s.grey
 ins:InsM s.sessions s.phase s.black s.grey
theorem inv_start:StInv start :=
 ⟨⟨List.Pairwise.nil,by simp [start,Store.valid],by simp [start],by simp [start],by simp [start]⟩,⟨List.Pairwise.nil,by simp [start]⟩,
  ⟨List.Pairwise.nil,by simp [start],by simp [start],by simp [start],by simp [start]⟩,by simp [start,Store.load],by simp [start],
  ⟨by simp [start],List.Pairwise.nil,List.Pairwise.nil,by simp [start],by simp [start],by simp [start],fun _=>⟨rfl,rfl⟩,fun _=>rfl,by simp [start]⟩,fun h=>absurd rfl h⟩
theorem ses_unique {l:List Session} (h:Asc (l.map fun x=>x.number)):∀ {x y:Session},x∈l→y∈l→x.number=y.number→x=y:=by
 induction l with
 | nil=>intro x y hx;simp at hx
 | cons a r ih =>
  intro x y hx hy e
  have g:=List.pairwise_cons.mp (show ((a.number::r.map fun x=>x.number).Pairwise (·<·)) from h)
  rcases List.mem_cons.mp hx with e1 | h1
  ·rcases List.mem_cons.mp hy with e2 | h2
   ·rw [e1,e2]
   ·have:=g.1 y.number (List.mem_map.mpr ⟨y,h2,rfl⟩);rw [e1] at e;omega
  ·rcases List.mem_cons.mp hy with e2 | h2
   ·have:=g.1 x.number (List.mem_map.mpr ⟨x,h1,rfl⟩);rw [e2] at e;omega
   ·exact ih g.2 h1 h2 e
theorem session_some {s:State}{k:Nat}{x:Session} (h:s.session k=some x):x∈s.sessions∧x.number=k:=by
 unfold State.session at h
 exact ⟨List.mem_of_find?_eq_some h,by have:=List.find?_some h;simpa using this⟩
theorem session_none {s:State}{k:Nat} (h:s.session k=none):∀ x∈s.sessions,x.number≠k:=by
 unfold State.session at h
 intro x hx e
 have:=List.find?_eq_none.mp h x hx
 simp [e] at this
theorem session_of {s:State} (h:Asc (s.sessions.map fun x=>x.number)) {x:Session} (hx:x∈s.sessions):s.session x.number=some x:=by
 cases e:s.session x.number with
 | none=>exact absurd rfl (session_none e x hx)
 | some y =>
  obtain ⟨h1,h2⟩:=session_some e
  rw [ses_unique h h1 hx h2]
def setSes (x:Session) (l:List Session):List Session:=l.map fun y=>if y.number==x.number then x else y
theorem setSes_nums (x:Session):∀ l:List Session,(setSes x l).map (fun y=>y.number)=l.map fun y=>y.number
 | []=>rfl
 | a::r=>by
  have ih:=setSes_nums x r
  show (if a.number==x.number then x else a).number::(setSes x r).map (fun y=>y.number)=a.number::r.map fun y=>y.number
  rw [ih]
  by_cases e:a.number=x.number
  ·simp [e]
  ·simp [e]
theorem mem_setSes {x y:Session}{l:List Session} (h:y∈setSes x l):y=x∨(y∈l∧y.number≠x.number):=by
 obtain ⟨z,hz,e⟩:=List.mem_map.mp h
 by_cases q:z.number=x.number
 ·simp [q] at e;exact .inl e.symm
 ·simp [q] at e;subst e;exact .inr ⟨hz,q⟩
theorem mem_setSes_iff {x y:Session}{l:List Session} (hx:∃ z∈l,z.number=x.number):y∈setSes x l↔y=x∨(y∈l∧y.number≠x.number):=by
 refine ⟨mem_setSes,?_⟩
 rintro (rfl | ⟨h,n⟩)
 ·obtain ⟨z,hz,e⟩:=hx
  exact List.mem_map.mpr ⟨z,hz,by simp [e]⟩
 ·exact List.mem_map.mpr ⟨y,h,by simp [n]⟩
theorem Sess.set {st st':Store}{l:List Session}{x:Session} (h:Sess st l) (ok:SesOk x)
  (keep:∀ y∈l,y.number≠x.number→∀ b,y.building=some b→(∀ p∈b.ins,p∈st'.valid)∧∀ p∈b.outs,p∉st'.valid)
  (hi:∀ b,x.building=some b→(∀ p∈b.ins,p∈st'.valid)∧(∀ p∈b.outs,p∉st'.valid)∧∀ y∈l,y.number≠x.number→∀ c,y.building=some c→∀ p∈b.outs,p∉c.outs):Sess st' (setSes x l):=by
 refine ⟨by rw [setSes_nums];exact h.asc,fun y hy=>?_,fun y hy b e p hp=>?_,fun y hy b e p hp=>?_,fun y hy z hz b c eb ec p h1 h2=>?_⟩
 ·rcases mem_setSes hy with rfl | ⟨q,_⟩
  ·exact ok
  ·exact h.ok y q
 ·rcases mem_setSes hy with rfl | ⟨q,n⟩
  ·exact (hi b e).1 p hp
  ·exact (keep y q n b e).1 p hp
 ·rcases mem_setSes hy with rfl | ⟨q,n⟩
  ·exact (hi b e).2.1 p hp
  ·exact (keep y q n b e).2 p hp
 ·rcases mem_setSes hy with rfl | ⟨q,n⟩
  ·rcases mem_setSes hz with rfl | ⟨q2,n2⟩
   ·rfl
   ·exact absurd h2 ((hi b eb).2.2 z q2 n2 c ec p h1)
  ·rcases mem_setSes hz with rfl | ⟨q2,n2⟩
   ·exact absurd h1 ((hi c ec).2.2 y q n b eb p h2)
   ·exact h.outsD y q z q2 b c eb ec p h1 h2
theorem InsM.set {l:List Session}{x:Session}{ph:Nat}{b g b' g':List Nat} (h:InsM l ph b g) (m:∀ p,p∈b∨p∈g→p∈b'∨p∈g')
  (hx:ph≠0→∀ c,x.building=some c→∀ p∈c.ins,p∈b'∨p∈g'):InsM (setSes x l) ph b' g':=by
 intro hp y hy c e p hc
 rcases mem_setSes hy with rfl | ⟨q,_⟩
 ·exact hx hp c e p hc
 ·exact m p (h hp y q c e p hc)
def shB (st:Store) (ph:Nat) (b g l:List Nat):List Nat:=if ph=2 then takeIn (closure st l) b else b
def shG (st:Store) (ph:Nat) (b g l:List Nat):List Nat:=if ph=1 then takeIn (l.filter fun p=>!b.contains p) g else g
theorem shade_eq (s:State) (l:List Nat):s.shade l={s with black:=shB s.store s.phase s.black s.grey l,grey:=shG s.store s.phase s.black s.grey l}:=by
 unfold State.shade shB shG
 by_cases h1:s.phase=1
 ·simp [h1]
 ·by_cases h2:s.phase=2
  ·simp [h2]
  ·simp [h1,h2]
theorem Marks.shade {st:Store}{ph:Nat}{b g l:List Nat} (hs:StoreOk st) (h:Marks st ph b g) (hl:∀ p∈l,p∈st.valid):Marks st ph (shB st ph b g l) (shG st ph b g l):=by
 have h3:ph=0∨ph=1∨ph=2:=by have:=h.ph;omega
 rcases h3 with rfl | rfl | rfl
 ·exact h
 ·show Marks st 1 b (takeIn (l.filter fun p=>!b.contains p) g)
  have mf:∀ p,p∈l.filter (fun p=>!b.contains p)↔p∈l∧p∉b:=fun p=>by simp [List.mem_filter]
  refine ⟨h.ph,h.basc,asc_takeIn h.gasc,h.bval,fun p hp=>?_,fun p hb hp=>?_,by simp,by simp,fun _ p hp q hq=>?_⟩
  ·rcases mem_takeIn.mp hp with q | q
   ·exact hl p ((mf p).mp q).1
   ·exact h.gval p q
  ·rcases mem_takeIn.mp hp with q | q
   ·exact ((mf p).mp q).2 hb
   ·exact h.bg p hb q
  ·rcases h.tri (by simp) p hp q hq with a | a
   ·exact .inl a
   ·exact .inr (mem_takeIn.mpr (.inr a))
 ·show Marks st 2 (takeIn (closure st l) b) g
  have eg:=h.p2 rfl
  refine ⟨h.ph,asc_takeIn h.basc,h.gasc,fun p hp=>?_,h.gval,fun p hb hp=>?_,by simp,fun _=>eg,fun _ p hp q hq=>?_⟩
  ·rcases mem_takeIn.mp hp with q | q
   ·exact closure_valid hs hl q
   ·exact h.bval p q
  ·rw [eg] at hp;simp at hp
  ·rcases mem_takeIn.mp hp with a | a
   ·exact .inl (mem_takeIn.mpr (.inl (closure_closed hs a hq)))
   ·rcases h.tri (by simp) p a q hq with a | a
    ·exact .inl (mem_takeIn.mpr (.inr a))
    ·rw [eg] at a;simp at a
theorem shade_mono {st:Store}{ph:Nat}{b g l:List Nat}{p:Nat} (h:p∈b∨p∈g):p∈shB st ph b g l∨p∈shG st ph b g l:=by
 unfold shB shG
 rcases h with h | h
 ·left;split
  ·exact mem_takeIn.mpr (.inr h)
  ·exact h
 ·right;split
  ·exact mem_takeIn.mpr (.inr h)
  ·exact h
theorem shade_in {st:Store}{ph:Nat}{b g l:List Nat} (hs:StoreOk st) (h3:ph≤2) (h0:ph≠0) {p:Nat} (h:p∈l):p∈shB st ph b g l∨p∈shG st ph b g l:=by
 unfold shB shG
 have h3:ph=1∨ph=2:=by omega
 rcases h3 with rfl | rfl
 ·by_cases hb:p∈b
  ·exact .inl (by simpa using hb)
  ·right
   simp only [if_true]
   exact mem_takeIn.mpr (.inl (by simp [List.mem_filter,h,hb]))
 ·left
  simp only [if_true]
  exact mem_takeIn.mpr (.inl (closure_self hs h))
theorem StInv.shade {s:State} (h:StInv s) {l:List Nat} (hl:∀ p∈l,p∈s.store.valid):StInv (s.shade l):=by
 rw [shade_eq]
 exact ⟨h.st,h.roots,h.ses,h.load,h.room,h.mks.shade h.st hl,fun hp x hx b e p hb=>shade_mono (h.ins hp x hx b e p hb)⟩
theorem mark_nil {s:State} (e:s.grey=[]):s.mark={s with phase:=2}:=by
 unfold State.mark
 rw [e]
theorem mark_cons {s:State}{p:Nat}{r:List Nat} (e:s.grey=p::r):s.mark={s with black:=putIn p s.black,grey:=takeIn ((s.store.refs p).filter fun q=>q != p&&!s.black.contains q) r}:=by
 unfold State.mark
 rw [e]
theorem StInv.mark {s:State} (h:StInv s) (hp:s.phase=1):StInv s.mark:=by
 cases e:s.grey with
 | nil =>
  rw [mark_nil e]
  refine ⟨h.st,h.roots,h.ses,h.load,h.room,⟨Nat.le_refl 2,h.mks.basc,h.mks.gasc,h.mks.bval,h.mks.gval,h.mks.bg,by simp,fun _=>e,fun _=>h.mks.tri (by simp [hp])⟩,fun _=>h.ins (by simp [hp])⟩
 | cons p r =>
  rw [mark_cons e]
  have ga:=h.mks.gasc
  rw [e] at ga
  have g:=List.pairwise_cons.mp ga
  have mf:∀ q,q∈(s.store.refs p).filter (fun q=>q != p&&!s.black.contains q)↔q∈s.store.refs p∧q≠p∧q∉s.black:=fun q=>by simp [List.mem_filter]
  have mem:∀ q,q∈s.black∨q∈s.grey→q∈putIn p s.black∨q∈takeIn ((s.store.refs p).filter fun q=>q != p&&!s.black.contains q) r:=by
   rintro q (a | a)
   ·exact .inl (mem_putIn.mpr (.inr a))
   ·rw [e] at a
    rcases List.mem_cons.mp a with rfl | a
    ·exact .inl (mem_putIn.mpr (.inl rfl))
    ·exact .inr (mem_takeIn.mpr (.inr a))
  refine ⟨h.st,h.roots,h.ses,h.load,h.room,⟨h.mks.ph,asc_putIn h.mks.basc,asc_takeIn g.2,fun q hq=>?_,fun q hq=>?_,fun q hb hq=>?_,by simp [hp],by simp [hp],fun _ q hq t ht=>?_⟩,fun hp x hx b eb q hq=>mem q (h.ins hp x hx b eb q hq)⟩
  ·rcases mem_putIn.mp hq with rfl | a
   ·exact h.mks.gval q (by rw [e];simp)
   ·exact h.mks.bval q a
  ·rcases mem_takeIn.mp hq with a | a
   ·exact h.st.refs_val ((mf q).mp a).1
   ·exact h.mks.gval q (by rw [e];simp [a])
  ·rcases mem_putIn.mp hb with rfl | b
   ·rcases mem_takeIn.mp hq with a | a
    ·exact ((mf q).mp a).2.1 rfl
    ·exact Nat.lt_irrefl _ (g.1 q a)
   ·rcases mem_takeIn.mp hq with a | a
    ·exact ((mf q).mp a).2.2 b
    ·exact h.mks.bg q b (by rw [e];simp [a])
  ·rcases mem_putIn.mp hq with rfl | b
   ·by_cases tb:t∈s.black
    ·exact mem t (.inl tb)
    ·by_cases tp:t=q
     ·exact .inl (mem_putIn.mpr (.inl tp))
     ·exact .inr (mem_takeIn.mpr (.inl ((mf t).mpr ⟨ht,tp,tb⟩)))
   ·exact mem t (h.mks.tri (by simp [hp]) q b t ht)
theorem StInv.idle {s:State} (h:StInv s):StInv s.idle :=
 ⟨h.st,h.roots,h.ses,h.load,h.room,⟨Nat.zero_le 2,List.Pairwise.nil,List.Pairwise.nil,by simp [State.idle],by simp [State.idle],by simp [State.idle],fun _=>⟨rfl,rfl⟩,fun _=>rfl,fun z=>absurd rfl z⟩,fun z=>absurd rfl z⟩
theorem valid_filter {s:Store}{f:Nat→Bool}:Store.valid (s.filter fun n=>f n.place)=(Store.valid s).filter f:=by
 unfold Store.valid
 induction s with
 | nil=>rfl
 | cons a r ih =>
  cases e:f a.place <;> simp [List.filter_cons,e,ih]
theorem refs_filter {s:Store} (h:Asc s.valid) {f:Nat→Bool}{p:Nat} (hp:p∈s.valid) (hf:f p=true):Store.refs (s.filter fun n=>f n.place) p=s.refs p:=by
 obtain ⟨n,hn,rfl⟩:=mem_valid.mp hp
 rw [refs_node h hn,refs_node (by rw [valid_filter];exact h.filter f) (List.mem_filter.mpr ⟨hn,hf⟩)]
theorem load_filter_le {s:Store}{f:Node→Bool}:Store.load (s.filter f)≤s.load:=by
 unfold Store.load
 induction s with
 | nil=>simp
 | cons a r ih =>
  cases e:f a <;> simp [List.filter_cons,e] <;> omega
theorem StInv.black_closed {s:State} (h:StInv s) (hp:s.phase=2):∀ p,p∈s.black→∀ q∈s.store.refs p,q∈s.black:=by
 intro p a q hq
 rcases h.mks.tri (by simp [hp]) p a q hq with a | a
 ·exact a
 ·rw [h.mks.p2 hp] at a;simp at a
theorem StInv.knot_white {s:State} (h:StInv s) (hp:s.phase=2) {p q:Nat} (hb:p∉s.black) (hq:q∈knot s.store p):q∉s.black:=fun b =>
 hb (((mem_knot h.st).mp hq).2.in_ (h.black_closed hp) b)
theorem knot_valid {s:Store} (h:StoreOk s) {p q:Nat} (hp:p∈s.valid) (hq:q∈knot s p):q∈s.valid:=((mem_knot h).mp hq).1.valid h hp
theorem StInv.take {s:State} (h:StInv s) (hp:s.phase=2) {p w:Nat} (hb:p∉s.black) (ht:isTop s.store p=true) :
  StInv {s with store:=s.store.filter fun n=>!(knot s.store p).contains n.place,won:=w}:=by
 have hv:Store.valid (s.store.filter fun n=>!(knot s.store p).contains n.place)=s.store.valid.filter fun q=>!(knot s.store p).contains q:=valid_filter (f:=fun q=>!(knot s.store p).contains q)
 have mv:∀ q,q∈Store.valid (s.store.filter fun n=>!(knot s.store p).contains n.place)↔q∈s.store.valid∧q∉knot s.store p:=fun q=>by
  rw [hv,List.mem_filter];simp
 have mr:∀ q,q∈s.store.valid→q∉knot s.store p→Store.refs (s.store.filter fun n=>!(knot s.store p).contains n.place) q=s.store.refs q:=fun q h1 h2 =>
  refs_filter h.st.asc (f:=fun q=>!(knot s.store p).contains q) h1 (by simpa using h2)
 have tp:=(isTop_iff h.st).mp ht
 have bk:∀ q∈s.black,q∈Store.valid (s.store.filter fun n=>!(knot s.store p).contains n.place):=fun q hq =>
  (mv q).mpr ⟨h.mks.bval q hq,fun k=>h.knot_white hp hb k hq⟩
 refine ⟨⟨by rw [hv];exact h.st.asc.filter _,fun q hq=>h.st.lt q ((mv q).mp hq).1,fun n hn=>h.st.size n ((List.mem_filter.mp hn).1),fun n hn=>h.st.rasc n ((List.mem_filter.mp hn).1),fun n hn q hq=>?_⟩,h.roots,
  ⟨h.ses.asc,h.ses.ok,fun x hx b e q hq=>?_,fun x hx b e q hq a=>h.ses.outsV x hx b e q hq ((mv q).mp a).1,h.ses.outsD⟩,Nat.le_trans load_filter_le h.load,h.room,
  ⟨h.mks.ph,h.mks.basc,h.mks.gasc,bk,fun q hq=>?_,h.mks.bg,h.mks.idle,h.mks.p2,fun z q hq t ht=>?_⟩,h.ins⟩
 ·have hn':=List.mem_filter.mp hn
  have hnk:n.place∉knot s.store p:=by simpa using hn'.2
  refine (mv q).mpr ⟨h.st.rval n hn'.1 q hq,?_⟩
  rcases tp n.place (mem_valid.mpr ⟨n,hn'.1,rfl⟩) with a | a
  ·exact absurd a hnk
  ·rw [refs_node h.st.asc hn'.1] at a
   exact a q hq
 ·rcases h.ins (by simp [hp]) x hx b e q hq with a | a
  ·exact bk q a
  ·rw [h.mks.p2 hp] at a;simp at a
 ·have hq':q∈s.grey:=hq
  rw [h.mks.p2 hp] at hq';simp at hq'
 ·have hv:=h.mks.bval q hq
  have hk:q∉knot s.store p:=fun k=>h.knot_white hp hb k hq
  refine h.mks.tri z q hq t ?_
  rw [← mr q hv hk];exact ht
theorem next_some {s:State}{p:Nat} (h:s.next=some p):p∈s.store.valid∧p∉s.black∧isTop s.store p=true:=by
 unfold State.next at h
 have h1:=List.find?_some h
 have h2:=List.mem_of_find?_eq_some h
 simp only [Bool.and_eq_true,Bool.not_eq_true',List.contains_eq_mem,decide_eq_false_iff_not] at h1
 exact ⟨h2,h1.1,h1.2⟩
theorem StInv.sweep {s:State} (h:StInv s) (hp:s.phase=2):StInv s.sweep.1:=by
 unfold State.sweep
 split
 ·exact h.idle
 ·cases e:s.next with
  | none=>exact h
  | some p =>
   obtain ⟨h1,h2,h3⟩:=next_some e
   exact h.take hp h2 h3
theorem StInv.next {s:State} (h:StInv s) (hp:s.phase=2) (hn:s.store.valid.all (fun p=>s.black.contains p)=false):∃ p,s.next=some p:=by
 have:∃ p,p∈s.store.valid∧p∉s.black:=by
  rw [List.all_eq_false] at hn
  obtain ⟨p,h1,h2⟩:=hn
  exact ⟨p,h1,by simpa using h2⟩
 obtain ⟨p,h1,h2⟩:=this
 obtain ⟨t,t1,t2,t3⟩:=top_exists h.st (B:=fun q=>q∈s.black) (h.black_closed hp) _ h1 h2 (Nat.le_refl _)
 cases e:s.next with
 | some q=>exact ⟨q,rfl⟩
 | none =>
  unfold State.next at e
  have:=List.find?_eq_none.mp e t t1
  simp [t2,t3] at this
theorem StInv.unit {s:State} (h:StInv s):StInv s.unit.1:=by
 unfold State.unit
 by_cases h1:s.phase=1
 ·simp only [h1,if_true];exact h.mark h1
 ·by_cases h2:s.phase=2
  ·simp only [h2,if_true];exact h.sweep h2
  ·simp only [h1,h2,if_false];exact h
theorem StInv.work {n:Nat}:∀ {s:State},StInv s→StInv (Vastoj.work n s).1:=by
 induction n with
 | zero=>intro s h;exact h
 | succ n ih=>intro s h;exact ih h.unit
end VL
end
section
set_option maxHeartbeats 1000000
namespace VL
open Vastoj
theorem below_iff {m:Nat}{n:Int}:below m n=true↔0≤n∧n<m:=by simp [below]
theorem below_false {m:Nat}{n:Int}:below m n=false↔¬ (0≤n∧n<m):=by rw [← below_iff];simp
theorem set_eq (s:State) (x:Session):s.set x={s with sessions:=setSes x s.sessions}:=rfl
theorem opened_ok {s:State}{k:Int}{x:Session} (h:s.opened k=.ok x):(0≤k∧k<8)∧s.session k.toNat=some x:=by
 unfold State.opened at h
 split at h
 ·cases h
 ·rename_i hb
  have hb':below 8 k=true:=by simpa using hb
  refine ⟨by have:=below_iff.mp hb';omega,?_⟩
  split at h
  ·rename_i y e
   cases h
   exact e
  ·cases h
theorem opened_range {s:State}{k:Int} (h:below 8 k=false):s.opened k=.error RANGE:=by simp [State.opened,h]
theorem opened_none {s:State}{k:Int} (h:below 8 k=true) (e:s.session k.toNat=none):s.opened k=.error ABSENT:=by simp [State.opened,h,e]
theorem opened_some {s:State}{k:Int}{x:Session} (h:below 8 k=true) (e:s.session k.toNat=some x):s.opened k=.ok x:=by simp [State.opened,h,e]
theorem busy_ok {s:State}{k:Int}{x:Session}{b:Building} (h:s.busy k=.ok (x,b)):s.opened k=.ok x∧x.building=some b:=by
 unfold State.busy at h
 cases e:s.opened k with
 | error n=>rw [e] at h;cases h
 | ok y =>
  rw [e] at h
  have h':(match y.building with | some b=>Except.ok (y,b) | none=>Except.error ABSENT)=Except.ok (x,b):=h
  cases e2:y.building with
  | none=>rw [e2] at h';cases h'
  | some c =>
   rw [e2] at h'
   cases h'
   exact ⟨rfl,e2⟩
theorem StInv.ses_ok {s:State} (h:StInv s) {k:Int}{x:Session} (e:s.opened k=.ok x):x∈s.sessions∧x.number=k.toNat∧SesOk x:=by
 obtain ⟨_,e⟩:=opened_ok e
 obtain ⟨h1,h2⟩:=session_some e
 exact ⟨h1,h2,h.ses.ok x h1⟩
theorem StInv.hold {s:State} (h:StInv s) {x:Session} (hx:x∈s.sessions) {l:List Nat} (la:Asc l) (ll:∀ p∈l,p<128):StInv (s.set {x with holds:=l}):=by
 have ok:=h.ses.ok x hx
 rw [set_eq]
 refine ⟨h.st,h.roots,h.ses.set ⟨ok.num,la,ll,ok.oasc,ok.olt,ok.one,ok.iasc⟩ (fun y hy _ b e=>⟨h.ses.insV y hy b e,h.ses.outsV y hy b e⟩)
  (fun b e=>⟨h.ses.insV x hx b e,h.ses.outsV x hx b e,fun y hy n c ec p h1 h2=>n (h.ses.outsD y hy x hx c b ec e p h2 h1)⟩),h.load,h.room,h.mks,
  h.ins.set (fun _ z=>z) fun hp c e p hc=>h.ins hp x hx c e p hc⟩
theorem StInv.abort {s:State} (h:StInv s) {x:Session} (hx:x∈s.sessions):StInv (s.set {x with building:=none}):=by
 have ok:=h.ses.ok x hx
 rw [set_eq]
 refine ⟨h.st,h.roots,h.ses.set ⟨ok.num,ok.hasc,ok.hlt,by simp,by simp,by simp,by simp⟩ (fun y hy _ b e=>⟨h.ses.insV y hy b e,h.ses.outsV y hy b e⟩)
  (fun b e=>by cases e),h.load,h.room,h.mks,h.ins.set (fun _ z=>z) fun hp c e=>by cases e⟩
theorem mem_putSession {x y:Session}:∀ {l:List Session},y∈putSession x l↔y=x∨y∈l
 | []=>by simp [putSession]
 | a::r=>by
  unfold putSession
  split
  ·simp
  ·simp only [List.mem_cons,mem_putSession (l:=r)]
   constructor
   ·rintro (h | h | h) <;> simp [h]
   ·rintro (h | h | h) <;> simp [h]
theorem asc_putSession {x:Session}:∀ {l:List Session},Asc (l.map fun y=>y.number)→(∀ y∈l,y.number≠x.number)→Asc ((putSession x l).map fun y=>y.number)
 | [],_,_=>by simp [putSession,Asc]
 | a::r,h,hn=>by
  have g:=List.pairwise_cons.mp (show ((a.number::r.map fun y=>y.number).Pairwise (·<·)) from h)
  unfold putSession
  split
  ·rename_i lt
   show ((x.number::a.number::r.map fun y=>y.number).Pairwise (·<·))
   refine List.pairwise_cons.mpr ⟨fun z hz=>?_,h⟩
   rcases List.mem_cons.mp hz with rfl | hz
   ·exact lt
   ·exact Nat.lt_trans lt (g.1 z hz)
  ·rename_i lt
   show ((a.number::(putSession x r).map fun y=>y.number).Pairwise (·<·))
   refine List.pairwise_cons.mpr ⟨fun z hz=>?_,asc_putSession g.2 fun y hy=>hn y (by simp [hy])⟩
   obtain ⟨y,hy,rfl⟩:=List.mem_map.mp hz
   rcases mem_putSession.mp hy with rfl | hy
   ·have:=hn a (by simp);omega
   ·exact g.1 _ (List.mem_map.mpr ⟨y,hy,rfl⟩)
theorem StInv.open_ {s:State} (h:StInv s) {k:Nat} (hk:k<8) (e:s.session k=none):StInv {s with sessions:=putSession {number:=k,holds:=[],building:=none} s.sessions}:=by
 have hn:=session_none e
 refine ⟨h.st,h.roots,⟨asc_putSession h.ses.asc hn,fun y hy=>?_,fun y hy b eb p hp=>?_,fun y hy b eb p hp=>?_,fun y hy z hz b c eb ec p h1 h2=>?_⟩,h.load,h.room,h.mks,fun hp y hy b eb p hb=>?_⟩
 ·rcases mem_putSession.mp hy with rfl | hy
  ·exact ⟨hk,List.Pairwise.nil,by simp,by simp,by simp,by simp,by simp⟩
  ·exact h.ses.ok y hy
 ·rcases mem_putSession.mp hy with rfl | hy
  ·cases eb
  ·exact h.ses.insV y hy b eb p hp
 ·rcases mem_putSession.mp hy with rfl | hy
  ·cases eb
  ·exact h.ses.outsV y hy b eb p hp
 ·rcases mem_putSession.mp hy with rfl | hy
  ·cases eb
  ·rcases mem_putSession.mp hz with rfl | hz
   ·cases ec
   ·exact h.ses.outsD y hy z hz b c eb ec p h1 h2
 ·rcases mem_putSession.mp hy with rfl | hy
  ·cases eb
  ·exact h.ins hp y hy b eb p hb
theorem StInv.close {s:State} (h:StInv s) (f:Session→Bool):StInv {s with sessions:=s.sessions.filter f}:=by
 have sub:∀ y,y∈s.sessions.filter f→y∈s.sessions:=fun y hy=>(List.mem_filter.mp hy).1
 refine ⟨h.st,h.roots,⟨?_,fun y hy=>h.ses.ok y (sub y hy),fun y hy=>h.ses.insV y (sub y hy),fun y hy=>h.ses.outsV y (sub y hy),fun y hy z hz=>h.ses.outsD y (sub y hy) z (sub z hz)⟩,h.load,h.room,h.mks,fun hp y hy=>h.ins hp y (sub y hy)⟩
 exact List.Pairwise.sublist ((List.filter_sublist (p:=f) (l:=s.sessions)).map _) h.ses.asc
theorem places_lt {l:List Int} (h:l.all isPlace=true):∀ p∈inOrder (l.map Int.toNat),p<128:=by
 intro p hp
 obtain ⟨z,hz,rfl⟩:=List.mem_map.mp (mem_inOrder.mp hp)
 have:=below_iff.mp (List.all_eq_true.mp h z hz)
 omega
theorem StInv.begin_ {s:State} (h:StInv s) (k:Int) (outs ins:List Int):StInv (Vastoj.begin_ s k outs ins).1:=by
 unfold Vastoj.begin_
 split
 ·exact h
 ·rename_i hr
  simp only [Bool.not_eq_true,Bool.or_eq_false_iff,Bool.not_eq_false'] at hr
  split
  ·exact h
  ·rename_i x ex
   obtain ⟨hx,_,ok⟩:=h.ses_ok ex
   split
   ·exact h
   dsimp only
   split
   ·exact h
   split
   ·exact h
   split
   ·exact h
   rename_i h1 h2 h3 h4
   have ho:∀ p∈inOrder (outs.map Int.toNat),p∉s.store.valid:=fun p hp hv=>h2 (List.any_eq_true.mpr ⟨p,hp,has_iff.mpr hv⟩)
   have hi:∀ p∈inOrder (ins.map Int.toNat),p∈s.store.valid:=fun p hp=>by
    have h4':(inOrder (ins.map Int.toNat)).all s.store.has=true:=by simpa using h4
    exact has_iff.mp (List.all_eq_true.mp h4' p hp)
   have hl:∀ y∈s.sessions,∀ c,y.building=some c→∀ p∈inOrder (outs.map Int.toNat),p∉c.outs:=fun y hy c ec p hp hc=>by
    refine h3 (List.any_eq_true.mpr ⟨y,hy,?_⟩)
    rw [ec]
    exact List.any_eq_true.mpr ⟨p,hc,by simpa using hp⟩
   have one:inOrder (outs.map Int.toNat)≠[]:=fun e=>by
    cases outs with
    | nil=>simp at hr
    | cons z r =>
     have:z.toNat∈inOrder ((z::r).map Int.toNat):=mem_inOrder.mpr (by simp)
     rw [e] at this
     simp at this
   show StInv (State.shade _ _)
   rw [shade_eq,set_eq]
   refine ⟨h.st,h.roots,h.ses.set ⟨ok.num,ok.hasc,ok.hlt,?_,?_,?_,?_⟩ (fun y hy _ b e=>⟨h.ses.insV y hy b e,h.ses.outsV y hy b e⟩) ?_,h.load,h.room,h.mks.shade h.st hi,h.ins.set (fun _ z=>shade_mono z) ?_⟩
   ·rintro b e;cases e;exact asc_inOrder _
   ·rintro b e;cases e;exact places_lt hr.1.1.2
   ·rintro b e;cases e;exact one
   ·rintro b e;cases e;exact asc_inOrder _
   ·rintro b e;cases e;exact ⟨hi,ho,fun y hy _ c ec=>hl y hy c ec⟩
   ·rintro hp b e p hb;cases e;exact shade_in h.st h.mks.ph hp hb
theorem storeOk_putAll {s:Store} (h:StoreOk s) {outs:List Nat}{ins:List Nat}{sizes:List Int}{rs:List (List Int)} (oa:Asc outs) (ol:∀ p∈outs,p<128) (ov:∀ p∈outs,p∉s.valid) (iv:∀ p∈ins,p∈s.valid)
  (h1:sizes.length=outs.length) (h2:rs.length=outs.length) (hz:∀ z∈sizes,0≤z∧z≤9999) (hr:∀ l∈rs,∀ q∈l,0≤q∧q.toNat∈closure s ins++outs):StoreOk (putAll (newNodes outs sizes rs) s):=by
 have pl:=newNodes_places h1 h2
 have pv:∀ p,p∈(putAll (newNodes outs sizes rs) s).valid↔p∈outs∨p∈s.valid:=fun p=>by rw [valid_putAll,pl]
 have mo:∀ n∈newNodes outs sizes rs,n.place∈outs:=fun n hn=>(mem_newNodes hn).1
 refine ⟨asc_putAll h.asc (by rw [pl];exact oa.nodup) (fun n hn=>ov _ (mo n hn)),fun p hp=>?_,fun n hn=>?_,fun n hn=>?_,fun n hn q hq=>?_⟩
 ·rcases (pv p).mp hp with a | a
  ·exact ol p a
  ·exact h.lt p a
 ·rcases mem_putAll.mp hn with a | a
  ·obtain ⟨_,⟨z,hz',e⟩,_⟩:=mem_newNodes a
   have:=hz z hz'
   omega
  ·exact h.size n a
 ·rcases mem_putAll.mp hn with a | a
  ·obtain ⟨_,_,⟨r,_,e⟩⟩:=mem_newNodes a
   rw [e];exact asc_inOrder _
  ·exact h.rasc n a
 ·rcases mem_putAll.mp hn with a | a
  ·obtain ⟨_,_,⟨r,hr',e⟩⟩:=mem_newNodes a
   rw [e] at hq
   obtain ⟨z,hz',rfl⟩:=List.mem_map.mp (mem_inOrder.mp hq)
   rcases List.mem_append.mp (hr r hr' z hz').2 with b | b
   ·exact (pv _).mpr (.inr (closure_valid h iv b))
   ·exact (pv _).mpr (.inl b)
  ·exact (pv q).mpr (.inr (h.rval n a q hq))
theorem StInv.finish {s:State} (h:StInv s) (k:Int) (sizes refs:List Int):StInv (Vastoj.finish s k sizes refs).1:=by
 unfold Vastoj.finish
 split
 ·exact h
 ·rename_i x b eb
  obtain ⟨eo,ebd⟩:=busy_ok eb
  obtain ⟨hx,_,ok⟩:=h.ses_ok eo
  split
  ·exact h
  ·rename_i rs er
   split at er
   ·rename_i hlen
    dsimp only
    split
    ·exact h
    split
    ·exact h
    split
    ·exact h
    rename_i h1 h2 h3
    have hz:∀ z∈sizes,0≤z∧z≤9999:=fun z hz=>by
     have h1':sizes.all (fun z=>decide (0≤z)&&decide (z≤9999))=true:=by simpa using h1
     simpa using List.all_eq_true.mp h1' z hz
    have hr:∀ l∈rs,∀ q∈l,0≤q∧q.toNat∈closure s.store b.ins++b.outs:=fun l hl q hq=>by
     refine Classical.byContradiction fun hn=>h2 (List.any_eq_true.mpr ⟨l,hl,List.any_eq_true.mpr ⟨q,hq,?_⟩⟩)
     by_cases h0:q<0
     ·simp [h0]
     ·have:q.toNat∉closure s.store b.ins++b.outs:=fun m=>hn ⟨by omega,m⟩
      rw [Bool.or_eq_true,Bool.not_eq_true',← Bool.not_eq_true,List.contains_iff_mem]
      exact .inr this
    have hpl:=newNodes_places hlen (parted_len er)
    have sok:StoreOk (putAll (newNodes b.outs sizes rs) s.store):=storeOk_putAll h.st (ok.oasc b ebd) (ok.olt b ebd) (h.ses.outsV x hx b ebd) (h.ses.insV x hx b ebd) hlen (parted_len er) hz hr
    have pv:∀ p,p∈(putAll (newNodes b.outs sizes rs) s.store).valid↔p∈b.outs∨p∈s.store.valid:=fun p=>by rw [valid_putAll,hpl]
    have mk':Marks (putAll (newNodes b.outs sizes rs) s.store) s.phase s.black s.grey :=
     ⟨h.mks.ph,h.mks.basc,h.mks.gasc,fun p hp=>(pv p).mpr (.inr (h.mks.bval p hp)),fun p hp=>(pv p).mpr (.inr (h.mks.gval p hp)),h.mks.bg,h.mks.idle,h.mks.p2,fun hp p hb q hq=>h.mks.tri hp p hb q (by rw [refs_putAll_old h.st.asc sok.asc (h.mks.bval p hb)] at hq;exact hq)⟩
    show StInv (State.shade _ _)
    rw [shade_eq,set_eq]
    refine ⟨sok,h.roots,h.ses.set ⟨ok.num,asc_takeIn ok.hasc,?_,by simp,by simp,by simp,by simp⟩ ?_ (fun b e=>by cases e),?_,h.room,mk'.shade sok (fun p hp=>(pv p).mpr (.inl hp)),h.ins.set (fun _ z=>shade_mono z) (fun _ c e=>by cases e)⟩
    ·intro p hp
     rcases mem_takeIn.mp hp with a | a
     ·exact ok.olt b ebd p a
     ·exact ok.hlt p a
    ·intro y hy n c ec
     refine ⟨fun p hp=>(pv p).mpr (.inr (h.ses.insV y hy c ec p hp)),fun p hp a=>?_⟩
     rcases (pv p).mp a with a | a
     ·exact n (h.ses.outsD y hy x hx c b ec ebd p hp a)
     ·exact h.ses.outsV y hy c ec p hp a
    ·show (putAll (newNodes b.outs sizes rs) s.store).load≤s.room
     rw [load_putAll,newNodes_sizes hlen (parted_len er)]
     omega
   ·cases er
theorem mem_putRoot {r p:Nat}{x:Nat×Nat}:∀ {l:List (Nat×Nat)},Asc (l.map fun r=>r.1)→(x∈putRoot r p l↔x=(r,p)∨(x∈l∧x.1≠r))
 | [],_=>by simp [putRoot]
 | a::t,h=>by
  have g:=List.pairwise_cons.mp (show ((a.1::t.map fun r=>r.1).Pairwise (·<·)) from h)
  have gt:∀ y∈t,a.1<y.1:=fun y hy=>g.1 _ (List.mem_map.mpr ⟨y,hy,rfl⟩)
  unfold putRoot
  split
  ·rename_i e
   simp only [List.mem_cons]
   constructor
   ·rintro (q | q)
    ·exact .inl q
    ·exact .inr ⟨.inr q,by have:=gt x q;omega⟩
   ·rintro (q | ⟨q | q,n⟩)
    ·exact .inl q
    ·exact absurd (by rw [q];exact e) n
    ·exact .inr q
  ·split
   ·rename_i e lt
    simp only [List.mem_cons]
    constructor
    ·rintro (q | q | q)
     ·exact .inl q
     ·exact .inr ⟨.inl q,by rw [q];exact e⟩
     ·exact .inr ⟨.inr q,by have:=gt x q;omega⟩
    ·rintro (q | ⟨q | q,n⟩)
     ·exact .inl q
     ·exact .inr (.inl q)
     ·exact .inr (.inr q)
   ·rename_i e lt
    simp only [List.mem_cons,mem_putRoot g.2]
    constructor
    ·rintro (q | q | ⟨q,n⟩)
     ·exact .inr ⟨.inl q,by rw [q];exact e⟩
     ·exact .inl q
     ·exact .inr ⟨.inr q,n⟩
    ·rintro (q | ⟨q | q,n⟩)
     ·exact .inr (.inl q)
     ·exact .inl q
     ·exact .inr (.inr ⟨q,n⟩)
theorem asc_putRoot {r p:Nat}:∀ {l:List (Nat×Nat)},Asc (l.map fun r=>r.1)→Asc ((putRoot r p l).map fun r=>r.1)
 | [],_=>by simp [putRoot,Asc]
 | a::t,h=>by
  have g:=List.pairwise_cons.mp (show ((a.1::t.map fun r=>r.1).Pairwise (·<·)) from h)
  have ih:=asc_putRoot (r:=r) (p:=p) g.2
  unfold putRoot
  split
  ·rename_i e
   rw [← e]
   exact h
  ·split
   ·rename_i e lt
    show ((r::a.1::t.map fun r=>r.1).Pairwise (·<·))
    refine List.pairwise_cons.mpr ⟨fun z hz=>?_,h⟩
    rcases List.mem_cons.mp hz with rfl | hz
    ·exact lt
    ·exact Nat.lt_trans lt (g.1 z hz)
   ·rename_i e lt
    show ((a.1::(putRoot r p t).map fun r=>r.1).Pairwise (·<·))
    refine List.pairwise_cons.mpr ⟨fun z hz=>?_,ih⟩
    obtain ⟨y,hy,rfl⟩:=List.mem_map.mp hz
    rcases (mem_putRoot g.2).mp hy with rfl | ⟨hy,_⟩
    ·show a.1<r;omega
    ·exact g.1 _ (List.mem_map.mpr ⟨y,hy,rfl⟩)
theorem StInv.root {s:State} (h:StInv s) {r p:Nat} (hr:r<32) (hp:p<128):StInv {s with roots:=putRoot r p s.roots}:=by
 refine ⟨h.st,⟨asc_putRoot h.roots.asc,fun x hx=>?_⟩,h.ses,h.load,h.room,h.mks,h.ins⟩
 rcases (mem_putRoot h.roots.asc).mp hx with rfl | ⟨hx,_⟩
 ·exact ⟨hr,hp⟩
 ·exact h.roots.lt x hx
theorem StInv.unroot {s:State} (h:StInv s) (f:Nat×Nat→Bool):StInv {s with roots:=s.roots.filter f} :=
 ⟨h.st,⟨List.Pairwise.sublist ((List.filter_sublist (p:=f) (l:=s.roots)).map _) h.roots.asc,fun x hx=>h.roots.lt x (List.mem_filter.mp hx).1⟩,h.ses,h.load,h.room,h.mks,h.ins⟩
theorem asc_anchored (s:State):Asc s.anchored:=(asc_inOrder _).filter _
theorem mem_anchored {s:State}{p:Nat}:p∈s.anchored↔p∈s.store.valid∧((∃ r∈s.roots,r.2=p)∨∃ x∈s.sessions,p∈x.anchors):=by
 unfold State.anchored
 rw [List.mem_filter,mem_inOrder,has_iff,List.mem_append,List.mem_map,List.mem_flatMap]
 constructor
 ·rintro ⟨a,b⟩;exact ⟨b,a⟩
 ·rintro ⟨a,b⟩;exact ⟨b,a⟩
theorem mem_anchors {x:Session}{p:Nat}:p∈x.anchors↔p∈x.holds∨∃ b,x.building=some b∧p∈b.ins:=by
 unfold Session.anchors
 rw [List.mem_append]
 cases e:x.building with
 | none=>simp
 | some b=>simp
theorem StInv.collect {s:State} (h:StInv s) {n:Nat} (h0:s.phase=0):StInv {s with phase:=1,black:=[],grey:=s.anchored,need:=n,won:=0}:=by
 refine ⟨h.st,h.roots,h.ses,h.load,h.room,⟨by simp,List.Pairwise.nil,asc_anchored s,by simp,fun p hp=>(mem_anchored.mp hp).1,by simp,by simp,by simp,by simp⟩,fun _ x hx b e p hb=>?_⟩
 exact .inr (mem_anchored.mpr ⟨h.ses.insV x hx b e p hb,.inr ⟨x,hx,mem_anchors.mpr (.inr ⟨b,e,hb⟩)⟩⟩)
theorem StInv.step {s:State} (h:StInv s) (c:Call):StInv (Vastoj.step s c).1:=by
 cases c with
 | open_ k =>
  simp only [Vastoj.step]
  by_cases hb:below 8 k=true
  ·simp only [hb]
   cases e:s.session k.toNat with
   | some x=>simpa using h
   | none =>
    have:=below_iff.mp hb
    simpa using h.open_ (k:=k.toNat) (by omega) e
  ·simp only [hb];simpa using h
 | close k =>
  simp only [Vastoj.step]
  cases e:s.opened k with
  | error n=>exact h
  | ok x=>exact h.close _
 | hold k p =>
  simp only [Vastoj.step]
  by_cases hb:(!below 8 k || !isPlace p)=true
  ·simp only [hb];simpa using h
  ·simp only [hb]
   cases e:s.opened k with
   | error n=>exact h
   | ok x =>
    simp only [Bool.not_eq_true,Bool.or_eq_false_iff,Bool.not_eq_false'] at hb
    have hp:=below_iff.mp hb.2
    obtain ⟨hx,_,ok⟩:=h.ses_ok e
    have hi:StInv (s.set {x with holds:=putIn p.toNat x.holds}):=h.hold hx (asc_putIn ok.hasc) fun q hq=>by
     rcases mem_putIn.mp hq with rfl | a
     ·omega
     ·exact ok.hlt q a
    show StInv (if s.store.has p.toNat then (s.set {x with holds:=putIn p.toNat x.holds}).shade [p.toNat] else s.set {x with holds:=putIn p.toNat x.holds})
    split
    ·rename_i hv
     exact hi.shade fun q hq=>by
      have:q=p.toNat:=by simpa using hq
      subst this
      exact has_iff.mp hv
    ·exact hi
 | begin_ k o i=>exact h.begin_ k o i
 | finish k z r=>exact h.finish k z r
 | abort k =>
  simp only [Vastoj.step]
  cases e:s.busy k with
  | error n=>exact h
  | ok x =>
   obtain ⟨x,b⟩:=x
   obtain ⟨e1,_⟩:=busy_ok e
   obtain ⟨hx,_,_⟩:=h.ses_ok e1
   exact h.abort hx
 | root r p =>
  simp only [Vastoj.step]
  by_cases hb:(!below 32 r || !isPlace p)=true
  ·simp only [hb];simpa using h
  ·simp only [hb]
   by_cases hv:s.store.has p.toNat=true
   ·simp only [Bool.not_eq_true,Bool.or_eq_false_iff,Bool.not_eq_false'] at hb
    have hp:=below_iff.mp hb.2
    have hr:=below_iff.mp hb.1
    simp only [hv]
    exact (h.root (r:=r.toNat) (p:=p.toNat) (by omega) (by omega)).shade fun q hq=>by
     have:q=p.toNat:=by simpa using hq
     subst this
     exact has_iff.mp hv
   ·simp only [hv];simpa using h
 | unroot r =>
  simp only [Vastoj.step]
  by_cases hb:below 32 r=true
  ·simp only [hb];exact h.unroot _
  ·simp only [hb];simpa using h
 | collect n =>
  simp only [Vastoj.step]
  split
  ·exact h
  split
  ·exact h
  ·rename_i h1 h2
   exact h.collect (by omega)
 | work n =>
  simp only [Vastoj.step]
  split
  ·exact h
  ·exact h.work
 | cancel=>exact h.idle
 | room n =>
  simp only [Vastoj.step]
  split
  ·exact h
  split
  ·exact h
  rename_i h1 h2
  exact ⟨h.st,h.roots,h.ses,by show s.store.load≤n.toNat;omega,by show n.toNat≤100000;omega,h.mks,h.ins⟩
 | valid=>exact h
 | live=>exact h
 | why p=>exact h
 | counts=>exact h
end VL
end
section
namespace VL
open Vastoj
inductive Rch (nx:Nat→List Nat):Nat→Nat→Prop
 | refl (p:Nat):Rch nx p p
 | step {p q r:Nat}:Rch nx p q→r∈nx q→Rch nx p r
theorem reach_iff {s:Store}{p q:Nat}:Reach s p q↔Rch s.refs p q:=by
 constructor
 ·intro h
  induction h with
  | refl=>exact .refl _
  | step _ hr ih=>exact .step ih hr
 ·intro h
  induction h with
  | refl=>exact .refl _
  | step _ hr ih=>exact .step ih hr
theorem Rch.trans {nx:Nat→List Nat}{p q r:Nat} (h:Rch nx p q) (h2:Rch nx q r):Rch nx p r:=by
 induction h2 with
 | refl=>exact h
 | step _ hr ih=>exact .step ih hr
theorem Rch.in_ {nx:Nat→List Nat}{X:Nat→Prop} (hX:∀ p,X p→∀ q∈nx p,X q) {p q:Nat} (hp:X p) (r:Rch nx p q):X q:=by
 induction r with
 | refl=>exact hp
 | step _ hr ih=>exact hX _ ih _ hr
theorem Rch.rev1 {nx rv:Nat→List Nat} (h:∀ p q,q∈nx p→p∈rv q) {p q:Nat} (r:Rch nx p q):Rch rv q p:=by
 induction r with
 | refl=>exact .refl _
 | step _ hr ih=>exact (Rch.step (.refl _) (h _ _ hr)).trans ih
theorem Rch.rev {nx rv:Nat→List Nat} (h:∀ p q,p∈rv q↔q∈nx p) {p q:Nat}:Rch nx p q↔Rch rv q p :=
 ⟨Rch.rev1 fun p q e=>(h p q).mpr e,Rch.rev1 fun p q e=>(h q p).mp e⟩
theorem Rch.congr {nx ny:Nat→List Nat}{p q:Nat} (X:Nat→Prop) (h:∀ x,X x→nx x=ny x) (hX:∀ x,X x→∀ y∈nx x,X y) (hp:X p) (r:Rch nx p q):Rch ny p q∧X q:=by
 induction r with
 | refl=>exact ⟨.refl _,hp⟩
 | step _ hr ih =>
  refine ⟨.step ih.1 ?_,hX _ ih.2 _ hr⟩
  rw [← h _ ih.2];exact hr
def head (s:Store) (p:Nat):Nat:=(knot s p).headD p
theorem self_knot {s:Store} (h:StoreOk s) (p:Nat):p∈knot s p:=(mem_knot h).mpr ⟨.refl _,.refl _⟩
theorem knot_eq {s:Store} (h:StoreOk s) {p q:Nat} (hq:q∈knot s p):knot s q=knot s p:=by
 obtain ⟨h1,h2⟩:=(mem_knot h).mp hq
 refine asc_ext (asc_knot s q) (asc_knot s p) fun x=>?_
 rw [mem_knot h,mem_knot h]
 exact ⟨fun ⟨a,b⟩=>⟨h1.trans a,b.trans h2⟩,fun ⟨a,b⟩=>⟨h2.trans a,b.trans h1⟩⟩
theorem knot_cons {s:Store} (h:StoreOk s) (p:Nat):∃ r,knot s p=head s p::r:=by
 unfold head
 cases e:knot s p with
 | nil=>have:=self_knot h p;rw [e] at this;cases this
 | cons a r=>exact ⟨r,rfl⟩
theorem head_mem {s:Store} (h:StoreOk s) (p:Nat):head s p∈knot s p:=by
 obtain ⟨r,e⟩:=knot_cons h p
 rw [e];exact List.mem_cons_self
theorem head_eq {s:Store} (h:StoreOk s) {p q:Nat} (hq:q∈knot s p):head s q=head s p:=by
 have e:=knot_eq h hq
 obtain ⟨r,e1⟩:=knot_cons h q
 obtain ⟨r2,e2⟩:=knot_cons h p
 rw [e1,e2] at e
 exact (List.cons.inj e).1
theorem knot_head {s:Store} (h:StoreOk s) {p q:Nat}:q∈knot s p↔head s q=head s p:=by
 constructor
 ·exact head_eq h
 ·intro e
  have h1:=head_mem h q
  rw [e] at h1
  have h2:=head_mem h p
  have e1:knot s (head s p)=knot s q:=knot_eq h h1
  have e2:knot s (head s p)=knot s p:=knot_eq h h2
  rw [← e2,e1]
  exact self_knot h q
theorem head_head {s:Store} (h:StoreOk s) (p:Nat):head s (head s p)=head s p:=head_eq h (head_mem h p)
theorem head_valid {s:Store} (h:StoreOk s) {p:Nat} (hp:p∈s.valid):head s p∈s.valid:=knot_valid h hp (head_mem h p)
def cR (s:Store) (q h:Nat):Nat:=if head s q=h then 0 else ((s.refs q).filter fun r=>head s r==h).length
def cnt (s:Store) (h:Nat):Nat:=(s.valid.map fun q=>cR s q h).sum
theorem sum_zero {l:List Nat}:l.sum=0↔∀ x∈l,x=0:=by
 induction l with
 | nil=>simp
 | cons a r ih =>
  rw [List.sum_cons]
  constructor
  ·intro h x hx
   rcases List.mem_cons.mp hx with rfl | hx
   ·omega
   ·exact ih.mp (by omega) x hx
  ·intro h
   have h1:=h a (by simp)
   have h2:=ih.mpr fun x hx=>h x (by simp [hx])
   omega
theorem isTop_cnt {s:Store} (h:StoreOk s) {p:Nat}:isTop s p=true↔cnt s (head s p)=0:=by
 rw [isTop_iff h]
 unfold cnt
 rw [sum_zero]
 constructor
 ·intro g x hx
  obtain ⟨v,hv,rfl⟩:=List.mem_map.mp hx
  unfold cR
  split
  ·rfl
  ·rename_i hn
   rcases g v hv with a | a
   ·exact absurd (head_eq h a) hn
   ·rw [List.length_eq_zero_iff,List.filter_eq_nil_iff]
    intro q hq e
    exact a q hq ((knot_head h).mpr (by simpa using e))
 ·intro g v hv
  by_cases hn:head s v=head s p
  ·exact .inl ((knot_head h).mpr hn)
  ·refine .inr fun q hq hk=>?_
   have:=g _ (List.mem_map.mpr ⟨v,hv,rfl⟩)
   unfold cR at this
   rw [if_neg hn,List.length_eq_zero_iff,List.filter_eq_nil_iff] at this
   exact this q hq (by simpa using head_eq h hk)
theorem cnt_none {s:Store} (h:StoreOk s) {p:Nat} (hp:p∉s.valid):cnt s p=0:=by
 unfold cnt
 rw [sum_zero]
 intro x hx
 obtain ⟨v,hv,rfl⟩:=List.mem_map.mp hx
 unfold cR
 split
 ·rfl
 ·rw [List.length_eq_zero_iff,List.filter_eq_nil_iff]
  intro q hq e
  have e':head s q=p:=by simpa using e
  exact hp (e'▸head_valid h (h.refs_val hq))
section
variable {s:Store}{ns:List Node} (h:StoreOk s) (h2:StoreOk (putAll ns s)) (hn:∀ n∈ns,n.place∉s.valid)
include h h2
theorem reach_old {p q:Nat} (hp:p∈s.valid):Reach (putAll ns s) p q↔Reach s p q:=by
 rw [reach_iff,reach_iff]
 constructor
 ·intro r
  exact (r.congr (fun x=>x∈s.valid) (fun x hx=>refs_putAll_old h.asc h2.asc hx) (fun x hx y hy=>by rw [refs_putAll_old h.asc h2.asc hx] at hy;exact h.refs_val hy) hp).1
 ·intro r
  exact (r.congr (fun x=>x∈s.valid) (fun x hx=>(refs_putAll_old h.asc h2.asc hx).symm) (fun x hx y hy=>h.refs_val hy) hp).1
theorem knot_old {p:Nat} (hp:p∈s.valid):knot (putAll ns s) p=knot s p:=by
 refine asc_ext (asc_knot _ _) (asc_knot _ _) fun x=>?_
 rw [mem_knot h2,mem_knot h]
 constructor
 ·rintro ⟨a,b⟩
  have a':=(reach_old h h2 hp).mp a
  exact ⟨a',(reach_old h h2 (a'.valid h hp)).mp b⟩
 ·rintro ⟨a,b⟩
  exact ⟨(reach_old h h2 hp).mpr a,(reach_old h h2 (a.valid h hp)).mpr b⟩
theorem head_old {p:Nat} (hp:p∈s.valid):head (putAll ns s) p=head s p:=by
 unfold head;rw [knot_old h h2 hp]
theorem cR_old {q t:Nat} (hq:q∈s.valid):cR (putAll ns s) q t=cR s q t:=by
 unfold cR
 rw [head_old h h2 hq,refs_putAll_old h.asc h2.asc hq]
 have:(s.refs q).filter (fun r=>head (putAll ns s) r==t)=(s.refs q).filter fun r=>head s r==t :=
  List.filter_congr fun r hr=>by rw [head_old h h2 (h.refs_val hr)]
 rw [this]
end
theorem sum_valid_put {f:Nat→Nat}{n:Node}:∀ {s:Store},((Store.put n s).valid.map f).sum=f n.place+(s.valid.map f).sum
 | []=>rfl
 | m::r=>by
  unfold Store.put
  split
  ·rfl
  ·have:=sum_valid_put (f:=f) (n:=n) (s:=r)
   show f m.place+((Store.put n r).valid.map f).sum=f n.place+(f m.place+(Store.valid r |>.map f).sum)
   rw [this];omega
theorem sum_valid_putAll {f:Nat→Nat}:∀ {ns:List Node}{s:Store},((putAll ns s).valid.map f).sum=(ns.map fun n=>f n.place).sum+(s.valid.map f).sum
 | [],s=>by simp [putAll]
 | n::r,s=>by
  have:=sum_valid_putAll (f:=f) (ns:=r) (s:=Store.put n s)
  rw [sum_valid_put] at this
  show ((putAll r (Store.put n s)).valid.map f).sum=_
  rw [this]
  simp;omega
theorem cnt_putAll {s:Store}{ns:List Node} (h:StoreOk s) (h2:StoreOk (putAll ns s)) (t:Nat):cnt (putAll ns s) t=cnt s t+(ns.map fun n=>cR (putAll ns s) n.place t).sum:=by
 unfold cnt
 rw [sum_valid_putAll]
 have:(s.valid.map fun q=>cR (putAll ns s) q t)=s.valid.map fun q=>cR s q t:=List.map_congr_left fun q hq=>cR_old h h2 hq
 rw [this];omega
def newRows (s:Store) (ns:List Node) (p:Nat):List Nat:=if p∈ns.map (fun n=>n.place) then (putAll ns s).refs p else []
theorem reach_new {s:Store}{ns:List Node} (h:StoreOk s) (h2:StoreOk (putAll ns s)) (hn:∀ n∈ns,n.place∉s.valid) {p q:Nat} (hp:p∈ns.map fun n=>n.place) (hq:q∈ns.map fun n=>n.place) :
  Reach (putAll ns s) p q↔Rch (newRows s ns) p q:=by
 have out:∀ {x y:Nat},x∈s.valid→Rch (putAll ns s).refs x y→y∈s.valid:=fun {x y} hx r=>((reach_old h h2 hx).mp (reach_iff.mpr r)).valid h hx
 have hqn:q∉s.valid:=by
  obtain ⟨n,h1,rfl⟩:=List.mem_map.mp hq
  exact hn n h1
 rw [reach_iff]
 constructor
 ·intro r
  clear hq
  induction r with
  | refl=>exact .refl _
  | @step q r' r1 hr ih =>
   have hq':q∉s.valid:=fun hv=>hqn (out hv (.step (.refl _) hr))
   refine .step (ih hq') ?_
   unfold newRows
   have:q∈ns.map fun n=>n.place:=by
    have hv:q∈(putAll ns s).valid:=by
     by_cases e:q∈(putAll ns s).valid
     ·exact e
     ·rw [refs_none e] at hr;cases hr
    rcases valid_putAll.mp hv with a | a
    ·exact a
    ·exact absurd a hq'
   rw [if_pos this];exact hr
 ·intro r
  clear hq hqn
  induction r with
  | refl=>exact .refl _
  | step _ hr ih =>
   refine .step ih ?_
   unfold newRows at hr
   split at hr
   ·exact hr
   ·cases hr
theorem knot_new {s:Store}{ns:List Node} (h:StoreOk s) (h2:StoreOk (putAll ns s)) (hn:∀ n∈ns,n.place∉s.valid) {p:Nat} (hp:p∈ns.map fun n=>n.place) {l:List Nat} (hl:Asc l)
  (e:∀ q,q∈l↔q∈ns.map (fun n=>n.place)∧Rch (newRows s ns) p q∧Rch (newRows s ns) q p):knot (putAll ns s) p=l:=by
 refine asc_ext (asc_knot _ _) hl fun x=>?_
 rw [mem_knot h2,e x]
 constructor
 ·rintro ⟨a,b⟩
  have hpn:p∉s.valid:=by
   obtain ⟨n,h1,rfl⟩:=List.mem_map.mp hp
   exact hn n h1
  have hx:x∈ns.map fun n=>n.place:=by
   have hv:=a.valid h2 (valid_putAll.mpr (.inl hp))
   rcases valid_putAll.mp hv with c | c
   ·exact c
   ·exact absurd (((reach_old h h2 c).mp b).valid h c) hpn
  exact ⟨hx,(reach_new h h2 hn hp hx).mp a,(reach_new h h2 hn hx hp).mp b⟩
 ·rintro ⟨hx,a,b⟩
  exact ⟨(reach_new h h2 hn hp hx).mpr a,(reach_new h h2 hn hx hp).mpr b⟩
def without (s:Store) (k:List Nat):Store:=s.filter fun n=>!k.contains n.place
def within (s:Store) (k:List Nat):Store:=s.filter fun n=>k.contains n.place
theorem mem_without {s:Store}{k:List Nat}{q:Nat}:q∈(without s k).valid↔q∈s.valid∧q∉k:=by
 unfold without
 rw [valid_filter (f:=fun q=>!k.contains q),List.mem_filter];simp
theorem refs_without {s:Store} (h:Asc s.valid) {k:List Nat}{q:Nat} (hq:q∈s.valid) (hk:q∉k):(without s k).refs q=s.refs q :=
 refs_filter h (f:=fun q=>!k.contains q) hq (by simpa using hk)
section
variable {s:Store}{p:Nat} (h:StoreOk s) (ht:isTop s p=true)
include h ht
theorem storeOk_without:StoreOk (without s (knot s p)):=by
 refine ⟨?_,fun q hq=>h.lt q (mem_without.mp hq).1,fun n hn=>h.size n (List.mem_filter.mp hn).1,fun n hn=>h.rasc n (List.mem_filter.mp hn).1,fun n hn q hq=>?_⟩
 ·unfold without
  rw [valid_filter (f:=fun q=>!(knot s p).contains q)]
  exact h.asc.filter _
 ·have hn':=List.mem_filter.mp hn
  have hnk:n.place∉knot s p:=by simpa using hn'.2
  refine mem_without.mpr ⟨h.rval n hn'.1 q hq,?_⟩
  rcases (isTop_iff h).mp ht n.place (mem_valid.mpr ⟨n,hn'.1,rfl⟩) with a | a
  ·exact absurd a hnk
  ·rw [refs_node h.asc hn'.1] at a
   exact a q hq
theorem reach_without {q r:Nat} (hq:q∈s.valid) (hk:q∉knot s p):Reach (without s (knot s p)) q r↔Reach s q r:=by
 rw [reach_iff,reach_iff]
 have cl:∀ x,x∈s.valid∧x∉knot s p→∀ y∈s.refs x,y∈s.valid∧y∉knot s p:=fun x hx y hy=>by
  refine ⟨h.refs_val hy,?_⟩
  rcases (isTop_iff h).mp ht x hx.1 with a | a
  ·exact absurd a hx.2
  ·exact a y hy
 constructor
 ·intro g
  exact (g.congr (fun x=>x∈s.valid∧x∉knot s p) (fun x hx=>refs_without h.asc hx.1 hx.2) (fun x hx y hy=>by rw [refs_without h.asc hx.1 hx.2] at hy;exact cl x hx y hy) ⟨hq,hk⟩).1
 ·intro g
  exact (g.congr (fun x=>x∈s.valid∧x∉knot s p) (fun x hx=>(refs_without h.asc hx.1 hx.2).symm) cl ⟨hq,hk⟩).1
theorem reach_out {q r:Nat} (hq:q∈s.valid) (hk:q∉knot s p) (g:Reach s q r):r∉knot s p :=
 (g.in_ (X:=fun x=>x∈s.valid∧x∉knot s p) (fun x hx y hy=>by
  refine ⟨h.refs_val hy,?_⟩
  rcases (isTop_iff h).mp ht x hx.1 with a | a
  ·exact absurd a hx.2
  ·exact a y hy) ⟨hq,hk⟩).2
theorem knot_without {q:Nat} (hq:q∈s.valid) (hk:q∉knot s p):knot (without s (knot s p)) q=knot s q:=by
 have h2:=storeOk_without h ht
 refine asc_ext (asc_knot _ _) (asc_knot _ _) fun x=>?_
 rw [mem_knot h2,mem_knot h]
 constructor
 ·rintro ⟨a,b⟩
  have a':=(reach_without h ht hq hk).mp a
  exact ⟨a',(reach_without h ht (a'.valid h hq) (reach_out h ht hq hk a')).mp b⟩
 ·rintro ⟨a,b⟩
  exact ⟨(reach_without h ht hq hk).mpr a,(reach_without h ht (a.valid h hq) (reach_out h ht hq hk a)).mpr b⟩
theorem head_without {q:Nat} (hq:q∈s.valid) (hk:q∉knot s p):head (without s (knot s p)) q=head s q:=by
 unfold head;rw [knot_without h ht hq hk]
theorem cR_without {q t:Nat} (hq:q∈s.valid) (hk:q∉knot s p):cR (without s (knot s p)) q t=cR s q t:=by
 unfold cR
 rw [head_without h ht hq hk,refs_without h.asc hq hk]
 have:(s.refs q).filter (fun r=>head (without s (knot s p)) r==t)=(s.refs q).filter fun r=>head s r==t :=
  List.filter_congr fun r hr=>by
   rw [head_without h ht (h.refs_val hr) (reach_out h ht hq hk (.step (.refl _) hr))]
 rw [this]
end
theorem sum_split {f:Nat→Nat}{g:Nat→Bool}:∀ {l:List Nat},(l.map f).sum=((l.filter fun x=>!g x).map f).sum+((l.filter g).map f).sum
 | []=>rfl
 | a::r=>by
  have:=sum_split (f:=f) (g:=g) (l:=r)
  cases e:g a <;> simp [e,this] <;> omega
theorem within_valid {s:Store} (h:StoreOk s) {p:Nat} (hp:p∈s.valid):(within s (knot s p)).valid=knot s p:=by
 unfold within
 rw [valid_filter (f:=fun q=>(knot s p).contains q)]
 refine asc_ext (h.asc.filter _) (asc_knot s p) fun x=>?_
 rw [List.mem_filter]
 simp only [List.contains_iff_mem]
 exact ⟨fun z=>z.2,fun z=>⟨knot_valid h hp z,z⟩⟩
theorem cnt_without {s:Store}{p:Nat} (h:StoreOk s) (ht:isTop s p=true) (hp:p∈s.valid) (t:Nat):cnt s t=cnt (without s (knot s p)) t+((knot s p).map fun q=>cR s q t).sum:=by
 unfold cnt
 rw [sum_split (g:=fun q=>(knot s p).contains q)]
 have e1:(without s (knot s p)).valid=s.valid.filter fun x=>!(knot s p).contains x:=valid_filter (f:=fun q=>!(knot s p).contains q)
 have e2:=within_valid h hp
 unfold within at e2
 rw [valid_filter (f:=fun q=>(knot s p).contains q)] at e2
 rw [e1,e2]
 have:((s.valid.filter fun x=>!(knot s p).contains x).map fun q=>cR (without s (knot s p)) q t)=(s.valid.filter fun x=>!(knot s p).contains x).map fun q=>cR s q t :=
  List.map_congr_left fun q hq=>by
   have:=List.mem_filter.mp hq
   exact cR_without h ht this.1 (by simpa using this.2)
 rw [this]
def sizeOf (s:Store) (p:Nat):Nat:=((s.find? fun n=>n.place==p).map fun n=>n.size).getD 0
theorem size_node {s:Store} (h:Asc s.valid) {n:Node} (hn:n∈s):sizeOf s n.place=n.size:=by simp [sizeOf,find_node h hn]
theorem load_sizes {s:Store} (h:Asc s.valid):∀ {t:Store},(∀ n∈t,n∈s)→Store.load t=(t.valid.map (sizeOf s)).sum
 | [],_=>rfl
 | n::r,hs=>by
  have:=load_sizes h (t:=r) fun m hm=>hs m (by simp [hm])
  show n.size+Store.load r=sizeOf s n.place+(Store.valid r |>.map (sizeOf s)).sum
  rw [this,size_node h (hs n (by simp))]
theorem size_old {s:Store}{ns:List Node} (h:Asc s.valid) (h2:Asc (putAll ns s).valid) {p:Nat} (hp:p∈s.valid):sizeOf (putAll ns s) p=sizeOf s p:=by
 obtain ⟨n,hn,rfl⟩:=mem_valid.mp hp
 rw [size_node h hn,size_node h2 (mem_putAll.mpr (.inr hn))]
theorem size_without {s:Store} (h:Asc s.valid) {k:List Nat} (h2:Asc (without s k).valid) {q:Nat} (hq:q∈s.valid) (hk:q∉k):sizeOf (without s k) q=sizeOf s q:=by
 obtain ⟨n,hn,rfl⟩:=mem_valid.mp hq
 rw [size_node h hn,size_node h2 (List.mem_filter.mpr ⟨hn,by simpa using hk⟩)]
end VL
end
section
set_option maxHeartbeats 1000000
namespace VS
open PySem
def Rise (xs:Array Nat):Prop:=xs.toList.Pairwise (·<·)
theorem Rise.lt {xs:Array Nat} (h:Rise xs) {i j:Nat} (hij:i<j) (hj:j<xs.size):xs.getD i 0<xs.getD j 0:=by
 have h1:i<xs.size:=by omega
 have:=List.pairwise_iff_getElem.mp h i j (by simpa using h1) (by simpa using hj) hij
 simpa [Array.getD,h1,hj] using this
theorem getD_any {xs:Array Nat}{i d e:Nat} (h:i<xs.size):xs.getD i d=xs.getD i e:=by simp [Array.getD,h]
theorem go_spec {xs:Array Nat} (h:Rise xs) (j:Nat):∀ (f lo hi:Nat),lo≤hi→hi≤xs.size→hi - lo≤f→(∀ i,i<lo→xs.getD i 0<j)→(∀ i,hi≤i→i<xs.size→j≤xs.getD i 0) →
  SetTable.below.go xs j f lo hi≤xs.size∧(∀ i,i<SetTable.below.go xs j f lo hi→xs.getD i 0<j)∧∀ i,SetTable.below.go xs j f lo hi≤i→i<xs.size→j≤xs.getD i 0
 | 0,lo,hi,h1,h2,h3,h4,h5=>by
  have e:lo=hi:=by omega
  subst e
  exact ⟨h2,h4,h5⟩
 | f+1,lo,hi,h1,h2,h3,h4,h5=>by
  unfold SetTable.below.go
  by_cases c:lo<hi
  ·rw [if_pos c]
   dsimp only
   have hm:(lo+hi) / 2<xs.size:=by omega
   have e1:xs.getD ((lo+hi) / 2) j=xs.getD ((lo+hi) / 2) 0:=getD_any hm
   rw [e1]
   by_cases c2:xs.getD ((lo+hi) / 2) 0<j
   ·rw [if_pos c2]
    refine go_spec h j f _ hi (by omega) h2 (by omega) (fun i hi'=>?_) h5
    by_cases q:i=(lo+hi) / 2
    ·rw [q];exact c2
    ·have:=h.lt (i:=i) (j:=(lo+hi) / 2) (by omega) hm;omega
   ·rw [if_neg c2]
    refine go_spec h j f lo _ (by omega) (by omega) (by omega) h4 (fun i hi' hs=>?_)
    by_cases q:i=(lo+hi) / 2
    ·rw [q];omega
    ·have:=h.lt (i:=(lo+hi) / 2) (j:=i) (by omega) hs;omega
  ·rw [if_neg c]
   have e:lo=hi:=by omega
   subst e
   exact ⟨h2,h4,h5⟩
theorem below_spec {xs:Array Nat} (h:Rise xs) (j:Nat):SetTable.below xs j≤xs.size∧(∀ i,i<SetTable.below xs j→xs.getD i 0<j)∧∀ i,SetTable.below xs j≤i→i<xs.size→j≤xs.getD i 0:=by
 unfold SetTable.below
 exact go_spec h j xs.size 0 xs.size (Nat.zero_le _) (Nat.le_refl _) (by omega) (fun i hi=>absurd hi (Nat.not_lt_zero _)) (fun i h1 h2=>by omega)
theorem below_at {xs:Array Nat} (h:Rise xs) {k j:Nat} (hk:k≤xs.size) (h1:∀ i,i<k→xs.getD i 0<j) (h2:k<xs.size→j≤xs.getD k 0):SetTable.below xs j=k:=by
 obtain ⟨a,b,c⟩:=below_spec h j
 rcases Nat.lt_trichotomy (SetTable.below xs j) k with q | q | q
 ·have x1:=c _ (Nat.le_refl _) (by omega)
  have x2:=h1 _ q
  omega
 ·exact q
 ·have x1:=b k q
  have x2:=h2 (by omega)
  omega
theorem mem_getD {xs:Array Nat}{j:Nat} (h:j∈xs.toList):∃ i,i<xs.size∧xs.getD i 0=j:=by
 obtain ⟨i,hi,e⟩:=List.mem_iff_getElem.mp h
 have hi':i<xs.size:=by simpa using hi
 refine ⟨i,hi',?_⟩
 simpa [Array.getD,hi'] using e
theorem has_below {xs:Array Nat} (h:Rise xs) {j:Nat} (hj:j∈xs.toList):xs[SetTable.below xs j]?=some j:=by
 obtain ⟨i,hi,e⟩:=mem_getD hj
 have q:SetTable.below xs j=i:=below_at h (by omega) (fun i' h'=>by have:=h.lt h' hi;omega) (fun _=>by omega)
 rw [q,Array.getElem?_eq_getElem hi]
 have e':xs[i]=j:=by simpa [Array.getD,hi] using e
 rw [e']
theorem insert_rise {xs:Array Nat} (h:Rise xs) {j:Nat} (hj:j∉xs.toList):Rise (SetTable.insertAt xs (SetTable.below xs j) j):=by
 obtain ⟨a,b,c⟩:=below_spec h j
 unfold Rise
 rw [SetTable.toList_insertAt]
 refine List.pairwise_append.mpr ⟨List.Pairwise.sublist (List.take_sublist _ _) h,List.pairwise_cons.mpr ⟨fun y hy=>?_,List.Pairwise.sublist (List.drop_sublist _ _) h⟩,fun x hx y hy=>?_⟩
 ·obtain ⟨i,hi,e⟩:=List.mem_iff_getElem.mp hy
  rw [List.getElem_drop] at e
  have hlt:SetTable.below xs j+i<xs.size:=by simp at hi;omega
  have:=c (SetTable.below xs j+i) (by omega) hlt
  have e2:xs.getD (SetTable.below xs j+i) 0=y:=by simpa [Array.getD,hlt] using e
  have hne:y≠j:=fun q=>hj (by rw [← q];exact List.mem_of_mem_drop hy)
  omega
 ·have hx':x<j:=by
   obtain ⟨i,hi,e⟩:=List.mem_iff_getElem.mp hx
   rw [List.getElem_take] at e
   have hi2:i<SetTable.below xs j:=by simp at hi;omega
   have hlt:i<xs.size:=by omega
   have:=b i hi2
   have e2:xs.getD i 0=x:=by simpa [Array.getD,hlt] using e
   omega
  rcases List.mem_cons.mp hy with e | hy
  ·omega
  ·have hyj:j≤y:=by
    obtain ⟨i,hi,e⟩:=List.mem_iff_getElem.mp hy
    rw [List.getElem_drop] at e
    have hlt:SetTable.below xs j+i<xs.size:=by simp at hi;omega
    have:=c (SetTable.below xs j+i) (by omega) hlt
    have e2:xs.getD (SetTable.below xs j+i) 0=y:=by simpa [Array.getD,hlt] using e
    omega
   omega
theorem slot_free {t:SetTable} (h:Rise t.place) {j:Nat} (hs:∀ i,t.slot j≠.live i):j∉t.place.toList:=by
 intro hj
 refine hs (SetTable.below t.place j) ?_
 unfold SetTable.slot
 simp [has_below h hj]
theorem go_free {t:SetTable}{ha:Nat→Int}{hh:Int}:∀ (f:Nat) (p:SetTable.Probe) {j:Nat}{d:Option Nat},(∀ e,p.dummy=some e→∀ i,t.slot e≠.live i)→SetTable.probe.go t ha hh f p=some (.empty j d)→∀ i,t.slot (d.getD j)≠.live i
 | 0,p,j,d,_,h=>by unfold SetTable.probe.go at h;cases h
 | f+1,p,j,d,hd,h=>by
  unfold SetTable.probe.go at h
  cases e:t.slot p.j with
  | empty =>
   rw [e] at h
   have h':SetTable.Met.empty p.j p.dummy=.empty j d:=Option.some.inj h
   cases h'
   cases q:p.dummy with
   | none=>intro i;simp [e]
   | some z=>intro i;exact hd z q i
  | dummy =>
   rw [e] at h
   refine go_free f _ (fun z hz i=>?_) h
   have hz':some p.j=some z:=by
    unfold SetTable.advance at hz
    split at hz <;> exact hz
   cases hz'
   rw [e];simp
  | live k =>
   rw [e] at h
   dsimp only at h
   split at h
   ·cases h
   ·refine go_free f _ (fun z hz i=>hd z ?_ i) h
    unfold SetTable.advance at hz
    split at hz <;> exact hz
theorem freeSlot_free {t:SetTable}{h:Int}{j:Nat}{b:Bool} (e:t.freeSlot h=some (j,b)):∀ i,t.slot j≠.live i:=by
 unfold SetTable.freeSlot at e
 split at e
 ·rename_i z d q
  have e':=Option.some.inj e
  injection e' with e1 e2
  rw [← e1]
  exact go_free _ _ (fun z hz=>by cases hz) q
 ·cases e
theorem range_rise (n:Nat):Rise (Array.range n):=by
 unfold Rise
 rw [Array.toList_range]
 exact List.pairwise_lt_range
theorem standIn_rise (t:SetTable) (n:Nat):Rise (t.standIn n).place:=range_rise n
theorem orStandIn_rise {t:SetTable}{n:Nat} (h:Rise t.place):Rise (t.orStandIn n).place:=by
 unfold SetTable.orStandIn
 split
 ·exact h
 ·exact standIn_rise t n
theorem layNew_rise {t:SetTable} (hr:Rise t.place) (es:Array (Int×Value)) (h:Int) (x:Value):Rise (layNew t es h x).2.1.place:=by
 unfold layNew
 split
 ·rename_i j b e
  refine orStandIn_rise ?_
  exact insert_rise hr (slot_free hr (freeSlot_free e))
 ·exact standIn_rise _ _
theorem layNew_led (t:SetTable) (es:Array (Int×Value)) (h:Int) (x:Value):(layNew t es h x).2.1.led=t.led:=by
 unfold layNew
 split
 ·dsimp only
  unfold SetTable.orStandIn
  split
  ·rfl
  ·rfl
 ·rfl
theorem filterMap_fst_sub (f:Nat→Option Nat):∀ l:List Nat,((l.filterMap fun j=>(f j).map (j,·)).map (·.1)).Sublist l
 | []=>by simp
 | a::r=>by
  have ih:=filterMap_fst_sub f r
  cases e:f a with
  | none=>simp [List.filterMap_cons,e];exact ih.cons a
  | some b=>simp [List.filterMap_cons,e];exact ih
theorem laid_rise {mask finger moves:Nat}{led plain:Bool}{hs:Array Int}{t':SetTable}{o:Array Nat} (h:SetTable.laid mask finger moves led plain hs=some (t',o)):Rise t'.place∧t'.led=led:=by
 unfold SetTable.laid at h
 cases e:SetTable.layClean mask hs with
 | none=>rw [e] at h;cases h
 | some owner =>
  rw [e] at h
  have h':=Option.some.inj h
  injection h' with h1 h2
  subst h1
  refine ⟨?_,rfl⟩
  show List.Pairwise _ _
  exact List.Pairwise.sublist (filterMap_fst_sub (fun j=>owner.getD j none) _) List.pairwise_lt_range
theorem relay_rise {t:SetTable} (hr:Rise t.place) (es:Array (Int×Value)) (wanted:Nat):Rise (relayAll t es wanted).2.1.place∧(relayAll t es wanted).2.1.led=t.led:=by
 unfold relayAll
 split
 ·rename_i t' order e
  dsimp only
  split
  ·exact laid_rise e
  ·exact ⟨standIn_rise _ _,rfl⟩
 ·exact ⟨standIn_rise _ _,rfl⟩
end VS
end
section
set_option maxHeartbeats 1000000
namespace VS
open PySem
abbrev byText (w:World):Bool:=w.params.followText "set-order"
structure SetW (w:World) (h:Heap) (a:Addr) (es:Array (Int×Value)) (ep:Nat) (t:SetTable):Prop where
 at_:h.get? a=some {cls:=.type "set",dict:=none,data:=.set es ep t,slots:=#[]}
 fits:t.fits es.size=true
 rise:Rise t.place
 led:t.led=true∨byText w=true
theorem SetW.keep {w:World}{h h':Heap}{a:Addr}{es:Array (Int×Value)}{ep:Nat}{t:SetTable} (x:SetW w h a es ep t) (k:∀ o,h.get? a=some o→h'.get? a=some o):SetW w h' a es ep t :=
 ⟨k _ x.at_,x.fits,x.rise,x.led⟩
theorem erase_perm {α:Type}:∀ (l:List α) (i:Nat) (h:i<l.length),(l[i]::l.eraseIdx i).Perm l
 | [],i,h=>absurd h (Nat.not_lt_zero _)
 | a::r,0,h=>by simp
 | a::r,i+1,h=>by
  have ih:=erase_perm r i (by simpa using h)
  simp only [List.getElem_cons_succ,List.eraseIdx_cons_succ]
  exact (List.Perm.swap a _ _).trans (ih.cons a)
theorem pick_go {α:Type} (next:Nat→Nat):∀ (f k:Nat) (left:List α) (out:Array α),left.length=f→(pickOrder.go next f k left out).toList.Perm (out.toList++left)
 | 0,k,left,out,h=>by
  have:left=[]:=List.length_eq_zero_iff.mp h
  subst this
  unfold pickOrder.go
  simp
 | f+1,k,left,out,h=>by
  unfold pickOrder.go
  have hl:next k % left.length<left.length:=Nat.mod_lt _ (by omega)
  rw [List.getElem?_eq_getElem hl]
  dsimp only
  refine (pick_go next f (k+1) _ _ (by rw [List.length_eraseIdx_of_lt hl];omega)).trans ?_
  rw [Array.toList_push,List.append_assoc]
  refine List.Perm.append_left _ ?_
  exact erase_perm _ _ hl
theorem pick_perm {α:Type} (next:Nat→Nat) (xs:Array α):(pickOrder next xs).toList.Perm xs.toList:=by
 have:=pick_go next xs.size 0 xs.toList #[] (by simp)
 simpa [pickOrder] using this
section
variable {prog:Program}{w:World}{A:Around}{E:Value→Shared→Prop}{s:Shared}
theorem wp_choose {src:Source}{n:Nat}{Q:Nat→Shared→Prop} (hn:n≠0) (h:∀ i dr,i<n→Q i {s with drawn:=dr}):wpAny (model prog w) A (choose src n) Q E s:=fun Γ p hΓ=>by
 show Sem.wp (model prog w) Γ (.choose src n .pure) _ _ _ _
 rw [Sem.wp_choose]
 exact ⟨hn,h _ _ (Nat.mod_lt _ (Nat.pos_of_ne_zero hn))⟩
theorem wp_draw {α:Type}:∀ (n:Nat) (xs:List α) (s:Shared) {Q:List α→Shared→Prop},xs.length=n→(∀ ys dr,ys.Perm xs→Q ys {s with drawn:=dr})→wpAny (model prog w) A (drawOrder n xs) Q E s
 | 0,xs,s,Q,hl,h=>by
  have:xs=[]:=List.length_eq_zero_iff.mp hl
  subst this
  unfold drawOrder
  exact wpAny_pure (h [] s.drawn .nil)
 | n+1,[],s,Q,hl,h=>by simp at hl
 | n+1,x::r,s,Q,hl,h=>by
  unfold drawOrder
  refine wpAny_bind (wp_choose (by simp) fun i dr hi=>?_)
  rw [List.getElem?_eq_getElem hi]
  dsimp only
  refine wpAny_bind (wp_draw n _ _ (by rw [List.length_eraseIdx_of_lt hi];simp at hl ⊢;omega) fun ys dr' hp=>?_)
  refine wpAny_pure (h _ dr' ?_)
  exact (List.Perm.cons _ hp).trans (erase_perm _ _ hi)
theorem wp_state {a:Addr}{es:Array (Int×Value)}{ep:Nat}{t:SetTable} (x:SetW w s.heap a es ep t) {Q:(Array (Int×Value)×Nat×SetTable)→Shared→Prop} (h:Q (es,ep,t) s):wpAny (model prog w) A (setState a) Q E s :=
 wpAny_setState_of x.at_ rfl x.fits h
theorem wp_byText {Q:Bool→Shared→Prop} (h:Q (byText w) s):wpAny (model prog w) A setsByText Q E s:=by
 unfold setsByText
 exact wpAny_bind (wpAny_askSetting (wpAny_pure h))
theorem wp_drawn {a:Addr}{es:Array (Int×Value)}{ep:Nat}{t:SetTable} (x:SetW w s.heap a es ep t) {Q:Bool→Shared→Prop} (h:Q (!byText w&&(!t.plain&&decide (es.size>1))) s):wpAny (model prog w) A (setDrawn a) Q E s:=by
 unfold setDrawn
 refine wpAny_bind (wp_state x ?_)
 dsimp only
 exact wpAny_bind (wp_byText (wpAny_pure h))
theorem wp_nextT {a:Addr}{es:Array (Int×Value)}{ep:Nat}{t:SetTable} (x:SetW w s.heap a es ep t) (hb:byText w=true) {sl i:Nat}{Q:Option (Value×Nat)→Shared→Prop}
  (h:Q (((pickOrder (w.params.setOrder a ep) es)[i]?).map fun e=>(e.2,sl)) s):wpAny (model prog w) A (setNext a sl i ep) Q E s:=by
 unfold setNext
 refine wpAny_bind (wp_state x ?_)
 dsimp only
 refine wpAny_bind (wp_byText ?_)
 rw [hb]
 simp only [if_true,bne_self_eq_false,Bool.false_eq_true,if_false]
 unfold setWalk
 refine wpAny_bind (wpAny_bind (wp_state x ?_))
 dsimp only
 refine wpAny_bind (wp_byText ?_)
 rw [hb]
 simp only [if_true]
 exact wpAny_bind (wpAny_askSetting (wpAny_pure (wpAny_pure h)))
theorem wp_nextP {a:Addr}{es:Array (Int×Value)}{ep:Nat}{t:SetTable} (x:SetW w s.heap a es ep t) (hb:byText w=false) (hd:(!t.plain&&decide (es.size>1))=false) {sl i:Nat}{Q:Option (Value×Nat)→Shared→Prop}
  (h:Q (match es[SetTable.below t.place sl]?,t.place[SetTable.below t.place sl]? with | some (_,x),some j=>some (x,j+1) | _,_=>none) s):wpAny (model prog w) A (setNext a sl i ep) Q E s:=by
 have hl:t.led=true:=by
  rcases x.led with q | q
  ·exact q
  ·rw [hb] at q;cases q
 unfold setNext
 refine wpAny_bind (wp_state x ?_)
 dsimp only
 refine wpAny_bind (wp_byText ?_)
 rw [hb]
 simp only [Bool.false_eq_true,if_false]
 refine wpAny_ite_split (fun q=>?_) fun _=>?_
 ·have q':(!t.plain&&decide (es.size>1))=true:=q
  rw [hd] at q';cases q'
 ·refine wpAny_bind ?_
  show wpAny _ _ (if (!t.led&&!es.isEmpty)=true then _ else _) _ _ _
  rw [hl]
  simp only [Bool.not_true,Bool.false_and,Bool.false_eq_true,if_false]
  exact wpAny_pure (wpAny_pure h)
end
end VS
end
section
set_option maxHeartbeats 2000000
namespace VS
open PySem
theorem si_next_slot:Slot "set_iterator" "__next__" "set_iterator.__next__":=.of (owner:="set_iterator") (n:="__next__") (by rw [typeLookup_type,builtinLookup_eq_fast];kernel_rfl) (by decide +kernel) (by decide +kernel) (by decide +kernel) (by first | exact .inl (by decide +kernel) | exact .inr (by decide +kernel)) (by rw [isSubtype_type];kernel_rfl)
theorem si_next_entry:entryFor table "set_iterator.__next__"=some Builtin.«set_iterator.__next__»:=entryFor_of_tree (by kernel_rfl)
theorem si_next_args (a:Value):argsOk "set_iterator.__next__" ⟨[a],[]⟩:=by unfold argsOk;kernel_rfl
theorem si_iter_slot:Slot "set_iterator" "__iter__" "set_iterator.__iter__":=.of (owner:="set_iterator") (n:="__iter__") (by rw [typeLookup_type,builtinLookup_eq_fast];kernel_rfl) (by decide +kernel) (by decide +kernel) (by decide +kernel) (by first | exact .inl (by decide +kernel) | exact .inr (by decide +kernel)) (by rw [isSubtype_type];kernel_rfl)
theorem si_iter_entry:entryFor table "set_iterator.__iter__"=some Builtin.«dict_keyiterator.__iter__»:=entryFor_alias (id':="dict_keyiterator.__iter__") (by kernel_rfl) rfl (by decide +kernel) (by kernel_rfl)
theorem si_iter_args (a:Value):argsOk "set_iterator.__iter__" ⟨[a],[]⟩:=by unfold argsOk;kernel_rfl
theorem set_iter_entry:entryFor table "set.__iter__"=some Builtin.«frozenset.__iter__»:=entryFor_alias (id':="frozenset.__iter__") (by kernel_rfl) rfl (by decide +kernel) (by kernel_rfl)
abbrev itObj (f:Value) (i:Nat) (a:Addr) (n ep:Nat):Obj:={cls:=.type "set_iterator",dict:=none,data:=.fields #[f,.int i 0,.ref a,.int n 0,.int ep 0],slots:=#[]}
section
variable {prog:Program}{w:World}{A:Around}{E:Value→Shared→Prop}{s:Shared}
theorem si_self {I a:Addr}{f:Value}{i n ep:Nat}{Q:Value→Shared→Prop} (hit:s.heap.get? I=some (itObj f i a n ep)) (h:Q (.ref I) s):wpAny (model prog w) A (pyIter (.ref I)) Q E s:=by
 have hT:s.TypeIs (.ref I) "set_iterator":=⟨_,hit,rfl⟩
 refine wpAny_pyIter_slot hT si_iter_slot (wpAny_call_entry si_iter_slot hT si_iter_entry ?_ (si_iter_args _))
 exact wpAny_pure ⟨_,rfl,"set_iterator",_,hT,si_next_slot.lookup,h⟩
theorem wp_entries {a:Addr}{es:Array (Int×Value)}{ep:Nat}{t:SetTable} (x:SetW w s.heap a es ep t) {Q:Array (Int×Value)→Shared→Prop} (h:Q es s):wpAny (model prog w) A (setEntries a) Q E s :=
 wpAny_setEntries_of x.at_ rfl x.fits h
theorem si_item {I a:Addr}{es:Array (Int×Value)}{ep:Nat}{t:SetTable}{sl sl' i:Nat}{v:Value}{Q:Option Value→Shared→Prop} (hit:s.heap.get? I=some (itObj (.int sl 0) i a es.size ep)) (x:SetW w s.heap a es ep t)
  (hn:∀ (A:Around) (E:Value→Shared→Prop) (Q:Option (Value×Nat)→Shared→Prop),Q (some (v,sl')) s→wpAny (model prog w) A (setNext a sl i ep) Q E s)
  (hQ:∀ h',h'.get? I=some (itObj (.int sl' 0) (i+1) a es.size ep)→Heap.SameBut I s.heap h'→Q (some v) {s with heap:=h'}):wpAny (model prog w) A (pyNext (.ref I)) Q E s:=by
 have hT:s.TypeIs (.ref I) "set_iterator":=⟨_,hit,rfl⟩
 unfold pyNext
 refine wpAny_bind (wpAny_attempt (wpAny_callSpecial?_slot (name:=Str.ofString "__next__") hT si_next_slot (wpAny_call_entry si_next_slot hT si_next_entry ?_ (si_next_args _))))
 unfold Builtin.«set_iterator.__next__»
 refine wpAny_bind (wpAny_pure ?_)
 refine wpAny_bind (wpAny_fieldsOf hit rfl ?_)
 refine wpAny_bind (wp_entries x ?_)
 rw [if_neg (by simp)]
 dsimp only
 refine wpAny_bind (hn _ _ _ ?_)
 dsimp only
 refine wpAny_bind (wpAny_setField_rec hit (by simp) fun h1 g1 k1=>?_)
 refine wpAny_bind (wpAny_setField_rec g1 (by simp) fun h2 g2 k2=>?_)
 refine wpAny_pure ⟨_,rfl,wpAny_pure (hQ h2 ?_ (k1.trans k2))⟩
 refine g2.trans ?_
 simp [rawInt,itObj]
theorem si_end {I a:Addr}{es:Array (Int×Value)}{ep:Nat}{t:SetTable}{sl i:Nat}{Q:Option Value→Shared→Prop} (hh:A.handled=none) (hit:s.heap.get? I=some (itObj (.int sl 0) i a es.size ep)) (x:SetW w s.heap a es ep t)
  (hn:∀ (A:Around) (E:Value→Shared→Prop) (Q:Option (Value×Nat)→Shared→Prop),Q none s→wpAny (model prog w) A (setNext a sl i ep) Q E s)
  (hQ:∀ h',Heap.ExtBut I s.heap h'→Q none {s with heap:=h'}):wpAny (model prog w) A (pyNext (.ref I)) Q E s:=by
 have hT:s.TypeIs (.ref I) "set_iterator":=⟨_,hit,rfl⟩
 unfold pyNext
 refine wpAny_bind (wpAny_attempt (wpAny_callSpecial?_slot (name:=Str.ofString "__next__") hT si_next_slot (wpAny_call_entry si_next_slot hT si_next_entry ?_ (si_next_args _))))
 unfold Builtin.«set_iterator.__next__»
 refine wpAny_bind (wpAny_pure ?_)
 refine wpAny_bind (wpAny_fieldsOf hit rfl ?_)
 refine wpAny_bind (wp_entries x ?_)
 rw [if_neg (by simp)]
 dsimp only
 refine wpAny_bind (hn _ _ _ ?_)
 dsimp only
 refine wpAny_bind (wpAny_setField_rec hit (by simp) fun h1 g1 k1=>?_)
 refine wpAny_bind ?_
 simp only [newExc,newTuple]
 refine wpAny_bind (wpAny_newObj_type ?_ (by size_fits))
 refine wpAny_bind (m:=firstArgMember _ _) (wpAny_of_eq (a:=Value.none) (by first | rfl | (simp only [firstArgMember];rfl)) ?_)
 refine wpAny_newObj_type ?_ (by size_fits)
 simp only [raiseNew]
 refine wpAny_bind (wpAny_handled ?_)
 rw [show A.in1.handled=none from hh]
 refine wpAny_bind (wpAny_pure (wpAny_throw ?_))
 refine wpAny_bind (wpAny_isInstance (T:="StopIteration") (b:=true) ⟨_,Heap.get?_push_size _ rfl,rfl⟩ isSubtype_stop ?_)
 exact wpAny_pure (hQ _ ((k1.extBut.push _).push _))
theorem sd_item {I a tp:Addr}{es:Array (Int×Value)}{ep i n:Nat}{t:SetTable}{pl:List Nat}{j:Nat}{z:Int}{v:Value}{Q:Option Value→Shared→Prop} (hit:s.heap.get? I=some (itObj (.ref tp) i a es.size ep)) (x:SetW w s.heap a es ep t)
  (ht:s.heap.get? tp=some {cls:=.type "tuple",data:=.seq (pl.map fun (k:Nat)=>rawInt k).toArray n}) (hj:pl[i]?=some j) (hv:es[j]?=some (z,v))
  (hQ:∀ h',h'.get? I=some (itObj (.ref tp) (i+1) a es.size ep)→Heap.SameBut I s.heap h'→Q (some v) {s with heap:=h'}):wpAny (model prog w) A (pyNext (.ref I)) Q E s:=by
 have hT:s.TypeIs (.ref I) "set_iterator":=⟨_,hit,rfl⟩
 unfold pyNext
 refine wpAny_bind (wpAny_attempt (wpAny_callSpecial?_slot (name:=Str.ofString "__next__") hT si_next_slot (wpAny_call_entry si_next_slot hT si_next_entry ?_ (si_next_args _))))
 unfold Builtin.«set_iterator.__next__»
 refine wpAny_bind (wpAny_pure ?_)
 refine wpAny_bind (wpAny_fieldsOf hit rfl ?_)
 refine wpAny_bind (wp_entries x ?_)
 rw [if_neg (by simp)]
 dsimp only
 refine wpAny_bind (wpAny_seqItems ht rfl ?_)
 have e:((pl.map fun (k:Nat)=>rawInt k).toArray)[(i:Int).toNat]?=some (.int (j:Int) 0):=by
  rw [Int.toNat_natCast,List.getElem?_toArray,List.getElem?_map,hj]
  rfl
 dsimp only
 rw [e]
 dsimp only
 unfold setNextDrawn
 refine wpAny_bind (wpAny_bind (wp_state x ?_))
 dsimp only
 rw [if_neg (by simp),Int.toNat_natCast,hv]
 refine wpAny_pure ?_
 refine wpAny_bind (wpAny_setField_rec hit (by simp) fun h1 g1 k1=>?_)
 refine wpAny_pure ⟨_,rfl,wpAny_pure (hQ h1 ?_ k1)⟩
 refine g1.trans ?_
 simp [rawInt,itObj]
theorem sd_end {I a tp:Addr}{es:Array (Int×Value)}{ep i n:Nat}{t:SetTable}{pl:List Nat}{Q:Option Value→Shared→Prop} (hh:A.handled=none) (hit:s.heap.get? I=some (itObj (.ref tp) i a es.size ep)) (x:SetW w s.heap a es ep t)
  (ht:s.heap.get? tp=some {cls:=.type "tuple",data:=.seq (pl.map fun (k:Nat)=>rawInt k).toArray n}) (hj:pl[i]?=none)
  (hQ:∀ h',Heap.ExtBut I s.heap h'→Q none {s with heap:=h'}):wpAny (model prog w) A (pyNext (.ref I)) Q E s:=by
 have hT:s.TypeIs (.ref I) "set_iterator":=⟨_,hit,rfl⟩
 unfold pyNext
 refine wpAny_bind (wpAny_attempt (wpAny_callSpecial?_slot (name:=Str.ofString "__next__") hT si_next_slot (wpAny_call_entry si_next_slot hT si_next_entry ?_ (si_next_args _))))
 unfold Builtin.«set_iterator.__next__»
 refine wpAny_bind (wpAny_pure ?_)
 refine wpAny_bind (wpAny_fieldsOf hit rfl ?_)
 refine wpAny_bind (wp_entries x ?_)
 rw [if_neg (by simp)]
 dsimp only
 refine wpAny_bind (wpAny_seqItems ht rfl ?_)
 have e:((pl.map fun (k:Nat)=>rawInt k).toArray)[(i:Int).toNat]?=none:=by
  rw [Int.toNat_natCast,List.getElem?_toArray,List.getElem?_map,hj]
  rfl
 dsimp only
 rw [e]
 dsimp only
 refine wpAny_bind (wpAny_setField_rec hit (by simp) fun h0 g0 k0=>?_)
 refine wpAny_bind (wpAny_setField_rec g0 (by simp) fun h1 g1 k1=>?_)
 refine wpAny_bind ?_
 simp only [newExc,newTuple]
 refine wpAny_bind (wpAny_newObj_type ?_ (by size_fits))
 refine wpAny_bind (m:=firstArgMember _ _) (wpAny_of_eq (a:=Value.none) (by first | rfl | (simp only [firstArgMember];rfl)) ?_)
 refine wpAny_newObj_type ?_ (by size_fits)
 simp only [raiseNew]
 refine wpAny_bind (wpAny_handled ?_)
 rw [show A.in1.handled=none from hh]
 refine wpAny_bind (wpAny_pure (wpAny_throw ?_))
 refine wpAny_bind (wpAny_isInstance (T:="StopIteration") (b:=true) ⟨_,Heap.get?_push_size _ rfl,rfl⟩ isSubtype_stop ?_)
 exact wpAny_pure (hQ _ (((k0.trans k1).extBut.push _).push _))
end
def slotAt (pl:Array Nat):Nat→Nat
 | 0=>0
 | i+1=>pl.getD i 0+1
section
variable {prog:Program}{w:World}{A:Around}{E:Value→Shared→Prop}{s:Shared}
theorem nextP_item {a:Addr}{es:Array (Int×Value)}{ep:Nat}{t:SetTable} (x:SetW w s.heap a es ep t) (hb:byText w=false) (hd:(!t.plain&&decide (es.size>1))=false) {i:Nat}{z:Int}{v:Value} (hv:es[i]?=some (z,v)) {Q:Option (Value×Nat)→Shared→Prop}
  (h:Q (some (v,slotAt t.place (i+1))) s):wpAny (model prog w) A (setNext a (slotAt t.place i) i ep) Q E s:=by
 have hsz:t.place.size=es.size:=by
  have:=x.fits
  simp only [SetTable.fits,Bool.and_eq_true,beq_iff_eq] at this
  exact this.1
 have hi:i<es.size:=by
  rcases Nat.lt_or_ge i es.size with q | q
  ·exact q
  ·rw [Array.getElem?_eq_none q] at hv;cases hv
 have eb:SetTable.below t.place (slotAt t.place i)=i:=by
  cases i with
  | zero=>exact below_at x.rise (Nat.zero_le _) (fun j hj=>absurd hj (Nat.not_lt_zero _)) (fun _=>Nat.zero_le _)
  | succ k =>
   refine below_at x.rise (by omega) (fun j hj=>?_) (fun _=>x.rise.lt (Nat.lt_succ_self k) (by omega))
   show t.place.getD j 0<t.place.getD k 0+1
   rcases Nat.lt_or_ge j k with q | q
   ·have:=x.rise.lt q (by omega);omega
   ·have:j=k:=by omega
    subst this;omega
 refine wp_nextP x hb hd ?_
 rw [eb,hv]
 have hi2:i<t.place.size:=by omega
 rw [Array.getElem?_eq_getElem hi2]
 have e2:t.place[i]+1=slotAt t.place (i+1):=by simp [slotAt,Array.getD,hi2]
 dsimp only
 rw [e2]
 exact h
theorem nextP_end {a:Addr}{es:Array (Int×Value)}{ep:Nat}{t:SetTable} (x:SetW w s.heap a es ep t) (hb:byText w=false) (hd:(!t.plain&&decide (es.size>1))=false) {Q:Option (Value×Nat)→Shared→Prop}
  (h:Q none s):wpAny (model prog w) A (setNext a (slotAt t.place es.size) es.size ep) Q E s:=by
 have hsz:t.place.size=es.size:=by
  have:=x.fits
  simp only [SetTable.fits,Bool.and_eq_true,beq_iff_eq] at this
  exact this.1
 have eb:SetTable.below t.place (slotAt t.place es.size)=es.size:=by
  refine below_at x.rise (by omega) (fun j hj=>?_) (fun q=>by omega)
  cases e:es.size with
  | zero=>omega
  | succ k =>
   show t.place.getD j 0<t.place.getD k 0+1
   rcases Nat.lt_or_ge j k with q | q
   ·have:=x.rise.lt q (by omega);omega
   ·have:j=k:=by omega
    subst this;omega
 refine wp_nextP x hb hd ?_
 rw [eb,Array.getElem?_eq_none (Nat.le_refl _)]
 exact h
theorem walkN (hh:A.handled=none) {I a:Addr} (hne:a≠I) {es:Array (Int×Value)}{ep:Nat}{t:SetTable}{sl:Nat→Nat}{ord:List Value} (hl:ord.length=es.size)
  (hi:∀ (i:Nat) (v:Value) (s:Shared) (A:Around) (E:Value→Shared→Prop) (Q:Option (Value×Nat)→Shared→Prop),SetW w s.heap a es ep t→ord[i]?=some v→Q (some (v,sl (i+1))) s→wpAny (model prog w) A (setNext a (sl i) i ep) Q E s)
  (he:∀ (s:Shared) (A:Around) (E:Value→Shared→Prop) (Q:Option (Value×Nat)→Shared→Prop),SetW w s.heap a es ep t→Q none s→wpAny (model prog w) A (setNext a (sl es.size) es.size ep) Q E s) :
  Walks prog w A I [I,a] [I] es.size (fun i v=>ord[i]?=some v) (fun i h=>h.get? I=some (itObj (.int (sl i) 0) i a es.size ep)∧SetW w h a es ep t) where
 sub:=fun b hb=>by simp at hb;simp [hb]
 frame:=fun _ _ _ st hk=>⟨hk I (by simp) _ st.1,st.2.keep fun o e=>hk a (by simp) o e⟩
 item:=fun i s Q E hlt st hQ=>by
  obtain ⟨v,hv⟩:∃ v,ord[i]?=some v:=⟨_,List.getElem?_eq_getElem (by omega)⟩
  refine si_item st.1 st.2 (fun A E Q q=>hi i v s A E Q st.2 hv q) fun h' g k=>?_
  exact hQ v h' s.toks hv ⟨g,st.2.keep fun o e=>k.extBut a o hne e⟩ fun b o hb e=>k.extBut b o (fun q=>hb (by simp [q])) e
 done:=fun s Q E st hQ=>si_end hh st.1 st.2 (fun A E Q q=>he s A E Q st.2 q) fun h' k=>hQ h' s.toks fun b o hb e=>k b o (fun q=>hb (by simp [q])) e
 self:=fun _ _ _ _ st hQ=>si_self st.1 hQ
theorem walkD (hh:A.handled=none) {I a tp:Addr} (hne:a≠I) (hnt:tp≠I) {es:Array (Int×Value)}{ep n:Nat}{t:SetTable}{pl:List Nat} (hl:pl.length=es.size) (hp:∀ j∈pl,j<es.size) :
  Walks prog w A I [I,a,tp] [I] es.size (fun i v=>(pl.map fun j=>(es.getD j (0,.none)).2)[i]?=some v)
   (fun i h=>h.get? I=some (itObj (.ref tp) i a es.size ep)∧SetW w h a es ep t∧h.get? tp=some {cls:=.type "tuple",data:=.seq (pl.map fun (k:Nat)=>rawInt k).toArray n}) where
 sub:=fun b hb=>by simp at hb;simp [hb]
 frame:=fun _ _ _ st hk=>⟨hk I (by simp) _ st.1,st.2.1.keep fun o e=>hk a (by simp) o e,hk tp (by simp) _ st.2.2⟩
 item:=fun i s Q E hlt st hQ=>by
  have hj:pl[i]?=some (pl[i]'(by omega)):=List.getElem?_eq_getElem (by omega)
  have hb:=hp _ (List.mem_of_getElem? hj)
  have hv:es[pl[i]'(by omega)]?=some ((es[pl[i]'(by omega)]'hb).1,(es[pl[i]'(by omega)]'hb).2):=Array.getElem?_eq_getElem hb
  refine sd_item st.1 st.2.1 st.2.2 hj hv fun h' g k=>?_
  refine hQ _ h' s.toks ?_ ⟨g,st.2.1.keep fun o e=>k.extBut a o hne e,k.extBut tp _ hnt st.2.2⟩ fun b o hb e=>k.extBut b o (fun q=>hb (by simp [q])) e
  rw [List.getElem?_map,hj]
  simp [Array.getD,hb]
 done:=fun s Q E st hQ=>sd_end hh st.1 st.2.1 st.2.2 (List.getElem?_eq_none (by omega)) fun h' k=>hQ h' s.toks fun b o hb e=>k b o (fun q=>hb (by simp [q])) e
 self:=fun _ _ _ _ st hQ=>si_self st.1 hQ
theorem set_iter {a:Addr}{es:Array (Int×Value)}{ep:Nat}{t:SetTable} (x:SetW w s.heap a es ep t) (hz:es.size≤sizeLine) {Q:Value→Shared→Prop}
  (h:∀ (h':Heap) (dr:Drawn) (I:Addr) (fp:List Addr) (ord:List Value) (St:Nat→Heap→Prop),(∀ b o,s.heap.get? b=some o→h'.get? b=some o)→ord.Perm (es.toList.map fun e=>e.2)→I∈fp→s.heap.get? I=none →
   (∀ b∈fp,b=a∨s.heap.get? b=none)→(∀ A':Around,A'.handled=none→Walks prog w A' I fp [I] es.size (fun i v=>ord[i]?=some v) St)→St 0 h'→Q (.ref I) {s with heap:=h',drawn:=dr}):wpAny (model prog w) A (pyIter (.ref a)) Q E s:=by
 have hT:s.TypeIs (.ref a) "set":=⟨_,x.at_,rfl⟩
 refine wpAny_pyIter_slot hT PySem.F.slot_set_iter (wpAny_call_entry PySem.F.slot_set_iter hT set_iter_entry ?_ (PySem.F.args_set_iter_1 _))
 unfold Builtin.«frozenset.__iter__» Builtin.Frozenset.slot0 Builtin.Frozenset.sizeOf
 refine wpAny_bind (wpAny_bind (wpAny_pure ?_))
 refine wpAny_pure ?_
 refine wpAny_bind (wpAny_bind (wp_entries x (wpAny_pure ?_)))
 refine wpAny_bind (wp_drawn x ?_)
 have fresh:s.heap.get? s.heap.objs.size=none:=by
  cases q:s.heap.get? s.heap.objs.size with
  | none=>rfl
  | some o=>exact absurd (Heap.lt_size q) (Nat.lt_irrefl _)
 have fresh1:s.heap.get? (s.heap.objs.size+1)=none:=by
  cases q:s.heap.get? (s.heap.objs.size+1) with
  | none=>rfl
  | some o=>exact absurd (Heap.lt_size q) (Nat.not_lt.mpr (Nat.le_succ _))
 have hlt:=Heap.lt_size x.at_
 cases hb:byText w with
 | true =>
  simp only [Bool.not_true,Bool.false_and,Bool.false_eq_true,if_false]
  refine wpAny_bind (wpAny_pure ?_)
  unfold setEpoch
  refine wpAny_bind (wpAny_bind (wp_state x (wpAny_pure ?_)))
  refine wpAny_bind (wpAny_newObj_type ?_ (by size_fits))
  refine wpAny_pure ⟨_,rfl,"set_iterator",_,⟨_,Heap.get?_push_size _ rfl,rfl⟩,si_next_slot.lookup,?_⟩
  refine h (s.heap.push _) s.drawn s.heap.objs.size [s.heap.objs.size,a] ((pickOrder (w.params.setOrder a ep) es).toList.map fun e=>e.2) _ (fun b o e=>Heap.get?_push_of_some _ e) ((pick_perm _ es).map _) (by simp) fresh (fun b hb=>?_) (fun A' hA=>walkN (sl:=fun _=>0) hA (Nat.ne_of_lt hlt) ?_ (fun i v s2 A2 E2 Q2 y hv q=>?_) (fun s2 A2 E2 Q2 y q=>?_)) ⟨?_,x.keep fun o e=>Heap.get?_push_of_some _ e⟩
  ·simp at hb
   rcases hb with rfl | rfl
   ·exact .inr fresh
   ·exact .inl rfl
  ·rw [List.length_map,(pick_perm _ es).length_eq,Array.length_toList]
  ·refine wp_nextT y hb ?_
   rw [List.getElem?_map,Array.getElem?_toList] at hv
   cases e:(pickOrder (w.params.setOrder a ep) es)[i]? with
   | none=>rw [e] at hv;cases hv
   | some p =>
    rw [e] at hv
    have:p.2=v:=Option.some.inj hv
    simp only [Option.map_some,this]
    exact q
  ·refine wp_nextT y hb ?_
   rw [Array.getElem?_eq_none (by rw [← Array.length_toList,(pick_perm _ es).length_eq,Array.length_toList];exact Nat.le_refl _)]
   exact q
  ·exact Heap.get?_push_size _ rfl
 | false =>
  simp only [Bool.not_false,Bool.true_and]
  cases hd:(!t.plain&&decide (es.size>1)) with
  | false =>
   simp only [Bool.false_eq_true,if_false]
   refine wpAny_bind (wpAny_pure ?_)
   unfold setEpoch
   refine wpAny_bind (wpAny_bind (wp_state x (wpAny_pure ?_)))
   refine wpAny_bind (wpAny_newObj_type ?_ (by size_fits))
   refine wpAny_pure ⟨_,rfl,"set_iterator",_,⟨_,Heap.get?_push_size _ rfl,rfl⟩,si_next_slot.lookup,?_⟩
   refine h (s.heap.push _) s.drawn s.heap.objs.size [s.heap.objs.size,a] (es.toList.map fun e=>e.2) _ (fun b o e=>Heap.get?_push_of_some _ e) (List.Perm.refl _) (by simp) fresh (fun b hb=>?_) (fun A' hA=>walkN (sl:=slotAt t.place) hA (Nat.ne_of_lt hlt) (by simp) (fun i v s2 A2 E2 Q2 y hv q=>?_) (fun s2 A2 E2 Q2 y q=>nextP_end y hb hd q)) ⟨?_,x.keep fun o e=>Heap.get?_push_of_some _ e⟩
   ·simp at hb
    rcases hb with rfl | rfl
    ·exact .inr fresh
    ·exact .inl rfl
   ·rw [List.getElem?_map,Array.getElem?_toList] at hv
    cases e:es[i]? with
    | none=>rw [e] at hv;cases hv
    | some p =>
     rw [e] at hv
     have:p.2=v:=Option.some.inj hv
     subst this
     exact nextP_item y hb hd (z:=p.1) e q
   ·exact Heap.get?_push_size _ rfl
  | true =>
   simp only [if_true]
   refine wpAny_bind (wp_draw _ _ _ List.length_range fun ys dr hp=>?_)
   have hyl:ys.length=es.size:=by rw [hp.length_eq,List.length_range]
   refine wpAny_bind (wpAny_newObj_type ?_ (by show (ys.map fun (i:Nat)=>rawInt i).toArray.size≤sizeLine;simp only [List.size_toArray,List.length_map];omega))
   have x1:SetW w (s.heap.push {cls:=.type "tuple",data:=.seq (ys.map fun (i:Nat)=>rawInt i).toArray}) a es ep t:=x.keep fun o e=>Heap.get?_push_of_some _ e
   unfold setEpoch
   refine wpAny_bind (wpAny_bind (wp_state x1 (wpAny_pure ?_)))
   refine wpAny_bind (wpAny_newObj_type ?_ (by size_fits))
   refine wpAny_pure ⟨_,rfl,"set_iterator",_,⟨_,Heap.get?_push_size _ rfl,rfl⟩,si_next_slot.lookup,?_⟩
   have hne:a≠s.heap.objs.size+1:=Nat.ne_of_lt (Nat.lt_succ_of_lt hlt)
   have hnt:s.heap.objs.size≠s.heap.objs.size+1:=Nat.ne_of_lt (Nat.lt_succ_self _)
   have hm:∀ j∈ys,j<es.size:=fun j hj=>List.mem_range.mp (hp.mem_iff.mp hj)
   rw [Heap.size_push]
   refine h (Heap.push _ _) dr (s.heap.objs.size+1) [s.heap.objs.size+1,a,s.heap.objs.size] (ys.map fun j=>(es.getD j (0,.none)).2) _ (fun b o e=>Heap.get?_push_of_some _ (Heap.get?_push_of_some _ e)) ?_ (by simp) ?_ (fun b hb=>?_) (fun A' hA=>walkD hA hne hnt hyl hm) ⟨?_,x1.keep fun o e=>Heap.get?_push_of_some _ e,Heap.get?_push_of_some _ (Heap.get?_push_size _ rfl)⟩
   ·refine (hp.map _).trans (List.Perm.of_eq ?_)
    apply List.ext_getElem
    ·simp
    ·intro i h1 h2
     have hi:i<es.size:=by simpa using h1
     simp [Array.getD,hi]
   ·exact fresh1
   ·simp at hb
    rcases hb with rfl | rfl | rfl
    ·exact .inr fresh1
    ·exact .inl rfl
    ·exact .inr fresh
   ·have:((s.heap.push {cls:=.type "tuple",data:=.seq (ys.map fun (i:Nat)=>rawInt i).toArray}).push (itObj (.ref s.heap.objs.size) 0 a es.size ep)).get? (s.heap.push {cls:=.type "tuple",data:=.seq (ys.map fun (i:Nat)=>rawInt i).toArray}).objs.size=some (itObj (.ref s.heap.objs.size) 0 a es.size ep):=Heap.get?_push_size _ rfl
    rw [Heap.size_push] at this
    exact this
end
end VS
end
section
set_option maxHeartbeats 4000000
namespace VS
open PySem PyProof.Rows
def key (e:Int×Value):Int:=match e.2 with
 | .int n _=>n
 | _=>0
def addOne (l:List Int) (k:Int):List Int:=if k∈l then l else l++[k]
def SetI (prog:Program) (w:World) (h:Heap) (a:Addr) (l:List Int):Prop :=
 ∃ es ep t,SetW w h a es ep t∧ElemsOf (intKind prog w) es.toList∧(es.toList.map key).Perm l∧l.Nodup
theorem SetI.keep {prog:Program}{w:World}{h h':Heap}{a:Addr}{l:List Int} (x:SetI prog w h a l) (k:∀ o,h.get? a=some o→h'.get? a=some o):SetI prog w h' a l:=by
 obtain ⟨es,ep,t,x,r⟩:=x
 exact ⟨es,ep,t,x.keep k,r⟩
theorem key_of {prog:Program}{w:World}{e:Int×Value}{k:Int} (h:(intKind prog w).is k e.2=true):key e=k∧∃ t,e.2=.int k t:=by
 obtain ⟨t,q⟩:=Value.isInt_shape (k:=k) (v:=e.2) h
 exact ⟨by simp [key,q],t,q⟩
theorem elems_key {prog:Program}{w:World}{l:List (Int×Value)} (h:ElemsOf (intKind prog w) l) {e:Int×Value} (he:e∈l):∃ t,e.2=.int (key e) t:=by
 obtain ⟨⟨k,hk,_⟩,_⟩:=h e he
 obtain ⟨q,t,e2⟩:=key_of hk
 exact ⟨t,by rw [q];exact e2⟩
section
variable {prog:Program}{w:World}{A:Around}{E:Value→Shared→Prop}{s:Shared}
theorem store_set {a:Addr}{es:Array (Int×Value)}{ep:Nat}{t:SetTable} (x:SetW w s.heap a es ep t) {es':Array (Int×Value)}{t':SetTable} (hz:es'.size≤sizeLine) (hf:t'.fits es'.size=true) (hr:Rise t'.place) (hl:t'.led=t.led)
  {Q:Unit→Shared→Prop} (h:∀ h',Heap.SameBut a s.heap h'→SetW w h' a es' (ep+1) t'→Q () {s with heap:=h'}):wpAny (model prog w) A (storeSet a es' t') Q E s:=by
 refine wpAny_storeSet_of x.at_ rfl (h _ (Heap.SameBut.update ..) ⟨?_,hf,hr,by rw [hl];exact x.led⟩) hz
 exact Heap.get?_update_self (Obj.putSet es' t') x.at_ rfl
theorem add_tail {g:Bool→Sem Unit} (hg:∀ (b:Bool) (s1:Shared) (Q':Unit→Shared→Prop),Q' () s1→wpAny (model prog w) A (g b) Q' E s1)
  {a:Addr}{es:Array (Int×Value)}{ep:Nat}{t:SetTable} (x:SetW w s.heap a es ep t) {es1:Array (Int×Value)}{t2:SetTable}{l:List Int} (hz:es1.size≤sizeLine) (hf:t2.fits es1.size=true) (hr:Rise t2.place) (hl:t2.led=t.led)
  (hel:ElemsOf (intKind prog w) es1.toList) (hp:(es1.toList.map key).Perm l) (hn:l.Nodup) {wd:Bool}{R:Option Bool→Shared→Prop}
  (h:∀ h',Heap.SameBut a s.heap h'→SetI prog w h' a l→R (some true) {s with heap:=h'}) :
  wpAny (model prog w) A (do
    storeSet a es1 t2
    if (!wd&&t2.tooFull)=true then do
      g (relayAll t2 es1 (SetTable.grown es1.size)).2.2
      storeSet a (relayAll t2 es1 (SetTable.grown es1.size)).1 (relayAll t2 es1 (SetTable.grown es1.size)).2.1
      pure (some true)
     else pure (some true)) R E s:=by
 refine wpAny_bind (store_set x hz hf hr hl fun h1 k1 x1=>?_)
 split
 ·have p1:=relayAll_perm t2 es1 (SetTable.grown es1.size)
  have p2:=relayAll_fits t2 es1 (SetTable.grown es1.size)
  obtain ⟨p3,p4⟩:=relay_rise hr es1 (SetTable.grown es1.size)
  refine wpAny_bind (hg _ _ _ ?_)
  refine wpAny_bind (store_set (s:={s with heap:=h1}) x1 (by rw [← Array.length_toList,p1.length_eq,Array.length_toList];exact hz) p2 p3 p4 fun h2 k2 x2=>?_)
  exact wpAny_pure (h h2 (k1.trans k2) ⟨_,_,_,x2,hel.perm p1,(p1.map key).trans hp,hn⟩)
 ·exact wpAny_pure (h h1 k1 ⟨_,_,_,x1,hel,hp,hn⟩)
theorem add_hashed {a:Addr}{l:List Int}{k:Int}{tk:Tok}{Q:Bool→Shared→Prop} (x:SetI prog w s.heap a l) (hroom:l.length+1<scanBound)
  (h:∀ h' b,Heap.SameBut a s.heap h'→SetI prog w h' a (addOne l k)→Q b {s with heap:=h'}):wpAny (model prog w) A (setAddHashed a (.int k tk) ((intKind prog w).hash k)) Q E s:=by
 obtain ⟨es,ep,t,x,hel,hp,hn⟩:=x
 have hsz:es.size=l.length:=by rw [← hp.length_eq,List.length_map,Array.length_toList]
 have hkey:(intKind prog w).is k (.int k tk)=true:=intKind_is prog w k tk
 unfold setAddHashed setAddHashedIn
 refine wpAny_holding (wpAny_bind (wp_state x ?_))
 dsimp only
 rw [byScan_of (knd:=intKind prog w) rfl (by omega) hel]
 simp only [↓reduceIte]
 unfold setAddByScan
 refine wpAny_bind (wpAny_bind (wpAny_rule (wpAny_bind (wpAny_setScan_of hkey x.at_ rfl x.fits hel ?_))))
 cases hr:List.findIdx? (fun e=>(intKind prog w).is k e.2) es.toList with
 | some j =>
  dsimp only
  obtain ⟨hj,hpj,_⟩:=List.findIdx?_eq_some_iff_getElem.mp hr
  have hk:k∈l:=hp.mem_iff.mp (List.mem_map.mpr ⟨es.toList[j],List.getElem_mem hj,(key_of hpj).1⟩)
  refine wpAny_pure (wpAny_pure ?_)
  have e:s={s with heap:=s.heap}:=by cases s;rfl
  rw [e]
  exact h s.heap _ (Heap.SameBut.refl a s.heap) ⟨es,ep,t,x,hel,by rw [addOne,if_pos hk];exact hp,by rw [addOne,if_pos hk];exact hn⟩
 | none =>
  dsimp only
  have hk:k∉l:=fun q=>by
   obtain ⟨e,he,q⟩:=List.mem_map.mp (hp.mem_iff.mpr q)
   obtain ⟨t',e2⟩:=elems_key hel he
   have:=List.findIdx?_eq_none_iff.mp hr e he
   rw [e2,q] at this
   rw [intKind_is prog w k t'] at this
   cases this
  have ea:addOne l k=l++[k]:=by rw [addOne,if_neg hk]
  have hgw:∀ (b:Bool) {s1:Shared}{Q':Unit→Shared→Prop},Q' () s1→wpAny (model prog w) A (match b with | true=>rule "set.scan.the-table-gave-way" | false=>pure ()) Q' E s1:=fun b s1 Q' hq=>by
   cases b <;> first | exact wpAny_pure hq | exact wpAny_rule hq
  have p1:=layNew_perm t es ((intKind prog w).hash k) (.int k tk)
  have p2:=layNew_fits t es ((intKind prog w).hash k) (.int k tk)
  have p3:=layNew_rise x.rise es ((intKind prog w).hash k) (.int k tk)
  have p4:=layNew_led t es ((intKind prog w).hash k) (.int k tk)
  generalize hL:layNew t es ((intKind prog w).hash k) (.int k tk)=L at p1 p2 p3 p4 ⊢
  obtain ⟨es1,t1,wd,gave⟩:=L
  dsimp only at p1 p2 p3 p4 ⊢
  rw [Array.toList_push] at p1
  have hel1:ElemsOf (intKind prog w) es1.toList:=(hel.push hkey rfl).perm p1
  have hp1:(es1.toList.map key).Perm (addOne l k):=by
   rw [ea]
   refine (p1.map key).trans ?_
   rw [List.map_append]
   exact hp.append (List.Perm.refl _)
  have hn1:(addOne l k).Nodup:=by
   rw [ea]
   refine List.nodup_append.mpr ⟨hn,by simp,fun y hy z hz q=>?_⟩
   have:z=k:=by simpa using hz
   subst this
   exact hk (q▸hy)
  have hsz1:es1.size≤sizeLine:=fits_of_scanBound (by
   rw [← Array.length_toList,p1.length_eq,List.length_append,Array.length_toList,hsz]
   exact hroom)
  refine wpAny_bind (hgw _ ?_)
  split
  ·refine wpAny_bind ?_
   rw [hashByValue_scannable 8 rfl]
   refine wpAny_pure ?_
   refine add_tail ?_ x hsz1 ?_ ?_ ?_ hel1 hp1 hn1 fun h' k' x'=>?_
   ·intro b s1 Q' hq;cases b <;> first | exact wpAny_pure hq | exact wpAny_rule hq
   ·exact p2
   ·exact p3
   ·exact p4
   ·dsimp only;exact wpAny_pure (h h' _ k' x')
  ·refine wpAny_bind (wpAny_pure ?_)
   simp only [↓reduceIte]
   refine add_tail ?_ x hsz1 p2 p3 p4 hel1 hp1 hn1 fun h' k' x'=>?_
   ·intro b s1 Q' hq;cases b <;> first | exact wpAny_pure hq | exact wpAny_rule hq
   ·dsimp only;exact wpAny_pure (h h' _ k' x')
end
theorem addOne_len (l:List Int) (k:Int):(addOne l k).length≤l.length+1:=by
 unfold addOne
 split
 ·omega
 ·simp
def met (val:Nat→Int):Nat→List Int
 | 0=>[]
 | i+1=>addOne (met val i) (val i)
theorem met_len (val:Nat→Int):∀ i,(met val i).length≤i
 | 0=>Nat.le_refl _
 | i+1=>Nat.le_trans (addOne_len _ _) (Nat.succ_le_succ (met_len val i))
theorem mem_met (val:Nat→Int) {x:Int}:∀ i,x∈met val i↔∃ j,j<i∧val j=x
 | 0=>by simp [met]
 | i+1=>by
  have ih:=mem_met val (x:=x) i
  show x∈addOne (met val i) (val i)↔_
  have e:x∈addOne (met val i) (val i)↔x∈met val i∨x=val i:=by
   unfold addOne
   split
   ·rename_i q
    exact ⟨.inl,fun z=>z.elim id fun z=>z▸q⟩
   ·simp
  rw [e,ih]
  constructor
  ·rintro (⟨j,hj,q⟩ | q)
   ·exact ⟨j,by omega,q⟩
   ·exact ⟨i,by omega,q.symm⟩
  ·rintro ⟨j,hj,q⟩
   by_cases z:j=i
   ·subst z;exact .inr q.symm
   ·exact .inl ⟨j,by omega,q⟩
section
variable {prog:Program}{w:World}{A:Around}{R:Result→Shared→Prop}{I:Addr}{fp wr:List Addr}{G:Array GenState→Array GenState→Prop}{n:Nat}{P:Nat→Value→Prop}{St:Nat→Shared→Prop}
theorem update_loop (W:WalksS prog w A.in1 I fp wr G n P St) (S:Addr) (hSf:S∉fp) (val:Nat→Int) (hval:∀ i v,P i v→∃ t,v=.int (val i) t) (hb:n+1<scanBound) :
  ∀ (k i:Nat) (s:Shared),n - i=k→i≤n→St i s→SetI prog w s.heap S (met val i) →
   (∀ s',Moved (S::wr) G s s'→SetI prog w s'.heap S (met val n)→R (.ok (.ret .none)) s')→codeAny (model prog w) A (.builtin "set.update.loop" ⟨[.ref S,.ref I],[]⟩) R s
 | 0,i,s,hk,hi,hst,hS,hR=>by
  have hin:i=n:=by omega
  subst hin
  refine codeAny_builtin PyProof.Rows.F.entry_set_update_loop ?_
  rw [Around.under_plainId PyProof.Rows.F.plain_set_update_loop _]
  show wpAny _ A.in1 (pyNext (.ref I) >>= _) _ _ s
  refine wpAny_bind (W.done s _ _ hst fun s' hm=>?_)
  exact wpAny_pure (hR s' (hm.mono fun b hb=>List.mem_cons_of_mem _ hb) (hS.keep fun o e=>hm.heap S _ (fun h=>hSf (W.sub _ h)) e))
 | k+1,i,s,hk,hi,hst,hS,hR=>by
  have hlt:i<n:=by omega
  refine codeAny_builtin PyProof.Rows.F.entry_set_update_loop ?_
  rw [Around.under_plainId PyProof.Rows.F.plain_set_update_loop _]
  show wpAny _ A.in1 (pyNext (.ref I) >>= _) _ _ s
  refine wpAny_bind (W.item i s _ _ hlt hst fun v s' hP hst' hm=>?_)
  obtain ⟨t,rfl⟩:=hval i v hP
  have hS':=hS.keep (h':=s'.heap) fun o e=>hm.heap S _ (fun h=>hSf (W.sub _ h)) e
  show wpAny _ A.in1 (holding [Value.int (val i) t] (setAdd S (.int (val i) t)) >>= _) _ _ s'
  refine wpAny_bind (wpAny_holding ?_)
  unfold setAdd
  refine wpAny_holding (wpAny_bind ((intKind prog w).pyHash (k:=val i) (intKind_is _ _ _ _) ?_))
  refine add_hashed (s:={s' with toks:=s'.toks+1}) hS' (by have:=met_len val i;omega) fun h' bb hsb hS2=>?_
  refine wpAny_pure ⟨plainId_quiet PyProof.Rows.F.plain_set_update_loop _,update_loop W S hSf val hval hb k (i+1) _ (by omega) hlt (W.frame _ s' _ _ hst' (Nat.le_succ _) fun b hb o e=>?_) hS2 fun s'' hm'' hS''=>?_⟩
  ·rw [hsb.2 b (fun h:b=S=>hSf (by rw [← h];exact hb))];exact e
  ·refine hR s'' (Moved.trans W.gtrans ((hm.mono fun b hb=>List.mem_cons_of_mem _ hb).then_heap (Nat.le_succ _) fun b o hb e=>?_) hm'') hS''
   rw [hsb.2 b (fun h:b=S=>hb (by rw [h];exact List.mem_cons_self))];exact e
end
end VS
end
section
set_option maxHeartbeats 4000000
namespace VS
open PySem PyProof.Rows
abbrev newS (w:World):Obj:={cls:=.type "set",dict:=none,data:=.set #[] 0 (.fresh 0 0 (!byText w))}
section
variable {prog:Program}{w:World}{A:Around}{E:Value→Shared→Prop}{s:Shared}
theorem newS_set (prog:Program) {w:World}{h:Heap}{a:Addr} (e:h.get? a=some (newS w)):SetI prog w h a [] :=
 ⟨#[],0,_,⟨e,rfl,List.Pairwise.nil,by cases q:byText w <;> simp [SetTable.fresh,q]⟩,fun e he=>by simp at he,by simp,by simp⟩
theorem new_set (a:Value) {Q1:Value→Shared→Prop} (h:Q1 (.ref s.heap.objs.size) {s with heap:=s.heap.push (newS w)}) :
  codeAny (model prog w) A (.call (.builtin "set.__new__") ⟨[.type "set",a],[]⟩) (wants Q1 E) s:=by
 refine codeAny_of_tree ?_
 show wpAny _ A.in1 (do checkBuiltinCall "set.__new__" ⟨[.type "set",a],[]⟩;again (.builtin "set.__new__" ⟨[.type "set",a],[]⟩)) _ _ s
 refine wpAny_bind (wpAny_of_eq (PySem.F.newCall_set_1 a) (wpAny_pure ⟨plainId_quiet PySem.F.plain_set_new _,codeAny_builtin PySem.F.entry_set_new ?_⟩))
 rw [Around.under_plainId PySem.F.plain_set_new _]
 unfold Builtin.«set.__new__» Builtin.Frozenset.newClass
 have sub:=sub_set_self
 obtain ⟨hp,g,d,tk,os⟩:=s
 dsimp only
 wp_walk
 refine wpAny_askSetting (wpAny_pure ?_)
 dsimp only
 simp only [newObj]
 exact wpAny_bind (wpAny_alloc (wpAny_pure (wpAny_pure h)))
set_option maxHeartbeats 8000000 in
theorem call_set {l:Addr}{items:Array Value}{ns:List Int}{Q:Value→Shared→Prop} (hh:A.handled=none) (hl:s.heap.IsList l items) (hi:IntsAre items.toList ns) (hb:items.size+1<scanBound)
  (h:∀ (h':Heap) (tk:Nat),SetI prog w h' s.heap.objs.size (met (fun i=>ns.getD i 0) items.size)→(∀ b o,s.heap.get? b=some o→h'.get? b=some o)→Q (.ref s.heap.objs.size) {s with heap:=h',toks:=tk}) :
  wpAny (model prog w) A (call (.type "set") [.ref l]) Q E s:=by
 obtain ⟨c,tl,hmro⟩:=PySem.F.called_set.mro
 have hmade:=PySem.F.called_set.made
 have hsub:=PySem.F.called_set.sub
 refine wpAny_call (codeAny_of_tree ?_)
 show wpAny _ _ (callAny (.type "set") _) _ _ _
 refine wpAny_pure ⟨Code.quiet_builtin _ (by decide +kernel),codeAny_builtin PySem.F.entry_type_call ?_⟩
 rw [Around.under_plain (weight_type_call_type "set" [.ref l] []) rfl]
 have h1:=PySem.F.called_set.notType
 have h2:=PySem.F.called_set.canCreate
 have hct:=PySem.F.typeCall_set_1 (.ref l)
 repeat (any_goals (first | assumption | wp_step))
 refine codeAny_mono (new_set (.ref l) (E:=E) (Q1:=fun obj s1=>obj=.ref s.heap.objs.size∧s1={s with heap:=s.heap.push (newS w)}) ⟨rfl,rfl⟩) fun r s1 hr=>?_
 cases r with
 | error e=>exact hr
 | ok fl =>
  cases fl with
  | ret obj =>
   obtain ⟨rfl,rfl⟩:=hr
   have hS:(s.heap.push (newS w)).get? s.heap.objs.size=some (newS w):=Heap.get?_push_size _ rfl
   have hT:Shared.TypeIs {s with heap:=s.heap.push (newS w)} (.ref s.heap.objs.size) "set":=⟨_,hS,rfl⟩
   have hli:=PySem.F.called_set.init.lookup
   have hbi:=PySem.F.called_set.init.bind (.ref s.heap.objs.size)
   repeat (any_goals (first | assumption | wp_step))
   refine codeAny_mono (codeAny_call_builtin (R:=wants (fun r s2=>r=.none∧∃ h' tk,s2={s with heap:=h',toks:=tk}∧SetI prog w h' s.heap.objs.size (met (fun i=>ns.getD i 0) items.size) ∧
     (∀ b o,s.heap.get? b=some o→h'.get? b=some o)) E) PySem.F.called_set.init.plain PySem.F.entry_set_init (check_set_init_1 hT ?_)) fun r2 s2 hr2=>?_
   ·obtain ⟨ol,hol,hcl,nl,hdl⟩:=hl
    obtain ⟨ocls,odict,odata,oslots⟩:=ol
    simp only at hcl hdl
    subst hcl;subst hdl
    have hol':(s.heap.push (newS w)).get? l=some {cls:=.type "list",dict:=odict,data:=.seq items nl,slots:=oslots}:=Heap.get?_push_of_some _ hol
    have hsls:=PySem.F.sub_list_set
    have hslf:=PySem.F.sub_list_frozenset
    have hne:(Value.type "list"==Value.type "dict")=false:=by decide
    have hl1:(s.heap.push (newS w)).IsList l items:=⟨_,hol',rfl,nl,rfl⟩
    unfold Builtin.«set.__init__» noKeywords Builtin.Frozenset.updateFrom
    generalize hPI:pyIter=PI
    wp_walk
    subst hPI
    refine wpAny_pyIter_list hl1 (wpAny_bind (wpAny_runValue ?_))
    have hlS:l<s.heap.objs.size:=Heap.lt_size hol
    have hh3:A.in1.in1.in1.handled=none:=by simp [hh]
    have hneI:l≠(s.heap.push (newS w)).objs.size:=by
     rw [Heap.size_push];exact Nat.ne_of_lt (Nat.lt_succ_of_lt hlS)
    have hSf:s.heap.objs.size∉[(s.heap.push (newS w)).objs.size,l]:=by
     rw [Heap.size_push]
     simp only [List.mem_cons,List.not_mem_nil,or_false,not_or]
     exact ⟨Nat.ne_of_lt (Nat.lt_succ_self _),Nat.ne_of_gt hlS⟩
    have hval:∀ (i:Nat) (v:Value),items[i]?=some v→∃ t,v=.int ((fun i=>ns.getD i 0) i) t:=fun i v hv=>IntsAre.int_at hi i v (by rw [Array.getElem?_toList];exact hv)
    refine update_loop ((Walks.list hh3 _ l hneI items).toS) s.heap.objs.size hSf (fun i=>ns.getD i 0) hval hb (items.size - 0) 0 _ (by omega) (Nat.zero_le _) ⟨⟨_,Heap.get?_push_size _ rfl,rfl,rfl⟩,(hl1.push _)⟩ (newS_set prog (Heap.get?_push_of_some _ hS)) ?hR
    case hR =>
     intro s' hm hS'
     obtain ⟨h',g',d',tk',os'⟩:=s'
     have eg:g'=s.gens:=hm.gens
     have ed:d'=s.drawn:=hm.drawn
     have eo:os'=s.os:=hm.os
     subst eg;subst ed;subst eo
     show wpAny _ _ _ _ _ _
     refine wpAny_pure ?_
     show wpAny _ _ (ret Value.none) _ _ _
     refine wpAny_pure ⟨rfl,h',tk',rfl,hS',fun b o e=>?_⟩
     have hb:=Heap.lt_size e
     have hb1:b≠s.heap.objs.size:=Nat.ne_of_lt hb
     have hb2:b≠(s.heap.push (newS w)).objs.size:=by
      rw [Heap.size_push];exact Nat.ne_of_lt (Nat.lt_succ_of_lt hb)
     exact hm.heap b o (by simp only [List.mem_cons,List.not_mem_nil,or_false,not_or];exact ⟨hb1,hb2⟩) (Heap.get?_push_of_some _ (Heap.get?_push_of_some _ e))
   ·cases r2 with
    | error e=>exact hr2
    | ok fl2 =>
     cases fl2 with
     | ret r =>
      obtain ⟨rfl,h',tk,rfl,hS',hk'⟩:=hr2
      repeat (any_goals (first | assumption | wp_step))
      exact h _ _ hS' hk'
     | _=>exact hr2.elim
  | _=>exact hr.elim
end
end VS
end
section
set_option maxHeartbeats 4000000
namespace VS
open PySem PyProof.Rows
section
variable {prog:Program}{w:World}{A:Around}{E:Value→Shared→Prop}{s:Shared}
theorem hint_set {r:Addr}{Q:Bool→Shared→Prop} (hT:s.TypeIs (.ref r) "set") (h:Q false s):wpAny (model prog w) A (Builtin.List.listLengthHint (.ref r)) Q E s:=by
 unfold Builtin.List.listLengthHint
 refine wpAny_bind (wpAny_specialOf hT PySem.F.slot_set_len.lookup ?_)
 generalize hid:("set.__len__":String)=id0
 wp_delta
 rw [show splitId id0=some ("set","__len__") from by subst hid;decide +kernel]
 subst hid
 refine wpAny_bind (wpAny_isInstance (T:="set") (b:=true) hT sub_set_self (wpAny_ite_split (fun q=>absurd q (by decide)) fun _=>?_))
 refine wpAny_ite_split (fun _=>wpAny_bind (wpAny_typeOf hT (wpAny_pure h))) (fun q=>absurd (by decide +kernel) q)
theorem collect_set {a:Addr}{es:Array (Int×Value)}{ep:Nat}{t:SetTable} (x:SetW w s.heap a es ep t) (hz:es.size≤sizeLine) (hh:A.handled=none) {R:List Value→Shared→Prop}
  (h:∀ (h':Heap) (tk:Nat) (dr:Drawn) (vs:List Value),(∀ b o,s.heap.get? b=some o→h'.get? b=some o)→vs.Perm (es.toList.map fun e=>e.2)→R vs {s with heap:=h',toks:=tk,drawn:=dr}) :
  wpAny (model prog w) A (collect (.ref a)) R E s:=by
 have hlt:=Heap.lt_size x.at_
 unfold collect
 refine wpAny_bind (wpAny_runValue (codeAny_builtin PySem.F.entry_proto_collect ?_))
 rw [Around.under_plainId PySem.F.plain_proto_collect _]
 show wpAny _ A.in1 (newList [] >>= fun l=>again (.builtin "list.__iadd__" ⟨[l,.ref a],[]⟩)) _ _ s
 refine wpAny_bind (wpAny_newObj_type (wpAny_pure ⟨plainId_quiet PySem.F.plain_list_iadd _,codeAny_builtin PySem.F.entry_list_iadd ?_⟩))
 rw [Around.under_plainId PySem.F.plain_list_iadd _]
 have hS1:(s.heap.push {cls:=.type "list",data:=.seq ([]:List Value).toArray}).get? s.heap.objs.size=some {cls:=.type "list",data:=.seq #[]}:=Heap.get?_push_size _ rfl
 have x1:SetW w (s.heap.push {cls:=.type "list",data:=.seq ([]:List Value).toArray}) a es ep t:=x.keep fun o e=>Heap.get?_push_of_some _ e
 have hT1:Shared.TypeIs {s with heap:=s.heap.push {cls:=.type "list",data:=.seq ([]:List Value).toArray}} (.ref a) "set":=⟨_,x1.at_,rfl⟩
 show wpAny _ A.in1 (Builtin.List.listExtendWith (.ref s.heap.objs.size) (.ref a) (.ref s.heap.objs.size)) _ _ _
 unfold Builtin.List.listExtendWith
 refine wpAny_bind (wpAny_typeOf (T:="set") hT1 ?_)
 have c1:Builtin.List.listSameRef (.ref s.heap.objs.size) (.ref a)=false:=by
  have:s.heap.objs.size≠a:=Nat.ne_of_gt hlt
  simp [Builtin.List.listSameRef,this]
 have c2:(Value.type "set"==Value.type "list")=false:=by decide
 have c3:(Value.type "set"==Value.type "tuple")=false:=by decide
 simp only [c1,c2,c3,Bool.or_false,Bool.false_eq_true,if_false]
 refine wpAny_bind (set_iter x1 hz fun h1 dr I fp ord St k1 p1 hI fr hfp W st=>?_)
 have hSI:s.heap.objs.size≠I:=fun e=>by rw [← e,hS1] at fr;cases fr
 have hS2:=k1 _ _ hS1
 have hT2:Shared.TypeIs {s with heap:=h1,drawn:=dr} (.ref a) "set":=⟨_,k1 _ _ x1.at_,rfl⟩
 refine wpAny_bind (wpAny_holding (hint_set hT2 ?_))
 refine wpAny_ite_split (fun _=>?_) (fun q=>absurd (by decide +kernel) q)
 refine wpAny_bind (wpAny_rule (wpAny_bind ?_))
 show wpAny _ A.in1 (updateSeq s.heap.objs.size (·.push .none) >>= fun _=>updateSeq s.heap.objs.size (·.pop)) _ _ _
 refine wpAny_bind (wpAny_updateSeq hS2 rfl ?_)
 have hS3:=Heap.get?_update_self (Obj.mapSeq (·.push Value.none)) hS2 rfl
 refine wpAny_updateSeq hS3 rfl ?_
 have hS4:=Heap.get?_update_self (Obj.mapSeq (·.pop)) hS3 rfl
 have oth:∀ b o,b≠s.heap.objs.size→h1.get? b=some o→((h1.update s.heap.objs.size (Obj.mapSeq (·.push Value.none))).update s.heap.objs.size (Obj.mapSeq (·.pop))).get? b=some o:=fun b o hb e =>
  (Heap.get?_update_other _ _ (Ne.symm hb)).trans ((Heap.get?_update_other _ _ (Ne.symm hb)).trans e)
 have hSf:s.heap.objs.size∉fp:=fun q=>by
  rcases hfp _ q with e | e
  ·exact absurd e (Nat.ne_of_gt hlt)
  ·rw [hS1] at e;cases e
 have hA:A.in1.in1.handled=none:=by simp [hh]
 have W1:=W A.in1 (by simp [hh])
 have st1:St 0 ((h1.update s.heap.objs.size (Obj.mapSeq (·.push Value.none))).update s.heap.objs.size (Obj.mapSeq (·.pop))):=W1.frame 0 _ _ st fun b hb o e=>oth b o (fun q=>hSf (q▸hb)) e
 refine wpAny_pure ⟨plainId_quiet PySem.F.plain_extend_loop _,codeAny_extend_loopS (A:=A) W1.toS hz _ hSf _ es.size 0 _ _ _ rfl (Nat.zero_le _) st1 hS4 (ItemsOf.nil _) fun s' acc' c' hm hS' hacc=>?_⟩
 show wpAny _ A (load s.heap.objs.size >>= _) _ _ s'
 refine wpAny_bind (wpAny_load hS' ?_)
 have hl:acc'.toList.length=ord.length:=by
  rw [Array.length_toList,hacc.1,p1.length_eq,List.length_map,Array.length_toList]
 have e1:acc'.toList=ord:=by
  apply List.ext_getElem hl
  intro i q1 q2
  have this:ord[i]?=some acc'.toList[i]:=hacc.2 i acc'.toList[i] (by rw [← Array.getElem?_toList];exact List.getElem?_eq_getElem q1)
  rw [List.getElem?_eq_getElem q2] at this
  exact (Option.some.inj this).symm
 have k2:∀ b o,s.heap.get? b=some o→s'.heap.get? b=some o:=fun b o e=>by
  have n1:b≠s.heap.objs.size:=Nat.ne_of_lt (Heap.lt_size e)
  have n2:b≠I:=fun q=>by
   rw [← q,Heap.get?_push_of_some _ e] at fr;cases fr
  refine hm.heap b o ?_ (oth b o n1 (k1 b o (Heap.get?_push_of_some _ e)))
  simp only [List.mem_cons,List.not_mem_nil,or_false,not_or]
  exact ⟨n1,n2⟩
 obtain ⟨h',g',d',tk',os'⟩:=s'
 have eg:g'=s.gens:=hm.gens
 have ed:d'=dr:=hm.drawn
 have eo:os'=s.os:=hm.os
 subst eg;subst ed;subst eo
 exact wpAny_pure (h h' tk' d' acc'.toList k2 (by rw [e1];exact p1))
theorem sorted_set {a:Addr}{l:List Int} (x:SetI prog w s.heap a l) (hz:l.length≤sizeLine) (hh:A.handled=none) {Q:Value→Shared→Prop}
  (h:∀ (h1 h':Heap) (tk:Nat) (dr:Drawn) (vs:List Value) (ns:List Int) (c:Nat),(∀ b o,s.heap.get? b=some o→h1.get? b=some o)→(∀ b o,h1.get? b=some o→h'.get? b=some o)→h'.get? h1.objs.size=some (seqObj "list" vs.toArray c) →
   IntsAre vs ns→ns.Perm l→ns.Pairwise (·≤·)→Q (.ref h1.objs.size) {s with heap:=h',toks:=tk,drawn:=dr}):wpAny (model prog w) A (call (.builtin "sorted") [.ref a]) Q E s:=by
 obtain ⟨es,ep,t,x,hel,hp,hn⟩:=x
 have hsz:es.size=l.length:=by rw [← hp.length_eq,List.length_map,Array.length_toList]
 refine Calls.call_function_entry kind_sorted plain_sorted entry_sorted (args_sorted1 _) ?_
 unfold Builtin.«sorted»
 refine wpAny_bind (m:=checkCount "sorted" 1 1 _) (wpAny_pure (wpAny_bind (collect_set (A:=A.in1) x (by omega) (by simp [hh]) fun h1 tk dr vs k1 p1=>?_)))
 have hI:∃ ns,IntsAre vs ns∧ns.Perm l:=by
  have q:∀ v∈vs,∃ n t,v=Value.int n t:=fun v hv=>by
   obtain ⟨e,he,rfl⟩:=List.mem_map.mp (p1.mem_iff.mp hv)
   obtain ⟨t',q⟩:=elems_key hel he
   exact ⟨_,t',q⟩
  have:∀ us:List Value,(∀ v∈us,∃ n t,v=Value.int n t)→IntsAre us (us.map fun v=>key (0,v)):=by
   intro us
   induction us with
   | nil=>intro _;exact .nil
   | cons u r ih =>
    intro hu
    obtain ⟨n,t',rfl⟩:=hu u (by simp)
    exact .cons n t' (ih fun v hv=>hu v (by simp [hv]))
  refine ⟨_,this vs q,(p1.map _).trans ?_⟩
  rw [List.map_map]
  exact hp
 obtain ⟨ns,hI,hns⟩:=hI
 have hvl:vs.length≤sizeLine:=by rw [p1.length_eq,List.length_map,Array.length_toList];omega
 refine wpAny_bind (wpAny_newList ?_ hvl)
 have hoL:(h1.push (seqObj "list" vs.toArray 0)).get? h1.objs.size=some (seqObj "list" vs.toArray 0):=Heap.get?_push_size _ rfl
 refine wpAny_bind (wpAny_holding (wpAny_call_entry slot_list_sort ⟨_,hoL,rfl⟩ entry_list_sort (list_sort_treeAny hoL hI hvl fun out ns' a1 a2 a3=>⟨_,rfl,?_⟩) (args_list_sort _)))
 obtain ⟨e,he⟩:=sortedHeap_at (out:=out) hoL
 refine wpAny_pure ⟨_,rfl,h h1 _ tk dr out.toList ns' e k1 (fun b o q=>?_) (by simpa using he) a1 (a2.trans hns) a3⟩
 have lt:=Heap.lt_size q
 rw [sortedHeap_old (Nat.ne_of_lt lt) (by rw [Heap.size_push];exact Nat.lt_succ_of_lt lt)]
 exact Heap.get?_push_of_some _ q
end
end VS
end
section
set_option maxHeartbeats 2000000
namespace LX
open PySem PySem.Spec PyProof.Rows L2
section
variable {X:Cx}{pins:List (Addr×Obj)}{σ:L2.St}{H:Hp}{s:Shared}
theorem inv_drawn (I:Inv X pins σ H s) (dr:Drawn):Inv X pins σ H {s with drawn:=dr} :=
 ⟨I.ok,I.os,I.bare,I.base,I.loc,I.cell,I.free,I.freeC,I.pin,I.hok,I.len⟩
def SetO (P:Program) (w:World) (a:Addr) (l:List Int):HO:=.ext fun h=>VS.SetI P w h a l
theorem setO_ok {P:Program}{w:World}{H:Hp}{h:Heap}{a:Addr}{l:List Int} (x:VS.SetI P w h a l):ObjOk P w H h a (SetO P w a l):=by
 refine ⟨x,?_,fun h1 h2 y k=>y.keep k⟩
 obtain ⟨es,ep,t,x,_⟩:=x
 exact ⟨_,x.at_⟩
def rSet (P:Program) (w:World) (K:PySem.W.Frag):List V→Hp→VK→Prop:=fun vs H Q=>∃ (a:Addr) (ns:List Int),vs=[.ref a]∧SqL K H a (ns.map V.int)∧ns.length+1<4096 ∧
 ∀ (p:Addr) (l:List Int),H p=none→(∀ x,x∈l↔x∈ns)→l.Nodup→l.length≤ns.length→Q (.ref p) (upd H p (SetO P w p l))
theorem cr_set (hc:X.calm=true):CallR X (.type "set") (rSet X.prog X.w X.K):=by
 intro pins s σ H vs us Q I r h
 obtain ⟨a,ns,rfl,hs,hb,q⟩:=h
 obtain ⟨its,rv,hl,_⟩:=I.list hs
 rw [Vals.ref1 r]
 have hi:=rv.ints
 have hlen:=hi.length
 refine VS.call_set (ns:=ns) (I.ok.hd hc) hl.isList (by simpa using hi) (by rw [List.size_toArray,hlen];exact hb) fun h' tk hS hk=>?_
 have nd:(VS.met (fun i=>ns.getD i 0) its.toArray.size).Nodup:=by
  obtain ⟨_,_,_,_,_,_,n⟩:=hS
  exact n
 refine ⟨.ref _,_,I.laid (t':=tk) hk (Nat.le_refl _) (setO_ok hS),rfl,q _ _ (I.hok.fresh (Nat.le_refl _)) (fun x=>?_) nd ?_⟩
 ·rw [VS.mem_met,List.size_toArray,hlen]
  constructor
  ·rintro ⟨j,hj,e⟩
   rw [← e,List.getD_eq_getElem?_getD,List.getElem?_eq_getElem hj]
   exact List.getElem_mem hj
  ·intro hx
   obtain ⟨j,hj,e⟩:=List.mem_iff_getElem.mp hx
   exact ⟨j,hj,by rw [List.getD_eq_getElem?_getD,List.getElem?_eq_getElem hj];exact e⟩
 ·rw [← hlen]
  have:=VS.met_len (fun i=>ns.getD i 0) its.toArray.size
  simpa using this
def rSortSet (P:Program) (w:World):List V→Hp→VK→Prop:=fun vs H Q=>∃ (a:Addr) (l:List Int),vs=[.ref a]∧H a=some (SetO P w a l)∧l.length≤sizeLine ∧
 ∀ (ns:List Int) (p:Addr),ns.Perm l→ns.Pairwise (·≤·)→H p=none→Q (.ref p) (upd H p (.lst (ns.map V.int)))
theorem cr_sortset (hc:X.calm=true):CallR X (.builtin "sorted") (rSortSet X.prog X.w):=by
 intro pins s σ H vs us Q I r h
 obtain ⟨a,l,rfl,hs,hb,q⟩:=h
 rw [Vals.ref1 r]
 have x:VS.SetI X.prog X.w s.heap a l:=(I.hok a _ hs).1
 refine VS.sorted_set x hb (I.ok.hd hc) fun h1 h' tk dr vs ns c k1 k2 e hi p1 p2=>?_
 have I1:Inv X pins σ H {s with heap:=h1,toks:=tk}:=I.kept k1
 have hlen:(ns.map V.int).length≤sizeLine:=by rw [List.length_map,p1.length_eq];exact hb
 have I2:=I1.laid (a:=h1.objs.size) (o:=.lst (ns.map V.int)) (t':=tk) k2 (Nat.le_refl _) ⟨hlen,vs,c,vals_of_ints hi,e⟩
 exact ⟨.ref _,_,inv_drawn I2 dr,rfl,q ns _ p1 p2 (I1.hok.fresh (Nat.le_refl _))⟩
end
def ViewO (p d:Addr):HO:=.ext fun h=>h.IsValuesView p d
section
variable {X:Cx}
theorem mt_values:MtR X "dict.values" (fun x vs H Q=>∃ (d:Addr) (kvs:List (Key×V)),x=.ref d∧vs=[]∧Rd H d (.dK kvs)∧∀ p,H p=none→Q (.ref p) (upd H p (ViewO p d))):=by
 intro pins s σ H x xs v us Q I rx rxs h
 obtain ⟨d,kvs,rfl,rfl,hd,q⟩:=h
 cases rx
 cases rxs
 obtain ⟨z,hs,vs,rel,dd⟩:=dk_rd I.hok hd
 refine call_meetsIn PySem.F.slot_dict_values dd.typeIs PySem.F.entry_dict_values (PySem.F.args_dict_values_1 _) (meets_dict_values (mixKind X.prog X.w) d hs) ⟨⟨vs,dd⟩,?_⟩
 have e:(s.heap.push {cls:=.type "dict_values",data:=.fields #[.ref d]}).IsValuesView s.heap.objs.size d:=⟨_,Heap.get?_push_size _ rfl,rfl,rfl⟩
 refine ⟨.ref _,_,I.laid (a:=s.heap.objs.size) (o:=ViewO s.heap.objs.size d) (t':=s.toks) (fun b u q=>Heap.get?_push_of_some _ q) (Nat.le_refl _) ⟨e,⟨_,Heap.get?_push_size _ rfl⟩,fun h1 h2 y k=>?_⟩,rfl,q _ (I.hok.fresh (Nat.le_refl _))⟩
 obtain ⟨o,ho,r⟩:=y
 exact ⟨o,k o ho,r⟩
theorem paired_int {κ:Type}:∀ {kvs:List (κ×V)}{vs:List (κ×Value)}{ns:List Int},KV kvs vs→kvs.map (·.2)=ns.map V.int→∀ (i:Nat) (k:κ) (u:Value),vs[i]?=some (k,u)→∃ t,u=.int (ns.getD i 0) t
 | _,_,_,.nil,_,i,k,u,h=>by simp at h
 | _,_,[],.cons _ _,e,_,_,_,_=>by simp at e
 | _,_,n::ns,.cons r t,e,0,k,u,h=>by
  simp only [List.map_cons,List.cons.injEq] at e
  have h':=Option.some.inj h
  rw [h'] at r
  obtain ⟨t',q⟩:=(show RelV (V.int n) u from e.1▸r.2)
  exact ⟨t',q⟩
 | _,_,n::ns,.cons r t,e,i+1,k,u,h=>by
  simp only [List.map_cons,List.cons.injEq] at e
  exact paired_int t e.2 i k u h
theorem preSum_list:∀ (ns:List Int),preSum (fun i=>ns.getD i 0) ns.length=ns.sum
 | []=>rfl
 | n::ns=>by
  have ih:=preSum_list ns
  have sh:∀ (f:Nat→Int) (m:Nat),preSum f (m+1)=f 0+preSum (fun i=>f (i+1)) m:=by
   intro f m
   induction m with
   | zero=>simp [preSum]
   | succ m ih =>
    show preSum f (m+1)+f (m+1)=f 0+(preSum (fun i=>f (i+1)) m+f (m+1))
    rw [ih,Int.add_assoc]
  show preSum _ (ns.length+1)=_
  rw [sh,List.sum_cons]
  exact congrArg (fun z=>n+z) ih
theorem cr_sumvals (hc:X.calm=true):CallR X (.builtin "sum") (fun vs H Q=>∃ (p d:Addr) (kvs:List (Key×V)) (ns:List Int),vs=[.ref p]∧H p=some (ViewO p d)∧Rd H d (.dK kvs)∧kvs.map (·.2)=ns.map V.int∧Q (.int ns.sum) H):=by
 intro pins s σ H vs us Q I r h
 obtain ⟨p,d,kvs,ns,rfl,hp,hd,hn,q⟩:=h
 rw [Vals.ref1 r]
 have hv:s.heap.IsValuesView p d:=(I.hok p _ hp).1
 obtain ⟨z,hs,vs,rel,dd⟩:=dk_rd I.hok hd
 obtain ⟨ep,hat⟩:=dd.dictAt
 have hh:=I.ok.hd hc
 have hl:vs.length=ns.length:=by
  have:=rel.length
  have e:=congrArg List.length hn
  simp only [List.length_map] at e
  omega
 refine call_sum_walkAnyS (wpAny_pyIter_values hv hat ?_)
 have W:=Walks.dictValues (knd:=mixKind X.prog X.w) (A:=X.A.in1) hh s.heap.objs.size d (Nat.ne_of_lt hat.lt_size) vs ep
 refine ⟨s.heap.objs.size,_,_,_,vs.length,_,_,fun i=>ns.getD i 0,rfl,W.toS,⟨⟨_,Heap.get?_push_size _ rfl,rfl,rfl⟩,hat.push _⟩,fun b hb=>?_,fun i u hu=>?_,fun s' t' hm=>?_⟩
 ·show b<(s.heap.push _).objs.size
  rw [Heap.size_push]
  simp only [List.mem_cons,List.not_mem_nil,or_false] at hb
  rcases hb with rfl | rfl
  ·exact Nat.lt_succ_self _
  ·exact Nat.lt_succ_of_lt hat.lt_size
 ·obtain ⟨k,hk⟩:=hu
  exact paired_int rel hn i k u hk
 ·have hk:∀ b o,s.heap.get? b=some o→s'.heap.get? b=some o:=fun b o e =>
   hm.heap b o (fun hI=>absurd (Heap.lt_size e) (by rw [List.mem_singleton.mp hI];exact Nat.lt_irrefl _)) (Heap.get?_push_of_some _ e)
  rw [Moved.eq_with hm,hl,preSum_list]
  exact ⟨.int _,H,I.kept hk,⟨_,rfl⟩,q⟩
theorem items_keys {κ:Type}{P:Program}{w:World}:∀ {kvs:List (Key×V)}{vs:List (Key×Value)}{l:List Value},KV kvs vs→l.length=vs.length→(∀ (i:Nat) (v:Value),l[i]?=some v→∃ k x,vs[i]?=some (k,x)∧(mixKind P w).is k v=true)→Vals (kvs.map fun kv=>kV kv.1) l
 | _,_,[],.nil,_,_=>.nil
 | _,_,[],.cons _ _,e,_=>by simp at e
 | _,_,_::_,.nil,e,_=>by simp at e
 | _,_,u::l,.cons (a:=a) (b:=b) r t,e,h=>by
  refine .cons ?_ (items_keys (κ:=κ) (P:=P) (w:=w) t (by simpa using e) fun i v hv=>h (i+1) v hv)
  obtain ⟨k,x,h1,h2⟩:=h 0 u rfl
  have h1':=Option.some.inj h1
  have e2:a.1=k:=by rw [r.1,h1']
  show RelV (kV a.1) u
  rw [e2]
  rcases keyIs_shape (k:=k) (v:=u) h2 with ⟨i,t',q1,q2⟩ | ⟨i,t',q1,q2⟩
  ·rw [q1,q2];exact ⟨t',rfl⟩
  ·rw [q1,q2];exact ⟨t',rfl⟩
theorem cr_listdict (hc:X.calm=true):CallR X (.type "list") (fun vs H Q=>∃ (d:Addr) (kvs:List (Key×V)),vs=[.ref d]∧Rd H d (.dK kvs)∧∀ p,H p=none→Q (.ref p) (upd H p (.lst (kvs.map fun kv=>kV kv.1)))):=by
 intro pins s σ H vs us Q I r h
 obtain ⟨d,kvs,rfl,hd,q⟩:=h
 rw [Vals.ref1 r]
 obtain ⟨z,hs,vs,rel,dd⟩:=dk_rd I.hok hd
 obtain ⟨ep,hat⟩:=dd.dictAt
 have hl:=rel.length
 refine PySem.W.kdl_call (PySem.W.kdl_dict (knd:=mixKind X.prog X.w) (kvs:=vs) (ep:=ep) hs) (I.ok.hd hc) hat (by omega) fun h' tk acc c hk e hacc=>?_
 have hv:Vals (kvs.map fun kv=>kV kv.1) acc.toList:=items_keys (κ:=Nat) rel (by rw [Array.length_toList];exact hacc.1) fun i v hv=>hacc.2 i v (by rw [← Array.getElem?_toList];exact hv)
 refine ⟨.ref _,_,I.laid (a:=s.heap.objs.size) (o:=.lst (kvs.map fun kv=>kV kv.1)) (t':=tk) hk (Nat.le_refl _) ⟨by rw [List.length_map];exact z,acc.toList,c,hv,?_⟩,rfl,q _ (I.hok.fresh (Nat.le_refl _))⟩
 simpa using e
end
section
variable {X:Cx}{k:Nat}{x:Str}{p pos:Pos}{e c:Expr}{es:List Expr}{tc:TE}{t:TA}
def tCallV (X:Cx) (k:Nat) (tc:TE) (t:TA):TE:=fun σ H Q=>tc σ H fun x H0=>∃ (f:Addr) (fd:FuncData) (ps:List Str) (sp:Sp),x=.ref f∧FnOk X.prog X.w X.K X.mg X.base CX0 k f fd ps sp∧PySem.W.keepIn X.K (.ref f)=true∧Binds X.K fd ps [] ∧
 t σ H0 fun vs H1=>sp vs H1 Q E0
theorem pe_callv (hc:PE X (.Name x p) tc) (hr:Room k X.A) (ha:PA X (e::es) t) (he:starEach (e::es) X.env=(false,eval e X.env)::starEach es X.env:=by rfl) (hpl:(backTo pos (starEach es X.env)).any (·.1)=false:=by rfl) :
  PE X (.Call (.Name x p) (e::es) [] pos) (tCallV X k tc t):=by
 intro pins s σ H Q I h
 refine wpAny_Call_Name_kw (thn (hc pins s σ H _ I h) fun v s1 ⟨y,H0,I0,ry,f,fd,ps,sp,ey,F,hk,hb,q⟩=>?_)
 subst ey
 obtain rfl:v=Value.ref f:=ry
 refine PySem.W.callWith_K (h₀:=X.base) I.ok.mod.kin hk (thn (ha pos pins s1 σ H0 _ I0 q) fun us s2 ⟨vs,H1,I1,r,q2⟩=>⟨I1.kIn,?_⟩) he hpl
 refine run_fn F hr hb .nil pass0 I1 r ?_
 rw [List.append_nil]
 exact q2
end
end LX
end
section
set_option maxHeartbeats 2000000
namespace LX
open PySem PySem.Spec PyProof.Rows L2
theorem keys_int {P:Program}{w:World}{kvs:List (Key×V)}{vs:List (Key×Value)}{ns:List Int} (rel:KV kvs vs) (hk:kvs.map (·.1)=ns.map Sum.inl) {i:Nat}{k:Key}{x v:Value} (h:vs[i]?=some (k,x)) (hv:(mixKind P w).is k v=true) :
  i<ns.length∧∃ t,v=.int (ns.getD i 0) t:=by
 have e1:(vs.map (·.1))[i]?=some k:=by rw [List.getElem?_map,h];rfl
 rw [← rel.keys,hk,List.getElem?_map] at e1
 cases e2:ns[i]? with
 | none=>rw [e2] at e1;cases e1
 | some n =>
  rw [e2] at e1
  obtain rfl:Sum.inl n=k:=Option.some.inj e1
  refine ⟨(List.getElem?_eq_some_iff.mp e2).1,?_⟩
  rw [List.getD_eq_getElem?_getD,e2]
  rcases keyIs_shape (k:=Sum.inl n) (v:=v) hv with ⟨i',t,q1,q2⟩ | ⟨i',t,q1,q2⟩
  ·cases q1;exact ⟨t,q2⟩
  ·cases q1
section
variable {X:Cx}{pins:List (Addr×Obj)}{σ:L2.St}{H:Hp}{s:Shared}
theorem cr_mindict (hc:X.calm=true):CallR X (.builtin "min") (fun vs H Q=>∃ (d:Addr) (kvs:List (Key×V)) (ns:List Int),vs=[.ref d]∧Rd H d (.dK kvs)∧kvs.map (·.1)=ns.map Sum.inl∧0<ns.length∧∀ m,m∈ns→(∀ y,y∈ns→m≤y)→Q (.int m) H):=by
 intro pins s σ H vs us Q I r h
 obtain ⟨d,kvs,ns,rfl,hd,hk,hne,q⟩:=h
 rw [Vals.ref1 r]
 obtain ⟨z,hs,vs,rel,dd⟩:=dk_rd I.hok hd
 obtain ⟨ep,hat⟩:=dd.dictAt
 have hh:=I.ok.hd hc
 have hl:vs.length=ns.length:=by
  have:=rel.length
  have e:=congrArg List.length hk
  simp only [List.length_map] at e
  omega
 refine call_min_walk (wpAny_pyIter_dict hs hat ?_)
 have W:=Walks.dictKeys (knd:=mixKind X.prog X.w) (A:=X.A.in1) hh s.heap.objs.size d (Nat.ne_of_lt hat.lt_size) vs ep
 refine ⟨s.heap.objs.size,_,_,vs.length,_,_,fun i j=>decide (ns.getD i 0<ns.getD j 0),rfl,W,⟨⟨_,Heap.get?_push_size _ rfl,rfl,rfl⟩,hat.push _⟩,fun b hb=>?_,by omega,CmpOf.ints_lt (fun i=>ns.getD i 0) (fun i v hv=>?_),fun v h' tk hP hkp=>?_⟩
 ·show b<(s.heap.push _).objs.size
  rw [Heap.size_push]
  simp only [List.mem_cons,List.not_mem_nil,or_false] at hb
  rcases hb with rfl | rfl
  ·exact Nat.lt_succ_self _
  ·exact Nat.lt_succ_of_lt hat.lt_size
 ·obtain ⟨k,x,h1,h2⟩:=hv
  exact (keys_int rel hk h1 h2).2
 ·obtain ⟨k,x,h1,h2⟩:=hP
  obtain ⟨hi,t,rfl⟩:=keys_int rel hk h1 h2
  have B:=argBest_lt (fun i=>ns.getD i 0) (vs.length - 1)
  refine ⟨.int _,H,I.kept (t':=tk) fun b o e=>hkp b o (fun hI=>absurd (Heap.lt_size e) (by rw [List.mem_singleton.mp hI];exact Nat.lt_irrefl _)) (Heap.get?_push_of_some _ e),⟨_,rfl⟩,q _ ?_ fun y hy=>?_⟩
  ·rw [List.getD_eq_getElem?_getD,List.getElem?_eq_getElem hi]
   exact List.getElem_mem hi
  ·obtain ⟨j,hj,e⟩:=List.mem_iff_getElem.mp hy
   have:=B.2 j (by omega)
   simp only [List.getD_eq_getElem?_getD (l:=ns) (i:=j),List.getElem?_eq_getElem hj,e,Option.getD_some] at this
   exact this
theorem collect_code {prog:Program}{w:World}{A:Around}{s:Shared}{T:String}{r d:Addr}{n:Nat}{P:Nat→Value→Prop}{OK:Heap→Prop} (K:PySem.W.KdlSrc prog w T r d n P OK) (hh:A.handled=none) (hok:OK s.heap) (hn:n≤sizeLine) {R:Result→Shared→Prop}
  (h:∀ h' tk acc' c',(∀ b o,s.heap.get? b=some o→h'.get? b=some o)→h'.get? s.heap.objs.size=some {cls:=.type "list",dict:=none,data:=.seq acc' c',slots:=#[]}→ItemsOf P acc' n→R (.ok (.ret (.ref s.heap.objs.size))) {s with heap:=h',toks:=tk}) :
  codeAny (model prog w) A (.builtin "proto.collect" ⟨[.ref r],[]⟩) R s:=by
 have hlt:=K.there _ hok
 refine codeAny_builtin PySem.F.entry_proto_collect ?_
 rw [Around.under_plainId PySem.F.plain_proto_collect _]
 show wpAny _ A.in1 (newList [] >>= fun l=>again (.builtin "list.__iadd__" ⟨[l,.ref r],[]⟩)) _ _ s
 refine wpAny_bind (wpAny_newObj_type (wpAny_pure ⟨plainId_quiet PySem.F.plain_list_iadd _,codeAny_builtin PySem.F.entry_list_iadd ?_⟩))
 rw [Around.under_plainId PySem.F.plain_list_iadd _]
 have hS1:(s.heap.push {cls:=.type "list",data:=.seq ([]:List Value).toArray}).get? s.heap.objs.size=some {cls:=.type "list",data:=.seq #[]}:=Heap.get?_push_size _ rfl
 show wpAny _ A.in1 (Builtin.List.listExtendWith (.ref s.heap.objs.size) (.ref r) (.ref s.heap.objs.size)) _ _ _
 refine PySem.W.kdl_extend (A:=A) (R:=R) (s:={s with heap:=s.heap.push {cls:=.type "list",data:=.seq ([]:List Value).toArray}}) K hh (K.keep _ _ hok fun b _ o e=>Heap.get?_push_of_some _ e) s.heap.objs.size (Nat.ne_of_gt hlt.1) (Nat.ne_of_gt hlt.2) _ _ hS1 (fun h' tk acc' c' hk hS' hacc=>?_) hn
 exact h h' tk acc' c' (fun b o e=>hk b o (Nat.ne_of_lt (Heap.lt_size e)) (Heap.get?_push_of_some _ e)) hS' hacc
theorem collect_src {prog:Program}{w:World}{A:Around}{E:Value→Shared→Prop}{s:Shared}{T:String}{r d:Addr}{n:Nat}{P:Nat→Value→Prop}{OK:Heap→Prop} (K:PySem.W.KdlSrc prog w T r d n P OK) (hh:A.handled=none) (hok:OK s.heap) (hn:n≤sizeLine) {R:List Value→Shared→Prop}
  (h:∀ (h':Heap) (tk:Nat) (vs:List Value),(∀ b o,s.heap.get? b=some o→h'.get? b=some o)→vs.length=n→(∀ i v,vs[i]?=some v→P i v)→R vs {s with heap:=h',toks:=tk}) :
  wpAny (model prog w) A (collect (.ref r)) R E s:=by
 unfold collect
 refine wpAny_bind (wpAny_runValue (collect_code K hh hok hn fun h' tk acc' c' hk hS' hacc=>?_))
 show wpAny _ A (load s.heap.objs.size >>= _) _ _ _
 refine wpAny_bind (wpAny_load hS' ?_)
 exact wpAny_pure (h h' tk acc'.toList hk (by rw [Array.length_toList];exact hacc.1) fun i v e=>hacc.2 i v (by rw [← Array.getElem?_toList];exact e))
theorem sorted_src {prog:Program}{w:World}{A:Around}{E:Value→Shared→Prop}{s:Shared}{T:String}{r d:Addr}{n:Nat}{P:Nat→Value→Prop}{OK:Heap→Prop}{l:List Int} (K:PySem.W.KdlSrc prog w T r d n P OK) (hh:A.handled=none) (hok:OK s.heap) (hn:n≤sizeLine)
  (hl:n=l.length) (hP:∀ i v,P i v→∃ t,v=.int (l.getD i 0) t) {Q:Value→Shared→Prop}
  (h:∀ (h1 h':Heap) (tk:Nat) (vs:List Value) (ns:List Int) (c:Nat),(∀ b o,s.heap.get? b=some o→h1.get? b=some o)→(∀ b o,h1.get? b=some o→h'.get? b=some o)→h'.get? h1.objs.size=some (seqObj "list" vs.toArray c) →
   IntsAre vs ns→ns.Perm l→ns.Pairwise (·≤·)→Q (.ref h1.objs.size) {s with heap:=h',toks:=tk}):wpAny (model prog w) A (call (.builtin "sorted") [.ref r]) Q E s:=by
 refine Calls.call_function_entry kind_sorted plain_sorted entry_sorted (args_sorted1 _) ?_
 unfold Builtin.«sorted»
 refine wpAny_bind (m:=checkCount "sorted" 1 1 _) (wpAny_pure (wpAny_bind (collect_src (A:=A.in1) K (by simp [hh]) hok hn fun h1 tk ws k1 hw1 hw2=>?_)))
 have hI:IntsAre ws l:=by
  have:∀ (us:List Value) (ms:List Int),us.length=ms.length→(∀ (i:Nat) (v:Value),us[i]?=some v→∃ t,v=Value.int (ms.getD i 0) t)→IntsAre us ms:=by
   intro us
   induction us with
   | nil=>intro ms e _;cases ms with
    | nil=>exact .nil
    | cons _ _=>simp at e
   | cons u r ih =>
    intro ms e hu
    cases ms with
    | nil=>simp at e
    | cons m ms =>
     obtain ⟨t',rfl⟩:=hu 0 u rfl
     exact .cons m t' (ih ms (by simpa using e) fun i v hv=>hu (i+1) v hv)
  exact this ws l (by omega) fun i v hv=>hP i v (hw2 i v hv)
 have hvl:ws.length≤sizeLine:=by omega
 refine wpAny_bind (wpAny_newList ?_ hvl)
 have hoL:(h1.push (seqObj "list" ws.toArray 0)).get? h1.objs.size=some (seqObj "list" ws.toArray 0):=Heap.get?_push_size _ rfl
 refine wpAny_bind (wpAny_holding (wpAny_call_entry slot_list_sort ⟨_,hoL,rfl⟩ entry_list_sort (list_sort_treeAny hoL hI hvl fun out ns' a1 a2 a3=>⟨_,rfl,?_⟩) (args_list_sort _)))
 obtain ⟨e,he⟩:=sortedHeap_at (out:=out) hoL
 refine wpAny_pure ⟨_,rfl,h h1 _ tk out.toList ns' e k1 (fun b o q=>?_) (by simpa using he) a1 a2 a3⟩
 have lt:=Heap.lt_size q
 rw [sortedHeap_old (Nat.ne_of_lt lt) (by rw [Heap.size_push];exact Nat.lt_succ_of_lt lt)]
 exact Heap.get?_push_of_some _ q
theorem cr_sortdict (hc:X.calm=true):CallR X (.builtin "sorted") (fun vs H Q=>∃ (d:Addr) (kvs:List (Key×V)) (ns:List Int),vs=[.ref d]∧Rd H d (.dK kvs)∧kvs.map (·.1)=ns.map Sum.inl ∧
  ∀ (ns':List Int) (p:Addr),ns'.Perm ns→ns'.Pairwise (·≤·)→H p=none→Q (.ref p) (upd H p (.lst (ns'.map V.int)))):=by
 intro pins s σ H vs us Q I r h
 obtain ⟨d,kvs,ns,rfl,hd,hk,q⟩:=h
 rw [Vals.ref1 r]
 obtain ⟨z,hs,vs,rel,dd⟩:=dk_rd I.hok hd
 obtain ⟨ep,hat⟩:=dd.dictAt
 have hl:vs.length=ns.length:=by
  have:=rel.length
  have e:=congrArg List.length hk
  simp only [List.length_map] at e
  omega
 have hz:vs.length≤sizeLine:=by rw [← rel.length];exact z
 refine sorted_src (PySem.W.kdl_dict (knd:=mixKind X.prog X.w) (kvs:=vs) (ep:=ep) hs) (I.ok.hd hc) hat hz hl (fun i v hv=>?_) fun h1 h' tk vs ns c k1 k2 e hi p1 p2=>?_
 ·obtain ⟨k,x,h1,h2⟩:=hv
  exact (keys_int rel hk h1 h2).2
 ·have I1:Inv X pins σ H {s with heap:=h1,toks:=tk}:=I.kept k1
  have hlen:(ns.map V.int).length≤sizeLine:=by rw [List.length_map,p1.length_eq];omega
  have I2:=I1.laid (a:=h1.objs.size) (o:=.lst (ns.map V.int)) (t':=tk) k2 (Nat.le_refl _) ⟨hlen,vs,c,vals_of_ints hi,e⟩
  exact ⟨.ref _,_,I2,rfl,q ns _ p1 p2 (I1.hok.fresh (Nat.le_refl _))⟩
theorem cr_listvals (hc:X.calm=true):CallR X (.type "list") (fun vs H Q=>∃ (p d:Addr) (kvs:List (Key×V)),vs=[.ref p]∧H p=some (ViewO p d)∧Rd H d (.dK kvs)∧∀ l,H l=none→Q (.ref l) (upd H l (.lst (kvs.map (·.2))))):=by
 intro pins s σ H vs us Q I r h
 obtain ⟨p,d,kvs,rfl,hp,hd,q⟩:=h
 rw [Vals.ref1 r]
 have hv:s.heap.IsValuesView p d:=(I.hok p _ hp).1
 obtain ⟨z,hs,vs,rel,dd⟩:=dk_rd I.hok hd
 obtain ⟨ep,hat⟩:=dd.dictAt
 have hl:=rel.length
 refine PySem.W.kdl_call (PySem.W.kdl_values (knd:=mixKind X.prog X.w) (kvs:=vs) (ep:=ep) (r:=p) (d:=d)) (I.ok.hd hc) ⟨hv,hat⟩ (by omega) fun h' tk acc c hk e hacc=>?_
 have hvv:Vals (kvs.map (·.2)) acc.toList:=by
  have e2:acc.toList=vs.map (·.2):=PySem.W.kdl_vals_eq acc.toList (by rw [Array.length_toList];exact hacc.1) fun j v hv=>hacc.2 j v (by rw [← Array.getElem?_toList];exact hv)
  rw [e2]
  have:∀ {a:List (Key×V)}{b:List (Key×Value)},KV a b→Vals (a.map (·.2)) (b.map (·.2)):=by
   intro a b r
   induction r with
   | nil=>exact .nil
   | cons r _ ih=>exact .cons r.2 ih
  exact this rel
 refine ⟨.ref _,_,I.laid (a:=s.heap.objs.size) (o:=.lst (kvs.map (·.2))) (t':=tk) hk (Nat.le_refl _) ⟨by rw [List.length_map];exact z,acc.toList,c,hvv,?_⟩,rfl,q _ (I.hok.fresh (Nat.le_refl _))⟩
 simpa using e
theorem mt_setdefault:MtR X "dict.setdefault" (fun x vs H Q=>∃ (d:Addr) (kvs:List (Key×V)) (k:Key) (y:V),x=.ref d∧vs=[kV k,y]∧H d=some (.dK kvs)∧kvs.length<sizeLine ∧
  (∀ v,valV kvs k=some v→Q v H)∧(valV kvs k=none→Q y (upd H d (.dK (putK kvs k y))))):=by
 intro pins s σ H x xs v us Q I rx rxs h
 obtain ⟨d,kvs,k,y,rfl,rfl,hd,hl,q1,q2⟩:=h
 cases rx
 obtain ⟨u,u',rfl,ru,ru'⟩:=vals2 rxs
 obtain ⟨z,hs,vs,rel,dd⟩:=dk_of I.hok hd
 have hz:vs.length≤sizeLine:=by rw [← rel.length];exact z
 refine call_meetsIn PySem.F.slot_dict_setdefault dd.typeIs PySem.F.entry_dict_setdefault (PySem.F.args_dict_setdefault_3 _ _ _) (kt_meets_setdefault (mixKind X.prog X.w) d (kV_is ru) hs u')
  ⟨vs,dd,hz,fun w' hw=>?_,fun hn h' dd' hsb=>?_⟩
 ·have R:=rel.val k
  rw [hw] at R
  cases e:valV kvs k with
  | none=>rw [e] at R;exact R.elim
  | some v=>rw [e] at R;exact ⟨v,H,I.tok _,R,q1 v e⟩
 ·have R:=rel.val k
  rw [hn] at R
  have e:valV kvs k=none:=by
   cases e:valV kvs k with
   | none=>rfl
   | some v=>rw [e] at R;exact R.elim
  have he:∃ q,h'.get? d=some q:=let ⟨q,_,_,hq,_⟩:=dd';⟨q,hq⟩
  have hl2:(putK kvs k y).length≤sizeLine:=by have:=length_putK kvs k y;omega
  exact ⟨y,_,d_write I (by rw [hd];exact True.intro) hsb he (dk_new hl2 hs (rel.put k ru') dd'),ru',q2 e⟩
theorem mt_update:MtR X "dict.update" (fun x vs H Q=>∃ (d e:Addr) (kvs more:List (Key×V)),x=.ref d∧vs=[.ref e]∧H d=some (.dK kvs)∧H e=some (.dK more)∧d≠e∧kvs.length+more.length≤sizeLine ∧
  Q .non (upd H d (.dK (mergeK kvs more)))):=by
 intro pins s σ H x xs v us Q I rx rxs h
 obtain ⟨d,e,kvs,more,rfl,rfl,hd,he,hne,hl,q⟩:=h
 cases rx
 rw [Vals.ref1 rxs]
 obtain ⟨z,hs,vs,rel,dd⟩:=dk_of I.hok hd
 obtain ⟨z2,hs2,ws,rel2,dd2⟩:=dk_of I.hok he
 refine call_meetsIn PySem.F.slot_dict_update dd.typeIs PySem.F.entry_dict_update (PySem.F.args_dict_update_2 _ _) (meets_dict_update (mixKind X.prog X.w) d e hne hs2)
  ⟨vs,ws,dd,dd2,by rw [← rel.length,← rel2.length];exact hl,fun h' dd' _ hsb=>?_⟩
 have hx:∃ q,h'.get? d=some q:=let ⟨q,_,_,hq,_⟩:=dd';⟨q,hq⟩
 have hl2:∀ (b a:List (Key×V)),(mergeK a b).length≤a.length+b.length:=by
  intro b
  induction b with
  | nil=>intro a;exact Nat.le_refl _
  | cons p r ih =>
   intro a
   have:=ih (putK a p.1 p.2)
   have:=length_putK a p.1 p.2
   show (mergeK (putK a p.1 p.2) r).length≤_
   rw [List.length_cons];omega
 exact ⟨.non,_,d_write (t':=s.toks) I (by rw [hd];exact True.intro) hsb hx (dk_new (Nat.le_trans (hl2 more kvs) hl) hs (rel2.merge rel) dd'),rfl,q⟩
end
end LX
end
section
namespace L2
open PySem PySem.Spec PyProof.Rows
open PySem.W (WData Codec OpenSpec Well WellAll ReadsW ReadsAllW)
mutual
inductive Dw (K:PySem.W.Frag) (H:Hp):V→WData→Prop
 | non:Dw K H .non .none
 | bl (b:Bool):Dw K H (.bl b) (.bool b)
 | int (i:Int):Dw K H (.int i) (.int i)
 | str (x:Str):Dw K H (.str x) (.str x)
 | byt (b:Array UInt8):Dw K H (.byt b) (.bytes b.toList)
 | lst {a:Addr}{xs:List V}{ds:List WData}:SqL K H a xs→DwAll K H xs ds→Dw K H (.ref a) (.list ds)
 | tup {a:Addr}{xs:List V}{ds:List WData}:SqT K H a xs→DwAll K H xs ds→Dw K H (.ref a) (.tuple ds)
inductive DwAll (K:PySem.W.Frag) (H:Hp):List V→List WData→Prop
 | nil:DwAll K H [] []
 | cons {v:V}{vs:List V}{d:WData}{ds:List WData}:Dw K H v d→DwAll K H vs ds→DwAll K H (v::vs) (d::ds)
end
theorem dw_ints {K:PySem.W.Frag}{H:Hp}:∀ ns:List Int,DwAll K H (ns.map V.int) (ns.map WData.int)
 | []=>.nil
 | n::r=>.cons (.int n) (dw_ints r)
theorem ints_dw {K:PySem.W.Frag}{H:Hp}:∀ (ns:List Int) (xs:List V),DwAll K H xs (ns.map WData.int)→xs=ns.map V.int
 | [],xs,h=>by
  cases h
  rfl
 | n::r,xs,h=>by
  cases h with
  | cons h1 h2 =>
   cases h1
   rw [ints_dw r _ h2] <;> rfl
section
variable {P:Program}{w:World}{K:PySem.W.Frag}{H:Hp}{h:Heap}{R:PySem.W.WRecords}{cl:Str→Option Addr}
theorem sqL_at {a:Addr}{xs:List V} (hok:HOk P w H h) (KX:K.In h) (q:SqL K H a xs):∃ (its:List Value) (o:Obj) (n:Nat),Vals xs its∧h.get? a=some o∧o.cls=.type "list"∧o.data=.seq its.toArray n:=by
 rcases q with q | ⟨o,its,n,e,hc,_,hd,_,hv⟩
 ·obtain ⟨_,its,n,hv,e⟩:=(show ObjOk P w H h a (.lst xs) from q.ok hok)
  exact ⟨its,_,n,hv,e,rfl,rfl⟩
 ·exact ⟨its.toList,o,n,hv,KX _ _ e,hc,by simp [hd]⟩
theorem sqT_at {a:Addr}{xs:List V} (hok:HOk P w H h) (KX:K.In h) (q:SqT K H a xs):∃ (its:List Value) (o:Obj) (n:Nat),Vals xs its∧h.get? a=some o∧o.cls=.type "tuple"∧o.data=.seq its.toArray n:=by
 rcases q with q | ⟨o,its,n,e,hc,hd,_,hv⟩
 ·obtain ⟨_,its,hv,o,e,hc,n,hd⟩:=(show ObjOk P w H h a (.tup xs) from q.ok hok)
  exact ⟨its,o,n,hv,e,hc,hd⟩
 ·exact ⟨its.toList,o,n,hv,KX _ _ e,hc,by simp [hd]⟩
mutual
theorem Dw.reads (hok:HOk P w H h) (KX:K.In h):∀ (d:WData) (v:V) (u:Value),Dw K H v d→RelV v u→∃ as,ReadsW R cl h u d as
 | .none,_,_,x,r=>by
  cases x
  cases r
  exact ⟨_,ReadsW.none⟩
 | .bool b,_,_,x,r=>by
  cases x
  cases r
  exact ⟨_,ReadsW.bool b⟩
 | .int i,_,_,x,r=>by
  cases x
  obtain ⟨t,rfl⟩:=r
  exact ⟨_,ReadsW.int i t⟩
 | .str s,_,_,x,r=>by
  cases x
  obtain ⟨t,rfl⟩:=r
  exact ⟨_,ReadsW.str s t⟩
 | .bytes b,_,_,x,r=>by
  cases x
  obtain ⟨t,rfl⟩:=r
  exact ⟨_,ReadsW.bytes _ t⟩
 | .list ds,_,_,x,r=>by
  cases x with
  | lst hs ha =>
   cases r
   obtain ⟨its,o,n,rv,ho,hc,hd⟩:=sqL_at hok KX hs
   obtain ⟨as,hr⟩:=Dw.readsAll hok KX ds _ its ha rv
   exact ⟨_,ReadsW.list ho hc hd hr⟩
 | .tuple ds,_,_,x,r=>by
  cases x with
  | tup hs ha =>
   cases r
   obtain ⟨its,o,n,rv,ho,hc,hd⟩:=sqT_at hok KX hs
   obtain ⟨as,hr⟩:=Dw.readsAll hok KX ds _ its ha rv
   exact ⟨_,ReadsW.tuple ho hc hd hr⟩
 | .float _,_,_,x,_=>by cases x
 | .dict _,_,_,x,_=>by cases x
 | .bytearray _,_,_,x,_=>by cases x
 | .set _,_,_,x,_=>by cases x
 | .frozenset _,_,_,x,_=>by cases x
 | .obj _ _,_,_,x,_=>by cases x
theorem Dw.readsAll (hok:HOk P w H h) (KX:K.In h):∀ (ds:List WData) (vs:List V) (us:List Value),DwAll K H vs ds→Vals vs us→∃ as,ReadsAllW R cl h us ds as
 | [],_,_,x,r=>by
  cases x
  cases r
  exact ⟨_,ReadsAllW.nil⟩
 | d::ds,_,_,x,r=>by
  cases x with
  | cons h1 h2 =>
   cases r with
   | cons r1 r2 =>
    obtain ⟨as,q1⟩:=Dw.reads hok KX d _ _ h1 r1
    obtain ⟨bs,q2⟩:=Dw.readsAll hok KX ds _ _ h2 r2
    exact ⟨_,ReadsAllW.cons q1 q2⟩
end
end
mutual
def plW:WData→Bool
 | .none=>true
 | .bool _=>true
 | .int _=>true
 | .str _=>true
 | .bytes _=>true
 | .list xs=>plWs xs
 | .tuple xs=>plWs xs
 | _=>false
def plWs:List WData→Bool
 | []=>true
 | x::r=>plW x&&plWs r
end
theorem plWs_map {α:Type}{f:α→WData} (h:∀ a,plW (f a)=true):∀ l:List α,plWs (l.map f)=true
 | []=>rfl
 | x::r=>by
  show (plW (f x)&&plWs (r.map f))=true
  rw [h x,plWs_map h r] <;> rfl
theorem pl_enc:∀ (c:Codec) (a:c.denote),plW (c.enc a)=true
 | .unit,_=>rfl
 | .bool,_=>rfl
 | .int _ _,_=>rfl
 | .nat _ _,_=>rfl
 | .u8,_=>rfl
 | .bytes _ _,_=>rfl
 | .text _ _ _ _,_=>rfl
 | .list _ _ c,a=>plWs_map (fun x=>pl_enc c x) a
 | .pair c d,a=>by
  show (plW (c.enc a.1)&&(plW (d.enc a.2)&&true))=true
  rw [pl_enc c a.1,pl_enc d a.2] <;> rfl
 | .triple c d e,a=>by
  show (plW (c.enc a.1)&&(plW (d.enc a.2.1)&&(plW (e.enc a.2.2)&&true)))=true
  rw [pl_enc c a.1,pl_enc d a.2.1,pl_enc e a.2.2] <;> rfl
 | .option c,none=>rfl
 | .option c,some x=>pl_enc c x
theorem pl_encAll:∀ (cs:List Codec) (a:Codec.denoteAll cs),plWs (Codec.encAll cs a)=true
 | [],_=>rfl
 | c::cs,a=>by
  show (plW (c.enc a.1)&&plWs (Codec.encAll cs a.2))=true
  rw [pl_enc c a.1,pl_encAll cs a.2] <;> rfl
theorem weight_mem:∀ {xs:List WData}{d:WData},d∈xs→d.weight≤WData.weightAll xs
 | [],d,h=>absurd h (by simp)
 | x::r,d,h=>by
  show d.weight≤x.weight+1+WData.weightAll r
  rcases List.mem_cons.mp h with e | m
  ·rw [e]
   omega
  ·have z:=weight_mem m
   omega
def toV:Value→V
 | .none=>.non
 | .bool b=>.bl b
 | .int i _=>.int i
 | .str x _=>.str x
 | .bytes b _=>.byt b
 | .ref a=>.ref a
 | _=>.non
def OkU (A:List Addr):Value→Prop
 | .none=>True
 | .bool _=>True
 | .int _ _=>True
 | .str _ _=>True
 | .bytes _ _=>True
 | .ref a=>a∈A
 | _=>False
theorem OkU.mono {A B:List Addr} (h:∀ a∈A,a∈B):∀ {u:Value},OkU A u→OkU B u:=fun {u} x=>by
 cases u with
 | ref a=>exact h a x
 | none=>trivial
 | bool b=>trivial
 | int i t=>trivial
 | str s t=>trivial
 | bytes b t=>trivial
 | _=>exact False.elim x
theorem relV_toV {A:List Addr}{u:Value} (x:OkU A u):RelV (toV u) u:=by
 cases u with
 | ref a=>rfl
 | none=>rfl
 | bool b=>rfl
 | int i t=>exact ⟨t,rfl⟩
 | str s t=>exact ⟨t,rfl⟩
 | bytes b t=>exact ⟨t,rfl⟩
 | _=>exact False.elim x
theorem vals_toV {A:List Addr}:∀ {vs:List Value},(∀ u∈vs,OkU A u)→Vals (vs.map toV) vs
 | [],_=>.nil
 | u::r,h=>.cons (relV_toV (h u (List.mem_cons_self ..))) (vals_toV fun x hx=>h x (List.mem_cons_of_mem _ hx))
def ArgOb (h:Heap) (A:List Addr) (a:Addr):Prop:=∃ vs:List Value,vs.length≤sizeLine∧(∀ u∈vs,OkU A u) ∧
 (h.get? a=some {cls:=.type "list",data:=.seq vs.toArray}∨h.get? a=some {cls:=.type "tuple",data:=.seq vs.toArray})
theorem ArgOb.mono {h:Heap}{A B:List Addr}{a:Addr} (k:∀ a∈A,a∈B) (x:ArgOb h A a):ArgOb h B a:=by
 obtain ⟨vs,h1,h2,h3⟩:=x
 exact ⟨vs,h1,fun u hu=>(h2 u hu).mono k,h3⟩
theorem wellAll_len {P:Params}{h:Heap}:∀ {vs:List Value}{ds:List WData},WellAll P h vs ds→vs.length=ds.length
 | _,_,.nil=>rfl
 | _,_,.cons _ b=>by
  show _+1=_+1
  rw [wellAll_len b]
theorem well_list {P:Params}{h:Heap}{v:Value}{ds:List WData} (x:Well P h v (.list ds)):∃ (a:Addr) (vs:List Value),v=.ref a∧h.get? a=some {cls:=.type "list",data:=.seq vs.toArray}∧WellAll P h vs ds:=by
 cases x with
 | list ho hall=>exact ⟨_,_,rfl,ho,hall⟩
theorem well_tuple {P:Params}{h:Heap}{v:Value}{ds:List WData} (x:Well P h v (.tuple ds)):∃ (a:Addr) (vs:List Value),v=.ref a∧h.get? a=some {cls:=.type "tuple",data:=.seq vs.toArray}∧WellAll P h vs ds:=by
 cases x with
 | tuple ho hall=>exact ⟨_,_,rfl,ho,hall⟩
theorem well_cons {P:Params}{h:Heap}{us:List Value}{d:WData}{ds:List WData} (x:WellAll P h us (d::ds)):∃ (v:Value) (vs:List Value),us=v::vs∧Well P h v d∧WellAll P h vs ds:=by
 cases x with
 | cons a b=>exact ⟨_,_,rfl,a,b⟩
theorem line_of {n:Nat} (h:n≤1048576):n≤sizeLine:=Nat.le_trans h (by decide)
section
variable {P:Params}{h:Heap}
mutual
theorem area_one:∀ (d:WData) (v:Value),Well P h v d→plW d=true→d.weight≤1048576→∃ A:List Addr,OkU A v∧∀ a∈A,ArgOb h A a
 | .none,_,x,_,_=>by
  cases x
  exact ⟨[],trivial,fun a m=>absurd m (by simp)⟩
 | .bool b,_,x,_,_=>by
  cases x
  exact ⟨[],trivial,fun a m=>absurd m (by simp)⟩
 | .int i,_,x,_,_=>by
  cases x
  exact ⟨[],trivial,fun a m=>absurd m (by simp)⟩
 | .str s,_,x,_,_=>by
  cases x
  exact ⟨[],trivial,fun a m=>absurd m (by simp)⟩
 | .bytes b,_,x,_,_=>by
  cases x
  exact ⟨[],trivial,fun a m=>absurd m (by simp)⟩
 | .list ds,_,x,p,z=>by
  obtain ⟨a,vs,rfl,ho,hall⟩:=well_list x
  have z2:WData.weightAll ds≤1048576:=z
  obtain ⟨A,h1,h2⟩:=area_all ds _ hall p fun d hd=>Nat.le_trans (weight_mem hd) z2
  have k:∀ b∈A,b∈a::A:=fun b hb=>List.mem_cons_of_mem _ hb
  refine ⟨a::A,List.mem_cons_self ..,fun b hb=>?_⟩
  rcases List.mem_cons.mp hb with e | m
  ·rw [e]
   exact ⟨vs,line_of (by rw [wellAll_len hall];exact Nat.le_trans (PySem.W.length_le_weightAllW ds) z2),fun u hu=>(h1 u hu).mono k,.inl ho⟩
  ·exact (h2 b m).mono k
 | .tuple ds,_,x,p,z=>by
  obtain ⟨a,vs,rfl,ho,hall⟩:=well_tuple x
  have z2:WData.weightAll ds≤1048576:=z
  obtain ⟨A,h1,h2⟩:=area_all ds _ hall p fun d hd=>Nat.le_trans (weight_mem hd) z2
  have k:∀ b∈A,b∈a::A:=fun b hb=>List.mem_cons_of_mem _ hb
  refine ⟨a::A,List.mem_cons_self ..,fun b hb=>?_⟩
  rcases List.mem_cons.mp hb with e | m
  ·rw [e]
   exact ⟨vs,line_of (by rw [wellAll_len hall];exact Nat.le_trans (PySem.W.length_le_weightAllW ds) z2),fun u hu=>(h1 u hu).mono k,.inr ho⟩
  ·exact (h2 b m).mono k
 | .float _,_,_,p,_=>Bool.noConfusion (show false=true from p)
 | .dict _,_,_,p,_=>Bool.noConfusion (show false=true from p)
 | .bytearray _,_,_,p,_=>Bool.noConfusion (show false=true from p)
 | .set _,_,_,p,_=>Bool.noConfusion (show false=true from p)
 | .frozenset _,_,_,p,_=>Bool.noConfusion (show false=true from p)
 | .obj _ _,_,_,p,_=>Bool.noConfusion (show false=true from p)
theorem area_all:∀ (ds:List WData) (vs:List Value),WellAll P h vs ds→plWs ds=true→(∀ d∈ds,d.weight≤1048576)→∃ A:List Addr,(∀ u∈vs,OkU A u)∧∀ a∈A,ArgOb h A a
 | [],_,x,_,_=>by
  cases x
  exact ⟨[],fun u m=>absurd m (by simp),fun a m=>absurd m (by simp)⟩
 | d::ds,_,x,p,z=>by
  obtain ⟨v,vs,rfl,x1,x2⟩:=well_cons x
  have q:plW d=true∧plWs ds=true:=Bool.and_eq_true_iff.mp p
  obtain ⟨A,a1,a2⟩:=area_one d v x1 q.1 (z d (List.mem_cons_self ..))
  obtain ⟨B,b1,b2⟩:=area_all ds vs x2 q.2 fun e he=>z e (List.mem_cons_of_mem _ he)
  have kA:∀ b∈A,b∈A++B:=fun b hb=>List.mem_append.mpr (.inl hb)
  have kB:∀ b∈B,b∈A++B:=fun b hb=>List.mem_append.mpr (.inr hb)
  refine ⟨A++B,fun u hu=>?_,fun b hb=>?_⟩
  ·rcases List.mem_cons.mp hu with e | m
   ·rw [e]
    exact a1.mono kA
   ·exact (b1 u m).mono kB
  ·rcases List.mem_append.mp hb with m | m
   ·exact (a2 b m).mono kA
   ·exact (b2 b m).mono kB
end
end
def hoOf (o:Obj):Option HO:=match o.data with
 | .seq vs _=>if (o.cls==Value.type "list")=true then some (.frz o (.lst (vs.toList.map toV))) else some (.frz o (.tup (vs.toList.map toV)))
 | _=>none
def argH (K:PySem.W.Frag) (h:Heap) (A:List Addr):Hp:=fun b=>if b∈A then (if (K.lookup b).isNone=true then (h.get? b).bind hoOf else none) else none
def OnlyF (H:Hp):Prop:=∀ b,H b=none∨∃ o u,H b=some (.frz o u)
theorem hoOf_lst (vs:List Value):hoOf {cls:=.type "list",data:=.seq vs.toArray}=some (.frz {cls:=.type "list",data:=.seq vs.toArray} (.lst (vs.map toV))):=by
 show (if (Value.type "list"==Value.type "list")=true then some (HO.frz {cls:=.type "list",data:=.seq vs.toArray} (.lst (vs.toArray.toList.map toV))) else some (HO.frz {cls:=.type "list",data:=.seq vs.toArray} (.tup (vs.toArray.toList.map toV))))=_
 rw [if_pos (beq_self_eq_true _)]
theorem hoOf_tup (vs:List Value):hoOf {cls:=.type "tuple",data:=.seq vs.toArray}=some (.frz {cls:=.type "tuple",data:=.seq vs.toArray} (.tup (vs.map toV))):=by
 show (if (Value.type "tuple"==Value.type "list")=true then some (HO.frz {cls:=.type "tuple",data:=.seq vs.toArray} (.lst (vs.toArray.toList.map toV))) else some (HO.frz {cls:=.type "tuple",data:=.seq vs.toArray} (.tup (vs.toArray.toList.map toV))))=_
 rw [if_neg (by decide)]
section
variable {P:Program}{w:World}{K:PySem.W.Frag}{h:Heap}{A:List Addr}
theorem argH_at {b:Addr}{o:Obj} (hb:b∈A) (hk:K.lookup b=none) (e:h.get? b=some o):argH K h A b=hoOf o:=by
 unfold argH
 rw [if_pos hb,hk,if_pos (show (none:Option Obj).isNone=true from rfl),e] <;> rfl
theorem of_argH {b:Addr}{u:HO} (q:argH K h A b=some u):b∈A∧K.lookup b=none:=by
 unfold argH at q
 by_cases hb:b∈A
 ·rw [if_pos hb] at q
  cases hk:K.lookup b with
  | none=>exact ⟨hb,rfl⟩
  | some o =>
   rw [hk,if_neg (by simp)] at q
   cases q
 ·rw [if_neg hb] at q
  cases q
theorem argH_is (ar:∀ a∈A,ArgOb h A a) {b:Addr}{u:HO} (q:argH K h A b=some u):K.lookup b=none∧∃ vs:List Value,vs.length≤sizeLine∧(∀ u∈vs,OkU A u) ∧
  ((h.get? b=some {cls:=.type "list",data:=.seq vs.toArray}∧u=.frz {cls:=.type "list",data:=.seq vs.toArray} (.lst (vs.map toV))) ∨
   (h.get? b=some {cls:=.type "tuple",data:=.seq vs.toArray}∧u=.frz {cls:=.type "tuple",data:=.seq vs.toArray} (.tup (vs.map toV)))):=by
 obtain ⟨hb,hk⟩:=of_argH q
 obtain ⟨vs,h1,h2,h3⟩:=ar b hb
 refine ⟨hk,vs,h1,h2,?_⟩
 rcases h3 with e | e
 ·rw [argH_at hb hk e,hoOf_lst] at q
  exact .inl ⟨e,(Option.some.inj q).symm⟩
 ·rw [argH_at hb hk e,hoOf_tup] at q
  exact .inr ⟨e,(Option.some.inj q).symm⟩
theorem argH_only (ar:∀ a∈A,ArgOb h A a):OnlyF (argH K h A):=fun b=>by
 cases q:argH K h A b with
 | none=>exact .inl rfl
 | some u =>
  obtain ⟨_,vs,_,_,⟨_,e⟩ | ⟨_,e⟩⟩:=argH_is ar q
  ·exact .inr ⟨_,_,by rw [e]⟩
  ·exact .inr ⟨_,_,by rw [e]⟩
theorem argH_ok (ar:∀ a∈A,ArgOb h A a):HOk P w (argH K h A) h:=fun b u q=>by
 obtain ⟨_,vs,h1,h2,⟨e,rfl⟩ | ⟨e,rfl⟩⟩:=argH_is ar q
 ·exact ⟨e,by rw [List.length_map];exact h1,vs,_,vals_toV h2,e⟩
 ·exact ⟨e,by rw [List.length_map];exact h1,vs,vals_toV h2,_,e,rfl,_,rfl⟩
theorem seq_inj {c c':Value}{vs us:List Value} (e:(some {cls:=c,data:=.seq vs.toArray}:Option Obj)=some {cls:=c',data:=.seq us.toArray}):c=c'∧vs=us:=by
 have e1:=Option.some.inj e
 have e2:c=c':=congrArg Obj.cls e1
 have e3:Data.seq vs.toArray=Data.seq us.toArray:=congrArg Obj.data e1
 injection e3 with e4
 refine ⟨e2,?_⟩
 have e5:=congrArg Array.toList e4
 simpa using e5
theorem argL (KX:K.In h) (ar:∀ a∈A,ArgOb h A a) {a:Addr}{vs:List Value} (ha:a∈A) (e:h.get? a=some {cls:=.type "list",data:=.seq vs.toArray}):(∀ u∈vs,OkU A u)∧SqL K (argH K h A) a (vs.map toV):=by
 obtain ⟨us,h1,h2,h3⟩:=ar a ha
 have hu:us=vs:=by
  rcases h3 with q | q
  ·rw [e] at q
   exact (seq_inj q).2.symm
  ·rw [e] at q
   exact absurd (Value.type.inj (seq_inj q).1) (by decide)
 subst hu
 refine ⟨h2,?_⟩
 cases hk:K.lookup a with
 | none=>exact .inl (.inr ⟨_,by rw [argH_at ha hk e,hoOf_lst]⟩)
 | some o =>
  have e2:=KX a o hk
  rw [e] at e2
  obtain rfl:=Option.some.inj e2
  exact .inr ⟨_,us.toArray,_,hk,rfl,rfl,rfl,by rw [List.size_toArray];exact h1,by simpa using vals_toV h2⟩
theorem argT (KX:K.In h) (ar:∀ a∈A,ArgOb h A a) {a:Addr}{vs:List Value} (ha:a∈A) (e:h.get? a=some {cls:=.type "tuple",data:=.seq vs.toArray}):(∀ u∈vs,OkU A u)∧SqT K (argH K h A) a (vs.map toV):=by
 obtain ⟨us,h1,h2,h3⟩:=ar a ha
 have hu:us=vs:=by
  rcases h3 with q | q
  ·rw [e] at q
   exact absurd (Value.type.inj (seq_inj q).1) (by decide)
  ·rw [e] at q
   exact (seq_inj q).2.symm
 subst hu
 refine ⟨h2,?_⟩
 cases hk:K.lookup a with
 | none=>exact .inl (.inr ⟨_,by rw [argH_at ha hk e,hoOf_tup]⟩)
 | some o =>
  have e2:=KX a o hk
  rw [e] at e2
  obtain rfl:=Option.some.inj e2
  exact .inr ⟨_,us.toArray,_,hk,rfl,rfl,by rw [List.size_toArray];exact h1,by simpa using vals_toV h2⟩
mutual
theorem dw_one {Pm:Params} (KX:K.In h) (ar:∀ a∈A,ArgOb h A a):∀ (d:WData) (v:Value),Well Pm h v d→plW d=true→OkU A v→Dw K (argH K h A) (toV v) d
 | .none,_,x,_,_=>by
  cases x
  exact .non
 | .bool b,_,x,_,_=>by
  cases x
  exact .bl b
 | .int i,_,x,_,_=>by
  cases x
  exact .int i
 | .str s,_,x,_,_=>by
  cases x
  exact .str s
 | .bytes b,_,x,_,_=>by
  cases x
  have z:=Dw.byt (K:=K) (H:=argH K h A) b.toArray
  exact z
 | .list ds,_,x,p,hu=>by
  obtain ⟨a,vs,rfl,ho,hall⟩:=well_list x
  obtain ⟨h2,hs⟩:=argL KX ar hu ho
  exact .lst hs (dw_all KX ar ds _ hall p h2)
 | .tuple ds,_,x,p,hu=>by
  obtain ⟨a,vs,rfl,ho,hall⟩:=well_tuple x
  obtain ⟨h2,hs⟩:=argT KX ar hu ho
  exact .tup hs (dw_all KX ar ds _ hall p h2)
 | .float _,_,_,p,_=>Bool.noConfusion (show false=true from p)
 | .dict _,_,_,p,_=>Bool.noConfusion (show false=true from p)
 | .bytearray _,_,_,p,_=>Bool.noConfusion (show false=true from p)
 | .set _,_,_,p,_=>Bool.noConfusion (show false=true from p)
 | .frozenset _,_,_,p,_=>Bool.noConfusion (show false=true from p)
 | .obj _ _,_,_,p,_=>Bool.noConfusion (show false=true from p)
theorem dw_all {Pm:Params} (KX:K.In h) (ar:∀ a∈A,ArgOb h A a):∀ (ds:List WData) (vs:List Value),WellAll Pm h vs ds→plWs ds=true→(∀ u∈vs,OkU A u)→DwAll K (argH K h A) (vs.map toV) ds
 | [],_,x,_,_=>by
  cases x
  exact .nil
 | d::ds,_,x,p,hu=>by
  obtain ⟨v,vs,rfl,x1,x2⟩:=well_cons x
  have q:plW d=true∧plWs ds=true:=Bool.and_eq_true_iff.mp p
  exact .cons (dw_one KX ar d v x1 q.1 (hu _ (List.mem_cons_self ..))) (dw_all KX ar ds vs x2 q.2 fun u m=>hu u (List.mem_cons_of_mem _ m))
end
end
theorem spec_call {P:Program}{w:World}{K:PySem.W.Frag}{mg mb:Str→Option Value}{CX:CXT}{k:Nat}{fa:Addr}{fd:FuncData}{ps:List Str}{sp:Sp}{s₁:Shared}{vals:List Value}{ds:List WData}{R:PySem.W.WRecords}{cl:Str→Option Addr}{d0:WData}
  (KX:K.In s₁.heap) (hns:s₁.heap.Ns mainGlobals mg) (hb:s₁.heap.Ns builtinsNs mb) (hbb:∀ x:Str,x≠"__name__"→mb x=bootBuiltins x) (hlim:s₁.heap.NoLimit) (hg:s₁.gens=#[])
  (hwl:WellAll w.params s₁.heap vals ds) (hpl:plWs ds=true) (hwt:∀ d∈ds,d.weight≤1048576) (hr:Room k callerA)
  (F:∀ base:Heap,K.In base→base.Ns mainGlobals mg→FnOk P w K mg base CX k fa fd ps sp) (hbind:∀ (s:Shared) (us:List Value),us.length=ps.length→BindsTo s fd ⟨us,[]⟩ (ps.zip us)) (hlen:ds.length=ps.length)
  (hsp:∀ (H:Hp) (xs:List V),OnlyF H→DwAll K H xs ds→sp xs H (fun v H'=>Dw K H' v d0) fun _ _ _=>False)
  (hCX:∀ H e s',CX [] H s₁ (fun _ _ _=>False) e s'→False) :
  codeAny (model P w) callerA (.call (.ref fa) ⟨vals,[]⟩) (fun r s'=>∃ u as,r=.ok (.ret u)∧ReadsW R cl s'.heap u d0 as∧OldK s₁.heap s'.heap∧s'.os=s₁.os∧AllBare s'.gens) s₁:=by
 obtain ⟨A,ho,ar⟩:=area_all ds vals hwl hpl hwt
 have hO:OnlyF (argH K s₁.heap A):=argH_only ar
 have hok:HOk P w (argH K s₁.heap A) s₁.heap:=argH_ok ar
 have hS:=dw_all KX ar ds vals hwl hpl ho
 have hV:=vals_toV ho
 have hK:∀ b u,argH K s₁.heap A b=some u→K.lookup b=none:=fun b u q=>(argH_is ar q).1
 have noA:∀ {b:Addr}{o:Obj}{es:Array DictEntry}{ep:Nat},s₁.heap.get? b=some o→o.data=.dict es ep→argH K s₁.heap A b=none:=fun {b o es ep} e d=>by
  cases q:argH K s₁.heap A b with
  | none=>rfl
  | some u =>
   obtain ⟨_,vs,_,_,⟨e2,_⟩ | ⟨e2,_⟩⟩:=argH_is ar q
   ·rw [e2] at e
    cases e
    have d':Data.seq vs.toArray _=Data.dict es ep:=d
    cases d'
   ·rw [e2] at e
    cases e
    have d':Data.seq vs.toArray _=Data.dict es ep:=d
    cases d'
 generalize argH K s₁.heap A=H at hO hok hS hK noA
 have base_of:∀ {b:Addr}{o:Obj},s₁.heap.get? b=some o→H b=none→(hidT s₁.heap H).get? b=some o:=fun e n=>hidT_get e n
 have nsK:∀ {b:Addr}{m:Str→Option Value},s₁.heap.Ns b m→(hidT s₁.heap H).Ns b m:=fun {b m} ⟨o,es,ep,e,d,r⟩=>⟨o,es,ep,base_of e (noA e d),d,r⟩
 have nK:∀ b o,K.lookup b=some o→H b=none:=fun b o e=>by
  cases q:H b with
  | none=>rfl
  | some u =>
   rw [hK b u q] at e
   cases e
 have hKb:K.In (hidT s₁.heap H):=fun b o e=>base_of (KX b o e) (nK b o e)
 have hM:Mod K mg (hidT s₁.heap H):=⟨hKb,nsK hns,⟨mb,nsK hb,hbb⟩,let ⟨mc,h1,h2⟩:=hlim;⟨mc,nsK h1,h2⟩⟩
 have e0:Env0 P w K mg (hidT s₁.heap H) callerA [] s₁ H:=⟨rfl,hM,fun b o e=>of_hidT e,Nat.le_of_eq (hidT_size _ _),trivial,fun b hb=>absurd (show b∈([]:List Addr) from hb) (by simp),hok,.of_eq hg⟩
 have hl:vals.length=ps.length:=by rw [wellAll_len hwl];exact hlen
 refine codeAny_mono ((F _ hKb (nsK hns)).run callerA [] s₁ H ⟨vals,[]⟩ vals (vals.map toV) _ _ hr e0 (hbind s₁ vals hl) hV (hsp H _ hO hS)) fun r s' x=>?_
 cases r with
 | error e=>exact (hCX H e s' x).elim
 | ok fl =>
  cases fl with
  | next=>exact False.elim x
  | brk=>exact False.elim x
  | cont=>exact False.elim x
  | ret u =>
   obtain ⟨v,H',os,bare,un,hok',r',q⟩:=x
   have kept:∀ b o,s₁.heap.get? b=some o→s'.heap.get? b=some o:=fun b o e=>by
    cases q2:H b with
    | none=>exact un.keep b o e q2 (by intro z;exact absurd (show b∈([]:List Addr) from z) (by simp)) (by simp)
    | some u2 =>
     rcases hO b with z | ⟨ob,u3,z⟩
     ·rw [q2] at z
      cases z
     ·have z2:=un.frzs b ob _ z
      obtain ⟨e1,_⟩:=hok b _ z
      obtain ⟨e2,_⟩:=hok' b _ z2
      rw [e] at e1
      cases e1
      exact e2
   have KX':K.In s'.heap:=fun b o e=>kept b o (KX b o e)
   obtain ⟨as,hrd⟩:=Dw.reads (R:=R) (cl:=cl) hok' KX' d0 v u q r'
   exact ⟨u,as,rfl,hrd,OldK.of_keep kept,os,bare⟩
theorem layable_weight {ds:List WData} (h:WData.layableAll ds=true):∀ d∈ds,d.weight≤1048576:=fun d hd =>
 (PySem.W.layableW_iff.mp (List.all_eq_true.mp h d hd)).2.2
theorem encAll_len:∀ (cs:List Codec) (a:Codec.denoteAll cs),(Codec.encAll cs a).length=cs.length
 | [],_=>rfl
 | c::cs,a=>by
  show (Codec.encAll cs a.2).length+1=cs.length+1
  rw [encAll_len cs a.2]
theorem walk_spec {r:OpenSpec}{k:Nat}{q:Program}{loose:List Str}{XP:(Str→Option Value)→Heap→Prop}{YP:World→Heap→Prop}{d:DefRec}{K:Params→PySem.W.Frag}{CX:World→CXT}{ps:List Str}{sp:World→Sp}
  (hwell:r.wellSaid=true) (hdf:d.params.defaults=[]) (hlen:r.args.length=ps.length) (hr:Room k callerA)
  (hY:∀ (w:World) (h:Heap),YP w h→(K w.params).In h)
  (F:∀ (w:World) (mg:Str→Option Value) (fa:Addr) (h:Heap),YP w h→(K w.params).In h→h.Ns mainGlobals mg→mg d.name=some (.ref fa) →
   ∃ fd:FuncData,(∀ (s:Shared) (us:List Value),us.length=ps.length→BindsTo s fd ⟨us,[]⟩ (ps.zip us)) ∧
    ∀ base:Heap,(K w.params).In base→base.Ns mainGlobals mg→FnOk r.prog w (K w.params) mg base (CX w) k fa fd ps (sp w))
  (hsp:∀ (w:World) (H:Hp) (xs:List V) (a:Codec.denoteAll r.args),OnlyF H→Codec.withinAll r.args a=true→Codec.app r.args r.asked a=true→DwAll (K w.params) H xs (Codec.encAll r.args a) →
   sp w xs H (fun v H'=>Dw (K w.params) H' v (r.ret.enc (Codec.app r.args r.f a))) fun _ _ _=>False)
  (hCX:∀ (w:World) (H:Hp) (s:Shared) (e:Value) (s':Shared),CX w [] H s (fun _ _ _=>False) e s'→False) :
  PySem.W.WalkOS q loose XP YP r d [] (fun f vs=>PySem.call f vs):=by
 intro w s_0 s₁ mg mb G Y fa o pm cd doc dV kV ho hd hcd hD hmg hg args vals as hpre hlay hrd hwl hlo
 obtain ⟨a,e1,e2⟩:=PySem.W.os_pre_some hpre
 obtain ⟨e3,hwi⟩:=Codec.encAll_of_decAll r.args args a e1
 subst e3
 have KX:=hY w _ Y
 obtain ⟨fd,hb,hF⟩:=F w mg fa _ Y KX G.T.g hmg
 refine PySem.W.enter_call (codeAny_mono (spec_call (R:=[]) (cl:=classAt s_0.heap) (d0:=r.ret.enc (Codec.app r.args r.f a)) KX G.T.g G.T.b G.T.builtins G.T.nolimit hg hwl (pl_encAll _ _) (layable_weight hlay) hr hF hb (by rw [encAll_len];exact hlen)
  (fun H xs hO hS=>hsp w H xs a hO hwi e2 hS) fun H e s'=>hCX w H s₁ e s') fun r' s' hq=>?_)
 obtain ⟨u,as',rfl,h1,h2,h3,h4⟩:=hq
 exact ⟨.inl ⟨u,_,as',rfl,fun _=>rfl,h1,(OpenSpec.post_iff hwell hwi _ _).mpr rfl,fun z=>Bool.noConfusion (show false=true from z)⟩,h2,h3,h4⟩
theorem walk_specK {r:OpenSpec}{k:Nat}{q:Program}{loose:List Str}{XP:(Str→Option Value)→Heap→Prop}{YP:World→Heap→Prop}{d:DefRec}{K:Params→PySem.W.Frag}{CX:CXT}{ps:List Str}{sp:PySem.W.Frag→Sp}
  (hwell:r.wellSaid=true) (hdf:d.params.defaults=[]) (hlen:r.args.length=ps.length) (hr:Room k callerA)
  (hY:∀ (w:World) (h:Heap),YP w h→(K w.params).In h)
  (F:∀ (w:World) (mg:Str→Option Value) (fa:Addr) (h:Heap),YP w h→(K w.params).In h→h.Ns mainGlobals mg→mg d.name=some (.ref fa) →
   ∃ fd:FuncData,(∀ (s:Shared) (us:List Value),us.length=ps.length→BindsTo s fd ⟨us,[]⟩ (ps.zip us)) ∧
    ∀ base:Heap,(K w.params).In base→base.Ns mainGlobals mg→FnOk r.prog w (K w.params) mg base CX k fa fd ps (sp (K w.params)))
  (hsp:∀ (K:PySem.W.Frag) (H:Hp) (xs:List V) (a:Codec.denoteAll r.args),OnlyF H→Codec.withinAll r.args a=true→Codec.app r.args r.asked a=true→DwAll K H xs (Codec.encAll r.args a) →
   sp K xs H (fun v H'=>Dw K H' v (r.ret.enc (Codec.app r.args r.f a))) fun _ _ _=>False)
  (hCX:∀ (H:Hp) (s:Shared) (e:Value) (s':Shared),CX [] H s (fun _ _ _=>False) e s'→False) :
  PySem.W.WalkOS q loose XP YP r d [] (fun f vs=>PySem.call f vs) :=
 walk_spec (K:=K) (CX:=fun _=>CX) (sp:=fun w=>sp (K w.params)) hwell hdf hlen hr hY F (fun w H xs a h1 h2 h3 h4=>hsp (K w.params) H xs a h1 h2 h3 h4) fun _ H s e s'=>hCX H s e s'
end L2
end
section
set_option maxHeartbeats 4000000
namespace Go
open PySem PySem.Spec PyProof.Rows L2 LX
def top (i:Nat):Stmt:=PySem.Challenge.pw_stepsweep_s01_answers.main.body.getD i (.Pass ⟨0,0,0,0⟩)
abbrev Z78:Stmt:=top 9
abbrev Z8Q:Stmt:=top 10
abbrev Z7S:Stmt:=top 11
abbrev Z8O:Stmt:=top 12
abbrev Z3d:Stmt:=top 13
abbrev Z8N:Stmt:=top 14
abbrev Z3e:Stmt:=top 15
abbrev Z34:Stmt:=top 16
abbrev Z73:Stmt:=top 17
abbrev Z7x:Stmt:=top 18
abbrev Z4F:Stmt:=top 29
abbrev Z55:Stmt:=top 30
abbrev Z7v:Stmt:=top 31
abbrev Z4g:Stmt:=top 32
abbrev Z4w:Stmt:=top 33
abbrev Z3K:Stmt:=top 34
abbrev Z4x:Stmt:=top 35
abbrev Z7u:Stmt:=top 36
abbrev Z6S:Stmt:=top 37
abbrev Z4v:Stmt:=top 38
abbrev Z3N:Stmt:=top 40
abbrev Z7c:Stmt:=top 41
abbrev Z3p:Stmt:=top 42
abbrev Z63:Stmt:=inClass (top 44) 0
abbrev Z4c:Stmt:=inClass (top 44) 1
abbrev Z51:Stmt:=inClass (top 44) 2
abbrev Z6B:Stmt:=inClass (top 44) 3
abbrev Z8c:Stmt:=top 46
abbrev Z8b:Stmt:=top 48
abbrev Z6V:Stmt:=top 49
abbrev Z5A:Stmt:=inClass (top 51) 0
abbrev Z3M:Stmt:=inClass (top 51) 1
abbrev Z3Q:Stmt:=inClass (top 51) 2
abbrev Z1V:Stmt:=inClass (top 51) 3
abbrev Z2g:Stmt:=inClass (top 51) 4
abbrev Z2O:Stmt:=inClass (top 51) 5
abbrev Z5B:Stmt:=top 53
abbrev Z57:Stmt:=top 54
abbrev Z6A:Stmt:=top 55
abbrev Z4z:Stmt:=inClass (top 60) 0
abbrev Z3u:Stmt:=inClass (top 60) 1
abbrev Z1R:Stmt:=inClass (top 60) 2
abbrev Z2u:Stmt:=inClass (top 60) 3
abbrev Z4i:Stmt:=inClass (top 60) 4
abbrev Z35:Stmt:=inClass (top 60) 5
abbrev Z2Q:Stmt:=inClass (top 60) 6
abbrev Z38:Stmt:=inClass (top 60) 7
abbrev Z37:Stmt:=inClass (top 60) 8
abbrev Z2M:Stmt:=inClass (top 60) 9
abbrev Z1S:Stmt:=inClass (top 60) 10
abbrev Z36:Stmt:=inClass (top 60) 11
abbrev Z5E:Stmt:=top 62
abbrev Z5F:Stmt:=top 63
abbrev Z64:Stmt:=top 64
abbrev Z6b:Stmt:=inClass (top 66) 0
abbrev Z3L:Stmt:=inClass (top 66) 1
abbrev Z3U:Stmt:=inClass (top 66) 2
abbrev Z2s:Stmt:=inClass (top 66) 3
abbrev Z3P:Stmt:=inClass (top 66) 4
abbrev Z4f:Stmt:=inClass (top 66) 5
abbrev ZW:Stmt:=inClass (top 66) 6
abbrev Z67:Stmt:=inClass (top 66) 7
abbrev Z4B:Stmt:=inClass (top 66) 8
abbrev Z4e:Stmt:=inClass (top 66) 9
abbrev Z72:Stmt:=inClass (top 68) 0
abbrev Z4y:Stmt:=inClass (top 68) 1
abbrev Z2N:Stmt:=inClass (top 68) 2
abbrev Z69:Stmt:=inClass (top 68) 3
abbrev Z6T:Stmt:=top 70
abbrev Z7w:Stmt:=top 71
abbrev Z80:Stmt:=top 72
abbrev Z68:Stmt:=top 73
abbrev Z6d:Stmt:=top 75
abbrev Z5P:Stmt:=top 76
abbrev Z6e:Stmt:=top 77
abbrev Z5N:Stmt:=top 78
abbrev Z5a:Stmt:=top 79
abbrev Z5M:Stmt:=top 80
abbrev Z66:Stmt:=top 81
abbrev Z56:Stmt:=top 82
abbrev Z4C:Stmt:=top 83
abbrev Z65:Stmt:=top 84
abbrev Z53:Stmt:=top 85
abbrev Z6c:Stmt:=top 86
abbrev Z5y:Stmt:=top 87
abbrev Z62:Stmt:=top 88
abbrev Z6Z:Stmt:=top 89
abbrev Z54:Stmt:=top 90
abbrev Z6E:Stmt:=top 92
abbrev Z6J:Stmt:=top 93
theorem Z94:FnScope ["number"] ["number"] (defScope Z78):=⟨rfl,rfl,rfl,by decide +kernel,rfl,by decide +kernel,by decide +kernel⟩
theorem Zai:FnScope ["number"] ["number"] (defScope Z8Q):=⟨rfl,rfl,rfl,by decide +kernel,rfl,by decide +kernel,by decide +kernel⟩
theorem Z9N:FnScope ["number"] ["number"] (defScope Z7S):=⟨rfl,rfl,rfl,by decide +kernel,rfl,by decide +kernel,by decide +kernel⟩
theorem Zab:FnScope ["number"] ["number"] (defScope Z8O):=⟨rfl,rfl,rfl,by decide +kernel,rfl,by decide +kernel,by decide +kernel⟩
theorem Z5L:FnScope ["number"] ["number"] (defScope Z3d):=⟨rfl,rfl,rfl,by decide +kernel,rfl,by decide +kernel,by decide +kernel⟩
theorem Zae:FnScope ["number"] ["number"] (defScope Z8N):=⟨rfl,rfl,rfl,by decide +kernel,rfl,by decide +kernel,by decide +kernel⟩
theorem Z5C:FnScope ["number"] ["number"] (defScope Z3e):=⟨rfl,rfl,rfl,by decide +kernel,rfl,by decide +kernel,by decide +kernel⟩
theorem Z5c:FnScope ["number"] ["number"] (defScope Z34):=⟨rfl,rfl,rfl,by decide +kernel,rfl,by decide +kernel,by decide +kernel⟩
theorem Z42:FnScope ["numbers","number"] ["numbers"] (defScope Z73):=⟨rfl,rfl,rfl,by decide +kernel,rfl,by decide +kernel,by decide +kernel⟩
theorem Z4T:FnScope ["numbers","number"] ["numbers"] (defScope Z7x):=⟨rfl,rfl,rfl,by decide +kernel,rfl,by decide +kernel,by decide +kernel⟩
theorem Z2J:FnScope ["state","k","outs","ins","refusal","session"] ["state","k","outs","ins"] (defScope Z4F):=⟨rfl,rfl,rfl,by decide +kernel,rfl,by decide +kernel,by decide +kernel⟩
theorem Zz:FnScope ["state","k","outs","ins","place"] ["state","k","outs","ins"] (defScope Z55):=⟨rfl,rfl,rfl,by decide +kernel,rfl,by decide +kernel,by decide +kernel⟩
theorem Z4S:FnScope ["state","place","session"] ["state","place"] (defScope Z7v):=⟨rfl,rfl,rfl,by decide +kernel,rfl,by decide +kernel,by decide +kernel⟩
theorem Z3R:FnScope ["state","k","sizes","refs","refusal"] ["state","k","sizes","refs"] (defScope Z4g):=⟨rfl,rfl,rfl,by decide +kernel,rfl,by decide +kernel,by decide +kernel⟩
theorem Z1p:FnScope ["state","k","sizes","refs","refusal","session","rows"] ["state","k","sizes","refs"] (defScope Z4w):=⟨rfl,rfl,rfl,by decide +kernel,rfl,by decide +kernel,by decide +kernel⟩
theorem Z6i:FnScope ["state","k"] ["state","k"] (defScope Z3K):=⟨rfl,rfl,rfl,by decide +kernel,rfl,by decide +kernel,by decide +kernel⟩
theorem ZY:FnScope ["refs","how_many","rows","position","start"] ["refs","how_many"] (defScope Z4x):=⟨rfl,rfl,rfl,by decide +kernel,rfl,by decide +kernel,by decide +kernel⟩
theorem Z2d:FnScope ["state","session","rows","allowed","out","row","reference"] ["state","session","rows"] (defScope Z7u):=⟨rfl,rfl,rfl,by decide +kernel,rfl,by decide +kernel,by decide +kernel⟩
theorem Z2U:FnScope ["state","session","sizes","refs","outs","rows","row"] ["state","session","sizes","refs"] (defScope Z6S):=⟨rfl,rfl,rfl,by decide +kernel,rfl,by decide +kernel,by decide +kernel⟩
theorem Z4h:FnScope ["state","k","refusal"] ["state","k"] (defScope Z4v):=⟨rfl,rfl,rfl,by decide +kernel,rfl,by decide +kernel,by decide +kernel⟩
theorem Z6t:FnScope ["state","n"] ["state","n"] (defScope Z3N):=⟨rfl,rfl,rfl,by decide +kernel,rfl,by decide +kernel,by decide +kernel⟩
theorem Z1I:FnScope ["state","n","collector","gone","left"] ["state","n"] (defScope Z7c):=⟨rfl,rfl,rfl,by decide +kernel,rfl,by decide +kernel,by decide +kernel⟩
theorem Z5Q:FnScope ["state"] ["state"] (defScope Z3p):=⟨rfl,rfl,rfl,by decide +kernel,rfl,by decide +kernel,by decide +kernel⟩
theorem Z8t:FnScope ["self","numbers"] ["self","numbers"] (defScope Z63):=⟨rfl,rfl,rfl,by decide +kernel,rfl,by decide +kernel,by decide +kernel⟩
theorem Z7a:FnScope ["self"] ["self"] (defScope Z4c):=⟨rfl,rfl,rfl,by decide +kernel,rfl,by decide +kernel,by decide +kernel⟩
theorem Z4Q:FnScope ["self","found"] ["self"] (defScope Z51):=⟨rfl,rfl,rfl,by decide +kernel,rfl,by decide +kernel,by decide +kernel⟩
theorem Z3Z:FnScope ["self","length","start"] ["self"] (defScope Z6B):=⟨rfl,rfl,rfl,by decide +kernel,rfl,by decide +kernel,by decide +kernel⟩
theorem Za2:FnScope ["state","n"] ["state","n"] (defScope Z8c):=⟨rfl,rfl,rfl,by decide +kernel,rfl,by decide +kernel,by decide +kernel⟩
theorem Z9O:FnScope ["state","r","p"] ["state","r","p"] (defScope Z8b):=⟨rfl,rfl,rfl,by decide +kernel,rfl,by decide +kernel,by decide +kernel⟩
theorem Z91:FnScope ["state","r"] ["state","r"] (defScope Z6V):=⟨rfl,rfl,rfl,by decide +kernel,rfl,by decide +kernel,by decide +kernel⟩
theorem Z88:FnScope ["self"] ["self"] (defScope Z5A):=⟨rfl,rfl,rfl,by decide +kernel,rfl,by decide +kernel,by decide +kernel⟩
theorem Z3m:FnScope ["self","places","place"] ["self","places"] (defScope Z3M):=⟨rfl,rfl,rfl,by decide +kernel,rfl,by decide +kernel,by decide +kernel⟩
theorem Z6q:FnScope ["self"] ["self"] (defScope Z3Q):=⟨rfl,rfl,rfl,by decide +kernel,rfl,by decide +kernel,by decide +kernel⟩
theorem Z11:FnScope ["self","places","place"] ["self","places"] (defScope Z1V):=⟨rfl,rfl,rfl,by decide +kernel,rfl,by decide +kernel,by decide +kernel⟩
theorem Z4j:FnScope ["self","outs","ins"] ["self","outs","ins"] (defScope Z2g):=⟨rfl,rfl,rfl,by decide +kernel,rfl,by decide +kernel,by decide +kernel⟩
theorem Z4X:FnScope ["self"] ["self"] (defScope Z2O):=⟨rfl,rfl,rfl,by decide +kernel,rfl,by decide +kernel,by decide +kernel⟩
theorem Z87:FnScope ["state","k"] ["state","k"] (defScope Z5B):=⟨rfl,rfl,rfl,by decide +kernel,rfl,by decide +kernel,by decide +kernel⟩
theorem Z7D:FnScope ["state","k"] ["state","k"] (defScope Z57):=⟨rfl,rfl,rfl,by decide +kernel,rfl,by decide +kernel,by decide +kernel⟩
theorem Z9c:FnScope ["state","k","p"] ["state","k","p"] (defScope Z6A):=⟨rfl,rfl,rfl,by decide +kernel,rfl,by decide +kernel,by decide +kernel⟩
theorem Z7r:FnScope ["self"] ["self"] (defScope Z4z):=⟨rfl,rfl,rfl,by decide +kernel,rfl,by decide +kernel,by decide +kernel⟩
theorem Z5S:FnScope ["self"] ["self"] (defScope Z3u):=⟨rfl,rfl,rfl,by decide +kernel,rfl,by decide +kernel,by decide +kernel⟩
theorem Z47:FnScope ["self","to_be_won","places"] ["self","to_be_won","places"] (defScope Z1R):=⟨rfl,rfl,rfl,by decide +kernel,rfl,by decide +kernel,by decide +kernel⟩
theorem Z4J:FnScope ["self"] ["self"] (defScope Z2u):=⟨rfl,rfl,rfl,by decide +kernel,rfl,by decide +kernel,by decide +kernel⟩
theorem Z6H:FnScope ["self","things","places"] ["self","things","places"] (defScope Z4i):=⟨rfl,rfl,rfl,by decide +kernel,rfl,by decide +kernel,by decide +kernel⟩
theorem Z2P:FnScope ["self","places","place"] ["self","places"] (defScope Z35):=⟨rfl,rfl,rfl,by decide +kernel,rfl,by decide +kernel,by decide +kernel⟩
theorem Z18:FnScope ["self","places","place"] ["self","places"] (defScope Z2Q):=⟨rfl,rfl,rfl,by decide +kernel,rfl,by decide +kernel,by decide +kernel⟩
theorem Z5p:FnScope ["self","things"] ["self","things"] (defScope Z38):=⟨rfl,rfl,rfl,by decide +kernel,rfl,by decide +kernel,by decide +kernel⟩
theorem Z2R:FnScope ["self","things","place"] ["self","things"] (defScope Z37):=⟨rfl,rfl,rfl,by decide +kernel,rfl,by decide +kernel,by decide +kernel⟩
theorem ZL:FnScope ["self","things","knot","place"] ["self","things"] (defScope Z2M):=⟨rfl,rfl,rfl,by decide +kernel,rfl,by decide +kernel,by decide +kernel⟩
theorem ZV:FnScope ["self","things","place"] ["self","things"] (defScope Z1S):=⟨rfl,rfl,rfl,by decide +kernel,rfl,by decide +kernel,by decide +kernel⟩
theorem Zy:FnScope ["self","things","white","place"] ["self","things"] (defScope Z36):=⟨rfl,rfl,rfl,by decide +kernel,rfl,by decide +kernel,by decide +kernel⟩
theorem ZT:FnScope ["places","references","reached","place","waiting","reference"] ["places","references"] (defScope Z5E):=⟨rfl,rfl,rfl,by decide +kernel,rfl,by decide +kernel,by decide +kernel⟩
theorem Z1T:FnScope ["references","referrers","place","reference"] ["references"] (defScope Z5F):=⟨rfl,rfl,rfl,by decide +kernel,rfl,by decide +kernel,by decide +kernel⟩
theorem ZF:FnScope ["references","places","reached","place","knots","knot","other"] ["references"] (defScope Z64):=⟨rfl,rfl,rfl,by decide +kernel,rfl,by decide +kernel,by decide +kernel⟩
theorem Z8J:FnScope ["self"] ["self"] (defScope Z6b):=⟨rfl,rfl,rfl,by decide +kernel,rfl,by decide +kernel,by decide +kernel⟩
theorem Zx:FnScope ["self","places","sizes","rows","entered","index","place","knot"] ["self","places","sizes","rows"] (defScope Z3L):=⟨rfl,rfl,rfl,by decide +kernel,rfl,by decide +kernel,by decide +kernel⟩
theorem Z3x:FnScope ["self","knot","place"] ["self","knot"] (defScope Z3U):=⟨rfl,rfl,rfl,by decide +kernel,rfl,by decide +kernel,by decide +kernel⟩
theorem ZG:FnScope ["self","place","step","own","reference","smallest"] ["self","place","step"] (defScope Z2s):=⟨rfl,rfl,rfl,by decide +kernel,rfl,by decide +kernel,by decide +kernel⟩
theorem Z1Q:FnScope ["self","knot","place"] ["self","knot"] (defScope Z3P):=⟨rfl,rfl,rfl,by decide +kernel,rfl,by decide +kernel,by decide +kernel⟩
theorem Z6R:FnScope ["self","place"] ["self","place"] (defScope Z4f):=⟨rfl,rfl,rfl,by decide +kernel,rfl,by decide +kernel,by decide +kernel⟩
theorem Z2i:FnScope ["self","place"] ["self","place"] (defScope ZW):=⟨rfl,rfl,rfl,by decide +kernel,rfl,by decide +kernel,by decide +kernel⟩
theorem Z8r:FnScope ["self"] ["self"] (defScope Z67):=⟨rfl,rfl,rfl,by decide +kernel,rfl,by decide +kernel,by decide +kernel⟩
theorem Z7e:FnScope ["self","places"] ["self","places"] (defScope Z4B):=⟨rfl,rfl,rfl,by decide +kernel,rfl,by decide +kernel,by decide +kernel⟩
theorem Z71:FnScope ["self","place"] ["self","place"] (defScope Z4e):=⟨rfl,rfl,rfl,by decide +kernel,rfl,by decide +kernel,by decide +kernel⟩
theorem Z9j:FnScope ["self"] ["self"] (defScope Z72):=⟨rfl,rfl,rfl,by decide +kernel,rfl,by decide +kernel,by decide +kernel⟩
theorem Z7l:FnScope ["self","place"] ["self","place"] (defScope Z4y):=⟨rfl,rfl,rfl,by decide +kernel,rfl,by decide +kernel,by decide +kernel⟩
theorem Zu:FnScope ["self","anchored","session","place"] ["self"] (defScope Z2N):=⟨rfl,rfl,rfl,by decide +kernel,rfl,by decide +kernel,by decide +kernel⟩
theorem Z8o:FnScope ["self","places"] ["self","places"] (defScope Z69):=⟨rfl,rfl,rfl,by decide +kernel,rfl,by decide +kernel,by decide +kernel⟩
theorem Z93:FnScope ["state"] ["state"] (defScope Z6T):=⟨rfl,rfl,rfl,by decide +kernel,rfl,by decide +kernel,by decide +kernel⟩
theorem Z9o:FnScope ["state"] ["state"] (defScope Z7w):=⟨rfl,rfl,rfl,by decide +kernel,rfl,by decide +kernel,by decide +kernel⟩
theorem Z1N:FnScope ["state","p","reaching","roots","r","sessions","k"] ["state","p"] (defScope Z80):=⟨rfl,rfl,rfl,by decide +kernel,rfl,by decide +kernel,by decide +kernel⟩
theorem Z2o:FnScope ["state","things","collector","marks"] ["state"] (defScope Z68):=⟨rfl,rfl,rfl,by decide +kernel,rfl,by decide +kernel,by decide +kernel⟩
theorem Z8K:FnScope ["state","reader"] ["state","reader"] (defScope Z6d):=⟨rfl,rfl,rfl,by decide +kernel,rfl,by decide +kernel,by decide +kernel⟩
theorem Z83:FnScope ["state","reader"] ["state","reader"] (defScope Z5P):=⟨rfl,rfl,rfl,by decide +kernel,rfl,by decide +kernel,by decide +kernel⟩
theorem Z3C:FnScope ["state","reader","k","p"] ["state","reader"] (defScope Z6e):=⟨rfl,rfl,rfl,by decide +kernel,rfl,by decide +kernel,by decide +kernel⟩
theorem Z1U:FnScope ["state","reader","k","outs","ins"] ["state","reader"] (defScope Z5N):=⟨rfl,rfl,rfl,by decide +kernel,rfl,by decide +kernel,by decide +kernel⟩
theorem Z1B:FnScope ["state","reader","k","sizes","refs"] ["state","reader"] (defScope Z5a):=⟨rfl,rfl,rfl,by decide +kernel,rfl,by decide +kernel,by decide +kernel⟩
theorem Z7W:FnScope ["state","reader"] ["state","reader"] (defScope Z5M):=⟨rfl,rfl,rfl,by decide +kernel,rfl,by decide +kernel,by decide +kernel⟩
theorem Z3F:FnScope ["state","reader","r","p"] ["state","reader"] (defScope Z66):=⟨rfl,rfl,rfl,by decide +kernel,rfl,by decide +kernel,by decide +kernel⟩
theorem Z7M:FnScope ["state","reader"] ["state","reader"] (defScope Z56):=⟨rfl,rfl,rfl,by decide +kernel,rfl,by decide +kernel,by decide +kernel⟩
theorem Z7n:FnScope ["state","reader"] ["state","reader"] (defScope Z4C):=⟨rfl,rfl,rfl,by decide +kernel,rfl,by decide +kernel,by decide +kernel⟩
theorem Z8s:FnScope ["state","reader"] ["state","reader"] (defScope Z65):=⟨rfl,rfl,rfl,by decide +kernel,rfl,by decide +kernel,by decide +kernel⟩
theorem Z7L:FnScope ["state","reader"] ["state","reader"] (defScope Z53):=⟨rfl,rfl,rfl,by decide +kernel,rfl,by decide +kernel,by decide +kernel⟩
theorem Z8F:FnScope ["state","reader"] ["state","reader"] (defScope Z6c):=⟨rfl,rfl,rfl,by decide +kernel,rfl,by decide +kernel,by decide +kernel⟩
theorem Z89:FnScope ["state","reader"] ["state","reader"] (defScope Z5y):=⟨rfl,rfl,rfl,by decide +kernel,rfl,by decide +kernel,by decide +kernel⟩
theorem Z8E:FnScope ["state","reader"] ["state","reader"] (defScope Z62):=⟨rfl,rfl,rfl,by decide +kernel,rfl,by decide +kernel,by decide +kernel⟩
theorem Z9h:FnScope ["state","reader"] ["state","reader"] (defScope Z6Z):=⟨rfl,rfl,rfl,by decide +kernel,rfl,by decide +kernel,by decide +kernel⟩
theorem Z7B:FnScope ["state","reader"] ["state","reader"] (defScope Z54):=⟨rfl,rfl,rfl,by decide +kernel,rfl,by decide +kernel,by decide +kernel⟩
theorem Z6f:FnScope ["state","reader","answer_call"] ["state","reader"] (defScope Z6E):=⟨rfl,rfl,rfl,by decide +kernel,rfl,by decide +kernel,by decide +kernel⟩
theorem Z3c:FnScope ["calls","state","reader","told","answer"] ["calls"] (defScope Z6J):=⟨rfl,rfl,rfl,by decide +kernel,rfl,by decide +kernel,by decide +kernel⟩
def TabOf:List DictEntry→Nat→List Addr→Prop
 | [],_,[]=>True
 | e::r,n,f::fs=>e.hash=hashInt (n:Int)∧(∃ t,e.key=.int (n:Int) t)∧e.val=.ref f∧TabOf r (n+1) fs
 | _,_,_=>False
structure Ad where
 Z4N:Addr
 Z74:Addr
 Z5X:Addr
 Z6I:Addr
 Z1A:Addr
 Z6W:Addr
 Z1C:Addr
 Z1v:Addr
 Z4O:Addr
 Z5e:Addr
 Z2W:Addr
 Z3j:Addr
 Z5l:Addr
 Z2G:Addr
 Z30:Addr
 Z1Z:Addr
 Z32:Addr
 Z5r:Addr
 Z4P:Addr
 Z2X:Addr
 Z27:Addr
 Z4D:Addr
 Z1O:Addr
 Z3W:Addr
 Z2F:Addr
 Z3i:Addr
 Z4K:Addr
 Z60:Addr
 Z5W:Addr
 Z4u:Addr
 Z3B:Addr
 Z26:Addr
 Z20:Addr
 Z15:Addr
 Z16:Addr
 Z1g:Addr
 Z3A:Addr
 Z3b:Addr
 Z4E:Addr
 Z31:Addr
 Z1P:Addr
 Z10:Addr
 Z19:Addr
 Z2L:Addr
 Z1x:Addr
 Z1l:Addr
 Z1q:Addr
 Z1u:Addr
 Z1k:Addr
 ZZ:Addr
 Z1t:Addr
 Z3z:Addr
 Z3D:Addr
 Z45:Addr
 Z3X:Addr
 Z23:Addr
 Z2b:Addr
 Z1a:Addr
 Z2f:Addr
 Z2C:Addr
 Zw:Addr
 Z4b:Addr
 Z2V:Addr
 Z2E:Addr
 Z4R:Addr
 Z2Y:Addr
 Z1m:Addr
 Z48:Addr
 Z4I:Addr
 Z5u:Addr
 Z61:Addr
 Z41:Addr
 Z1K:Addr
 Z1z:Addr
 Z1M:Addr
 Z1s:Addr
 Z1f:Addr
 Z1y:Addr
 Z1L:Addr
 Z1c:Addr
 Z14:Addr
 Z1J:Addr
 Z1e:Addr
 Z1G:Addr
 Z1w:Addr
 Z1D:Addr
 Z1W:Addr
 Z1d:Addr
 Z4G:Addr
 Z58:Addr
 Zf:Addr
 Ze:Addr
 Z2:Addr
 Za:Addr
 Zd:Addr
 Za3:Addr
structure Txt (K:PySem.W.Frag) (mg:Str→Option Value) (a:Ad):Prop where
 ZaC:mg "Reader"=some (.ref a.Zf)
 Zaw:mg "Session"=some (.ref a.Ze)
 Z9S:mg "Collector"=some (.ref a.Z2)
 ZaA:mg "Things"=some (.ref a.Za)
 ZaT:mg "State"=some (.ref a.Zd)
 Z22:mg "is_session"=some (.ref a.Z4N)
 Z9A:∃ fd,Fun K "is_session" "is_session" Z78 a.Z4N fd
 Z8M:mg "is_root"=some (.ref a.Z74)
 Zaq:∃ fd,Fun K "is_root" "is_root" Z8Q a.Z74 fd
 Z4o:mg "is_place"=some (.ref a.Z5X)
 Za8:∃ fd,Fun K "is_place" "is_place" Z7S a.Z5X fd
 Zat:mg "is_size"=some (.ref a.Z6I)
 Zap:∃ fd,Fun K "is_size" "is_size" Z8O a.Z6I fd
 Z5Z:mg "is_reference_count"=some (.ref a.Z1A)
 Z5V:∃ fd,Fun K "is_reference_count" "is_reference_count" Z3d a.Z1A fd
 Zas:mg "is_room"=some (.ref a.Z6W)
 Zao:∃ fd,Fun K "is_room" "is_room" Z8N a.Z6W fd
 Z5Y:mg "is_number_of_units"=some (.ref a.Z1C)
 Z5U:∃ fd,Fun K "is_number_of_units" "is_number_of_units" Z3e a.Z1C fd
 Z5D:mg "is_number_to_be_won"=some (.ref a.Z1v)
 Z5I:∃ fd,Fun K "is_number_to_be_won" "is_number_to_be_won" Z34 a.Z1v fd
 Z6O:mg "are_places"=some (.ref a.Z4O)
 Z9k:∃ fd,Fun K "are_places" "are_places" Z73 a.Z4O fd
 Z9X:mg "are_sizes"=some (.ref a.Z5e)
 Z9P:∃ fd,Fun K "are_sizes" "are_sizes" Z7x a.Z5e fd
 Z7R:mg "begin_building"=some (.ref a.Z2W)
 Z7A:∃ fd,Fun K "begin_building" "begin_building" Z4F a.Z2W fd
 Z82:mg "begin_refusal"=some (.ref a.Z3j)
 Z7U:∃ fd,Fun K "begin_refusal" "begin_refusal" Z55 a.Z3j fd
 Z9U:mg "is_locked"=some (.ref a.Z5l)
 Za0:∃ fd,Fun K "is_locked" "is_locked" Z7v a.Z5l fd
 Z7k:mg "finish_building"=some (.ref a.Z2G)
 Z7m:∃ fd,Fun K "finish_building" "finish_building" Z4g a.Z2G fd
 Z7E:mg "finish_refusal"=some (.ref a.Z30)
 Z7y:∃ fd,Fun K "finish_refusal" "finish_refusal" Z4w a.Z30 fd
 Z3T:mg "building_refusal"=some (.ref a.Z1Z)
 Z6K:∃ fd,Fun K "building_refusal" "building_refusal" Z3K a.Z1Z fd
 Z4t:mg "reference_rows"=some (.ref a.Z32)
 Z7J:∃ fd,Fun K "reference_rows" "reference_rows" Z4x a.Z32 fd
 Z9V:mg "has_stray"=some (.ref a.Z5r)
 Z9M:∃ fd,Fun K "has_stray" "has_stray" Z7u a.Z5r fd
 Z9E:mg "enter_outs"=some (.ref a.Z4P)
 Z9x:∃ fd,Fun K "enter_outs" "enter_outs" Z6S a.Z4P fd
 Z7G:mg "abort_building"=some (.ref a.Z2X)
 Z7Q:∃ fd,Fun K "abort_building" "abort_building" Z4v a.Z2X fd
 Z6F:mg "start_collection"=some (.ref a.Z27)
 Z77:∃ fd,Fun K "start_collection" "start_collection" Z3N a.Z27 fd
 Z9J:mg "work_units"=some (.ref a.Z4D)
 Z9C:∃ fd,Fun K "work_units" "work_units" Z7c a.Z4D fd
 Z6o:mg "cancel_collection"=some (.ref a.Z1O)
 Z6p:∃ fd,Fun K "cancel_collection" "cancel_collection" Z3p a.Z1O fd
 Zah:mg "set_room"=some (.ref a.Z60)
 Za4:∃ fd,Fun K "set_room" "set_room" Z8c a.Z60 fd
 Zad:mg "set_root"=some (.ref a.Z5W)
 Za6:∃ fd,Fun K "set_root" "set_root" Z8b a.Z5W fd
 Z9K:mg "clear_root"=some (.ref a.Z4u)
 Z9H:∃ fd,Fun K "clear_root" "clear_root" Z6V a.Z4u fd
 Z8A:mg "open_session"=some (.ref a.Z3A)
 Z8H:∃ fd,Fun K "open_session" "open_session" Z5B a.Z3A fd
 Z7V:mg "close_session"=some (.ref a.Z3b)
 Z81:∃ fd,Fun K "close_session" "close_session" Z57 a.Z3b fd
 Z9L:mg "hold_place"=some (.ref a.Z4E)
 Z9n:∃ fd,Fun K "hold_place" "hold_place" Z6A a.Z4E fd
 Z3y:mg "reached_from"=some (.ref a.Z3z)
 Z8k:∃ fd,Fun K "reached_from" "reached_from" Z5E a.Z3z fd
 Z8G:mg "turned_round"=some (.ref a.Z3D)
 Z8I:∃ fd,Fun K "turned_round" "turned_round" Z5F a.Z3D fd
 Z8Y:mg "knots_among"=some (.ref a.Z45)
 Z8W:∃ fd,Fun K "knots_among" "knots_among" Z64 a.Z45 fd
 Z9s:mg "tell_valid"=some (.ref a.Z4I)
 Z9B:∃ fd,Fun K "tell_valid" "tell_valid" Z6T a.Z4I fd
 Z9T:mg "tell_live"=some (.ref a.Z5u)
 Z9W:∃ fd,Fun K "tell_live" "tell_live" Z7w a.Z5u fd
 Za9:mg "tell_why"=some (.ref a.Z61)
 Za7:∃ fd,Fun K "tell_why" "tell_why" Z80 a.Z61 fd
 Z96:mg "tell_counts"=some (.ref a.Z41)
 Z8T:∃ fd,Fun K "tell_counts" "tell_counts" Z68 a.Z41 fd
 Zb1:mg "answer_open"=some (.ref a.Z1K)
 Z9a:∃ fd,Fun K "answer_open" "answer_open" Z6d a.Z1K fd
 ZaS:mg "answer_close"=some (.ref a.Z1z)
 Z8j:∃ fd,Fun K "answer_close" "answer_close" Z5P a.Z1z fd
 Zb3:mg "answer_hold"=some (.ref a.Z1M)
 Z9g:∃ fd,Fun K "answer_hold" "answer_hold" Z6e a.Z1M fd
 ZaQ:mg "answer_begin"=some (.ref a.Z1s)
 Z8C:∃ fd,Fun K "answer_begin" "answer_begin" Z5N a.Z1s fd
 ZaH:mg "answer_finish"=some (.ref a.Z1f)
 Z84:∃ fd,Fun K "answer_finish" "answer_finish" Z5a a.Z1f fd
 ZaR:mg "answer_abort"=some (.ref a.Z1y)
 Z8z:∃ fd,Fun K "answer_abort" "answer_abort" Z5M a.Z1y fd
 ZaY:mg "answer_root"=some (.ref a.Z1L)
 Z8U:∃ fd,Fun K "answer_root" "answer_root" Z66 a.Z1L fd
 ZaF:mg "answer_unroot"=some (.ref a.Z1c)
 Z86:∃ fd,Fun K "answer_unroot" "answer_unroot" Z56 a.Z1c fd
 ZaE:mg "answer_collect"=some (.ref a.Z14)
 Z7P:∃ fd,Fun K "answer_collect" "answer_collect" Z4C a.Z14 fd
 Zb0:mg "answer_work"=some (.ref a.Z1J)
 Z97:∃ fd,Fun K "answer_work" "answer_work" Z65 a.Z1J fd
 ZaL:mg "answer_cancel"=some (.ref a.Z1e)
 Z8h:∃ fd,Fun K "answer_cancel" "answer_cancel" Z53 a.Z1e fd
 ZaZ:mg "answer_room"=some (.ref a.Z1G)
 Z8X:∃ fd,Fun K "answer_room" "answer_room" Z6c a.Z1G fd
 ZaW:mg "answer_valid"=some (.ref a.Z1w)
 Z8q:∃ fd,Fun K "answer_valid" "answer_valid" Z5y a.Z1w fd
 Zb2:mg "answer_live"=some (.ref a.Z1D)
 Z8V:∃ fd,Fun K "answer_live" "answer_live" Z62 a.Z1D fd
 Zb4:mg "answer_why"=some (.ref a.Z1W)
 Z9v:∃ fd,Fun K "answer_why" "answer_why" Z6Z a.Z1W fd
 ZaI:mg "answer_counts"=some (.ref a.Z1d)
 Z7Y:∃ fd,Fun K "answer_counts" "answer_counts" Z54 a.Z1d fd
 Z9q:mg "answer_one"=some (.ref a.Z4G)
 Z9G:∃ fd,Fun K "answer_one" "answer_one" Z6E a.Z4G fd
 Zal:mg "answers"=some (.ref a.Z58)
 Zau:∃ fd,Fun K "answers" "answers" Z6J a.Z58 fd
 Z8:Cls K a.Zf
 Z3S:Mk K a.Zf a.Z3W
 Z1E:∃ fd,Fun K "__init__" "Reader.__init__" Z63 a.Z3W fd
 Z6M:Meth K a.Zf "has_more" a.Z2F
 Z7p:∃ fd,Fun K "has_more" "Reader.has_more" Z4c a.Z2F fd
 Z9:Meth K a.Zf "number" a.Z3i
 Z8f:∃ fd,Fun K "number" "Reader.number" Z51 a.Z3i fd
 Z2S:Meth K a.Zf "row" a.Z4K
 Z9r:∃ fd,Fun K "row" "Reader.row" Z6B a.Z4K fd
 Z1o:NoAttr K a.Zf "numbers"
 Zm:NoAttr K a.Zf "position"
 Z7:Cls K a.Ze
 Z3f:Mk K a.Ze a.Z3B
 Z1r:∃ fd,Fun K "__init__" "Session.__init__" Z5A a.Z3B fd
 Z3t:Meth K a.Ze "hold_all" a.Z26
 Z6N:∃ fd,Fun K "hold_all" "Session.hold_all" Z3M a.Z26 fd
 Z3q:Meth K a.Ze "anchored" a.Z20
 Z79:∃ fd,Fun K "anchored" "Session.anchored" Z3Q a.Z20 fd
 Z4l:Meth K a.Ze "anchors_one_of" a.Z15
 Z4A:∃ fd,Fun K "anchors_one_of" "Session.anchors_one_of" Z1V a.Z15 fd
 Z4r:Meth K a.Ze "start_building" a.Z16
 Z4U:∃ fd,Fun K "start_building" "Session.start_building" Z2g a.Z16 fd
 Z2z:Meth K a.Ze "end_building" a.Z1g
 Z5i:∃ fd,Fun K "end_building" "Session.end_building" Z2O a.Z1g fd
 Z3g:NoAttr K a.Ze "held"
 ZM:NoAttr K a.Ze "building"
 Zq:NoAttr K a.Ze "outs"
 Z12:NoAttr K a.Ze "ins"
 Z0:Cls K a.Z2
 Z1Y:Mk K a.Z2 a.Z31
 Z17:∃ fd,Fun K "__init__" "Collector.__init__" Z4z a.Z31 fd
 Z3k:Meth K a.Z2 "is_idle" a.Z1P
 Z6k:∃ fd,Fun K "is_idle" "Collector.is_idle" Z3u a.Z1P fd
 Z46:Meth K a.Z2 "begin_marking" a.Z10
 Z4k:∃ fd,Fun K "begin_marking" "Collector.begin_marking" Z1R a.Z10 fd
 Z2a:Meth K a.Z2 "become_idle" a.Z19
 Z4V:∃ fd,Fun K "become_idle" "Collector.become_idle" Z2u a.Z19 fd
 Z7b:Meth K a.Z2 "shade" a.Z2L
 Z7i:∃ fd,Fun K "shade" "Collector.shade" Z4i a.Z2L fd
 Z1n:Meth K a.Z2 "make_grey" a.Z1x
 Z5H:∃ fd,Fun K "make_grey" "Collector.make_grey" Z35 a.Z1x fd
 Z2t:Meth K a.Z2 "make_black" a.Z1l
 Z5m:∃ fd,Fun K "make_black" "Collector.make_black" Z2Q a.Z1l fd
 Z5t:Meth K a.Z2 "work_unit" a.Z1q
 Z5z:∃ fd,Fun K "work_unit" "Collector.work_unit" Z38 a.Z1q fd
 Z5q:Meth K a.Z2 "mark_unit" a.Z1u
 Z5x:∃ fd,Fun K "mark_unit" "Collector.mark_unit" Z37 a.Z1u fd
 Z4W:Meth K a.Z2 "sweep_unit" a.Z1k
 Z5j:∃ fd,Fun K "sweep_unit" "Collector.sweep_unit" Z2M a.Z1k fd
 Z44:Meth K a.Z2 "is_at_its_end" a.ZZ
 Z4s:∃ fd,Fun K "is_at_its_end" "Collector.is_at_its_end" Z1S a.ZZ fd
 Z5o:Meth K a.Z2 "next_knot" a.Z1t
 Z5J:∃ fd,Fun K "next_knot" "Collector.next_knot" Z36 a.Z1t fd
 Zi:NoAttr K a.Z2 "phase"
 Zn:NoAttr K a.Z2 "black"
 Zv:NoAttr K a.Z2 "grey"
 Z1h:NoAttr K a.Z2 "to_be_won"
 ZN:NoAttr K a.Z2 "won"
 Z3:Cls K a.Za
 Z3O:Mk K a.Za a.Z3X
 Z1F:∃ fd,Fun K "__init__" "Things.__init__" Z6b a.Z3X fd
 Z6g:Meth K a.Za "enter_all" a.Z23
 Z6U:∃ fd,Fun K "enter_all" "Things.enter_all" Z3L a.Z23 fd
 Z6h:Meth K a.Za "keep_knot" a.Z2b
 Z6x:∃ fd,Fun K "keep_knot" "Things.keep_knot" Z3U a.Z2b fd
 Z2c:Meth K a.Za "count_mentions" a.Z1a
 Z4Z:∃ fd,Fun K "count_mentions" "Things.count_mentions" Z2s a.Z1a fd
 Z6l:Meth K a.Za "take_away" a.Z2f
 Z75:∃ fd,Fun K "take_away" "Things.take_away" Z3P a.Z2f fd
 Z70:Meth K a.Za "is_valid" a.Z2C
 Z7j:∃ fd,Fun K "is_valid" "Things.is_valid" Z4f a.Z2C fd
 Z2p:Meth K a.Za "is_mentioned_from_outside" a.Zw
 Z2B:∃ fd,Fun K "is_mentioned_from_outside" "Things.is_mentioned_from_outside" ZW a.Zw fd
 Z3E:Meth K a.Za "load" a.Z4b
 Z95:∃ fd,Fun K "load" "Things.load" Z67 a.Z4b fd
 Z2I:Meth K a.Za "closure" a.Z2V
 Z7O:∃ fd,Fun K "closure" "Things.closure" Z4B a.Z2V fd
 Z76:Meth K a.Za "reaching" a.Z2E
 Z7h:∃ fd,Fun K "reaching" "Things.reaching" Z4e a.Z2E fd
 Zl:NoAttr K a.Za "sizes"
 Zo:NoAttr K a.Za "references"
 ZH:NoAttr K a.Za "knots"
 ZE:NoAttr K a.Za "mentions"
 Z1:Cls K a.Zd
 Z4M:Mk K a.Zd a.Z4R
 Z21:∃ fd,Fun K "__init__" "State.__init__" Z72 a.Z4R fd
 ZJ:Meth K a.Zd "is_valid" a.Z2Y
 Z7N:∃ fd,Fun K "is_valid" "State.is_valid" Z4y a.Z2Y fd
 Z2x:Meth K a.Zd "anchored_valid" a.Z1m
 Z5g:∃ fd,Fun K "anchored_valid" "State.anchored_valid" Z2N a.Z1m fd
 Z2n:Meth K a.Zd "shade" a.Z48
 Z9d:∃ fd,Fun K "shade" "State.shade" Z69 a.Z48 fd
 Zj:NoAttr K a.Zd "things"
 Zr:NoAttr K a.Zd "collector"
 Z5:NoAttr K a.Zd "sessions"
 ZO:NoAttr K a.Zd "roots"
 Z3Y:NoAttr K a.Zd "room"
 Z8l:∃ t,mg "LAST_SESSION"=some (.int (7) t)
 Z9Q:∃ t,mg "LAST_ROOT"=some (.int (31) t)
 Z9t:∃ t,mg "LAST_PLACE"=some (.int (127) t)
 Z8B:∃ t,mg "LARGEST_SIZE"=some (.int (9999) t)
 Z7o:∃ t,mg "MOST_REFERENCES"=some (.int (64) t)
 Z9m:∃ t,mg "FIRST_ROOM"=some (.int (100000) t)
 Z8m:∃ t,mg "LARGEST_ROOM"=some (.int (100000) t)
 Z9p:∃ t,mg "MOST_UNITS"=some (.int (1000) t)
 ZC:∃ t,mg "DONE"=some (.int (0) t)
 Z1b:∃ t,mg "RANGE"=some (.int (-1) t)
 Z33:∃ t,mg "ABSENT"=some (.int (-2) t)
 Z9l:∃ t,mg "BUSY"=some (.int (-3) t)
 ZaP:∃ t,mg "THERE"=some (.int (-4) t)
 ZaD:∃ t,mg "LOCKED"=some (.int (-5) t)
 ZaO:∃ t,mg "STRAY"=some (.int (-6) t)
 Zak:∃ t,mg "FULL"=some (.int (-7) t)
 ZaU:∃ t,mg "SHAPE"=some (.int (-8) t)
 Z9I:∃ t,mg "IDLE"=some (.int (0) t)
 Z6L:∃ t,mg "MARKING"=some (.int (1) t)
 Z5T:∃ t,mg "SWEEPING"=some (.int (2) t)
 b_all:mg "all"=none
 b_any:mg "any"=none
 Z9u:mg "list"=none
 Z28:mg "sorted"=none
 b_len:mg "len"=none
 b_min:mg "min"=none
 Z9Y:mg "enumerate"=none
 b_sum:mg "sum"=none
 b_set:mg "set"=none
 ZaN:mg "CALLS"=some (.ref a.Za3)
 ZaX:∃ es ep,K.lookup a.Za3=some ⟨.type "dict",none,.dict es ep,#[]⟩∧TabOf es.toList 0 [a.Z1K,a.Z1z,a.Z1M,a.Z1s,a.Z1f,a.Z1y,a.Z1L,a.Z1c,a.Z14,a.Z1J,a.Z1e,a.Z1G,a.Z1w,a.Z1D,a.Z1W,a.Z1d]
def Zs (v0:V) (v1:V):List (Str×V):=[("numbers",v0),("position",v1)]
def Zg (v0:V) (v1:V) (v2:V) (v3:V):List (Str×V):=[("held",v0),("building",v1),("outs",v2),("ins",v3)]
def Z4 (v0:V) (v1:V) (v2:V) (v3:V) (v4:V):List (Str×V):=[("phase",v0),("black",v1),("grey",v2),("to_be_won",v3),("won",v4)]
def Zc (v0:V) (v1:V) (v2:V) (v3:V):List (Str×V):=[("sizes",v0),("references",v1),("knots",v2),("mentions",v3)]
def Zh (v0:V) (v1:V) (v2:V) (v3:V) (v4:V):List (Str×V):=[("things",v0),("collector",v1),("sessions",v2),("roots",v3),("room",v4)]
end Go
end
section
namespace Go
open PySem PySem.Spec PyProof.Rows L2 LX
@[simp] theorem Z2H {v0 v1:V}:(Zs v0 v1).lookup ("numbers":Str)=some v0:=rfl
@[simp] theorem Zay {v0 v1:V}{u:V}:putF "numbers" u (Zs v0 v1)=Zs u v1:=rfl
@[simp] theorem ZR {v0 v1:V}:(Zs v0 v1).lookup ("position":Str)=some v1:=rfl
@[simp] theorem Z3V {v0 v1:V}{u:V}:putF "position" u (Zs v0 v1)=Zs v0 u:=rfl
@[simp] theorem Z6X {v0 v1:V}:(Zs v0 v1).lookup ("has_more":Str)=none:=rfl
@[simp] theorem Z4H {v0 v1:V}:(Zs v0 v1).lookup ("number":Str)=none:=rfl
@[simp] theorem Z8Z {v0 v1:V}:(Zs v0 v1).lookup ("row":Str)=none:=rfl
@[simp] theorem Z8P {v0 v1:V}:(Zs v0 v1).length=2:=rfl
theorem Zar {v0 v1:V}:putF "position" v1 (putF "numbers" v0 ([]))=Zs v0 v1:=rfl
@[simp] theorem Z52 {v0 v1 v2 v3:V}:(Zg v0 v1 v2 v3).lookup ("held":Str)=some v0:=rfl
@[simp] theorem ZaJ {v0 v1 v2 v3:V}{u:V}:putF "held" u (Zg v0 v1 v2 v3)=Zg u v1 v2 v3:=rfl
@[simp] theorem Z3r {v0 v1 v2 v3:V}:(Zg v0 v1 v2 v3).lookup ("building":Str)=some v1:=rfl
@[simp] theorem Z3l {v0 v1 v2 v3:V}{u:V}:putF "building" u (Zg v0 v1 v2 v3)=Zg v0 u v2 v3:=rfl
@[simp] theorem ZU {v0 v1 v2 v3:V}:(Zg v0 v1 v2 v3).lookup ("outs":Str)=some v2:=rfl
@[simp] theorem Z59 {v0 v1 v2 v3:V}{u:V}:putF "outs" u (Zg v0 v1 v2 v3)=Zg v0 v1 u v3:=rfl
@[simp] theorem Z3H {v0 v1 v2 v3:V}:(Zg v0 v1 v2 v3).lookup ("ins":Str)=some v3:=rfl
@[simp] theorem Z5K {v0 v1 v2 v3:V}{u:V}:putF "ins" u (Zg v0 v1 v2 v3)=Zg v0 v1 v2 u:=rfl
@[simp] theorem Z3w {v0 v1 v2 v3:V}:(Zg v0 v1 v2 v3).lookup ("hold_all":Str)=none:=rfl
@[simp] theorem Z3v {v0 v1 v2 v3:V}:(Zg v0 v1 v2 v3).lookup ("anchored":Str)=none:=rfl
@[simp] theorem Z4m {v0 v1 v2 v3:V}:(Zg v0 v1 v2 v3).lookup ("anchors_one_of":Str)=none:=rfl
@[simp] theorem Z4q {v0 v1 v2 v3:V}:(Zg v0 v1 v2 v3).lookup ("start_building":Str)=none:=rfl
@[simp] theorem Z2w {v0 v1 v2 v3:V}:(Zg v0 v1 v2 v3).lookup ("end_building":Str)=none:=rfl
@[simp] theorem Z2h {v0 v1 v2 v3:V}:(Zg v0 v1 v2 v3).length=4:=rfl
theorem Za5 {v0 v1 v2 v3:V}:putF "ins" v3 (putF "outs" v2 (putF "building" v1 (putF "held" v0 ([]))))=Zg v0 v1 v2 v3:=rfl
@[simp] theorem ZA {v0 v1 v2 v3 v4:V}:(Z4 v0 v1 v2 v3 v4).lookup ("phase":Str)=some v0:=rfl
@[simp] theorem Z29 {v0 v1 v2 v3 v4:V}{u:V}:putF "phase" u (Z4 v0 v1 v2 v3 v4)=Z4 u v1 v2 v3 v4:=rfl
@[simp] theorem ZD {v0 v1 v2 v3 v4:V}:(Z4 v0 v1 v2 v3 v4).lookup ("black":Str)=some v1:=rfl
@[simp] theorem Z6Q {v0 v1 v2 v3 v4:V}{u:V}:putF "black" u (Z4 v0 v1 v2 v3 v4)=Z4 v0 u v2 v3 v4:=rfl
@[simp] theorem ZX {v0 v1 v2 v3 v4:V}:(Z4 v0 v1 v2 v3 v4).lookup ("grey":Str)=some v2:=rfl
@[simp] theorem Z7q {v0 v1 v2 v3 v4:V}{u:V}:putF "grey" u (Z4 v0 v1 v2 v3 v4)=Z4 v0 v1 u v3 v4:=rfl
@[simp] theorem Z5n {v0 v1 v2 v3 v4:V}:(Z4 v0 v1 v2 v3 v4).lookup ("to_be_won":Str)=some v3:=rfl
@[simp] theorem Z5v {v0 v1 v2 v3 v4:V}{u:V}:putF "to_be_won" u (Z4 v0 v1 v2 v3 v4)=Z4 v0 v1 v2 u v4:=rfl
@[simp] theorem Z2Z {v0 v1 v2 v3 v4:V}:(Z4 v0 v1 v2 v3 v4).lookup ("won":Str)=some v4:=rfl
@[simp] theorem Z4L {v0 v1 v2 v3 v4:V}{u:V}:putF "won" u (Z4 v0 v1 v2 v3 v4)=Z4 v0 v1 v2 v3 u:=rfl
@[simp] theorem Z3a {v0 v1 v2 v3 v4:V}:(Z4 v0 v1 v2 v3 v4).lookup ("is_idle":Str)=none:=rfl
@[simp] theorem Z49 {v0 v1 v2 v3 v4:V}:(Z4 v0 v1 v2 v3 v4).lookup ("begin_marking":Str)=none:=rfl
@[simp] theorem Z2e {v0 v1 v2 v3 v4:V}:(Z4 v0 v1 v2 v3 v4).lookup ("become_idle":Str)=none:=rfl
@[simp] theorem Z6Y {v0 v1 v2 v3 v4:V}:(Z4 v0 v1 v2 v3 v4).lookup ("shade":Str)=none:=rfl
@[simp] theorem Z1i {v0 v1 v2 v3 v4:V}:(Z4 v0 v1 v2 v3 v4).lookup ("make_grey":Str)=none:=rfl
@[simp] theorem Z2v {v0 v1 v2 v3 v4:V}:(Z4 v0 v1 v2 v3 v4).lookup ("make_black":Str)=none:=rfl
@[simp] theorem Z5k {v0 v1 v2 v3 v4:V}:(Z4 v0 v1 v2 v3 v4).lookup ("work_unit":Str)=none:=rfl
@[simp] theorem Z5s {v0 v1 v2 v3 v4:V}:(Z4 v0 v1 v2 v3 v4).lookup ("mark_unit":Str)=none:=rfl
@[simp] theorem Z50 {v0 v1 v2 v3 v4:V}:(Z4 v0 v1 v2 v3 v4).lookup ("sweep_unit":Str)=none:=rfl
@[simp] theorem Z4a {v0 v1 v2 v3 v4:V}:(Z4 v0 v1 v2 v3 v4).lookup ("is_at_its_end":Str)=none:=rfl
@[simp] theorem Z5d {v0 v1 v2 v3 v4:V}:(Z4 v0 v1 v2 v3 v4).lookup ("next_knot":Str)=none:=rfl
@[simp] theorem ZP {v0 v1 v2 v3 v4:V}:(Z4 v0 v1 v2 v3 v4).length=5:=rfl
theorem Z9w {v0 v1 v2 v3 v4:V}:putF "won" v4 (putF "to_be_won" v3 (putF "grey" v2 (putF "black" v1 (putF "phase" v0 ([])))))=Z4 v0 v1 v2 v3 v4:=rfl
@[simp] theorem Zp {v0 v1 v2 v3:V}:(Zc v0 v1 v2 v3).lookup ("sizes":Str)=some v0:=rfl
@[simp] theorem ZaK {v0 v1 v2 v3:V}{u:V}:putF "sizes" u (Zc v0 v1 v2 v3)=Zc u v1 v2 v3:=rfl
@[simp] theorem Zt {v0 v1 v2 v3:V}:(Zc v0 v1 v2 v3).lookup ("references":Str)=some v1:=rfl
@[simp] theorem Zaj {v0 v1 v2 v3:V}{u:V}:putF "references" u (Zc v0 v1 v2 v3)=Zc v0 u v2 v3:=rfl
@[simp] theorem ZS {v0 v1 v2 v3:V}:(Zc v0 v1 v2 v3).lookup ("knots":Str)=some v2:=rfl
@[simp] theorem ZaG {v0 v1 v2 v3:V}{u:V}:putF "knots" u (Zc v0 v1 v2 v3)=Zc v0 v1 u v3:=rfl
@[simp] theorem ZQ {v0 v1 v2 v3:V}:(Zc v0 v1 v2 v3).lookup ("mentions":Str)=some v3:=rfl
@[simp] theorem Zan {v0 v1 v2 v3:V}{u:V}:putF "mentions" u (Zc v0 v1 v2 v3)=Zc v0 v1 v2 u:=rfl
@[simp] theorem Z6v {v0 v1 v2 v3:V}:(Zc v0 v1 v2 v3).lookup ("enter_all":Str)=none:=rfl
@[simp] theorem Z6r {v0 v1 v2 v3:V}:(Zc v0 v1 v2 v3).lookup ("keep_knot":Str)=none:=rfl
@[simp] theorem Z1X {v0 v1 v2 v3:V}:(Zc v0 v1 v2 v3).lookup ("count_mentions":Str)=none:=rfl
@[simp] theorem Z6s {v0 v1 v2 v3:V}:(Zc v0 v1 v2 v3).lookup ("take_away":Str)=none:=rfl
@[simp] theorem Z6P {v0 v1 v2 v3:V}:(Zc v0 v1 v2 v3).lookup ("is_valid":Str)=none:=rfl
@[simp] theorem Z2k {v0 v1 v2 v3:V}:(Zc v0 v1 v2 v3).lookup ("is_mentioned_from_outside":Str)=none:=rfl
@[simp] theorem Z3I {v0 v1 v2 v3:V}:(Zc v0 v1 v2 v3).lookup ("load":Str)=none:=rfl
@[simp] theorem Z2D {v0 v1 v2 v3:V}:(Zc v0 v1 v2 v3).lookup ("closure":Str)=none:=rfl
@[simp] theorem Z6G {v0 v1 v2 v3:V}:(Zc v0 v1 v2 v3).lookup ("reaching":Str)=none:=rfl
@[simp] theorem Zb6 {v0 v1 v2 v3:V}:(Zc v0 v1 v2 v3).length=4:=rfl
theorem Zam {v0 v1 v2 v3:V}:putF "mentions" v3 (putF "knots" v2 (putF "references" v1 (putF "sizes" v0 ([]))))=Zc v0 v1 v2 v3:=rfl
@[simp] theorem Zk {v0 v1 v2 v3 v4:V}:(Zh v0 v1 v2 v3 v4).lookup ("things":Str)=some v0:=rfl
@[simp] theorem ZaM {v0 v1 v2 v3 v4:V}{u:V}:putF "things" u (Zh v0 v1 v2 v3 v4)=Zh u v1 v2 v3 v4:=rfl
@[simp] theorem ZB {v0 v1 v2 v3 v4:V}:(Zh v0 v1 v2 v3 v4).lookup ("collector":Str)=some v1:=rfl
@[simp] theorem Zav {v0 v1 v2 v3 v4:V}{u:V}:putF "collector" u (Zh v0 v1 v2 v3 v4)=Zh v0 u v2 v3 v4:=rfl
@[simp] theorem Z6 {v0 v1 v2 v3 v4:V}:(Zh v0 v1 v2 v3 v4).lookup ("sessions":Str)=some v2:=rfl
@[simp] theorem Zax {v0 v1 v2 v3 v4:V}{u:V}:putF "sessions" u (Zh v0 v1 v2 v3 v4)=Zh v0 v1 u v3 v4:=rfl
@[simp] theorem Z13 {v0 v1 v2 v3 v4:V}:(Zh v0 v1 v2 v3 v4).lookup ("roots":Str)=some v3:=rfl
@[simp] theorem ZaV {v0 v1 v2 v3 v4:V}{u:V}:putF "roots" u (Zh v0 v1 v2 v3 v4)=Zh v0 v1 v2 u v4:=rfl
@[simp] theorem Z9i {v0 v1 v2 v3 v4:V}:(Zh v0 v1 v2 v3 v4).lookup ("room":Str)=some v4:=rfl
@[simp] theorem Z99 {v0 v1 v2 v3 v4:V}{u:V}:putF "room" u (Zh v0 v1 v2 v3 v4)=Zh v0 v1 v2 v3 u:=rfl
@[simp] theorem ZI {v0 v1 v2 v3 v4:V}:(Zh v0 v1 v2 v3 v4).lookup ("is_valid":Str)=none:=rfl
@[simp] theorem Z2A {v0 v1 v2 v3 v4:V}:(Zh v0 v1 v2 v3 v4).lookup ("anchored_valid":Str)=none:=rfl
@[simp] theorem Z2m {v0 v1 v2 v3 v4:V}:(Zh v0 v1 v2 v3 v4).lookup ("shade":Str)=none:=rfl
@[simp] theorem Zaz {v0 v1 v2 v3 v4:V}:(Zh v0 v1 v2 v3 v4).length=5:=rfl
theorem ZaB {v0 v1 v2 v3 v4:V}:putF "room" v4 (putF "roots" v3 (putF "sessions" v2 (putF "collector" v1 (putF "things" v0 ([])))))=Zh v0 v1 v2 v3 v4:=rfl
end Go
end
section
set_option maxHeartbeats 2000000
namespace Go
open PySem PySem.Spec PyProof.Rows L2 LX
def Pr (P:Program) (w:World) (K:PySem.W.Frag) (mg:Str→Option Value) (base:Heap) (k:Nat) (f:Addr) (ps:List Str) (sp:Sp):Prop :=
 ∃ fd,FnOk P w K mg base CX0 k f fd ps sp∧Binds K fd ps []∧PySem.W.keepIn K (.ref f)=true
theorem Pr.mono {P:Program}{w:World}{K:PySem.W.Frag}{mg:Str→Option Value}{base:Heap}{j k:Nat}{f:Addr}{ps:List Str}{sp:Sp} (h:Pr P w K mg base j f ps sp) (l:j≤k):Pr P w K mg base k f ps sp:=by
 obtain ⟨fd,F,b,kp⟩:=h
 exact ⟨fd,F.mono l,b,kp⟩
section
variable {X:Cx}{k:Nat}{f C:Addr}{ps:List Str}{sp:Sp}{x m:Str}{p pos apos:Pos}{e o:Expr}{es:List Expr}{ta:TE}{t:TA}
def tCl (sp:Sp) (t:TA):TE:=fun σ H Q=>t σ H fun vs H1=>sp vs H1 Q E0
def tMt (C:Addr) (m:Str) (sp:Sp) (ta:TE) (t:TA):TE:=fun σ H Q=>ta σ H fun x H1=>∃ a dx fs,x=.ref a∧H1 a=some (.ins C dx fs)∧fs.lookup m=none∧t σ H1 fun vs H2=>sp (x::vs) H2 Q E0
def tMk (C:Addr) (sp:Sp) (t:TA):TE:=fun σ H Q=>t σ H fun vs H1=>∀ x dx,H1 x=none→H1 dx=none→dx≠x→sp (.ref x::vs) (upd (upd H1 dx (.own x)) x (.ins C dx [])) (fun v H2=>v=.non∧Q (.ref x) H2) E0
theorem pc_f (G:Pr X.prog X.w X.K X.mg X.base k f ps sp) (hr:Room k X.A) (hm:X.mg x=some (.ref f)) (ha:PA X (e::es) t) (hg:Gl X x:=by rfl) (hdb:(x==("__debug__":Str))=false:=by decide)
  (he:starEach (e::es) X.env=(false,eval e X.env)::starEach es X.env:=by rfl) (hpl:(backTo pos (starEach es X.env)).any (·.1)=false:=by rfl):PE X (.Call (.Name x p) (e::es) [] pos) (tCl sp t):=by
 obtain ⟨fd,F,b,kp⟩:=G
 intro pins s σ H Q I h
 refine pe_call (dvs:=[]) (E:=E0) F hr hg hm kp b .nil pass0 ha hdb he hpl pins s σ H Q I ?_
 have e1:(fun vs H1=>sp (vs++[]) H1 Q E0)=fun vs H1=>sp vs H1 Q E0:=by funext vs H1;rw [List.append_nil]
 show t σ H fun vs H1=>sp (vs++[]) H1 Q E0
 rw [e1]
 exact h
theorem pc_m {pl:Sem Bool} (he:PE X o ta) (c:Cls X.K C) (hm:Meth X.K C m f) (G:Pr X.prog X.w X.K X.mg X.base k f ps sp) (hr:Room k X.A) (ha:PA X (e::es) t)
  (hst:starEach (e::es) X.env=(false,eval e X.env)::starEach es X.env:=by rfl) (hpl:(backTo pos (starEach es X.env)).any (·.1)=false:=by rfl)
  (ht:eval (.Call (.Attribute o m apos) (e::es) [] pos) X.env=(do
   let ov ← eval o X.env
   standAt apos.atName
   let (f,first) ← holding [ov] (getMethod ov m pl)
   callWith pos f first (backTo pos (starEach (e::es) X.env)) (backToKw pos (keywordEach [] X.env))):=by rfl) :
  PE X (.Call (.Attribute o m apos) (e::es) [] pos) (tMt C m sp ta t):=by
 obtain ⟨fd,F,b,kp⟩:=G
 intro pins s σ H Q I h
 refine pe_meth (dvs:=[]) (E:=E0) he c hm F hr b .nil pass0 ha hst hpl ht pins s σ H Q I ?_
 have e1:(fun (x:V) H1=>∃ a dx fs,x=.ref a∧H1 a=some (.ins C dx fs)∧fs.lookup m=none∧t σ H1 fun vs H2=>sp (x::(vs++[])) H2 Q E0)=fun x H1=>∃ a dx fs,x=.ref a∧H1 a=some (.ins C dx fs)∧fs.lookup m=none∧t σ H1 fun vs H2=>sp (x::vs) H2 Q E0:=by
  funext x H1
  simp only [List.append_nil]
 show ta σ H fun x H1=>∃ a dx fs,x=.ref a∧H1 a=some (.ins C dx fs)∧fs.lookup m=none∧t σ H1 fun vs H2=>sp (x::(vs++[])) H2 Q E0
 rw [e1]
 exact h
theorem pc_m0 {pl:Sem Bool} (he:PE X o ta) (c:Cls X.K C) (hm:Meth X.K C m f) (G:Pr X.prog X.w X.K X.mg X.base k f ps sp) (hr:Room k X.A)
  (ht:eval (.Call (.Attribute o m apos) [] [] pos) X.env=(do
   let ov ← eval o X.env
   standAt apos.atName
   let (f,first) ← holding [ov] (getMethod ov m pl)
   callWith pos f first (backTo pos (starEach [] X.env)) (backToKw pos (keywordEach [] X.env))):=by rfl) :
  PE X (.Call (.Attribute o m apos) [] [] pos) (tMt C m sp ta tNil):=by
 obtain ⟨fd,F,b,kp⟩:=G
 exact pe_meth0 (dvs:=[]) (E:=E0) he c hm F hr b .nil pass0 ht
theorem pc_k (M:Mk X.K C f) (G:Pr X.prog X.w X.K X.mg X.base k f ps sp) (hr:Room (k+1) X.A) (hm:X.mg x=some (.ref C)) (ha:PA X (e::es) t) (hg:Gl X x:=by rfl) (hdb:(x==("__debug__":Str))=false:=by decide)
  (he:starEach (e::es) X.env=(false,eval e X.env)::starEach es X.env:=by rfl) (hpl:(backTo pos (starEach es X.env)).any (·.1)=false:=by rfl):PE X (.Call (.Name x p) (e::es) [] pos) (tMk C sp t):=by
 obtain ⟨fd,F,b,kp⟩:=G
 intro pins s σ H Q I h
 refine pe_make (dvs:=[]) (E:=E0) M F hr hg hm b .nil pass0 ha hdb he hpl pins s σ H Q I ?_
 have e1:(fun vs H1=>∀ x dx,H1 x=none→H1 dx=none→dx≠x→sp (V.ref x::(vs++[])) (upd (upd H1 dx (.own x)) x (.ins C dx [])) (fun v H2=>v=.non∧Q (.ref x) H2) E0) =
   fun vs H1=>∀ x dx,H1 x=none→H1 dx=none→dx≠x→sp (V.ref x::vs) (upd (upd H1 dx (.own x)) x (.ins C dx [])) (fun v H2=>v=.non∧Q (.ref x) H2) E0:=by
  funext vs H1
  simp only [List.append_nil]
 show t σ H fun vs H1=>∀ x dx,H1 x=none→H1 dx=none→dx≠x→sp (V.ref x::(vs++[])) (upd (upd H1 dx (.own x)) x (.ins C dx [])) (fun v H2=>v=.non∧Q (.ref x) H2) E0
 rw [e1]
 exact h
theorem pc_k0 (M:Mk X.K C f) (G:Pr X.prog X.w X.K X.mg X.base k f ps sp) (hr:Room (k+1) X.A) (hm:X.mg x=some (.ref C)) (hg:Gl X x:=by rfl) (hdb:(x==("__debug__":Str))=false:=by decide):PE X (.Call (.Name x p) [] [] pos) (tMk C sp tNil):=by
 obtain ⟨fd,F,b,kp⟩:=G
 exact pe_make0 (dvs:=[]) (E:=E0) M F hr hg hm b .nil pass0 hdb
theorem pk {n:Int} (h:∃ t,X.mg x=some (.int n t)) (hg:Gl X x:=by rfl) (hd:(x==("__debug__":Str))=false:=by decide):PE X (.Name x p) (tC (.int n)):=by
 obtain ⟨t,h⟩:=h
 exact pe_glob hg h ⟨t,rfl⟩ hd
end
theorem pr_of {P:Program}{w:World}{K:PySem.W.Frag}{mg:Str→Option Value}{base:Heap}{x qual:Str}{st:Stmt}{f:Addr}{N ps:List Str}{k:Nat}{sp:Sp} (F:∃ fd,Fun K x qual st f fd) (S:FnScope N ps (defScope st)) (len:∀ vs H Q E,sp vs H Q E→vs.length=ps.length)
  (hb:∀ (kV doc pm:Value) (an:Option Addr) (cdv ct:Value) (us:List Value),us.length=ps.length→bindArgs (PySem.W.fnOf x qual (defArgs st) (defBody st) (defScope st) .none kV doc pm an cdv ct) ⟨us,[]⟩=pure (ps.zip us))
  (hbody:∀ (cdv:Value) (A:Around) (outer:List Env) (s:Shared) (H:Hp) (vs:List V) (Q:VK) (E:XK),Room k (A.deeper (envOfC qual (defScope st) s.heap.objs.size f cdv))→sp vs H Q E →
   ∃ t,PSs (cxOf CX0 P w K mg base N qual (defScope st) f cdv A outer s H E).nox (defBody st) t∧t {nx:=fun _ H'=>Q .non H',rt:=Q} (start N vs) H):Pr P w K mg base (k+1) f ps sp:=by
 obtain ⟨fd,F⟩:=F
 exact ⟨fd,F.ok S len hbody,F.binds hb,F.kp⟩
theorem pr_of' {P:Program}{w:World}{K:PySem.W.Frag}{mg:Str→Option Value}{base:Heap}{x qual:Str}{st:Stmt}{f:Addr}{N ps:List Str}{k:Nat}{sp:Sp} (F:∃ fd,Fun K x qual st f fd) (S:FnScope N ps (defScope st))
  (hbody:∀ (cdv:Value) (A:Around) (outer:List Env) (s:Shared) (H:Hp) (vs:List V) (Q:VK) (E:XK),Room k (A.deeper (envOfC qual (defScope st) s.heap.objs.size f cdv))→sp vs H Q E →
   ∃ t,PSs (cxOf CX0 P w K mg base N qual (defScope st) f cdv A outer s H E).nox (defBody st) t∧t {nx:=fun _ H'=>Q .non H',rt:=Q} (start N vs) H)
  (len:∀ vs H Q E,sp vs H Q E→vs.length=ps.length:=by intro vs H Q E h;(repeat (obtain ⟨_,h⟩:=h));subst_vars;rfl)
  (hb:∀ (kV doc pm:Value) (an:Option Addr) (cdv ct:Value) (us:List Value),us.length=ps.length→bindArgs (PySem.W.fnOf x qual (defArgs st) (defBody st) (defScope st) .none kV doc pm an cdv ct) ⟨us,[]⟩=pure (ps.zip us):=by
   intro _ _ _ _ _ _ us hl
   first
    | exact match us,hl with | [_],_=>rfl
    | exact match us,hl with | [_,_],_=>rfl
    | exact match us,hl with | [_,_,_],_=>rfl
    | exact match us,hl with | [_,_,_,_],_=>rfl):Pr P w K mg base (k+1) f ps sp:=pr_of F S len hb hbody
theorem pn {X:Cx} (i:Nat) {x:Str}{p:Pos} (hN:X.N.Nodup) (hi:X.N[i]?=some x:=by rfl) (hx:Loc X.env.scope x:=by first | exact Or.inl rfl | exact Or.inr rfl) (hf:X.fn x=true∨X.env.scope.names.lookup x=some .local:=by first | exact .inl rfl | exact .inr rfl | assumption):PG X (.Name x p) (gName i):=pg_name hN hi hx hf
theorem pst {X:Cx} (i:Nat) {x:Str}{e:Expr}{te:TE}{pos pos':Pos} (hN:X.N.Nodup) (he:PE X e te) (hi:X.N[i]?=some x:=by rfl) (hx:Loc X.env.scope x:=by first | exact Or.inl rfl | exact Or.inr rfl) (hs:swapsWith e (some (.Name x pos')) pos.line X.env=pure false:=by rfl) (hf:X.fn x=true∨X.env.scope.names.lookup x=some .local:=by first | exact .inl rfl | exact .inr rfl | assumption) :
  PS X (.Assign [.Name x pos'] e pos) (tAsg te (gName i)):=ps_set hN hi hx he hs hf
end Go
end
section
set_option maxHeartbeats 1000000
namespace Go
open PySem PySem.Spec PyProof.Rows L2 LX VL
section
variable {κ:Type} [DecidableEq κ]
theorem valV_mem {L:List (κ×V)} (nd:(L.map (·.1)).Nodup) {k:κ}{v:V}:valV L k=some v↔(k,v)∈L:=by
 induction L with
 | nil=>simp [valV]
 | cons p r ih =>
  have h:(p.1::r.map (·.1)).Nodup:=nd
  obtain ⟨h1,h2⟩:=List.nodup_cons.mp h
  by_cases e:p.1=k
  ·rw [valV_pos e]
   constructor
   ·intro q
    have:p=(k,v):=by rw [← e,← Option.some.inj q]
    rw [this];exact List.mem_cons_self
   ·intro q
    rcases List.mem_cons.mp q with q | q
    ·rw [← q]
    ·exact absurd (List.mem_map.mpr ⟨(k,v),q,e.symm⟩) h1
  ·rw [valV_neg e,ih h2]
   constructor
   ·exact fun q=>List.mem_cons_of_mem _ q
   ·intro q
    rcases List.mem_cons.mp q with q | q
    ·exact absurd (by rw [← q]) e
    ·exact q
theorem valV_none {L:List (κ×V)}{k:κ}:valV L k=none↔k∉L.map (·.1):=by
 constructor
 ·exact valV_not
 ·intro h
  cases e:valV L k with
  | none=>rfl
  | some v=>exact absurd (valV_in e) h
theorem keys_perm {kvs L:List (κ×V)} (h:kvs.Perm L) (nd:(L.map (·.1)).Nodup):(kvs.map (·.1)).Nodup:=(h.map (·.1)).nodup_iff.mpr nd
theorem valV_perm {kvs L:List (κ×V)} (h:kvs.Perm L) (nd:(L.map (·.1)).Nodup) (k:κ):valV kvs k=valV L k:=by
 cases e:valV L k with
 | none =>
  rw [valV_none] at e ⊢
  exact fun q=>e ((h.map (·.1)).mem_iff.mp q)
 | some v =>
  rw [valV_mem (keys_perm h nd)]
  rw [valV_mem nd] at e
  exact h.mem_iff.mpr e
theorem putK_same {L:List (κ×V)} (nd:(L.map (·.1)).Nodup) {k:κ}{v:V} (h:valV L k=some v):putK L k v=L:=by
 unfold putK
 rw [valV_any,h]
 rw [if_pos (show (some v).isSome=true from rfl)]
 have:∀ kv∈L,(if kv.1=k then (kv.1,v) else kv)=kv:=fun kv hk=>by
  by_cases e:kv.1=k
  ·rw [if_pos e]
   have h1:valV L kv.1=some kv.2:=(valV_mem nd).mpr hk
   rw [e,h] at h1
   rw [Option.some.inj h1]
  ·rw [if_neg e]
 conv=>rhs;rw [← List.map_id L]
 exact List.map_congr_left this
theorem putK_perm {kvs L:List (κ×V)} (h:kvs.Perm L) {k:κ}{v:V} (hn:k∉L.map (·.1)):(putK kvs k v).Perm ((k,v)::L):=by
 have hn':valV kvs k=none:=valV_none.mpr fun q=>hn ((h.map (·.1)).mem_iff.mp q)
 rw [putK_new v hn']
 exact (List.perm_append_singleton _ _).trans (h.cons _)
theorem dropK_perm {kvs L:List (κ×V)} (h:kvs.Perm L) (k:κ):(dropK kvs k).Perm (dropK L k):=h.filter _
theorem putK_upd {kvs L:List (κ×V)} (h:kvs.Perm L) {k:κ}{v:V} (hn:k∈L.map (·.1)):(putK kvs k v).Perm (L.map fun kv=>if kv.1=k then (kv.1,v) else kv):=by
 have hn':(kvs.any fun kv=>decide (kv.1=k))=true:=by
  obtain ⟨p,hp,e⟩:=List.mem_map.mp hn
  exact List.any_eq_true.mpr ⟨p,h.mem_iff.mpr hp,decide_eq_true e⟩
 unfold putK
 rw [if_pos hn']
 exact h.map _
end
abbrev ky (p:Nat):Key:=Sum.inl (p:Int)
theorem ky_inj {p q:Nat} (h:ky p=ky q):p=q:=by
 have:=Sum.inl.inj h;omega
def kset (l:List Nat):List (Key×V):=l.map fun p=>(ky p,V.bl true)
theorem kset_keys (l:List Nat):(kset l).map (·.1)=l.map ky:=by simp [kset,Function.comp_def]
theorem ky_nodup {l:List Nat} (h:l.Nodup):(l.map ky).Nodup:=by
 induction l with
 | nil=>simp
 | cons a r ih =>
  obtain ⟨h1,h2⟩:=List.nodup_cons.mp h
  refine List.nodup_cons.mpr ⟨fun q=>?_,ih h2⟩
  obtain ⟨b,hb,e⟩:=List.mem_map.mp q
  exact h1 (ky_inj e▸hb)
structure DSet (kvs:List (Key×V)) (S:Nat→Prop):Prop where
 ex:∃ g,Asc g∧(∀ p,p∈g↔S p)∧kvs.Perm (kset g)
theorem DSet.nil:DSet [] fun _=>False:=⟨[],List.Pairwise.nil,by simp,by simp [kset]⟩
theorem DSet.congr {kvs:List (Key×V)}{S S':Nat→Prop} (h:DSet kvs S) (e:∀ p,S p↔S' p):DSet kvs S':=by
 obtain ⟨g,h1,h2,h3⟩:=h.ex
 exact ⟨g,h1,fun p=>(h2 p).trans (e p),h3⟩
theorem DSet.of_asc {kvs:List (Key×V)}{S:Nat→Prop} (h:DSet kvs S) {l:List Nat} (hl:Asc l) (e:∀ p,p∈l↔S p):kvs.Perm (kset l):=by
 obtain ⟨g,h1,h2,h3⟩:=h.ex
 rw [asc_ext hl h1 fun p=>(e p).trans (h2 p).symm]
 exact h3
theorem DSet.len {kvs:List (Key×V)}{S:Nat→Prop} (h:DSet kvs S) {l:List Nat} (hl:Asc l) (e:∀ p,p∈l↔S p):kvs.length=l.length:=by
 rw [(h.of_asc hl e).length_eq];simp [kset]
theorem DSet.le {kvs:List (Key×V)}{S:Nat→Prop} (h:DSet kvs S) {n:Nat} (hb:∀ p,S p→p<n):kvs.length≤n:=by
 obtain ⟨g,h1,h2,h3⟩:=h.ex
 rw [h3.length_eq]
 have:=asc_len_le (n:=n) h1 fun x hx=>hb x ((h2 x).mp hx)
 simpa [kset] using this
theorem DSet.get {kvs:List (Key×V)}{S:Nat→Prop} (h:DSet kvs S) {p:Nat} (hp:S p):valV kvs (ky p)=some (.bl true):=by
 obtain ⟨g,h1,h2,h3⟩:=h.ex
 have nd:((kset g).map (·.1)).Nodup:=by rw [kset_keys];exact ky_nodup h1.nodup
 rw [valV_perm h3 nd,valV_mem nd]
 exact List.mem_map.mpr ⟨p,(h2 p).mpr hp,rfl⟩
theorem DSet.not {kvs:List (Key×V)}{S:Nat→Prop} (h:DSet kvs S) {z:Int} (hz:∀ p:Nat,z=p→¬ S p):valV kvs (.inl z)=none:=by
 obtain ⟨g,h1,h2,h3⟩:=h.ex
 rw [valV_none]
 intro q
 have q2:=(h3.map (fun kv:Key×V=>kv.1)).mem_iff.mp q
 rw [kset_keys] at q2
 obtain ⟨p,hp,e⟩:=List.mem_map.mp q2
 exact hz p (Sum.inl.inj e).symm ((h2 p).mp hp)
theorem DSet.has {kvs:List (Key×V)}{S:Nat→Prop} (h:DSet kvs S) {p:Nat}:(valV kvs (ky p)).isSome=true↔S p:=by
 constructor
 ·intro q
  refine Classical.byContradiction fun n=>?_
  rw [h.not (z:=(p:Int)) fun p' e s=>n ((show p'=p by omega)▸s)] at q
  cases q
 ·intro q
  rw [h.get q];rfl
theorem putIn_perm {p:Nat}:∀ {l:List Nat},p∉l→(Vastoj.putIn p l).Perm (p::l)
 | [],_=>by simp [Vastoj.putIn]
 | a::r,h=>by
  have h1:p≠a:=fun e=>h (by simp [e])
  unfold Vastoj.putIn
  rw [if_neg h1]
  by_cases h2:p<a
  ·rw [if_pos h2]
  ·rw [if_neg h2]
   exact ((putIn_perm fun q=>h (by simp [q])).cons a).trans (List.Perm.swap p a r)
theorem DSet.put {kvs:List (Key×V)}{S:Nat→Prop} (h:DSet kvs S) (p:Nat):DSet (putK kvs (ky p) (.bl true)) fun q=>S q∨q=p:=by
 obtain ⟨g,h1,h2,h3⟩:=h.ex
 have nd:((kset g).map (·.1)).Nodup:=by rw [kset_keys];exact ky_nodup h1.nodup
 by_cases hp:p∈g
 ·rw [putK_same (keys_perm h3 nd) (h.get ((h2 p).mp hp))]
  refine ⟨g,h1,fun q=>⟨fun x=>.inl ((h2 q).mp x),fun x=>x.elim (h2 q).mpr fun e=>e▸hp⟩,h3⟩
 ·refine ⟨Vastoj.putIn p g,asc_putIn h1,fun q=>?_,?_⟩
  ·rw [mem_putIn,h2 q];exact Or.comm
  ·have hk:ky p∉(kset g).map (·.1):=by
    rw [kset_keys]
    intro q
    obtain ⟨b,hb,e⟩:=List.mem_map.mp q
    exact hp (ky_inj e▸hb)
   exact (putK_perm (v:=V.bl true) h3 hk).trans ((putIn_perm hp).map fun q=>(ky q,V.bl true)).symm
theorem DSet.drop {kvs:List (Key×V)}{S:Nat→Prop} (h:DSet kvs S) (p:Nat):DSet (dropK kvs (ky p)) fun q=>S q∧q≠p:=by
 obtain ⟨g,h1,h2,h3⟩:=h.ex
 refine ⟨g.filter fun q=>decide (q≠p),h1.filter _,fun q=>by rw [List.mem_filter,h2 q];simp,(dropK_perm h3 _).trans (List.Perm.of_eq ?_)⟩
 unfold dropK kset
 rw [List.filter_map]
 refine congrArg _ (List.filter_congr fun q _=>?_)
 simp only [Function.comp]
 by_cases e:q=p
 ·simp [e]
 ·have:ky q≠ky p:=fun z=>e (ky_inj z)
  simp [e,this]
def Fx (S:List Addr) (H H':Hp):Prop:=∀ b o,H b=some o→(b∉S∨∃ xs,o=.lst xs)→H' b=some o
theorem Fx.refl (S:List Addr) (H:Hp):Fx S H H:=fun _ _ h _=>h
theorem Fx.trans {S:List Addr}{H H1 H2:Hp} (a:Fx S H H1) (b:Fx S H1 H2):Fx S H H2:=fun c o h k=>b c o (a c o h k) k
theorem Fx.mono {S S':List Addr}{H H':Hp} (a:Fx S H H') (h:∀ b∈S,b∈S'):Fx S' H H':=fun b o e k=>a b o e (k.imp (fun n q=>n (h b q)) id)
theorem Same.fx {S:List Addr}{H H':Hp} (a:Same H H'):Fx S H H':=fun b o e _=>a b o e
theorem Fx.at_ {S:List Addr}{H H':Hp} (a:Fx S H H') {b:Addr}{o:HO} (e:H b=some o) (n:b∉S):H' b=some o:=a b o e (.inl n)
theorem Fx.lst {S:List Addr}{H H':Hp} (a:Fx S H H') {b:Addr}{xs:List V} (e:H b=some (.lst xs)):H' b=some (.lst xs):=a b _ e (.inr ⟨_,rfl⟩)
theorem Fx.new {S:List Addr}{H:Hp}{D:Addr}{o:HO} (h:H D=none):Fx S H (upd H D o):=fun b u e _=>by rw [upd_ne (ne_of_none e h)];exact e
theorem Fx.put {S:List Addr}{H:Hp}{D:Addr}{o u:HO} (h:H D=some u) (hn:∀ xs,u≠.lst xs) (hD:D∈S):Fx S H (upd H D o):=fun b v e k=>by
 by_cases q:b=D
 ·subst q
  rw [h] at e
  cases e
  rcases k with k | ⟨xs,k⟩
  ·exact absurd hD k
  ·exact absurd k (hn xs)
 ·rw [upd_ne q];exact e
theorem Fx.seq {S:List Addr}{K:PySem.W.Frag}{H H':Hp}{a:Addr}{xs:List V} (e:Fx S H H') (h:H a=some (.lst xs)):SqL K H' a xs:=SqL.of (e.lst h)
end Go
end
section
set_option maxHeartbeats 1000000
namespace Go
open PySem PySem.Spec PyProof.Rows L2 LX VL
section
variable {X:Cx}{st:Stmt}{t t':TS}
theorem ps_or (h:PS X st t) (h':PS X st t'):PS X st (fun D σ H=>t D σ H∨t' D σ H):=fun pins s σ H D I q=>by
 rcases q with q | q
 ·exact h pins s σ H D I q
 ·exact h' pins s σ H D I q
def tabKv:Nat→List Addr→List (Key×Value)
 | _,[]=>[]
 | n,f::fs=>(Sum.inl (n:Int),Value.ref f)::tabKv (n+1) fs
theorem tab_pairs {P:Program}{w:World}:∀ {es:List DictEntry}{n:Nat}{fs:List Addr},TabOf es n fs→PySem.Pairs (mixKind P w) es (tabKv n fs)
 | [],_,[],_=>.nil
 | e::r,n,f::fs,h=>by
  obtain ⟨_,⟨t,hk⟩,hv,hr⟩:=h
  exact .cons (by show keyIs (.inl (n:Int)) e.key=true;rw [hk];exact keyIs_int _ _) hv (tab_pairs hr)
 | [],_,_::_,h=>h.elim
 | _::_,_,[],h=>h.elim
theorem tab_keys {P:Program}{w:World}:∀ {es:List DictEntry}{n:Nat}{fs:List Addr},TabOf es n fs→∀ e∈es,∃ k,(mixKind P w).is k e.key=true∧e.hash=(mixKind P w).hash k
 | [],_,_,_,e,he=>by cases he
 | e::r,n,f::fs,h,e',he=>by
  obtain ⟨h1,⟨t,hk⟩,hv,hr⟩:=h
  rcases List.mem_cons.mp he with rfl | he
  ·exact ⟨.inl (n:Int),by show keyIs (.inl (n:Int)) e'.key=true;rw [hk];exact keyIs_int _ _,h1⟩
  ·exact tab_keys hr e' he
 | _::_,_,[],h,_,_=>h.elim
theorem tab_ge:∀ {fs:List Addr}{n:Nat}{k:Key},k∈(tabKv n fs).map (·.1)→∃ m:Nat,k=.inl (m:Int)∧n≤m
 | [],_,_,h=>by cases h
 | f::fs,n,k,h=>by
  rcases List.mem_cons.mp (show k∈Sum.inl (n:Int)::(tabKv (n+1) fs).map (·.1) from h) with h | h
  ·exact ⟨n,h,Nat.le_refl _⟩
  ·obtain ⟨m,e,l⟩:=tab_ge h
   exact ⟨m,e,by omega⟩
theorem tab_nd:∀ {fs:List Addr}{n:Nat},((tabKv n fs).map (·.1)).Nodup
 | [],_=>List.nodup_nil
 | f::fs,n=>by
  refine List.nodup_cons.mpr ⟨fun h=>?_,tab_nd (n:=n+1)⟩
  obtain ⟨m,e,l⟩:=tab_ge h
  have:=Sum.inl.inj e
  omega
theorem tab_val:∀ {fs:List Addr}{n i:Nat}{f:Addr},fs[i]?=some f→PySem.valueAt (tabKv n fs) (.inl ((n+i:Nat):Int))=some (.ref f)
 | [],_,_,_,h=>by simp at h
 | g::fs,n,0,f,h=>by
  have:g=f:=Option.some.inj h
  subst this
  simp [PySem.valueAt,tabKv]
 | g::fs,n,i+1,f,h=>by
  have ih:=tab_val (fs:=fs) (n:=n+1) (i:=i) (f:=f) (by simpa using h)
  have e:(n+1+i:Nat)=n+(i+1):=by omega
  rw [e] at ih
  unfold PySem.valueAt tabKv
  rw [List.find?_cons_of_neg]
  ·exact ih
  ·simp
   omega
theorem pe_tab {x:Str}{d:Addr}{fs:List Addr}{i:Expr}{ty:TE}{p pos:Pos} (hm:X.mg x=some (.ref d)) (ht:∃ es ep,X.K.lookup d=some ⟨.type "dict",none,.dict es ep,#[]⟩∧TabOf es.toList 0 fs) (hi:PE X i ty) (hg:Gl X x:=by rfl)
  (hd:(x==("__debug__":Str))=false:=by decide) (hs:NoSl i:=by exact fun _ _=>rfl):PE X (.Subscript (.Name x p) i pos) (fun σ H Q=>ty σ H fun y H1=>∃ (n:Nat) (f:Addr),y=.int (n:Int)∧fs[n]?=some f∧Q (.ref f) H1):=by
 intro pins s σ H Q I h
 obtain ⟨es,ep,hl,htab⟩:=ht
 refine subD_of PySem.F.slot_dict_getitem.lookup hs (thn (pe_glob (v:=.ref d) hg hm rfl hd pins s σ H (fun v H'=>v=.ref d∧H'=H) I ⟨rfl,rfl⟩) fun u s1 ⟨x,H1,I1,rx,ex,eH⟩=>?_)
 subst ex eH
 obtain rfl:u=Value.ref d:=rx
 refine thn (hi pins s1 σ _ _ I1 h) fun iv s2 ⟨y,H2,I2,ry,n,f,ey,hf,q2⟩=>?_
 subst ey
 have dd:s2.heap.DictOf (mixKind X.prog X.w) d (tabKv 0 fs):=⟨_,es,ep,I2.kIn _ _ hl,⟨rfl,rfl,rfl⟩,rfl,fun e he=>tab_keys htab e (Array.mem_toList_iff.mpr he),tab_pairs htab,tab_nd⟩
 refine ⟨dd.typeIs,wpAny_getItem_of (k:=Sum.inl (n:Int)) (kV_is (k:=Sum.inl (n:Int)) ry) dd.mapOf (v:=.ref f) ?_ ⟨.ref f,H2,I2.tok _,rfl,q2⟩⟩
 have:=tab_val (n:=0) hf
 rwa [Nat.zero_add] at this
end
structure DM (kvs:List (Key×V)) (F:Nat→Option V):Prop where
 nd:(kvs.map (·.1)).Nodup
 nat:∀ k∈kvs.map (·.1),∃ p:Nat,k=ky p
 get:∀ p:Nat,valV kvs (ky p)=F p
theorem DM.nil:DM [] fun _=>none:=⟨List.nodup_nil,fun k h=>(List.not_mem_nil h).elim,fun _=>rfl⟩
theorem DM.congr {kvs:List (Key×V)}{F G:Nat→Option V} (h:DM kvs F) (e:∀ p,F p=G p):DM kvs G:=⟨h.nd,h.nat,fun p=>(h.get p).trans (e p)⟩
theorem valV_putK {kvs:List (Key×V)}{k k':Key}{v:V}:valV (putK kvs k v) k'=if k'=k then some v else valV kvs k':=valV_put kvs k k' v
theorem valV_dropK {kvs:List (Key×V)}{k k':Key}:valV (dropK kvs k) k'=if k'=k then none else valV kvs k':=by
 induction kvs with
 | nil=>simp [dropK,valV]
 | cons p r ih =>
  by_cases e:p.1=k
  ·rw [dropK_pos e,ih]
   by_cases e2:k'=k
   ·rw [if_pos e2,if_pos e2]
   ·rw [if_neg e2,if_neg e2,valV_neg fun q=>e2 (by rw [← q,e])]
  ·rw [dropK_neg e]
   by_cases e3:p.1=k'
   ·rw [valV_pos e3,if_neg fun q=>e (by rw [e3,q]),valV_pos e3]
   ·rw [valV_neg e3,ih,valV_neg e3]
theorem keys_putK {kvs:List (Key×V)}{k x:Key}{v:V} (h:x∈(putK kvs k v).map (·.1)):x=k∨x∈kvs.map (·.1):=by
 cases e:valV kvs k with
 | none =>
  rw [putK_new v e,List.map_append] at h
  rcases List.mem_append.mp h with h | h
  ·exact .inr h
  ·exact .inl (by simpa using h)
 | some y =>
  refine .inr ?_
  unfold putK at h
  rw [valV_any,e] at h
  rw [if_pos (show (some y).isSome=true from rfl),List.map_map] at h
  obtain ⟨kv,h1,h2⟩:=List.mem_map.mp h
  refine List.mem_map.mpr ⟨kv,h1,?_⟩
  simp only [Function.comp] at h2
  split at h2 <;> exact h2
theorem nd_putK' {kvs:List (Key×V)}{k:Key}{v:V} (hn:(kvs.map (·.1)).Nodup):((putK kvs k v).map (·.1)).Nodup:=by
 cases e:valV kvs k with
 | none=>exact nd_putK v hn e
 | some y =>
  unfold putK
  rw [valV_any,e]
  rw [if_pos (show (some y).isSome=true from rfl),List.map_map]
  have:((fun x:Key×V=>x.1)∘fun kv:Key×V=>if kv.1=k then (kv.1,v) else kv)=fun kv=>kv.1:=by
   funext kv
   simp only [Function.comp]
   split <;> rfl
  rw [this]
  exact hn
theorem DM.put {kvs:List (Key×V)}{F:Nat→Option V} (h:DM kvs F) (p:Nat) (v:V):DM (putK kvs (ky p) v) fun q=>if q=p then some v else F q where
 nd:=nd_putK' h.nd
 nat:=fun k hk=>by
  rcases keys_putK hk with e | e
  ·exact ⟨p,e⟩
  ·exact h.nat k e
 get:=fun q=>by
  rw [valV_putK]
  by_cases e:q=p
  ·rw [if_pos e,if_pos (by rw [e])]
  ·rw [if_neg e,if_neg fun z=>e (ky_inj z),h.get]
theorem DM.drop {kvs:List (Key×V)}{F:Nat→Option V} (h:DM kvs F) (p:Nat):DM (dropK kvs (ky p)) fun q=>if q=p then none else F q where
 nd:=nd_dropK h.nd
 nat:=fun k hk=>by
  obtain ⟨kv,h1,h2⟩:=List.mem_map.mp hk
  exact h.nat k (List.mem_map.mpr ⟨kv,dropK_mem h1,h2⟩)
 get:=fun q=>by
  rw [valV_dropK]
  by_cases e:q=p
  ·rw [if_pos e,if_pos (by rw [e])]
  ·rw [if_neg e,if_neg fun z=>e (ky_inj z),h.get]
theorem DM.keys {kvs:List (Key×V)}{F:Nat→Option V} (h:DM kvs F):∃ l:List Nat,kvs.map (·.1)=l.map ky∧l.Nodup∧(∀ p,p∈l↔(F p).isSome=true)∧kvs=l.map fun p=>(ky p,(F p).getD .non):=by
 have hex:∃ l:List Nat,kvs.map (·.1)=l.map ky:=by
  have:∀ ks:List Key,(∀ k∈ks,∃ p:Nat,k=ky p)→∃ l:List Nat,ks=l.map ky:=by
   intro ks
   induction ks with
   | nil=>exact fun _=>⟨[],rfl⟩
   | cons k r ih =>
    intro hk
    obtain ⟨p,rfl⟩:=hk k (by simp)
    obtain ⟨l,rfl⟩:=ih fun x hx=>hk x (by simp [hx])
    exact ⟨p::l,rfl⟩
  exact this _ h.nat
 obtain ⟨l,hl⟩:=hex
 have hm:∀ p,p∈l↔(F p).isSome=true:=fun p=>by
  rw [← h.get p]
  constructor
  ·intro hp
   cases e:valV kvs (ky p) with
   | none =>
    rw [valV_none,hl] at e
    exact absurd (List.mem_map.mpr ⟨p,hp,rfl⟩) e
   | some v=>rfl
  ·intro hp
   cases e:valV kvs (ky p) with
   | none=>rw [e] at hp;cases hp
   | some v =>
    have:=valV_in e
    rw [hl] at this
    obtain ⟨q,hq,e⟩:=List.mem_map.mp this
    exact ky_inj e▸hq
 have hnd:l.Nodup:=by
  have:=h.nd
  rw [hl] at this
  exact List.Pairwise.of_map ky (fun a b n e=>n (by rw [e])) this
 refine ⟨l,hl,hnd,hm,?_⟩
 apply List.ext_getElem?
 intro i
 have h1:(kvs.map (·.1))[i]?=(l.map ky)[i]?:=by rw [hl]
 rw [List.getElem?_map,List.getElem?_map] at h1
 rw [List.getElem?_map]
 cases e:kvs[i]? with
 | none =>
  rw [e] at h1
  cases e2:l[i]? with
  | none=>rfl
  | some p=>rw [e2] at h1;cases h1
 | some kv =>
  rw [e] at h1
  cases e2:l[i]? with
  | none=>rw [e2] at h1;cases h1
  | some p =>
   rw [e2] at h1
   have hk:kv.1=ky p:=Option.some.inj h1
   have hv:valV kvs (ky p)=some kv.2:=(valV_mem h.nd).mpr (by rw [← hk];exact List.mem_of_getElem? e)
   rw [h.get] at hv
   show some kv=some (ky p,(F p).getD .non)
   rw [hv,← hk]
   rfl
theorem nodup_le {n:Nat}{l:List Nat} (h:l.Nodup) (hb:∀ x∈l,x<n):l.length≤n:=by
 have:=List.Nodup.length_le_of_subset (l₂:=List.range n) h fun x hx=>List.mem_range.mpr (hb x hx)
 simpa using this
theorem DM.le {kvs:List (Key×V)}{F:Nat→Option V} (h:DM kvs F) {n:Nat} (hb:∀ p,(F p).isSome=true→p<n):kvs.length≤n:=by
 obtain ⟨l,h1,h2,h3,_⟩:=h.keys
 have:=congrArg List.length h1
 simp only [List.length_map] at this
 rw [this]
 exact nodup_le h2 fun x hx=>hb x ((h3 x).mp hx)
theorem DM.getZ {kvs:List (Key×V)}{F:Nat→Option V} (h:DM kvs F) (z:Int):valV kvs (.inl z)=if 0≤z then F z.toNat else none:=by
 by_cases e:0≤z
 ·rw [if_pos e,← h.get z.toNat]
  have:ky z.toNat=.inl z:=by show Sum.inl ((z.toNat:Nat):Int)=Sum.inl z;rw [Int.toNat_of_nonneg e]
  rw [this]
 ·rw [if_neg e,valV_none]
  intro q
  obtain ⟨p,hp⟩:=h.nat _ q
  have:=Sum.inl.inj hp
  omega
theorem DM.merge {more:List (Key×V)}{G:Nat→Option V} (hg:DM more G):∀ {kvs:List (Key×V)}{F:Nat→Option V},DM kvs F→DM (mergeK kvs more) fun p=>(G p).or (F p):=by
 obtain ⟨l,_,h2,h3,rfl⟩:=hg.keys
 have key:∀ (l:List Nat),l.Nodup→∀ {kvs:List (Key×V)}{F:Nat→Option V},DM kvs F→DM (mergeK kvs (l.map fun p=>(ky p,(G p).getD .non))) fun p=>if p∈l then some ((G p).getD .non) else F p:=by
  intro l
  induction l with
  | nil=>intro _ kvs F h;exact h.congr fun p=>by simp
  | cons a r ih =>
   intro hn kvs F h
   obtain ⟨n1,n2⟩:=List.nodup_cons.mp hn
   refine (ih n2 (h.put a ((G a).getD .non))).congr fun p=>?_
   by_cases e:p=a
   ·subst e;simp [n1]
   ·simp [e]
 intro kvs F h
 refine (key l h2 h).congr fun p=>?_
 by_cases e:p∈l
 ·rw [if_pos e]
  have:=(h3 p).mp e
  cases q:G p with
  | none=>rw [q] at this;cases this
  | some v=>rfl
 ·rw [if_neg e]
  cases q:G p with
  | none=>rfl
  | some v=>exact absurd ((h3 p).mpr (by rw [q];rfl)) e
theorem kset_perm {kvs:List (Key×V)}{g:List Nat} (q:kvs.Perm (kset g)):∃ l:List Nat,l.Perm g∧kset l=kvs:=by
 generalize hm:kset g=m at q
 induction q generalizing g with
 | nil =>
  refine ⟨[],?_,rfl⟩
  cases g with
  | nil=>exact .nil
  | cons _ _=>cases hm
 | cons x _ ih =>
  cases g with
  | nil=>cases hm
  | cons a r =>
   cases hm
   obtain ⟨l,h1,h2⟩:=ih (g:=r) rfl
   exact ⟨a::l,h1.cons a,by rw [← h2];rfl⟩
 | swap x y r =>
  match g,hm with
  | a::b::t,hm =>
   cases hm
   exact ⟨b::a::t,.swap _ _ _,rfl⟩
 | trans _ _ ih1 ih2 =>
  obtain ⟨l,h1,h2⟩:=ih2 hm
  obtain ⟨l',h3,h4⟩:=ih1 h2
  exact ⟨l',h3.trans h1,h4⟩
theorem DSet.keys {kvs:List (Key×V)}{S:Nat→Prop} (h:DSet kvs S):∃ l:List Nat,kvs.map (·.1)=l.map ky∧l.Nodup∧(∀ p,p∈l↔S p)∧kvs=kset l:=by
 obtain ⟨g,h1,h2,h3⟩:=h.ex
 obtain ⟨l,hp,rfl⟩:=kset_perm h3
 exact ⟨l,kset_keys l,hp.nodup_iff.mpr h1.nodup,fun p=>hp.mem_iff.trans (h2 p),rfl⟩
end Go
end
section
set_option maxHeartbeats 1000000
namespace Go
open PySem PySem.Spec PyProof.Rows L2 LX VL
open Vastoj (Store Node knot closure)
abbrev iv (p:Nat):V:=V.int (p:Int)
abbrev ivs (l:List Nat):List V:=l.map iv
def RowsD (H:Hp) (kvs:List (Key×V)) (R:Nat→Option (List Nat)):Prop:=∃ A:Nat→Addr,DM kvs (fun p=>(R p).map fun _=>V.ref (A p))∧∀ p r,R p=some r→H (A p)=some (.lst (ivs r))
def refsR (s:Store) (p:Nat):Option (List Nat):=if s.has p then some (s.refs p) else none
def knotR (s:Store) (p:Nat):Option (List Nat):=if s.has p then some (knot s p) else none
def sizF (s:Store) (p:Nat):Option V:=if s.has p then some (.int (sizeOf s p:Nat)) else none
def isHead (s:Store) (p:Nat):Bool:=s.has p&&decide (head s p=p)
def meF (s:Store) (p:Nat):Option V:=if isHead s p then some (.int (cnt s p:Nat)) else none
def DictAt (H:Hp) (d:Addr) (F:Nat→Option V):Prop:=∃ kvs,H d=some (.dK kvs)∧DM kvs F
def SetAt (H:Hp) (d:Addr) (S:Nat→Prop):Prop:=∃ kvs,H d=some (.dK kvs)∧DSet kvs S
def RowsAt (H:Hp) (d:Addr) (R:Nat→Option (List Nat)):Prop:=∃ kvs,H d=some (.dK kvs)∧RowsD H kvs R
structure ThAd where
 th:Addr
 siz:Addr
 rf:Addr
 kn:Addr
 me:Addr
structure ThAt (a:Ad) (H:Hp) (t:ThAd) (s:Store):Prop where
 ob:∃ dx,H t.th=some (.ins a.Za dx (Zc (.ref t.siz) (.ref t.rf) (.ref t.kn) (.ref t.me)))
 siz:DictAt H t.siz (sizF s)
 rf:RowsAt H t.rf (refsR s)
 kn:RowsAt H t.kn (knotR s)
 me:DictAt H t.me (meF s)
 nd:[t.siz,t.rf,t.kn,t.me].Nodup
structure CoAd where
 co:Addr
 bl:Addr
 gr:Addr
structure CoAt (a:Ad) (H:Hp) (c:CoAd) (ph:Nat) (b g:List Nat) (need won:Nat):Prop where
 ob:∃ dx,H c.co=some (.ins a.Z2 dx (Z4 (.int (ph:Nat)) (.ref c.bl) (.ref c.gr) (.int (need:Nat)) (.int (won:Nat))))
 bl:SetAt H c.bl (·∈b)
 gr:SetAt H c.gr (·∈g)
 nd:c.bl≠c.gr
def outsOf (x:Vastoj.Session):List Nat:=(x.building.map fun b=>b.outs).getD []
def insOf (x:Vastoj.Session):List Nat:=(x.building.map fun b=>b.ins).getD []
structure SeAt (a:Ad) (H:Hp) (se hd:Addr) (x:Vastoj.Session):Prop where
 ob:∃ dx o i,H se=some (.ins a.Ze dx (Zg (.ref hd) (.bl x.building.isSome) (.ref o) (.ref i)))∧H o=some (.lst (ivs (outsOf x)))∧H i=some (.lst (ivs (insOf x)))
 hd:SetAt H hd (·∈x.holds)
structure StAd where
 st:Addr
 t:ThAd
 c:CoAd
 ses:Addr
 rts:Addr
 A:Nat→Addr
 hd:Nat→Addr
def sesF (l:List Vastoj.Session) (A:Nat→Addr) (k:Nat):Option V:=if k∈l.map (fun x=>x.number) then some (.ref (A k)) else none
def rtF (l:List (Nat×Nat)) (r:Nat):Option V:=(l.find? fun x=>x.1==r).map fun x=>iv x.2
structure StAt (a:Ad) (H:Hp) (x:StAd) (s:Vastoj.State):Prop where
 ob:∃ dx,H x.st=some (.ins a.Zd dx (Zh (.ref x.t.th) (.ref x.c.co) (.ref x.ses) (.ref x.rts) (.int (s.room:Nat))))
 th:ThAt a H x.t s.store
 co:CoAt a H x.c s.phase s.black s.grey s.need s.won
 ses:DictAt H x.ses (sesF s.sessions x.A)
 each:∀ y∈s.sessions,SeAt a H (x.A y.number) (x.hd y.number) y
 rts:DictAt H x.rts (rtF s.roots)
 nd:[x.t.siz,x.t.rf,x.t.kn,x.t.me,x.c.bl,x.c.gr,x.ses,x.rts].Nodup
 ndh:∀ y∈s.sessions,x.hd y.number∉[x.t.siz,x.t.rf,x.t.kn,x.t.me,x.c.bl,x.c.gr,x.ses,x.rts]
 ndA:∀ y∈s.sessions,∀ z∈s.sessions,x.A y.number=x.A z.number→y.number=z.number
 ndH:∀ y∈s.sessions,∀ z∈s.sessions,x.hd y.number=x.hd z.number→y.number=z.number
theorem DictAt.fx {H H':Hp}{S:List Addr}{d:Addr}{F:Nat→Option V} (h:DictAt H d F) (f:Fx S H H') (n:d∉S):DictAt H' d F:=by
 obtain ⟨kvs,h1,h2⟩:=h
 exact ⟨kvs,f.at_ h1 n,h2⟩
theorem SetAt.fx {H H':Hp}{S:List Addr}{d:Addr}{F:Nat→Prop} (h:SetAt H d F) (f:Fx S H H') (n:d∉S):SetAt H' d F:=by
 obtain ⟨kvs,h1,h2⟩:=h
 exact ⟨kvs,f.at_ h1 n,h2⟩
theorem RowsD.fx {H H':Hp}{S:List Addr}{kvs:List (Key×V)}{R:Nat→Option (List Nat)} (h:RowsD H kvs R) (f:Fx S H H'):RowsD H' kvs R:=by
 obtain ⟨A,h1,h2⟩:=h
 exact ⟨A,h1,fun p r e=>f.lst (h2 p r e)⟩
theorem RowsAt.fx {H H':Hp}{S:List Addr}{d:Addr}{R:Nat→Option (List Nat)} (h:RowsAt H d R) (f:Fx S H H') (n:d∉S):RowsAt H' d R:=by
 obtain ⟨kvs,h1,h2⟩:=h
 exact ⟨kvs,f.at_ h1 n,h2.fx f⟩
theorem Same.of_fx {H H':Hp} (f:Fx [] H H'):Same H H':=fun b o e=>f.at_ e (by simp)
theorem ThAt.fx {a:Ad}{H H':Hp}{S:List Addr}{t:ThAd}{s:Store} (h:ThAt a H t s) (f:Fx S H H') (n:∀ b∈[t.th,t.siz,t.rf,t.kn,t.me],b∉S):ThAt a H' t s:=by
 obtain ⟨⟨dx,h1⟩,h2,h3,h4,h5,h6⟩:=h
 exact ⟨⟨dx,f.at_ h1 (n _ (by simp))⟩,h2.fx f (n _ (by simp)),h3.fx f (n _ (by simp)),h4.fx f (n _ (by simp)),h5.fx f (n _ (by simp)),h6⟩
theorem CoAt.fx {a:Ad}{H H':Hp}{S:List Addr}{c:CoAd}{ph:Nat}{b g:List Nat}{need won:Nat} (h:CoAt a H c ph b g need won) (f:Fx S H H') (n:∀ b∈[c.co,c.bl,c.gr],b∉S):CoAt a H' c ph b g need won:=by
 obtain ⟨⟨dx,h1⟩,h2,h3,h4⟩:=h
 exact ⟨⟨dx,f.at_ h1 (n _ (by simp))⟩,h2.fx f (n _ (by simp)),h3.fx f (n _ (by simp)),h4⟩
theorem SeAt.fx {a:Ad}{H H':Hp}{S:List Addr}{se hd:Addr}{x:Vastoj.Session} (h:SeAt a H se hd x) (f:Fx S H H') (n:se∉S) (n2:hd∉S):SeAt a H' se hd x:=by
 obtain ⟨⟨dx,o,i,h1,h2,h3⟩,h4⟩:=h
 exact ⟨⟨dx,o,i,f.at_ h1 n,f.lst h2,f.lst h3⟩,h4.fx f n2⟩
theorem ThAt.same {a:Ad}{H H':Hp}{t:ThAd}{s:Store} (h:ThAt a H t s) (f:Same H H'):ThAt a H' t s:=h.fx (S:=[]) (Same.fx f) (by simp)
theorem CoAt.same {a:Ad}{H H':Hp}{c:CoAd}{ph:Nat}{b g:List Nat}{need won:Nat} (h:CoAt a H c ph b g need won) (f:Same H H'):CoAt a H' c ph b g need won:=h.fx (S:=[]) (Same.fx f) (by simp)
theorem SeAt.same {a:Ad}{H H':Hp}{se hd:Addr}{x:Vastoj.Session} (h:SeAt a H se hd x) (f:Same H H'):SeAt a H' se hd x:=h.fx (S:=[]) (Same.fx f) (by simp) (by simp)
theorem DictAt.same {H H':Hp}{d:Addr}{F:Nat→Option V} (h:DictAt H d F) (f:Same H H'):DictAt H' d F:=h.fx (S:=[]) (Same.fx f) (by simp)
theorem SetAt.same {H H':Hp}{d:Addr}{F:Nat→Prop} (h:SetAt H d F) (f:Same H H'):SetAt H' d F:=h.fx (S:=[]) (Same.fx f) (by simp)
theorem RowsAt.same {H H':Hp}{d:Addr}{R:Nat→Option (List Nat)} (h:RowsAt H d R) (f:Same H H'):RowsAt H' d R:=h.fx (S:=[]) (Same.fx f) (by simp)
theorem StAt.same {a:Ad}{H H':Hp}{x:StAd}{s:Vastoj.State} (h:StAt a H x s) (f:Same H H'):StAt a H' x s:=by
 obtain ⟨⟨dx,h1⟩,h2,h3,h4,h5,h6,n1,n2,n3,n4⟩:=h
 exact ⟨⟨dx,f _ _ h1⟩,h2.same f,h3.same f,h4.same f,fun y hy=>(h5 y hy).same f,h6.same f,n1,n2,n3,n4⟩
theorem same_upd {H H':Hp}{D:Addr}{o:HO} (s:Same H H') (h:H D=none):Same H (upd H' D o):=fun b u e=>by
 rw [upd_ne (ne_of_none e h)];exact s b u e
theorem Same.none_of {H H':Hp} (e:Same H H') {l:Addr} (h:H' l=none):H l=none:=e.free h
theorem ky_int (p:Nat):kV (ky p)=iv p:=rfl
theorem iv_kV (p:Nat):iv p=kV (ky p):=rfl
theorem get_ivs {l:List Nat}{i:Nat}{x:V} (h:(ivs l)[i]?=some x):∃ p,l[i]?=some p∧x=iv p:=by
 rw [List.getElem?_map] at h
 cases e:l[i]? with
 | none=>rw [e] at h;cases h
 | some p=>rw [e] at h;exact ⟨p,rfl,(Option.some.inj h).symm⟩
theorem take_snoc' {α:Type}{l:List α}{i:Nat}{x:α} (h:l[i]?=some x):l.take (i+1)=l.take i++[x]:=by
 rw [List.take_add_one,h];rfl
theorem line_of_le {n:Nat} (h:n≤1000000):n<sizeLine:=by rw [sizeLine_eq];omega
theorem ivs_len (l:List Nat):(ivs l).length=l.length:=by simp
end Go
end
section
set_option maxHeartbeats 1000000
namespace Go
open PySem PySem.Spec PyProof.Rows L2 LX VL
theorem same_new {H:Hp}{D:Addr}{o:HO} (h:H D=none):Same H (upd H D o):=same_upd (Same.refl _) h
theorem same_unlock {H H':Hp}{d:Addr}{od:Obj}{u:HO} (s:Same (upd H d (.frz od u)) H') (h:H d=some u):Same H (upd H' d u):=fun b o e=>by
 by_cases q:b=d
 ·subst q;rw [upd_same,← h,e]
 ·rw [upd_ne q];exact s b o (by rw [upd_ne q];exact e)
theorem lock_at {H H':Hp}{d b:Addr}{od:Obj}{u o:HO} (s:Same (upd H d (.frz od u)) H') (h:H b=some o) (n:b≠d):H' b=some o:=s b o (by rw [upd_ne n];exact h)
theorem lock_d {H H':Hp}{d:Addr}{od:Obj}{u:HO} (s:Same (upd H d (.frz od u)) H'):H' d=some (.frz od u):=s _ _ upd_same
theorem lock_lst {H H':Hp}{d b:Addr}{od:Obj}{kvs:List (Key×V)}{xs:List V} (s:Same (upd H d (.frz od (.dK kvs))) H') (hd:H d=some (.dK kvs)) (h:H b=some (.lst xs)):H' b=some (.lst xs) :=
 lock_at s h (ne_of h hd (by intro z;cases z))
theorem fx_lock {H:Hp}{d:Addr}{o u:HO} (h:H d=some u) (hn:∀ xs,u≠.lst xs):Fx [d] H (upd H d o):=Fx.put h hn (by simp)
section
variable {d:Addr}{od:Obj}{kvs:List (Key×V)}{g:TG}{tb:TS}{D:Ends}{σ:L2.St}{H:Hp}
theorem for_keys (Pv:Nat→L2.St→Hp→Prop) (h0:Pv 0 σ H) (hl:∀ i σ H,Pv i σ H→H d=some (.frz od (.dK kvs)))
  (hs:∀ i k v σ H,kvs[i]?=some (k,v)→Pv i σ H→g (kV k) σ H fun σ2 H2=>tb {D with nx:=Pv (i+1),ct:=Pv (i+1),bk:=D.nx} σ2 H2) (hd:∀ σ H,Pv kvs.length σ H→D.nx σ H) :
  ∃ W:Nat→Nat→L2.St→Hp→Prop,(∃ m,W 0 m σ H)∧∀ i m σ H,W i m σ H →
   ((Itk d od kvs).stop i H∧D.nx σ H)∨((Itk d od kvs).go i H∧∃ N:L2.St→Hp→Prop,(∀ σ' H',N σ' H'→∃ m',m'<m∧W (i+1) m' σ' H')∧∀ x H',(Itk d od kvs).yld i H x H'→g x σ H' fun σ2 H2=>tb {D with nx:=N,ct:=N,bk:=D.nx} σ2 H2):=by
 refine ⟨fun i m σ H=>m=kvs.length - i∧i≤kvs.length∧Pv i σ H,⟨kvs.length,by simp,Nat.zero_le _,h0⟩,?_⟩
 rintro i m σ H ⟨rfl,hi,p⟩
 by_cases hlt:i<kvs.length
 ·refine .inr ⟨⟨hl i σ H p,hlt⟩,Pv (i+1),fun σ' H' p'=>⟨kvs.length - (i+1),by omega,rfl,hlt,p'⟩,?_⟩
  rintro x H' ⟨rfl,k,v,e,rfl⟩
  exact hs i k v σ _ e p
 ·have e:i=kvs.length:=by omega
  subst e
  exact .inl ⟨⟨hl _ σ H p,Nat.le_refl _⟩,hd σ H p⟩
theorem for_vals (Pv:Nat→L2.St→Hp→Prop) (h0:Pv 0 σ H) (hl:∀ i σ H,Pv i σ H→H d=some (.frz od (.dK kvs)))
  (hs:∀ i k v σ H,kvs[i]?=some (k,v)→Pv i σ H→g v σ H fun σ2 H2=>tb {D with nx:=Pv (i+1),ct:=Pv (i+1),bk:=D.nx} σ2 H2) (hd:∀ σ H,Pv kvs.length σ H→D.nx σ H) :
  ∃ W:Nat→Nat→L2.St→Hp→Prop,(∃ m,W 0 m σ H)∧∀ i m σ H,W i m σ H →
   ((Itd d od kvs).stop i H∧D.nx σ H)∨((Itd d od kvs).go i H∧∃ N:L2.St→Hp→Prop,(∀ σ' H',N σ' H'→∃ m',m'<m∧W (i+1) m' σ' H')∧∀ x H',(Itd d od kvs).yld i H x H'→g x σ H' fun σ2 H2=>tb {D with nx:=N,ct:=N,bk:=D.nx} σ2 H2):=by
 refine ⟨fun i m σ H=>m=kvs.length - i∧i≤kvs.length∧Pv i σ H,⟨kvs.length,by simp,Nat.zero_le _,h0⟩,?_⟩
 rintro i m σ H ⟨rfl,hi,p⟩
 by_cases hlt:i<kvs.length
 ·refine .inr ⟨⟨hl i σ H p,hlt⟩,Pv (i+1),fun σ' H' p'=>⟨kvs.length - (i+1),by omega,rfl,hlt,p'⟩,?_⟩
  rintro x H' ⟨rfl,k,e⟩
  exact hs i k x σ _ e p
 ·have e:i=kvs.length:=by omega
  subst e
  exact .inl ⟨⟨hl _ σ H p,Nat.le_refl _⟩,hd σ H p⟩
end
section
variable {d:Addr}{od:Obj}{kvs:List (Key×V)}{g:TG}{tt:TT}{te:TE}{vs:List Nat}{σ:L2.St}{H1:Hp}{D:Addr}{Qd:Hp→Prop}
theorem lc_keys (Pv:Nat→Hp→Prop) (h0:Pv 0 (upd H1 D (.lst []))) (hl:∀ i H,Pv i H→H d=some (.frz od (.dK kvs)))
  (hs:∀ i k v H,kvs[i]?=some (k,v)→Pv i H→g (kV k) (wipe σ vs) H fun σ2 H2=>wipe σ2 vs=wipe σ vs∧tt σ2 H2 fun b H3 =>
   if b=true then te σ2 H3 fun y H4=>∃ acc,H4 D=some (.lst acc)∧acc.length<sizeLine∧Pv (i+1) (upd H4 D (.lst (acc++[y]))) else Pv (i+1) H3) (hd:∀ H,Pv kvs.length H→Qd H) :
  ∃ W:Nat→Nat→Hp→Prop,(∃ m,W 0 m (upd H1 D (.lst [])))∧∀ i m H,W i m H →
   ((Itk d od kvs).stop i H∧Qd H)∨((Itk d od kvs).go i H∧∃ Nx:Hp→Prop,(∀ H',Nx H'→∃ m',m'<m∧W (i+1) m' H')∧∀ x H',(Itk d od kvs).yld i H x H'→g x (wipe σ vs) H' fun σ2 H2=>wipe σ2 vs=wipe σ vs∧tt σ2 H2 fun b H3 =>
    if b=true then te σ2 H3 fun y H4=>∃ acc,H4 D=some (.lst acc)∧acc.length<sizeLine∧Nx (upd H4 D (.lst (acc++[y]))) else Nx H3):=by
 refine ⟨fun i m H=>m=kvs.length - i∧i≤kvs.length∧Pv i H,⟨kvs.length,by simp,Nat.zero_le _,h0⟩,?_⟩
 rintro i m H ⟨rfl,hi,p⟩
 by_cases hlt:i<kvs.length
 ·refine .inr ⟨⟨hl i H p,hlt⟩,Pv (i+1),fun H' p'=>⟨kvs.length - (i+1),by omega,rfl,hlt,p'⟩,?_⟩
  rintro x H' ⟨rfl,k,v,e,rfl⟩
  exact hs i k v _ e p
 ·have e:i=kvs.length:=by omega
  subst e
  exact .inl ⟨⟨hl _ H p,Nat.le_refl _⟩,hd H p⟩
theorem lc_vals (Pv:Nat→Hp→Prop) (h0:Pv 0 (upd H1 D (.lst []))) (hl:∀ i H,Pv i H→H d=some (.frz od (.dK kvs)))
  (hs:∀ i k v H,kvs[i]?=some (k,v)→Pv i H→g v (wipe σ vs) H fun σ2 H2=>wipe σ2 vs=wipe σ vs∧tt σ2 H2 fun b H3 =>
   if b=true then te σ2 H3 fun y H4=>∃ acc,H4 D=some (.lst acc)∧acc.length<sizeLine∧Pv (i+1) (upd H4 D (.lst (acc++[y]))) else Pv (i+1) H3) (hd:∀ H,Pv kvs.length H→Qd H) :
  ∃ W:Nat→Nat→Hp→Prop,(∃ m,W 0 m (upd H1 D (.lst [])))∧∀ i m H,W i m H →
   ((Itd d od kvs).stop i H∧Qd H)∨((Itd d od kvs).go i H∧∃ Nx:Hp→Prop,(∀ H',Nx H'→∃ m',m'<m∧W (i+1) m' H')∧∀ x H',(Itd d od kvs).yld i H x H'→g x (wipe σ vs) H' fun σ2 H2=>wipe σ2 vs=wipe σ vs∧tt σ2 H2 fun b H3 =>
    if b=true then te σ2 H3 fun y H4=>∃ acc,H4 D=some (.lst acc)∧acc.length<sizeLine∧Nx (upd H4 D (.lst (acc++[y]))) else Nx H3):=by
 refine ⟨fun i m H=>m=kvs.length - i∧i≤kvs.length∧Pv i H,⟨kvs.length,by simp,Nat.zero_le _,h0⟩,?_⟩
 rintro i m H ⟨rfl,hi,p⟩
 by_cases hlt:i<kvs.length
 ·refine .inr ⟨⟨hl i H p,hlt⟩,Pv (i+1),fun H' p'=>⟨kvs.length - (i+1),by omega,rfl,hlt,p'⟩,?_⟩
  rintro x H' ⟨rfl,k,e⟩
  exact hs i k x _ e p
 ·have e:i=kvs.length:=by omega
  subst e
  exact .inl ⟨⟨hl _ H p,Nat.le_refl _⟩,hd H p⟩
theorem lc_filter {K:PySem.W.Frag}{p:Addr}{α:Type}{xs:List α}{f:α→V}{c:α→Bool}{y:α→V}{tt:TT}{te:TE}{i:Nat} (hs:SqL K H1 p (xs.map f)) (hD:H1 D=none) (hn:xs.length≤1000000)
  (ht:∀ (H2:Hp) (x:α) (Q:Bool→Hp→Prop),x∈xs→Same H1 H2→(∀ H3,Same H2 H3→Q (c x) H3)→tt ((wipe σ [i]).set i (some (f x))) H2 Q)
  (he:∀ (H2:Hp) (x:α) (Q:VK),x∈xs→c x=true→Same H1 H2→(∀ H3,Same H2 H3→Q (y x) H3)→te ((wipe σ [i]).set i (some (f x))) H2 Q)
  (hw:∀ z:V,wipe ((wipe σ [i]).set i (some z)) [i]=wipe σ [i])
  (hd:∀ H',Same H1 H'→H' D=some (.lst ((xs.filter c).map y))→Qd H') :
  ∃ W:Nat→Nat→Hp→Prop,(∃ m,W 0 m (upd H1 D (.lst [])))∧∀ j m H,W j m H →
   ((Itl K p).stop j H∧Qd H)∨((Itl K p).go j H∧∃ Nx:Hp→Prop,(∀ H',Nx H'→∃ m',m'<m∧W (j+1) m' H')∧∀ x H',(Itl K p).yld j H x H'→gName i x (wipe σ [i]) H' fun σ2 H2=>wipe σ2 [i]=wipe σ [i]∧tt σ2 H2 fun b H3 =>
    if b=true then te σ2 H3 fun y H4=>∃ acc,H4 D=some (.lst acc)∧acc.length<sizeLine∧Nx (upd H4 D (.lst (acc++[y]))) else Nx H3):=by
 refine lc_list (xs:=xs.map f) (fun j H'=>Same H1 H'∧H' D=some (.lst (((xs.take j).filter c).map y))) ⟨same_new hD,by rw [upd_same];simp⟩ (fun j H' _ h=>h.1.seq hs) (fun j x H' hx h=>?_) (fun H' h=>?_)
 ·rw [List.getElem?_map] at hx
  cases e:xs[j]? with
  | none=>rw [e] at hx;cases hx
  | some z =>
   rw [e] at hx
   obtain rfl:f z=x:=Option.some.inj hx
   have hz:=List.mem_of_getElem? e
   refine ⟨hw _,ht H' z _ hz h.1 fun H3 s3=>?_⟩
   cases hc:c z with
   | false =>
    refine iteF ⟨h.1.trans s3,?_⟩
    rw [take_snoc' e,List.filter_append,List.filter_cons_of_neg (by rw [hc];exact Bool.false_ne_true),List.filter_nil,List.append_nil]
    exact s3 _ _ h.2
   | true =>
    refine iteT (he H3 z _ hz hc (h.1.trans s3) fun H4 s4=>⟨_,s4 _ _ (s3 _ _ h.2),?_,same_upd ((h.1.trans s3).trans s4) hD,?_⟩)
    ·rw [List.length_map]
     refine line_of_le (Nat.le_trans (List.length_filter_le _ _) ?_)
     rw [List.length_take];omega
    ·rw [upd_same,take_snoc' e,List.filter_append,List.filter_cons_of_pos hc,List.filter_nil,List.map_append]
     rfl
 ·rw [List.length_map,List.take_length] at h
  exact hd H' h.1 h.2
theorem lc_map' {K:PySem.W.Frag}{p:Addr}{α:Type}{xs:List α}{f:α→V}{y:α→V}{te:TE}{i:Nat} (hs:SqL K H1 p (xs.map f)) (hD:H1 D=none) (hn:xs.length≤1000000)
  (he:∀ (H2:Hp) (x:α) (Q:VK),x∈xs→Same H1 H2→(∀ H3,Same H2 H3→Q (y x) H3)→te ((wipe σ [i]).set i (some (f x))) H2 Q)
  (hw:∀ z:V,wipe ((wipe σ [i]).set i (some z)) [i]=wipe σ [i])
  (hd:∀ H',Same H1 H'→H' D=some (.lst (xs.map y))→Qd H') :
  ∃ W:Nat→Nat→Hp→Prop,(∃ m,W 0 m (upd H1 D (.lst [])))∧∀ j m H,W j m H →
   ((Itl K p).stop j H∧Qd H)∨((Itl K p).go j H∧∃ Nx:Hp→Prop,(∀ H',Nx H'→∃ m',m'<m∧W (j+1) m' H')∧∀ x H',(Itl K p).yld j H x H'→gName i x (wipe σ [i]) H' fun σ2 H2=>wipe σ2 [i]=wipe σ [i]∧tYes σ2 H2 fun b H3 =>
    if b=true then te σ2 H3 fun y H4=>∃ acc,H4 D=some (.lst acc)∧acc.length<sizeLine∧Nx (upd H4 D (.lst (acc++[y]))) else Nx H3):=by
 refine lc_filter (c:=fun _=>true) (y:=y) hs hD hn (fun H2 x Q _ _ q=>q H2 (Same.refl _)) (fun H2 x Q hx _ s q=>he H2 x Q hx s q) hw fun H' s e=>hd H' s ?_
 rw [e,show xs.filter (fun _=>true)=xs from List.filter_eq_self.mpr fun _ _=>rfl]
end
end Go
end
section
set_option maxHeartbeats 1000000
namespace Go
open PySem PySem.Spec PyProof.Rows L2 LX VL
section
variable {d:Addr}{od:Obj}{kvs:List (Key×V)}{σ:L2.St}{H1:Hp}{D:Addr}{Qd:Hp→Prop}{l:List Nat}{c:Nat→Bool}{y:Nat→V}{tt:TT}{te:TE}{i:Nat}
theorem key_at {kvs:List (Key×V)}{l:List Nat} (hk:kvs.map (·.1)=l.map ky) {j:Nat}{k:Key}{v:V} (h:kvs[j]?=some (k,v)):∃ q,l[j]?=some q∧k=ky q:=by
 have e1:(kvs.map (·.1))[j]?=some k:=by rw [List.getElem?_map,h];rfl
 rw [hk,List.getElem?_map] at e1
 cases e2:l[j]? with
 | none=>rw [e2] at e1;cases e1
 | some q=>rw [e2] at e1;exact ⟨q,rfl,(Option.some.inj e1).symm⟩
theorem lc_filterK (hk:kvs.map (·.1)=l.map ky) (hd:H1 d=some (.frz od (.dK kvs))) (hD:H1 D=none) (hn:l.length≤1000000)
  (ht:∀ (H2:Hp) (x:Nat) (Q:Bool→Hp→Prop),x∈l→Same H1 H2→(∀ H3,Same H2 H3→Q (c x) H3)→tt ((wipe σ [i]).set i (some (iv x))) H2 Q)
  (he:∀ (H2:Hp) (x:Nat) (Q:VK),x∈l→c x=true→Same H1 H2→(∀ H3,Same H2 H3→Q (y x) H3)→te ((wipe σ [i]).set i (some (iv x))) H2 Q)
  (hw:∀ z:V,wipe ((wipe σ [i]).set i (some z)) [i]=wipe σ [i])
  (hf:∀ H',Same H1 H'→H' D=some (.lst ((l.filter c).map y))→Qd H') :
  ∃ W:Nat→Nat→Hp→Prop,(∃ m,W 0 m (upd H1 D (.lst [])))∧∀ j m H,W j m H →
   ((Itk d od kvs).stop j H∧Qd H)∨((Itk d od kvs).go j H∧∃ Nx:Hp→Prop,(∀ H',Nx H'→∃ m',m'<m∧W (j+1) m' H')∧∀ x H',(Itk d od kvs).yld j H x H'→gName i x (wipe σ [i]) H' fun σ2 H2=>wipe σ2 [i]=wipe σ [i]∧tt σ2 H2 fun b H3 =>
    if b=true then te σ2 H3 fun y H4=>∃ acc,H4 D=some (.lst acc)∧acc.length<sizeLine∧Nx (upd H4 D (.lst (acc++[y]))) else Nx H3):=by
 have hl:kvs.length=l.length:=by
  have:=congrArg List.length hk
  simpa using this
 refine lc_keys (fun j H'=>Same H1 H'∧H' D=some (.lst (((l.take j).filter c).map y))) ⟨same_new hD,by rw [upd_same];simp⟩ (fun j H' h=>h.1 _ _ hd) (fun j k v H' hx h=>?_) (fun H' h=>?_)
 ·obtain ⟨z,e,rfl⟩:=key_at hk hx
  have hz:=List.mem_of_getElem? e
  refine ⟨hw _,ht H' z _ hz h.1 fun H3 s3=>?_⟩
  cases hc:c z with
  | false =>
   refine iteF ⟨h.1.trans s3,?_⟩
   rw [take_snoc' e,List.filter_append,List.filter_cons_of_neg (by rw [hc];exact Bool.false_ne_true),List.filter_nil,List.append_nil]
   exact s3 _ _ h.2
  | true =>
   refine iteT (he H3 z _ hz hc (h.1.trans s3) fun H4 s4=>⟨_,s4 _ _ (s3 _ _ h.2),?_,same_upd ((h.1.trans s3).trans s4) hD,?_⟩)
   ·rw [List.length_map]
    refine line_of_le (Nat.le_trans (List.length_filter_le _ _) ?_)
    rw [List.length_take];omega
   ·rw [upd_same,take_snoc' e,List.filter_append,List.filter_cons_of_pos hc,List.filter_nil,List.map_append]
    rfl
 ·rw [hl,List.take_length] at h
  exact hf H' h.1 h.2
theorem lc_mapK (hk:kvs.map (·.1)=l.map ky) (hd:H1 d=some (.frz od (.dK kvs))) (hD:H1 D=none) (hn:l.length≤1000000)
  (he:∀ (H2:Hp) (x:Nat) (Q:VK),x∈l→Same H1 H2→(∀ H3,Same H2 H3→Q (y x) H3)→te ((wipe σ [i]).set i (some (iv x))) H2 Q)
  (hw:∀ z:V,wipe ((wipe σ [i]).set i (some z)) [i]=wipe σ [i])
  (hf:∀ H',Same H1 H'→H' D=some (.lst (l.map y))→Qd H') :
  ∃ W:Nat→Nat→Hp→Prop,(∃ m,W 0 m (upd H1 D (.lst [])))∧∀ j m H,W j m H →
   ((Itk d od kvs).stop j H∧Qd H)∨((Itk d od kvs).go j H∧∃ Nx:Hp→Prop,(∀ H',Nx H'→∃ m',m'<m∧W (j+1) m' H')∧∀ x H',(Itk d od kvs).yld j H x H'→gName i x (wipe σ [i]) H' fun σ2 H2=>wipe σ2 [i]=wipe σ [i]∧tYes σ2 H2 fun b H3 =>
    if b=true then te σ2 H3 fun y H4=>∃ acc,H4 D=some (.lst acc)∧acc.length<sizeLine∧Nx (upd H4 D (.lst (acc++[y]))) else Nx H3):=by
 refine lc_filterK (c:=fun _=>true) (y:=y) hk hd hD hn (fun H2 x Q _ _ q=>q H2 (Same.refl _)) (fun H2 x Q hx _ s q=>he H2 x Q hx s q) hw fun H' s e=>hf H' s ?_
 rw [e,show l.filter (fun _=>true)=l from List.filter_eq_self.mpr fun _ _=>rfl]
theorem lc_mapV {F:Nat→Option V} (hm:DM kvs F) (hk:kvs=l.map fun p=>(ky p,(F p).getD .non)) (hd:H1 d=some (.frz od (.dK kvs))) (hD:H1 D=none) (hn:l.length≤1000000)
  (he:∀ (H2:Hp) (x:Nat) (Q:VK),x∈l→Same H1 H2→(∀ H3,Same H2 H3→Q (y x) H3)→te ((wipe σ [i]).set i (some ((F x).getD .non))) H2 Q)
  (hw:∀ z:V,wipe ((wipe σ [i]).set i (some z)) [i]=wipe σ [i])
  (hf:∀ H',Same H1 H'→H' D=some (.lst (l.map y))→Qd H') :
  ∃ W:Nat→Nat→Hp→Prop,(∃ m,W 0 m (upd H1 D (.lst [])))∧∀ j m H,W j m H →
   ((Itd d od kvs).stop j H∧Qd H)∨((Itd d od kvs).go j H∧∃ Nx:Hp→Prop,(∀ H',Nx H'→∃ m',m'<m∧W (j+1) m' H')∧∀ x H',(Itd d od kvs).yld j H x H'→gName i x (wipe σ [i]) H' fun σ2 H2=>wipe σ2 [i]=wipe σ [i]∧tYes σ2 H2 fun b H3 =>
    if b=true then te σ2 H3 fun y H4=>∃ acc,H4 D=some (.lst acc)∧acc.length<sizeLine∧Nx (upd H4 D (.lst (acc++[y]))) else Nx H3):=by
 have hl:kvs.length=l.length:=by rw [hk,List.length_map]
 refine lc_vals (fun j H'=>Same H1 H'∧H' D=some (.lst ((l.take j).map y))) ⟨same_new hD,by rw [upd_same];simp⟩ (fun j H' h=>h.1 _ _ hd) (fun j k v H' hx h=>?_) (fun H' h=>?_)
 ·rw [hk,List.getElem?_map] at hx
  cases e:l[j]? with
  | none=>rw [e] at hx;cases hx
  | some z =>
   rw [e] at hx
   cases hx
   refine ⟨hw _,?_⟩
   unfold tYes
   dsimp only
   rw [if_pos rfl]
   refine he H' z _ (List.mem_of_getElem? e) h.1 fun H4 s4=>⟨_,s4 _ _ h.2,?_,same_upd (h.1.trans s4) hD,?_⟩
   ·rw [List.length_map,List.length_take];exact line_of_le (by omega)
   ·rw [upd_same,take_snoc' e,List.map_append];rfl
 ·rw [hl,List.take_length] at h
  exact hf H' h.1 h.2
end
section
variable {X:Cx}{K:PySem.W.Frag}{P:Program}{w:World}
theorem pe_fldK {e:Expr}{ta:TE}{f:Str}{pos:Pos} (he:PE X e ta) (hb:attributeBase e f X.env (eval e X.env)=eval e X.env) (hK:X.K=K):PE X (.Attribute e f pos) (tFld K ta f):=by
 subst hK
 exact pe_fld he hb
theorem op_in_seqK (hK:X.K=K):OpR X (compareOp .In) (rIn K false):=by
 subst hK
 exact op_in_seq
theorem cr_setK (hc:X.calm=true) (hP:X.prog=P) (hw:X.w=w) (hK:X.K=K):CallR X (.type "set") (rSet P w K):=by
 subst hP hw hK
 exact cr_set hc
theorem cr_sortsetK (hc:X.calm=true) (hP:X.prog=P) (hw:X.w=w):CallR X (.builtin "sorted") (rSortSet P w):=by
 subst hP hw
 exact cr_sortset hc
end
end Go
end
section
set_option maxHeartbeats 1000000
namespace Go
open PySem PySem.Spec PyProof.Rows L2 LX VL
section
variable {K:PySem.W.Frag}{mg:Str→Option Value}{a:Ad}
theorem fun_qual {x x' q q':Str}{st st':Stmt}{f:Addr}{fd fd':FuncData} (h:Fun K x q st f fd) (h':Fun K x' q' st' f fd'):q=q':=by
 obtain ⟨oc,od,kV,doc,pm,an,cdv,ct,osl,rfl,l,_⟩:=h.ex
 obtain ⟨oc',od',kV',doc',pm',an',cdv',ct',osl',rfl,l',_⟩:=h'.ex
 rw [l] at l'
 have e:=Option.some.inj l'
 have e2:=congrArg Obj.data e
 have e3:PySem.W.fnOf x q (defArgs st) (defBody st) (defScope st) .none kV doc pm an cdv ct=PySem.W.fnOf x' q' (defArgs st') (defBody st') (defScope st') .none kV' doc' pm' an' cdv' ct':=Data.func.inj e2
 exact congrArg FuncData.qualname e3
theorem cls_ne {C C' f f':Addr}{x x' q q':Str}{st st':Stmt} (m:Mk K C f) (m':Mk K C' f') (h:∃ fd,Fun K x q st f fd) (h':∃ fd,Fun K x' q' st' f' fd) (n:q≠q'):C≠C':=fun e=>by
 subst e
 have e:=m.init.symm.trans m'.init
 cases e
 obtain ⟨fd,h⟩:=h
 obtain ⟨fd',h'⟩:=h'
 exact n (fun_qual h h')
theorem ne_TC (T:Txt K mg a):a.Za≠a.Z2:=cls_ne T.Z3O T.Z1Y T.Z1F T.Z17 (by decide)
theorem ne_TS (T:Txt K mg a):a.Za≠a.Zd:=cls_ne T.Z3O T.Z4M T.Z1F T.Z21 (by decide)
theorem ne_TE (T:Txt K mg a):a.Za≠a.Ze:=cls_ne T.Z3O T.Z3f T.Z1F T.Z1r (by decide)
theorem ne_TR (T:Txt K mg a):a.Za≠a.Zf:=cls_ne T.Z3O T.Z3S T.Z1F T.Z1E (by decide)
theorem ne_CS (T:Txt K mg a):a.Z2≠a.Zd:=cls_ne T.Z1Y T.Z4M T.Z17 T.Z21 (by decide)
theorem ne_CE (T:Txt K mg a):a.Z2≠a.Ze:=cls_ne T.Z1Y T.Z3f T.Z17 T.Z1r (by decide)
theorem ne_CR (T:Txt K mg a):a.Z2≠a.Zf:=cls_ne T.Z1Y T.Z3S T.Z17 T.Z1E (by decide)
theorem ne_SE (T:Txt K mg a):a.Zd≠a.Ze:=cls_ne T.Z4M T.Z3f T.Z21 T.Z1r (by decide)
theorem ne_SR (T:Txt K mg a):a.Zd≠a.Zf:=cls_ne T.Z4M T.Z3S T.Z21 T.Z1E (by decide)
theorem ne_ER (T:Txt K mg a):a.Ze≠a.Zf:=cls_ne T.Z3f T.Z3S T.Z1r T.Z1E (by decide)
end
end Go
end
section
set_option maxHeartbeats 2000000
namespace Go
open PySem PySem.Spec PyProof.Rows L2 LX VL
open Vastoj (Store Node knot closure)
section
variable {P:Program}{w:World}{K:PySem.W.Frag}{mg:Str→Option Value}{base:Heap}{a:Ad}
def spReached (K:PySem.W.Frag):Sp:=fun vs H Q _=>∃ (p d:Addr) (l:List Nat) (kvs:List (Key×V)) (R:Nat→Option (List Nat)),vs=[.ref p,.ref d]∧SqL K H p (ivs l)∧(∀ x∈l,x<128)∧H d=some (.dK kvs)∧RowsD H kvs R∧(∀ q r,R q=some r→∀ x∈r,x<128) ∧
 ∀ (H':Hp) (e:Addr),H e=none→Same H H'→SetAt H' e (fun q=>∃ x∈l,Rch (fun y=>(R y).getD []) x q)→Q (.ref e) H'
theorem Z39 (T:Txt K mg a):Pr P w K mg base 1 a.Z3z ["places","references"] (spReached K):=by
 refine pr_of' T.Z8k ZT fun cdv A outer s H vs Q E hr h=>?_
 obtain ⟨p,d,l,kvs,R,rfl,hl,hb,hd,hR,hRb,k⟩:=h
 refine ⟨_,(pss_cons (pst 2 ZT.nd pe_dnewK)
   (pss_cons (ps_for PassesOwn.never rfl (pi_list (pv 0)) (pn 3 ZT.nd) (pss_one (ps_dput (hu_of hr) (pv 2) (pv 3) pe_bl rfl)))
   (pss_cons (pst 4 ZT.nd (pe_callTy (cr_listdict rfl) (by rfl) T.Z9u (by decide +kernel) (pa_cons (pv 2) pa_nil)))
   (pss_cons (ps_while PassesOwn.never (pt_truth (pv 4) (fun _=>rfl)) (pss_cons (pst 3 ZT.nd (pe_bm0 PySem.F.plainAttrs_list PySem.F.slot_list_pop PySem.F.type_list_pop mt_pop (pv 4)))
   (pss_one (ps_for PassesOwn.never rfl (pi_list (pe_dget2 (hu_of hr) (pv 1) (pv 3) (pe_lst pa_nil) ⟨rfl,rfl,rfl,rfl⟩)) (pn 5 ZT.nd) (pss_one (ps_if (pt_cmp (pc_dnotin (hu_of hr) (pv 5) (pv 2))) (pss_cons (ps_dput (hu_of hr) (pv 2) (pv 5) pe_bl rfl)
   (pss_one (ps_expr (pe_bm PySem.F.plainAttrs_list PySem.F.slot_list_append PySem.F.type_list_append mt_append (pv 4) (pa_cons (pv 5) pa_nil))))) pss_nil))))))
   (pss_one (ps_ret (pv 2))))))),?_⟩
 have hR':=hR
 obtain ⟨RA,hR1,hR2⟩:=hR'
 intro rd hrd
 refine ⟨_,rfl,p,rfl,⟨_,(same_new hrd).seq hl⟩,for_list (K:=K) (a:=p) (xs:=ivs l) (fun i σ H'=>∃ v,σ=[some (.ref p),some (.ref d),some (.ref rd),v,none,none]∧Same H H'∧SetAt H' rd (fun q=>q∈l.take i))
  ⟨none,rfl,same_new hrd,[],upd_same,DSet.nil.congr (by simp)⟩ (fun i σ H' _ ⟨_,_,s,_⟩=>s.seq hl) ?_ ?_⟩
 ·rintro i y σ H' hi ⟨v,rfl,s,kv,h1,h2⟩
  obtain ⟨x,hx,rfl⟩:=get_ivs hi
  have hlen:kv.length≤128:=h2.le (n:=128) fun q hq=>hb q (List.mem_of_mem_take hq)
  refine ⟨_,rfl,_,rfl,rd,_,rfl,DPut.k (k:=ky x) h1 (line_of_le (by omega)),_,rfl,same_upd s hrd,_,upd_same,(h2.put x).congr fun q=>?_⟩
  rw [take_snoc' hx,List.mem_append,List.mem_singleton]
 ·rintro σ H1 ⟨v,rfl,s1,kv,h1,h2⟩
  rw [ivs_len,List.take_length] at h2
  refine ⟨_,rfl,rd,kv,rfl,Rd.of h1,fun wl hwl=>?_⟩
  obtain ⟨w0,w1,w2,w3,rfl⟩:=h2.keys
  have hrw:rd≠wl:=ne_of_none h1 hwl
  have hHw:H wl=none:=s1.free hwl
  refine ⟨fun m σ H'=>∃ (v3 v5:Option V) (S:Nat→Prop) (kv:List (Key×V)) (w:List Nat),σ=[some (.ref p),some (.ref d),some (.ref rd),v3,some (.ref wl),v5]∧Same H H'∧H' rd=some (.dK kv)∧DSet kv S∧H' wl=some (.lst (ivs w))∧w.Nodup ∧
   (∀ q∈w,S q)∧(∀ q,S q→q∈w∨∀ t∈(R q).getD [],S t)∧(∀ x∈l,S x)∧(∀ q,S q→∃ x∈l,Rch (fun y=>(R y).getD []) x q)∧(∀ q,S q→q<128)∧m=2*(128 - kv.length)+w.length,
   ⟨_,v,none,_,_,w0,rfl,same_upd s1 hHw,by rw [upd_ne hrw];exact h1,h2,?_,w2,fun q hq=>(w3 q).mp hq,fun q hq=>.inl ((w3 q).mpr hq),fun x hx=>hx,fun q hq=>⟨q,hq,.refl q⟩,hb,rfl⟩,?_⟩
  ·rw [upd_same]
   simp [kset,kV]
  ·rintro m σ H' ⟨v3,v5,S,kv,w,rfl,s2,hrd2,hS,hw,wn,i1,i2,i3,i4,i5,hm⟩
   refine ⟨_,rfl,!(ivs w).isEmpty,.inl ⟨_,SqL.of hw,rfl⟩,?_⟩
   rcases List.eq_nil_or_concat w with hw0 | ⟨w0,q0,hw0⟩
   ·subst hw0
    refine iteF ?_
    refine ⟨_,rfl,k H' rd hrd s2 ⟨kv,hrd2,hS.congr fun q=>⟨i4 q,fun ⟨x,hx,r⟩=>r.in_ (X:=S) (fun q hq t ht=>?_) (i3 x hx)⟩⟩⟩
    rcases i2 q hq with z | z
    ·cases z
    ·exact z t ht
   ·rw [List.concat_eq_append] at hw0
    subst hw0
    rw [show (!(ivs (w0++[q0])).isEmpty)=true by simp]
    refine iteT ?_
    refine ⟨_,fun _ _ x=>x,?_⟩
    obtain ⟨wn0,_,wd⟩:=List.nodup_append.mp wn
    have hq0:q0∉w0:=fun h=>wd q0 h q0 (by simp) rfl
    refine ⟨_,rfl,.inl ⟨rfl,_,SqL.of hw⟩,wl,_,iv q0,rfl,rfl,hw,by simp,?_⟩
    have e1:(ivs (w0++[q0])).dropLast=ivs w0:=by simp
    rw [e1]
    have s3:Same H (upd H' wl (.lst (ivs w0))):=same_upd s2 hHw
    have hrw2:rd≠wl:=hrw
    refine ⟨_,rfl,d,rfl,.inl ⟨_,Rd.of (s3 _ _ hd)⟩,_,rfl,Nat.zero_le _,fun z hz=>⟨_,.inl ⟨kvs,ky q0,.inl ?_,rfl,rfl⟩,?_⟩⟩
    ·exact same_upd s3 (s3.free hz) _ _ hd
    ·rw [hR1.get]
     have hzw:z≠wl:=fun e=>by rw [e,upd_same] at hz;cases hz
     have hzr:z≠rd:=fun e=>by rw [e,upd_ne hrw,hrd2] at hz;cases hz
     have hzH:H z=none:=s3.free hz
     obtain ⟨rp,r,hrow,er,hrl,hrb⟩:∃ (rp:Addr) (r:List Nat),((Option.map (fun x=>V.ref (RA q0)) (R q0)).getD (V.ref z))=V.ref rp∧(R q0).getD []=r∧(∀ H2:Hp,Same H H2→H2 z=some (.lst [])→H2 rp=some (.lst (ivs r)))∧∀ x∈r,x<128:=by
      cases e:R q0 with
      | none=>exact ⟨z,[],rfl,rfl,fun H2 _ h=>h,by simp⟩
      | some r=>exact ⟨RA q0,r,rfl,rfl,fun H2 s _=>s _ _ (hR2 q0 r e),hRb q0 r e⟩
     rw [hrow]
     have s4:Same H (upd (upd H' wl (.lst (ivs w0))) z (.lst [])):=same_upd s3 hzH
     refine ⟨rp,rfl,⟨_,SqL.of (hrl _ s4 upd_same)⟩,for_list (K:=K) (a:=rp) (xs:=ivs r) (fun j σ H2=>∃ (v5:Option V) (S2:Nat→Prop) (kv2:List (Key×V)) (w2:List Nat),σ=[some (.ref p),some (.ref d),some (.ref rd),some (iv q0),some (.ref wl),v5]∧Same H H2∧H2 z=some (.lst [])∧H2 rd=some (.dK kv2)∧DSet kv2 S2∧H2 wl=some (.lst (ivs w2))∧w2.Nodup ∧
      (∀ q∈w2,S2 q)∧(∀ q,S2 q→q=q0∨q∈w2∨∀ t∈(R q).getD [],S2 t)∧(∀ q,S q→S2 q)∧(∀ t∈r.take j,S2 t)∧(∀ q,S2 q→∃ x∈l,Rch (fun y=>(R y).getD []) x q)∧(∀ q,S2 q→q<128)∧2*(128 - kv2.length)+w2.length<m)
      ⟨v5,S,kv,w0,rfl,s4,upd_same,by rw [upd_ne hzr.symm,upd_ne hrw];exact hrd2,hS,by rw [upd_ne hzw.symm,upd_same],wn0,fun q hq=>i1 q (by simp [hq]),fun q hq=>?_,fun q hq=>hq,by simp,i4,i5,?_⟩ (fun j σ H2 _ h=>?_) ?_ ?_⟩
     ·rcases i2 q hq with h | h
      ·rcases List.mem_append.mp h with h | h
       ·exact .inr (.inl h)
       ·exact .inl (by simpa using h)
      ·exact .inr (.inr h)
     ·rw [hm];simp
     ·obtain ⟨_,_,_,_,_,s5,hz5,_⟩:=h
      exact SqL.of (hrl _ s5 hz5)
     ·rintro j y σ H2 hj ⟨v5,S2,kv2,w2,rfl,s5,hz5,hrd5,hS5,hw5,wn5,j1,j2,j3,j4,j5,j6,hm5⟩
      obtain ⟨t,ht,rfl⟩:=get_ivs hj
      have htr:t∈(R q0).getD []:=by rw [er];exact List.mem_of_getElem? ht
      have hr0:∃ x∈l,Rch (fun y=>(R y).getD []) x t:=by
       obtain ⟨x,hx,g⟩:=i4 q0 (i1 q0 (by simp))
       exact ⟨x,hx,.step g htr⟩
      refine ⟨_,rfl,_,rfl,rd,_,rfl,.inl ⟨kv2,ky t,.inl hrd5,rfl,rfl⟩,_,rfl,?_⟩
      by_cases hst:S2 t
      ·rw [hS5.get hst]
       refine iteF ?_
       refine ⟨_,S2,kv2,w2,rfl,s5,hz5,hrd5,hS5,hw5,wn5,j1,j2,j3,fun x hx=>?_,j5,j6,hm5⟩
       rw [take_snoc' ht] at hx
       rcases List.mem_append.mp hx with h | h
       ·exact j4 x h
       ·rw [List.mem_singleton.mp h];exact hst
      ·rw [hS5.not (z:=(t:Int)) fun p' e s=>hst ((show p'=t by omega)▸s)]
       refine iteT ?_
       have hkl:kv2.length≤128:=hS5.le (n:=128) j6
       have hput:=hS5.put t
       have hlen2:(putK kv2 (ky t) (V.bl true)).length=kv2.length+1:=by
        rw [putK_new _ (hS5.not (z:=(t:Int)) fun p' e s=>hst ((show p'=t by omega)▸s))]
        simp
       have hkl2:kv2.length+1≤128:=by
        rw [← hlen2]
        exact hput.le (n:=128) fun q hq=>hq.elim (j6 q) fun e=>by rw [e];exact hrb t (List.mem_of_getElem? ht)
       have hwl5:w2.length≤128:=nodup_le wn5 fun x hx=>j6 x (j1 x hx)
       refine ⟨_,rfl,_,rfl,rd,_,rfl,DPut.k (k:=ky t) hrd5 (line_of_le (by omega)),?_⟩
       refine ⟨_,rfl,.inl ⟨rfl,_,SqL.of (xs:=ivs w2) (by rw [upd_ne hrw.symm];exact hw5)⟩,_,rfl,wl,ivs w2,iv t,rfl,rfl,by rw [upd_ne hrw.symm];exact hw5,by rw [ivs_len];exact line_of_le (by omega),?_⟩
       have htw:t∉w2:=fun h=>hst (j1 t h)
       refine ⟨_,fun q=>S2 q∨q=t,_,w2++[t],rfl,same_upd (same_upd s5 hrd) hHw,by rw [upd_ne hzw,upd_ne hzr];exact hz5,by rw [upd_ne hrw,upd_same],hput,by rw [upd_same];simp,?_,?_,?_,fun q hq=>.inl (j3 q hq),?_,?_,?_,?_⟩
       ·refine List.nodup_append.mpr ⟨wn5,by simp,fun x hx y hy=>?_⟩
        rw [List.mem_singleton.mp hy]
        exact fun e=>htw (e▸hx)
       ·intro q hq
        rcases List.mem_append.mp hq with h | h
        ·exact .inl (j1 q h)
        ·exact .inr (List.mem_singleton.mp h)
       ·rintro q (hq | hq)
        ·rcases j2 q hq with h | h | h
         ·exact .inl h
         ·exact .inr (.inl (List.mem_append_left _ h))
         ·exact .inr (.inr fun t' ht'=>.inl (h t' ht'))
        ·exact .inr (.inl (by rw [hq];simp))
       ·intro x hx
        rw [take_snoc' ht] at hx
        rcases List.mem_append.mp hx with h | h
        ·exact .inl (j4 x h)
        ·exact .inr (List.mem_singleton.mp h)
       ·rintro q (hq | hq)
        ·exact j5 q hq
        ·rw [hq];exact hr0
       ·rintro q (hq | hq)
        ·exact j6 q hq
        ·rw [hq];exact hrb t (List.mem_of_getElem? ht)
       ·rw [hlen2];simp;omega
     ·rintro σ H2 ⟨v5,S2,kv2,w2,rfl,s5,hz5,hrd5,hS5,hw5,wn5,j1,j2,j3,j4,j5,j6,hm5⟩
      rw [ivs_len,List.take_length] at j4
      refine ⟨_,hm5,_,v5,S2,kv2,w2,rfl,s5,hrd5,hS5,hw5,wn5,j1,fun q hq=>?_,fun x hx=>j3 x (i3 x hx),j5,j6,rfl⟩
      rcases j2 q hq with h | h | h
      ·rw [h,er];exact .inr j4
      ·exact .inl h
      ·exact .inr h
end
end Go
end
section
set_option maxHeartbeats 2000000
namespace Go
open PySem PySem.Spec PyProof.Rows L2 LX VL
section
variable {P:Program}{w:World}{K:PySem.W.Frag}{mg:Str→Option Value}{base:Heap}{a:Ad}
def spTurned:Sp:=fun vs H Q _=>∃ (d:Addr) (kvs:List (Key×V)) (R:Nat→Option (List Nat)),vs=[.ref d]∧H d=some (.dK kvs)∧RowsD H kvs R∧(∀ q r,R q=some r→q<128∧r.length≤128∧∀ x∈r,x<128) ∧
 ∀ (H':Hp) (e:Addr) (kvs':List (Key×V)) (R':Nat→Option (List Nat)),H e=none→Same H H'→H' e=some (.dK kvs')→RowsD H' kvs' R'→(∀ q r,R' q=some r→∀ x∈r,x<128)→(∀ q x,x∈(R' q).getD []↔q∈(R x).getD [])→Q (.ref e) H'
structure Gat (H H':Hp) (kv:List (Key×V)) (D:Nat→Nat→Prop) (n:Nat):Prop where
 ex:∃ (A:Nat→Addr) (R:Nat→Option (List Nat)),DM kv (fun q=>(R q).map fun _=>V.ref (A q))∧(∀ q r,R q=some r→H' (A q)=some (.lst (ivs r))∧H (A q)=none∧q<128∧r.length≤n) ∧
  (∀ q q' r r',R q=some r→R q'=some r'→A q=A q'→q=q')∧∀ q x,x∈(R q).getD []↔D q x
theorem Z8d (T:Txt K mg a):Pr P w K mg base 1 a.Z3D ["references"] (spTurned):=by
 refine pr_of' T.Z8I Z1T fun cdv A outer s H vs Q E hr h=>?_
 obtain ⟨d,kvs,R,rfl,hd,hR,hb,k⟩:=h
 refine ⟨_,(pss_cons (pst 1 Z1T.nd pe_dnewK)
   (pss_cons (ps_lock (ps_for PassesOwn.never rfl (pi_keys (pv 0)) (pn 2 Z1T.nd) (pss_one (ps_for PassesOwn.never rfl (pi_list (pe_dget (hu_of hr) (pv 0) (pv 2) (fun _ _=>rfl))) (pn 3 Z1T.nd) (pss_one (ps_expr (pe_bm PySem.F.plainAttrs_list PySem.F.slot_list_append PySem.F.type_list_append mt_append (pe_bm PySem.F.plainAttrs_dict PySem.F.slot_dict_setdefault PySem.F.type_dict_setdefault mt_setdefault (pv 1) (pa_cons (pv 3) (pa_cons (pe_lst pa_nil) pa_nil))) (pa_cons (pv 2) pa_nil))))))))
   (pss_one (ps_ret (pv 1))))),?_⟩
 obtain ⟨RA,hR1,hR2⟩:=id hR
 obtain ⟨ks,k1,k2,k3,hkv⟩:=hR1.keys
 have hks:∀ q∈ks,∃ r,R q=some r:=fun q hq=>by
  have:=(k3 q).mp hq
  cases e:R q with
  | none=>rw [e] at this;cases this
  | some r=>exact ⟨r,rfl⟩
 have hks2:∀ q r,R q=some r→q∈ks:=fun q r e=>(k3 q).mpr (by rw [e];rfl)
 have hlen:ks.length≤128:=nodup_le k2 fun q hq=>by
  obtain ⟨r,e⟩:=hks q hq
  exact (hb q r e).1
 have hkl:kvs.length=ks.length:=by
  have:=congrArg List.length k1
  simpa using this
 have at_:∀ (i:Nat) (k:Key) (v:V),kvs[i]?=some (k,v)→∃ q,ks[i]?=some q∧k=ky q:=fun i k v e=>by
  have e1:(kvs.map (·.1))[i]?=some k:=by rw [List.getElem?_map,e];rfl
  rw [k1,List.getElem?_map] at e1
  cases e2:ks[i]? with
  | none=>rw [e2] at e1;cases e1
  | some q=>rw [e2] at e1;exact ⟨q,rfl,(Option.some.inj e1).symm⟩
 intro rd hrd
 have hdr:d≠rd:=ne_of_none hd hrd
 refine ⟨d,.dK kvs,(same_new hrd) _ _ hd,trivial,fun od=>?_⟩
 have hs0:Same H (upd H rd (.dK [])):=same_new hrd
 have hd0:(upd H rd (.dK [])) d=some (.dK kvs):=hs0 _ _ hd
 refine ⟨_,rfl,d,od,rfl,.inl ⟨kvs,upd_same,for_keys (d:=d) (od:=od) (kvs:=kvs) (fun i σ H'=>∃ v2 v3,σ=[some (.ref d),some (.ref rd),v2,v3]∧Same (upd H d (.frz od (.dK kvs))) H'∧∃ kv,H' rd=some (.dK kv)∧Gat H H' kv (fun q x=>x∈ks.take i∧q∈(R x).getD []) (i*128))
  ⟨none,none,rfl,fun b o e=>?_,[],by rw [upd_ne hdr.symm,upd_same],⟨fun _=>0,fun _=>none,DM.nil,by simp,by simp,by simp⟩⟩ (fun i σ H' ⟨_,_,_,s,_⟩=>lock_d s) ?_ ?_⟩⟩
 ·by_cases q:b=d
  ·subst q;rw [upd_same] at e ⊢;exact e
  ·rw [upd_ne q] at e ⊢;exact hs0 b o e
 ·rintro i kk v σ H1 hi ⟨v2,v3,rfl,s1,kv,h1,hg⟩
  obtain ⟨x,hx,rfl⟩:=at_ i kk v hi
  obtain ⟨r,hr0⟩:=hks x (List.mem_of_getElem? hx)
  have hrow:∀ H2:Hp,Same (upd H d (.frz od (.dK kvs))) H2→H2 (RA x)=some (.lst (ivs r)):=fun H2 s=>lock_lst s hd (hR2 x r hr0)
  have hxR:x∉ks.take i:=fun h=>by
   obtain ⟨j,hj,e⟩:=List.mem_take_iff_getElem.mp h
   have:=nd_ix k2 hx (j:=j) (by rw [← e];exact List.getElem?_eq_getElem (by omega))
   omega
  have hil:i<ks.length:=(List.getElem?_eq_some_iff.mp hx).1
  refine ⟨_,rfl,_,rfl,d,V.ref (RA x),rfl,.inl ⟨kvs,ky x,.inr ⟨od,lock_d s1⟩,rfl,by rw [hR1.get,hr0];rfl⟩,RA x,rfl,⟨_,SqL.of (hrow H1 s1)⟩,for_list (K:=K) (a:=RA x) (xs:=ivs r)
   (fun j σ H'=>∃ v3,σ=[some (.ref d),some (.ref rd),some (iv x),v3]∧Same (upd H d (.frz od (.dK kvs))) H'∧∃ kv,H' rd=some (.dK kv)∧Gat H H' kv (fun q y=>(y∈ks.take i∧q∈(R y).getD [])∨(y=x∧q∈r.take j)) (i*128+j))
   ⟨v3,rfl,s1,kv,h1,?_⟩ (fun j σ H' _ ⟨_,_,s,_⟩=>SqL.of (hrow H' s)) ?_ ?_⟩
  ·obtain ⟨A,R2,g1,g2,g3,g4⟩:=hg
   exact ⟨A,R2,g1,g2,g3,fun q y=>by rw [g4];simp⟩
  ·rintro j y σ H2 hj ⟨v3,rfl,s2,kv2,h2,hg2⟩
   obtain ⟨t,ht,rfl⟩:=get_ivs hj
   obtain ⟨A,R2,g1,g2,g3,g4⟩:=hg2
   have htb:t<128:=(hb x r hr0).2.2 t (List.mem_of_getElem? ht)
   have hjl:j<r.length:=(List.getElem?_eq_some_iff.mp ht).1
   have hrl:=(hb x r hr0).2.1
   have hH2:∀ z,H2 z=none→H z=none∧z≠d∧z≠rd:=fun z hz=>by
    have n1:z≠d:=fun e=>by rw [e,lock_d s2] at hz;cases hz
    refine ⟨?_,n1,fun e=>by rw [e,h2] at hz;cases hz⟩
    cases e:H z with
    | none=>rfl
    | some o=>rw [lock_at s2 e n1] at hz;cases hz
   have hkv2:kv2.length≤128:=g1.le fun q hq=>by
    cases e:R2 q with
    | none=>rw [e] at hq;cases hq
    | some r'=>exact (g2 q r' e).2.2.1
   refine ⟨_,rfl,.inr (.inr (.inl ⟨rfl,.inl ⟨_,h2⟩⟩)),_,rfl,Nat.zero_le _,fun z hz=>⟨rd,kv2,ky t,.ref z,rfl,rfl,?_,line_of_le (by omega),fun v hv=>?_,fun hv=>?_⟩⟩
   ·rw [upd_ne (hH2 z hz).2.2.symm];exact h2
   ·
    rw [g1.get] at hv
    cases e:R2 t with
    | none=>rw [e] at hv;cases hv
    | some rt =>
     rw [e] at hv
     obtain rfl:V.ref (A t)=v:=Option.some.inj hv
     obtain ⟨a1,a2,a3,a4⟩:=g2 t rt e
     have hzA:A t≠z:=fun q=>by rw [← q,a1] at hz;cases hz
     have hAd:A t≠d:=fun q=>by rw [q,hd] at a2;cases a2
     have hAr:A t≠rd:=ne_of a1 h2 (by intro z;cases z)
     have e1:(upd H2 z (.lst [])) (A t)=some (.lst (ivs rt)):=by rw [upd_ne hzA];exact a1
     refine ⟨.inl ⟨rfl,_,SqL.of e1⟩,_,rfl,A t,ivs rt,iv x,rfl,rfl,e1,by rw [ivs_len];exact line_of_le (by omega),_,rfl,fun b o q=>?_,kv2,?_,⟨A,fun q=>if q=t then some (rt++[x]) else R2 q,?_,?_,?_,?_⟩⟩
     ·have n1:b≠A t:=fun q2=>by
       rw [q2,upd_ne hAd,a2] at q;cases q
      have n2:b≠z:=fun q2=>by
       rw [q2,upd_ne (hH2 z hz).2.1,(hH2 z hz).1] at q;cases q
      rw [upd_ne n1,upd_ne n2];exact s2 b o q
     ·rw [upd_ne hAr.symm,upd_ne (hH2 z hz).2.2.symm];exact h2
     ·exact g1.congr fun q=>by
       by_cases eq:q=t
       ·subst eq;simp [e]
       ·simp [eq]
     ·intro q r' hq
      (try dsimp only at hq);(try dsimp only)
      by_cases eq:q=t
      ·subst eq
       rw [if_pos rfl] at hq
       obtain rfl:=Option.some.inj hq
       exact ⟨by rw [upd_same];simp,a2,a3,by rw [List.length_append];simp;omega⟩
      ·rw [if_neg eq] at hq
       obtain ⟨b1,b2,b3,b4⟩:=g2 q r' hq
       have n1:A q≠A t:=fun q2=>eq (g3 q t r' rt hq e q2)
       have n2:A q≠z:=fun q2=>by rw [← q2,b1] at hz;cases hz
       exact ⟨by rw [upd_ne n1,upd_ne n2];exact b1,b2,b3,by omega⟩
     ·intro q q' r1 r2 h1' h2' hA
      (try dsimp only at h1');(try dsimp only at h2');(try dsimp only at hA)
      have lift:∀ q r1,(if q=t then some (rt++[x]) else R2 q)=some r1→∃ r,R2 q=some r:=fun q r1 h=>by
       by_cases eq:q=t
       ·subst eq;exact ⟨_,e⟩
       ·rw [if_neg eq] at h;exact ⟨_,h⟩
      obtain ⟨_,u1⟩:=lift q r1 h1'
      obtain ⟨_,u2⟩:=lift q' r2 h2'
      exact g3 q q' _ _ u1 u2 hA
     ·intro q y
      (try dsimp only)
      by_cases eq:q=t
      ·subst eq
       have:=g4 q y
       rw [e] at this
       simp only [if_true,Option.getD_some,List.mem_append,List.mem_singleton] at this ⊢
       rw [this,take_snoc' ht,List.mem_append,List.mem_singleton]
       constructor
       ·rintro ((h | h) | h)
        ·exact .inl h
        ·exact .inr ⟨h.1,.inl h.2⟩
        ·exact .inr ⟨h,.inr rfl⟩
       ·rintro (h | ⟨h1,h2 | h2⟩)
        ·exact .inl (.inl h)
        ·exact .inl (.inr ⟨h1,h2⟩)
        ·exact .inr h1
      ·rw [if_neg eq,g4,take_snoc' ht,List.mem_append,List.mem_singleton]
       simp [eq]
   ·
    rw [g1.get] at hv
    have e:R2 t=none:=by
     cases e:R2 t with
     | none=>rfl
     | some r=>rw [e] at hv;cases hv
    have hrz:rd≠z:=(hH2 z hz).2.2.symm
    have e1:(upd (upd H2 z (.lst [])) rd (.dK (putK kv2 (ky t) (.ref z)))) z=some (.lst (ivs [])):=by rw [upd_ne hrz.symm,upd_same];rfl
    refine ⟨.inl ⟨rfl,_,SqL.of e1⟩,_,rfl,z,ivs [],iv x,rfl,rfl,e1,line_of_le (by simp),_,rfl,fun b o q=>?_,_,by rw [upd_ne hrz,upd_same],⟨fun q=>if q=t then z else A q,fun q=>if q=t then some [x] else R2 q,?_,?_,?_,?_⟩⟩
    ·have n1:b≠z:=fun q2=>by
      rw [q2,upd_ne (hH2 z hz).2.1,(hH2 z hz).1] at q;cases q
     have n2:b≠rd:=fun q2=>by
      rw [q2,upd_ne hdr.symm,hrd] at q;cases q
     rw [upd_ne n1,upd_ne n2,upd_ne n1];exact s2 b o q
    ·exact (g1.put t (.ref z)).congr fun q=>by
      by_cases eq:q=t
      ·subst eq;simp
      ·simp [eq]
    ·intro q r' hq
     (try dsimp only at hq);(try dsimp only)
     by_cases eq:q=t
     ·subst eq
      rw [if_pos rfl] at hq
      obtain rfl:=Option.some.inj hq
      refine ⟨by rw [if_pos rfl,upd_same];rfl,by rw [if_pos rfl];exact (hH2 z hz).1,htb,by simp;omega⟩
     ·rw [if_neg eq] at hq ⊢
      obtain ⟨b1,b2,b3,b4⟩:=g2 q r' hq
      have n2:A q≠z:=fun q2=>by rw [← q2,b1] at hz;cases hz
      have n3:A q≠rd:=ne_of b1 h2 (by intro z;cases z)
      exact ⟨by rw [upd_ne n2,upd_ne n3,upd_ne n2];exact b1,b2,b3,by omega⟩
    ·intro q q' r1 r2 h1' h2' hA
     (try dsimp only at h1');(try dsimp only at h2');(try dsimp only at hA)
     by_cases eq:q=t
     ·by_cases eq':q'=t
      ·rw [eq,eq']
      ·rw [if_pos eq,if_neg eq'] at hA
       rw [if_neg eq'] at h2'
       rw [hA,(g2 q' r2 h2').1] at hz;cases hz
     ·by_cases eq':q'=t
      ·rw [if_neg eq,if_pos eq'] at hA
       rw [if_neg eq] at h1'
       rw [← hA,(g2 q r1 h1').1] at hz;cases hz
      ·rw [if_neg eq,if_neg eq'] at hA
       rw [if_neg eq] at h1'
       rw [if_neg eq'] at h2'
       exact g3 q q' r1 r2 h1' h2' hA
    ·intro q y
     (try dsimp only)
     by_cases eq:q=t
     ·subst eq
      have:=g4 q y
      rw [e] at this
      simp only [Option.getD_none,List.not_mem_nil,false_iff] at this
      rw [if_pos rfl,take_snoc' ht]
      simp only [Option.getD_some,List.mem_singleton,List.mem_append]
      constructor
      ·intro h;exact .inr ⟨h,.inr trivial⟩
      ·rintro (h | ⟨h1,_⟩)
       ·exact absurd (.inl h) this
       ·exact h1
     ·rw [if_neg eq,g4,take_snoc' ht,List.mem_append,List.mem_singleton]
      simp [eq]
  ·rintro σ H2 ⟨v3,rfl,s2,kv2,h2,A,R2,g1,g2,g3,g4⟩
   rw [ivs_len,List.take_length] at g4
   refine ⟨_,_,rfl,s2,kv2,h2,⟨A,R2,g1,fun q r' e=>?_,g3,fun q y=>?_⟩⟩
   ·obtain ⟨b1,b2,b3,b4⟩:=g2 q r' e
    refine ⟨b1,b2,b3,?_⟩
    rw [ivs_len] at b4
    have:=(hb x r hr0).2.1
    omega
   ·rw [g4,take_snoc' hx,List.mem_append,List.mem_singleton]
    constructor
    ·rintro (⟨h1,h2⟩ | ⟨rfl,h2⟩)
     ·exact ⟨.inl h1,h2⟩
     ·exact ⟨.inr rfl,by rw [hr0];exact h2⟩
    ·rintro ⟨h1 | rfl,h2⟩
     ·exact .inl ⟨h1,h2⟩
     ·exact .inr ⟨rfl,by rw [hr0] at h2;exact h2⟩
 ·rintro σ H1 ⟨v2,v3,rfl,s1,kv,h1,A,R2,g1,g2,g3,g4⟩
  rw [hkl,List.take_length] at g4
  refine ⟨lock_d s1,_,rfl,?_⟩
  have hu:∀ b,(H b=none)→b≠d:=fun b e q=>by rw [q,hd] at e;cases e
  refine k _ rd kv R2 hrd (same_unlock s1 hd) (by rw [upd_ne hdr.symm];exact h1) ⟨A,g1,fun q r e=>?_⟩ (fun q r e x hx=>?_) (fun q x=>?_)
  ·obtain ⟨b1,b2,_⟩:=g2 q r e
   rw [upd_ne (hu _ b2)];exact b1
  ·have:=(g4 q x).mp (by rw [e];exact hx)
   obtain ⟨r',e'⟩:=hks x this.1
   exact (hb x r' e').1
  ·rw [g4]
   constructor
   ·exact fun h=>h.2
   ·intro h
    refine ⟨?_,h⟩
    cases e:R x with
    | none=>rw [e] at h;cases h
    | some r=>exact hks2 x r e
end
end Go
end
section
set_option maxHeartbeats 2000000
namespace Go
open PySem PySem.Spec PyProof.Rows L2 LX VL
theorem sorted_places {ns:List Int}{l g:List Nat} (p:ns.Perm (l.map fun x:Nat=>(x:Int))) (q:ns.Pairwise (·≤·)) (hn:l.Nodup) (hg:Asc g) (e:∀ x,x∈l↔x∈g):ns.map V.int=ivs g:=by
 have pl:l.Perm g:=(List.perm_ext_iff_of_nodup hn hg.nodup).mpr e
 have p2:ns.Perm (g.map fun x:Nat=>(x:Int)):=p.trans (pl.map _)
 have hs:(g.map fun x:Nat=>(x:Int)).Pairwise (·≤·):=by
  rw [List.pairwise_map]
  exact hg.imp fun h=>by omega
 have:ns=g.map fun x:Nat=>(x:Int):=List.Perm.eq_of_pairwise (le:=(·≤·)) (fun a b _ _ h1 h2=>Int.le_antisymm h1 h2) q hs p2
 rw [this,List.map_map];rfl
section
variable {P:Program}{w:World}{K:PySem.W.Frag}{mg:Str→Option Value}{base:Heap}{a:Ad}
def KnotG (g:List Nat) (nx:Nat→List Nat) (p:Nat) (m:List Nat):Prop:=Asc m∧∀ q,q∈m↔q∈g∧Rch nx p q∧Rch nx q p
def spKnots:Sp:=fun vs H Q _=>∃ (d:Addr) (kvs:List (Key×V)) (R:Nat→Option (List Nat)) (g:List Nat),vs=[.ref d]∧H d=some (.dK kvs)∧RowsD H kvs R∧Asc g∧(∀ q,q∈g↔(R q).isSome=true)∧(∀ q∈g,q<128)∧(∀ q r,R q=some r→∀ x∈r,x<128) ∧
 ∀ (H':Hp) (e:Addr) (ks:List (Nat×Addr)),Same H H'→H' e=some (.lst (ks.map fun x=>V.ref x.2))→ks.length≤128→(∀ x∈ks,x.1∈g∧∃ m r,KnotG g (fun y=>(R y).getD []) x.1 m∧m=x.1::r∧H' x.2=some (.lst (ivs m))) →
  (∀ p∈g,∃ x∈ks,Rch (fun y=>(R y).getD []) p x.1∧Rch (fun y=>(R y).getD []) x.1 p)→Q (.ref e) H'
open Classical in
theorem filter_knot {g:List Nat} (hg:Asc g) (nx:Nat→List Nat) (p:Nat):KnotG g nx p (g.filter fun q=>decide (Rch nx p q∧Rch nx q p)):=⟨hg.filter _,fun q=>by simp [List.mem_filter]⟩
open Classical in
theorem Z8y (T:Txt K mg a):Pr P w K mg base 2 a.Z45 ["references"] (spKnots):=by
 refine pr_of' T.Z8W ZF fun cdv A outer s H vs Q E hr h=>?_
 obtain ⟨d,kvs,R,g,rfl,hd,hR,hg,hgR,hgb,hRb,k⟩:=h
 refine ⟨_,(pss_cons (pst 1 ZF.nd (pe_callB (cr_sortdict rfl) (by rfl) T.Z28 (by decide +kernel) (pa_cons (pv 0) pa_nil)))
   (pss_cons (pst 2 ZF.nd pe_dnewK)
   (pss_cons (ps_for PassesOwn.never rfl (pi_list (pv 1)) (pn 3 ZF.nd) (pss_one (ps_dput (hu_of hr) (pv 2) (pv 3) (pc_f (Z39 T) (hr.mono (by decide)) T.Z3y (pa_cons (pe_lst (pa_cons (pv 3) pa_nil)) (pa_cons (pv 0) pa_nil))) rfl)))
   (pss_cons (pst 4 ZF.nd (pe_lst pa_nil))
   (pss_cons (ps_for PassesOwn.never rfl (pi_list (pv 1)) (pn 3 ZF.nd) (pss_cons (ps_setLc (i:=5) (own:=[("other",6)]) rfl ZF.nd rfl rfl (by rfl) (pi_list (pv 1)) (blkOk_by rfl) (fun _ _ _ _ _=>pn 6 ZF.nd) (fun _ _ _ _ _=>(pts_one ((pw_and (pt_cmp (pc_din (hu_of hr) (pv 6) (pe_dget (hu_of hr) (pv 2) (pv 3) (fun _ _=>rfl)))) (pw_and1 (pt_cmp (pc_din (hu_of hr) (pv 3) (pe_dget (hu_of hr) (pv 2) (pv 6) (fun _ _=>rfl)))))).pt))) (fun _ _ _ _ _=>(pv 6)))
   (pss_one (ps_if (pt_cmpR op_eq (pe_ix ix_list (pv 5) pe_int (fun _ _=>rfl)) (pv 3) (nomark _)) (pss_one (ps_expr (pe_bm PySem.F.plainAttrs_list PySem.F.slot_list_append PySem.F.type_list_append mt_append (pv 4) (pa_cons (pv 5) pa_nil)))) pss_nil))))
   (pss_one (ps_ret (pv 4)))))))),?_⟩
 obtain ⟨RA,hR1,hR2⟩:=id hR
 obtain ⟨ks,k1,k2,k3,hkv⟩:=hR1.keys
 have hks:∀ q,q∈ks↔q∈g:=fun q=>by
  rw [k3,hgR]
  cases R q <;> simp
 have hgl:g.length≤128:=asc_len_le hg hgb
 refine ⟨_,rfl,d,kvs,ks.map (fun x:Nat=>(x:Int)),rfl,Rd.of hd,?_,fun ns' lp pp ps hlp=>?_⟩
 ·rw [k1,List.map_map];rfl
 rw [sorted_places pp ps k2 hg hks]
 have s1:Same H (upd H lp (.lst (ivs g))):=same_new hlp
 intro rd hrd
 have hHrd:H rd=none:=s1.free hrd
 have hlr:lp≠rd:=fun e=>by rw [← e,upd_same] at hrd;cases hrd
 refine ⟨_,rfl,lp,rfl,⟨_,SqL.of (xs:=ivs g) (by rw [upd_ne hlr,upd_same])⟩,for_list (K:=K) (a:=lp) (xs:=ivs g) (fun i σ H'=>∃ v3,σ=[some (.ref d),some (.ref lp),some (.ref rd),v3,none,none,none]∧Same H H'∧H' lp=some (.lst (ivs g)) ∧
   ∃ (kv:List (Key×V)) (A:Nat→Addr),H' rd=some (.dK kv)∧DM kv (fun q=>if q∈g.take i then some (.ref (A q)) else none)∧∀ q∈g.take i,SetAt H' (A q) (fun t=>Rch (fun y=>(R y).getD []) q t))
  ⟨none,rfl,same_upd s1 hHrd,by rw [upd_ne hlr,upd_same],[],fun _=>0,upd_same,DM.nil.congr (by simp),by simp⟩ (fun i σ H' _ ⟨_,_,_,h,_⟩=>SqL.of h) ?_ ?_⟩
 ·rintro i y σ H1 hi ⟨v3,rfl,s2,hl1,kv,A,hr1,hm,hset⟩
  obtain ⟨p,hp,rfl⟩:=get_ivs hi
  have hpg:=List.mem_of_getElem? hp
  refine ⟨_,rfl,by show 1≤sizeLine;decide,fun l1 hl1n=>⟨_,rfl,l1,d,[p],kvs,R,rfl,SqL.of (by rw [upd_same];rfl),by simpa using hgb p hpg,?_,?_,hRb,fun H2 e he s3 hset2=>?_⟩⟩
  ·exact same_upd s2 (s2.free hl1n) _ _ hd
  ·exact RowsD.fx (S:=[]) hR (Same.fx (same_upd s2 (s2.free hl1n)))
  have s4:Same H1 H2:=(same_new hl1n).trans s3
  have hkl:kv.length≤128:=hm.le fun q hq=>by
   split at hq
   ·rename_i h;exact hgb q (List.mem_of_mem_take h)
   ·cases hq
  refine ⟨_,rfl,_,rfl,rd,_,rfl,DPut.k (k:=ky p) (s4 _ _ hr1) (line_of_le (by omega)),_,rfl,same_upd (s2.trans s4) hHrd,by rw [upd_ne hlr];exact s4 _ _ hl1,_,fun q=>if q=p then e else A q,upd_same,(hm.put p (.ref e)).congr fun q=>?_,fun q hq=>?_⟩
  ·rw [take_snoc' hp]
   by_cases eq:q=p
   ·simp [eq]
   ·simp [eq]
  ·(try dsimp only)
   have her:e≠rd:=fun q2=>by
    rw [q2] at he
    rw [upd_ne (fun q3=>by rw [← q3,hr1] at hl1n;cases hl1n),hr1] at he;cases he
   by_cases eq:q=p
   ·subst eq
    rw [if_pos rfl]
    obtain ⟨kv3,h31,h32⟩:=hset2
    exact ⟨kv3,by rw [upd_ne her];exact h31,h32.congr fun t=>by simp⟩
   ·rw [if_neg eq]
    rw [take_snoc' hp,List.mem_append,List.mem_singleton] at hq
    obtain ⟨kv3,h31,h32⟩:=hset q (hq.resolve_right eq)
    refine ⟨kv3,?_,h32⟩
    by_cases eA:A q=rd
    ·exfalso
     have h33:=h31
     rw [eA,hr1] at h33
     have e33:kv=kv3:=by cases h33;rfl
     have hq':=hq.resolve_right eq
     have g1:=hm.get q
     rw [if_pos hq',e33,h32.get (Rch.refl q)] at g1
     cases g1
    ·rw [upd_ne eA];exact s4 _ _ h31
 ·rintro σ H1 ⟨v3,rfl,s2,hl1,kv,A,hr1,hm,hset⟩
  rw [ivs_len,List.take_length] at hm hset
  refine ⟨Nat.zero_le _,fun kl hkl=>?_⟩
  have hHkl:H kl=none:=s2.free hkl
  have s3:Same H1 (upd H1 kl (.lst [])):=same_new hkl
  refine ⟨_,rfl,lp,rfl,⟨_,SqL.of (s3 _ _ hl1)⟩,for_list (K:=K) (a:=lp) (xs:=ivs g) (fun i σ H'=>∃ v3 v5 v6,σ=[some (.ref d),some (.ref lp),some (.ref rd),v3,some (.ref kl),v5,v6]∧Same H1 H' ∧
    ∃ ks:List (Nat×Addr),H' kl=some (.lst (ks.map fun x=>V.ref x.2))∧ks.length≤i∧(∀ x∈ks,x.1∈g∧∃ m r,KnotG g (fun y=>(R y).getD []) x.1 m∧m=x.1::r∧H' x.2=some (.lst (ivs m))∧x.2≠kl) ∧
     (∀ p∈g.take i,∃ p0∈g,Rch (fun y=>(R y).getD []) p p0∧Rch (fun y=>(R y).getD []) p0 p∧p0≤p∧(p0=p→∃ x∈ks,x.1=p)))
   ⟨v3,none,none,rfl,s3,[],by rw [upd_same];rfl,Nat.zero_le _,by simp,by simp⟩ (fun i σ H' _ ⟨_,_,_,_,s,_⟩=>SqL.of (s _ _ hl1)) ?_ ?_⟩
  ·rintro i y σ H2 hi ⟨v3,v5,v6,rfl,s4,kts,hk1,hk2,hk3,hk4⟩
   obtain ⟨p,hp,rfl⟩:=get_ivs hi
   have hpg:=List.mem_of_getElem? hp
   refine ⟨_,rfl,lp,rfl,⟨_,SqL.of (s4 _ _ hl1)⟩,fun D hD=>lc_filter (K:=K) (f:=iv) (xs:=g) (c:=fun q=>decide (Rch (fun y=>(R y).getD []) p q∧Rch (fun y=>(R y).getD []) q p)) (y:=iv) (i:=6) (SqL.of (s4 _ _ hl1)) hD (by omega) (fun H3 q Q' hq s5 kk=>?_) (fun H3 q Q' hq hc s5 kk=>⟨_,rfl,kk H3 (Same.refl _)⟩) (fun z=>rfl) (fun H3 s5 hD3=>?_)⟩
   ·have s6:Same H1 H3:=s4.trans s5
    obtain ⟨kvp,hp1,hp2⟩:=hset p hpg
    obtain ⟨kvq,hq1,hq2⟩:=hset q hq
    refine ⟨_,rfl,_,rfl,_,rfl,rd,V.ref (A p),rfl,.inl ⟨kv,ky p,.inl (s6 _ _ hr1),rfl,by rw [hm.get,if_pos hpg]⟩,A p,_,rfl,.inl ⟨kvp,ky q,.inl (s6 _ _ hp1),rfl,rfl⟩,_,rfl,?_⟩
    refine ite2 (fun h1=>?_) (fun h1=>?_)
    ·refine ⟨_,rfl,_,rfl,_,rfl,rd,V.ref (A q),rfl,.inl ⟨kv,ky q,.inl (s6 _ _ hr1),rfl,by rw [hm.get,if_pos hq]⟩,A q,_,rfl,.inl ⟨kvq,ky p,.inl (s6 _ _ hq1),rfl,rfl⟩,_,rfl,?_⟩
     have e:(valV kvq (ky p)).isSome=decide (Rch (fun y=>(R y).getD []) p q∧Rch (fun y=>(R y).getD []) q p):=by
      rw [Bool.eq_iff_iff,hq2.has,decide_eq_true_eq]
      exact ⟨fun h=>⟨hp2.has.mp h1,h⟩,fun h=>h.2⟩
     rw [e]
     exact kk H3 (Same.refl _)
    ·have e:false=decide (Rch (fun y=>(R y).getD []) p q∧Rch (fun y=>(R y).getD []) q p):=by
      rw [eq_comm,decide_eq_false_iff_not]
      exact fun h=>h1 (hp2.has.mpr h.1)
     have:=kk H3 (Same.refl _)
     rw [← e] at this
     exact this
   ·
    have hK:=filter_knot hg (fun y=>(R y).getD []) p
    generalize hM:(g.filter fun q=>decide (Rch (fun y=>(R y).getD []) p q∧Rch (fun y=>(R y).getD []) q p))=M at hD3 hK
    have hpM:p∈M:=(hK.2 p).mpr ⟨hpg,.refl _,.refl _⟩
    obtain ⟨p0,r0,rfl⟩:∃ p0 r0,M=p0::r0:=by
     cases M with
     | nil=>cases hpM
     | cons p0 r0=>exact ⟨p0,r0,rfl⟩
    have hp0:=(hK.2 p0).mp (by simp)
    have hle:p0≤p:=by
     rcases List.mem_cons.mp hpM with e | e
     ·omega
     ·have:=(List.pairwise_cons.mp hK.1).1 p e;omega
    refine ⟨_,rfl,D,_,(0:Int),iv p0,rfl,rfl,SqL.of hD3,at_of (j:=0) rfl rfl,_,rfl,rfl,_,rfl,?_⟩
    have hkD:D≠kl:=fun e=>by rw [e,hk1] at hD;cases hD
    refine ite2 (fun h1=>?_) (fun h1=>?_)
    ·have e0:p0=p:=by
      have h2:=of_decide_eq_true h1
      have h3:=V.int.inj h2
      omega
     subst e0
     have hkl3:=s5 _ _ hk1
     have hi128:i<128:=by
      have:=(List.getElem?_eq_some_iff.mp hp).1;omega
     refine ⟨_,rfl,.inl ⟨rfl,_,SqL.of hkl3⟩,_,rfl,kl,_,V.ref D,rfl,rfl,hkl3,by rw [List.length_map];exact line_of_le (by omega),_,_,_,rfl,same_upd (s4.trans s5) hkl,kts++[(p0,D)],by rw [upd_same,List.map_append];rfl,by rw [List.length_append];simp;omega,fun x hx=>?_,fun q hq=>?_⟩
     ·rcases List.mem_append.mp hx with h | h
      ·obtain ⟨g1,m,r,g2,g3,g4,g5⟩:=hk3 x h
       exact ⟨g1,m,r,g2,g3,by rw [upd_ne g5];exact s5 _ _ g4,g5⟩
      ·rw [List.mem_singleton] at h
       subst h
       exact ⟨hpg,_,r0,hK,rfl,by rw [upd_ne hkD];exact hD3,hkD⟩
     ·rw [take_snoc' hp,List.mem_append,List.mem_singleton] at hq
      rcases hq with hq | hq
      ·obtain ⟨q0,g1,g2,g3,g4,g5⟩:=hk4 q hq
       exact ⟨q0,g1,g2,g3,g4,fun e=>by
        obtain ⟨x,hx,ex⟩:=g5 e
        exact ⟨x,List.mem_append_left _ hx,ex⟩⟩
      ·subst hq
       exact ⟨q,hpg,.refl _,.refl _,Nat.le_refl _,fun _=>⟨(q,D),by simp,rfl⟩⟩
    ·have e0:p0≠p:=fun e=>h1 (by rw [e];exact decide_eq_true rfl)
     refine ⟨_,_,_,rfl,s4.trans s5,kts,s5 _ _ hk1,by omega,fun x hx=>?_,fun q hq=>?_⟩
     ·obtain ⟨g1,m,r,g2,g3,g4,g5⟩:=hk3 x hx
      exact ⟨g1,m,r,g2,g3,s5 _ _ g4,g5⟩
     ·rw [take_snoc' hp,List.mem_append,List.mem_singleton] at hq
      rcases hq with hq | hq
      ·exact hk4 q hq
      ·subst hq
       exact ⟨p0,hp0.1,hp0.2.1,hp0.2.2,hle,fun e=>absurd e e0⟩
  ·rintro σ H2 ⟨v3,v5,v6,rfl,s4,kts,hk1,hk2,hk3,hk4⟩
   rw [ivs_len] at hk2
   rw [ivs_len,List.take_length] at hk4
   refine ⟨_,rfl,k H2 kl kts (s2.trans s4) hk1 (by omega) (fun x hx=>?_) ?_⟩
   ·obtain ⟨g1,m,r,g2,g3,g4,_⟩:=hk3 x hx
    exact ⟨g1,m,r,g2,g3,g4⟩
   ·have:∀ n p,p≤n→p∈g→∃ x∈kts,Rch (fun y=>(R y).getD []) p x.1∧Rch (fun y=>(R y).getD []) x.1 p:=by
     intro n
     induction n with
     | zero =>
      intro p hn hp
      obtain ⟨p0,g1,g2,g3,g4,g5⟩:=hk4 p hp
      obtain ⟨x,hx,ex⟩:=g5 (by omega)
      exact ⟨x,hx,by rw [ex];exact ⟨.refl _,.refl _⟩⟩
     | succ n ih =>
      intro p hn hp
      obtain ⟨p0,g1,g2,g3,g4,g5⟩:=hk4 p hp
      by_cases e:p0=p
      ·obtain ⟨x,hx,ex⟩:=g5 e
       exact ⟨x,hx,by rw [ex];exact ⟨.refl _,.refl _⟩⟩
      ·obtain ⟨x,hx,c1,c2⟩:=ih p0 (by omega) g1
       exact ⟨x,hx,g2.trans c1,c2.trans g3⟩
    exact fun p hp=>this p p (Nat.le_refl _) hp
end
end Go
end
section
set_option maxHeartbeats 2000000
namespace Go
open PySem PySem.Spec PyProof.Rows L2 LX VL
open Vastoj (Store Node knot closure isTop)
theorem has_z {s:Store}{p:Nat} (h:p∈s.valid):s.has p=true:=has_iff.mpr h
theorem refsR_some {s:Store}{q:Nat}{r:List Nat} (h:refsR s q=some r):q∈s.valid∧r=s.refs q:=by
 unfold refsR at h
 split at h
 ·rename_i e;exact ⟨has_iff.mp e,(Option.some.inj h).symm⟩
 ·cases h
theorem refsR_of {s:Store}{q:Nat} (h:q∈s.valid):refsR s q=some (s.refs q):=by unfold refsR;rw [if_pos (has_z h)]
theorem refsR_getD (s:Store) (q:Nat):(refsR s q).getD []=s.refs q:=by
 unfold refsR
 split
 ·rfl
 ·rename_i e
  rw [refs_none (fun h=>e (has_z h))];rfl
theorem knotR_of {s:Store}{q:Nat} (h:q∈s.valid):knotR s q=some (knot s q):=by unfold knotR;rw [if_pos (has_z h)]
theorem refsR_fun (s:Store):(fun y=>(refsR s y).getD [])=s.refs:=funext fun q=>refsR_getD s q
theorem Zaf {s:Store} (h:StoreOk s):∀ q r,refsR s q=some r→∀ x∈r,x<128:=fun q r e x hx=>by
 obtain ⟨_,rfl⟩:=refsR_some e
 exact h.lt x (h.refs_val hx)
section
variable {P:Program}{w:World}{K:PySem.W.Frag}{mg:Str→Option Value}{base:Heap}{a:Ad}
def spThInit (a:Ad):Sp:=fun vs H Q _=>∃ p dx,vs=[.ref p]∧H p=some (.ins a.Za dx [])∧∀ (H':Hp) (t:ThAd),t.th=p→H t.siz=none→H t.rf=none→H t.kn=none→H t.me=none→ThAt a H' t []→(∀ b o,H b=some o→b≠p→H' b=some o)→Q .non H'
theorem Z8D (T:Txt K mg a):Pr P w K mg base 1 a.Z3X ["self"] (spThInit a):=by
 refine pr_of' T.Z1F Z8J fun cdv A outer s H vs Q E hr h=>?_
 obtain ⟨p,dx,rfl,hp,k⟩:=h
 refine ⟨_,(pss_cons (ps_fld (pv 0) pe_dnewK rfl)
   (pss_cons (ps_fld (pv 0) pe_dnewK rfl)
   (pss_cons (ps_fld (pv 0) pe_dnewK rfl)
   (pss_one (ps_fld (pv 0) pe_dnewK rfl))))),?_⟩
 intro d1 h1
 have n1:p≠d1:=ne_of_none hp h1
 refine ⟨_,rfl,p,a.Za,dx,[],rfl,by rw [upd_ne n1];exact hp,T.Z3,T.Zl,by decide,?_⟩
 intro d2 h2
 have n2:p≠d2:=fun e=>by rw [← e,upd_same] at h2;cases h2
 have n12:d1≠d2:=fun e=>by rw [← e,upd_ne n1.symm,upd_same] at h2;cases h2
 refine ⟨_,rfl,p,a.Za,dx,_,rfl,by rw [upd_ne n2,upd_same],T.Z3,T.Zo,by show 1<1000;decide,?_⟩
 intro d3 h3
 have n3:p≠d3:=fun e=>by rw [← e,upd_same] at h3;cases h3
 have n23:d2≠d3:=fun e=>by rw [← e,upd_ne n2.symm,upd_same] at h3;cases h3
 have n13:d1≠d3:=fun e=>by rw [← e,upd_ne n1.symm,upd_ne n12,upd_ne n1.symm,upd_same] at h3;cases h3
 refine ⟨_,rfl,p,a.Za,dx,_,rfl,by rw [upd_ne n3,upd_same],T.Z3,T.ZH,by show 2<1000;decide,?_⟩
 intro d4 h4
 have n4:p≠d4:=fun e=>by rw [← e,upd_same] at h4;cases h4
 have n34:d3≠d4:=fun e=>by rw [← e,upd_ne n3.symm,upd_same] at h4;cases h4
 have n24:d2≠d4:=fun e=>by rw [← e,upd_ne n2.symm,upd_ne n23,upd_ne n2.symm,upd_same] at h4;cases h4
 have n14:d1≠d4:=fun e=>by rw [← e,upd_ne n1.symm,upd_ne n13,upd_ne n1.symm,upd_ne n12,upd_ne n1.symm,upd_same] at h4;cases h4
 refine ⟨_,rfl,p,a.Za,dx,_,rfl,by rw [upd_ne n4,upd_same],T.Z3,T.ZE,by show 3<1000;decide,?_⟩
 have q2:H d2=none:=by
  rw [upd_ne n2.symm,upd_ne n12.symm] at h2;exact h2
 have q3:H d3=none:=by
  rw [upd_ne n3.symm,upd_ne n23.symm,upd_ne n3.symm,upd_ne n13.symm] at h3;exact h3
 have q4:H d4=none:=by
  rw [upd_ne n4.symm,upd_ne n34.symm,upd_ne n4.symm,upd_ne n24.symm,upd_ne n4.symm,upd_ne n14.symm] at h4;exact h4
 have z1:∀ p,sizF [] p=none:=fun p=>rfl
 have z2:∀ p,refsR [] p=none:=fun p=>rfl
 have z3:∀ p,knotR [] p=none:=fun p=>rfl
 have z4:∀ p,meF [] p=none:=fun p=>rfl
 refine k _ ⟨p,d1,d2,d3,d4⟩ rfl h1 q2 q3 q4 ⟨⟨dx,by rw [upd_same,Zam]⟩,⟨[],?_,DM.nil.congr fun p=>(z1 p).symm⟩,⟨[],?_,fun _=>0,DM.nil.congr fun p=>by rw [z2];rfl,fun p r e=>by rw [z2] at e;cases e⟩,⟨[],?_,fun _=>0,DM.nil.congr fun p=>by rw [z3];rfl,fun p r e=>by rw [z3] at e;cases e⟩,⟨[],?_,DM.nil.congr fun p=>(z4 p).symm⟩,?_⟩ fun b o e hb=>?_
 ·show _=some (HO.dK [])
  rw [upd_ne n1.symm,upd_ne n14,upd_ne n1.symm,upd_ne n13,upd_ne n1.symm,upd_ne n12,upd_ne n1.symm,upd_same]
 ·show _=some (HO.dK [])
  rw [upd_ne n2.symm,upd_ne n24,upd_ne n2.symm,upd_ne n23,upd_ne n2.symm,upd_same]
 ·show _=some (HO.dK [])
  rw [upd_ne n3.symm,upd_ne n34,upd_ne n3.symm,upd_same]
 ·show _=some (HO.dK [])
  rw [upd_ne n4.symm,upd_same]
 ·simp [n12,n13,n14,n23,n24,n34]
 ·have m1:b≠d1:=ne_of_none e h1
  have m2:b≠d2:=ne_of_none e q2
  have m3:b≠d3:=ne_of_none e q3
  have m4:b≠d4:=ne_of_none e q4
  rw [upd_ne hb,upd_ne m4,upd_ne hb,upd_ne m3,upd_ne hb,upd_ne m2,upd_ne hb,upd_ne m1];exact e
def spValid (a:Ad):Sp:=fun vs H Q _=>∃ (t:ThAd) (s:Store) (z:Int),vs=[.ref t.th,.int z]∧ThAt a H t s∧Q (.bl (decide (0≤z)&&s.has z.toNat)) H
theorem sizF_isSome (s:Store) (z:Int):(if 0≤z then sizF s z.toNat else none).isSome=(decide (0≤z)&&s.has z.toNat):=by
 by_cases e:0≤z
 ·rw [if_pos e]
  unfold sizF
  cases h:s.has z.toNat <;> simp [e]
 ·simp [e]
theorem Z6D (T:Txt K mg a):Pr P w K mg base 1 a.Z2C ["self","place"] (spValid a):=by
 refine pr_of' T.Z7j Z6R fun cdv A outer s H vs Q E hr h=>?_
 obtain ⟨t,s,z,rfl,ht,k⟩:=h
 refine ⟨_,(pss_one (ps_ret (pe_cmp (pc_din (hu_of hr) (pv 1) (pe_fld (pv 0) rfl))))),?_⟩
 obtain ⟨dx,ho⟩:=ht.ob
 obtain ⟨kvs,h1,h2⟩:=ht.siz
 refine ⟨_,rfl,_,rfl,t.th,_,dx,_,_,rfl,ho,T.Z3,T.Zl,Zp,t.siz,_,rfl,.inl ⟨kvs,.inl z,.inl h1,rfl,rfl⟩,?_⟩
 rw [h2.getZ,sizF_isSome]
 exact k
def spLoad (a:Ad):Sp:=fun vs H Q _=>∃ (t:ThAd) (s:Store),vs=[.ref t.th]∧ThAt a H t s∧StoreOk s∧∀ H',Same H H'→Q (.int (s.load:Nat)) H'
theorem perm_sum {l m:List Int} (h:l.Perm m):l.sum=m.sum:=by
 induction h with
 | nil=>rfl
 | cons x _ ih=>rw [List.sum_cons,List.sum_cons,ih]
 | swap x y l=>rw [List.sum_cons,List.sum_cons,List.sum_cons,List.sum_cons];omega
 | trans _ _ h1 h2=>rw [h1,h2]
theorem sum_cast:∀ l:List Nat,(l.map fun x:Nat=>(x:Int)).sum=((l.sum:Nat):Int)
 | []=>rfl
 | a::r=>by rw [List.map_cons,List.sum_cons,sum_cast r,List.sum_cons];omega
theorem Z3G (T:Txt K mg a):Pr P w K mg base 1 a.Z4b ["self"] (spLoad a):=by
 refine pr_of' T.Z95 Z8r fun cdv A outer s H vs Q E hr h=>?_
 obtain ⟨t,s,rfl,ht,ok,k⟩:=h
 refine ⟨_,(pss_one (ps_ret (pe_callB (cr_sumvals rfl) (by rfl) T.b_sum (by decide +kernel) (pa_cons (pe_bm0 PySem.F.plainAttrs_dict PySem.F.slot_dict_values PySem.F.type_dict_values mt_values (pe_fld (pv 0) rfl)) pa_nil)))),?_⟩
 obtain ⟨dx,ho⟩:=ht.ob
 obtain ⟨kvs,h1,h2⟩:=ht.siz
 obtain ⟨l,l1,l2,l3,l4⟩:=h2.keys
 have hl:l.Perm s.valid:=(List.perm_ext_iff_of_nodup l2 ok.asc.nodup).mpr fun q=>by
  rw [l3]
  unfold sizF
  rw [← has_iff]
  cases h:s.has q <;> simp
 refine ⟨_,rfl,t.th,_,dx,_,_,rfl,ho,T.Z3,T.Zl,Zp,.inr (.inr (.inl ⟨rfl,.inl ⟨_,h1⟩⟩)),t.siz,kvs,rfl,rfl,Rd.of h1,fun p hp=>?_⟩
 have s1:Same H (upd H p (ViewO p t.siz)):=same_new hp
 refine ⟨p,t.siz,kvs,l.map (fun q=>((sizeOf s q:Nat):Int)),rfl,upd_same,Rd.of (s1 _ _ h1),?_,?_⟩
 ·rw [l4,List.map_map,List.map_map]
  refine List.map_congr_left fun q hq=>?_
  have:=(l3 q).mp hq
  simp only [Function.comp,sizF] at this ⊢
  split at this
  ·rename_i e;rw [if_pos e];rfl
  ·cases this
 ·have e:(l.map (fun q=>((sizeOf s q:Nat):Int))).sum=((s.load:Nat):Int):=by
   rw [perm_sum (hl.map _),load_sizes ok.asc (t:=s) (fun _ h=>h),← sum_cast,List.map_map];rfl
  rw [e]
  exact k _ s1
def spClosure (K:PySem.W.Frag) (a:Ad):Sp:=fun vs H Q _=>∃ (t:ThAd) (s:Store) (p:Addr) (l:List Nat),vs=[.ref t.th,.ref p]∧ThAt a H t s∧StoreOk s∧SqL K H p (ivs l)∧(∀ x∈l,x∈s.valid) ∧
 ∀ (H':Hp) (e:Addr),H e=none→Same H H'→SetAt H' e (·∈closure s l)→Q (.ref e) H'
theorem Z2K (T:Txt K mg a):Pr P w K mg base 2 a.Z2V ["self","places"] (spClosure K a):=by
 refine pr_of' T.Z7O Z7e fun cdv A outer s H vs Q E hr h=>?_
 obtain ⟨t,s,p,l,rfl,ht,ok,hl,hv,k⟩:=h
 refine ⟨_,(pss_one (ps_ret (pc_f (Z39 T) (hr.mono (by decide)) T.Z3y (pa_cons (pv 1) (pa_cons (pe_fld (pv 0) rfl) pa_nil))))),?_⟩
 obtain ⟨dx,ho⟩:=ht.ob
 obtain ⟨kvs,h1,h2⟩:=ht.rf
 refine ⟨_,rfl,_,rfl,t.th,_,dx,_,_,rfl,ho,T.Z3,T.Zo,Zt,p,t.rf,l,kvs,refsR s,rfl,hl,fun x hx=>ok.lt x (hv x hx),h1,h2,Zaf ok,fun H' e he s1 h3=>?_⟩
 refine k H' e he s1 ?_
 obtain ⟨kv,g1,g2⟩:=h3
 refine ⟨kv,g1,g2.congr fun q=>?_⟩
 rw [mem_closure ok,refsR_fun]
 exact ⟨fun ⟨x,hx,r⟩=>⟨x,hx,reach_iff.mpr r⟩,fun ⟨x,hx,r⟩=>⟨x,hx,reach_iff.mp r⟩⟩
def spReaching (a:Ad):Sp:=fun vs H Q _=>∃ (t:ThAd) (s:Store) (p:Nat),vs=[.ref t.th,iv p]∧ThAt a H t s∧StoreOk s∧p∈s.valid ∧
 ∀ (H':Hp) (e:Addr),H e=none→Same H H'→SetAt H' e (fun q=>Reach s q p)→Q (.ref e) H'
theorem Z6C (T:Txt K mg a):Pr P w K mg base 2 a.Z2E ["self","place"] (spReaching a):=by
 refine pr_of' T.Z7h Z71 fun cdv A outer s H vs Q E hr h=>?_
 obtain ⟨t,s,p,rfl,ht,ok,hv,k⟩:=h
 refine ⟨_,(pss_one (ps_ret (pc_f (Z39 T) (hr.mono (by decide)) T.Z3y (pa_cons (pe_lst (pa_cons (pv 1) pa_nil)) (pa_cons (pc_f (Z8d T) (hr.mono (by decide)) T.Z8G (pa_cons (pe_fld (pv 0) rfl) pa_nil)) pa_nil))))),?_⟩
 obtain ⟨dx,ho⟩:=ht.ob
 obtain ⟨kvs,h1,h2⟩:=ht.rf
 refine ⟨_,rfl,by show 1≤sizeLine;decide,fun l1 hl1=>?_⟩
 have s1:Same H (upd H l1 (.lst [iv p])):=same_new hl1
 refine ⟨_,rfl,t.th,_,dx,_,_,rfl,s1 _ _ ho,T.Z3,T.Zo,Zt,t.rf,kvs,refsR s,rfl,s1 _ _ h1,RowsD.fx (S:=[]) h2 (Same.fx s1),fun q r e=>?_,fun H' e kv' R' he s2 g1 g2 g3 g4=>?_⟩
 ·obtain ⟨hq,rfl⟩:=refsR_some e
  exact ⟨ok.lt q hq,asc_len_le (ok.refs_asc q) fun x hx=>ok.lt x (ok.refs_val hx),fun x hx=>ok.lt x (ok.refs_val hx)⟩
 ·refine ⟨l1,e,[p],kv',R',rfl,SqL.of (s2 _ _ upd_same),by simpa using ok.lt p hv,g1,g2,g3,fun H2 e2 he2 s3 h3=>?_⟩
  have he3:H e2=none:=(s1.trans s2).free he2
  refine k H2 e2 he3 ((s1.trans s2).trans s3) ?_
  obtain ⟨kv,f1,f2⟩:=h3
  refine ⟨kv,f1,f2.congr fun q=>?_⟩
  have e1:∀ x y,x∈(R' y).getD []↔y∈s.refs x:=fun x y=>by rw [g4 y x,refsR_getD]
  rw [reach_iff,Rch.rev (rv:=fun y=>(R' y).getD []) e1]
  simp
def spTop (a:Ad):Sp:=fun vs H Q _=>∃ (t:ThAd) (s:Store) (p:Nat),vs=[.ref t.th,iv p]∧ThAt a H t s∧StoreOk s∧p∈s.valid∧Q (.bl (!isTop s p)) H
theorem Z2j (T:Txt K mg a):Pr P w K mg base 1 a.Zw ["self","place"] (spTop a):=by
 refine pr_of' T.Z2B Z2i fun cdv A outer s H vs Q E hr h=>?_
 obtain ⟨t,s,p,rfl,ht,ok,hv,k⟩:=h
 refine ⟨_,(pss_one (ps_ret (pe_cmpR op_gt (pe_dget (hu_of hr) (pe_fld (pv 0) rfl) (pe_ix ix_list (pe_dget (hu_of hr) (pe_fld (pv 0) rfl) (pv 1) (fun _ _=>rfl)) pe_int (fun _ _=>rfl)) (fun _ _=>rfl)) pe_int (nomark _)))),?_⟩
 obtain ⟨dx,ho⟩:=ht.ob
 obtain ⟨kvs,h1,KA,h2,h3⟩:=ht.kn
 obtain ⟨kvm,h4,h5⟩:=ht.me
 obtain ⟨r,hr0⟩:=knot_cons ok p
 have hh:=head_valid ok hv
 have hkn:=h3 p _ (knotR_of hv)
 refine ⟨_,rfl,t.th,_,dx,_,_,rfl,ho,T.Z3,T.ZE,ZQ,_,rfl,t.th,_,dx,_,_,rfl,ho,T.Z3,T.ZH,ZS,_,rfl,t.kn,V.ref (KA p),rfl,.inl ⟨kvs,ky p,.inl h1,rfl,by rw [h2.get,knotR_of hv];rfl⟩,
  KA p,_,(0:Int),iv (head s p),rfl,rfl,SqL.of hkn,at_of (j:=0) rfl (by rw [hr0];rfl),t.me,.int (cnt s (head s p):Nat),rfl,.inl ⟨kvm,ky (head s p),.inl h4,rfl,?_⟩,_,_,rfl,rfl,?_⟩
 ·rw [h5.get]
  unfold meF isHead
  rw [has_z hh,head_head ok]
  simp
 ·have e:(!isTop s p)=decide ((0:Int)<((cnt s (head s p):Nat):Int)):=by
   cases e:isTop s p with
   | true=>rw [(isTop_cnt ok).mp e];rfl
   | false =>
    have:cnt s (head s p)≠0:=fun z=>by rw [(isTop_cnt ok).mpr z] at e;cases e
    simp;omega
  show Q (.bl (decide ((0:Int)<((cnt s (head s p):Nat):Int)))) H
  rw [← e]
  exact k
end
end Go
end
section
set_option maxHeartbeats 2000000
namespace Go
open PySem PySem.Spec PyProof.Rows L2 LX VL
open Vastoj (Store Node knot closure isTop)
section
variable {P:Program}{w:World}{K:PySem.W.Frag}{mg:Str→Option Value}{base:Heap}{a:Ad}
def cM (o:Nat) (hd:Nat→Nat) (r:List Nat) (h:Nat):Nat:=if o=h then 0 else (r.filter fun q=>hd q==h).length
def ThOb (a:Ad) (H:Hp) (t:ThAd):Prop:=∃ dx,H t.th=some (.ins a.Za dx (Zc (.ref t.siz) (.ref t.rf) (.ref t.kn) (.ref t.me)))
theorem ThOb.fx {a:Ad}{H H':Hp}{t:ThAd}{S:List Addr} (h:ThOb a H t) (f:Fx S H H') (n:t.th∉S):ThOb a H' t:=by
 obtain ⟨dx,h⟩:=h
 exact ⟨dx,f.at_ h n⟩
def spCount (a:Ad):Sp:=fun vs H Q _=>∃ (t:ThAd) (RR KR:Nat→Option (List Nat)) (M:Nat→Option Int) (p:Nat) (step:Int) (r ro:List Nat) (o:Nat) (hd:Nat→Nat),vs=[.ref t.th,iv p,.int step]∧ThOb a H t∧RowsAt H t.rf RR∧RowsAt H t.kn KR∧DictAt H t.me (fun h=>(M h).map V.int) ∧
 t.rf≠t.me∧t.kn≠t.me∧RR p=some r∧KR p=some (o::ro)∧(∀ q∈r,∃ rq,KR q=some (hd q::rq))∧(∀ q∈r,hd q≠o→∃ m,M (hd q)=some m)∧(∀ h,(M h).isSome=true→h<128) ∧
 ∀ H',Fx [t.me] H H'→DictAt H' t.me (fun h=>(M h).map fun m=>V.int (m+step*(cM o hd r h:Nat)))→Q .non H'
theorem Z24 (T:Txt K mg a):Pr P w K mg base 1 a.Z1a ["self","place","step"] (spCount a):=by
 refine pr_of' T.Z4Z ZG fun cdv A outer s H vs Q E hr h=>?_
 obtain ⟨t,RR,KR,M,p,step,r,ro,o,hd,rfl,⟨dx,ho⟩,⟨kvr,r1,RA,r2,r3⟩,⟨kvk,k1,KA,k2,k3⟩,⟨kvm,m1,m2⟩,n1,n2,hp,hk,hq1,hq2,hM,k⟩:=h
 refine ⟨_,(pss_cons (pst 3 ZG.nd (pe_ix ix_list (pe_dget (hu_of hr) (pe_fld (pv 0) rfl) (pv 1) (fun _ _=>rfl)) pe_int (fun _ _=>rfl)))
   (pss_one (ps_for PassesOwn.never rfl (pi_list (pe_dget (hu_of hr) (pe_fld (pv 0) rfl) (pv 1) (fun _ _=>rfl))) (pn 4 ZG.nd) (pss_cons (pst 5 ZG.nd (pe_ix ix_list (pe_dget (hu_of hr) (pe_fld (pv 0) rfl) (pv 4) (fun _ _=>rfl)) pe_int (fun _ _=>rfl)))
   (pss_one (ps_if (pt_cmpR op_ne (pv 5) (pv 3) (nomark _)) (pss_one (ps_dput (hu_of hr) (pe_fld (pv 0) rfl) (pv 5) (pe_op op_add (pe_dget (hu_of hr) (pe_fld (pv 0) rfl) (pv 5) (fun _ _=>rfl)) (pv 2)) rfl)) pss_nil)))))),?_⟩
 have n0:t.th≠t.me:=ne_of ho m1 (by intro z;cases z)
 have nd1:t.rf∉[t.me]:=by simpa using n1
 have nd2:t.kn∉[t.me]:=by simpa using n2
 have nd0:t.th∉[t.me]:=by simpa using n0
 refine ⟨_,rfl,t.th,_,dx,_,_,rfl,ho,T.Z3,T.ZH,ZS,_,rfl,t.kn,V.ref (KA p),rfl,.inl ⟨kvk,ky p,.inl k1,rfl,by rw [k2.get,hk];rfl⟩,KA p,_,(0:Int),iv o,rfl,rfl,SqL.of (k3 p _ hk),at_of (j:=0) rfl rfl,?_⟩
 refine ⟨_,rfl,t.th,_,dx,_,_,rfl,ho,T.Z3,T.Zo,Zt,_,rfl,t.rf,V.ref (RA p),rfl,.inl ⟨kvr,ky p,.inl r1,rfl,by rw [r2.get,hp];rfl⟩,RA p,rfl,⟨_,SqL.of (r3 p _ hp)⟩,
  for_list (K:=K) (a:=RA p) (xs:=ivs r) (fun j σ H'=>∃ v4 v5,σ=[some (.ref t.th),some (iv p),some (.int step),some (iv o),v4,v5]∧Fx [t.me] H H'∧DictAt H' t.me (fun h=>(M h).map fun m=>V.int (m+step*(cM o hd (r.take j) h:Nat))))
   ⟨none,none,rfl,Fx.refl _ _,kvm,m1,m2.congr fun h=>?_⟩ (fun j σ H' _ ⟨_,_,_,f,_⟩=>f.seq (r3 p _ hp)) ?_ ?_⟩
 ·cases M h <;> simp [cM]
 ·rintro j y σ H1 hj ⟨v4,v5,rfl,f,kv,g1,g2⟩
  obtain ⟨q,hqj,rfl⟩:=get_ivs hj
  have hqr:=List.mem_of_getElem? hqj
  obtain ⟨rq,hkq⟩:=hq1 q hqr
  have ho1:=f.at_ ho nd0
  have hk1:=f.at_ k1 nd2
  refine ⟨_,rfl,t.th,_,dx,_,_,rfl,ho1,T.Z3,T.ZH,ZS,_,rfl,t.kn,V.ref (KA q),rfl,.inl ⟨kvk,ky q,.inl hk1,rfl,by rw [k2.get,hkq];rfl⟩,KA q,_,(0:Int),iv (hd q),rfl,rfl,SqL.of (f.lst (k3 q _ hkq)),at_of (j:=0) rfl rfl,?_⟩
  refine ⟨_,rfl,_,rfl,rfl,_,rfl,?_⟩
  have hone:∀ h,cM o hd (r.take (j+1)) h=cM o hd (r.take j) h+(if o=h then 0 else if hd q=h then 1 else 0):=fun h=>by
   unfold cM
   rw [take_snoc' hqj,List.filter_append]
   by_cases e1:o=h
   ·simp [e1]
   ·by_cases e2:hd q=h
    ·simp [e1,e2]
    ·simp [e1,e2]
  refine ite2 (fun h1=>?_) (fun h1=>?_)
  ·have hne:hd q≠o:=fun e=>by
    rw [e] at h1
    simp at h1
   obtain ⟨m,hm⟩:=hq2 q hqr hne
   have hv:valV kv (ky (hd q))=some (.int (m+step*(cM o hd (r.take j) (hd q):Nat))):=by rw [g2.get,hm];rfl
   have hkl:kv.length≤128:=g2.le fun h e=>hM h (by cases e2:M h with
    | none=>rw [e2] at e;cases e
    | some _=>rfl)
   refine ⟨_,rfl,t.th,_,dx,_,_,rfl,ho1,T.Z3,T.ZE,ZQ,_,rfl,t.me,_,rfl,.inl ⟨kv,ky (hd q),.inl g1,rfl,hv.symm⟩,_,rfl,_,_,rfl,rfl,?_⟩
   refine ⟨_,rfl,t.th,_,dx,_,_,rfl,ho1,T.Z3,T.ZE,ZQ,_,rfl,t.me,_,rfl,DPut.k (k:=ky (hd q)) g1 (line_of_le (by omega)),_,_,rfl,f.trans (Fx.put g1 (by intro xs z;cases z) (by simp)),_,upd_same,(g2.put (hd q) _).congr fun h=>?_⟩
   by_cases e:h=hd q
   ·subst e
    rw [if_pos rfl,hm,hone,if_neg hne.symm,if_pos rfl]
    simp only [Option.map_some,Option.some.injEq,V.int.injEq]
    rw [Int.natCast_add,Int.mul_add]
    simp;omega
   ·have e':¬ hd q=h:=fun z=>e z.symm
    rw [if_neg e,hone]
    simp [e']
  ·have hne:hd q=o:=Classical.byContradiction fun z=>h1 (by simp;omega)
   refine ⟨_,_,rfl,f,kv,g1,g2.congr fun h=>?_⟩
   rw [hone,hne]
   by_cases e:o=h
   ·simp [e]
   ·simp [e]
 ·rintro σ H1 ⟨v4,v5,rfl,f,hm⟩
  rw [ivs_len,List.take_length] at hm
  exact k H1 f hm
def spKeep (a:Ad):Sp:=fun vs H Q _=>∃ (t:ThAd) (KR:Nat→Option (List Nat)) (F:Nat→Option V) (p0:Nat) (rest:List Nat) (kp:Addr),vs=[.ref t.th,.ref kp]∧ThOb a H t∧RowsAt H t.kn KR∧DictAt H t.me F∧t.kn≠t.me∧H kp=some (.lst (ivs (p0::rest))) ∧
 (∀ q∈p0::rest,q<128)∧(∀ h,(F h).isSome=true→h<128)∧(∀ q,(KR q).isSome=true→q<128) ∧
 ∀ H',Fx [t.kn,t.me] H H'→DictAt H' t.me (fun h=>if h=p0 then some (.int 0) else F h)→RowsAt H' t.kn (fun q=>if q∈p0::rest then some (p0::rest) else KR q)→Q .non H'
theorem Z6n (T:Txt K mg a):Pr P w K mg base 1 a.Z2b ["self","knot"] (spKeep a):=by
 refine pr_of' T.Z6x Z3x fun cdv A outer s H vs Q E hr h=>?_
 obtain ⟨t,KR,F,p0,rest,kp,rfl,⟨dx,ho⟩,⟨kvk,k1,KA,k2,k3⟩,⟨kvm,m1,m2⟩,n1,hkp,hb,hF,hK,k⟩:=h
 refine ⟨_,(pss_cons (ps_dput (hu_of hr) (pe_fld (pv 0) rfl) (pe_ix ix_list (pv 1) pe_int (fun _ _=>rfl)) pe_int rfl)
   (pss_one (ps_for PassesOwn.never rfl (pi_list (pv 1)) (pn 2 Z3x.nd) (pss_one (ps_dput (hu_of hr) (pe_fld (pv 0) rfl) (pv 2) (pv 1) rfl))))),?_⟩
 have n0:t.th≠t.me:=ne_of ho m1 (by intro z;cases z)
 have n2:t.th≠t.kn:=ne_of ho k1 (by intro z;cases z)
 have hml:kvm.length≤128:=m2.le hF
 refine ⟨_,rfl,t.th,_,dx,_,_,rfl,ho,T.Z3,T.ZE,ZQ,_,rfl,kp,_,(0:Int),iv p0,rfl,rfl,SqL.of hkp,at_of (j:=0) rfl rfl,t.me,_,rfl,DPut.k (k:=ky p0) m1 (line_of_le (by omega)),?_⟩
 have f1:Fx [t.kn,t.me] H (upd H t.me (.dK (putK kvm (ky p0) (.int 0)))):=Fx.put m1 (by intro xs z;cases z) (by simp)
 refine ⟨_,rfl,kp,rfl,⟨_,f1.seq hkp⟩,for_list (K:=K) (a:=kp) (xs:=ivs (p0::rest)) (fun i σ H'=>∃ v2,σ=[some (.ref t.th),some (.ref kp),v2]∧Fx [t.kn,t.me] H H'∧DictAt H' t.me (fun h=>if h=p0 then some (.int 0) else F h)∧(∃ dx,H' t.th=some (.ins a.Za dx (Zc (.ref t.siz) (.ref t.rf) (.ref t.kn) (.ref t.me)))) ∧
   ∃ kv,H' t.kn=some (.dK kv)∧DM kv (fun q=>if q∈(p0::rest).take i then some (.ref kp) else (KR q).map fun _=>V.ref (KA q)))
  ⟨none,rfl,f1,⟨_,upd_same,m2.put p0 _⟩,⟨dx,by rw [upd_ne n0];exact ho⟩,kvk,by rw [upd_ne n1];exact k1,k2.congr fun q=>by simp⟩ (fun j σ H' _ ⟨_,_,f,_⟩=>f.seq hkp) ?_ ?_⟩
 ·rintro i y σ H1 hi ⟨v2,rfl,f,hm,⟨dx1,ho1⟩,kv,g1,g2⟩
  obtain ⟨q,hq,rfl⟩:=get_ivs hi
  have hqm:=List.mem_of_getElem? hq
  have hkl:kv.length≤128:=g2.le fun x e=>by
   split at e
   ·rename_i h;exact hb x (List.mem_of_mem_take h)
   ·exact hK x (by cases e2:KR x with
     | none=>rw [e2] at e;cases e
     | some _=>rfl)
  refine ⟨_,rfl,_,rfl,t.th,_,dx1,_,_,rfl,ho1,T.Z3,T.ZH,ZS,_,rfl,t.kn,_,rfl,DPut.k (k:=ky q) g1 (line_of_le (by omega)),_,rfl,f.trans (Fx.put g1 (by intro xs z;cases z) (by simp)),?_,⟨dx1,by rw [upd_ne n2];exact ho1⟩,_,upd_same,(g2.put q _).congr fun x=>?_⟩
  ·obtain ⟨kvm',e1,e2⟩:=hm
   exact ⟨kvm',by rw [upd_ne n1.symm];exact e1,e2⟩
  ·rw [take_snoc' hq]
   by_cases e:x=q
   ·simp [e]
   ·simp [e]
 ·rintro σ H1 ⟨v2,rfl,f,hm,_,kv,g1,g2⟩
  rw [ivs_len,List.take_length] at g2
  refine k H1 f hm ⟨kv,g1,fun q=>if q∈p0::rest then kp else KA q,g2.congr fun q=>?_,fun q r e=>?_⟩
  ·by_cases e:q∈p0::rest
   ·simp only [if_pos e];rfl
   ·simp only [if_neg e]
  ·(try dsimp only at e)
   (try dsimp only)
   by_cases e2:q∈p0::rest
   ·rw [if_pos e2] at e ⊢
    obtain rfl:=Option.some.inj e
    exact f.lst hkp
   ·rw [if_neg e2] at e ⊢
    exact f.lst (k3 q r e)
end
end Go
end
section
set_option maxHeartbeats 2000000
namespace Go
open PySem PySem.Spec PyProof.Rows L2 LX VL
open Vastoj (Store Node knot closure isTop)
theorem for_enum {K:PySem.W.Frag}{p:Addr}{xs:List V}{g:TG}{tb:TS}{D:Ends}{σ:L2.St}{H:Hp} (Pv:Nat→L2.St→Hp→Prop) (h0:Pv 0 σ H) (hl:∀ i σ H,i≤xs.length→Pv i σ H→SqL K H p xs)
  (hs:∀ i x σ H T,xs[i]?=some x→Pv i σ H→H T=none→g (.ref T) σ (upd H T (.tup [.int (i:Nat),x])) fun σ2 H2=>tb {D with nx:=Pv (i+1),ct:=Pv (i+1),bk:=D.nx} σ2 H2) (hd:∀ σ H,Pv xs.length σ H→D.nx σ H) :
  ∃ W:Nat→Nat→L2.St→Hp→Prop,(∃ m,W 0 m σ H)∧∀ i m σ H,W i m σ H →
   ((Ite K p).stop i H∧D.nx σ H)∨((Ite K p).go i H∧∃ N:L2.St→Hp→Prop,(∀ σ' H',N σ' H'→∃ m',m'<m∧W (i+1) m' σ' H')∧∀ x H',(Ite K p).yld i H x H'→g x σ H' fun σ2 H2=>tb {D with nx:=N,ct:=N,bk:=D.nx} σ2 H2):=by
 refine ⟨fun i m σ H=>m=xs.length - i∧i≤xs.length∧Pv i σ H,⟨xs.length,by simp,Nat.zero_le _,h0⟩,?_⟩
 rintro i m σ H ⟨rfl,hi,q⟩
 have sq:=hl i σ H hi q
 by_cases hlt:i<xs.length
 ·refine .inr ⟨⟨xs,xs[i],sq,by simp [hlt]⟩,Pv (i+1),fun σ' H' p'=>⟨xs.length - (i+1),by omega,rfl,hlt,p'⟩,?_⟩
  rintro x H' ⟨T,y,rfl,hT,rfl,hy⟩
  exact hs i y σ H T (hy xs sq) q hT
 ·have e:i=xs.length:=by omega
  subst e
  exact .inl ⟨⟨xs,sq,Nat.le_refl _⟩,hd σ H q⟩
theorem RowsAt.congr {H:Hp}{d:Addr}{R R':Nat→Option (List Nat)} (h:RowsAt H d R) (e:∀ q,R q=R' q):RowsAt H d R':=by
 have:R=R':=funext e
 exact this▸h
theorem get_map' {α:Type}{f:α→V}{l:List α}{i:Nat}{x:α} (h:l[i]?=some x):(l.map f)[i]?=some (f x):=by rw [List.getElem?_map,h];rfl
section
variable {P:Program}{w:World}{K:PySem.W.Frag}{mg:Str→Option Value}{base:Heap}{a:Ad}
def spEnter (a:Ad):Sp:=fun vs H Q _=>∃ (t:ThAd) (s:Store) (ns:List Node) (outs:List Nat) (pl sl rl:Addr) (AR:Nat→Addr),vs=[.ref t.th,.ref pl,.ref sl,.ref rl]∧ThAt a H t s∧StoreOk s∧StoreOk (putAll ns s)∧outs=ns.map (fun n=>n.place)∧Asc outs∧(∀ n∈ns,n.place∉s.valid) ∧
 H pl=some (.lst (ivs outs))∧H sl=some (.lst (outs.map fun p=>V.int (sizeOf (putAll ns s) p:Nat)))∧H rl=some (.lst (outs.map fun p=>V.ref (AR p)))∧(∀ p∈outs,H (AR p)=some (.lst (ivs ((putAll ns s).refs p)))) ∧
 ∀ H',Fx [t.siz,t.rf,t.kn,t.me] H H'→ThAt a H' t (putAll ns s)→Q .non H'
theorem Z6u (T:Txt K mg a):Pr P w K mg base 3 a.Z23 ["self","places","sizes","rows"] (spEnter a):=by
 refine pr_of' T.Z6U Zx fun cdv A outer s H vs Q E hr h=>?_
 obtain ⟨t,s,ns,outs,pl,sl,rl,AR,rfl,ht,ok,ok2,houts,hasc,hnew,hpl,hsl,hrl,hrow,k⟩:=h
 refine ⟨_,(pss_cons (pst 4 Zx.nd pe_dnewK)
   (pss_cons (ps_for PassesOwn.never rfl (pi_enum rfl T.Z9Y (pa_cons (pv 1) pa_nil)) (pg_tup rfl (pgs_cons (pn 5 Zx.nd) (pgs_cons (pn 6 Zx.nd) pgs_nil))) (pss_cons (ps_dput (hu_of hr) (pv 4) (pv 6) (pe_ix ix_list (pv 3) (pv 5) (fun _ _=>rfl)) rfl)
   (pss_one (ps_dput (hu_of hr) (pe_fld (pv 0) rfl) (pv 6) (pe_ix ix_list (pv 2) (pv 5) (fun _ _=>rfl)) rfl))))
   (pss_cons (ps_expr (pe_bm PySem.F.plainAttrs_dict PySem.F.slot_dict_update PySem.F.type_dict_update mt_update (pe_fld (pv 0) rfl) (pa_cons (pv 4) pa_nil)))
   (pss_cons (ps_for PassesOwn.never rfl (pi_list (pc_f (Z8y T) (hr.mono (by decide)) T.Z8Y (pa_cons (pv 4) pa_nil))) (pn 7 Zx.nd) (pss_one (ps_expr (pc_m (pv 0) T.Z3 T.Z6h (Z6n T) (hr.mono (by decide)) (pa_cons (pv 7) pa_nil)))))
   (pss_one (ps_for PassesOwn.never rfl (pi_list (pv 1)) (pn 6 Zx.nd) (pss_one (ps_expr (pc_m (pv 0) T.Z3 T.Z2c (Z24 T) (hr.mono (by decide)) (pa_cons (pv 6) (pa_cons pe_int pa_nil))))))))))),?_⟩
 generalize hs2:putAll ns s=s2 at *
 have hv2:∀ p,p∈s2.valid↔p∈outs∨p∈s.valid:=fun p=>by rw [← hs2,valid_putAll,houts]
 have hov:∀ p∈outs,p∈s2.valid:=fun p hp=>(hv2 p).mpr (.inl hp)
 have hon:∀ p∈outs,p∉s.valid:=fun p hp=>by
  rw [houts] at hp
  obtain ⟨n,h1,rfl⟩:=List.mem_map.mp hp
  exact hnew n h1
 have hob:∀ p∈outs,p<128:=fun p hp=>ok2.lt p (hov p hp)
 have hol:outs.length≤128:=asc_len_le hasc hob
 obtain ⟨⟨dx,ho⟩,⟨kvz,z1,z2⟩,⟨kvr,r1,RA,r2,r3⟩,hkn,hme,hnd⟩:=ht
 have nd:t.siz≠t.rf∧t.siz≠t.kn∧t.siz≠t.me∧t.rf≠t.kn∧t.rf≠t.me∧t.kn≠t.me:=by
  simp at hnd
  exact ⟨hnd.1.1,hnd.1.2.1,hnd.1.2.2,hnd.2.1.1,hnd.2.1.2,hnd.2.2⟩
 obtain ⟨n1,n2,n3,n4,n5,n6⟩:=nd
 have nt:t.th∉[t.siz,t.rf,t.kn,t.me]:=by
  obtain ⟨kvk,k1,_⟩:=hkn
  obtain ⟨kvm,m1,_⟩:=hme
  simp only [List.mem_cons,List.not_mem_nil,or_false,not_or]
  exact ⟨ne_of ho z1 (by intro z;cases z),ne_of ho r1 (by intro z;cases z),ne_of ho k1 (by intro z;cases z),ne_of ho m1 (by intro z;cases z)⟩
 have nt1:t.th∉[t.siz]:=fun h=>nt (by simp at h;simp [h])
 intro ed hed
 have hrd:t.rf≠ed:=ne_of_none r1 hed
 have hzd:t.siz≠ed:=ne_of_none z1 hed
 have f0:Fx [t.siz] H (upd H ed (.dK [])):=Fx.new hed
 refine ⟨_,rfl,pl,_,rfl,f0.seq hpl,for_enum (K:=K) (p:=pl) (xs:=ivs outs) (fun i σ H'=>∃ v5 v6,σ=[some (.ref t.th),some (.ref pl),some (.ref sl),some (.ref rl),some (.ref ed),v5,v6,none]∧Fx [t.siz] H H' ∧
   (∃ kve,H' ed=some (.dK kve)∧DM kve (fun p=>if p∈outs.take i then some (.ref (AR p)) else none))∧DictAt H' t.siz (fun p=>if p∈outs.take i then some (.int (sizeOf s2 p:Nat)) else sizF s p))
  ⟨none,none,rfl,f0,⟨[],upd_same,DM.nil.congr fun p=>by simp⟩,⟨kvz,by rw [upd_ne hzd];exact z1,z2.congr fun p=>by simp⟩⟩ (fun i σ H' _ ⟨_,_,_,f,_⟩=>f.seq hpl) ?_ ?_⟩
 ·rintro i y σ H1 TT hi ⟨v5,v6,rfl,f,⟨kve,e1,e2⟩,⟨kvs,g1,g2⟩⟩ hTT
  obtain ⟨p,hp,rfl⟩:=get_ivs hi
  have hpo:=List.mem_of_getElem? hp
  have f1:Fx [t.siz] H1 (upd H1 TT (.tup [.int (i:Nat),iv p])):=Fx.new hTT
  have ff:=f.trans f1
  have hTd:ed≠TT:=ne_of_none e1 hTT
  have hTz:t.siz≠TT:=ne_of_none g1 hTT
  have hel:kve.length≤128:=e2.le fun q hq=>by
   split at hq
   ·rename_i h;exact hob q (List.mem_of_mem_take h)
   ·cases hq
  have hzl:kvs.length≤128:=g2.le fun q hq=>by
   split at hq
   ·rename_i h;exact hob q (List.mem_of_mem_take h)
   ·unfold sizF at hq
    split at hq
    ·rename_i h;exact ok.lt q (has_iff.mp h)
    ·cases hq
  refine ⟨TT,_,rfl,SqT.of upd_same,rfl,_,_,rfl,_,_,rfl,rfl,?_⟩
  refine ⟨_,rfl,_,rfl,rl,_,((i:Nat):Int),V.ref (AR p),rfl,rfl,ff.seq hrl,at_of (j:=i) rfl (get_map' (f:=fun p=>V.ref (AR p)) hp),_,rfl,_,rfl,ed,_,rfl,DPut.k (k:=ky p) (by rw [upd_ne hTd];exact e1) (line_of_le (by omega)),?_⟩
  have f2:Fx [t.siz] H (upd (upd H1 TT (.tup [.int (i:Nat),iv p])) ed (.dK (putK kve (ky p) (.ref (AR p))))):=fun b o hb hk=>by
   rw [upd_ne (ne_of_none hb hed)];exact ff b o hb hk
  refine ⟨_,rfl,_,rfl,sl,_,((i:Nat):Int),V.int (sizeOf s2 p:Nat),rfl,rfl,f2.seq hsl,at_of (j:=i) rfl (get_map' (f:=fun p=>V.int (sizeOf s2 p:Nat)) hp),_,rfl,t.th,_,dx,_,_,rfl,f2.at_ ho nt1,T.Z3,T.Zl,Zp,_,rfl,t.siz,_,rfl,DPut.k (k:=ky p) (by rw [upd_ne hzd,upd_ne hTz];exact g1) (line_of_le (by omega)),?_⟩
  refine ⟨_,_,rfl,f2.trans (Fx.put (u:=.dK kvs) (by rw [upd_ne hzd,upd_ne hTz];exact g1) (by intro xs z;cases z) (by simp)),⟨_,by rw [upd_ne hzd.symm,upd_same],(e2.put p _).congr fun q=>?_⟩,⟨_,upd_same,(g2.put p _).congr fun q=>?_⟩⟩
  ·rw [take_snoc' hp]
   by_cases e:q=p
   ·simp [e]
   ·simp [e]
  ·rw [take_snoc' hp]
   by_cases e:q=p
   ·simp [e]
   ·simp [e]
 ·rintro σ H1 ⟨v5,v6,rfl,f,⟨kve,e1,e2⟩,hz⟩
  rw [ivs_len,List.take_length] at e2 hz
  have nr1:t.rf∉[t.siz]:=by simpa using n1.symm
  have hr1:=f.at_ r1 nr1
  have e3:DM kve (fun p=>((if p∈outs then some (s2.refs p) else none:Option (List Nat))).map fun _=>V.ref (AR p)):=e2.congr fun p=>by
   by_cases e:p∈outs
   ·simp [e]
   ·simp [e]
  have hel:kve.length≤128:=e2.le fun q hq=>by
   split at hq
   ·rename_i h;exact hob q h
   ·cases hq
  have hrl2:kvr.length≤128:=r2.le fun q hq=>by
   cases e:refsR s q with
   | none=>rw [e] at hq;cases hq
   | some r=>exact ok.lt q (refsR_some e).1
  refine ⟨_,rfl,t.th,_,dx,_,_,rfl,f.at_ ho nt1,T.Z3,T.Zo,Zt,.inr (.inr (.inl ⟨rfl,.inl ⟨_,hr1⟩⟩)),_,rfl,t.rf,ed,kvr,kve,rfl,rfl,hr1,e1,hrd,Nat.le_of_lt (line_of_le (by omega)),?_⟩
  have f2:Fx [t.siz,t.rf] H1 (upd H1 t.rf (.dK (mergeK kvr kve))):=Fx.put hr1 (by intro xs z;cases z) (by simp)
  have ff:Fx [t.siz,t.rf] H (upd H1 t.rf (.dK (mergeK kvr kve))):=(f.mono (by simp)).trans f2
  have hrf2:RowsAt (upd H1 t.rf (.dK (mergeK kvr kve))) t.rf (refsR s2):=by
   refine ⟨_,upd_same,fun p=>if p∈outs then AR p else RA p,(e2.merge r2).congr fun p=>?_,fun p r e=>?_⟩
   ·by_cases e:p∈outs
    ·rw [refsR_of (hov p e)];simp [e]
    ·simp only [if_neg e,Option.none_or]
     by_cases e2:p∈s.valid
     ·rw [refsR_of e2,refsR_of ((hv2 p).mpr (.inr e2))];rfl
     ·have a1:refsR s p=none:=by unfold refsR;rw [if_neg fun z=>e2 (has_iff.mp z)]
      have a2:refsR s2 p=none:=by unfold refsR;rw [if_neg fun z=>((hv2 p).mp (has_iff.mp z)).elim e e2]
      rw [a1,a2]
   ·obtain ⟨hp,rfl⟩:=refsR_some e
    (try dsimp only)
    by_cases e:p∈outs
    ·rw [if_pos e];exact ff.lst (hrow p e)
    ·rw [if_neg e]
     have hps:=((hv2 p).mp hp).resolve_left e
     have:=r3 p _ (refsR_of hps)
     rw [← refs_putAll_old ok.asc (by rw [hs2];exact ok2.asc) hps,hs2] at this
     exact ff.lst this
  have ede:(upd H1 t.rf (.dK (mergeK kvr kve))) ed=some (.dK kve):=by rw [upd_ne hrd.symm];exact e1
  refine ⟨_,rfl,ed,kve,(fun p=>if p∈outs then some (s2.refs p) else none),outs,rfl,ede,⟨AR,e3,fun p r e=>?_⟩,hasc,fun q=>?_,hob,fun q r e x hx=>?_,fun H3 kl ks s3 hkl hksl hks1 hks2=>?_⟩
  ·(try dsimp only at e)
   split at e
   ·rename_i h
    obtain rfl:=Option.some.inj e
    exact ff.lst (hrow p h)
   ·cases e
  ·by_cases e:q∈outs
   ·simp [e]
   ·simp [e]
  ·(try dsimp only at e)
   split at e
   ·obtain rfl:=Option.some.inj e
    exact ok2.lt x (ok2.refs_val hx)
   ·cases e
  have hnx:(fun y=>((if y∈outs then some (s2.refs y) else none:Option (List Nat))).getD [])=newRows s ns:=by
   funext y
   unfold newRows
   rw [← houts,hs2]
   by_cases e:y∈outs
   ·simp [e]
   ·simp [e]
  have hkt:∀ x∈ks,x.1∈outs∧H3 x.2=some (.lst (ivs (knot s2 x.1)))∧head s2 x.1=x.1:=fun x hx=>by
   obtain ⟨c1,m,r,⟨c2,c3⟩,c4,c5⟩:=hks1 x hx
   rw [hnx] at c3
   have e:knot s2 x.1=m:=by
    rw [← hs2]
    exact knot_new ok (by rw [hs2];exact ok2) hnew (by rw [← houts];exact c1) c2 (by rw [← houts];exact c3)
   refine ⟨c1,by rw [e];exact c5,?_⟩
   unfold head
   rw [e,c4];rfl
  have hcov:∀ p∈outs,∃ x∈ks,p∈knot s2 x.1:=fun p hp=>by
   obtain ⟨x,hx,c1,c2⟩:=hks2 p hp
   rw [hnx] at c1 c2
   have hx1:=(hkt x hx).1
   refine ⟨x,hx,(mem_knot ok2).mpr ⟨?_,?_⟩⟩
   ·rw [← hs2];exact (reach_new ok (by rw [hs2];exact ok2) hnew (by rw [← houts];exact hx1) (by rw [← houts];exact hp)).mpr c2
   ·rw [← hs2];exact (reach_new ok (by rw [hs2];exact ok2) hnew (by rw [← houts];exact hp) (by rw [← houts];exact hx1)).mpr c1
  have hold:∀ p∈s.valid,knot s2 p=knot s p:=fun p hp=>by rw [← hs2];exact knot_old ok (by rw [hs2];exact ok2) hp
  have hknew:∀ p∈outs,∀ q∈knot s2 p,q∈outs:=fun p hp q hq=>by
   have hqv:=knot_valid ok2 (hov p hp) hq
   refine ((hv2 q).mp hqv).resolve_right fun hqs=>?_
   have e:=hold q hqs
   rw [knot_eq ok2 hq] at e
   have:=self_knot ok2 p
   rw [e] at this
   exact hon p hp (knot_valid ok hqs this)
  have f3:Fx [t.siz,t.rf] H H3:=ff.trans (Same.fx s3)
  have nk2:t.kn∉[t.siz,t.rf]:=by simp;exact ⟨n2.symm,n4.symm⟩
  have nm2:t.me∉[t.siz,t.rf]:=by simp;exact ⟨n3.symm,n5.symm⟩
  have nt2:t.th∉[t.siz,t.rf]:=fun h=>nt (by simp at h;rcases h with h | h <;> simp [h])
  have hme3:=hme.fx f3 nm2
  have hkn3:=hkn.fx f3 nk2
  have hrf3:RowsAt H3 t.rf (refsR s2):=hrf2.same s3
  have hz3:DictAt H3 t.siz (fun p=>if p∈outs then some (.int (sizeOf s2 p:Nat)) else sizF s p):=by
   obtain ⟨kvs,g1,g2⟩:=hz
   exact ⟨kvs,s3 _ _ (by rw [upd_ne n1];exact g1),g2⟩
  have ho3:ThOb a H3 t:=⟨dx,f3.at_ ho nt2⟩
  refine ⟨kl,rfl,⟨_,SqL.of hkl⟩,for_list (K:=K) (a:=kl) (xs:=ks.map fun x=>V.ref x.2) (fun i σ H'=>∃ v7,σ=[some (.ref t.th),some (.ref pl),some (.ref sl),some (.ref rl),some (.ref ed),v5,v6,v7]∧Fx [t.kn,t.me] H3 H' ∧
    DictAt H' t.me (fun h=>if (ks.take i).any (fun x=>x.1==h) then some (.int 0) else meF s h)∧RowsAt H' t.kn (fun q=>if (ks.take i).any (fun x=>(knot s2 x.1).contains q) then some (knot s2 q) else knotR s q))
   ⟨none,rfl,Fx.refl _ _,?_,?_⟩ (fun i σ H' _ ⟨_,_,f,_⟩=>f.seq hkl) ?_ ?_⟩
  ·obtain ⟨kv,c1,c2⟩:=hme3
   exact ⟨kv,c1,c2.congr fun h=>by simp⟩
  ·obtain ⟨kv,c1,A,c2,c3⟩:=hkn3
   exact ⟨kv,c1,A,c2.congr fun h=>by simp,fun p r e=>c3 p r (by simpa using e)⟩
  ·rintro i y σ H4 hi ⟨v7,rfl,f4,hm4,hk4⟩
   obtain ⟨x,hx,rfl⟩:∃ x,ks[i]?=some x∧y=V.ref x.2:=by
    rw [List.getElem?_map] at hi
    cases e:ks[i]? with
    | none=>rw [e] at hi;cases hi
    | some x=>rw [e] at hi;exact ⟨x,rfl,(Option.some.inj hi).symm⟩
   obtain ⟨c1,c2,c3⟩:=hkt x (List.mem_of_getElem? hx)
   obtain ⟨r,hr0⟩:=knot_cons ok2 x.1
   rw [c3] at hr0
   have nt3:t.th∉[t.kn,t.me]:=fun h=>nt (by simp at h;rcases h with h | h <;> simp [h])
   refine ⟨_,rfl,t.th,dx,_,rfl,f4.at_ (f3.at_ ho nt2) nt3,Z6r,_,rfl,t,_,_,x.1,r,x.2,rfl,⟨dx,f4.at_ (f3.at_ ho nt2) nt3⟩,hk4,hm4,n6,by rw [← hr0];exact f4.lst c2,fun q hq=>hob q (hknew x.1 c1 q (by rw [hr0];exact hq)),fun h e=>?_,fun q e=>?_,fun H5 f5 hm5 hk5=>?_⟩
   ·split at e
    ·rename_i h0
     obtain ⟨y,hy,ey⟩:=List.any_eq_true.mp h0
     have:y.1=h:=by simpa using ey
     rw [← this];exact hob _ (hkt y (List.mem_of_mem_take hy)).1
    ·unfold meF isHead at e
     split at e
     ·rename_i h0
      rw [Bool.and_eq_true] at h0
      exact ok.lt h (has_iff.mp h0.1)
     ·cases e
   ·split at e
    ·rename_i h0
     obtain ⟨y,hy,ey⟩:=List.any_eq_true.mp h0
     have:q∈knot s2 y.1:=by simpa using ey
     exact hob q (hknew y.1 (hkt y (List.mem_of_mem_take hy)).1 q this)
    ·unfold knotR at e
     split at e
     ·rename_i h0;exact ok.lt q (has_iff.mp h0)
     ·cases e
   ·refine ⟨_,rfl,f4.trans f5,?_,?_⟩
    ·obtain ⟨kv,d1,d2⟩:=hm5
     refine ⟨kv,d1,d2.congr fun h=>?_⟩
     rw [take_snoc' hx,List.any_append]
     by_cases e:h=x.1
     ·simp [e]
     ·have:(x.1==h)=false:=by simpa using fun z:x.1=h=>e z.symm
      have e3:[x].any (fun x=>x.1==h)=false:=by rw [List.any_cons,this];rfl
      rw [e3,Bool.or_false,if_neg e]
    ·obtain ⟨kv,d1,A,d2,d3⟩:=hk5
     have key:∀ q,(if q∈x.1::r then some (x.1::r) else if (ks.take i).any (fun x=>(knot s2 x.1).contains q) then some (knot s2 q) else knotR s q)=if (ks.take (i+1)).any (fun x=>(knot s2 x.1).contains q) then some (knot s2 q) else knotR s q:=fun q=>by
      rw [take_snoc' hx,List.any_append]
      by_cases e:q∈x.1::r
      ·rw [if_pos e,← hr0]
       rw [← hr0] at e
       have e2:(knot s2 x.1).contains q=true:=by simpa using e
       have e3:[x].any (fun x=>(knot s2 x.1).contains q)=true:=by rw [List.any_cons,e2];rfl
       rw [e3,Bool.or_true,if_pos rfl,knot_eq ok2 e]
      ·rw [if_neg e]
       rw [← hr0] at e
       have e2:(knot s2 x.1).contains q=false:=by simpa using e
       have e3:[x].any (fun x=>(knot s2 x.1).contains q)=false:=by rw [List.any_cons,e2];rfl
       rw [e3,Bool.or_false]
     exact RowsAt.congr ⟨kv,d1,A,d2,d3⟩ key
  ·rintro σ H4 ⟨v7,rfl,f4,hm4,hk4⟩
   rw [List.length_map,List.take_length] at hm4 hk4
   have hany:∀ q,ks.any (fun x=>(knot s2 x.1).contains q)=true↔q∈outs:=fun q=>by
    rw [List.any_eq_true]
    constructor
    ·rintro ⟨x,hx,e⟩
     exact hknew x.1 (hkt x hx).1 q (by simpa using e)
    ·intro hq
     obtain ⟨x,hx,e⟩:=hcov q hq
     exact ⟨x,hx,by simpa using e⟩
   have hk5:RowsAt H4 t.kn (knotR s2):=by
    have key:∀ q,(if ks.any (fun x=>(knot s2 x.1).contains q) then some (knot s2 q) else knotR s q)=knotR s2 q:=fun q=>by
     by_cases e:q∈outs
     ·rw [if_pos ((hany q).mpr e),knotR_of (hov q e)]
     ·rw [if_neg fun z=>e ((hany q).mp z)]
      by_cases e2:q∈s.valid
      ·rw [knotR_of e2,knotR_of ((hv2 q).mpr (.inr e2)),hold q e2]
      ·unfold knotR
       rw [if_neg fun z=>e2 (has_iff.mp z),if_neg fun z=>((hv2 q).mp (has_iff.mp z)).elim e e2]
    obtain ⟨kv,d1,A,d2,d3⟩:=hk4
    exact RowsAt.congr ⟨kv,d1,A,d2,d3⟩ key
   have hm5:DictAt H4 t.me (fun h=>((if isHead s2 h then some ((cnt s h:Nat):Int) else none:Option Int)).map V.int):=by
    obtain ⟨kv,d1,d2⟩:=hm4
    refine ⟨kv,d1,d2.congr fun h=>?_⟩
    have h1:ks.any (fun x=>x.1==h)=true↔h∈outs∧head s2 h=h:=by
     rw [List.any_eq_true]
     constructor
     ·rintro ⟨x,hx,e⟩
      have e':x.1=h:=by simpa using e
      rw [← e'];exact ⟨(hkt x hx).1,(hkt x hx).2.2⟩
     ·rintro ⟨e1,e2⟩
      obtain ⟨x,hx,e3⟩:=hcov h e1
      have:=head_eq ok2 e3
      rw [e2,(hkt x hx).2.2] at this
      exact ⟨x,hx,by simpa using this.symm⟩
    by_cases e:ks.any (fun x=>x.1==h)=true
    ·rw [if_pos e]
     obtain ⟨e1,e2⟩:=h1.mp e
     have:isHead s2 h=true:=by unfold isHead;rw [has_z (hov h e1)];simpa using e2
     rw [if_pos this,cnt_none ok (hon h e1)];rfl
    ·rw [if_neg e]
     unfold meF
     have:isHead s2 h=isHead s h:=by
      unfold isHead
      by_cases e2:h∈s.valid
      ·have a1:head s2 h=head s h:=by unfold head;rw [hold h e2]
       rw [has_z e2,has_z ((hv2 h).mpr (.inr e2)),a1]
      ·have a1:s.has h=false:=has_false.mpr e2
       rw [a1]
       by_cases e3:h∈outs
       ·have:head s2 h≠h:=fun z=>e (h1.mpr ⟨e3,z⟩)
        simp [this]
       ·have a2:s2.has h=false:=has_false.mpr fun z=>((hv2 h).mp z).elim e3 e2
        rw [a2];rfl
     rw [this]
     by_cases e4:isHead s h=true
     ·rw [if_pos e4,if_pos e4];rfl
     ·rw [if_neg e4,if_neg e4];rfl
   have hrf4:RowsAt H4 t.rf (refsR s2):=hrf3.fx f4 (by simp;exact ⟨n4,n5⟩)
   have nt3:t.th∉[t.kn,t.me]:=fun h=>nt (by simp at h;rcases h with h | h <;> simp [h])
   have ho4:H4 t.th=_:=f4.at_ (f3.at_ ho nt2) nt3
   refine ⟨_,rfl,pl,rfl,⟨_,SqL.of (f4.lst (f3.lst hpl))⟩,for_list (K:=K) (a:=pl) (xs:=ivs outs) (fun i σ H'=>∃ v6,σ=[some (.ref t.th),some (.ref pl),some (.ref sl),some (.ref rl),some (.ref ed),v5,v6,v7]∧Fx [t.me] H4 H' ∧
     DictAt H' t.me (fun h=>((if isHead s2 h then some ((cnt s h:Nat)+(((outs.take i).map fun p=>cR s2 p h).sum:Nat):Int) else none:Option Int)).map V.int))
    ⟨v6,rfl,Fx.refl _ _,?_⟩ (fun i σ H' _ ⟨_,_,f,_⟩=>f.seq (f4.lst (f3.lst hpl))) ?_ ?_⟩
   ·obtain ⟨kv,d1,d2⟩:=hm5
    exact ⟨kv,d1,d2.congr fun h=>by simp⟩
   ·rintro i y σ H5 hi ⟨v6,rfl,f5,hm6⟩
    obtain ⟨p,hp,rfl⟩:=get_ivs hi
    have hpo:=List.mem_of_getElem? hp
    have hpv:=hov p hpo
    have ntm:t.th∉[t.me]:=fun h=>nt (by simp at h;simp [h])
    obtain ⟨ro,hro⟩:=knot_cons ok2 p
    refine ⟨_,rfl,t.th,dx,_,rfl,f5.at_ ho4 ntm,Z1X,_,rfl,t,refsR s2,knotR s2,_,p,1,s2.refs p,ro,head s2 p,head s2,rfl,⟨dx,f5.at_ ho4 ntm⟩,hrf4.fx f5 (by simpa using n5),hk5.fx f5 (by simpa using n6),hm6,n5,n6,refsR_of hpv,by rw [knotR_of hpv,hro],fun q hq=>?_,fun q hq hne=>?_,fun h e=>?_,fun H6 f6 hm7=>?_⟩
    ·obtain ⟨rq,hrq⟩:=knot_cons ok2 q
     exact ⟨rq,by rw [knotR_of (ok2.refs_val hq),hrq]⟩
    ·have:isHead s2 (head s2 q)=true:=by
      unfold isHead
      rw [has_z (head_valid ok2 (ok2.refs_val hq)),head_head ok2];simp
     exact ⟨_,by rw [if_pos this]⟩
    ·split at e
     ·rename_i h0
      unfold isHead at h0
      rw [Bool.and_eq_true] at h0
      exact ok2.lt h (has_iff.mp h0.1)
     ·cases e
    ·refine ⟨_,rfl,f5.trans f6,?_⟩
     obtain ⟨kv,d1,d2⟩:=hm7
     refine ⟨kv,d1,d2.congr fun h=>?_⟩
     by_cases e:isHead s2 h=true
     ·rw [if_pos e,if_pos e,take_snoc' hp,List.map_append,List.sum_append]
      have:cM (head s2 p) (head s2) (s2.refs p) h=cR s2 p h:=rfl
      rw [this]
      simp only [Option.map_some,Option.some.injEq,V.int.injEq,List.map_cons,List.map_nil,List.sum_cons,List.sum_nil]
      omega
     ·rw [if_neg e,if_neg e];rfl
   ·rintro σ H5 ⟨v6,rfl,f5,hm6⟩
    rw [ivs_len,List.take_length] at hm6
    have g5:Fx [t.siz,t.rf,t.kn,t.me] H H5:=((f3.mono (by simp)).trans (f4.mono (by simp))).trans (f5.mono (by simp))
    refine k H5 g5 ⟨⟨dx,g5.at_ ho nt⟩,?_,hrf4.fx f5 (by simpa using n5),hk5.fx f5 (by simpa using n6),?_,hnd⟩
    ·have hz4:DictAt H5 t.siz (fun p=>if p∈outs then some (.int (sizeOf s2 p:Nat)) else sizF s p):=(hz3.fx f4 (by simp;exact ⟨n2,n3⟩)).fx f5 (by simpa using n3)
     obtain ⟨kv,d1,d2⟩:=hz4
     refine ⟨kv,d1,d2.congr fun p=>?_⟩
     unfold sizF
     by_cases e:p∈outs
     ·rw [if_pos e,if_pos (has_z (hov p e))]
     ·rw [if_neg e]
      by_cases e2:p∈s.valid
      ·rw [if_pos (has_z e2),if_pos (has_z ((hv2 p).mpr (.inr e2)))]
       have:=size_old (ns:=ns) ok.asc (by rw [hs2];exact ok2.asc) e2
       rw [hs2] at this
       rw [this]
      ·rw [if_neg fun z=>e2 (has_iff.mp z),if_neg fun z=>((hv2 p).mp (has_iff.mp z)).elim e e2]
    ·obtain ⟨kv,d1,d2⟩:=hm6
     refine ⟨kv,d1,d2.congr fun h=>?_⟩
     unfold meF
     have:cnt s2 h=cnt s h+((outs.map fun p=>cR s2 p h).sum):=by
      have:=cnt_putAll (ns:=ns) ok (by rw [hs2];exact ok2) h
      rw [hs2] at this
      rw [this,houts,List.map_map];rfl
     by_cases e:isHead s2 h=true
     ·rw [if_pos e,if_pos e,this]
      simp
     ·rw [if_neg e,if_neg e];rfl
end
end Go
end
section
set_option maxHeartbeats 2000000
namespace Go
open PySem PySem.Spec PyProof.Rows L2 LX VL
open Vastoj (Store Node knot closure isTop)
section
variable {P:Program}{w:World}{K:PySem.W.Frag}{mg:Str→Option Value}{base:Heap}{a:Ad}
def spTake (a:Ad):Sp:=fun vs H Q _=>∃ (t:ThAd) (s:Store) (p:Nat) (kp:Addr),vs=[.ref t.th,.ref kp]∧ThAt a H t s∧StoreOk s∧p∈s.valid∧isTop s p=true∧H kp=some (.lst (ivs (knot s p))) ∧
 ∀ H',Fx [t.siz,t.rf,t.kn,t.me] H H'→ThAt a H' t (without s (knot s p))→Q .non H'
theorem Z6j (T:Txt K mg a):Pr P w K mg base 2 a.Z2f ["self","knot"] (spTake a):=by
 refine pr_of' T.Z75 Z1Q fun cdv A outer s H vs Q E hr h=>?_
 obtain ⟨t,s,p,kp,rfl,ht,ok,hp,htop,hkp,k⟩:=h
 refine ⟨_,(pss_cons (ps_for PassesOwn.never rfl (pi_list (pv 1)) (pn 2 Z1Q.nd) (pss_one (ps_expr (pc_m (pv 0) T.Z3 T.Z2c (Z24 T) (hr.mono (by decide)) (pa_cons (pv 2) (pa_cons (pe_un un_neg pe_int) pa_nil))))))
   (pss_cons (ps_for PassesOwn.never rfl (pi_list (pv 1)) (pn 2 Z1Q.nd) (pss_cons (ps_expr (pe_dpop1 (pe_fld (pv 0) rfl) (pv 2) ⟨rfl,rfl,rfl,rfl⟩))
   (pss_cons (ps_expr (pe_dpop1 (pe_fld (pv 0) rfl) (pv 2) ⟨rfl,rfl,rfl,rfl⟩))
   (pss_one (ps_expr (pe_dpop1 (pe_fld (pv 0) rfl) (pv 2) ⟨rfl,rfl,rfl,rfl⟩))))))
   (pss_one (ps_expr (pe_dpop1 (pe_fld (pv 0) rfl) (pe_ix ix_list (pv 1) pe_int (fun _ _=>rfl)) ⟨rfl,rfl,rfl,rfl⟩))))),?_⟩
 obtain ⟨⟨dx,ho⟩,⟨kvz,z1,z2⟩,⟨kvr,r1,RA,r2,r3⟩,hkn,⟨kvm,m1,m2⟩,hnd⟩:=ht
 obtain ⟨kvk,k1,KA,k2,k3⟩:=id hkn
 have nd:t.siz≠t.rf∧t.siz≠t.kn∧t.siz≠t.me∧t.rf≠t.kn∧t.rf≠t.me∧t.kn≠t.me:=by
  simp at hnd
  exact ⟨hnd.1.1,hnd.1.2.1,hnd.1.2.2,hnd.2.1.1,hnd.2.1.2,hnd.2.2⟩
 obtain ⟨n1,n2,n3,n4,n5,n6⟩:=nd
 have nt:t.th∉[t.siz,t.rf,t.kn,t.me]:=by
  simp only [List.mem_cons,List.not_mem_nil,or_false,not_or]
  exact ⟨ne_of ho z1 (by intro z;cases z),ne_of ho r1 (by intro z;cases z),ne_of ho k1 (by intro z;cases z),ne_of ho m1 (by intro z;cases z)⟩
 have ntm:t.th∉[t.me]:=fun h=>nt (by simp at h;simp [h])
 have hrf:RowsAt H t.rf (refsR s):=⟨kvr,r1,RA,r2,r3⟩
 have hkv:∀ q∈knot s p,q∈s.valid:=fun q hq=>knot_valid ok hp hq
 have hknd:(knot s p).Nodup:=(asc_knot s p).nodup
 refine ⟨_,rfl,kp,rfl,⟨_,SqL.of hkp⟩,for_list (K:=K) (a:=kp) (xs:=ivs (knot s p)) (fun i σ H'=>∃ v2,σ=[some (.ref t.th),some (.ref kp),v2]∧Fx [t.me] H H' ∧
   DictAt H' t.me (fun h=>((if isHead s h then some ((cnt s h:Nat) - ((((knot s p).take i).map fun q=>cR s q h).sum:Nat):Int) else none:Option Int)).map V.int))
  ⟨none,rfl,Fx.refl _ _,kvm,m1,m2.congr fun h=>?_⟩ (fun i σ H' _ ⟨_,_,f,_⟩=>f.seq hkp) ?_ ?_⟩
 ·unfold meF
  by_cases e:isHead s h=true
  ·rw [if_pos e,if_pos e];simp
  ·rw [if_neg e,if_neg e];rfl
 ·rintro i y σ H1 hi ⟨v2,rfl,f,hm⟩
  obtain ⟨q,hq,rfl⟩:=get_ivs hi
  have hqv:=hkv q (List.mem_of_getElem? hq)
  obtain ⟨ro,hro⟩:=knot_cons ok q
  refine ⟨_,rfl,t.th,dx,_,rfl,f.at_ ho ntm,Z1X,_,rfl,1,rfl,t,refsR s,knotR s,_,q,-1,s.refs q,ro,head s q,head s,rfl,⟨dx,f.at_ ho ntm⟩,hrf.fx f (by simpa using n5),hkn.fx f (by simpa using n6),hm,n5,n6,refsR_of hqv,by rw [knotR_of hqv,hro],fun x hx=>?_,fun x hx hne=>?_,fun h e=>?_,fun H2 f2 hm2=>?_⟩
  ·obtain ⟨rq,hrq⟩:=knot_cons ok x
   exact ⟨rq,by rw [knotR_of (ok.refs_val hx),hrq]⟩
  ·have:isHead s (head s x)=true:=by
    unfold isHead
    rw [has_z (head_valid ok (ok.refs_val hx)),head_head ok];simp
   exact ⟨_,by rw [if_pos this]⟩
  ·split at e
   ·rename_i h0
    unfold isHead at h0
    rw [Bool.and_eq_true] at h0
    exact ok.lt h (has_iff.mp h0.1)
   ·cases e
  ·refine ⟨_,rfl,f.trans f2,?_⟩
   obtain ⟨kv,d1,d2⟩:=hm2
   refine ⟨kv,d1,d2.congr fun h=>?_⟩
   by_cases e:isHead s h=true
   ·rw [if_pos e,if_pos e,take_snoc' hq,List.map_append,List.sum_append]
    have:cM (head s q) (head s) (s.refs q) h=cR s q h:=rfl
    rw [this]
    simp only [Option.map_some,Option.some.injEq,V.int.injEq,List.map_cons,List.map_nil,List.sum_cons,List.sum_nil]
    omega
   ·rw [if_neg e,if_neg e];rfl
 ·rintro σ H1 ⟨v2,rfl,f,hm⟩
  rw [ivs_len,List.take_length] at hm
  have ho1:=f.at_ ho ntm
  have z1':=f.at_ z1 (by simpa using n3:t.siz∉[t.me])
  have r1':=f.at_ r1 (by simpa using n5:t.rf∉[t.me])
  have k1':=f.at_ k1 (by simpa using n6:t.kn∉[t.me])
  have nt3:t.th∉[t.siz,t.rf,t.kn]:=fun h=>nt (by simp at h;rcases h with h | h | h <;> simp [h])
  refine ⟨_,rfl,kp,rfl,⟨_,f.seq hkp⟩,for_list (K:=K) (a:=kp) (xs:=ivs (knot s p)) (fun i σ H'=>∃ v2,σ=[some (.ref t.th),some (.ref kp),v2]∧Fx [t.siz,t.rf,t.kn] H1 H' ∧
    DictAt H' t.siz (fun q=>if q∈(knot s p).take i then none else sizF s q)∧DictAt H' t.rf (fun q=>if q∈(knot s p).take i then none else (refsR s q).map fun _=>V.ref (RA q))∧DictAt H' t.kn (fun q=>if q∈(knot s p).take i then none else (knotR s q).map fun _=>V.ref (KA q)))
   ⟨v2,rfl,Fx.refl _ _,⟨kvz,z1',z2.congr fun q=>by simp⟩,⟨kvr,r1',r2.congr fun q=>by simp⟩,⟨kvk,k1',k2.congr fun q=>by simp⟩⟩ (fun i σ H' _ ⟨_,_,f2,_⟩=>f2.seq (f.lst hkp)) ?_ ?_⟩
  ·rintro i y σ H2 hi ⟨v2,rfl,f2,⟨kz,a1,a2⟩,⟨kr,b1,b2⟩,⟨kk,c1,c2⟩⟩
   obtain ⟨q,hq,rfl⟩:=get_ivs hi
   have hqk:=List.mem_of_getElem? hq
   have hqv:=hkv q hqk
   have hnot:q∉(knot s p).take i:=fun h=>by
    obtain ⟨j,hj,e⟩:=List.mem_take_iff_getElem.mp h
    have:=nd_ix hknd hq (j:=j) (by rw [← e];exact List.getElem?_eq_getElem (by omega))
    omega
   have ho2:=f2.at_ ho1 nt3
   have v1:valV kz (ky q)=some (.int (sizeOf s q:Nat)):=by rw [a2.get,if_neg hnot];unfold sizF;rw [if_pos (has_z hqv)]
   have v2':valV kr (ky q)=some (.ref (RA q)):=by rw [b2.get,if_neg hnot,refsR_of hqv];rfl
   have v3:valV kk (ky q)=some (.ref (KA q)):=by rw [c2.get,if_neg hnot,knotR_of hqv];rfl
   have t1:t.th≠t.siz:=fun h=>nt (by simp [h])
   have t2:t.th≠t.rf:=fun h=>nt (by simp [h])
   have t3:t.th≠t.kn:=fun h=>nt (by simp [h])
   refine ⟨_,rfl,t.th,_,dx,_,_,rfl,ho2,T.Z3,T.Zl,Zp,t.siz,rfl,.inl ⟨_,Rd.of a1⟩,_,rfl,kz,ky q,_,a1,rfl,v1,?_⟩
   have ho3:(upd H2 t.siz (.dK (dropK kz (ky q)))) t.th=some (.ins a.Za dx (Zc (.ref t.siz) (.ref t.rf) (.ref t.kn) (.ref t.me))):=by rw [upd_ne t1];exact ho2
   have b1':(upd H2 t.siz (.dK (dropK kz (ky q)))) t.rf=some (.dK kr):=by rw [upd_ne n1.symm];exact b1
   refine ⟨_,rfl,t.th,_,dx,_,_,rfl,ho3,T.Z3,T.Zo,Zt,t.rf,rfl,.inl ⟨_,Rd.of b1'⟩,_,rfl,kr,ky q,_,b1',rfl,v2',?_⟩
   have ho4:(upd (upd H2 t.siz (.dK (dropK kz (ky q)))) t.rf (.dK (dropK kr (ky q)))) t.th=some (.ins a.Za dx (Zc (.ref t.siz) (.ref t.rf) (.ref t.kn) (.ref t.me))):=by rw [upd_ne t2];exact ho3
   have c1':(upd (upd H2 t.siz (.dK (dropK kz (ky q)))) t.rf (.dK (dropK kr (ky q)))) t.kn=some (.dK kk):=by rw [upd_ne n4.symm,upd_ne n2.symm];exact c1
   refine ⟨_,rfl,t.th,_,dx,_,_,rfl,ho4,T.Z3,T.ZH,ZS,t.kn,rfl,.inl ⟨_,Rd.of c1'⟩,_,rfl,kk,ky q,_,c1',rfl,v3,?_⟩
   have g1:Fx [t.siz,t.rf,t.kn] H2 (upd H2 t.siz (.dK (dropK kz (ky q)))):=Fx.put a1 (by intro xs z;cases z) (by simp)
   have g2:Fx [t.siz,t.rf,t.kn] (upd H2 t.siz (.dK (dropK kz (ky q)))) (upd (upd H2 t.siz (.dK (dropK kz (ky q)))) t.rf (.dK (dropK kr (ky q)))):=Fx.put b1' (by intro xs z;cases z) (by simp)
   have g3:Fx [t.siz,t.rf,t.kn] (upd (upd H2 t.siz (.dK (dropK kz (ky q)))) t.rf (.dK (dropK kr (ky q)))) (upd (upd (upd H2 t.siz (.dK (dropK kz (ky q)))) t.rf (.dK (dropK kr (ky q)))) t.kn (.dK (dropK kk (ky q)))):=Fx.put c1' (by intro xs z;cases z) (by simp)
   refine ⟨_,rfl,f2.trans (g1.trans (g2.trans g3)),⟨_,by rw [upd_ne n2,upd_ne n1,upd_same],(a2.drop q).congr fun x=>?_⟩,⟨_,by rw [upd_ne n4,upd_same],(b2.drop q).congr fun x=>?_⟩,⟨_,upd_same,(c2.drop q).congr fun x=>?_⟩⟩
   all_goals
    rw [take_snoc' hq]
    by_cases e:x=q
    ·simp [e]
    ·simp [e]
  ·rintro σ H2 ⟨v3,rfl,f2,hz,hr2,hk2⟩
   rw [ivs_len,List.take_length] at hz hr2 hk2
   have ho2:=f2.at_ ho1 nt3
   obtain ⟨kvm2,e1,e2⟩:=hm.fx f2 (by simp;exact ⟨n3.symm,n5.symm,n6.symm⟩:t.me∉[t.siz,t.rf,t.kn])
   obtain ⟨r0,hr0⟩:=knot_cons ok p
   have hh:=head_valid ok hp
   have hih:isHead s (head s p)=true:=by unfold isHead;rw [has_z hh,head_head ok];simp
   refine ⟨_,rfl,t.th,_,dx,_,_,rfl,ho2,T.Z3,T.ZE,ZQ,t.me,rfl,.inl ⟨_,Rd.of e1⟩,_,rfl,kp,_,(0:Int),iv (head s p),rfl,rfl,SqL.of (f2.lst (f.lst hkp)),at_of (j:=0) rfl (by rw [hr0];rfl),kvm2,ky (head s p),_,e1,rfl,by rw [e2.get,if_pos hih];rfl,?_⟩
   have g:Fx [t.siz,t.rf,t.kn,t.me] H (upd H2 t.me (.dK (dropK kvm2 (ky (head s p))))):=(f.mono (by simp)).trans ((f2.mono (by simp)).trans (Fx.put e1 (by intro xs z;cases z) (by simp)))
   have ok2:=storeOk_without ok htop
   have hv2:∀ q,q∈(without s (knot s p)).valid↔q∈s.valid∧q∉knot s p:=fun q=>mem_without
   refine k _ g ⟨⟨dx,g.at_ ho nt⟩,?_,?_,?_,⟨_,upd_same,(e2.drop (head s p)).congr fun h=>?_⟩,hnd⟩
   ·obtain ⟨kz,a1,a2⟩:=hz
    refine ⟨kz,by rw [upd_ne n3];exact a1,a2.congr fun q=>?_⟩
    unfold sizF
    by_cases e:q∈knot s p
    ·rw [if_pos e,if_neg fun z=>((hv2 q).mp (has_iff.mp z)).2 e]
    ·rw [if_neg e]
     by_cases e2:q∈s.valid
     ·rw [if_pos (has_z e2),if_pos (has_z ((hv2 q).mpr ⟨e2,e⟩)),size_without ok.asc ok2.asc e2 e]
     ·rw [if_neg fun z=>e2 (has_iff.mp z),if_neg fun z=>e2 ((hv2 q).mp (has_iff.mp z)).1]
   ·obtain ⟨kz,a1,a2⟩:=hr2
    refine ⟨kz,by rw [upd_ne n5];exact a1,RA,a2.congr fun q=>?_,fun q r e=>?_⟩
    ·by_cases e:q∈knot s p
     ·have:refsR (without s (knot s p)) q=none:=by unfold refsR;rw [if_neg fun z=>((hv2 q).mp (has_iff.mp z)).2 e]
      rw [if_pos e,this];rfl
     ·rw [if_neg e]
      by_cases e2:q∈s.valid
      ·rw [refsR_of e2,refsR_of ((hv2 q).mpr ⟨e2,e⟩)];rfl
      ·have a1:refsR s q=none:=by unfold refsR;rw [if_neg fun z=>e2 (has_iff.mp z)]
       have a2:refsR (without s (knot s p)) q=none:=by unfold refsR;rw [if_neg fun z=>e2 ((hv2 q).mp (has_iff.mp z)).1]
       rw [a1,a2]
    ·obtain ⟨hq,rfl⟩:=refsR_some e
     obtain ⟨q1,q2⟩:=(hv2 q).mp hq
     rw [refs_without ok.asc q1 q2]
     exact g.lst (r3 q _ (refsR_of q1))
   ·obtain ⟨kz,a1,a2⟩:=hk2
    refine ⟨kz,by rw [upd_ne n6];exact a1,KA,a2.congr fun q=>?_,fun q r e=>?_⟩
    ·by_cases e:q∈knot s p
     ·have:knotR (without s (knot s p)) q=none:=by unfold knotR;rw [if_neg fun z=>((hv2 q).mp (has_iff.mp z)).2 e]
      rw [if_pos e,this];rfl
     ·rw [if_neg e]
      by_cases e2:q∈s.valid
      ·rw [knotR_of e2,knotR_of ((hv2 q).mpr ⟨e2,e⟩)];rfl
      ·have a1:knotR s q=none:=by unfold knotR;rw [if_neg fun z=>e2 (has_iff.mp z)]
       have a2:knotR (without s (knot s p)) q=none:=by unfold knotR;rw [if_neg fun z=>e2 ((hv2 q).mp (has_iff.mp z)).1]
       rw [a1,a2]
    ·have hq:q∈(without s (knot s p)).valid:=by
      unfold knotR at e
      split at e
      ·rename_i h;exact has_iff.mp h
      ·cases e
     rw [knotR_of hq] at e
     obtain rfl:=Option.some.inj e
     obtain ⟨q1,q2⟩:=(hv2 q).mp hq
     rw [knot_without ok htop q1 q2]
     exact g.lst (k3 q _ (knotR_of q1))
   ·unfold meF
    by_cases e:h=head s p
    ·subst e
     have:isHead (without s (knot s p)) (head s p)=false:=by
      unfold isHead
      rw [has_false.mpr fun z=>((hv2 _).mp z).2 (head_mem ok p)];rfl
     rw [if_pos rfl,this];rfl
    ·rw [if_neg e]
     have hi:isHead (without s (knot s p)) h=isHead s h:=by
      unfold isHead
      by_cases e2:h∈s.valid
      ·by_cases e3:h∈knot s p
       ·have a1:head s h≠h:=fun z=>e (by rw [← z,head_eq ok e3])
        rw [has_false.mpr fun z=>((hv2 _).mp z).2 e3]
        simp [a1]
       ·rw [has_z e2,has_z ((hv2 h).mpr ⟨e2,e3⟩),head_without ok htop e2 e3]
      ·rw [has_false.mpr e2,has_false.mpr fun z=>e2 ((hv2 _).mp z).1];rfl
     rw [hi]
     by_cases e4:isHead s h=true
     ·rw [if_pos e4,if_pos e4]
      have:=cnt_without ok htop hp h
      simp only [Option.map_some,Option.some.injEq,V.int.injEq]
      omega
     ·rw [if_neg e4,if_neg e4];rfl
end
end Go
end
section
set_option maxHeartbeats 2000000
namespace Go
open PySem PySem.Spec PyProof.Rows L2 LX VL
open Vastoj (Store Node knot closure isTop)
section
variable {P:Program}{w:World}{K:PySem.W.Frag}{mg:Str→Option Value}{base:Heap}{a:Ad}
def spCoInit (a:Ad):Sp:=fun vs H Q _=>∃ p dx,vs=[.ref p]∧H p=some (.ins a.Z2 dx [])∧∀ (H':Hp) (c:CoAd),c.co=p→H c.bl=none→H c.gr=none→CoAt a H' c 0 [] [] 0 0→(∀ b o,H b=some o→b≠p→H' b=some o)→Q .non H'
theorem Z7t (T:Txt K mg a):Pr P w K mg base 1 a.Z31 ["self"] (spCoInit a):=by
 refine pr_of' T.Z17 Z7r fun cdv A outer s H vs Q E hr h=>?_
 obtain ⟨p,dx,rfl,hp,k⟩:=h
 refine ⟨_,(pss_cons (ps_fld (pv 0) (pk T.Z9I) rfl)
   (pss_cons (ps_fld (pv 0) pe_dnewK rfl)
   (pss_cons (ps_fld (pv 0) pe_dnewK rfl)
   (pss_cons (ps_fld (pv 0) pe_int rfl)
   (pss_one (ps_fld (pv 0) pe_int rfl)))))),?_⟩
 refine ⟨_,rfl,p,a.Z2,dx,[],rfl,hp,T.Z0,T.Zi,by decide,?_⟩
 intro d1 h1
 have n1:p≠d1:=fun e=>by rw [← e,upd_same] at h1;cases h1
 refine ⟨_,rfl,p,a.Z2,dx,_,rfl,by rw [upd_ne n1,upd_same],T.Z0,T.Zn,by show 1<1000;decide,?_⟩
 intro d2 h2
 have n2:p≠d2:=fun e=>by rw [← e,upd_same] at h2;cases h2
 have n12:d1≠d2:=fun e=>by rw [← e,upd_ne n1.symm,upd_same] at h2;cases h2
 refine ⟨_,rfl,p,a.Z2,dx,_,rfl,by rw [upd_ne n2,upd_same],T.Z0,T.Zv,by show 2<1000;decide,?_⟩
 refine ⟨_,rfl,p,a.Z2,dx,_,rfl,upd_same,T.Z0,T.Z1h,by show 3<1000;decide,?_⟩
 refine ⟨_,rfl,p,a.Z2,dx,_,rfl,upd_same,T.Z0,T.ZN,by show 4<1000;decide,?_⟩
 have q1:H d1=none:=by rw [upd_ne n1.symm] at h1;exact h1
 have q2:H d2=none:=by rw [upd_ne n2.symm,upd_ne n12.symm,upd_ne n2.symm] at h2;exact h2
 refine k _ ⟨p,d1,d2⟩ rfl q1 q2 ⟨⟨dx,by rw [upd_same,Z9w];rfl⟩,⟨[],?_,DSet.nil.congr (by simp)⟩,⟨[],?_,DSet.nil.congr (by simp)⟩,n12⟩ fun b o e hb=>?_
 ·show _=some (HO.dK [])
  rw [upd_ne n1.symm,upd_ne n1.symm,upd_ne n1.symm,upd_ne n12,upd_ne n1.symm,upd_same]
 ·show _=some (HO.dK [])
  rw [upd_ne n2.symm,upd_ne n2.symm,upd_ne n2.symm,upd_same]
 ·have m1:b≠d1:=ne_of_none e q1
  have m2:b≠d2:=ne_of_none e q2
  rw [upd_ne hb,upd_ne hb,upd_ne hb,upd_ne m2,upd_ne hb,upd_ne m1,upd_ne hb];exact e
def spIdle (a:Ad):Sp:=fun vs H Q _=>∃ (c:CoAd) (ph:Nat) (b g:List Nat) (need won:Nat),vs=[.ref c.co]∧CoAt a H c ph b g need won∧Q (.bl (decide (ph=0))) H
theorem dec_nat (m n:Nat):decide (V.int ((m:Nat):Int)=V.int ((n:Nat):Int))=decide (m=n):=by
 rw [Bool.eq_iff_iff,decide_eq_true_eq,decide_eq_true_eq]
 constructor
 ·intro e;have:=V.int.inj e;omega
 ·intro e;rw [e]
theorem Z3h (T:Txt K mg a):Pr P w K mg base 1 a.Z1P ["self"] (spIdle a):=by
 refine pr_of' T.Z6k Z5S fun cdv A outer s H vs Q E hr h=>?_
 obtain ⟨c,ph,b,g,need,won,rfl,hc,k⟩:=h
 refine ⟨_,(pss_one (ps_ret (pe_cmpR op_eq (pe_fld (pv 0) rfl) (pk T.Z9I) (nomark _)))),?_⟩
 obtain ⟨dx,ho⟩:=hc.ob
 refine ⟨_,rfl,c.co,_,dx,_,_,rfl,ho,T.Z0,T.Zi,ZA,rfl,?_⟩
 show Q (.bl (decide (V.int ((ph:Nat):Int)=V.int ((0:Nat):Int)))) H
 rw [dec_nat];exact k
def spGrey (a:Ad):Sp:=fun vs H Q _=>∃ (c:CoAd) (ph:Nat) (b g:List Nat) (need won:Nat) (pl:Addr) (l:List Nat),vs=[.ref c.co,.ref pl]∧CoAt a H c ph b g need won∧H pl=some (.lst (ivs l))∧(∀ q∈l,q<128)∧(∀ q∈g,q<128) ∧
 ∀ H',Fx [c.gr] H H'→(∀ g':List Nat,(∀ q,q∈g'↔q∈g∨(q∈l∧q∉b))→CoAt a H' c ph b g' need won)→Q .non H'
theorem Z1j (T:Txt K mg a):Pr P w K mg base 1 a.Z1x ["self","places"] (spGrey a):=by
 refine pr_of' T.Z5H Z2P fun cdv A outer s H vs Q E hr h=>?_
 obtain ⟨c,ph,b,g,need,won,pl,l,rfl,hc,hpl,hb,hg,k⟩:=h
 refine ⟨_,(pss_one (ps_for PassesOwn.never rfl (pi_list (pv 1)) (pn 2 Z2P.nd) (pss_one (ps_if (pt_cmp (pc_dnotin (hu_of hr) (pv 2) (pe_fld (pv 0) rfl))) (pss_one (ps_dput (hu_of hr) (pe_fld (pv 0) rfl) (pv 2) pe_bl rfl)) pss_nil)))),?_⟩
 obtain ⟨⟨dx,ho⟩,⟨kvb,b1,b2⟩,⟨kvg,g1,g2⟩,nbg⟩:=hc
 have n1:c.co≠c.gr:=ne_of ho g1 (by intro z;cases z)
 refine ⟨_,rfl,pl,rfl,⟨_,SqL.of hpl⟩,for_list (K:=K) (a:=pl) (xs:=ivs l) (fun j σ H'=>∃ v,σ=[some (.ref c.co),some (.ref pl),v]∧Fx [c.gr] H H'∧SetAt H' c.gr (fun q=>q∈g∨(q∈l.take j∧q∉b)))
  ⟨none,rfl,Fx.refl _ _,kvg,g1,g2.congr fun q=>by simp⟩ (fun j σ H' _ ⟨_,_,f,_⟩=>f.seq hpl) ?_ ?_⟩
 ·rintro j y σ H1 hj ⟨v,rfl,f,kv,e1,e2⟩
  obtain ⟨q,hq,rfl⟩:=get_ivs hj
  have ho1:=f.at_ ho (by simpa using n1)
  have hb1:=f.at_ b1 (by simpa using nbg)
  have hkl:kv.length≤128:=e2.le (n:=128) fun x hx=>hx.elim (hg x) fun h=>hb x (List.mem_of_mem_take h.1)
  refine ⟨_,rfl,_,rfl,c.co,_,dx,_,_,rfl,ho1,T.Z0,T.Zn,ZD,c.bl,_,rfl,.inl ⟨kvb,ky q,.inl hb1,rfl,rfl⟩,_,rfl,?_⟩
  by_cases hqb:q∈b
  ·rw [b2.get hqb]
   refine iteF ⟨_,rfl,f,kv,e1,e2.congr fun x=>?_⟩
   rw [take_snoc' hq,List.mem_append,List.mem_singleton]
   constructor
   ·rintro (h | h)
    ·exact .inl h
    ·exact .inr ⟨.inl h.1,h.2⟩
   ·rintro (h | ⟨h1 | h1,h2⟩)
    ·exact .inl h
    ·exact .inr ⟨h1,h2⟩
    ·rw [h1] at h2;exact absurd hqb h2
  ·have hno:valV kvb (ky q)=none:=b2.not (z:=(q:Int)) fun p e s=>hqb ((show p=q by omega)▸s)
   rw [hno]
   refine iteT ?_
   refine ⟨_,rfl,c.co,_,dx,_,_,rfl,ho1,T.Z0,T.Zv,ZX,_,rfl,c.gr,_,rfl,DPut.k (k:=ky q) e1 (line_of_le (by omega)),_,rfl,f.trans (Fx.put e1 (by intro xs z;cases z) (by simp)),_,upd_same,(e2.put q).congr fun x=>?_⟩
   rw [take_snoc' hq,List.mem_append,List.mem_singleton]
   constructor
   ·rintro ((h | h) | h)
    ·exact .inl h
    ·exact .inr ⟨.inl h.1,h.2⟩
    ·exact .inr ⟨.inr h,by rw [h];exact hqb⟩
   ·rintro (h | ⟨h1 | h1,h2⟩)
    ·exact .inl (.inl h)
    ·exact .inl (.inr ⟨h1,h2⟩)
    ·exact .inr h1
 ·rintro σ H1 ⟨v,rfl,f,kv,e1,e2⟩
  rw [ivs_len,List.take_length] at e2
  exact k H1 f fun g' hg'=>⟨⟨dx,f.at_ ho (by simpa using n1)⟩,⟨kvb,f.at_ b1 (by simpa using nbg),b2⟩,⟨kv,e1,e2.congr fun q=>(hg' q).symm⟩,nbg⟩
def PlAt (K:PySem.W.Frag) (H:Hp) (pl:Addr) (S:Nat→Prop):Prop:=(∃ l,H pl=some (.lst (ivs l))∧∀ q,q∈l↔S q)∨SetAt H pl S
def spBlack (K:PySem.W.Frag) (a:Ad):Sp:=fun vs H Q _=>∃ (c:CoAd) (ph:Nat) (b g:List Nat) (need won:Nat) (pl:Addr) (S:Nat→Prop),vs=[.ref c.co,.ref pl]∧CoAt a H c ph b g need won∧PlAt K H pl S∧pl≠c.bl∧(∀ q,S q→q<128)∧(∀ q∈b,q<128) ∧
 ∀ H',Fx [c.bl] H H'→(∀ b':List Nat,(∀ q,q∈b'↔q∈b∨S q)→CoAt a H' c ph b' g need won)→Q .non H'
theorem Z2y (T:Txt K mg a):Pr P w K mg base 1 a.Z1l ["self","places"] (spBlack K a):=by
 refine pr_of' T.Z5m Z18 fun cdv A outer s H vs Q E hr h=>?_
 obtain ⟨c,ph,b,g,need,won,pl,S,rfl,hc,hpl,hne,hb,hbb,k⟩:=h
 refine ⟨_,(pss_one (ps_or (ps_for PassesOwn.never rfl (pi_list (pv 1)) (pn 2 Z18.nd) (pss_one (ps_dput (hu_of hr) (pe_fld (pv 0) rfl) (pv 2) pe_bl rfl))) (ps_lock (ps_for PassesOwn.never rfl (pi_keys (pv 1)) (pn 2 Z18.nd) (pss_one (ps_dput (hu_of hr) (pe_fld (pv 0) rfl) (pv 2) pe_bl rfl)))))),?_⟩
 obtain ⟨⟨dx,ho⟩,⟨kvb,b1,b2⟩,⟨kvg,g1,g2⟩,nbg⟩:=hc
 have n1:c.co≠c.bl:=ne_of ho b1 (by intro z;cases z)
 have fin:∀ (H1:Hp) (kv:List (Key×V)),Fx [c.bl] H H1→H1 c.bl=some (.dK kv)→DSet kv (fun q=>q∈b∨S q)→Q .non H1:=fun H1 kv f e1 e2 =>
  k H1 f fun b' hb'=>⟨⟨dx,f.at_ ho (by simpa using n1)⟩,⟨kv,e1,e2.congr fun q=>(hb' q).symm⟩,⟨kvg,f.at_ g1 (by simpa using nbg.symm),g2⟩,nbg⟩
 rcases hpl with ⟨l,hl,hlS⟩ | ⟨kvs,hl,hlS⟩
 ·refine .inl ⟨_,rfl,pl,rfl,⟨_,SqL.of hl⟩,for_list (K:=K) (a:=pl) (xs:=ivs l) (fun j σ H'=>∃ v,σ=[some (.ref c.co),some (.ref pl),v]∧Fx [c.bl] H H'∧SetAt H' c.bl (fun q=>q∈b∨q∈l.take j))
   ⟨none,rfl,Fx.refl _ _,kvb,b1,b2.congr fun q=>by simp⟩ (fun j σ H' _ ⟨_,_,f,_⟩=>f.seq hl) ?_ ?_⟩
  ·rintro j y σ H1 hj ⟨v,rfl,f,kv,e1,e2⟩
   obtain ⟨q,hq,rfl⟩:=get_ivs hj
   have hkl:kv.length≤128:=e2.le (n:=128) fun x hx=>hx.elim (hbb x) fun h=>hb x ((hlS x).mp (List.mem_of_mem_take h))
   refine ⟨_,rfl,c.co,_,dx,_,_,rfl,f.at_ ho (by simpa using n1),T.Z0,T.Zn,ZD,_,rfl,c.bl,_,rfl,DPut.k (k:=ky q) e1 (line_of_le (by omega)),_,rfl,f.trans (Fx.put e1 (by intro xs z;cases z) (by simp)),_,upd_same,(e2.put q).congr fun x=>?_⟩
   rw [take_snoc' hq,List.mem_append,List.mem_singleton,or_assoc]
  ·rintro σ H1 ⟨v,rfl,f,kv,e1,e2⟩
   rw [ivs_len,List.take_length] at e2
   exact fin H1 kv f e1 (e2.congr fun q=>by rw [hlS])
 ·obtain ⟨l,l1,l2,l3,l4⟩:=hlS.keys
  have hlen:kvs.length=l.length:=by
   have:=congrArg List.length l1
   simpa using this
  refine .inr ⟨pl,.dK kvs,hl,trivial,fun od=>⟨_,rfl,pl,od,rfl,.inl ⟨kvs,upd_same,for_keys (d:=pl) (od:=od) (kvs:=kvs) (fun j σ H'=>∃ v,σ=[some (.ref c.co),some (.ref pl),v]∧H' pl=some (.frz od (.dK kvs))∧Fx [c.bl,pl] H H'∧SetAt H' c.bl (fun q=>q∈b∨q∈l.take j))
   ⟨none,rfl,upd_same,Fx.put hl (by intro xs z;cases z) (by simp),kvb,by rw [upd_ne hne.symm];exact b1,b2.congr fun q=>by simp⟩ (fun j σ H' ⟨_,_,h,_⟩=>h) ?_ ?_⟩⟩⟩
  ·rintro j kk v σ H1 hj ⟨v2,rfl,hp1,f,kv,e1,e2⟩
   obtain ⟨q,hq,rfl⟩:∃ q,l[j]?=some q∧kk=ky q:=by
    have e1:(kvs.map (·.1))[j]?=some kk:=by rw [List.getElem?_map,hj];rfl
    rw [l1,List.getElem?_map] at e1
    cases e2:l[j]? with
    | none=>rw [e2] at e1;cases e1
    | some q=>rw [e2] at e1;exact ⟨q,rfl,(Option.some.inj e1).symm⟩
   have hkl:kv.length≤128:=e2.le (n:=128) fun x hx=>hx.elim (hbb x) fun h=>hb x ((l3 x).mp (List.mem_of_mem_take h))
   have nco:c.co≠pl:=ne_of ho hl (by intro z;cases z)
   refine ⟨_,rfl,c.co,_,dx,_,_,rfl,f.at_ ho (by simp;exact ⟨n1,nco⟩),T.Z0,T.Zn,ZD,_,rfl,c.bl,_,rfl,DPut.k (k:=ky q) e1 (line_of_le (by omega)),_,rfl,by rw [upd_ne hne];exact hp1,f.trans (Fx.put e1 (by intro xs z;cases z) (by simp)),_,upd_same,(e2.put q).congr fun x=>?_⟩
   rw [take_snoc' hq,List.mem_append,List.mem_singleton,or_assoc]
  ·rintro σ H1 ⟨v,rfl,hp1,f,kv,e1,e2⟩
   rw [hlen,List.take_length] at e2
   refine ⟨hp1,fin _ kv (fun x o e hk=>?_) (by rw [upd_ne hne.symm];exact e1) (e2.congr fun q=>by rw [l3])⟩
   by_cases q:x=pl
   ·subst q
    rw [upd_same,← e,hl]
   ·rw [upd_ne q]
    refine f x o e ?_
    rcases hk with hk | hk
    ·refine .inl ?_
     simp at hk
     simp [hk,q]
    ·exact .inr hk
def spMarking (a:Ad):Sp:=fun vs H Q _=>∃ (c:CoAd) (ph:Nat) (need won n:Nat) (pl:Addr) (l:List Nat),vs=[.ref c.co,.int (n:Nat),.ref pl]∧CoAt a H c ph [] [] need won∧H pl=some (.lst (ivs l))∧(∀ q∈l,q<128) ∧
 ∀ H',Fx [c.co,c.gr] H H'→(∀ g':List Nat,(∀ q,q∈g'↔q∈l)→CoAt a H' c 1 [] g' n 0)→Q .non H'
theorem Z40 (T:Txt K mg a):Pr P w K mg base 2 a.Z10 ["self","to_be_won","places"] (spMarking a):=by
 refine pr_of' T.Z4k Z47 fun cdv A outer s H vs Q E hr h=>?_
 obtain ⟨c,ph,need,won,n,pl,l,rfl,⟨⟨dx,ho⟩,⟨kvb,b1,b2⟩,⟨kvg,g1,g2⟩,nbg⟩,hpl,hb,k⟩:=h
 refine ⟨_,(pss_cons (ps_fld (pv 0) (pk T.Z6L) rfl)
   (pss_cons (ps_fld (pv 0) (pv 1) rfl)
   (pss_cons (ps_fld (pv 0) pe_int rfl)
   (pss_one (ps_expr (pc_m (pv 0) T.Z0 T.Z1n (Z1j T) (hr.mono (by decide)) (pa_cons (pv 2) pa_nil))))))),?_⟩
 have n1:c.co≠c.gr:=ne_of ho g1 (by intro z;cases z)
 have n2:c.co≠c.bl:=ne_of ho b1 (by intro z;cases z)
 refine ⟨_,rfl,c.co,_,dx,_,rfl,ho,T.Z0,T.Zi,by rw [ZP];decide,?_⟩
 rw [Z29]
 refine ⟨_,rfl,_,rfl,c.co,_,dx,_,rfl,upd_same,T.Z0,T.Z1h,by rw [ZP];decide,?_⟩
 rw [Z5v,upd_upd]
 refine ⟨_,rfl,c.co,_,dx,_,rfl,upd_same,T.Z0,T.ZN,by rw [ZP];decide,?_⟩
 rw [Z4L,upd_upd]
 have f1:Fx [c.co,c.gr] H (upd H c.co (.ins a.Z2 dx (Z4 (.int 1) (.ref c.bl) (.ref c.gr) (.int (n:Nat)) (.int 0)))):=Fx.put ho (by intro xs z;cases z) (by simp)
 refine ⟨_,rfl,c.co,dx,_,rfl,upd_same,Z1i,_,rfl,c,1,[],[],n,0,pl,l,rfl,⟨⟨dx,upd_same⟩,⟨kvb,by rw [upd_ne n2.symm];exact b1,b2⟩,⟨kvg,by rw [upd_ne n1.symm];exact g1,g2⟩,nbg⟩,f1.lst hpl,hb,by simp,fun H2 f2 hc2=>?_⟩
 exact k H2 (f1.trans (f2.mono (by simp))) fun g' hg'=>hc2 g' fun q=>by rw [hg'];simp
def spBecome (a:Ad):Sp:=fun vs H Q _=>∃ (c:CoAd) (ph:Nat) (b g:List Nat) (need won:Nat),vs=[.ref c.co]∧CoAt a H c ph b g need won ∧
 ∀ (H':Hp) (c':CoAd),c'.co=c.co→H c'.bl=none→H c'.gr=none→Fx [c.co] H H'→CoAt a H' c' 0 [] [] need won→Q .non H'
theorem Z25 (T:Txt K mg a):Pr P w K mg base 1 a.Z19 ["self"] (spBecome a):=by
 refine pr_of' T.Z4V Z4J fun cdv A outer s H vs Q E hr h=>?_
 obtain ⟨c,ph,b,g,need,won,rfl,⟨⟨dx,ho⟩,_,_,_⟩,k⟩:=h
 refine ⟨_,(pss_cons (ps_fld (pv 0) (pk T.Z9I) rfl)
   (pss_cons (ps_fld (pv 0) pe_dnewK rfl)
   (pss_one (ps_fld (pv 0) pe_dnewK rfl)))),?_⟩
 refine ⟨_,rfl,c.co,_,dx,_,rfl,ho,T.Z0,T.Zi,by rw [ZP];decide,?_⟩
 rw [Z29]
 intro d1 h1
 have n1:c.co≠d1:=fun e=>by rw [← e,upd_same] at h1;cases h1
 refine ⟨_,rfl,c.co,_,dx,_,rfl,by rw [upd_ne n1,upd_same],T.Z0,T.Zn,by rw [ZP];decide,?_⟩
 rw [Z6Q]
 intro d2 h2
 have n2:c.co≠d2:=fun e=>by rw [← e,upd_same] at h2;cases h2
 have n12:d1≠d2:=fun e=>by rw [← e,upd_ne n1.symm,upd_same] at h2;cases h2
 refine ⟨_,rfl,c.co,_,dx,_,rfl,by rw [upd_ne n2,upd_same],T.Z0,T.Zv,by rw [ZP];decide,?_⟩
 rw [Z7q]
 have q1:H d1=none:=by rw [upd_ne n1.symm] at h1;exact h1
 have q2:H d2=none:=by rw [upd_ne n2.symm,upd_ne n12.symm,upd_ne n2.symm] at h2;exact h2
 refine k _ ⟨c.co,d1,d2⟩ rfl q1 q2 (fun x o e hk=>?_) ⟨⟨dx,by rw [upd_same];rfl⟩,⟨[],?_,DSet.nil.congr (by simp)⟩,⟨[],?_,DSet.nil.congr (by simp)⟩,n12⟩
 ·have hb:x≠c.co:=fun q=>by
   rcases hk with hk | ⟨xs,hk⟩
   ·exact hk (by simp [q])
   ·rw [q,ho] at e
    cases e;cases hk
  rw [upd_ne hb,upd_ne (ne_of_none e q2),upd_ne hb,upd_ne (ne_of_none e q1),upd_ne hb];exact e
 ·show _=some (HO.dK [])
  rw [upd_ne n1.symm,upd_ne n12,upd_ne n1.symm,upd_same]
 ·show _=some (HO.dK [])
  rw [upd_ne n2.symm,upd_same]
def spShade (K:PySem.W.Frag) (a:Ad):Sp:=fun vs H Q _=>∃ (t:ThAd) (st:Store) (c:CoAd) (ph:Nat) (b g:List Nat) (need won:Nat) (pl:Addr) (l:List Nat),vs=[.ref c.co,.ref t.th,.ref pl]∧[t.siz,t.rf,t.kn,t.me,c.bl,c.gr].Nodup∧ThAt a H t st∧StoreOk st∧CoAt a H c ph b g need won∧H pl=some (.lst (ivs l))∧(∀ q∈l,q∈st.valid)∧(∀ q∈b,q<128)∧(∀ q∈g,q<128) ∧
 ∀ H',Fx [c.bl,c.gr] H H'→CoAt a H' c ph (shB st ph b g l) (shG st ph b g l) need won→Q .non H'
theorem Z6z (T:Txt K mg a):Pr P w K mg base 3 a.Z2L ["self","things","places"] (spShade K a):=by
 refine pr_of' T.Z7i Z6H fun cdv A outer s H vs Q E hr h=>?_
 obtain ⟨t,st,c,ph,b,g,need,won,pl,l,rfl,hap,ht,ok,hc,hpl,hv,hb,hg,k⟩:=h
 refine ⟨_,(pss_cons (ps_if (pt_cmpR op_eq (pe_fld (pv 0) rfl) (pk T.Z6L) (nomark _)) (pss_one (ps_expr (pc_m (pv 0) T.Z0 T.Z1n (Z1j T) (hr.mono (by decide)) (pa_cons (pv 2) pa_nil)))) pss_nil)
   (pss_one (ps_if (pt_cmpR op_eq (pe_fld (pv 0) rfl) (pk T.Z5T) (nomark _)) (pss_one (ps_expr (pc_m (pv 0) T.Z0 T.Z2t (Z2y T) (hr.mono (by decide)) (pa_cons (pc_m (pv 1) T.Z3 T.Z2I (Z2K T) (hr.mono (by decide)) (pa_cons (pv 2) pa_nil)) pa_nil)))) pss_nil))),?_⟩
 have step2:∀ (H1:Hp) (g1:List Nat),Fx [c.bl,c.gr] H H1→ThAt a H1 t st→CoAt a H1 c ph b g1 need won→H1 pl=some (.lst (ivs l))→(g1=shG st ph b g l∨ph=2∧g1=g)→(ph≠2→True) →
   tIfS (tTest (tOp rEq (tFld K (tVar 0) "phase") (tC (.int 2)))) (tDrop (tMt a.Z2 "make_black" (spBlack K a) (tVar 0) (tCons (tMt a.Za "closure" (spClosure K a) (tVar 1) (tCons (tVar 2) tNil)) tNil))) tNext {nx:=fun _ H'=>Q .non H',rt:=Q} [some (.ref c.co),some (.ref t.th),some (.ref pl)] H1:=by
  intro H1 g1 f ht1 hc1 hpl1 hg1 _
  obtain ⟨dx,ho⟩:=hc1.ob
  obtain ⟨dt,hto⟩:=ht1.ob
  refine ⟨_,rfl,c.co,_,dx,_,_,rfl,ho,T.Z0,T.Zi,ZA,rfl,_,rfl,?_⟩
  refine ite2 (fun h1=>?_) (fun h1=>?_)
  ·have e:ph=2:=by
    have:=of_decide_eq_true h1
    have:=V.int.inj this
    omega
   have eg:shG st ph b g l=g:=by unfold shG;rw [if_neg (by omega)]
   have eg1:g1=g:=by
    rcases hg1 with h | h
    ·rw [h,eg]
    ·exact h.2
   refine ⟨_,rfl,c.co,dx,_,rfl,ho,Z2v,_,rfl,t.th,dt,_,rfl,hto,Z2D,_,rfl,t,st,pl,l,rfl,ht1,ok,SqL.of hpl1,hv,fun H2 e2 he2 s2 hset=>?_⟩
   have hne:e2≠c.bl:=fun q=>by
    obtain ⟨kv,x1,_⟩:=hc1.bl
    rw [q,x1] at he2;cases he2
   refine ⟨c,ph,b,g1,need,won,e2,_,rfl,hc1.same s2,.inr hset,hne,fun q hq=>ok.lt q (closure_valid ok hv hq),hb,fun H3 f3 hc3=>?_⟩
   refine k H3 (f.trans ((Same.fx s2).trans (f3.mono (by simp)))) ?_
   have:=hc3 (shB st ph b g l) fun q=>by
    unfold shB;rw [if_pos e,mem_takeIn];exact Or.comm
   rw [eg1] at this
   rw [eg];exact this
  ·have e:ph≠2:=fun e=>h1 (by rw [e];exact decide_eq_true rfl)
   have eb:shB st ph b g l=b:=by unfold shB;rw [if_neg e]
   have eg1:g1=shG st ph b g l:=by
    rcases hg1 with h | h
    ·exact h
    ·exact absurd h.1 e
   refine k H1 f ?_
   rw [eb,← eg1];exact hc1
 obtain ⟨dx,ho⟩:=hc.ob
 refine ⟨_,rfl,c.co,_,dx,_,_,rfl,ho,T.Z0,T.Zi,ZA,rfl,_,rfl,?_⟩
 refine ite2 (fun h1=>?_) (fun h1=>?_)
 ·have e:ph=1:=by
   have:=of_decide_eq_true h1
   have:=V.int.inj this
   omega
  refine ⟨_,rfl,c.co,dx,_,rfl,ho,Z1i,_,rfl,c,ph,b,g,need,won,pl,l,rfl,hc,hpl,fun q hq=>ok.lt q (hv q hq),hg,fun H1 f1 hc1=>?_⟩
  have ntg:∀ x∈[t.th,t.siz,t.rf,t.kn,t.me],x∉[c.gr]:=by
   obtain ⟨dt,hto⟩:=ht.ob
   obtain ⟨kvg,g1,_⟩:=hc.gr
   have n0:t.th≠c.gr:=ne_of hto g1 (by intro z;cases z)
   simp only [List.nodup_cons,List.mem_cons,List.not_mem_nil,or_false,not_or] at hap
   obtain ⟨⟨_,_,_,_,a1⟩,⟨_,_,_,a2⟩,⟨_,_,a3⟩,⟨_,a4⟩,_⟩:=hap
   simp only [List.mem_cons,List.not_mem_nil,or_false,List.mem_singleton]
   rintro x (rfl | rfl | rfl | rfl | rfl)
   ·exact n0
   ·exact a1
   ·exact a2
   ·exact a3
   ·exact a4
  exact step2 H1 (shG st ph b g l) (f1.mono (by simp)) (ht.fx f1 ntg) (hc1 _ fun q=>by unfold shG;rw [if_pos e,mem_takeIn];simp [List.mem_filter,or_comm]) (f1.lst hpl) (.inl rfl) (fun _=>trivial)
 ·have e:ph≠1:=fun e=>h1 (by rw [e];exact decide_eq_true rfl)
  exact step2 H g (Fx.refl _ _) ht hc hpl (.inl (by unfold shG;rw [if_neg e])) (fun _=>trivial)
end
end Go
end
section
set_option maxHeartbeats 2000000
namespace Go
open PySem PySem.Spec PyProof.Rows L2 LX VL
open Vastoj (Store Node knot closure isTop State)
section
variable {P:Program}{w:World}{K:PySem.W.Frag}{mg:Str→Option Value}{base:Heap}{a:Ad}
theorem siz_keys {s:Store} (ok:StoreOk s) {kvs:List (Key×V)} (h:DM kvs (sizF s)):∃ l:List Nat,kvs.map (·.1)=l.map ky∧l.Nodup∧(∀ q,q∈l↔q∈s.valid)∧l.length≤128:=by
 obtain ⟨l,l1,l2,l3,l4⟩:=h.keys
 have hm:∀ q,q∈l↔q∈s.valid:=fun q=>by
  rw [l3]
  unfold sizF
  rw [← has_iff]
  cases h:s.has q <;> simp
 exact ⟨l,l1,l2,hm,nodup_le l2 fun q hq=>ok.lt q ((hm q).mp hq)⟩
def spAtEnd (a:Ad):Sp:=fun vs H Q _=>∃ (t:ThAd) (st:Store) (c:CoAd) (ph:Nat) (b g:List Nat) (need won:Nat),vs=[.ref c.co,.ref t.th]∧[t.siz,t.rf,t.kn,t.me,c.bl,c.gr].Nodup∧ThAt a H t st∧StoreOk st∧CoAt a H c ph b g need won ∧
 ∀ H',Same H H'→Q (.bl (st.valid.all (fun p=>b.contains p) || (need != 0&&decide (need≤won)))) H'
theorem Z43 (T:Txt K mg a):Pr P w K mg base 1 a.ZZ ["self","things"] (spAtEnd a):=by
 refine pr_of' T.Z4s ZV fun cdv A outer s H vs Q E hr h=>?_
 obtain ⟨t,st,c,ph,b,g,need,won,rfl,hap,ht,ok,hc,k⟩:=h
 refine ⟨_,(pss_cons (ps_if (pt_chain op_lt op_le pe_int (pe_fld (pv 0) rfl) (pe_fld (pv 0) rfl)) (pss_one (ps_ret pe_bl)) pss_nil)
   (pss_one (ps_ret (pe_callB (cr_all rfl) (by rfl) T.b_all (by decide +kernel) (pa_cons (pe_lock (pe_lc (own:=[("place",2)]) rfl ZV.nd (pi_keys (pe_fld (pv 1) rfl)) (blkOk_by rfl) (fun _ _ _ _ _=>pn 2 ZV.nd) (fun _ _ _ _ _=>pts_nil) (fun _ _ _ _ _=>(pe_cmp (pc_din (hu_of hr) (pv 2) (pe_fldK (K:=K) (pv 0) rfl rfl)))))) pa_nil))))),?_⟩
 obtain ⟨⟨dx,ho⟩,⟨kvb,b1,b2⟩,⟨kvg,g1,g2⟩,nbg⟩:=hc
 obtain ⟨dt,hto⟩:=ht.ob
 obtain ⟨kvz,z1,z2⟩:=ht.siz
 obtain ⟨l,l1,l2,l3,l4⟩:=siz_keys ok z2
 have nzb:t.siz≠c.bl:=by
  simp only [List.nodup_cons,List.mem_cons,List.not_mem_nil,or_false,not_or] at hap
  exact hap.1.2.2.2.1
 refine ⟨_,rfl,c.co,_,dx,_,_,rfl,ho,T.Z0,T.Z1h,Z5n,_,_,rfl,rfl,_,rfl,?_⟩
 have tail:∀ e:(need != 0&&decide (need≤won))=false,tRet (tCB (rAll K) (tCons (tLockE (tLc (iKeys (tFld K (tVar 1) "sizes")) (gName 2) tYes (tDIn (tVar 2) (tFld K (tVar 0) "black")) [2])) tNil)) {nx:=fun _ H'=>Q .non H',rt:=Q} [some (.ref c.co),some (.ref t.th),none] H:=by
  intro e
  refine ⟨t.siz,.dK kvz,z1,trivial,fun od=>?_⟩
  have nt:t.th≠t.siz:=ne_of hto z1 (by intro z;cases z)
  have nc:c.co≠t.siz:=ne_of ho z1 (by intro z;cases z)
  refine ⟨_,rfl,t.th,_,dt,_,_,rfl,by rw [upd_ne nt];exact hto,T.Z3,T.Zl,Zp,t.siz,od,rfl,.inl ⟨kvz,upd_same,fun D hD=>lc_mapK (l:=l) (y:=fun q=>.bl (valV kvb (ky q)).isSome) l1 upd_same hD (by omega) (fun H2 q Q' hq s2 kk=>?_) (fun z=>rfl) (fun H2 s2 hD2=>?_)⟩⟩
  ·exact ⟨_,rfl,_,rfl,c.co,_,dx,_,_,rfl,s2 _ _ (by rw [upd_ne nc];exact ho),T.Z0,T.Zn,ZD,c.bl,_,rfl,.inl ⟨kvb,ky q,.inl (s2 _ _ (by rw [upd_ne nzb.symm];exact b1)),rfl,rfl⟩,kk _ (Same.refl _)⟩
  ·refine ⟨lock_d s2,?_⟩
   have hDz:D≠t.siz:=fun q=>by rw [q,upd_same] at hD;cases hD
   refine ⟨D,l.map fun q=>(valV kvb (ky q)).isSome,rfl,SqL.of (by rw [upd_ne hDz,hD2,List.map_map];rfl),?_⟩
   have e2:(l.map fun q=>(valV kvb (ky q)).isSome).all id=(st.valid.all (fun p=>b.contains p) || (need != 0&&decide (need≤won))):=by
    rw [e,Bool.or_false,List.all_map,Bool.eq_iff_iff,List.all_eq_true,List.all_eq_true]
    constructor
    ·intro h q hq
     have:=b2.has.mp (h q ((l3 q).mpr hq))
     simpa using this
    ·intro h q hq
     refine b2.has.mpr ?_
     simpa using h q ((l3 q).mp hq)
   rw [e2]
   exact k _ (same_unlock s2 z1)
 refine ite2 (fun h1=>?_) (fun h1=>?_)
 ·have h0:(0:Int)<((need:Nat):Int):=of_decide_eq_true h1
  refine ⟨_,rfl,c.co,_,dx,_,_,rfl,ho,T.Z0,T.ZN,Z2Z,_,_,rfl,rfl,_,rfl,?_⟩
  refine ite2 (fun h2=>?_) (fun h2=>?_)
  ·have h3:((need:Nat):Int)≤((won:Nat):Int):=of_decide_eq_true h2
   have e:(need != 0&&decide (need≤won))=true:=by
    rw [Bool.and_eq_true]
    exact ⟨by simp;omega,by simp;omega⟩
   have:=k H (Same.refl _)
   rw [e,Bool.or_true] at this
   exact this
  ·have h3:¬ ((need:Nat):Int)≤((won:Nat):Int):=fun z=>h2 (decide_eq_true z)
   exact tail (by
    rw [Bool.and_eq_false_iff]
    exact .inr (by simp;omega))
 ·have h0:¬ (0:Int)<((need:Nat):Int):=fun z=>h1 (decide_eq_true z)
  refine ⟨_,rfl,iteF (tail ?_)⟩
  have:need=0:=by omega
  rw [this];rfl
def spNext (a:Ad):Sp:=fun vs H Q _=>∃ (t:ThAd) (s:State) (c:CoAd) (p:Nat),vs=[.ref c.co,.ref t.th]∧[t.siz,t.rf,t.kn,t.me,c.bl,c.gr].Nodup∧ThAt a H t s.store∧StoreOk s.store∧CoAt a H c s.phase s.black s.grey s.need s.won∧s.next=some p ∧
 ∀ (H':Hp) (kp:Addr),Same H H'→H' kp=some (.lst (ivs (knot s.store p)))→Q (.ref kp) H'
theorem Z5w (T:Txt K mg a):Pr P w K mg base 2 a.Z1t ["self","things"] (spNext a):=by
 refine pr_of' T.Z5J Zy fun cdv A outer s H vs Q E hr h=>?_
 obtain ⟨t,s,c,p,rfl,hap,ht,ok,hc,hnx,k⟩:=h
 refine ⟨_,(pss_cons (ps_lock (ps_setLc (i:=2) (own:=[("place",3)]) rfl Zy.nd rfl rfl (by rfl) (pi_keys (pe_fld (pv 1) rfl)) (blkOk_by rfl) (fun _ _ _ _ _=>pn 3 Zy.nd) (fun _ _ _ _ _=>(pts_one (pt_cmp (pc_dnotin (hu_of hr) (pv 3) (pe_fldK (K:=K) (pv 0) rfl rfl))))) (fun _ _ _ _ _=>(pv 3))))
   (pss_one (ps_ret (pe_dget (hu_of hr) (pe_fld (pv 1) rfl) (pe_callB (cr_min rfl) (by rfl) T.b_min (by decide +kernel) (pa_cons (pe_lc (own:=[("place",3)]) rfl Zy.nd (pi_list (pv 2)) (blkOk_by rfl) (fun _ _ _ _ _=>pn 3 Zy.nd) (fun _ _ _ _ _=>(pts_one (pt_not (pt_val (pc_m (pv 1) T.Z3 T.Z2p (Z2j T) (hr.mono (by decide)) (pa_cons (pv 3) pa_nil)))))) (fun _ _ _ _ _=>(pv 3))) pa_nil)) (fun _ _=>rfl))))),?_⟩
 obtain ⟨⟨dx,ho⟩,⟨kvb,b1,b2⟩,⟨kvg,g1,g2⟩,nbg⟩:=hc
 obtain ⟨dt,hto⟩:=ht.ob
 obtain ⟨kvz,z1,z2⟩:=ht.siz
 obtain ⟨kvk,k1,KA,k2,k3⟩:=ht.kn
 obtain ⟨l,l1,l2,l3,l4⟩:=siz_keys ok z2
 have nzb:t.siz≠c.bl:=by
  simp only [List.nodup_cons,List.mem_cons,List.not_mem_nil,or_false,not_or] at hap
  exact hap.1.2.2.2.1
 have nt:t.th≠t.siz:=ne_of hto z1 (by intro z;cases z)
 have nc:c.co≠t.siz:=ne_of ho z1 (by intro z;cases z)
 have hbb:∀ q,(!(valV kvb (ky q)).isSome)=(!s.black.contains q):=fun q=>by
  have:(valV kvb (ky q)).isSome=s.black.contains q:=by
   rw [Bool.eq_iff_iff,b2.has];simp
  rw [this]
 refine ⟨t.siz,.dK kvz,z1,trivial,fun od=>?_⟩
 refine ⟨_,rfl,t.th,_,dt,_,_,rfl,by rw [upd_ne nt];exact hto,T.Z3,T.Zl,Zp,t.siz,od,rfl,.inl ⟨kvz,upd_same,fun D hD=>lc_filterK (l:=l) (c:=fun q=>!s.black.contains q) (y:=iv) l1 upd_same hD (by omega) (fun H2 q Q' hq s2 kk=>?_) (fun H2 q Q' hq _ s2 kk=>⟨_,rfl,kk _ (Same.refl _)⟩) (fun z=>rfl) (fun H2 s2 hD2=>?_)⟩⟩
 ·refine ⟨_,rfl,_,rfl,c.co,_,dx,_,_,rfl,s2 _ _ (by rw [upd_ne nc];exact ho),T.Z0,T.Zn,ZD,c.bl,_,rfl,.inl ⟨kvb,ky q,.inl (s2 _ _ (by rw [upd_ne nzb.symm];exact b1)),rfl,rfl⟩,_,rfl,?_⟩
  rw [hbb]
  exact kk _ (Same.refl _)
 ·refine ⟨lock_d s2,?_⟩
  have hDz:D≠t.siz:=fun q=>by rw [q,upd_same] at hD;cases hD
  have s3:Same H (upd H2 t.siz (.dK kvz)):=same_unlock s2 z1
  have hw:(upd H2 t.siz (.dK kvz)) D=some (.lst (ivs (l.filter fun q=>!s.black.contains q))):=by rw [upd_ne hDz];exact hD2
  generalize upd H2 t.siz (.dK kvz)=H3 at s3 hw
  have hwm:∀ q,q∈(l.filter fun q=>!s.black.contains q)↔q∈s.store.valid∧q∉s.black:=fun q=>by
   rw [List.mem_filter,l3];simp
  refine ⟨_,rfl,t.th,_,dt,_,_,rfl,s3 _ _ hto,T.Z3,T.ZH,ZS,_,rfl,D,rfl,⟨_,SqL.of hw⟩,fun D2 hD2'=>lc_filter (K:=K) (f:=iv) (xs:=l.filter fun q=>!s.black.contains q) (c:=fun q=>isTop s.store q) (y:=iv) (i:=3) (SqL.of hw) hD2' (Nat.le_trans (List.length_filter_le _ _) (by omega)) (fun H4 q Q' hq s4 kk=>?_) (fun H4 q Q' hq _ s4 kk=>⟨_,rfl,kk _ (Same.refl _)⟩) (fun z=>rfl) (fun H4 s4 hD4=>?_)⟩
  ·refine ⟨_,rfl,t.th,dt,_,rfl,s4 _ _ (s3 _ _ hto),Z2k,_,rfl,t,s.store,q,rfl,(ht.same s3).same s4,ok,((hwm q).mp hq).1,_,rfl,?_⟩
   dsimp only
   rw [Bool.not_not]
   exact kk _ (Same.refl _)
  ·obtain ⟨p1,p2,p3⟩:=next_some hnx
   have hmem:∀ q,q∈((l.filter fun q=>!s.black.contains q).filter fun q=>isTop s.store q)↔q∈s.store.valid∧q∉s.black∧isTop s.store q=true:=fun q=>by
    rw [List.mem_filter,hwm,and_assoc]
   have hp:p∈((l.filter fun q=>!s.black.contains q).filter fun q=>isTop s.store q):=(hmem p).mpr ⟨p1,p2,p3⟩
   refine ⟨D2,((l.filter fun q=>!s.black.contains q).filter fun q=>isTop s.store q).map (fun q:Nat=>(q:Int)),rfl,SqL.of (by rw [hD4,List.map_map];rfl),?_,fun m hm hmin=>?_⟩
   ·rw [List.length_map];exact List.length_pos_of_mem hp
   ·obtain ⟨q,hq,rfl⟩:=List.mem_map.mp hm
    have e:q=p:=by
     obtain ⟨q1,q2,q3⟩:=(hmem q).mp hq
     have h1:=hmin _ (List.mem_map.mpr ⟨p,hp,rfl⟩)
     unfold State.next at hnx
     have h2:=List.find?_eq_some_iff_append.mp hnx
     obtain ⟨_,as,bs,e1,e2⟩:=h2
     have hq':q∈as++p::bs:=by rw [← e1];exact q1
     rcases List.mem_append.mp hq' with h | h
     ·have:=e2 q h
      simp [q2,q3] at this
     ·rcases List.mem_cons.mp h with h | h
      ·exact h
      ·have ha:=ok.asc
       rw [e1] at ha
       have:=(List.pairwise_cons.mp (List.pairwise_append.mp ha).2.1).1 q h
       omega
    subst e
    refine ⟨t.kn,V.ref (KA q),rfl,.inl ⟨kvk,ky q,.inl (s4 _ _ (s3 _ _ k1)),rfl,by rw [k2.get,knotR_of p1];rfl⟩,?_⟩
    exact k H4 _ (s3.trans s4) (s4 _ _ (s3 _ _ (k3 q _ (knotR_of p1))))
end
end Go
end
section
set_option maxHeartbeats 2000000
namespace Go
open PySem PySem.Spec PyProof.Rows L2 LX VL
open Vastoj (Store Node knot closure isTop State)
section
variable {P:Program}{w:World}{K:PySem.W.Frag}{mg:Str→Option Value}{base:Heap}{a:Ad}
theorem apart_t {t:ThAd}{c:CoAd} (h:[t.siz,t.rf,t.kn,t.me,c.bl,c.gr].Nodup):(∀ x∈[t.siz,t.rf,t.kn,t.me],x≠c.bl∧x≠c.gr)∧[t.siz,t.rf,t.kn,t.me].Nodup∧c.bl≠c.gr:=by
 simp only [List.nodup_cons,List.mem_cons,List.not_mem_nil,or_false,not_or] at h ⊢
 obtain ⟨⟨a1,a2,a3,a4,a5⟩,⟨b1,b2,b3,b4⟩,⟨c1,c2,c3⟩,⟨d1,d2⟩,e1,_⟩:=h
 refine ⟨?_,⟨⟨a1,a2,a3⟩,⟨b1,b2⟩,c1,not_false,List.nodup_nil⟩,e1⟩
 rintro x (rfl | rfl | rfl | rfl)
 ·exact ⟨a4,a5⟩
 ·exact ⟨b3,b4⟩
 ·exact ⟨c2,c3⟩
 ·exact ⟨d1,d2⟩
theorem th_apart {a:Ad}{H:Hp}{t:ThAd}{c:CoAd}{s:Store}{ph:Nat}{b g:List Nat}{need won:Nat} (ht:ThAt a H t s) (hc:CoAt a H c ph b g need won) (hC:a.Za≠a.Z2) (h:[t.siz,t.rf,t.kn,t.me,c.bl,c.gr].Nodup):∀ x∈[t.th,t.siz,t.rf,t.kn,t.me],x∉[c.co,c.bl,c.gr]:=by
 obtain ⟨⟨dt,hto⟩,⟨_,z1,_⟩,⟨_,r1,_⟩,⟨_,k1,_⟩,⟨_,m1,_⟩,_⟩:=ht
 obtain ⟨⟨dx,ho⟩,⟨_,b1,_⟩,⟨_,g1,_⟩,_⟩:=hc
 have hx:=(apart_t h).1
 intro x hx1
 simp only [List.mem_cons,List.not_mem_nil,or_false,not_or] at hx1 ⊢
 rcases hx1 with rfl | rfl | rfl | rfl | rfl
 ·exact ⟨ne_of hto ho (by intro z;injection z with z1;exact hC z1),ne_of hto b1 (by intro z;cases z),ne_of hto g1 (by intro z;cases z)⟩
 ·exact ⟨ne_of z1 ho (by intro z;cases z),(hx _ (by simp)).1,(hx _ (by simp)).2⟩
 ·exact ⟨ne_of r1 ho (by intro z;cases z),(hx _ (by simp)).1,(hx _ (by simp)).2⟩
 ·exact ⟨ne_of k1 ho (by intro z;cases z),(hx _ (by simp)).1,(hx _ (by simp)).2⟩
 ·exact ⟨ne_of m1 ho (by intro z;cases z),(hx _ (by simp)).1,(hx _ (by simp)).2⟩
def spMark (a:Ad):Sp:=fun vs H Q _=>∃ (t:ThAd) (s:State) (c:CoAd),vs=[.ref c.co,.ref t.th]∧[t.siz,t.rf,t.kn,t.me,c.bl,c.gr].Nodup∧ThAt a H t s.store∧StInv s∧CoAt a H c s.phase s.black s.grey s.need s.won∧s.phase=1 ∧
 ∀ H',Fx [c.co,c.bl,c.gr] H H'→CoAt a H' c s.mark.phase s.mark.black s.mark.grey s.mark.need s.mark.won→Q .non H'
theorem Z5b (T:Txt K mg a):Pr P w K mg base 2 a.Z1u ["self","things"] (spMark a):=by
 refine pr_of' T.Z5x Z2R fun cdv A outer s H vs Q E hr h=>?_
 obtain ⟨t,s,c,rfl,hap,ht,inv,hc,hph,k⟩:=h
 refine ⟨_,(pss_cons (ps_if (pt_not (pt_truth (pe_fld (pv 0) rfl) (fun _=>rfl))) (pss_cons (ps_fld (pv 0) (pk T.Z5T) rfl)
   (pss_one ps_retN)) pss_nil)
   (pss_cons (pst 2 Z2R.nd (pe_callB (cr_mindict rfl) (by rfl) T.b_min (by decide +kernel) (pa_cons (pe_fld (pv 0) rfl) pa_nil)))
   (pss_cons (ps_expr (pe_dpop1 (pe_fld (pv 0) rfl) (pv 2) ⟨rfl,rfl,rfl,rfl⟩))
   (pss_cons (ps_expr (pc_m (pv 0) T.Z0 T.Z2t (Z2y T) (hr.mono (by decide)) (pa_cons (pe_lst (pa_cons (pv 2) pa_nil)) pa_nil)))
   (pss_one (ps_expr (pc_m (pv 0) T.Z0 T.Z1n (Z1j T) (hr.mono (by decide)) (pa_cons (pe_dget (hu_of hr) (pe_fld (pv 1) rfl) (pv 2) (fun _ _=>rfl)) pa_nil)))))))),?_⟩
 obtain ⟨⟨dx,ho⟩,⟨kvb,b1,b2⟩,⟨kvg,g1,g2⟩,nbg⟩:=id hc
 have ok:=inv.st
 have nT:=th_apart ht hc (ne_TC T) hap
 have hbl:∀ q∈s.black,q<128:=fun q hq=>ok.lt q (inv.mks.bval q hq)
 have hgl:∀ q∈s.grey,q<128:=fun q hq=>ok.lt q (inv.mks.gval q hq)
 have ncg:c.co≠c.gr:=ne_of ho g1 (by intro z;cases z)
 have ncb:c.co≠c.bl:=ne_of ho b1 (by intro z;cases z)
 refine ⟨_,rfl,c.co,_,dx,_,_,rfl,ho,T.Z0,T.Zv,ZX,_,.inr (.inr ⟨kvg,g1,rfl⟩),?_⟩
 dsimp only
 rw [Bool.not_not]
 obtain ⟨l,l1,l2,l3,l4⟩:=g2.keys
 have hemp:kvg.isEmpty=l.isEmpty:=by rw [l4];cases l <;> rfl
 cases hgr:s.grey with
 | nil =>
  have:l=[]:=by
   cases l with
   | nil=>rfl
   | cons q r=>have:=(l3 q).mp (by simp);rw [hgr] at this;cases this
  rw [hemp,this]
  refine iteT ?_
  refine ⟨_,rfl,c.co,_,dx,_,rfl,ho,T.Z0,T.Zi,by rw [ZP];decide,?_⟩
  rw [Z29]
  refine k _ (Fx.put ho (by intro xs z;cases z) (by simp)) ?_
  rw [mark_nil hgr]
  exact ⟨⟨dx,upd_same⟩,⟨kvb,by rw [upd_ne ncb.symm];exact b1,b2⟩,⟨kvg,by rw [upd_ne ncg.symm];exact g1,g2⟩,nbg⟩
 | cons p r =>
  have hpl:p∈l:=(l3 p).mpr (by rw [hgr];simp)
  have hne:l.isEmpty=false:=by
   cases l with
   | nil=>cases hpl
   | cons _ _=>rfl
  rw [hemp,hne]
  refine iteF ?_
  have hasc:=inv.mks.gasc
  rw [hgr] at hasc
  have hmin:∀ q∈r,p<q:=(List.pairwise_cons.mp hasc).1
  have hpv:p∈s.store.valid:=inv.mks.gval p (by rw [hgr];simp)
  refine ⟨_,rfl,c.co,_,dx,_,_,rfl,ho,T.Z0,T.Zv,ZX,c.gr,kvg,l.map (fun q:Nat=>(q:Int)),rfl,Rd.of g1,by rw [l1,List.map_map];rfl,by rw [List.length_map];exact List.length_pos_of_mem hpl,fun m hm hmn=>?_⟩
  obtain ⟨q,hq,rfl⟩:=List.mem_map.mp hm
  have hqp:q=p:=by
   have h1:=hmn _ (List.mem_map.mpr ⟨p,hpl,rfl⟩)
   have h2:=(l3 q).mp hq
   rw [hgr] at h2
   rcases List.mem_cons.mp h2 with e | e
   ·exact e
   ·have:=hmin q e;omega
  subst hqp
  refine ⟨_,rfl,c.co,_,dx,_,_,rfl,ho,T.Z0,T.Zv,ZX,c.gr,rfl,.inl ⟨_,Rd.of g1⟩,_,rfl,kvg,ky q,_,g1,rfl,g2.get (by rw [hgr];simp),?_⟩
  have f1:Fx [c.co,c.bl,c.gr] H (upd H c.gr (.dK (dropK kvg (ky q)))):=Fx.put g1 (by intro xs z;cases z) (by simp)
  have hrm:∀ x,x∈r↔(x∈q::r∧x≠q):=fun x=>by
   constructor
   ·intro h;exact ⟨by simp [h],by have:=hmin x h;omega⟩
   ·rintro ⟨h1,h2⟩
    exact (List.mem_cons.mp h1).resolve_left h2
  have hc1:CoAt a (upd H c.gr (.dK (dropK kvg (ky q)))) c s.phase s.black r s.need s.won:=⟨⟨dx,by rw [upd_ne ncg];exact ho⟩,⟨kvb,by rw [upd_ne nbg];exact b1,b2⟩,⟨_,upd_same,(g2.drop q).congr fun x=>by rw [hrm x,hgr]⟩,nbg⟩
  refine ⟨_,rfl,c.co,dx,_,rfl,by rw [upd_ne ncg];exact ho,Z2v,_,rfl,by show 1≤sizeLine;decide,fun l5 h5=>?_⟩
  have s5:=same_new (o:=.lst [iv q]) h5
  have hne5:l5≠c.bl:=fun e=>by
   rw [e,upd_ne nbg,b1] at h5;cases h5
  refine ⟨c,s.phase,s.black,r,s.need,s.won,l5,(·=q),rfl,hc1.same s5,.inl ⟨[q],upd_same,by simp⟩,hne5,fun x hx=>by rw [hx];exact hgl q (by rw [hgr];simp),hbl,fun H2 f2 hc2=>?_⟩
  have hbl2:∀ x,x∈Vastoj.putIn q s.black↔x∈s.black∨x=q:=fun x=>by rw [mem_putIn];exact Or.comm
  have hc3:=hc2 (Vastoj.putIn q s.black) hbl2
  have ff:Fx [c.co,c.bl,c.gr] H H2:=f1.trans ((Same.fx s5).trans (f2.mono (by simp)))
  obtain ⟨dx3,ho3⟩:=hc3.ob
  have ht3:=ht.fx ff nT
  obtain ⟨dt,hto⟩:=ht3.ob
  obtain ⟨kvr,r1,RA,r2,r3⟩:=ht3.rf
  refine ⟨_,rfl,c.co,dx3,_,rfl,ho3,Z1i,_,rfl,t.th,_,dt,_,_,rfl,hto,T.Z3,T.Zo,Zt,_,rfl,t.rf,V.ref (RA q),rfl,.inl ⟨kvr,ky q,.inl r1,rfl,by rw [r2.get,refsR_of hpv];rfl⟩,?_⟩
  refine ⟨c,s.phase,Vastoj.putIn q s.black,r,s.need,s.won,RA q,s.store.refs q,rfl,hc3,r3 q _ (refsR_of hpv),fun x hx=>ok.lt x (ok.refs_val hx),fun x hx=>hgl x (by rw [hgr];simp [hx]),fun H4 f4 hc4=>?_⟩
  refine k H4 (ff.trans (f4.mono (by simp))) ?_
  rw [mark_cons hgr]
  refine hc4 _ fun x=>?_
  rw [mem_takeIn,List.mem_filter,hbl2]
  simp only [Bool.and_eq_true,bne_iff_ne,ne_eq,Bool.not_eq_true',List.contains_eq_mem,decide_eq_false_iff_not,not_or]
  constructor
  ·rintro (⟨h1,h2,h3⟩ | h)
   ·exact .inr ⟨h1,h3,h2⟩
   ·exact .inl h
  ·rintro (h | ⟨h1,h2,h3⟩)
   ·exact .inr h
   ·exact .inl ⟨h1,h3,h2⟩
def NewC (H:Hp) (c c':CoAd):Prop:=c'.co=c.co∧(c'=c∨H c'.bl=none∧H c'.gr=none)
def spSweep (a:Ad):Sp:=fun vs H Q _=>∃ (t:ThAd) (s:State) (c:CoAd),vs=[.ref c.co,.ref t.th]∧[t.siz,t.rf,t.kn,t.me,c.bl,c.gr].Nodup∧ThAt a H t s.store∧StInv s∧CoAt a H c s.phase s.black s.grey s.need s.won∧s.phase=2 ∧
 ∀ (H':Hp) (c':CoAd) (p:Addr),NewC H c c'→Fx [c.co,t.siz,t.rf,t.kn,t.me] H H'→ThAt a H' t s.sweep.1.store→CoAt a H' c' s.sweep.1.phase s.sweep.1.black s.sweep.1.grey s.sweep.1.need s.sweep.1.won→H' p=some (.lst (ivs s.sweep.2))→s.sweep.2.length≤128→Q (.ref p) H'
theorem Z4Y (T:Txt K mg a):Pr P w K mg base 3 a.Z1k ["self","things"] (spSweep a):=by
 refine pr_of' T.Z5j ZL fun cdv A outer s H vs Q E hr h=>?_
 obtain ⟨t,s,c,rfl,hap,ht,inv,hc,hph,k⟩:=h
 refine ⟨_,(pss_cons (ps_if (pt_val (pc_m (pv 0) T.Z0 T.Z44 (Z43 T) (hr.mono (by decide)) (pa_cons (pv 1) pa_nil))) (pss_cons (ps_expr (pc_m0 (pv 0) T.Z0 T.Z2a (Z25 T) (hr.mono (by decide))))
   (pss_one (ps_ret (pe_lst pa_nil)))) pss_nil)
   (pss_cons (pst 2 ZL.nd (pc_m (pv 0) T.Z0 T.Z5o (Z5w T) (hr.mono (by decide)) (pa_cons (pv 1) pa_nil)))
   (pss_cons (ps_fld (pv 0) (pe_op op_add (pe_fld (pv 0) rfl) (pe_callB (cr_sum rfl) (by rfl) T.b_sum (by decide +kernel) (pa_cons (pe_lc (own:=[("place",3)]) rfl ZL.nd (pi_list (pv 2)) (blkOk_by rfl) (fun _ _ _ _ _=>pn 3 ZL.nd) (fun _ _ _ _ _=>pts_nil) (fun _ _ _ _ _=>(pe_dget (hu_of hr) (pe_fldK (K:=K) (pv 1) rfl rfl) (pv 3) (fun _ _=>rfl)))) pa_nil))) rfl)
   (pss_cons (ps_expr (pc_m (pv 1) T.Z3 T.Z6l (Z6j T) (hr.mono (by decide)) (pa_cons (pv 2) pa_nil)))
   (pss_one (ps_ret (pv 2))))))),?_⟩
 have ok:=inv.st
 have nT:=th_apart ht hc (ne_TC T) hap
 obtain ⟨dx,ho⟩:=hc.ob
 refine ⟨_,rfl,c.co,dx,_,rfl,ho,Z4a,_,rfl,t,s.store,c,s.phase,s.black,s.grey,s.need,s.won,rfl,hap,ht,ok,hc,fun H1 s1=>⟨_,rfl,?_⟩⟩
 have hc1:=hc.same s1
 have ht1:=ht.same s1
 refine ite2 (fun h1=>?_) (fun h1=>?_)
 ·have e:s.sweep=(s.idle,[]):=by
   unfold State.sweep
   rw [if_pos h1]
  obtain ⟨dx1,ho1⟩:=hc1.ob
  refine ⟨_,rfl,c.co,dx1,_,rfl,ho1,Z2e,c,s.phase,s.black,s.grey,s.need,s.won,rfl,hc1,fun H2 c' e1 e2 e3 f2 hc2=>?_⟩
  refine ⟨Nat.zero_le _,fun p hp=>?_⟩
  have s3:=same_new (o:=.lst []) hp
  have ff:Fx [c.co] H (upd H2 p (.lst [])):=(Same.fx s1).trans (f2.trans (Same.fx s3))
  refine k _ c' p ⟨e1,.inr ⟨s1.free e2,s1.free e3⟩⟩ (ff.mono (by simp)) ?_ ?_ ?_ ?_
  ·rw [e]
   exact ht.fx ff fun x hx h=>nT x hx (by simp at h;simp [h])
  ·rw [e]
   exact hc2.same s3
  ·rw [e,upd_same];rfl
  ·rw [e];simp
 ·obtain ⟨p,hp⟩:=inv.next hph (by
   cases e:s.store.valid.all (fun p=>s.black.contains p) with
   | false=>rfl
   | true=>exact absurd (by rw [e];rfl) h1)
  obtain ⟨p1,p2,p3⟩:=next_some hp
  have e:s.sweep=({s with store:=without s.store (knot s.store p),won:=s.won+Store.load (within s.store (knot s.store p))},knot s.store p):=by
   unfold State.sweep
   rw [if_neg h1,hp];rfl
  obtain ⟨dx1,ho1⟩:=hc1.ob
  have hkl:(knot s.store p).length≤128:=asc_len_le (asc_knot _ _) fun q hq=>ok.lt q (knot_valid ok p1 hq)
  refine ⟨_,rfl,c.co,dx1,_,rfl,ho1,Z5d,_,rfl,t,s,c,p,rfl,hap,ht1,ok,hc1,hp,fun H2 kp s2 hkp=>?_⟩
  have hc2:=hc1.same s2
  have ht2:=ht1.same s2
  obtain ⟨⟨dx2,ho2⟩,hb2,hg2,nbg⟩:=id hc2
  obtain ⟨dt,hto⟩:=ht2.ob
  obtain ⟨kvz,z1,z2⟩:=ht2.siz
  refine ⟨_,rfl,c.co,_,dx2,_,_,rfl,ho2,T.Z0,T.ZN,Z2Z,_,rfl,kp,rfl,⟨_,SqL.of hkp⟩,fun D hD=>lc_map' (K:=K) (f:=iv) (xs:=knot s.store p) (y:=fun q=>.int (sizeOf s.store q:Nat)) (SqL.of hkp) hD (by omega) (fun H3 q Q' hq s3 kk=>?_) (fun z=>rfl) (fun H3 s3 hD3=>?_)⟩
  ·refine ⟨_,rfl,t.th,_,dt,_,_,rfl,s3 _ _ hto,T.Z3,T.Zl,Zp,_,rfl,t.siz,V.int (sizeOf s.store q:Nat),rfl,.inl ⟨kvz,ky q,.inl (s3 _ _ z1),rfl,?_⟩,kk _ (Same.refl _)⟩
   rw [z2.get];unfold sizF;rw [if_pos (has_z (knot_valid ok p1 hq))]
  ·refine ⟨D,(knot s.store p).map fun q=>((sizeOf s.store q:Nat):Int),rfl,SqL.of (by rw [hD3,List.map_map];rfl),_,_,rfl,rfl,_,rfl,c.co,_,dx2,_,rfl,s3 _ _ ho2,T.Z0,T.ZN,by rw [ZP];decide,?_⟩
   have esum:((s.won:Nat):Int)+((knot s.store p).map fun q=>((sizeOf s.store q:Nat):Int)).sum=((s.won+Store.load (within s.store (knot s.store p)):Nat):Int):=by
    rw [load_sizes ok.asc (t:=within s.store (knot s.store p)) (fun n hn=>(List.mem_filter.mp hn).1),within_valid ok p1,Int.natCast_add,← sum_cast,List.map_map];rfl
   rw [Z4L]
   dsimp only
   rw [esum]
   have s03:Same H H3:=(s1.trans s2).trans s3
   have hc3:=hc2.same s3
   have ht3:=ht2.same s3
   obtain ⟨dx3,ho3⟩:=hc3.ob
   have f4:Fx [c.co] H3 (upd H3 c.co (.ins a.Z2 dx2 (Z4 (.int (s.phase:Nat)) (.ref c.bl) (.ref c.gr) (.int (s.need:Nat)) (.int ((s.won+Store.load (within s.store (knot s.store p)):Nat):Nat))))):=Fx.put ho3 (by intro xs z;cases z) (by simp)
   have ht4:=ht3.fx f4 fun x hx h=>nT x hx (by simp at h;simp [h])
   obtain ⟨dt4,hto4⟩:=ht4.ob
   refine ⟨_,rfl,t.th,dt4,_,rfl,hto4,Z6s,_,rfl,t,s.store,p,kp,rfl,ht4,ok,p1,p3,f4.lst (s3 _ _ hkp),fun H5 f5 ht5=>?_⟩
   refine ⟨_,rfl,?_⟩
   have hx:=(apart_t hap).1
   obtain ⟨kvb,b1,b2⟩:=hc3.bl
   obtain ⟨kvg,g1,g2⟩:=hc3.gr
   have nb:c.bl∉[t.siz,t.rf,t.kn,t.me]:=fun h=>(hx _ h).1 rfl
   have ng:c.gr∉[t.siz,t.rf,t.kn,t.me]:=fun h=>(hx _ h).2 rfl
   have nc:c.co∉[t.siz,t.rf,t.kn,t.me]:=fun h=>nT c.co (by simp at h ⊢;exact .inr h) (by simp)
   have ncb:c.bl∉[c.co]:=by simp;exact ne_of b1 ho3 (by intro z;cases z)
   have ncg:c.gr∉[c.co]:=by simp;exact ne_of g1 ho3 (by intro z;cases z)
   refine k H5 c kp ⟨rfl,.inl rfl⟩ ((Same.fx s03).trans ((f4.mono (by simp)).trans (f5.mono (by simp)))) ?_ ?_ ?_ ?_
   ·rw [e];exact ht5
   ·rw [e]
    exact ⟨⟨dx2,f5.at_ upd_same nc⟩,⟨kvb,f5.at_ (f4.at_ b1 ncb) nb,b2⟩,⟨kvg,f5.at_ (f4.at_ g1 ncg) ng,g2⟩,nbg⟩
   ·rw [e];exact f5.lst (f4.lst (s3 _ _ hkp))
   ·rw [e];exact hkl
def spUnit (a:Ad):Sp:=fun vs H Q _=>∃ (t:ThAd) (s:State) (c:CoAd),vs=[.ref c.co,.ref t.th]∧[t.siz,t.rf,t.kn,t.me,c.bl,c.gr].Nodup∧ThAt a H t s.store∧StInv s∧CoAt a H c s.phase s.black s.grey s.need s.won ∧
 ∀ (H':Hp) (c':CoAd) (p:Addr),NewC H c c'→Fx [c.co,c.bl,c.gr,t.siz,t.rf,t.kn,t.me] H H'→ThAt a H' t s.unit.1.store→CoAt a H' c' s.unit.1.phase s.unit.1.black s.unit.1.grey s.unit.1.need s.unit.1.won→H' p=some (.lst (ivs s.unit.2))→s.unit.2.length≤128→Q (.ref p) H'
theorem phase_dec {a b:Nat}:decide (V.int ((a:Nat):Int)=V.int ((b:Nat):Int))=true↔a=b:=by rw [dec_nat,decide_eq_true_eq]
theorem Z5f (T:Txt K mg a):Pr P w K mg base 4 a.Z1q ["self","things"] (spUnit a):=by
 refine pr_of' T.Z5z Z5p fun cdv A outer s H vs Q E hr h=>?_
 obtain ⟨t,s,c,rfl,hap,ht,inv,hc,k⟩:=h
 refine ⟨_,(pss_cons (ps_if (pt_cmpR op_eq (pe_fld (pv 0) rfl) (pk T.Z6L) (nomark _)) (pss_one (ps_expr (pc_m (pv 0) T.Z0 T.Z5q (Z5b T) (hr.mono (by decide)) (pa_cons (pv 1) pa_nil)))) (pss_one (ps_if (pt_cmpR op_eq (pe_fld (pv 0) rfl) (pk T.Z5T) (nomark _)) (pss_one (ps_ret (pc_m (pv 0) T.Z0 T.Z4W (Z4Y T) (hr.mono (by decide)) (pa_cons (pv 1) pa_nil)))) pss_nil)))
   (pss_one (ps_ret (pe_lst pa_nil)))),?_⟩
 have nT:=th_apart ht hc (ne_TC T) hap
 obtain ⟨dx,ho⟩:=hc.ob
 refine ⟨_,rfl,c.co,_,dx,_,_,rfl,ho,T.Z0,T.Zi,ZA,rfl,_,rfl,?_⟩
 refine ite2 (fun h1=>?_) (fun h1=>?_)
 ·have e1:s.phase=1:=(phase_dec (b:=1)).mp h1
  have e:s.unit=(s.mark,[]):=by unfold State.unit;rw [if_pos e1]
  refine ⟨_,rfl,c.co,dx,_,rfl,ho,Z5s,_,rfl,t,s,c,rfl,hap,ht,inv,hc,e1,fun H1 f1 hc1=>?_⟩
  refine ⟨Nat.zero_le _,fun p hp=>?_⟩
  have s2:=same_new (o:=.lst []) hp
  have estore:s.mark.store=s.store:=by
   unfold State.mark
   split <;> rfl
  refine k _ c p ⟨rfl,.inl rfl⟩ ((f1.mono (by simp)).trans (Same.fx s2)) ?_ ?_ ?_ ?_
  ·rw [e]
   show ThAt a _ t s.mark.store
   rw [estore]
   exact (ht.fx f1 nT).same s2
  ·rw [e];exact hc1.same s2
  ·rw [e,upd_same];rfl
  ·rw [e];simp
 ·have e1:s.phase≠1:=fun z=>h1 ((phase_dec (b:=1)).mpr z)
  refine ⟨_,rfl,c.co,_,dx,_,_,rfl,ho,T.Z0,T.Zi,ZA,rfl,_,rfl,?_⟩
  refine ite2 (fun h2=>?_) (fun h2=>?_)
  ·have e2:s.phase=2:=(phase_dec (b:=2)).mp h2
   have e:s.unit=s.sweep:=by unfold State.unit;rw [if_neg e1,if_pos e2]
   refine ⟨_,rfl,c.co,dx,_,rfl,ho,Z50,_,rfl,t,s,c,rfl,hap,ht,inv,hc,e2,fun H1 c' p n f ht1 hc1 hp hl=>?_⟩
   rw [← e] at ht1 hc1 hp hl
   exact k H1 c' p n (f.mono (by simp)) ht1 hc1 hp hl
  ·have e2:s.phase≠2:=fun z=>h2 ((phase_dec (b:=2)).mpr z)
   have e:s.unit=(s,[]):=by unfold State.unit;rw [if_neg e1,if_neg e2]
   refine ⟨Nat.zero_le _,fun p hp=>?_⟩
   have s2:=same_new (o:=.lst []) hp
   refine k _ c p ⟨rfl,.inl rfl⟩ (Same.fx s2) ?_ ?_ ?_ ?_
   ·rw [e];exact ht.same s2
   ·rw [e];exact hc.same s2
   ·rw [e,upd_same];rfl
   ·rw [e];simp
end
end Go
end
section
set_option maxHeartbeats 2000000
namespace Go
open PySem PySem.Spec PyProof.Rows L2 LX VL
def spTo (hi:Int):Sp:=fun vs H Q _=>∃ z:Int,vs=[.int z]∧Q (.bl (decide (0≤z)&&decide (z≤hi))) H
theorem chain_end {z hi:Int}{Q:VK}{H:Hp} (q:Q (.bl (decide (0≤z)&&decide (z≤hi))) H):if decide (0≤z)=true then ∃ i j,V.int z=V.int i∧V.int hi=V.int j∧Q (.bl (decide (i≤j))) H else Q (.bl false) H:=by
 refine ite2 (fun h1=>⟨_,_,rfl,rfl,?_⟩) (fun h1=>?_)
 ·rw [h1] at q;exact q
 ·rw [Bool.eq_false_iff.mpr h1] at q;exact q
section
variable {P:Program}{w:World}{K:PySem.W.Frag}{mg:Str→Option Value}{base:Heap}{a:Ad}
theorem Z1H (T:Txt K mg a):Pr P w K mg base 1 a.Z4N ["number"] (spTo 7):=by
 refine pr_of' T.Z9A Z94 fun cdv A outer s H vs Q E hr h=>?_
 obtain ⟨z,rfl,q⟩:=h
 refine ⟨_,(pss_one (ps_ret (pe_chain op_le op_le pe_int (pv 0) (pk T.Z8l)))),?_⟩
 exact ⟨_,rfl,_,_,rfl,rfl,_,rfl,chain_end q⟩
theorem Z85 (T:Txt K mg a):Pr P w K mg base 1 a.Z74 ["number"] (spTo 31):=by
 refine pr_of' T.Zaq Zai fun cdv A outer s H vs Q E hr h=>?_
 obtain ⟨z,rfl,q⟩:=h
 refine ⟨_,(pss_one (ps_ret (pe_chain op_le op_le pe_int (pv 0) (pk T.Z9Q)))),?_⟩
 exact ⟨_,rfl,_,_,rfl,rfl,_,rfl,chain_end q⟩
theorem Z3J (T:Txt K mg a):Pr P w K mg base 1 a.Z5X ["number"] (spTo 127):=by
 refine pr_of' T.Za8 Z9N fun cdv A outer s H vs Q E hr h=>?_
 obtain ⟨z,rfl,q⟩:=h
 refine ⟨_,(pss_one (ps_ret (pe_chain op_le op_le pe_int (pv 0) (pk T.Z9t)))),?_⟩
 exact ⟨_,rfl,_,_,rfl,rfl,_,rfl,chain_end q⟩
theorem Zaa (T:Txt K mg a):Pr P w K mg base 1 a.Z6I ["number"] (spTo 9999):=by
 refine pr_of' T.Zap Zab fun cdv A outer s H vs Q E hr h=>?_
 obtain ⟨z,rfl,q⟩:=h
 refine ⟨_,(pss_one (ps_ret (pe_chain op_le op_le pe_int (pv 0) (pk T.Z8B)))),?_⟩
 exact ⟨_,rfl,_,_,rfl,rfl,_,rfl,chain_end q⟩
theorem Z5O (T:Txt K mg a):Pr P w K mg base 1 a.Z1A ["number"] (spTo 64):=by
 refine pr_of' T.Z5V Z5L fun cdv A outer s H vs Q E hr h=>?_
 obtain ⟨z,rfl,q⟩:=h
 refine ⟨_,(pss_one (ps_ret (pe_chain op_le op_le pe_int (pv 0) (pk T.Z7o)))),?_⟩
 exact ⟨_,rfl,_,_,rfl,rfl,_,rfl,chain_end q⟩
theorem Zac (T:Txt K mg a):Pr P w K mg base 1 a.Z6W ["number"] (spTo 100000):=by
 refine pr_of' T.Zao Zae fun cdv A outer s H vs Q E hr h=>?_
 obtain ⟨z,rfl,q⟩:=h
 refine ⟨_,(pss_one (ps_ret (pe_chain op_le op_le pe_int (pv 0) (pk T.Z8m)))),?_⟩
 exact ⟨_,rfl,_,_,rfl,rfl,_,rfl,chain_end q⟩
theorem Z5G (T:Txt K mg a):Pr P w K mg base 1 a.Z1C ["number"] (spTo 1000):=by
 refine pr_of' T.Z5U Z5C fun cdv A outer s H vs Q E hr h=>?_
 obtain ⟨z,rfl,q⟩:=h
 refine ⟨_,(pss_one (ps_ret (pe_chain op_le op_le pe_int (pv 0) (pk T.Z9p)))),?_⟩
 exact ⟨_,rfl,_,_,rfl,rfl,_,rfl,chain_end q⟩
def spGe0:Sp:=fun vs H Q _=>∃ z:Int,vs=[.int z]∧Q (.bl (decide (0≤z))) H
theorem Z5h (T:Txt K mg a):Pr P w K mg base 1 a.Z1v ["number"] (spGe0):=by
 refine pr_of' T.Z5I Z5c fun cdv A outer s H vs Q E hr h=>?_
 obtain ⟨z,rfl,q⟩:=h
 refine ⟨_,(pss_one (ps_ret (pe_cmpR op_ge (pv 0) pe_int (nomark _)))),?_⟩
 exact ⟨_,rfl,_,_,rfl,rfl,q⟩
def spAll (K:PySem.W.Frag) (hi:Int):Sp:=fun vs H Q _=>∃ (p:Addr) (ns:List Int),vs=[.ref p]∧SqL K H p (ns.map V.int)∧ns.length≤1000000∧∀ H',Same H H'→Q (.bl (ns.all fun z=>decide (0≤z)&&decide (z≤hi))) H'
theorem Z6a (T:Txt K mg a):Pr P w K mg base 2 a.Z4O ["numbers"] (spAll K 127):=by
 refine pr_of' T.Z9k Z42 fun cdv A outer s H vs Q E hr h=>?_
 obtain ⟨p,ns,rfl,hs,hn,q⟩:=h
 refine ⟨_,(pss_one (ps_ret (pe_callB (cr_all rfl) (by rfl) T.b_all (by decide +kernel) (pa_cons (pe_lc (own:=[("number",1)]) rfl Z42.nd (pi_list (pv 0)) (blkOk_by rfl) (fun _ _ _ _ _=>pn 1 Z42.nd) (fun _ _ _ _ _=>pts_nil) (fun _ _ _ _ _=>(pc_f (Z3J T) (hr.mono (by decide)) T.Z4o (pa_cons (pv 1) pa_nil)))) pa_nil)))),?_⟩
 refine ⟨_,rfl,p,rfl,⟨_,hs⟩,fun D hD=>lc_map' (f:=V.int) (y:=fun z=>.bl (decide (0≤z)&&decide (z≤127))) hs hD hn (fun H1 z Q _ s1 k=>⟨_,rfl,z,rfl,k _ (Same.refl _)⟩) (fun z=>rfl) (fun H' s' e=>?_)⟩
 refine ⟨D,ns.map fun z=>decide (0≤z)&&decide (z≤127),rfl,SqL.of (by rw [e,List.map_map];rfl),?_⟩
 rw [List.all_map]
 exact q H' s'
theorem Z9F (T:Txt K mg a):Pr P w K mg base 2 a.Z5e ["numbers"] (spAll K 9999):=by
 refine pr_of' T.Z9P Z4T fun cdv A outer s H vs Q E hr h=>?_
 obtain ⟨p,ns,rfl,hs,hn,q⟩:=h
 refine ⟨_,(pss_one (ps_ret (pe_callB (cr_all rfl) (by rfl) T.b_all (by decide +kernel) (pa_cons (pe_lc (own:=[("number",1)]) rfl Z4T.nd (pi_list (pv 0)) (blkOk_by rfl) (fun _ _ _ _ _=>pn 1 Z4T.nd) (fun _ _ _ _ _=>pts_nil) (fun _ _ _ _ _=>(pc_f (Zaa T) (hr.mono (by decide)) T.Zat (pa_cons (pv 1) pa_nil)))) pa_nil)))),?_⟩
 refine ⟨_,rfl,p,rfl,⟨_,hs⟩,fun D hD=>lc_map' (f:=V.int) (y:=fun z=>.bl (decide (0≤z)&&decide (z≤9999))) hs hD hn (fun H1 z Q _ s1 k=>⟨_,rfl,z,rfl,k _ (Same.refl _)⟩) (fun z=>rfl) (fun H' s' e=>?_)⟩
 refine ⟨D,ns.map fun z=>decide (0≤z)&&decide (z≤9999),rfl,SqL.of (by rw [e,List.map_map];rfl),?_⟩
 rw [List.all_map]
 exact q H' s'
def RdAt (a:Ad) (H:Hp) (r nl:Addr) (pos:Nat):Prop:=∃ dx,H r=some (.ins a.Zf dx (Zs (.ref nl) (.int (pos:Nat))))
theorem RdAt.fx {a:Ad}{H H':Hp}{S:List Addr}{r nl:Addr}{pos:Nat} (h:RdAt a H r nl pos) (f:Fx S H H') (n:r∉S):RdAt a H' r nl pos:=by
 obtain ⟨dx,h⟩:=h
 exact ⟨dx,f.at_ h n⟩
def spRdInit (a:Ad):Sp:=fun vs H Q _=>∃ p dx nl,vs=[.ref p,.ref nl]∧H p=some (.ins a.Zf dx [])∧∀ H',RdAt a H' p nl 0→(∀ b o,H b=some o→b≠p→H' b=some o)→Q .non H'
theorem Z8n (T:Txt K mg a):Pr P w K mg base 1 a.Z3W ["self","numbers"] (spRdInit a):=by
 refine pr_of' T.Z1E Z8t fun cdv A outer s H vs Q E hr h=>?_
 obtain ⟨p,dx,nl,rfl,hp,k⟩:=h
 refine ⟨_,(pss_cons (ps_fld (pv 0) (pv 1) rfl)
   (pss_one (ps_fld (pv 0) pe_int rfl))),?_⟩
 refine ⟨_,rfl,_,rfl,p,a.Zf,dx,[],rfl,hp,T.Z8,T.Z1o,by decide,?_⟩
 refine ⟨_,rfl,p,a.Zf,dx,_,rfl,upd_same,T.Z8,T.Zm,by show 1<1000;decide,?_⟩
 exact k _ ⟨dx,by rw [upd_same,Zar];rfl⟩ fun b o e hb=>by rw [upd_ne hb,upd_ne hb];exact e
def spMore (K:PySem.W.Frag) (a:Ad):Sp:=fun vs H Q _=>∃ (r nl:Addr) (pos:Nat) (ns:List Int),vs=[.ref r]∧RdAt a H r nl pos∧SqL K H nl (ns.map V.int)∧Q (.bl (decide (pos<ns.length))) H
theorem Z6w (T:Txt K mg a):Pr P w K mg base 1 a.Z2F ["self"] (spMore K a):=by
 refine pr_of' T.Z7p Z7a fun cdv A outer s H vs Q E hr h=>?_
 obtain ⟨r,nl,pos,ns,rfl,⟨dx,ho⟩,hs,q⟩:=h
 refine ⟨_,(pss_one (ps_ret (pe_cmpR op_lt (pe_fld (pv 0) rfl) (pe_callB call_len_seq (by rfl) T.b_len (by decide +kernel) (pa_cons (pe_fld (pv 0) rfl) pa_nil)) (nomark _)))),?_⟩
 refine ⟨_,rfl,r,_,dx,_,_,rfl,ho,T.Z8,T.Zm,ZR,_,rfl,r,_,dx,_,_,rfl,ho,T.Z8,T.Z1o,Z2H,nl,_,rfl,.inl hs,_,_,rfl,rfl,?_⟩
 have e:decide (((pos:Nat):Int)<(((ns.map V.int).length:Nat):Int))=decide (pos<ns.length):=by
  rw [List.length_map];simp
 show Q (.bl (decide (((pos:Nat):Int)<(((ns.map V.int).length:Nat):Int)))) H
 rw [e];exact q
def spNumber (K:PySem.W.Frag) (a:Ad):Sp:=fun vs H Q _=>∃ (r nl:Addr) (pos:Nat) (ns:List Int) (z:Int),vs=[.ref r]∧RdAt a H r nl pos∧SqL K H nl (ns.map V.int)∧ns[pos]?=some z∧∀ H',Fx [r] H H'→RdAt a H' r nl (pos+1)→Q (.int z) H'
theorem Zb (T:Txt K mg a):Pr P w K mg base 1 a.Z3i ["self"] (spNumber K a):=by
 refine pr_of' T.Z8f Z4Q fun cdv A outer s H vs Q E hr h=>?_
 obtain ⟨r,nl,pos,ns,z,rfl,⟨dx,ho⟩,hs,hz,q⟩:=h
 refine ⟨_,(pss_cons (pst 1 Z4Q.nd (pe_ix ix_list (pe_fld (pv 0) rfl) (pe_fld (pv 0) rfl) (fun _ _=>rfl)))
   (pss_cons (ps_fld (pv 0) (pe_op op_add (pe_fld (pv 0) rfl) pe_int) rfl)
   (pss_one (ps_ret (pv 1))))),?_⟩
 refine ⟨_,rfl,r,_,dx,_,_,rfl,ho,T.Z8,T.Z1o,Z2H,_,rfl,r,_,dx,_,_,rfl,ho,T.Z8,T.Zm,ZR,nl,_,((pos:Nat):Int),.int z,rfl,rfl,hs,at_of (j:=pos) rfl (by rw [List.getElem?_map,hz];rfl),?_⟩
 refine ⟨_,rfl,r,_,dx,_,_,rfl,ho,T.Z8,T.Zm,ZR,_,_,rfl,rfl,_,rfl,r,_,dx,_,rfl,ho,T.Z8,T.Zm,by rw [Z8P];decide,?_⟩
 exact ⟨_,rfl,q _ (Fx.put ho (by intro xs z;cases z) (by simp)) ⟨dx,by rw [upd_same,Z3V];rfl⟩⟩
theorem cut_row {ns:List Int}{lo n:Nat} (h:lo+n≤ns.length):cutV (ns.map V.int) (some ((lo:Nat):Int)) (some ((lo+n:Nat):Int))=((ns.drop lo).take n).map V.int:=by
 unfold cutV
 rw [HT.sIx_nat,HT.sIx_nat,List.length_map,Nat.min_eq_left h,Nat.min_eq_left (show lo≤ns.length by omega)]
 rw [show lo+n - lo=n by omega,← List.map_drop,← List.map_take]
def spRow (K:PySem.W.Frag) (a:Ad):Sp:=fun vs H Q _=>∃ (r nl:Addr) (pos n:Nat) (ns:List Int),vs=[.ref r]∧RdAt a H r nl pos∧SqL K H nl (ns.map V.int)∧(∀ H',Fx [r] H H'→SqL K H' nl (ns.map V.int))∧ns[pos]?=some (n:Int)∧pos+1+n≤ns.length ∧
 ∀ H' p,H p=none→Fx [r] H H'→RdAt a H' r nl (pos+1+n)→H' p=some (.lst (((ns.drop (pos+1)).take n).map V.int))→Q (.ref p) H'
theorem Z2T (T:Txt K mg a):Pr P w K mg base 2 a.Z4K ["self"] (spRow K a):=by
 refine pr_of' T.Z9r Z3Z fun cdv A outer s H vs Q E hr h=>?_
 obtain ⟨r,nl,pos,n,ns,rfl,hr0,hs,hs2,hz,hl,q⟩:=h
 refine ⟨_,(pss_cons (pst 1 Z3Z.nd (pc_m0 (pv 0) T.Z8 T.Z9 (Zb T) (hr.mono (by decide))))
   (pss_cons (pst 2 Z3Z.nd (pe_fld (pv 0) rfl))
   (pss_cons (ps_fld (pv 0) (pe_op op_add (pv 2) (pv 1)) rfl)
   (pss_one (ps_ret (pe_slice sl_list (pe_fld (pv 0) rfl) (po_some (pv 2)) (po_some (pe_fld (pv 0) rfl)))))))),?_⟩
 obtain ⟨dx0,ho0⟩:=id hr0
 refine ⟨_,rfl,r,dx0,_,rfl,ho0,Z4H,r,nl,pos,ns,(n:Int),rfl,hr0,hs,hz,fun H1 f1 ⟨dx,ho⟩=>?_⟩
 refine ⟨_,rfl,r,_,dx,_,_,rfl,ho,T.Z8,T.Zm,ZR,?_⟩
 refine ⟨_,rfl,_,rfl,_,_,rfl,rfl,_,rfl,r,_,dx,_,rfl,ho,T.Z8,T.Zm,by rw [Z8P];decide,?_⟩
 have f2:Fx [r] H (upd H1 r (.ins a.Zf dx (putF "position" (.int ((((pos+1:Nat):Nat):Int)+(n:Int))) (Zs (.ref nl) (.int ((pos+1:Nat):Nat)))))):=f1.trans (Fx.put ho (by intro xs z;cases z) (by simp))
 have e1:(upd H1 r (.ins a.Zf dx (putF "position" (.int ((((pos+1:Nat):Nat):Int)+(n:Int))) (Zs (.ref nl) (.int ((pos+1:Nat):Nat)))))) r=some (.ins a.Zf dx (Zs (.ref nl) (.int ((pos+1+n:Nat):Nat)))):=by
  rw [upd_same,Z3V];rfl
 refine ⟨_,rfl,r,_,dx,_,_,rfl,e1,T.Z8,T.Z1o,Z2H,_,rfl,_,rfl,_,rfl,r,_,dx,_,_,rfl,e1,T.Z8,T.Zm,ZR,_,rfl,nl,_,rfl,hs2 _ f2,fun p hp=>?_⟩
 have hpr:r≠p:=ne_of_none e1 hp
 have hHp:H p=none:=by
  cases e:H p with
  | none=>rfl
  | some o =>
   by_cases q:p=r
   ·exact absurd q.symm hpr
   ·rw [f2.at_ e (by simpa using q)] at hp;cases hp
 refine q _ p hHp (f2.trans (Fx.new hp)) ⟨dx,by rw [upd_ne hpr];exact e1⟩ ?_
 rw [upd_same,cut_row hl]
end
end Go
end
section
set_option maxHeartbeats 2000000
namespace Go
open PySem PySem.Spec PyProof.Rows L2 LX VL
open Vastoj (Session)
section
variable {P:Program}{w:World}{K:PySem.W.Frag}{mg:Str→Option Value}{base:Heap}{a:Ad}
theorem mem_anch {x:Session}{q:Nat}:q∈x.anchors↔q∈x.holds∨q∈insOf x:=by
 unfold Vastoj.Session.anchors insOf
 rw [List.mem_append]
def spSeInit (a:Ad):Sp:=fun vs H Q _=>∃ p dx,vs=[.ref p]∧H p=some (.ins a.Ze dx [])∧∀ (H':Hp) (hd:Addr),H hd=none→(∀ x:Session,x.holds=[]→x.building=none→SeAt a H' p hd x)→(∀ b o,H b=some o→b≠p→H' b=some o)→Q .non H'
theorem Z7T (T:Txt K mg a):Pr P w K mg base 1 a.Z3B ["self"] (spSeInit a):=by
 refine pr_of' T.Z1r Z88 fun cdv A outer s H vs Q E hr h=>?_
 obtain ⟨p,dx,rfl,hp,k⟩:=h
 refine ⟨_,(pss_cons (ps_fld (pv 0) pe_dnewK rfl)
   (pss_cons (ps_fld (pv 0) pe_bl rfl)
   (pss_cons (ps_fld (pv 0) (pe_lst pa_nil) rfl)
   (pss_one (ps_fld (pv 0) (pe_lst pa_nil) rfl))))),?_⟩
 intro d1 h1
 have n1:p≠d1:=ne_of_none hp h1
 refine ⟨_,rfl,p,a.Ze,dx,[],rfl,by rw [upd_ne n1];exact hp,T.Z7,T.Z3g,by decide,?_⟩
 refine ⟨_,rfl,p,a.Ze,dx,_,rfl,upd_same,T.Z7,T.ZM,by show 1<1000;decide,?_⟩
 refine ⟨Nat.zero_le _,fun l2 h2=>?_⟩
 have n2:p≠l2:=fun e=>by rw [← e,upd_same] at h2;cases h2
 have n12:d1≠l2:=fun e=>by rw [← e,upd_ne n1.symm,upd_ne n1.symm,upd_same] at h2;cases h2
 refine ⟨_,rfl,p,a.Ze,dx,_,rfl,by rw [upd_ne n2,upd_same],T.Z7,T.Zq,by show 2<1000;decide,?_⟩
 refine ⟨Nat.zero_le _,fun l3 h3=>?_⟩
 have n3:p≠l3:=fun e=>by rw [← e,upd_same] at h3;cases h3
 have n23:l2≠l3:=fun e=>by rw [← e,upd_ne n2.symm,upd_same] at h3;cases h3
 have n13:d1≠l3:=fun e=>by rw [← e,upd_ne n1.symm,upd_ne n12,upd_ne n1.symm,upd_ne n1.symm,upd_same] at h3;cases h3
 refine ⟨_,rfl,p,a.Ze,dx,_,rfl,by rw [upd_ne n3,upd_same],T.Z7,T.Z12,by show 3<1000;decide,?_⟩
 have q2:H l2=none:=by
  rw [upd_ne n2.symm,upd_ne n2.symm,upd_ne n12.symm] at h2;exact h2
 have q3:H l3=none:=by
  rw [upd_ne n3.symm,upd_ne n23.symm,upd_ne n3.symm,upd_ne n3.symm,upd_ne n13.symm] at h3;exact h3
 refine k _ d1 h1 (fun x e1 e2=>⟨⟨dx,l2,l3,by rw [upd_same,Za5,e2];rfl,?_,?_⟩,⟨[],?_,DSet.nil.congr fun q=>by rw [e1];simp⟩⟩) fun b o e hb=>?_
 ·unfold outsOf;rw [e2,upd_ne n2.symm,upd_ne n23,upd_ne n2.symm,upd_same];rfl
 ·unfold insOf;rw [e2,upd_ne n3.symm,upd_same];rfl
 ·rw [upd_ne n1.symm,upd_ne n13,upd_ne n1.symm,upd_ne n12,upd_ne n1.symm,upd_ne n1.symm,upd_same]
 ·have m1:b≠d1:=ne_of_none e h1
  have m2:b≠l2:=ne_of_none e q2
  have m3:b≠l3:=ne_of_none e q3
  rw [upd_ne hb,upd_ne m3,upd_ne hb,upd_ne m2,upd_ne hb,upd_ne hb,upd_ne m1];exact e
def spHoldAll (K:PySem.W.Frag) (a:Ad):Sp:=fun vs H Q _=>∃ (se hd:Addr) (x:Session) (pl:Addr) (l:List Nat),vs=[.ref se,.ref pl]∧SeAt a H se hd x∧H pl=some (.lst (ivs l))∧(∀ q∈l,q<128)∧(∀ q∈x.holds,q<128) ∧
 ∀ H',Fx [hd] H H'→SetAt H' hd (fun q=>q∈x.holds∨q∈l)→Q .non H'
theorem Z3n (T:Txt K mg a):Pr P w K mg base 1 a.Z26 ["self","places"] (spHoldAll K a):=by
 refine pr_of' T.Z6N Z3m fun cdv A outer s H vs Q E hr h=>?_
 obtain ⟨se,hd,x,pl,l,rfl,⟨⟨dx,o,i,ho,_,_⟩,⟨kvh,h1,h2⟩⟩,hl,hb,hb2,k⟩:=h
 refine ⟨_,(pss_one (ps_for PassesOwn.never rfl (pi_list (pv 1)) (pn 2 Z3m.nd) (pss_one (ps_dput (hu_of hr) (pe_fld (pv 0) rfl) (pv 2) pe_bl rfl)))),?_⟩
 have n1:se≠hd:=ne_of ho h1 (by intro z;cases z)
 refine ⟨_,rfl,pl,rfl,⟨_,SqL.of hl⟩,for_list (K:=K) (a:=pl) (xs:=ivs l) (fun j σ H'=>∃ v,σ=[some (.ref se),some (.ref pl),v]∧Fx [hd] H H'∧SetAt H' hd (fun q=>q∈x.holds∨q∈l.take j))
  ⟨none,rfl,Fx.refl _ _,kvh,h1,h2.congr fun q=>by simp⟩ (fun j σ H' _ ⟨_,_,f,_⟩=>f.seq hl) ?_ ?_⟩
 ·rintro j y σ H1 hj ⟨v,rfl,f,kv,g1,g2⟩
  obtain ⟨q,hq,rfl⟩:=get_ivs hj
  have hkl:kv.length≤128:=g2.le (n:=128) fun x hx=>hx.elim (hb2 x) fun h=>hb x (List.mem_of_mem_take h)
  refine ⟨_,rfl,se,_,dx,_,_,rfl,f.at_ ho (by simpa using n1),T.Z7,T.Z3g,Z52,_,rfl,hd,_,rfl,DPut.k (k:=ky q) g1 (line_of_le (by omega)),_,rfl,f.trans (Fx.put g1 (by intro xs z;cases z) (by simp)),_,upd_same,(g2.put q).congr fun x=>?_⟩
  rw [take_snoc' hq,List.mem_append,List.mem_singleton,or_assoc]
 ·rintro σ H1 ⟨v,rfl,f,hs⟩
  rw [ivs_len,List.take_length] at hs
  exact k H1 f hs
def spAnchored (a:Ad):Sp:=fun vs H Q _=>∃ (se hd:Addr) (x:Session),vs=[.ref se]∧SeAt a H se hd x∧(∀ q∈x.holds,q<128)∧(insOf x).length≤128 ∧
 ∀ (H':Hp) (p:Addr) (l:List Nat),H p=none→Same H H'→H' p=some (.lst (ivs l))→(∀ q,q∈l↔q∈x.anchors)→l.length≤256→Q (.ref p) H'
theorem Z3o (T:Txt K mg a):Pr P w K mg base 1 a.Z20 ["self"] (spAnchored a):=by
 refine pr_of' T.Z79 Z6q fun cdv A outer s H vs Q E hr h=>?_
 obtain ⟨se,hd,x,rfl,⟨⟨dx,o,i,ho,h3,h4⟩,⟨kvh,h1,h2⟩⟩,hb,hil,k⟩:=h
 refine ⟨_,(pss_one (ps_ret (pe_op op_cat (pe_callTy (cr_listdict rfl) (by rfl) T.Z9u (by decide +kernel) (pa_cons (pe_fld (pv 0) rfl) pa_nil)) (pe_fld (pv 0) rfl)))),?_⟩
 obtain ⟨hs,e1,e2,e3,e4⟩:=h2.keys
 have hsl:hs.length≤128:=nodup_le e2 fun q hq=>hb q ((e3 q).mp hq)
 refine ⟨_,rfl,se,_,dx,_,_,rfl,ho,T.Z7,T.Z3g,Z52,hd,kvh,rfl,Rd.of h1,fun p hp=>?_⟩
 have s1:Same H (upd H p (.lst (kvh.map fun kv=>kV kv.1))):=same_new hp
 have e5:(kvh.map fun kv=>kV kv.1)=ivs hs:=by rw [e4];simp [kset,kV]
 rw [e5] at s1 ⊢
 refine ⟨_,rfl,se,_,dx,_,_,rfl,s1 _ _ ho,T.Z7,T.Z12,Z3H,p,i,ivs hs,ivs (insOf x),rfl,rfl,upd_same,s1 _ _ h4,by rw [ivs_len,ivs_len];exact Nat.le_of_lt (line_of_le (by omega)),fun p2 hp2=>?_⟩
 refine k _ p2 (hs++insOf x) (s1.free hp2) (s1.trans (same_new hp2)) (by rw [upd_same];simp) (fun q=>?_) (by rw [List.length_append];omega)
 rw [List.mem_append,e3,mem_anch]
def spAnchorsOne (a:Ad):Sp:=fun vs H Q _=>∃ (se hd d:Addr) (x:Session) (S:Nat→Prop),vs=[.ref se,.ref d]∧SeAt a H se hd x∧(∀ q∈x.holds,q<128)∧(insOf x).length≤128∧SetAt H d S ∧
 ∀ (H':Hp) (b:Bool),Same H H'→(b=true↔∃ q∈x.anchors,S q)→Q (.bl b) H'
theorem Z4p (T:Txt K mg a):Pr P w K mg base 2 a.Z15 ["self","places"] (spAnchorsOne a):=by
 refine pr_of' T.Z4A Z11 fun cdv A outer s H vs Q E hr h=>?_
 obtain ⟨se,hd,d,x,S,rfl,hse,hb,hil,⟨kvd,d1,d2⟩,k⟩:=h
 refine ⟨_,(pss_one (ps_ret (pe_callB (cr_any rfl) (by rfl) T.b_any (by decide +kernel) (pa_cons (pe_lc (own:=[("place",2)]) rfl Z11.nd (pi_list (pc_m0 (pv 0) T.Z7 T.Z3q (Z3o T) (hr.mono (by decide)))) (blkOk_by rfl) (fun _ _ _ _ _=>pn 2 Z11.nd) (fun _ _ _ _ _=>pts_nil) (fun _ _ _ _ _=>(pe_cmp (pc_din (hu_of hr) (pv 2) (pv 1))))) pa_nil)))),?_⟩
 obtain ⟨⟨dx,o,i,ho,h3,h4⟩,hh⟩:=id hse
 refine ⟨_,rfl,se,dx,_,rfl,ho,Z3v,se,hd,x,rfl,hse,hb,hil,fun H1 p l hp s1 hl hm hll=>?_⟩
 refine ⟨p,rfl,⟨_,SqL.of hl⟩,fun D hD=>lc_map' (K:=K) (f:=iv) (xs:=l) (y:=fun q=>.bl (valV kvd (ky q)).isSome) (SqL.of hl) hD (by omega) (fun H2 q Q _ s2 kk=>⟨_,rfl,_,rfl,d,_,rfl,.inl ⟨kvd,ky q,.inl (s2 _ _ (s1 _ _ d1)),rfl,rfl⟩,kk _ (Same.refl _)⟩) (fun z=>rfl) (fun H2 s2 e=>?_)⟩
 refine ⟨D,l.map fun q=>(valV kvd (ky q)).isSome,rfl,SqL.of (by rw [e,List.map_map];rfl),k _ _ (s1.trans s2) ?_⟩
 rw [List.any_map,List.any_eq_true]
 constructor
 ·rintro ⟨q,hq,e⟩
  exact ⟨q,(hm q).mp hq,d2.has.mp e⟩
 ·rintro ⟨q,hq,e⟩
  exact ⟨q,(hm q).mpr hq,d2.has.mpr e⟩
def spStart (a:Ad):Sp:=fun vs H Q _=>∃ (se hd o i:Addr) (x:Session),vs=[.ref se,.ref o,.ref i]∧SeAt a H se hd x∧∀ H',Fx [se] H H'→(∃ dx,H' se=some (.ins a.Ze dx (Zg (.ref hd) (.bl true) (.ref o) (.ref i))))→Q .non H'
theorem Z4n (T:Txt K mg a):Pr P w K mg base 1 a.Z16 ["self","outs","ins"] (spStart a):=by
 refine pr_of' T.Z4U Z4j fun cdv A outer s H vs Q E hr h=>?_
 obtain ⟨se,hd,o,i,x,rfl,⟨⟨dx,o0,i0,ho,h3,h4⟩,hh⟩,k⟩:=h
 refine ⟨_,(pss_cons (ps_fld (pv 0) pe_bl rfl)
   (pss_cons (ps_fld (pv 0) (pv 1) rfl)
   (pss_one (ps_fld (pv 0) (pv 2) rfl)))),?_⟩
 refine ⟨_,rfl,se,_,dx,_,rfl,ho,T.Z7,T.ZM,by rw [Z2h];decide,?_⟩
 rw [Z3l]
 refine ⟨_,rfl,_,rfl,se,_,dx,_,rfl,upd_same,T.Z7,T.Zq,by rw [Z2h];decide,?_⟩
 rw [Z59]
 refine ⟨_,rfl,_,rfl,se,_,dx,_,rfl,upd_same,T.Z7,T.Z12,by rw [Z2h];decide,?_⟩
 rw [Z5K,upd_upd,upd_upd]
 exact k _ (Fx.put ho (by intro xs z;cases z) (by simp)) ⟨dx,upd_same⟩
def spEnd (a:Ad):Sp:=fun vs H Q _=>∃ (se hd:Addr) (x:Session),vs=[.ref se]∧SeAt a H se hd x∧∀ H',Fx [se] H H'→(∃ dx o i,H' se=some (.ins a.Ze dx (Zg (.ref hd) (.bl false) (.ref o) (.ref i)))∧H' o=some (.lst (ivs []))∧H' i=some (.lst (ivs [])))→Q .non H'
theorem Z2r (T:Txt K mg a):Pr P w K mg base 1 a.Z1g ["self"] (spEnd a):=by
 refine pr_of' T.Z5i Z4X fun cdv A outer s H vs Q E hr h=>?_
 obtain ⟨se,hd,x,rfl,⟨⟨dx,o0,i0,ho,h3,h4⟩,hh⟩,k⟩:=h
 refine ⟨_,(pss_cons (ps_fld (pv 0) pe_bl rfl)
   (pss_cons (ps_fld (pv 0) (pe_lst pa_nil) rfl)
   (pss_one (ps_fld (pv 0) (pe_lst pa_nil) rfl)))),?_⟩
 refine ⟨_,rfl,se,_,dx,_,rfl,ho,T.Z7,T.ZM,by rw [Z2h];decide,?_⟩
 rw [Z3l]
 refine ⟨Nat.zero_le _,fun o ho1=>?_⟩
 have n1:se≠o:=fun e=>by rw [← e,upd_same] at ho1;cases ho1
 refine ⟨_,rfl,se,_,dx,_,rfl,by rw [upd_ne n1,upd_same],T.Z7,T.Zq,by rw [Z2h];decide,?_⟩
 rw [Z59]
 refine ⟨Nat.zero_le _,fun i hi1=>?_⟩
 have n2:se≠i:=fun e=>by rw [← e,upd_same] at hi1;cases hi1
 have n3:o≠i:=fun e=>by rw [← e,upd_ne n1.symm,upd_same] at hi1;cases hi1
 refine ⟨_,rfl,se,_,dx,_,rfl,by rw [upd_ne n2,upd_same],T.Z7,T.Z12,by rw [Z2h];decide,?_⟩
 rw [Z5K]
 refine k _ (fun b ob e hk=>?_) ⟨dx,o,i,upd_same,by rw [upd_ne n1.symm,upd_ne n3,upd_ne n1.symm,upd_same];rfl,by rw [upd_ne n2.symm,upd_same];rfl⟩
 have hb:b≠se:=fun q=>by
  rcases hk with hk | ⟨xs,hk⟩
  ·exact hk (by simp [q])
  ·rw [q,ho] at e
   cases e;cases hk
 rw [upd_ne n1.symm] at ho1
 rw [upd_ne n2.symm,upd_ne n3.symm,upd_ne n2.symm] at hi1
 rw [upd_ne hb,upd_ne (ne_of_none e hi1),upd_ne hb,upd_ne (ne_of_none e ho1),upd_ne hb];exact e
end
end Go
end
section
set_option maxHeartbeats 1000000
namespace Go
open PySem PySem.Spec PyProof.Rows L2 LX VL
open Vastoj (Store Node knot closure isTop State Session)
section
variable {K:PySem.W.Frag}{mg:Str→Option Value}{a:Ad}{H H':Hp}{x:StAd}{s:State}
theorem ne_ins {p q C C' dx dy:Addr}{fs gs:List (Str×V)} (h:H p=some (.ins C dx fs)) (h':H q=some (.ins C' dy gs)) (n:C≠C'):p≠q:=ne_of h h' (by intro z;injection z with z1;exact n z1)
theorem ne_dk {p q C dx:Addr}{fs:List (Str×V)}{kvs:List (Key×V)} (h:H p=some (.ins C dx fs)) (h':H q=some (.dK kvs)):p≠q:=ne_of h h' (by intro z;cases z)
theorem StAt.dicts (h:StAt a H x s):∀ d∈[x.t.siz,x.t.rf,x.t.kn,x.t.me,x.c.bl,x.c.gr,x.ses,x.rts],∃ kvs,H d=some (.dK kvs):=by
 obtain ⟨_,⟨_,⟨_,z1,_⟩,⟨_,r1,_⟩,⟨_,k1,_⟩,⟨_,m1,_⟩,_⟩,⟨_,⟨_,b1,_⟩,⟨_,g1,_⟩,_⟩,⟨_,s1,_⟩,_,⟨_,t1,_⟩,_⟩:=h
 intro d hd
 simp only [List.mem_cons,List.not_mem_nil,or_false] at hd
 rcases hd with rfl | rfl | rfl | rfl | rfl | rfl | rfl | rfl
 ·exact ⟨_,z1⟩
 ·exact ⟨_,r1⟩
 ·exact ⟨_,k1⟩
 ·exact ⟨_,m1⟩
 ·exact ⟨_,b1⟩
 ·exact ⟨_,g1⟩
 ·exact ⟨_,s1⟩
 ·exact ⟨_,t1⟩
theorem StAt.apart (h:StAt a H x s):[x.t.siz,x.t.rf,x.t.kn,x.t.me,x.c.bl,x.c.gr].Nodup:=by
 have:=h.nd
 have e:[x.t.siz,x.t.rf,x.t.kn,x.t.me,x.c.bl,x.c.gr,x.ses,x.rts]=[x.t.siz,x.t.rf,x.t.kn,x.t.me,x.c.bl,x.c.gr]++[x.ses,x.rts]:=rfl
 rw [e] at this
 exact (List.nodup_append.mp this).1
theorem StAt.ins_out (h:StAt a H x s) {p C dx:Addr}{fs:List (Str×V)} (hp:H p=some (.ins C dx fs)) (n:C≠a.Z2):p∉[x.c.co,x.c.bl,x.c.gr,x.t.siz,x.t.rf,x.t.kn,x.t.me]:=by
 have hd:=h.dicts
 obtain ⟨dc,hc⟩:=h.co.ob
 simp only [List.mem_cons,List.not_mem_nil,or_false,not_or]
 refine ⟨ne_ins hp hc n,?_,?_,?_,?_,?_,?_⟩ <;>
  ·intro e
   obtain ⟨kvs,h1⟩:=hd p (by simp [e])
   rw [hp] at h1;cases h1
theorem StAt.nd_new (h:StAt a H x s) {c':CoAd} (n:NewC H x.c c') (nb:c'.bl≠c'.gr):[x.t.siz,x.t.rf,x.t.kn,x.t.me,c'.bl,c'.gr,x.ses,x.rts].Nodup:=by
 rcases n.2 with e | ⟨e1,e2⟩
 ·rw [e];exact h.nd
 ·have hd:=h.dicts
  have n1:∀ d∈[x.t.siz,x.t.rf,x.t.kn,x.t.me,x.c.bl,x.c.gr,x.ses,x.rts],d≠c'.bl∧d≠c'.gr:=fun d hd'=>by
   obtain ⟨kvs,h1⟩:=hd d hd'
   exact ⟨ne_of_none h1 e1,ne_of_none h1 e2⟩
  have h0:=h.nd
  simp only [List.nodup_cons,List.mem_cons,List.not_mem_nil,or_false,not_or,List.nodup_nil,not_false_eq_true,and_true] at h0 ⊢
  obtain ⟨⟨a1,a2,a3,a4,a5,a6,a7⟩,⟨b1,b2,b3,b4,b5,b6⟩,⟨c1,c2,c3,c4,c5⟩,⟨d1,d2,d3,d4⟩,⟨f1,f2,f3⟩,⟨g1,g2⟩,i1⟩:=h0
  have m1:=n1 x.t.siz (by simp)
  have m2:=n1 x.t.rf (by simp)
  have m3:=n1 x.t.kn (by simp)
  have m4:=n1 x.t.me (by simp)
  have m7:=n1 x.ses (by simp)
  have m8:=n1 x.rts (by simp)
  exact ⟨⟨a1,a2,a3,m1.1,m1.2,a6,a7⟩,⟨b1,b2,m2.1,m2.2,b5,b6⟩,⟨c1,m3.1,m3.2,c4,c5⟩,⟨m4.1,m4.2,d3,d4⟩,⟨nb,m7.1.symm,m8.1.symm⟩,⟨m7.2.symm,m8.2.symm⟩,i1⟩
theorem mem_seven {x:StAd}{d:Addr} (h:d∉[x.t.siz,x.t.rf,x.t.kn,x.t.me,x.c.bl,x.c.gr,x.ses,x.rts]) (hc:d≠x.c.co):d∉[x.c.co,x.c.bl,x.c.gr,x.t.siz,x.t.rf,x.t.kn,x.t.me]:=by
 simp only [List.mem_cons,List.not_mem_nil,or_false,not_or] at h ⊢
 obtain ⟨a1,a2,a3,a4,a5,a6,a7,a8⟩:=h
 exact ⟨hc,a5,a6,a1,a2,a3,a4⟩
theorem StAt.tc (T:Txt K mg a) (h:StAt a H x s) {c':CoAd}{st':Store}{ph need won:Nat}{b g:List Nat} (f:Fx [x.c.co,x.c.bl,x.c.gr,x.t.siz,x.t.rf,x.t.kn,x.t.me] H H') (n:NewC H x.c c') (ht:ThAt a H' x.t st') (hc:CoAt a H' c' ph b g need won) :
  StAt a H' {x with c:=c'} {s with store:=st',phase:=ph,black:=b,grey:=g,need:=need,won:=won}:=by
 obtain ⟨dx,ho⟩:=h.ob
 obtain ⟨dc,hco⟩:=h.co.ob
 have hses:x.ses∉[x.c.co,x.c.bl,x.c.gr,x.t.siz,x.t.rf,x.t.kn,x.t.me]∧x.rts∉[x.c.co,x.c.bl,x.c.gr,x.t.siz,x.t.rf,x.t.kn,x.t.me]:=by
  have h0:=h.nd
  simp only [List.nodup_cons,List.mem_cons,List.not_mem_nil,or_false,not_or,List.nodup_nil,not_false_eq_true,and_true] at h0
  obtain ⟨⟨a1,a2,a3,a4,a5,a6,a7⟩,⟨b1,b2,b3,b4,b5,b6⟩,⟨c1,c2,c3,c4,c5⟩,⟨d1,d2,d3,d4⟩,⟨f1,f2,f3⟩,⟨g1,g2⟩,i1⟩:=h0
  obtain ⟨k1,e1⟩:=h.dicts x.ses (by simp)
  obtain ⟨k2,e2⟩:=h.dicts x.rts (by simp)
  simp only [List.mem_cons,List.not_mem_nil,or_false,not_or]
  exact ⟨⟨(ne_dk hco e1).symm,fun z=>f2 z.symm,fun z=>g1 z.symm,fun z=>a6 z.symm,fun z=>b5 z.symm,fun z=>c4 z.symm,fun z=>d3 z.symm⟩,⟨(ne_dk hco e2).symm,fun z=>f3 z.symm,fun z=>g2 z.symm,fun z=>a7 z.symm,fun z=>b6 z.symm,fun z=>c5 z.symm,fun z=>d4 z.symm⟩⟩
 refine ⟨⟨dx,?_⟩,ht,hc,h.ses.fx f hses.1,fun y hy=>?_,h.rts.fx f hses.2,h.nd_new n hc.nd,fun y hy=>?_,h.ndA,h.ndH⟩
 ·show H' x.st=_
  rw [n.1]
  exact f.at_ ho (h.ins_out ho (ne_CS T).symm)
 ·have hy':=h.each y hy
  obtain ⟨⟨dy,o,i,h1,_⟩,⟨kvh,h2,_⟩⟩:=id hy'
  exact hy'.fx f (h.ins_out h1 (ne_CE T).symm) (mem_seven (h.ndh y hy) (ne_dk hco h2).symm)
 ·have h1:=h.ndh y hy
  obtain ⟨_,⟨kvh,h2,_⟩⟩:=h.each y hy
  rcases n.2 with e | ⟨e1,e2⟩
  ·rw [e];exact h1
  ·simp only [List.mem_cons,List.not_mem_nil,or_false,not_or] at h1 ⊢
   obtain ⟨a1,a2,a3,a4,a5,a6,a7,a8⟩:=h1
   exact ⟨a1,a2,a3,a4,ne_of_none h2 e1,ne_of_none h2 e2,a7,a8⟩
theorem StAt.se' (T:Txt K mg a) (h:StAt a H x s) {y y':Session} (hy:y∈s.sessions) (e:y'.number=y.number) (f:Fx [x.A y.number,x.hd y.number] H H') (hs:SeAt a H' (x.A y.number) (x.hd y.number) y'):StAt a H' x (s.set y'):=by
 obtain ⟨dx,ho⟩:=h.ob
 obtain ⟨⟨dy,o,i,h1,_⟩,⟨kvh,h2,_⟩⟩:=h.each y hy
 have hd:=h.dicts
 have hdn:∀ d∈[x.t.siz,x.t.rf,x.t.kn,x.t.me,x.c.bl,x.c.gr,x.ses,x.rts],d∉[x.A y.number,x.hd y.number]:=fun d hd'=>by
  obtain ⟨kvs,h3⟩:=hd d hd'
  simp only [List.mem_cons,List.not_mem_nil,or_false,not_or]
  exact ⟨(ne_dk h1 h3).symm,fun z=>h.ndh y hy (z▸hd')⟩
 have hin:∀ {p C dp:Addr}{fs:List (Str×V)},H p=some (.ins C dp fs)→C≠a.Ze→p∉[x.A y.number,x.hd y.number]:=fun hp n=>by
  simp only [List.mem_cons,List.not_mem_nil,or_false,not_or]
  exact ⟨ne_ins hp h1 n,ne_dk hp h2⟩
 have hex:∃ z∈s.sessions,z.number=y'.number:=⟨y,hy,e.symm⟩
 have hms:∀ z,z∈(s.set y').sessions↔z=y'∨(z∈s.sessions∧z.number≠y'.number):=fun z=>mem_setSes_iff hex
 have hnum:∀ z∈(s.set y').sessions,∃ w∈s.sessions,w.number=z.number:=fun z hz=>by
  rcases (hms z).mp hz with rfl | hz
  ·exact ⟨y,hy,e.symm⟩
  ·exact ⟨z,hz.1,rfl⟩
 refine ⟨⟨dx,f.at_ ho (hin ho (ne_SE T))⟩,?_,?_,?_,fun z hz=>?_,h.rts.fx f (hdn _ (by simp)),h.nd,fun z hz=>?_,fun z hz z' hz'=>?_,fun z hz z' hz'=>?_⟩
 ·obtain ⟨dt,hto⟩:=h.th.ob
  refine h.th.fx f fun d hd'=>?_
  rcases List.mem_cons.mp hd' with rfl | hd'
  ·exact hin hto (ne_TE T)
  ·exact hdn d (by simp at hd' ⊢;rcases hd' with h | h | h | h <;> simp [h])
 ·obtain ⟨dc,hco⟩:=h.co.ob
  refine h.co.fx f fun d hd'=>?_
  rcases List.mem_cons.mp hd' with rfl | hd'
  ·exact hin hco (ne_CE T)
  ·exact hdn d (by simp at hd' ⊢;rcases hd' with h | h <;> simp [h])
 ·have:=h.ses.fx f (hdn _ (by simp))
  obtain ⟨kvs,c1,c2⟩:=this
  refine ⟨kvs,c1,c2.congr fun k=>?_⟩
  unfold sesF
  have:(s.set y').sessions.map (fun z=>z.number)=s.sessions.map fun z=>z.number:=setSes_nums y' s.sessions
  rw [this]
 ·rcases (hms z).mp hz with rfl | ⟨hz1,hz2⟩
  ·rw [e];exact hs
  ·rw [e] at hz2
   refine (h.each z hz1).fx f ?_ ?_
   ·obtain ⟨⟨dz,oz,iz,h3,_⟩,⟨kvz,h4,_⟩⟩:=h.each z hz1
    simp only [List.mem_cons,List.not_mem_nil,or_false,not_or]
    exact ⟨fun q=>hz2 (h.ndA z hz1 y hy q),ne_dk h3 h2⟩
   ·obtain ⟨⟨dz,oz,iz,h3,_⟩,⟨kvz,h4,_⟩⟩:=h.each z hz1
    simp only [List.mem_cons,List.not_mem_nil,or_false,not_or]
    exact ⟨(ne_dk h1 h4).symm,fun q=>hz2 (h.ndH z hz1 y hy q)⟩
 ·obtain ⟨w,hw,ew⟩:=hnum z hz
  rw [← ew];exact h.ndh w hw
 ·obtain ⟨w,hw,ew⟩:=hnum z hz
  obtain ⟨w',hw',ew'⟩:=hnum z' hz'
  rw [← ew,← ew'];exact h.ndA w hw w' hw'
 ·obtain ⟨w,hw,ew⟩:=hnum z hz
  obtain ⟨w',hw',ew'⟩:=hnum z' hz'
  rw [← ew,← ew'];exact h.ndH w hw w' hw'
theorem StAt.se (T:Txt K mg a) (h:StAt a H x s) (inv:StInv s) {y y':Session} (hy:y∈s.sessions) (e:y'.number=y.number) (f:Fx [x.A y.number,x.hd y.number] H H') (hs:SeAt a H' (x.A y.number) (x.hd y.number) y'):StAt a H' x (s.set y'):=h.se' T hy e f hs
theorem StAt.out3 (T:Txt K mg a) (h:StAt a H x s) (f:Fx [x.st,x.ses,x.rts] H H'):ThAt a H' x.t s.store∧CoAt a H' x.c s.phase s.black s.grey s.need s.won∧∀ y∈s.sessions,SeAt a H' (x.A y.number) (x.hd y.number) y:=by
 obtain ⟨dx,ho⟩:=h.ob
 obtain ⟨ks,hs⟩:=h.dicts x.ses (by simp)
 obtain ⟨kr,hr⟩:=h.dicts x.rts (by simp)
 have h0:=h.nd
 simp only [List.nodup_cons,List.mem_cons,List.not_mem_nil,or_false,not_or,List.nodup_nil,not_false_eq_true,and_true] at h0
 obtain ⟨⟨a1,a2,a3,a4,a5,a6,a7⟩,⟨b1,b2,b3,b4,b5,b6⟩,⟨c1,c2,c3,c4,c5⟩,⟨d1,d2,d3,d4⟩,⟨f1,f2,f3⟩,⟨g1,g2⟩,i1⟩:=h0
 have hin:∀ {p C dp:Addr}{fs:List (Str×V)},H p=some (.ins C dp fs)→C≠a.Zd→p∉[x.st,x.ses,x.rts]:=fun hp n=>by
  simp only [List.mem_cons,List.not_mem_nil,or_false,not_or]
  exact ⟨ne_ins hp ho n,ne_dk hp hs,ne_dk hp hr⟩
 have hst:∀ {d:Addr}{kvs:List (Key×V)},H d=some (.dK kvs)→d≠x.st:=fun hd=>(ne_dk ho hd).symm
 refine ⟨?_,?_,fun y hy=>?_⟩
 ·obtain ⟨dt,hto⟩:=h.th.ob
  refine h.th.fx f fun d hd'=>?_
  simp only [List.mem_cons,List.not_mem_nil,or_false] at hd'
  rcases hd' with rfl | rfl | rfl | rfl | rfl
  ·exact hin hto (ne_TS T)
  all_goals
   simp only [List.mem_cons,List.not_mem_nil,or_false,not_or]
   first
    | exact ⟨hst (h.dicts x.t.siz (by simp)).choose_spec,a6,a7⟩
    | exact ⟨hst (h.dicts x.t.rf (by simp)).choose_spec,b5,b6⟩
    | exact ⟨hst (h.dicts x.t.kn (by simp)).choose_spec,c4,c5⟩
    | exact ⟨hst (h.dicts x.t.me (by simp)).choose_spec,d3,d4⟩
 ·obtain ⟨dc,hco⟩:=h.co.ob
  refine h.co.fx f fun d hd'=>?_
  simp only [List.mem_cons,List.not_mem_nil,or_false] at hd'
  rcases hd' with rfl | rfl | rfl
  ·exact hin hco (ne_CS T)
  all_goals
   simp only [List.mem_cons,List.not_mem_nil,or_false,not_or]
   first
    | exact ⟨hst (h.dicts x.c.bl (by simp)).choose_spec,f2,f3⟩
    | exact ⟨hst (h.dicts x.c.gr (by simp)).choose_spec,g1,g2⟩
 ·obtain ⟨⟨dy,o,i,h1,_⟩,⟨kvh,h2,_⟩⟩:=h.each y hy
  have hn:=h.ndh y hy
  refine (h.each y hy).fx f (hin h1 (ne_SE T).symm) ?_
  simp only [List.mem_cons,List.not_mem_nil,or_false,not_or] at hn ⊢
  exact ⟨hst h2,hn.2.2.2.2.2.2.1,hn.2.2.2.2.2.2.2⟩
end
end Go
end
section
set_option maxHeartbeats 2000000
namespace Go
open PySem PySem.Spec PyProof.Rows L2 LX VL
open Vastoj (Store Node knot closure isTop State Session)
theorem fx_unlock {H H':Hp}{d:Addr}{u:HO} (f:Fx [d] H H') (h:H d=some u):Same H (upd H' d u):=fun b o e=>by
 by_cases q:b=d
 ·subst q;rw [upd_same,← h,e]
 ·rw [upd_ne q];exact f.at_ e (by simpa using q)
section
variable {P:Program}{w:World}{K:PySem.W.Frag}{mg:Str→Option Value}{base:Heap}{a:Ad}
theorem made_same {H H1:Hp}{p dx C:Addr} (hp:H p=none) (hd:H dx=none) (k:∀ b o,(upd (upd H dx (.own p)) p (.ins C dx [])) b=some o→b≠p→H1 b=some o):Same H H1:=Same.made hp hd k
def spStInit (a:Ad):Sp:=fun vs H Q _=>∃ p dx,vs=[.ref p]∧H p=some (.ins a.Zd dx [])∧∀ (H':Hp) (x:StAd),x.st=p→StAt a H' x Vastoj.start→(∀ b o,H b=some o→b≠p→H' b=some o)→Q .non H'
theorem Z8S (T:Txt K mg a):Pr P w K mg base 3 a.Z4R ["self"] (spStInit a):=by
 refine pr_of' T.Z21 Z9j fun cdv A outer s H vs Q E hr h=>?_
 obtain ⟨p,dx,rfl,hp,k⟩:=h
 refine ⟨_,(pss_cons (ps_fld (pv 0) (pc_k0 T.Z3O (Z8D T) (hr.mono (by decide)) T.ZaA) rfl)
   (pss_cons (ps_fld (pv 0) (pc_k0 T.Z1Y (Z7t T) (hr.mono (by decide)) T.Z9S) rfl)
   (pss_cons (ps_fld (pv 0) pe_dnewK rfl)
   (pss_cons (ps_fld (pv 0) pe_dnewK rfl)
   (pss_one (ps_fld (pv 0) (pk T.Z9m) rfl)))))),?_⟩
 intro th dth h1 h2 h3
 refine ⟨th,dth,rfl,upd_same,fun H1 t et z1 z2 z3 z4 ht k1=>⟨rfl,?_⟩⟩
 have s1:Same H H1:=made_same h1 h2 k1
 have e1:∀ d,(upd (upd H dth (.own th)) th (.ins a.Za dth [])) d=none→H d=none:=fun d hd=>by
  have n1:d≠th:=fun e=>by rw [e,upd_same] at hd;cases hd
  have n2:d≠dth:=fun e=>by rw [upd_ne n1,e,upd_same] at hd;cases hd
  rw [upd_ne n1,upd_ne n2] at hd;exact hd
 refine ⟨_,rfl,p,a.Zd,dx,[],rfl,s1 _ _ hp,T.Z1,T.Zj,by decide,?_⟩
 have hp1:=s1 _ _ hp
 generalize hH2:upd H1 p (.ins a.Zd dx (putF "things" (.ref th) []))=H2
 have f2:∀ b o,H1 b=some o→b≠p→H2 b=some o:=fun b o e n=>by rw [← hH2,upd_ne n];exact e
 have hp2:H2 p=some (.ins a.Zd dx (putF "things" (.ref th) [])):=by rw [← hH2,upd_same]
 have n2':∀ b,H2 b=none→H1 b=none∧b≠p:=fun b e=>by
  have:b≠p:=fun q=>by rw [q,hp2] at e;cases e
  exact ⟨by rw [← hH2,upd_ne this] at e;exact e,this⟩
 intro co dco c1 c2 c3
 refine ⟨co,dco,rfl,upd_same,fun H3 c ec y1 y2 hc k3=>⟨rfl,?_⟩⟩
 have s3:Same H2 H3:=made_same c1 c2 k3
 have e3:∀ d,(upd (upd H2 dco (.own co)) co (.ins a.Z2 dco [])) d=none→H2 d=none:=fun d hd=>by
  have n1:d≠co:=fun e=>by rw [e,upd_same] at hd;cases hd
  have n2:d≠dco:=fun e=>by rw [upd_ne n1,e,upd_same] at hd;cases hd
  rw [upd_ne n1,upd_ne n2] at hd;exact hd
 refine ⟨_,rfl,p,a.Zd,dx,_,rfl,s3 _ _ hp2,T.Z1,T.Zr,by show 1<1000;decide,?_⟩
 generalize hH4:upd H3 p (.ins a.Zd dx (putF "collector" (.ref co) (putF "things" (.ref th) [])))=H4
 have hp4:H4 p=some (.ins a.Zd dx (putF "collector" (.ref co) (putF "things" (.ref th) []))):=by rw [← hH4,upd_same]
 have f4:∀ b o,H3 b=some o→b≠p→H4 b=some o:=fun b o e n=>by rw [← hH4,upd_ne n];exact e
 have n4':∀ b,H4 b=none→H3 b=none∧b≠p:=fun b e=>by
  have:b≠p:=fun q=>by rw [q,hp4] at e;cases e
  exact ⟨by rw [← hH4,upd_ne this] at e;exact e,this⟩
 intro ses hses
 have nps:p≠ses:=ne_of_none hp4 hses
 refine ⟨_,rfl,p,a.Zd,dx,_,rfl,by rw [upd_ne nps];exact hp4,T.Z1,T.Z5,by show 2<1000;decide,?_⟩
 intro rts hrts
 have npr:p≠rts:=fun e=>by rw [← e,upd_same] at hrts;cases hrts
 have nsr:ses≠rts:=fun e=>by rw [← e,upd_ne nps.symm,upd_same] at hrts;cases hrts
 refine ⟨_,rfl,p,a.Zd,dx,_,rfl,by rw [upd_ne npr,upd_same],T.Z1,T.ZO,by show 3<1000;decide,?_⟩
 refine ⟨_,rfl,p,a.Zd,dx,_,rfl,upd_same,T.Z1,T.Z3Y,by show 4<1000;decide,?_⟩
 have q4:H4 rts=none:=by
  rw [upd_ne npr.symm,upd_ne nsr.symm] at hrts;exact hrts
 have hH1n:∀ b,H3 b=none→H1 b=none:=fun b e=>by
  have h2:=s3.free e
  exact (n2' b h2).1
 subst et ec
 have np:∀ b o,H1 b=some o→(∀ C d fs,o≠.ins C d fs)→b≠p:=fun b o e n q=>by
  rw [q,hp1] at e
  cases e
  exact n _ _ _ rfl
 have lift1:∀ b o,H1 b=some o→b≠p→H4 b=some o:=fun b o e n=>f4 b o (s3 _ _ (f2 b o e n)) n
 have tdk:∀ d kvs,H1 d=some (.dK kvs)→d≠p:=fun d kvs e=>np d _ e (by intro C d fs z;cases z)
 have cdk:∀ d kvs,H3 d=some (.dK kvs)→d≠p:=fun d kvs e q=>by
  rw [q,s3 _ _ hp2] at e;cases e
 have tth:t.th≠p:=fun q=>by rw [q,hp] at h1;cases h1
 have tco:c.co≠p:=fun q=>by rw [q,hp2] at c1;cases c1
 obtain ⟨⟨dt,to⟩,⟨kz,tz1,tz2⟩,⟨kr,tr1,RA,tr2,tr3⟩,⟨kk,tk1,KA,tk2,tk3⟩,⟨km,tm1,tm2⟩,tnd⟩:=ht
 obtain ⟨⟨dc,co1⟩,⟨kb,cb1,cb2⟩,⟨kg,cg1,cg2⟩,cnd⟩:=hc
 generalize hH5:upd (upd (upd (upd H4 ses (.dK [])) p (.ins a.Zd dx (putF "sessions" (.ref ses) (putF "collector" (.ref c.co) (putF "things" (.ref t.th) []))))) rts (.dK [])) p (.ins a.Zd dx (putF "roots" (.ref rts) (putF "sessions" (.ref ses) (putF "collector" (.ref c.co) (putF "things" (.ref t.th) [])))))=H5 at *
 have f5:∀ b o,H4 b=some o→b≠p→H5 b=some o:=fun b o e n=>by
  rw [← hH5,upd_ne n,upd_ne (ne_of_none e q4),upd_ne n,upd_ne (ne_of_none e hses)];exact e
 have l5:∀ b o,H1 b=some o→b≠p→(upd H5 p (.ins a.Zd dx (putF "room" (.int 100000) (putF "roots" (.ref rts) (putF "sessions" (.ref ses) (putF "collector" (.ref c.co) (putF "things" (.ref t.th) []))))))) b=some o:=fun b o e n=>by
  rw [upd_ne n];exact f5 b o (lift1 b o e n) n
 have l3:∀ b o,H3 b=some o→b≠p→(upd H5 p (.ins a.Zd dx (putF "room" (.int 100000) (putF "roots" (.ref rts) (putF "sessions" (.ref ses) (putF "collector" (.ref c.co) (putF "things" (.ref t.th) []))))))) b=some o:=fun b o e n=>by
  rw [upd_ne n];exact f5 b o (f4 b o e n) n
 have hs5:H5 ses=some (.dK []):=by rw [← hH5,upd_ne nps.symm,upd_ne nsr,upd_ne nps.symm,upd_same]
 have hr5:H5 rts=some (.dK []):=by rw [← hH5,upd_ne npr.symm,upd_same]
 have H3ses:H3 ses=none:=(n4' ses hses).1
 have H3rts:H3 rts=none:=(n4' rts q4).1
 have H1ses:=hH1n ses H3ses
 have H1rts:=hH1n rts H3rts
 have y1':H1 c.bl=none:=(n2' _ (e3 _ y1)).1
 have y2':H1 c.gr=none:=(n2' _ (e3 _ y2)).1
 have zro:∀ r,rtF [] r=none:=fun r=>rfl
 have zse:∀ r,sesF [] (fun _=>0) r=none:=fun r=>rfl
 refine k _ ⟨p,t,c,ses,rts,fun _=>0,fun _=>0⟩ rfl ⟨⟨dx,by rw [upd_same,ZaB];rfl⟩,⟨⟨dt,l5 _ _ to tth⟩,⟨kz,l5 _ _ tz1 (tdk _ _ tz1),tz2⟩,⟨kr,l5 _ _ tr1 (tdk _ _ tr1),RA,tr2,fun q r e=>by cases e⟩,⟨kk,l5 _ _ tk1 (tdk _ _ tk1),KA,tk2,fun q r e=>by cases e⟩,⟨km,l5 _ _ tm1 (tdk _ _ tm1),tm2⟩,tnd⟩,
  ⟨⟨dc,l3 _ _ co1 tco⟩,⟨kb,l3 _ _ cb1 (cdk _ _ cb1),cb2⟩,⟨kg,l3 _ _ cg1 (cdk _ _ cg1),cg2⟩,cnd⟩,⟨[],by rw [upd_ne nps.symm];exact hs5,DM.nil.congr fun r=>(zse r).symm⟩,fun y hy=>(by cases hy),⟨[],by rw [upd_ne npr.symm];exact hr5,DM.nil.congr fun r=>(zro r).symm⟩,?_,fun y hy=>(by cases hy),fun y hy=>(by cases hy),fun y hy=>(by cases hy)⟩ fun b o e hb=>?_
 ·simp only [List.nodup_cons,List.mem_cons,List.not_mem_nil,or_false,not_or,List.nodup_nil,not_false_eq_true,and_true] at tnd ⊢
  obtain ⟨⟨a1,a2,a3⟩,⟨b1,b2⟩,c1⟩:=tnd
  exact ⟨⟨a1,a2,a3,ne_of_none tz1 y1',ne_of_none tz1 y2',ne_of_none tz1 H1ses,ne_of_none tz1 H1rts⟩,⟨b1,b2,ne_of_none tr1 y1',ne_of_none tr1 y2',ne_of_none tr1 H1ses,ne_of_none tr1 H1rts⟩,⟨c1,ne_of_none tk1 y1',ne_of_none tk1 y2',ne_of_none tk1 H1ses,ne_of_none tk1 H1rts⟩,⟨ne_of_none tm1 y1',ne_of_none tm1 y2',ne_of_none tm1 H1ses,ne_of_none tm1 H1rts⟩,⟨cnd,ne_of_none cb1 H3ses,ne_of_none cb1 H3rts⟩,⟨ne_of_none cg1 H3ses,ne_of_none cg1 H3rts⟩,nsr⟩
 ·exact l5 b o (s1 _ _ e) hb
def spStValid (a:Ad):Sp:=fun vs H Q _=>∃ (x:StAd) (s:State) (z:Int),vs=[.ref x.st,.int z]∧StAt a H x s∧Q (.bl (decide (0≤z)&&s.store.has z.toNat)) H
theorem ZK (T:Txt K mg a):Pr P w K mg base 2 a.Z2Y ["self","place"] (spStValid a):=by
 refine pr_of' T.Z7N Z7l fun cdv A outer s H vs Q E hr h=>?_
 obtain ⟨x,s,z,rfl,hs,k⟩:=h
 refine ⟨_,(pss_one (ps_ret (pc_m (pe_fld (pv 0) rfl) T.Z3 T.Z70 (Z6D T) (hr.mono (by decide)) (pa_cons (pv 1) pa_nil)))),?_⟩
 obtain ⟨dx,ho⟩:=hs.ob
 obtain ⟨dt,hto⟩:=hs.th.ob
 exact ⟨_,rfl,x.st,_,dx,_,_,rfl,ho,T.Z1,T.Zj,Zk,x.t.th,dt,_,rfl,hto,Z6P,_,rfl,x.t,s.store,z,rfl,hs.th,k⟩
def spStShade (a:Ad):Sp:=fun vs H Q _=>∃ (x:StAd) (s:State) (pl:Addr) (l:List Nat),vs=[.ref x.st,.ref pl]∧StAt a H x s∧StoreOk s.store∧(∀ q∈s.black,q<128)∧(∀ q∈s.grey,q<128)∧H pl=some (.lst (ivs l))∧(∀ q∈l,q∈s.store.valid) ∧
 ∀ H',Fx [x.c.bl,x.c.gr] H H'→StAt a H' x (s.shade l)→Q .non H'
theorem Z2l (T:Txt K mg a):Pr P w K mg base 4 a.Z48 ["self","places"] (spStShade a):=by
 refine pr_of' T.Z9d Z8o fun cdv A outer s H vs Q E hr h=>?_
 obtain ⟨x,s,pl,l,rfl,hs,ok,hb,hg,hpl,hv,k⟩:=h
 refine ⟨_,(pss_one (ps_expr (pc_m (pe_fld (pv 0) rfl) T.Z0 T.Z7b (Z6z T) (hr.mono (by decide)) (pa_cons (pe_fld (pv 0) rfl) (pa_cons (pv 1) pa_nil))))),?_⟩
 obtain ⟨dx,ho⟩:=hs.ob
 obtain ⟨dc,hco⟩:=hs.co.ob
 refine ⟨_,rfl,x.st,_,dx,_,_,rfl,ho,T.Z1,T.Zr,ZB,x.c.co,dc,_,rfl,hco,Z6Y,_,rfl,x.st,_,dx,_,_,rfl,ho,T.Z1,T.Zj,Zk,_,rfl,x.t,s.store,x.c,s.phase,s.black,s.grey,s.need,s.won,pl,l,rfl,hs.apart,hs.th,ok,hs.co,hpl,hv,hb,hg,fun H1 f hc=>?_⟩
 refine k H1 f ?_
 have nT:=th_apart hs.th hs.co (ne_TC T) hs.apart
 have:=hs.tc T (f.mono (by simp)) ⟨rfl,.inl rfl⟩ (hs.th.fx f fun y hy h=>nT y hy (by simp at h;rcases h with h | h <;> simp [h])) hc
 rw [shade_eq]
 exact this
end
end Go
end
section
set_option maxHeartbeats 2000000
namespace Go
open PySem PySem.Spec PyProof.Rows L2 LX VL
open Vastoj (Store Node knot closure isTop State Session)
def rootOf (l:List (Nat×Nat)) (r:Nat):Nat:=((l.find? fun x=>x.1==r).map fun x=>x.2).getD 0
theorem rt_unique {l:List (Nat×Nat)} (h:Asc (l.map fun r=>r.1)) {x y:Nat×Nat} (hx:x∈l) (hy:y∈l) (e:x.1=y.1):x=y:=by
 induction l with
 | nil=>cases hx
 | cons a r ih =>
  have g:=List.pairwise_cons.mp (show (a.1::r.map fun r=>r.1).Pairwise (·<·) from h)
  rcases List.mem_cons.mp hx with h1 | h1
  ·rcases List.mem_cons.mp hy with h2 | h2
   ·rw [h1,h2]
   ·have:=g.1 y.1 (List.mem_map.mpr ⟨y,h2,rfl⟩);rw [h1] at e;omega
  ·rcases List.mem_cons.mp hy with h2 | h2
   ·have:=g.1 x.1 (List.mem_map.mpr ⟨x,h1,rfl⟩);rw [h2] at e;omega
   ·exact ih g.2 h1 h2
theorem rtF_some {l:List (Nat×Nat)} (h:Asc (l.map fun r=>r.1)) {r p:Nat} (hm:(r,p)∈l):rtF l r=some (iv p)∧rootOf l r=p:=by
 have:l.find? (fun x=>x.1==r)=some (r,p):=by
  cases e:l.find? (fun x=>x.1==r) with
  | none=>have:=List.find?_eq_none.mp e _ hm;simp at this
  | some y =>
   have h1:=List.find?_some e
   have h2:=List.mem_of_find?_eq_some e
   rw [rt_unique h h2 hm (by simpa using h1)]
 unfold rtF rootOf
 rw [this];exact ⟨rfl,rfl⟩
theorem rtF_isSome {l:List (Nat×Nat)}{r:Nat}:(rtF l r).isSome=true↔∃ p,(r,p)∈l:=by
 unfold rtF
 rw [Option.isSome_map]
 constructor
 ·intro h
  obtain ⟨y,e⟩:=Option.isSome_iff_exists.mp h
  have h1:=List.find?_some e
  have h2:=List.mem_of_find?_eq_some e
  have:y.1=r:=by simpa using h1
  exact ⟨y.2,by rw [← this];exact h2⟩
 ·rintro ⟨p,hp⟩
  rw [List.find?_isSome]
  exact ⟨_,hp,by simp⟩
theorem rt_keys {l:List (Nat×Nat)} (h:Roots l) {kvs:List (Key×V)} (d:DM kvs (rtF l)):∃ ks:List Nat,kvs.map (·.1)=ks.map ky∧ks.Nodup∧(∀ r,r∈ks↔∃ p,(r,p)∈l)∧kvs.map (·.2)=ivs (ks.map (rootOf l))∧ks.length≤32:=by
 obtain ⟨ks,k1,k2,k3,k4⟩:=d.keys
 have hk:∀ r,r∈ks↔∃ p,(r,p)∈l:=fun r=>(k3 r).trans rtF_isSome
 refine ⟨ks,k1,k2,hk,?_,nodup_le k2 fun r hr=>?_⟩
 ·show _=(ks.map (rootOf l)).map iv
  rw [k4,List.map_map,List.map_map]
  refine List.map_congr_left fun r hr=>?_
  obtain ⟨p,hp⟩:=(hk r).mp hr
  obtain ⟨e1,e2⟩:=rtF_some h.asc hp
  simp only [Function.comp]
  rw [e1,e2];rfl
 ·obtain ⟨p,hp⟩:=(hk r).mp hr
  exact (h.lt _ hp).1
theorem se_keys {l:List Session}{st:Store} (h:Sess st l) {A:Nat→Addr}{kvs:List (Key×V)} (d:DM kvs (sesF l A)):∃ ks:List Nat,kvs.map (·.1)=ks.map ky∧ks.Nodup∧(∀ k,k∈ks↔∃ y∈l,y.number=k)∧kvs=ks.map (fun k=>(ky k,(sesF l A k).getD .non))∧ks.length≤8∧∀ k∈ks,(sesF l A k).getD .non=V.ref (A k):=by
 obtain ⟨ks,k1,k2,k3,k4⟩:=d.keys
 have hk:∀ k,k∈ks↔∃ y∈l,y.number=k:=fun k=>by
  rw [k3]
  unfold sesF
  by_cases e:k∈l.map (fun x=>x.number)
  ·rw [if_pos e]
   simpa using List.mem_map.mp e
  ·rw [if_neg e]
   simp at e ⊢
   exact fun y hy z=>e y hy z
 refine ⟨ks,k1,k2,hk,k4,nodup_le k2 fun r hr=>?_,fun k hk'=>?_⟩
 ·obtain ⟨y,hy,e⟩:=(hk r).mp hr
  rw [← e];exact (h.ok y hy).num
 ·obtain ⟨y,hy,e⟩:=(hk k).mp hk'
  unfold sesF
  rw [if_pos (List.mem_map.mpr ⟨y,hy,e⟩)];rfl
theorem ins_len {st:Store} (ok:StoreOk st) {l:List Session} (h:Sess st l) {y:Session} (hy:y∈l):(insOf y).length≤128:=by
 unfold insOf
 cases e:y.building with
 | none=>simp
 | some b=>exact asc_len_le ((h.ok y hy).iasc b e) fun q hq=>ok.lt q (h.insV y hy b e q hq)
theorem outs_len {st:Store}{l:List Session} (h:Sess st l) {y:Session} (hy:y∈l):(outsOf y).length≤128:=by
 unfold outsOf
 cases e:y.building with
 | none=>simp
 | some b=>exact asc_len_le ((h.ok y hy).oasc b e) ((h.ok y hy).olt b e)
section
variable {P:Program}{w:World}{K:PySem.W.Frag}{mg:Str→Option Value}{base:Heap}{a:Ad}
def spAnchValid (a:Ad):Sp:=fun vs H Q _=>∃ (x:StAd) (s:State),vs=[.ref x.st]∧StAt a H x s∧StInv s ∧
 ∀ (H':Hp) (p:Addr) (l:List Nat),H p=none→Same H H'→H' p=some (.lst (ivs l))→(∀ q,q∈l↔q∈s.anchored)→l.length≤5000→Q (.ref p) H'
theorem Z2q (T:Txt K mg a):Pr P w K mg base 3 a.Z1m ["self"] (spAnchValid a):=by
 refine pr_of' T.Z5g Zu fun cdv A outer s H vs Q E hr h=>?_
 obtain ⟨x,s,rfl,hs,inv,k⟩:=h
 refine ⟨_,(pss_cons (pst 1 Zu.nd (pe_callTy (cr_listvals rfl) (by rfl) T.Z9u (by decide +kernel) (pa_cons (pe_bm0 PySem.F.plainAttrs_dict PySem.F.slot_dict_values PySem.F.type_dict_values mt_values (pe_fld (pv 0) rfl)) pa_nil)))
   (pss_cons (ps_lock (ps_for PassesOwn.never rfl (pi_values (pe_fld (pv 0) rfl)) (pn 2 Zu.nd) (pss_one (ps_expr (pe_bm PySem.F.plainAttrs_list PySem.F.slot_list_extend PySem.F.type_list_extend mt_extend (pv 1) (pa_cons (pc_m0 (pv 2) T.Z7 T.Z3q (Z3o T) (hr.mono (by decide))) pa_nil))))))
   (pss_one (ps_ret (pe_lc (own:=[("place",3)]) rfl Zu.nd (pi_list (pv 1)) (blkOk_by rfl) (fun _ _ _ _ _=>pn 3 Zu.nd) (fun _ _ _ _ _=>(pts_one (pt_val (pc_m (pv 0) T.Z1 T.ZJ (ZK T) (hr.mono (by decide)) (pa_cons (pv 3) pa_nil))))) (fun _ _ _ _ _=>(pv 3))))))),?_⟩
 obtain ⟨dx,ho⟩:=hs.ob
 obtain ⟨kvr,r1,r2⟩:=hs.rts
 obtain ⟨rs,e1,e2,e3,e4,e5⟩:=rt_keys inv.roots r2
 obtain ⟨kvs,s1,s2⟩:=hs.ses
 obtain ⟨ks,g1,g2,g3,g4,g5,g6⟩:=se_keys inv.ses s2
 refine ⟨_,rfl,x.st,_,dx,_,_,rfl,ho,T.Z1,T.ZO,Z13,.inr (.inr (.inl ⟨rfl,.inl ⟨_,r1⟩⟩)),x.rts,kvr,rfl,rfl,Rd.of r1,fun p hp=>?_⟩
 have sp:=same_new (o:=ViewO p x.rts) hp
 refine ⟨p,x.rts,kvr,rfl,upd_same,Rd.of (sp _ _ r1),fun al hal=>?_⟩
 rw [e4]
 have sa:Same H (upd (upd H p (ViewO p x.rts)) al (.lst (ivs (rs.map (rootOf s.roots))))):=sp.trans (same_new hal)
 have hHal:H al=none:=sp.free hal
 generalize hH1:upd (upd H p (ViewO p x.rts)) al (.lst (ivs (rs.map (rootOf s.roots))))=H1 at sa
 have hal1:H1 al=some (.lst (ivs (rs.map (rootOf s.roots)))):=by rw [← hH1,upd_same]
 have hs1:=hs.same sa
 refine ⟨x.ses,.dK kvs,sa _ _ s1,trivial,fun od=>?_⟩
 have nso:x.st≠x.ses:=ne_dk (sa _ _ ho) (sa _ _ s1)
 have nal:al≠x.ses:=fun e=>by rw [e,s1] at hHal;cases hHal
 have fl:Fx [x.ses] H (upd H1 x.ses (.frz od (.dK kvs))):=(Same.fx sa).trans (Fx.put (sa _ _ s1) (by intro xs z;cases z) (by simp))
 refine ⟨_,rfl,x.st,_,dx,_,_,rfl,fl.at_ ho (by simpa using nso),T.Z1,T.Z5,Z6,x.ses,od,kvs,rfl,upd_same,for_vals (d:=x.ses) (od:=od) (kvs:=kvs) (fun i σ H'=>∃ v2,σ=[some (.ref x.st),some (.ref al),v2,none]∧H' x.ses=some (.frz od (.dK kvs))∧Fx [x.ses] H H' ∧
   ∃ l:List Nat,H' al=some (.lst (ivs l))∧l.length≤32+i*256∧∀ q,q∈l↔(∃ r∈s.roots,r.2=q)∨∃ y∈s.sessions,y.number∈ks.take i∧q∈y.anchors)
  ⟨none,rfl,upd_same,fl,rs.map (rootOf s.roots),by rw [upd_ne nal];exact hal1,by rw [List.length_map];omega,fun q=>?_⟩ (fun i σ H' ⟨_,_,h,_⟩=>h) ?_ ?_⟩
 ·rw [List.mem_map]
  simp only [List.take_zero,List.not_mem_nil,false_and,and_false,exists_false,or_false]
  constructor
  ·rintro ⟨r,hr0,e⟩
   obtain ⟨p',hp'⟩:=(e3 r).mp hr0
   exact ⟨_,hp',by rw [← e,(rtF_some inv.roots.asc hp').2]⟩
  ·rintro ⟨⟨r,p'⟩,h1,h2⟩
   exact ⟨r,(e3 r).mpr ⟨p',h1⟩,by rw [(rtF_some inv.roots.asc h1).2];exact h2⟩
 ·rintro i kk v σ H2 hi ⟨v2,rfl,hl2,f2,l,hl,hll,hlm⟩
  rw [g4,List.getElem?_map] at hi
  cases e:ks[i]? with
  | none=>rw [e] at hi;cases hi
  | some n =>
   rw [e] at hi
   have hi':=Option.some.inj hi
   have hv:v=V.ref (x.A n):=by rw [← g6 n (List.mem_of_getElem? e)];exact (congrArg (·.2) hi').symm
   subst hv
   obtain ⟨y,hy,rfl⟩:=(g3 n).mp (List.mem_of_getElem? e)
   obtain ⟨⟨dy,oo,ii,y1,y2,y3⟩,⟨kvh,y4,y5⟩⟩:=id (hs.each y hy)
   have nA:x.A y.number∉[x.ses]:=by simp;exact ne_dk y1 s1
   have nh:x.hd y.number∉[x.ses]:=by
    have:=hs.ndh y hy
    simp at this ⊢
    exact this.2.2.2.2.2.2.1
   have hse:=(hs.each y hy).fx f2 nA nh
   have hil:i<ks.length:=(List.getElem?_eq_some_iff.mp e).1
   refine ⟨_,rfl,.inl ⟨rfl,_,SqL.of hl⟩,_,rfl,x.A y.number,dy,_,rfl,f2.at_ y1 nA,Z3v,x.A y.number,x.hd y.number,y,rfl,hse,(inv.ses.ok y hy).hlt,ins_len inv.st inv.ses hy,fun H3 p3 l3 hp3 s3 h3 hm3 hl3=>?_⟩
   refine ⟨al,p3,ivs l,ivs l3,rfl,rfl,s3 _ _ hl,h3,by rw [ivs_len,ivs_len];exact Nat.le_of_lt (line_of_le (by omega)),?_⟩
   have nps:al≠x.ses:=nal
   refine ⟨_,rfl,by rw [upd_ne nal.symm];exact s3 _ _ hl2,fun b o eb hk=>?_,l++l3,by rw [upd_same];simp,by rw [List.length_append];omega,fun q=>?_⟩
   ·rw [upd_ne (ne_of_none eb hHal)]
    exact (f2.trans (Same.fx s3)) b o eb hk
   ·rw [List.mem_append,hlm,hm3,take_snoc' e]
    constructor
    ·rintro ((h | ⟨y',h1,h2,h3⟩) | h)
     ·exact .inl h
     ·exact .inr ⟨y',h1,List.mem_append_left _ h2,h3⟩
     ·exact .inr ⟨y,hy,by simp,h⟩
    ·rintro (h | ⟨y',h1,h2,h3⟩)
     ·exact .inl (.inl h)
     ·rcases List.mem_append.mp h2 with h2 | h2
      ·exact .inl (.inr ⟨y',h1,h2,h3⟩)
      ·rw [List.mem_singleton] at h2
       rw [ses_unique inv.ses.asc h1 hy h2] at h3
       exact .inr h3
 ·rintro σ H2 ⟨v2,rfl,hl2,f2,l,hl,hll,hlm⟩
  have hkl:kvs.length=ks.length:=by rw [g4,List.length_map]
  rw [hkl] at hll
  rw [hkl,List.take_length] at hlm
  refine ⟨hl2,?_⟩
  have s3:Same H (upd H2 x.ses (.dK kvs)):=fx_unlock f2 s1
  have hl3:(upd H2 x.ses (.dK kvs)) al=some (.lst (ivs l)):=by rw [upd_ne nal];exact hl
  generalize upd H2 x.ses (.dK kvs)=H3 at s3 hl3
  have hs3:=hs.same s3
  have hlm2:∀ q,q∈l↔(∃ r∈s.roots,r.2=q)∨∃ y∈s.sessions,q∈y.anchors:=fun q=>by
   rw [hlm]
   constructor
   ·rintro (h | ⟨y,h1,_,h3⟩)
    ·exact .inl h
    ·exact .inr ⟨y,h1,h3⟩
   ·rintro (h | ⟨y,h1,h3⟩)
    ·exact .inl h
    ·exact .inr ⟨y,h1,(g3 _).mpr ⟨y,h1,rfl⟩,h3⟩
  refine ⟨_,rfl,al,rfl,⟨_,SqL.of hl3⟩,fun D hD=>lc_filter (K:=K) (f:=iv) (xs:=l) (c:=fun q=>s.store.has q) (y:=iv) (i:=3) (SqL.of hl3) hD (by omega) (fun H4 q Q' hq s4 kk=>?_) (fun H4 q Q' hq _ s4 kk=>⟨_,rfl,kk _ (Same.refl _)⟩) (fun z=>rfl) (fun H4 s4 hD4=>?_)⟩
  ·obtain ⟨dx4,ho4⟩:=(hs3.same s4).ob
   refine ⟨_,rfl,x.st,dx4,_,rfl,ho4,ZI,_,rfl,x,s,(q:Int),rfl,hs3.same s4,_,rfl,?_⟩
   have e:(decide ((0:Int)≤(q:Int))&&s.store.has (q:Int).toNat)=s.store.has q:=by simp
   rw [e]
   exact kk _ (Same.refl _)
  ·refine k H4 D (l.filter fun q=>s.store.has q) (s3.free hD) (s3.trans s4) hD4 (fun q=>?_) (Nat.le_trans (List.length_filter_le _ _) (by omega))
   rw [List.mem_filter,hlm2,mem_anchored,has_iff,And.comm]
end
end Go
end
section
set_option maxHeartbeats 1000000
namespace Go
open PySem PySem.Spec PyProof.Rows L2 LX VL
open Vastoj (Store Node knot closure isTop State Session Call step below)
def Keep (a:Ad) (H H':Hp):Prop:=∀ b o,H b=some o→(∀ kvs,o≠.dK kvs)→(∀ C dx fs,o=.ins C dx fs→C=a.Zf)→H' b=some o
theorem Keep.refl {a:Ad} (H:Hp):Keep a H H:=fun _ _ h _ _=>h
theorem Keep.trans {a:Ad}{H H1 H2:Hp} (x:Keep a H H1) (y:Keep a H1 H2):Keep a H H2:=fun b o h h1 h2=>y b o (x b o h h1 h2) h1 h2
theorem keep_same {a:Ad}{H H':Hp} (s:Same H H'):Keep a H H':=fun b o h _ _=>s b o h
def Own (a:Ad) (H:Hp) (b:Addr):Prop:=∀ o,H b=some o→(∃ kvs,o=.dK kvs)∨∃ C dx fs,o=.ins C dx fs∧C≠a.Zf
theorem keep_fx {a:Ad}{S:List Addr}{H H':Hp} (f:Fx S H H') (h:∀ b∈S,Own a H b):Keep a H H':=fun b o e h1 h2=>by
 by_cases hb:b∈S
 ·rcases h b hb o e with ⟨kvs,q⟩ | ⟨C,dx,fs,q,n⟩
  ·exact absurd q (h1 kvs)
  ·exact absurd (h2 C dx fs q) n
 ·exact f.at_ e hb
theorem Own.dk {a:Ad}{H:Hp}{b:Addr}{kvs:List (Key×V)} (h:H b=some (.dK kvs)):Own a H b:=fun o e=>by
 rw [h] at e;cases e;exact .inl ⟨_,rfl⟩
theorem Own.ins {a:Ad}{H:Hp}{b C dx:Addr}{fs:List (Str×V)} (h:H b=some (.ins C dx fs)) (n:C≠a.Zf):Own a H b:=fun o e=>by
 rw [h] at e;cases e;exact .inr ⟨_,_,_,rfl,n⟩
theorem Keep.seq {a:Ad}{K:PySem.W.Frag}{H H':Hp}{p:Addr}{xs:List V} (k:Keep a H H') (h:SqL K H p xs):SqL K H' p xs:=by
 rcases h with (h | ⟨o,h⟩) | h
 ·exact .inl (.inl (k _ _ h (by intro kvs z;cases z) (by intro C dx fs z;cases z)))
 ·exact .inl (.inr ⟨o,k _ _ h (by intro kvs z;cases z) (by intro C dx fs z;cases z)⟩)
 ·exact .inr h
theorem Keep.lst {a:Ad}{H H':Hp}{p:Addr}{xs:List V} (k:Keep a H H') (h:H p=some (.lst xs)):H' p=some (.lst xs):=k _ _ h (by intro kvs z;cases z) (by intro C dx fs z;cases z)
theorem RdAt.keep {a:Ad}{H H':Hp}{r nl:Addr}{pos:Nat} (k:Keep a H H') (h:RdAt a H r nl pos):RdAt a H' r nl pos:=by
 obtain ⟨dx,h⟩:=h
 exact ⟨dx,k _ _ h (by intro kvs z;cases z) (by intro C dx fs z;injection z with z1;exact z1.symm)⟩
section
variable {K:PySem.W.Frag}{mg:Str→Option Value}{a:Ad}{H H':Hp}{x:StAd}{s:State}
theorem StAt.own_tc (T:Txt K mg a) (h:StAt a H x s):∀ b∈[x.c.co,x.c.bl,x.c.gr,x.t.siz,x.t.rf,x.t.kn,x.t.me],Own a H b:=by
 obtain ⟨dc,hco⟩:=h.co.ob
 intro b hb
 rcases List.mem_cons.mp hb with e | hb
 ·rw [e];exact Own.ins hco (ne_CR T)
 ·obtain ⟨kvs,e⟩:=h.dicts b (by
   simp only [List.mem_cons,List.not_mem_nil,or_false] at hb ⊢
   rcases hb with h | h | h | h | h | h <;> simp [h])
  exact Own.dk e
theorem StAt.own_se (T:Txt K mg a) (h:StAt a H x s) {y:Session} (hy:y∈s.sessions):∀ b∈[x.A y.number,x.hd y.number],Own a H b:=by
 obtain ⟨⟨dy,o,i,h1,_⟩,⟨kvh,h2,_⟩⟩:=h.each y hy
 intro b hb
 simp only [List.mem_cons,List.not_mem_nil,or_false] at hb
 rcases hb with rfl | rfl
 ·exact Own.ins h1 (ne_ER T)
 ·exact Own.dk h2
theorem StAt.own3 (T:Txt K mg a) (h:StAt a H x s):∀ b∈[x.st,x.ses,x.rts],Own a H b:=by
 obtain ⟨dx,ho⟩:=h.ob
 obtain ⟨ks,hs⟩:=h.dicts x.ses (by simp)
 obtain ⟨kr,hr⟩:=h.dicts x.rts (by simp)
 intro b hb
 simp only [List.mem_cons,List.not_mem_nil,or_false] at hb
 rcases hb with rfl | rfl | rfl
 ·exact Own.ins ho (ne_SR T)
 ·exact Own.dk hs
 ·exact Own.dk hr
def Post (a:Ad) (H:Hp) (x:StAd) (s':State) (Q:Hp→Prop):Prop:=∀ H' x',x'.st=x.st→Keep a H H'→StAt a H' x' s'→Q H'
theorem Post.here {Q:Hp→Prop} (h:StAt a H x s) (k:Post a H x s Q):Q H:=k H x rfl (Keep.refl _) h
theorem Post.same {Q:Hp→Prop} (h:StAt a H x s) (e:Same H H') (k:Post a H x s Q):Q H':=k H' x rfl (keep_same e) (h.same e)
theorem session_iff (s:State) (k:Nat):(s.session k).isSome=true↔k∈s.sessions.map fun y=>y.number:=by
 unfold State.session
 rw [List.find?_isSome,List.mem_map]
 simp
theorem ses_get (s:State) (A:Nat→Addr) {kvs:List (Key×V)} (h:DM kvs (sesF s.sessions A)) {z:Int} (hz:0≤z):valV kvs (.inl z)=(s.session z.toNat).map fun _=>V.ref (A z.toNat):=by
 rw [h.getZ,if_pos hz]
 unfold sesF
 by_cases e:z.toNat∈s.sessions.map fun y=>y.number
 ·rw [if_pos e]
  obtain ⟨y,hy⟩:=Option.isSome_iff_exists.mp ((session_iff s z.toNat).mpr e)
  rw [hy];rfl
 ·rw [if_neg e]
  cases hy:s.session z.toNat with
  | none=>rfl
  | some y=>exact absurd ((session_iff s z.toNat).mp (by rw [hy];rfl)) e
theorem to8 (z:Int):(decide (0≤z)&&decide (z≤7))=below 8 z:=by
 unfold below
 congr 1
 rw [decide_eq_decide];omega
theorem to32 (z:Int):(decide (0≤z)&&decide (z≤31))=below 32 z:=by
 unfold below
 congr 1
 rw [decide_eq_decide];omega
theorem to128 (z:Int):(decide (0≤z)&&decide (z≤127))=Vastoj.isPlace z:=by
 unfold Vastoj.isPlace below
 congr 1
 rw [decide_eq_decide];omega
theorem place_has {s:Store}{z:Int} (h:Vastoj.isPlace z=true):(decide (0≤z)&&s.has z.toNat)=s.has z.toNat:=by
 have:=(below_iff.mp h).1
 simp [this]
theorem StAt.opened (T:Txt K mg a) (h:StAt a H x s) (inv:StInv s) {k:Nat} (hk:k<8) (e0:s.session k=none) {se hd:Addr}{y:Session} (ey:y.number=k) (s1:Same H H') (n1:H se=none) (n2:H hd=none) (hy:SeAt a H' se hd y) {kvs:List (Key×V)} (hk1:H' x.ses=some (.dK kvs)) (hk2:DM kvs (sesF s.sessions x.A)) :
  StAt a (upd H' x.ses (.dK (putK kvs (ky k) (.ref se)))) {x with A:=fun q=>if q=k then se else x.A q,hd:=fun q=>if q=k then hd else x.hd q} {s with sessions:=Vastoj.putSession y s.sessions}∧Keep a H (upd H' x.ses (.dK (putK kvs (ky k) (.ref se)))):=by
 have h1:=h.same s1
 have f:Fx [x.st,x.ses,x.rts] H' (upd H' x.ses (.dK (putK kvs (ky k) (.ref se)))):=Fx.put hk1 (by intro xs z;cases z) (by simp)
 have f2:Fx [x.ses] H' (upd H' x.ses (.dK (putK kvs (ky k) (.ref se)))):=Fx.put hk1 (by intro xs z;cases z) (by simp)
 refine ⟨?_,(keep_same s1).trans (keep_fx f (h1.own3 T))⟩
 obtain ⟨o1,o2,o3⟩:=h1.out3 T f
 obtain ⟨dx,ho⟩:=h1.ob
 have hnone:=session_none e0
 have hne:∀ z∈s.sessions,z.number≠k:=hnone
 have hmem:∀ z,z∈Vastoj.putSession y s.sessions↔z=y∨z∈s.sessions:=fun z=>mem_putSession
 obtain ⟨⟨dy,oo,ii,y1,_⟩,⟨kvh,y2,_⟩⟩:=id hy
 have nso:x.st∉[x.ses]:=by simp;exact ne_dk ho hk1
 have nrs:x.rts∉[x.ses]:=by
  have h0:=h.nd
  simp only [List.nodup_cons,List.mem_cons,List.not_mem_nil,or_false,not_or,List.nodup_nil,not_false_eq_true,and_true] at h0
  simp;exact fun z=>h0.2.2.2.2.2.2 z.symm
 have hd8:∀ d∈[x.t.siz,x.t.rf,x.t.kn,x.t.me,x.c.bl,x.c.gr,x.ses,x.rts],d≠hd:=fun d hd'=>by
  obtain ⟨kv,e⟩:=h.dicts d hd'
  exact ne_of_none e n2
 have hA:∀ z∈s.sessions,x.A z.number≠se∧x.hd z.number≠hd:=fun z hz=>by
  obtain ⟨⟨_,_,_,z1,_⟩,⟨_,z2,_⟩⟩:=h.each z hz
  exact ⟨ne_of_none z1 n1,ne_of_none z2 n2⟩
 refine ⟨⟨dx,f2.at_ ho nso⟩,o1,o2,⟨_,upd_same,(hk2.put k _).congr fun q=>?_⟩,fun z hz=>?_,h1.rts.fx f2 nrs,h.nd,fun z hz=>?_,fun z hz z' hz'=>?_,fun z hz z' hz'=>?_⟩
 ·unfold sesF
  have hm:q∈(Vastoj.putSession y s.sessions).map (fun z=>z.number)↔q=k∨q∈s.sessions.map fun z=>z.number:=by
   rw [List.mem_map,List.mem_map]
   constructor
   ·rintro ⟨z,hz,e⟩
    rcases (hmem z).mp hz with rfl | hz
    ·exact .inl (by rw [← e,ey])
    ·exact .inr ⟨z,hz,e⟩
   ·rintro (e | ⟨z,hz,e⟩)
    ·exact ⟨y,(hmem y).mpr (.inl rfl),by rw [ey,e]⟩
    ·exact ⟨z,(hmem z).mpr (.inr hz),e⟩
  dsimp only
  by_cases e:q=k
  ·rw [if_pos e,if_pos (hm.mpr (.inl e)),if_pos e]
  ·rw [if_neg e]
   by_cases e2:q∈s.sessions.map fun z=>z.number
   ·rw [if_pos e2,if_pos (hm.mpr (.inr e2)),if_neg e]
   ·rw [if_neg e2,if_neg fun z=>(hm.mp z).elim e e2]
 ·rcases (hmem z).mp hz with rfl | hz
  ·dsimp only
   rw [if_pos ey,if_pos ey]
   refine hy.fx f2 (by simp;exact ne_dk y1 hk1) (by simp;exact (hd8 x.ses (by simp)).symm)
  ·dsimp only
   rw [if_neg (hne z hz),if_neg (hne z hz)]
   exact o3 z hz
 ·rcases (hmem z).mp hz with rfl | hz
  ·dsimp only
   rw [if_pos ey]
   exact fun hm=>hd8 _ hm rfl
  ·dsimp only
   rw [if_neg (hne z hz)]
   exact h.ndh z hz
 ·dsimp only
  rcases (hmem z).mp hz with e1 | h1 <;> rcases (hmem z').mp hz' with e2 | h2
  ·intro _;rw [e1,e2]
  ·rw [if_pos (by rw [e1];exact ey),if_neg (hne z' h2)];exact fun q=>absurd q.symm (hA z' h2).1
  ·rw [if_neg (hne z h1),if_pos (by rw [e2];exact ey)];exact fun q=>absurd q (hA z h1).1
  ·rw [if_neg (hne z h1),if_neg (hne z' h2)];exact h.ndA z h1 z' h2
 ·dsimp only
  rcases (hmem z).mp hz with e1 | h1 <;> rcases (hmem z').mp hz' with e2 | h2
  ·intro _;rw [e1,e2]
  ·rw [if_pos (by rw [e1];exact ey),if_neg (hne z' h2)];exact fun q=>absurd q.symm (hA z' h2).2
  ·rw [if_neg (hne z h1),if_pos (by rw [e2];exact ey)];exact fun q=>absurd q (hA z h1).2
  ·rw [if_neg (hne z h1),if_neg (hne z' h2)];exact h.ndH z h1 z' h2
theorem StAt.closed (T:Txt K mg a) (h:StAt a H x s) {k:Nat}{kvs:List (Key×V)} (hk1:H x.ses=some (.dK kvs)) (hk2:DM kvs (sesF s.sessions x.A)) :
  StAt a (upd H x.ses (.dK (dropK kvs (ky k)))) x {s with sessions:=s.sessions.filter fun y=>y.number != k}∧Keep a H (upd H x.ses (.dK (dropK kvs (ky k)))):=by
 have f:Fx [x.st,x.ses,x.rts] H (upd H x.ses (.dK (dropK kvs (ky k)))):=Fx.put hk1 (by intro xs z;cases z) (by simp)
 have f2:Fx [x.ses] H (upd H x.ses (.dK (dropK kvs (ky k)))):=Fx.put hk1 (by intro xs z;cases z) (by simp)
 refine ⟨?_,keep_fx f (h.own3 T)⟩
 obtain ⟨o1,o2,o3⟩:=h.out3 T f
 obtain ⟨dx,ho⟩:=h.ob
 have nso:x.st∉[x.ses]:=by simp;exact ne_dk ho hk1
 have nrs:x.rts∉[x.ses]:=by
  have h0:=h.nd
  simp only [List.nodup_cons,List.mem_cons,List.not_mem_nil,or_false,not_or,List.nodup_nil,not_false_eq_true,and_true] at h0
  simp;exact fun z=>h0.2.2.2.2.2.2 z.symm
 have hmem:∀ z,z∈s.sessions.filter (fun y=>y.number != k)↔z∈s.sessions∧z.number≠k:=fun z=>by rw [List.mem_filter];simp
 refine ⟨⟨dx,f2.at_ ho nso⟩,o1,o2,⟨_,upd_same,(hk2.drop k).congr fun q=>?_⟩,fun z hz=>o3 z ((hmem z).mp hz).1,h.rts.fx f2 nrs,h.nd,fun z hz=>h.ndh z ((hmem z).mp hz).1,fun z hz z' hz'=>h.ndA z ((hmem z).mp hz).1 z' ((hmem z').mp hz').1,fun z hz z' hz'=>h.ndH z ((hmem z).mp hz).1 z' ((hmem z').mp hz').1⟩
 unfold sesF
 have hm:q∈(s.sessions.filter fun y=>y.number != k).map (fun z=>z.number)↔q≠k∧q∈s.sessions.map fun z=>z.number:=by
  rw [List.mem_map,List.mem_map]
  constructor
  ·rintro ⟨z,hz,e⟩
   obtain ⟨h1,h2⟩:=(hmem z).mp hz
   exact ⟨by rw [← e];exact h2,z,h1,e⟩
  ·rintro ⟨e,z,hz,e2⟩
   exact ⟨z,(hmem z).mpr ⟨hz,by rw [e2];exact e⟩,e2⟩
 by_cases e:q=k
 ·rw [if_pos e,if_neg fun z=>(hm.mp z).1 e]
 ·rw [if_neg e]
  by_cases e2:q∈s.sessions.map fun z=>z.number
  ·rw [if_pos e2,if_pos (hm.mpr ⟨e,e2⟩)]
  ·rw [if_neg e2,if_neg fun z=>e2 (hm.mp z).2]
theorem StAt.roots_ (T:Txt K mg a) (h:StAt a H x s) {kvs kvs':List (Key×V)}{l:List (Nat×Nat)} (hk1:H x.rts=some (.dK kvs)) (hk2:DM kvs' (rtF l)) :
  StAt a (upd H x.rts (.dK kvs')) x {s with roots:=l}∧Keep a H (upd H x.rts (.dK kvs')):=by
 have f:Fx [x.st,x.ses,x.rts] H (upd H x.rts (.dK kvs')):=Fx.put hk1 (by intro xs z;cases z) (by simp)
 have f2:Fx [x.rts] H (upd H x.rts (.dK kvs')):=Fx.put hk1 (by intro xs z;cases z) (by simp)
 refine ⟨?_,keep_fx f (h.own3 T)⟩
 obtain ⟨o1,o2,o3⟩:=h.out3 T f
 obtain ⟨dx,ho⟩:=h.ob
 have nrs:x.ses∉[x.rts]:=by
  have h0:=h.nd
  simp only [List.nodup_cons,List.mem_cons,List.not_mem_nil,or_false,not_or,List.nodup_nil,not_false_eq_true,and_true] at h0
  simp;exact h0.2.2.2.2.2.2
 exact ⟨⟨dx,f2.at_ ho (by simp;exact ne_dk ho hk1)⟩,o1,o2,h.ses.fx f2 nrs,o3,⟨_,upd_same,hk2⟩,h.nd,h.ndh,h.ndA,h.ndH⟩
end
end Go
end
section
set_option maxHeartbeats 2000000
namespace Go
open PySem PySem.Spec PyProof.Rows L2 LX VL
open Vastoj (Store Node knot closure isTop State Session Call step below refused done)
section
variable {P:Program}{w:World}{K:PySem.W.Frag}{mg:Str→Option Value}{base:Heap}{a:Ad}
def spC1 (a:Ad) (c:Int→Call):Sp:=fun vs H Q _=>∃ (x:StAd) (s:State) (z:Int),vs=[.ref x.st,.int z]∧StAt a H x s∧StInv s∧Post a H x (step s (c z)).1 fun H'=>Q (.int (step s (c z)).2.value) H'
def spC2 (a:Ad) (c:Int→Int→Call):Sp:=fun vs H Q _=>∃ (x:StAd) (s:State) (y z:Int),vs=[.ref x.st,.int y,.int z]∧StAt a H x s∧StInv s∧Post a H x (step s (c y z)).1 fun H'=>Q (.int (step s (c y z)).2.value) H'
theorem z_toNat {z:Int} (h:0≤z):(Sum.inl z:Key)=ky z.toNat:=by show Sum.inl z=Sum.inl ((z.toNat:Nat):Int);rw [Int.toNat_of_nonneg h]
theorem Z7X (T:Txt K mg a):Pr P w K mg base 3 a.Z3A ["state","k"] (spC1 a Call.open_):=by
 refine pr_of' T.Z8H Z87 fun cdv A outer s H vs Q E hr h=>?_
 obtain ⟨x,s,z,rfl,hs,inv,k⟩:=h
 refine ⟨_,(pss_cons (ps_if (pt_not (pt_val (pc_f (Z1H T) (hr.mono (by decide)) T.Z22 (pa_cons (pv 1) pa_nil)))) (pss_one (ps_ret (pk T.Z1b))) pss_nil)
   (pss_cons (ps_if (pt_cmp (pc_din (hu_of hr) (pv 1) (pe_fld (pv 0) rfl))) (pss_one (ps_ret (pk T.Z9l))) pss_nil)
   (pss_cons (ps_dput (hu_of hr) (pe_fld (pv 0) rfl) (pv 1) (pc_k0 T.Z3f (Z7T T) (hr.mono (by decide)) T.Zaw) rfl)
   (pss_one (ps_ret (pk T.ZC)))))),?_⟩
 obtain ⟨dx,ho⟩:=hs.ob
 obtain ⟨kvs,s1,s2⟩:=hs.ses
 refine ⟨_,rfl,z,rfl,_,rfl,?_⟩
 dsimp only
 rw [to8]
 cases hb:below 8 z with
 | false =>
  have e:step s (.open_ z)=(s,refused Vastoj.RANGE):=by simp [Vastoj.step,hb]
  rw [e] at k
  exact iteT (k.here hs)
 | true =>
  refine iteF ?_
  have hz:=below_iff.mp hb
  refine ⟨_,rfl,_,rfl,x.st,_,dx,_,_,rfl,ho,T.Z1,T.Z5,Z6,x.ses,_,rfl,.inl ⟨kvs,.inl z,.inl s1,rfl,rfl⟩,_,rfl,?_⟩
  rw [ses_get s x.A s2 hz.1]
  cases hse:s.session z.toNat with
  | some y =>
   have e:step s (.open_ z)=(s,refused Vastoj.BUSY):=by simp [Vastoj.step,hb,hse]
   rw [e] at k
   exact iteT (k.here hs)
  | none =>
   refine iteF ?_
   have e:step s (.open_ z)=({s with sessions:=Vastoj.putSession {number:=z.toNat,holds:=[],building:=none} s.sessions},done):=by simp [Vastoj.step,hb,hse]
   rw [e] at k
   intro se dse h1 h2 h3
   refine ⟨se,dse,rfl,upd_same,fun H1 hd hhd hy k1=>⟨rfl,?_⟩⟩
   have sm:Same H H1:=made_same h1 h2 k1
   have hHhd:H hd=none:=by
    have n1:hd≠se:=fun e=>by rw [e,upd_same] at hhd;cases hhd
    have n2:hd≠dse:=fun e=>by rw [upd_ne n1,e,upd_same] at hhd;cases hhd
    rw [upd_ne n1,upd_ne n2] at hhd;exact hhd
   have hkl:kvs.length≤8:=by
    obtain ⟨ks,g1,g2,g3,g4,g5,g6⟩:=se_keys inv.ses s2
    rw [g4,List.length_map];exact g5
   obtain ⟨c1,c2⟩:=hs.opened T inv (k:=z.toNat) (by omega) hse (y:={number:=z.toNat,holds:=[],building:=none}) rfl sm h1 hHhd (hy _ rfl rfl) (sm _ _ s1) s2
   refine ⟨_,rfl,x.st,_,dx,_,_,rfl,sm _ _ ho,T.Z1,T.Z5,Z6,_,rfl,x.ses,_,rfl,DPut.k (k:=ky z.toNat) (by exact sm _ _ s1) (line_of_le (by omega)) |> (fun q=>by rw [← z_toNat hz.1] at q;exact q),?_⟩
   rw [z_toNat hz.1]
   exact k _ {x with A:=fun q=>if q=z.toNat then se else x.A q,hd:=fun q=>if q=z.toNat then hd else x.hd q} rfl c2 c1
theorem Z7z (T:Txt K mg a):Pr P w K mg base 2 a.Z3b ["state","k"] (spC1 a Call.close):=by
 refine pr_of' T.Z81 Z7D fun cdv A outer s H vs Q E hr h=>?_
 obtain ⟨x,s,z,rfl,hs,inv,k⟩:=h
 refine ⟨_,(pss_cons (ps_if (pt_not (pt_val (pc_f (Z1H T) (hr.mono (by decide)) T.Z22 (pa_cons (pv 1) pa_nil)))) (pss_one (ps_ret (pk T.Z1b))) pss_nil)
   (pss_cons (ps_if (pt_cmp (pc_dnotin (hu_of hr) (pv 1) (pe_fld (pv 0) rfl))) (pss_one (ps_ret (pk T.Z33))) pss_nil)
   (pss_cons (ps_expr (pe_dpop1 (pe_fld (pv 0) rfl) (pv 1) ⟨rfl,rfl,rfl,rfl⟩))
   (pss_one (ps_ret (pk T.ZC)))))),?_⟩
 obtain ⟨dx,ho⟩:=hs.ob
 obtain ⟨kvs,s1,s2⟩:=hs.ses
 refine ⟨_,rfl,z,rfl,_,rfl,?_⟩
 dsimp only
 rw [to8]
 cases hb:below 8 z with
 | false =>
  have e:step s (.close z)=(s,refused Vastoj.RANGE):=by simp [Vastoj.step,opened_range hb]
  rw [e] at k
  exact iteT (k.here hs)
 | true =>
  refine iteF ?_
  have hz:=below_iff.mp hb
  refine ⟨_,rfl,_,rfl,x.st,_,dx,_,_,rfl,ho,T.Z1,T.Z5,Z6,x.ses,_,rfl,.inl ⟨kvs,.inl z,.inl s1,rfl,rfl⟩,_,rfl,?_⟩
  rw [ses_get s x.A s2 hz.1]
  cases hse:s.session z.toNat with
  | none =>
   have e:step s (.close z)=(s,refused Vastoj.ABSENT):=by simp [Vastoj.step,opened_none hb hse]
   rw [e] at k
   exact iteT (k.here hs)
  | some y =>
   refine iteF ?_
   have hnum:=(session_some hse).2
   have e:step s (.close z)=({s with sessions:=s.sessions.filter fun w=>w.number != z.toNat},done):=by simp [Vastoj.step,opened_some hb hse,hnum]
   rw [e] at k
   obtain ⟨c1,c2⟩:=hs.closed T (k:=z.toNat) s1 s2
   refine ⟨_,rfl,x.st,_,dx,_,_,rfl,ho,T.Z1,T.Z5,Z6,x.ses,rfl,.inl ⟨_,Rd.of s1⟩,_,rfl,kvs,.inl z,_,s1,rfl,by rw [ses_get s x.A s2 hz.1,hse];rfl,?_⟩
   rw [z_toNat hz.1]
   exact k _ _ rfl c2 c1
theorem Z8R (T:Txt K mg a):Pr P w K mg base 5 a.Z4E ["state","k","p"] (spC2 a Call.hold):=by
 refine pr_of' T.Z9n Z9c fun cdv A outer s H vs Q E hr h=>?_
 obtain ⟨x,s,z,p,rfl,hs,inv,k⟩:=h
 refine ⟨_,(pss_cons (ps_if ((pw_or (pt_not (pt_val (pc_f (Z1H T) (hr.mono (by decide)) T.Z22 (pa_cons (pv 1) pa_nil)))) (pw_or1 (pt_not (pt_val (pc_f (Z3J T) (hr.mono (by decide)) T.Z4o (pa_cons (pv 2) pa_nil)))))).pt) (pss_one (ps_ret (pk T.Z1b))) pss_nil)
   (pss_cons (ps_if (pt_cmp (pc_dnotin (hu_of hr) (pv 1) (pe_fld (pv 0) rfl))) (pss_one (ps_ret (pk T.Z33))) pss_nil)
   (pss_cons (ps_expr (pc_m (pe_dget (hu_of hr) (pe_fld (pv 0) rfl) (pv 1) (fun _ _=>rfl)) T.Z7 T.Z3t (Z3n T) (hr.mono (by decide)) (pa_cons (pe_lst (pa_cons (pv 2) pa_nil)) pa_nil)))
   (pss_cons (ps_if (pt_val (pc_m (pv 0) T.Z1 T.ZJ (ZK T) (hr.mono (by decide)) (pa_cons (pv 2) pa_nil))) (pss_one (ps_expr (pc_m (pv 0) T.Z1 T.Z2n (Z2l T) (hr.mono (by decide)) (pa_cons (pe_lst (pa_cons (pv 2) pa_nil)) pa_nil)))) pss_nil)
   (pss_one (ps_ret (pk T.ZC))))))),?_⟩
 obtain ⟨dx,ho⟩:=hs.ob
 obtain ⟨kvs,s1,s2⟩:=hs.ses
 refine ⟨_,rfl,z,rfl,_,rfl,?_⟩
 dsimp only
 rw [to8]
 cases hb:below 8 z with
 | false =>
  have e:step s (.hold z p)=(s,refused Vastoj.RANGE):=by simp [Vastoj.step,hb]
  rw [e] at k
  exact iteT (iteT (k.here hs))
 | true =>
  refine iteF ⟨_,rfl,p,rfl,_,rfl,?_⟩
  dsimp only
  rw [to128]
  cases hb2:Vastoj.isPlace p with
  | false =>
   have e:step s (.hold z p)=(s,refused Vastoj.RANGE):=by simp [Vastoj.step,hb2]
   rw [e] at k
   exact iteT (k.here hs)
  | true =>
   refine iteF ?_
   have hz:=below_iff.mp hb
   have hp:=below_iff.mp hb2
   refine ⟨_,rfl,_,rfl,x.st,_,dx,_,_,rfl,ho,T.Z1,T.Z5,Z6,x.ses,_,rfl,.inl ⟨kvs,.inl z,.inl s1,rfl,rfl⟩,_,rfl,?_⟩
   rw [ses_get s x.A s2 hz.1]
   cases hse:s.session z.toNat with
   | none =>
    have e:step s (.hold z p)=(s,refused Vastoj.ABSENT):=by simp [Vastoj.step,hb,hb2,opened_none hb hse]
    rw [e] at k
    exact iteT (k.here hs)
   | some y =>
    refine iteF ?_
    obtain ⟨hy,hnum⟩:=session_some hse
    have e:step s (.hold z p)=(if s.store.has p.toNat then (s.set {y with holds:=Vastoj.putIn p.toNat y.holds}).shade [p.toNat] else s.set {y with holds:=Vastoj.putIn p.toNat y.holds},done):=by simp [Vastoj.step,hb,hb2,opened_some hb hse]
    rw [e] at k
    have hyo:=inv.ses.ok y hy
    have hse1:=hs.each y hy
    obtain ⟨⟨dy,oo,ii,y1,y2,y3⟩,⟨kvh,y4,y5⟩⟩:=id hse1
    have ip:iv p.toNat=V.int p:=by show V.int ((p.toNat:Nat):Int)=V.int p;rw [Int.toNat_of_nonneg hp.1]
    refine ⟨_,rfl,x.st,_,dx,_,_,rfl,ho,T.Z1,T.Z5,Z6,_,rfl,x.ses,V.ref (x.A y.number),rfl,.inl ⟨kvs,.inl z,.inl s1,rfl,by rw [ses_get s x.A s2 hz.1,hse,hnum];rfl⟩,x.A y.number,dy,_,rfl,y1,Z3w,_,rfl,by show 1≤sizeLine;decide,fun l1 hl1=>?_⟩
    have sl:=same_new (o:=.lst [V.int p]) hl1
    refine ⟨x.A y.number,x.hd y.number,y,l1,[p.toNat],rfl,hse1.same sl,by rw [upd_same,← ip];rfl,by simp;omega,hyo.hlt,fun H1 f1 hset=>?_⟩
    have hs1:=hs.same sl
    have f1':Fx [x.A y.number,x.hd y.number] (upd H l1 (.lst [V.int p])) H1:=f1.mono (by simp)
    have inv1:StInv (s.set {y with holds:=Vastoj.putIn p.toNat y.holds}):=inv.hold hy (asc_putIn hyo.hasc) fun q hq=>by
     rcases mem_putIn.mp hq with h | h
     ·omega
     ·exact hyo.hlt q h
    have hs2:StAt a H1 x (s.set {y with holds:=Vastoj.putIn p.toNat y.holds}):=by
     refine hs1.se T inv hy rfl f1' ⟨?_,?_⟩
     ·exact ⟨dy,oo,ii,f1.at_ (sl _ _ y1) (by simp;exact ne_dk y1 y4),f1.lst (sl _ _ y2),f1.lst (sl _ _ y3)⟩
     ·obtain ⟨kv,g1,g2⟩:=hset
      exact ⟨kv,g1,g2.congr fun q=>by rw [mem_putIn];simp [or_comm]⟩
    have kp:Keep a H H1:=(keep_same sl).trans (keep_fx f1' (hs1.own_se T hy))
    obtain ⟨dx1,ho1⟩:=hs2.ob
    refine ⟨_,rfl,x.st,dx1,_,rfl,ho1,ZI,_,rfl,x,_,p,rfl,hs2,_,rfl,?_⟩
    rw [show (s.set {y with holds:=Vastoj.putIn p.toNat y.holds}).store=s.store from rfl,place_has hb2]
    cases hv:s.store.has p.toNat with
    | false =>
     rw [hv] at k
     exact iteF (k H1 x rfl kp hs2)
    | true =>
     rw [hv] at k
     refine iteT ?_
     refine ⟨_,rfl,x.st,dx1,_,rfl,ho1,Z2m,_,rfl,by show 1≤sizeLine;decide,fun l2 hl2=>?_⟩
     have sl2:=same_new (o:=.lst [V.int p]) hl2
     refine ⟨x,_,l2,[p.toNat],rfl,hs2.same sl2,inv.st,fun q hq=>inv.st.lt q (inv.mks.bval q hq),fun q hq=>inv.st.lt q (inv.mks.gval q hq),by rw [upd_same,← ip];rfl,by intro q hq;rw [List.mem_singleton.mp hq];exact has_iff.mp hv,fun H2 f2 hs3=>?_⟩
     exact k H2 x rfl (kp.trans ((keep_same sl2).trans (keep_fx f2 fun b hb=>(hs2.same sl2).own_tc T b (by simp at hb;rcases hb with h | h <;> simp [h])))) hs3
theorem Z9R (T:Txt K mg a):Pr P w K mg base 5 a.Z5W ["state","r","p"] (spC2 a Call.root):=by
 refine pr_of' T.Za6 Z9O fun cdv A outer s H vs Q E hr h=>?_
 obtain ⟨x,s,z,p,rfl,hs,inv,k⟩:=h
 refine ⟨_,(pss_cons (ps_if ((pw_or (pt_not (pt_val (pc_f (Z85 T) (hr.mono (by decide)) T.Z8M (pa_cons (pv 1) pa_nil)))) (pw_or1 (pt_not (pt_val (pc_f (Z3J T) (hr.mono (by decide)) T.Z4o (pa_cons (pv 2) pa_nil)))))).pt) (pss_one (ps_ret (pk T.Z1b))) pss_nil)
   (pss_cons (ps_if (pt_not (pt_val (pc_m (pv 0) T.Z1 T.ZJ (ZK T) (hr.mono (by decide)) (pa_cons (pv 2) pa_nil)))) (pss_one (ps_ret (pk T.Z33))) pss_nil)
   (pss_cons (ps_dput (hu_of hr) (pe_fld (pv 0) rfl) (pv 1) (pv 2) rfl)
   (pss_cons (ps_expr (pc_m (pv 0) T.Z1 T.Z2n (Z2l T) (hr.mono (by decide)) (pa_cons (pe_lst (pa_cons (pv 2) pa_nil)) pa_nil)))
   (pss_one (ps_ret (pk T.ZC))))))),?_⟩
 obtain ⟨dx,ho⟩:=hs.ob
 refine ⟨_,rfl,z,rfl,_,rfl,?_⟩
 dsimp only
 rw [to32]
 cases hb:below 32 z with
 | false =>
  have e:step s (.root z p)=(s,refused Vastoj.RANGE):=by simp [Vastoj.step,hb]
  rw [e] at k
  exact iteT (iteT (k.here hs))
 | true =>
  refine iteF ⟨_,rfl,p,rfl,_,rfl,?_⟩
  dsimp only
  rw [to128]
  cases hb2:Vastoj.isPlace p with
  | false =>
   have e:step s (.root z p)=(s,refused Vastoj.RANGE):=by simp [Vastoj.step,hb2]
   rw [e] at k
   exact iteT (k.here hs)
  | true =>
   refine iteF ?_
   have hz:=below_iff.mp hb
   have hp:=below_iff.mp hb2
   refine ⟨_,rfl,x.st,dx,_,rfl,ho,ZI,_,rfl,x,s,p,rfl,hs,_,rfl,?_⟩
   dsimp only
   rw [place_has hb2]
   cases hv:s.store.has p.toNat with
   | false =>
    have e:step s (.root z p)=(s,refused Vastoj.ABSENT):=by simp [Vastoj.step,hb,hb2,hv]
    rw [e] at k
    exact iteT (k.here hs)
   | true =>
    refine iteF ?_
    have e:step s (.root z p)=(({s with roots:=Vastoj.putRoot z.toNat p.toNat s.roots}:State).shade [p.toNat],done):=by simp [Vastoj.step,hb,hb2,hv]
    rw [e] at k
    obtain ⟨kvr,r1,r2⟩:=hs.rts
    have hrl:kvr.length≤32:=by
     obtain ⟨ks,e1,_,_,_,e5⟩:=rt_keys inv.roots r2
     have:=congrArg List.length e1
     simp at this
     omega
    have ip:iv p.toNat=V.int p:=by show V.int ((p.toNat:Nat):Int)=V.int p;rw [Int.toNat_of_nonneg hp.1]
    have dm:DM (putK kvr (ky z.toNat) (V.int p)) (rtF (Vastoj.putRoot z.toNat p.toNat s.roots)):=(r2.put z.toNat (V.int p)).congr fun r=>by
     have hasc:=asc_putRoot (r:=z.toNat) (p:=p.toNat) inv.roots.asc
     have hm:∀ q,(r,q)∈Vastoj.putRoot z.toNat p.toNat s.roots↔(r,q)=(z.toNat,p.toNat)∨((r,q)∈s.roots∧r≠z.toNat):=fun q=>mem_putRoot inv.roots.asc
     by_cases er:r=z.toNat
     ·rw [if_pos er,(rtF_some hasc ((hm p.toNat).mpr (.inl (by rw [er])))).1,ip]
     ·rw [if_neg er]
      cases h1:rtF s.roots r with
      | none =>
       cases h2:rtF (Vastoj.putRoot z.toNat p.toNat s.roots) r with
       | none=>rfl
       | some v =>
        obtain ⟨q,hq⟩:=rtF_isSome.mp (by rw [h2];rfl)
        rcases (hm q).mp hq with h | h
        ·exact absurd (congrArg Prod.fst h) er
        ·rw [(rtF_some inv.roots.asc h.1).1] at h1;cases h1
      | some v =>
       obtain ⟨q,hq⟩:=rtF_isSome.mp (by rw [h1];rfl)
       rw [(rtF_some inv.roots.asc hq).1] at h1
       rw [← h1,(rtF_some hasc ((hm q).mpr (.inr ⟨hq,er⟩))).1]
    obtain ⟨c1,c2⟩:=hs.roots_ T r1 dm
    have e2:DPut H x.rts (.int z) (.int p) (upd H x.rts (.dK (putK kvr (ky z.toNat) (V.int p)))):=.inl ⟨kvr,ky z.toNat,r1,by rw [← z_toNat hz.1];rfl,line_of_le (by omega),rfl⟩
    refine ⟨_,rfl,_,rfl,x.st,_,dx,_,_,rfl,ho,T.Z1,T.ZO,Z13,_,rfl,x.rts,_,rfl,e2,?_⟩
    obtain ⟨dx1,ho1⟩:=c1.ob
    refine ⟨_,rfl,x.st,dx1,_,rfl,ho1,Z2m,_,rfl,by show 1≤sizeLine;decide,fun l2 hl2=>?_⟩
    have sl2:=same_new (o:=.lst [V.int p]) hl2
    refine ⟨x,_,l2,[p.toNat],rfl,c1.same sl2,inv.st,fun q hq=>inv.st.lt q (inv.mks.bval q hq),fun q hq=>inv.st.lt q (inv.mks.gval q hq),by rw [upd_same,← ip];rfl,by simpa using has_iff.mp hv,fun H2 f2 hs3=>?_⟩
    exact k H2 x rfl (c2.trans ((keep_same sl2).trans (keep_fx f2 fun b hb=>(c1.same sl2).own_tc T b (by simp at hb;rcases hb with h | h <;> simp [h])))) hs3
theorem Z9f (T:Txt K mg a):Pr P w K mg base 2 a.Z4u ["state","r"] (spC1 a Call.unroot):=by
 refine pr_of' T.Z9H Z91 fun cdv A outer s H vs Q E hr h=>?_
 obtain ⟨x,s,z,rfl,hs,inv,k⟩:=h
 refine ⟨_,(pss_cons (ps_if (pt_not (pt_val (pc_f (Z85 T) (hr.mono (by decide)) T.Z8M (pa_cons (pv 1) pa_nil)))) (pss_one (ps_ret (pk T.Z1b))) pss_nil)
   (pss_cons (ps_if (pt_cmp (pc_din (hu_of hr) (pv 1) (pe_fld (pv 0) rfl))) (pss_one (ps_expr (pe_dpop1 (pe_fld (pv 0) rfl) (pv 1) ⟨rfl,rfl,rfl,rfl⟩))) pss_nil)
   (pss_one (ps_ret (pk T.ZC))))),?_⟩
 obtain ⟨dx,ho⟩:=hs.ob
 obtain ⟨kvr,r1,r2⟩:=hs.rts
 refine ⟨_,rfl,z,rfl,_,rfl,?_⟩
 dsimp only
 rw [to32]
 cases hb:below 32 z with
 | false =>
  have e:step s (.unroot z)=(s,refused Vastoj.RANGE):=by simp [Vastoj.step,hb]
  rw [e] at k
  exact iteT (k.here hs)
 | true =>
  refine iteF ?_
  have hz:=below_iff.mp hb
  have e:step s (.unroot z)=({s with roots:=s.roots.filter fun y=>y.1 != z.toNat},done):=by simp [Vastoj.step,hb]
  rw [e] at k
  refine ⟨_,rfl,_,rfl,x.st,_,dx,_,_,rfl,ho,T.Z1,T.ZO,Z13,x.rts,_,rfl,.inl ⟨kvr,.inl z,.inl r1,rfl,rfl⟩,_,rfl,?_⟩
  have dz:∀ r,(if r=z.toNat then none else rtF s.roots r)=rtF (s.roots.filter fun y=>y.1 != z.toNat) r:=fun r=>by
   unfold rtF
   rw [List.find?_filter]
   by_cases er:r=z.toNat
   ·rw [if_pos er]
    have:s.roots.find? (fun a=>decide ((a.1 != z.toNat)=true∧(a.1==r)=true))=none:=List.find?_eq_none.mpr fun y _ hy=>by
     simp at hy
     exact hy.1 (hy.2.trans er)
    rw [this];rfl
   ·rw [if_neg er]
    have:(fun y:Nat×Nat=>y.1==r)=fun a=>decide ((a.1 != z.toNat)=true∧(a.1==r)=true):=by
     funext y
     rw [Bool.eq_iff_iff]
     simp
     exact fun h1 h2=>er (by rw [← h1,h2])
    rw [this]
  cases hv:valV kvr (.inl z) with
  | none =>
   refine iteF ?_
   have hs':StAt a H x {s with roots:=s.roots.filter fun y=>y.1 != z.toNat}:=by
    obtain ⟨h1,h2,h3,h4,h5,h6,n1,n2,n3,n4⟩:=hs
    refine ⟨h1,h2,h3,h4,h5,⟨kvr,r1,r2.congr fun r=>?_⟩,n1,n2,n3,n4⟩
    rw [← dz r]
    by_cases er:r=z.toNat
    ·rw [if_pos er,er,← r2.get,← z_toNat hz.1];exact hv
    ·rw [if_neg er]
   exact k.here hs'
  | some v =>
   refine iteT ?_
   obtain ⟨c1,c2⟩:=hs.roots_ T r1 ((r2.drop z.toNat).congr dz)
   refine ⟨_,rfl,x.st,_,dx,_,_,rfl,ho,T.Z1,T.ZO,Z13,x.rts,rfl,.inl ⟨_,Rd.of r1⟩,_,rfl,kvr,.inl z,_,r1,rfl,hv,?_⟩
   rw [z_toNat hz.1]
   exact k _ _ rfl c2 c1
end
end Go
end
section
set_option maxHeartbeats 2000000
namespace Go
open PySem PySem.Spec PyProof.Rows L2 LX VL
open Vastoj (Store Node knot closure isTop State Session Call step below refused done)
section
variable {P:Program}{w:World}{K:PySem.W.Frag}{mg:Str→Option Value}{base:Heap}{a:Ad}
def spC0 (a:Ad) (c:Call):Sp:=fun vs H Q _=>∃ (x:StAd) (s:State),vs=[.ref x.st]∧StAt a H x s∧StInv s∧Post a H x (step s c).1 fun H'=>Q (.int (step s c).2.value) H'
def PostL (a:Ad) (H:Hp) (x:StAd) (r:State×Vastoj.Answer) (Q:VK):Prop:=∀ H' x' p,x'.st=x.st→Keep a H H'→StAt a H' x' r.1→H' p=some (.lst ((VastojNeutral.encode r.2).map V.int))→Q (.ref p) H'
def spL0 (a:Ad) (c:Call):Sp:=fun vs H Q _=>∃ (x:StAd) (s:State),vs=[.ref x.st]∧StAt a H x s∧StInv s∧PostL a H x (step s c) Q
def spL1 (a:Ad) (c:Int→Call):Sp:=fun vs H Q _=>∃ (x:StAd) (s:State) (z:Int),vs=[.ref x.st,.int z]∧StAt a H x s∧StInv s∧PostL a H x (step s (c z)) Q
theorem PostL.mk {H H':Hp}{x:StAd}{r:State×Vastoj.Answer}{Q:VK}{p:Addr} (k:PostL a H x r Q) (h:StAt a H x r.1) (s:Same H H') (e:H' p=some (.lst ((VastojNeutral.encode r.2).map V.int))):Q (.ref p) H':=k H' x p rfl (keep_same s) (h.same s) e
theorem Za1 (T:Txt K mg a):Pr P w K mg base 2 a.Z60 ["state","n"] (spC1 a Call.room):=by
 refine pr_of' T.Za4 Za2 fun cdv A outer s H vs Q E hr h=>?_
 obtain ⟨x,s,z,rfl,hs,inv,k⟩:=h
 refine ⟨_,(pss_cons (ps_if (pt_not (pt_val (pc_f (Zac T) (hr.mono (by decide)) T.Zas (pa_cons (pv 1) pa_nil)))) (pss_one (ps_ret (pk T.Z1b))) pss_nil)
   (pss_cons (ps_if (pt_cmpR op_gt (pc_m0 (pe_fld (pv 0) rfl) T.Z3 T.Z3E (Z3G T) (hr.mono (by decide))) (pv 1) (nomark _)) (pss_one (ps_ret (pk T.Zak))) pss_nil)
   (pss_cons (ps_fld (pv 0) (pv 1) rfl)
   (pss_one (ps_ret (pk T.ZC)))))),?_⟩
 obtain ⟨dx,ho⟩:=hs.ob
 obtain ⟨dt,hto⟩:=hs.th.ob
 refine ⟨_,rfl,z,rfl,_,rfl,?_⟩
 dsimp only
 by_cases h1:0≤z∧z≤100000
 ·have e0:(decide (0≤z)&&decide (z≤100000))=true:=by simp [h1.1,h1.2]
  rw [e0]
  refine iteF ?_
  have h1':¬ (z<0∨100000<z):=by omega
  refine ⟨_,rfl,x.st,_,dx,_,_,rfl,ho,T.Z1,T.Zj,Zk,x.t.th,dt,_,rfl,hto,Z3I,x.t,s.store,rfl,hs.th,inv.st,fun H1 s1=>⟨_,rfl,_,_,rfl,rfl,_,rfl,?_⟩⟩
  have hs1:=hs.same s1
  refine ite2 (fun h2=>?_) (fun h2=>?_)
  ·have h2':z<((s.store.load:Nat):Int):=of_decide_eq_true h2
   have e:step s (.room z)=(s,refused Vastoj.FULL):=by simp [Vastoj.step,h1',h2']
   rw [e] at k
   exact k.same hs s1
  ·have h2':¬ z<((s.store.load:Nat):Int):=fun q=>h2 (decide_eq_true q)
   have e:step s (.room z)=({s with room:=z.toNat},done):=by simp [Vastoj.step,h1',h2']
   rw [e] at k
   obtain ⟨dx1,ho1⟩:=hs1.ob
   refine ⟨_,rfl,_,rfl,x.st,_,dx1,_,rfl,ho1,T.Z1,T.Z3Y,by rw [Zaz];decide,?_⟩
   rw [Z99]
   have f:Fx [x.st,x.ses,x.rts] H1 (upd H1 x.st (.ins a.Zd dx1 (Zh (.ref x.t.th) (.ref x.c.co) (.ref x.ses) (.ref x.rts) (.int z)))):=Fx.put ho1 (by intro xs z;cases z) (by simp)
   have f1:Fx [x.st] H1 (upd H1 x.st (.ins a.Zd dx1 (Zh (.ref x.t.th) (.ref x.c.co) (.ref x.ses) (.ref x.rts) (.int z)))):=Fx.put ho1 (by intro xs z;cases z) (by simp)
   obtain ⟨o1,o2,o3⟩:=hs1.out3 T f
   obtain ⟨ks,q1⟩:=hs1.dicts x.ses (by simp)
   obtain ⟨kr,q2⟩:=hs1.dicts x.rts (by simp)
   have hs2:StAt a (upd H1 x.st (.ins a.Zd dx1 (Zh (.ref x.t.th) (.ref x.c.co) (.ref x.ses) (.ref x.rts) (.int z)))) x {s with room:=z.toNat} :=
    ⟨⟨dx1,by rw [upd_same,Int.toNat_of_nonneg h1.1]⟩,o1,o2,hs1.ses.fx f1 (by simp;exact (ne_dk ho1 q1).symm),o3,hs1.rts.fx f1 (by simp;exact (ne_dk ho1 q2).symm),hs1.nd,hs1.ndh,hs1.ndA,hs1.ndH⟩
   exact k _ x rfl ((keep_same s1).trans (keep_fx f (hs1.own3 T))) hs2
 ·have e0:(decide (0≤z)&&decide (z≤100000))=false:=by
   rw [Bool.and_eq_false_iff]
   by_cases h2:0≤z
   ·exact .inr (by simp;omega)
   ·exact .inl (by simp;omega)
  rw [e0]
  have h1':z<0∨100000<z:=by omega
  have e:step s (.room z)=(s,refused Vastoj.RANGE):=by simp [Vastoj.step,h1']
  rw [e] at k
  exact iteT (k.here hs)
theorem Z6m (T:Txt K mg a):Pr P w K mg base 4 a.Z27 ["state","n"] (spC1 a Call.collect):=by
 refine pr_of' T.Z77 Z6t fun cdv A outer s H vs Q E hr h=>?_
 obtain ⟨x,s,z,rfl,hs,inv,k⟩:=h
 refine ⟨_,(pss_cons (ps_if (pt_not (pt_val (pc_f (Z5h T) (hr.mono (by decide)) T.Z5D (pa_cons (pv 1) pa_nil)))) (pss_one (ps_ret (pk T.Z1b))) pss_nil)
   (pss_cons (ps_if (pt_not (pt_val (pc_m0 (pe_fld (pv 0) rfl) T.Z0 T.Z3k (Z3h T) (hr.mono (by decide))))) (pss_one (ps_ret (pk T.Z9l))) pss_nil)
   (pss_cons (ps_expr (pc_m (pe_fld (pv 0) rfl) T.Z0 T.Z46 (Z40 T) (hr.mono (by decide)) (pa_cons (pv 1) (pa_cons (pc_m0 (pv 0) T.Z1 T.Z2x (Z2q T) (hr.mono (by decide))) pa_nil))))
   (pss_one (ps_ret (pk T.ZC)))))),?_⟩
 obtain ⟨dx,ho⟩:=hs.ob
 obtain ⟨dc,hco⟩:=hs.co.ob
 refine ⟨_,rfl,z,rfl,_,rfl,?_⟩
 dsimp only
 by_cases h1:0≤z
 ·have e0:decide (0≤z)=true:=decide_eq_true h1
  rw [e0]
  refine iteF ?_
  have h1':¬ z<0:=by omega
  refine ⟨_,rfl,x.st,_,dx,_,_,rfl,ho,T.Z1,T.Zr,ZB,x.c.co,dc,_,rfl,hco,Z3a,x.c,s.phase,s.black,s.grey,s.need,s.won,rfl,hs.co,_,rfl,?_⟩
  by_cases h2:s.phase=0
  ·have e2:decide (s.phase=0)=true:=decide_eq_true h2
   rw [e2]
   refine iteF ?_
   have e:step s (.collect z)=({s with phase:=1,black:=[],grey:=s.anchored,need:=z.toNat,won:=0},done):=by simp [Vastoj.step,h1',h2]
   rw [e] at k
   obtain ⟨eb,eg⟩:=inv.mks.idle h2
   refine ⟨_,rfl,x.st,_,dx,_,_,rfl,ho,T.Z1,T.Zr,ZB,x.c.co,dc,_,rfl,hco,Z49,_,rfl,_,rfl,x.st,dx,_,rfl,ho,Z2A,x,s,rfl,hs,inv,fun H1 p l hp s1 hl hm hll=>?_⟩
   have hs1:=hs.same s1
   have hc1:=hs1.co
   rw [eb,eg] at hc1
   refine ⟨x.c,s.phase,s.need,s.won,z.toNat,p,l,by rw [Int.toNat_of_nonneg h1],hc1,hl,fun q hq=>inv.st.lt q ((mem_anchored.mp ((hm q).mp hq)).1),fun H2 f2 hc2=>?_⟩
   have nT:=th_apart hs1.th hs1.co (ne_TC T) hs1.apart
   have f2':Fx [x.c.co,x.c.bl,x.c.gr,x.t.siz,x.t.rf,x.t.kn,x.t.me] H1 H2:=f2.mono (by simp)
   have:=hs1.tc T f2' ⟨rfl,.inl rfl⟩ (hs1.th.fx f2 fun y hy h=>nT y hy (by simp at h;rcases h with h | h <;> simp [h])) (hc2 s.anchored fun q=>(hm q).symm)
   exact k H2 x rfl ((keep_same s1).trans (keep_fx f2' (hs1.own_tc T))) this
  ·have e2:decide (s.phase=0)=false:=decide_eq_false h2
   rw [e2]
   have e:step s (.collect z)=(s,refused Vastoj.BUSY):=by simp [Vastoj.step,h1',h2]
   rw [e] at k
   exact iteT (k.here hs)
 ·have e0:decide (0≤z)=false:=decide_eq_false h1
  rw [e0]
  have h1':z<0:=by omega
  have e:step s (.collect z)=(s,refused Vastoj.RANGE):=by simp [Vastoj.step,h1']
  rw [e] at k
  exact iteT (k.here hs)
theorem Z5R (T:Txt K mg a):Pr P w K mg base 2 a.Z1O ["state"] (spC0 a .cancel):=by
 refine pr_of' T.Z6p Z5Q fun cdv A outer s H vs Q E hr h=>?_
 obtain ⟨x,s,rfl,hs,inv,k⟩:=h
 refine ⟨_,(pss_cons (ps_expr (pc_m0 (pe_fld (pv 0) rfl) T.Z0 T.Z2a (Z25 T) (hr.mono (by decide))))
   (pss_one (ps_ret (pk T.ZC)))),?_⟩
 obtain ⟨dx,ho⟩:=hs.ob
 obtain ⟨dc,hco⟩:=hs.co.ob
 refine ⟨_,rfl,x.st,_,dx,_,_,rfl,ho,T.Z1,T.Zr,ZB,x.c.co,dc,_,rfl,hco,Z2e,x.c,s.phase,s.black,s.grey,s.need,s.won,rfl,hs.co,fun H1 c' e1 e2 e3 f1 hc1=>?_⟩
 have e:step s .cancel=(s.idle,done):=rfl
 rw [e] at k
 have nT:=th_apart hs.th hs.co (ne_TC T) hs.apart
 have f2':Fx [x.c.co,x.c.bl,x.c.gr,x.t.siz,x.t.rf,x.t.kn,x.t.me] H H1:=f1.mono (by simp)
 have:=hs.tc T f2' ⟨e1,.inr ⟨e2,e3⟩⟩ (hs.th.fx f1 fun y hy h=>nT y hy (by simp at h;simp [h])) hc1
 exact k H1 {x with c:=c'} rfl (keep_fx f2' (hs.own_tc T)) this
theorem StAt.at_lock {H:Hp}{x:StAd}{s:State}{g:Addr}{od:Obj}{u:HO} (h:StAt a H x s) (hg:H g=some (.frz od u)) (o:HO):StAt a (upd H g o) x s:=by
 have n:∀ b v,H b=some v→(∀ od u,v≠.frz od u)→(upd H g o) b=some v:=fun b v e hn=>by
  rw [upd_ne (fun q=>by rw [q,hg] at e;cases e;exact hn _ _ rfl)];exact e
 have nd:∀ b kvs,H b=some (.dK kvs)→(upd H g o) b=some (.dK kvs):=fun b kvs e=>n b _ e (by intro _ _ z;cases z)
 have ni:∀ b C d fs,H b=some (.ins C d fs)→(upd H g o) b=some (.ins C d fs):=fun b C d fs e=>n b _ e (by intro _ _ z;cases z)
 have nl:∀ b xs,H b=some (.lst xs)→(upd H g o) b=some (.lst xs):=fun b xs e=>n b _ e (by intro _ _ z;cases z)
 obtain ⟨⟨dx,h1⟩,⟨⟨dt,t1⟩,⟨kz,z1,z2⟩,⟨kr,r1,RA,r2,r3⟩,⟨kk,k1,KA,k2,k3⟩,⟨km,m1,m2⟩,tn⟩,⟨⟨dc,c1⟩,⟨kb,b1,b2⟩,⟨kg,g1,g2⟩,cn⟩,⟨ks,s1,s2⟩,hE,⟨kt,q1,q2⟩,n1,n2,n3,n4⟩:=h
 refine ⟨⟨dx,ni _ _ _ _ h1⟩,⟨⟨dt,ni _ _ _ _ t1⟩,⟨kz,nd _ _ z1,z2⟩,⟨kr,nd _ _ r1,RA,r2,fun p r e=>nl _ _ (r3 p r e)⟩,⟨kk,nd _ _ k1,KA,k2,fun p r e=>nl _ _ (k3 p r e)⟩,⟨km,nd _ _ m1,m2⟩,tn⟩,⟨⟨dc,ni _ _ _ _ c1⟩,⟨kb,nd _ _ b1,b2⟩,⟨kg,nd _ _ g1,g2⟩,cn⟩,⟨ks,nd _ _ s1,s2⟩,fun y hy=>?_,⟨kt,nd _ _ q1,q2⟩,n1,n2,n3,n4⟩
 obtain ⟨⟨dy,oo,ii,y1,y2,y3⟩,⟨kh,y4,y5⟩⟩:=hE y hy
 exact ⟨⟨dy,oo,ii,ni _ _ _ _ y1,nl _ _ y2,nl _ _ y3⟩,⟨kh,nd _ _ y4,y5⟩⟩
theorem upd_id {H:Hp}{g:Addr}{o:HO} (h:H g=some o):upd H g o=H:=by
 funext b
 by_cases e:b=g
 ·rw [e,upd_same,h]
 ·rw [upd_ne e]
theorem unit_eq (s:State):s.unit.1={s with store:=s.unit.1.store,phase:=s.unit.1.phase,black:=s.unit.1.black,grey:=s.unit.1.grey,need:=s.unit.1.need,won:=s.unit.1.won}:=by
 unfold State.unit
 split
 ·unfold State.mark
  split <;> rfl
 ·split
  ·unfold State.sweep
   split
   ·rfl
   ·split <;> rfl
  ·rfl
theorem work_idle:∀ (n:Nat) {s:State},s.phase=0→Vastoj.work n s=(s,[])
 | 0,s,_=>rfl
 | n+1,s,h=>by
  have e:s.unit=(s,[]):=by unfold State.unit;rw [if_neg (by omega),if_neg (by omega)]
  unfold Vastoj.work
  simp only [e,work_idle n h,List.nil_append]
theorem enc_done (l:List Nat):(VastojNeutral.encode {value:=0,numbers:=l}).map V.int=V.int 0::ivs l:=by
 unfold VastojNeutral.encode
 rw [List.map_cons,List.map_map];rfl
theorem enc_ref (n:Int):(VastojNeutral.encode (refused n)).map V.int=[V.int n]:=rfl
theorem Z92 (T:Txt K mg a):Pr P w K mg base 5 a.Z4D ["state","n"] (spL1 a Call.work):=by
 refine pr_of' T.Z9C Z1I fun cdv A outer s H vs Q E hr h=>?_
 obtain ⟨x,s,z,rfl,hs,inv,k⟩:=h
 refine ⟨_,(pss_cons (ps_if (pt_not (pt_val (pc_f (Z5G T) (hr.mono (by decide)) T.Z5Y (pa_cons (pv 1) pa_nil)))) (pss_one (ps_ret (pe_lst (pa_cons (pk T.Z1b) pa_nil)))) pss_nil)
   (pss_cons (pst 2 Z1I.nd (pe_fld (pv 0) rfl))
   (pss_cons (pst 3 Z1I.nd (pe_lst pa_nil))
   (pss_cons (pst 4 Z1I.nd (pv 1))
   (pss_cons (ps_while PassesOwn.never ((pw_and (pt_cmpR op_gt (pv 4) pe_int (nomark _)) (pw_and1 (pt_not (pt_val (pc_m0 (pv 2) T.Z0 T.Z3k (Z3h T) (hr.mono (by decide))))))).pt) (pss_cons (ps_expr (pe_bm PySem.F.plainAttrs_list PySem.F.slot_list_extend PySem.F.type_list_extend mt_extend (pv 3) (pa_cons (pe_lock (pc_m (pv 2) T.Z0 T.Z5t (Z5f T) (hr.mono (by decide)) (pa_cons (pe_fld (pv 0) rfl) pa_nil))) pa_nil)))
   (pss_one (pst 4 Z1I.nd (pe_op op_sub (pv 4) pe_int)))))
   (pss_one (ps_ret (pe_op op_cat (pe_lst (pa_cons (pk T.ZC) pa_nil)) (pv 3))))))))),?_⟩
 obtain ⟨dx,ho⟩:=hs.ob
 obtain ⟨dc,hco⟩:=hs.co.ob
 refine ⟨_,rfl,z,rfl,_,rfl,?_⟩
 dsimp only
 by_cases h1:0≤z∧z≤1000
 ·have e0:(decide (0≤z)&&decide (z≤1000))=true:=by simp [h1.1,h1.2]
  rw [e0]
  refine iteF ?_
  have h1':¬ (z<0∨1000<z):=by omega
  have e:step s (.work z)=((Vastoj.work z.toNat s).1,{value:=0,numbers:=(Vastoj.work z.toNat s).2}):=by simp [Vastoj.step,h1']
  rw [e] at k
  refine ⟨_,rfl,x.st,_,dx,_,_,rfl,ho,T.Z1,T.Zr,ZB,?_⟩
  refine ⟨Nat.zero_le _,fun gl hgl=>?_⟩
  have sg:=same_new (o:=.lst []) hgl
  refine ⟨_,rfl,?_⟩
  have up2:∀ o u,upd (upd H gl o) gl u=upd H gl u:=fun o u=>upd_upd
  refine ⟨fun m σ H'=>∃ (x':StAd) (s':State) (gone:List Nat),σ=[some (.ref x.st),some (.int z),some (.ref x.c.co),some (.ref gl),some (.int (m:Nat))]∧x'.st=x.st∧x'.c.co=x.c.co∧Keep a H H'∧(∀ o,StAt a (upd H' gl o) x' s')∧StInv s'∧H' gl=some (.lst (ivs gone))∧gone.length≤(z.toNat - m)*128∧m≤z.toNat∧(Vastoj.work z.toNat s).1=(Vastoj.work m s').1∧(Vastoj.work z.toNat s).2=gone++(Vastoj.work m s').2,
   ⟨z.toNat,x,s,[],by rw [Int.toNat_of_nonneg h1.1];rfl,rfl,rfl,keep_same sg,fun o=>by rw [up2];exact hs.same (same_new hgl),inv,by rw [upd_same];rfl,by simp,Nat.le_refl _,rfl,rfl⟩,?_⟩
  rintro m σ H1 ⟨x',s',gone,rfl,ex,ec,kp,hsa,inv1,hg1,hgl1,hm,ew1,ew2⟩
  have hs1:StAt a H1 x' s':=by
   have:=hsa (.lst (ivs gone))
   rw [upd_id hg1] at this
   exact this
  have fin:(Vastoj.work m s')=(s',[])→tRet (tOp rCat (tLst (tCons (tC (.int 0)) tNil)) (tVar 3)) {nx:=fun _ H'=>Q .non H',rt:=Q} [some (.ref x.st),some (.int z),some (.ref x.c.co),some (.ref gl),some (.int (m:Nat))] H1:=by
   intro ew
   refine ⟨by show 1≤sizeLine;decide,fun l1 hl1=>?_⟩
   have s1:=same_new (o:=.lst [V.int 0]) hl1
   refine ⟨_,rfl,l1,gl,[V.int 0],ivs gone,rfl,rfl,upd_same,s1 _ _ hg1,by rw [ivs_len];exact Nat.le_of_lt (line_of_le (by
     have:(z.toNat - m)*128≤1000*128:=Nat.mul_le_mul_right _ (by omega)
     simp;omega)),fun p hp=>?_⟩
   have s2:=same_new (o:=.lst ([V.int 0]++ivs gone)) hp
   refine k _ x' p ex (kp.trans ((keep_same s1).trans (keep_same s2))) ?_ ?_
   ·rw [ew1,ew];exact (hs1.same s1).same s2
   ·rw [upd_same,ew2,ew,enc_done,List.append_nil];rfl
  refine ⟨_,rfl,_,_,rfl,rfl,_,rfl,?_⟩
  refine ite2 (fun h2=>?_) (fun h2=>?_)
  ·have hm0:0<m:=by have:=of_decide_eq_true h2;omega
   obtain ⟨dc1,hco1⟩:=hs1.co.ob
   refine ⟨_,rfl,x.c.co,dc1,_,rfl,by rw [← ec];exact hco1,Z3a,x'.c,s'.phase,s'.black,s'.grey,s'.need,s'.won,by rw [ec],hs1.co,_,rfl,?_⟩
   by_cases h3:s'.phase=0
   ·have e2:decide (s'.phase=0)=true:=decide_eq_true h3
    rw [e2]
    exact iteF (fin (work_idle m h3))
   ·have e2:decide (s'.phase=0)=false:=decide_eq_false h3
    rw [e2]
    refine iteT ⟨_,fun _ _ q=>q,?_⟩
    refine ⟨_,rfl,.inl ⟨rfl,_,SqL.of hg1⟩,gl,.lst (ivs gone),hg1,trivial,fun od=>?_⟩
    have hsl:=hsa (.frz od (.lst (ivs gone)))
    obtain ⟨dcl,hcol⟩:=hsl.co.ob
    obtain ⟨dxl,hol⟩:=hsl.ob
    refine ⟨_,rfl,x.c.co,dcl,_,rfl,by rw [← ec];exact hcol,Z5k,_,rfl,x.st,_,dxl,_,_,rfl,by rw [← ex];exact hol,T.Z1,T.Zj,Zk,x'.t,s',x'.c,by rw [ec],hsl.apart,hsl.th,inv1,hsl.co,fun H2 c' p nc f2 ht2 hc2 hp2 hl2=>?_⟩
    have ow:=hsl.own_tc T
    have ngl:gl∉[x'.c.co,x'.c.bl,x'.c.gr,x'.t.siz,x'.t.rf,x'.t.kn,x'.t.me]:=fun hm=>by
     rcases ow gl hm _ upd_same with ⟨_,q⟩ | ⟨_,_,_,q,_⟩ <;> cases q
    have hg2:H2 gl=some (.frz od (.lst (ivs gone))):=f2.at_ upd_same ngl
    have hs2:=hsl.tc T f2 nc ht2 hc2
    rw [← unit_eq s'] at hs2
    have hpg:p≠gl:=fun e=>by rw [e,hg2] at hp2;cases hp2
    have kp2:∀ b o,H b=some o→(∀ kvs,o≠.dK kvs)→(∀ C dx fs,o=.ins C dx fs→C=a.Zf)→H2 b=some o:=fun b o eb h4 h5=>by
     have nb:b≠gl:=ne_of_none eb hgl
     refine keep_fx f2 ow b o ?_ h4 h5
     rw [upd_ne nb];exact kp b o eb h4 h5
    refine ⟨hg2,gl,p,ivs gone,ivs s'.unit.2,rfl,rfl,upd_same,by rw [upd_ne hpg];exact hp2,by rw [ivs_len,ivs_len];exact Nat.le_of_lt (line_of_le (by
     have:(z.toNat - m)*128≤1000*128:=Nat.mul_le_mul_right _ (by omega)
     omega)),?_⟩
    rw [upd_upd]
    obtain ⟨m',rfl⟩:∃ m',m=m'+1:=⟨m - 1,by omega⟩
    refine ⟨_,rfl,_,_,rfl,rfl,?_⟩
    refine ⟨m',by omega,{x' with c:=c'},s'.unit.1,gone++s'.unit.2,?_,ex,by rw [← ec];exact nc.1,fun b o eb h4 h5=>?_,fun o=>by rw [upd_upd];exact hs2.at_lock hg2 o,inv1.unit,by rw [upd_same];simp,?_,by omega,?_,?_⟩
    ·show [some (V.ref x.st),some (V.int z),some (V.ref x.c.co),some (V.ref gl),some (V.int (((m'+1:Nat):Int) - 1))]=_
     rw [show ((m'+1:Nat):Int) - 1=(m':Int) by omega]
    ·rw [upd_ne (ne_of_none eb hgl)];exact kp2 b o eb h4 h5
    ·rw [List.length_append]
     have:(z.toNat - m')*128=(z.toNat - (m'+1))*128+128:=by
      have:z.toNat - m'=(z.toNat - (m'+1))+1:=by omega
      rw [this];omega
     omega
    ·rw [ew1];rfl
    ·rw [ew2,List.append_assoc];rfl
  ·have hm0:m=0:=by
    have:¬ (0:Int)<((m:Nat):Int):=fun q=>h2 (decide_eq_true q)
    omega
   subst hm0
   exact iteF (fin rfl)
 ·have e0:(decide (0≤z)&&decide (z≤1000))=false:=by
   rw [Bool.and_eq_false_iff]
   by_cases h2:0≤z
   ·exact .inr (by simp;omega)
   ·exact .inl (by simp;omega)
  rw [e0]
  have h1':z<0∨1000<z:=by omega
  have e:step s (.work z)=(s,refused Vastoj.RANGE):=by simp [Vastoj.step,h1']
  rw [e] at k
  refine iteT ⟨by show 1≤sizeLine;decide,fun p hp=>?_⟩
  exact k.mk hs (same_new hp) (by rw [upd_same,enc_ref];rfl)
end
end Go
end
section
set_option maxHeartbeats 2000000
namespace Go
open PySem PySem.Spec PyProof.Rows L2 LX VL
open Vastoj (Store Node knot closure isTop State Session Call step below refused done)
section
variable {P:Program}{w:World}{K:PySem.W.Frag}{mg:Str→Option Value}{base:Heap}{a:Ad}
theorem line_small {n:Nat} (h:n≤1000):n≤sizeLine:=Nat.le_of_lt (line_of_le (by omega))
theorem Z9b (T:Txt K mg a):Pr P w K mg base 1 a.Z4I ["state"] (spL0 a .valid):=by
 refine pr_of' T.Z9B Z93 fun cdv A outer s H vs Q E hr h=>?_
 obtain ⟨x,s,rfl,hs,inv,k⟩:=h
 refine ⟨_,(pss_one (ps_ret (pe_op op_cat (pe_lst (pa_cons (pk T.ZC) pa_nil)) (pe_callB (cr_sortdict rfl) (by rfl) T.Z28 (by decide +kernel) (pa_cons (pe_fld (pe_fld (pv 0) rfl) rfl) pa_nil))))),?_⟩
 obtain ⟨dx,ho⟩:=hs.ob
 obtain ⟨dt,hto⟩:=hs.th.ob
 obtain ⟨kvz,z1,z2⟩:=hs.th.siz
 obtain ⟨l,l1,l2,l3,l4⟩:=siz_keys inv.st z2
 have e:step s .valid=(s,{value:=0,numbers:=s.store.valid}):=rfl
 rw [e] at k
 refine ⟨by show 1≤sizeLine;decide,fun p1 hp1=>?_⟩
 have s1:=same_new (o:=.lst [V.int 0]) hp1
 refine ⟨_,rfl,x.st,_,dx,_,_,rfl,s1 _ _ ho,T.Z1,T.Zj,Zk,x.t.th,_,dt,_,_,rfl,s1 _ _ hto,T.Z3,T.Zl,Zp,x.t.siz,kvz,l.map (fun q:Nat=>(q:Int)),rfl,Rd.of (s1 _ _ z1),by rw [l1,List.map_map];rfl,fun ns p2 pp ps hp2=>?_⟩
 rw [sorted_places pp ps l2 inv.st.asc l3]
 have s2:=same_new (o:=.lst (ivs s.store.valid)) hp2
 have hvl:s.store.valid.length≤128:=asc_len_le inv.st.asc inv.st.lt
 refine ⟨p1,p2,[V.int 0],ivs s.store.valid,rfl,rfl,s2 _ _ upd_same,upd_same,line_small (by rw [ivs_len];simp;omega),fun p3 hp3=>?_⟩
 exact k.mk hs ((s1.trans s2).trans (same_new hp3)) (by rw [upd_same,enc_done];rfl)
theorem Z9y (T:Txt K mg a):Pr P w K mg base 4 a.Z5u ["state"] (spL0 a .live):=by
 refine pr_of' T.Z9W Z9o fun cdv A outer s H vs Q E hr h=>?_
 obtain ⟨x,s,rfl,hs,inv,k⟩:=h
 refine ⟨_,(pss_one (ps_ret (pe_op op_cat (pe_lst (pa_cons (pk T.ZC) pa_nil)) (pe_callB (cr_sortdict rfl) (by rfl) T.Z28 (by decide +kernel) (pa_cons (pc_m (pe_fld (pv 0) rfl) T.Z3 T.Z2I (Z2K T) (hr.mono (by decide)) (pa_cons (pc_m0 (pv 0) T.Z1 T.Z2x (Z2q T) (hr.mono (by decide))) pa_nil)) pa_nil))))),?_⟩
 obtain ⟨dx,ho⟩:=hs.ob
 obtain ⟨dt,hto⟩:=hs.th.ob
 have e:step s .live=(s,{value:=0,numbers:=s.live}):=rfl
 rw [e] at k
 refine ⟨by show 1≤sizeLine;decide,fun p1 hp1=>?_⟩
 have s1:=same_new (o:=.lst [V.int 0]) hp1
 have hs1:=hs.same s1
 refine ⟨_,rfl,x.st,_,dx,_,_,rfl,s1 _ _ ho,T.Z1,T.Zj,Zk,x.t.th,dt,_,rfl,s1 _ _ hto,Z2D,_,rfl,x.st,dx,_,rfl,s1 _ _ ho,Z2A,x,s,rfl,hs1,inv,fun H2 p2 l hp2 s2 hl hm hll=>?_⟩
 have hs2:=hs1.same s2
 have hlv:∀ q∈l,q∈s.store.valid:=fun q hq=>(mem_anchored.mp ((hm q).mp hq)).1
 refine ⟨x.t,s.store,p2,l,rfl,hs2.th,inv.st,SqL.of hl,hlv,fun H3 e3 he3 s3 ⟨kv,g1,g2⟩=>?_⟩
 obtain ⟨ks,k1,k2,k3,k4⟩:=g2.keys
 have hcl:closure s.store l=s.live:=closure_ext inv.st hm
 refine ⟨e3,kv,ks.map (fun q:Nat=>(q:Int)),rfl,Rd.of g1,by rw [k1,List.map_map];rfl,fun ns p4 pp ps hp4=>?_⟩
 rw [sorted_places pp ps k2 (asc_closure s.store l) k3,hcl]
 have hll2:s.live.length≤128:=by
  rw [← hcl]
  exact asc_len_le (asc_closure _ _) fun q hq=>inv.st.lt q (closure_valid inv.st hlv hq)
 have s4:=same_new (o:=.lst (ivs s.live)) hp4
 refine ⟨p1,p4,[V.int 0],ivs s.live,rfl,rfl,s4 _ _ (s3 _ _ (s2 _ _ upd_same)),upd_same,line_small (by rw [ivs_len];simp;omega),fun p5 hp5=>?_⟩
 exact k.mk hs ((((s1.trans s2).trans s3).trans s4).trans (same_new hp5)) (by rw [upd_same,enc_done];rfl)
theorem Z8p (T:Txt K mg a):Pr P w K mg base 2 a.Z41 ["state"] (spL0 a .counts):=by
 refine pr_of' T.Z8T Z2o fun cdv A outer s H vs Q E hr h=>?_
 obtain ⟨x,s,rfl,hs,inv,k⟩:=h
 refine ⟨_,(pss_cons (pst 1 Z2o.nd (pe_fld (pv 0) rfl))
   (pss_cons (pst 2 Z2o.nd (pe_fld (pv 0) rfl))
   (pss_cons (pst 3 Z2o.nd (pe_lst (pa_cons (pe_fld (pv 2) rfl) (pa_cons (pe_callB call_lenD (by rfl) T.b_len (by decide +kernel) (pa_cons (pe_fld (pv 2) rfl) pa_nil)) (pa_cons (pe_callB call_lenD (by rfl) T.b_len (by decide +kernel) (pa_cons (pe_fld (pv 2) rfl) pa_nil)) pa_nil)))))
   (pss_one (ps_ret (pe_op op_cat (pe_op op_cat (pe_lst (pa_cons (pk T.ZC) (pa_cons (pe_callB call_lenD (by rfl) T.b_len (by decide +kernel) (pa_cons (pe_fld (pv 1) rfl) pa_nil)) (pa_cons (pc_m0 (pv 1) T.Z3 T.Z3E (Z3G T) (hr.mono (by decide))) pa_nil)))) (pv 3)) (pe_lst (pa_cons (pe_fld (pv 2) rfl) pa_nil)))))))),?_⟩
 obtain ⟨dx,ho⟩:=hs.ob
 obtain ⟨dt,hto⟩:=hs.th.ob
 obtain ⟨dc,hco⟩:=hs.co.ob
 obtain ⟨kvz,z1,z2⟩:=hs.th.siz
 obtain ⟨l,l1,l2,l3,l4⟩:=siz_keys inv.st z2
 obtain ⟨kvb,b1,b2⟩:=hs.co.bl
 obtain ⟨kvg,g1,g2⟩:=hs.co.gr
 have hzl:kvz.length=s.store.length:=by
  have h1:=congrArg List.length l1
  simp only [List.length_map] at h1
  rw [h1,((List.perm_ext_iff_of_nodup l2 inv.st.asc.nodup).mpr l3).length_eq]
  unfold Store.valid;rw [List.length_map]
 have hbl:kvb.length=s.black.length:=b2.len inv.mks.basc fun _=>Iff.rfl
 have hgl:kvg.length=s.grey.length:=g2.len inv.mks.gasc fun _=>Iff.rfl
 have e:step s .counts=(s,{value:=0,numbers:=[s.store.length,s.store.load,s.phase,s.black.length,s.grey.length,s.won]}):=rfl
 rw [e] at k
 refine ⟨_,rfl,x.st,_,dx,_,_,rfl,ho,T.Z1,T.Zj,Zk,?_⟩
 refine ⟨_,rfl,x.st,_,dx,_,_,rfl,ho,T.Z1,T.Zr,ZB,?_⟩
 refine ⟨_,rfl,x.c.co,_,dc,_,_,rfl,hco,T.Z0,T.Zi,ZA,_,rfl,x.c.co,_,dc,_,_,rfl,hco,T.Z0,T.Zn,ZD,x.c.bl,kvb,rfl,b1,_,rfl,x.c.co,_,dc,_,_,rfl,hco,T.Z0,T.Zv,ZX,x.c.gr,kvg,rfl,g1,by show 3≤sizeLine;decide,fun p1 hp1=>?_⟩
 rw [hbl,hgl]
 have s1:=same_new (o:=.lst [V.int (s.phase:Nat),V.int (s.black.length:Nat),V.int (s.grey.length:Nat)]) hp1
 refine ⟨_,rfl,x.t.th,_,dt,_,_,rfl,s1 _ _ hto,T.Z3,T.Zl,Zp,x.t.siz,kvz,rfl,s1 _ _ z1,_,rfl,x.t.th,dt,_,rfl,s1 _ _ hto,Z3I,x.t,s.store,rfl,(hs.same s1).th,inv.st,fun H2 s2=>⟨by show 3≤sizeLine;decide,fun p2 hp2=>?_⟩⟩
 rw [hzl]
 have s3:=same_new (o:=.lst [V.int 0,V.int (s.store.length:Nat),V.int (s.store.load:Nat)]) hp2
 refine ⟨_,rfl,p2,p1,_,[V.int (s.phase:Nat),V.int (s.black.length:Nat),V.int (s.grey.length:Nat)],rfl,rfl,upd_same,s3 _ _ (s2 _ _ upd_same),by show 6≤sizeLine;decide,fun p3 hp3=>?_⟩
 have s4:=same_new (o:=.lst ([V.int 0,V.int (s.store.length:Nat),V.int (s.store.load:Nat)]++[V.int (s.phase:Nat),V.int (s.black.length:Nat),V.int (s.grey.length:Nat)])) hp3
 have ss:Same H _:=((s1.trans s2).trans s3).trans s4
 refine ⟨_,rfl,x.c.co,_,dc,_,_,rfl,ss _ _ hco,T.Z0,T.ZN,Z2Z,by show 1≤sizeLine;decide,fun p4 hp4=>?_⟩
 have s5:=same_new (o:=.lst [V.int (s.won:Nat)]) hp4
 refine ⟨p3,p4,_,_,rfl,rfl,s5 _ _ upd_same,upd_same,by show 7≤sizeLine;decide,fun p5 hp5=>?_⟩
 exact k.mk hs ((ss.trans s5).trans (same_new hp5)) (by rw [upd_same,enc_done];rfl)
theorem Z9Z (T:Txt K mg a):Pr P w K mg base 3 a.Z61 ["state","p"] (spL1 a Call.why):=by
 refine pr_of' T.Za7 Z1N fun cdv A outer s H vs Q E hr h=>?_
 obtain ⟨x,s,z,rfl,hs,inv,k⟩:=h
 refine ⟨_,(pss_cons (ps_if (pt_not (pt_val (pc_f (Z3J T) (hr.mono (by decide)) T.Z4o (pa_cons (pv 1) pa_nil)))) (pss_one (ps_ret (pe_lst (pa_cons (pk T.Z1b) pa_nil)))) pss_nil)
   (pss_cons (ps_if (pt_not (pt_val (pc_m (pv 0) T.Z1 T.ZJ (ZK T) (hr.mono (by decide)) (pa_cons (pv 1) pa_nil)))) (pss_one (ps_ret (pe_lst (pa_cons (pk T.Z33) pa_nil)))) pss_nil)
   (pss_cons (pst 2 Z1N.nd (pc_m (pe_fld (pv 0) rfl) T.Z3 T.Z76 (Z6C T) (hr.mono (by decide)) (pa_cons (pv 1) pa_nil)))
   (pss_cons (ps_setLc (i:=3) (own:=[("r",4)]) rfl Z1N.nd rfl rfl (by rfl) (pi_list (pe_callB (cr_sortdict rfl) (by rfl) T.Z28 (by decide +kernel) (pa_cons (pe_fld (pv 0) rfl) pa_nil))) (blkOk_by rfl) (fun _ _ _ _ _=>pn 4 Z1N.nd) (fun _ _ _ _ _=>(pts_one (pt_cmp (pc_din (hu_of hr) (pe_dget (hu_of hr) (pe_fldK (K:=K) (pv 0) rfl rfl) (pv 4) (fun _ _=>rfl)) (pv 2))))) (fun _ _ _ _ _=>(pv 4)))
   (pss_cons (ps_setLc (i:=5) (own:=[("k",6)]) rfl Z1N.nd rfl rfl (by rfl) (pi_list (pe_callB (cr_sortdict rfl) (by rfl) T.Z28 (by decide +kernel) (pa_cons (pe_fld (pv 0) rfl) pa_nil))) (blkOk_by rfl) (fun _ _ _ _ _=>pn 6 Z1N.nd) (fun _ _ _ _ _=>(pts_one (pt_val (pc_m (pe_dget (hu_of hr) (pe_fldK (K:=K) (pv 0) rfl rfl) (pv 6) (fun _ _=>rfl)) T.Z7 T.Z4l (Z4p T) (hr.mono (by decide)) (pa_cons (pv 2) pa_nil))))) (fun _ _ _ _ _=>(pv 6)))
   (pss_one (ps_ret (pe_op op_cat (pe_op op_cat (pe_lst (pa_cons (pk T.ZC) (pa_cons (pe_callB call_len_seq (by rfl) T.b_len (by decide +kernel) (pa_cons (pv 3) pa_nil)) pa_nil))) (pv 3)) (pv 5))))))))),?_⟩
 obtain ⟨dx,ho⟩:=hs.ob
 obtain ⟨dt,hto⟩:=hs.th.ob
 refine ⟨_,rfl,z,rfl,_,rfl,?_⟩
 dsimp only
 rw [to128]
 cases hb:Vastoj.isPlace z with
 | false =>
  have e:step s (.why z)=(s,refused Vastoj.RANGE):=by simp [Vastoj.step,hb]
  rw [e] at k
  refine iteT ⟨by show 1≤sizeLine;decide,fun p hp=>?_⟩
  exact k.mk hs (same_new hp) (by rw [upd_same,enc_ref];rfl)
 | true =>
  refine iteF ?_
  have hz:=below_iff.mp hb
  refine ⟨_,rfl,x.st,dx,_,rfl,ho,ZI,_,rfl,x,s,z,rfl,hs,_,rfl,?_⟩
  dsimp only
  rw [place_has hb]
  cases hv:s.store.has z.toNat with
  | false =>
   have e:step s (.why z)=(s,refused Vastoj.ABSENT):=by simp [Vastoj.step,hb,hv]
   rw [e] at k
   refine iteT ⟨by show 1≤sizeLine;decide,fun p hp=>?_⟩
   exact k.mk hs (same_new hp) (by rw [upd_same,enc_ref];rfl)
  | true =>
   refine iteF ?_
   have e:step s (.why z)=(s,{value:=0,numbers:=Vastoj.why s z.toNat}):=by simp [Vastoj.step,hb,hv]
   rw [e] at k
   have ip:V.int z=iv z.toNat:=by show V.int z=V.int ((z.toNat:Nat):Int);rw [Int.toNat_of_nonneg hz.1]
   refine ⟨_,rfl,x.st,_,dx,_,_,rfl,ho,T.Z1,T.Zj,Zk,x.t.th,dt,_,rfl,hto,Z6G,_,rfl,x.t,s.store,z.toNat,by rw [ip],hs.th,inv.st,has_iff.mp hv,fun H1 e1 he1 s1 hset=>?_⟩
   have hs1:=hs.same s1
   obtain ⟨kve,c1,c2⟩:=id hset
   obtain ⟨kvr,r1,r2⟩:=hs1.rts
   obtain ⟨rs,q1,q2,q3,q4,q5⟩:=rt_keys inv.roots r2
   obtain ⟨dx1,ho1⟩:=hs1.ob
   have hrasc:=inv.roots.asc
   have hrm:∀ r,r∈rs↔r∈s.roots.map fun y=>y.1:=fun r=>by
    rw [q3,List.mem_map]
    exact ⟨fun ⟨p,hp⟩=>⟨_,hp,rfl⟩,fun ⟨y,hy,ey⟩=>⟨y.2,by rw [← ey];exact hy⟩⟩
   refine ⟨_,rfl,x.st,_,dx1,_,_,rfl,ho1,T.Z1,T.ZO,Z13,x.rts,kvr,rs.map (fun q:Nat=>(q:Int)),rfl,Rd.of r1,by rw [q1,List.map_map];rfl,fun ns p2 pp ps hp2=>?_⟩
   rw [sorted_places pp ps q2 hrasc hrm]
   have s2:=same_new (o:=.lst (ivs (s.roots.map fun y=>y.1))) hp2
   have hrl:s.roots.length≤32:=by
    have:=asc_len_le (n:=32) hrasc fun r hr=>by
     obtain ⟨y,hy,ey⟩:=List.mem_map.mp hr
     rw [← ey];exact (inv.roots.lt y hy).1
    simpa using this
   have hs2:=hs1.same s2
   obtain ⟨dx2,ho2⟩:=hs2.ob
   refine ⟨p2,rfl,⟨_,SqL.of upd_same⟩,fun D hD=>lc_filter (K:=K) (f:=iv) (xs:=s.roots.map fun y=>y.1) (c:=fun r=>Vastoj.reaches s.store (rootOf s.roots r) z.toNat&&s.store.has (rootOf s.roots r)) (y:=iv) (i:=4) (SqL.of upd_same) hD (by rw [List.length_map];omega) (fun H3 r Q' hr s3 kk=>?_) (fun H3 r Q' hr _ s3 kk=>⟨_,rfl,kk _ (Same.refl _)⟩) (fun v=>rfl) (fun H3 s3 hD3=>?_)⟩
   ·obtain ⟨⟨r',p'⟩,hy,rfl⟩:=List.mem_map.mp hr
    obtain ⟨f1,f2⟩:=rtF_some hrasc hy
    have s23:Same H1 H3:=s2.trans s3
    refine ⟨_,rfl,x.st,_,dx1,_,_,rfl,s23 _ _ ho1,T.Z1,T.ZO,Z13,_,rfl,x.rts,iv p',rfl,.inl ⟨kvr,ky r',.inl (s23 _ _ r1),rfl,by rw [r2.get,f1]⟩,_,rfl,e1,_,rfl,.inl ⟨kve,ky p',.inl (s23 _ _ c1),rfl,rfl⟩,_,rfl,?_⟩
    have ee:(valV kve (ky p')).isSome=(Vastoj.reaches s.store (rootOf s.roots r') z.toNat&&s.store.has (rootOf s.roots r')):=by
     rw [f2,Bool.eq_iff_iff,c2.has,Bool.and_eq_true,reaches_iff inv.st]
     constructor
     ·intro h
      refine ⟨h,has_iff.mpr ?_⟩
      cases h with
      | refl=>exact has_iff.mp hv
      | step h1 h2 =>
       by_cases hpv:p'∈s.store.valid
       ·exact hpv
       ·exfalso
        rename_i q
        have:∀ {u v:Nat},Reach s.store u v→u∉s.store.valid→v=u:=by
         intro u v huv hu
         induction huv with
         | refl=>rfl
         | step _ hx ih=>rw [ih,refs_none hu] at hx;cases hx
        have h3:=this h1 hpv
        rw [h3,refs_none hpv] at h2;cases h2
     ·exact fun h=>h.1
    rw [ee]
    exact kk _ (Same.refl _)
   ·have hRR:((s.roots.map fun y=>y.1).filter fun r=>Vastoj.reaches s.store (rootOf s.roots r) z.toNat&&s.store.has (rootOf s.roots r))=(s.roots.filter fun r=>s.store.has r.2&&Vastoj.reaches s.store r.2 z.toNat).map fun r=>r.1:=by
     rw [List.filter_map]
     congr 1
     refine List.filter_congr fun y hy=>?_
     simp only [Function.comp]
     rw [(rtF_some hrasc (show (y.1,y.2)∈s.roots from hy)).2,Bool.and_comm]
    rw [hRR] at hD3
    generalize hRS:((s.roots.filter fun r=>s.store.has r.2&&Vastoj.reaches s.store r.2 z.toNat).map fun r=>r.1)=RS at hD3
    have hRSl:RS.length≤32:=by
     rw [← hRS,List.length_map]
     exact Nat.le_trans (List.length_filter_le _ _) hrl
    have s23:Same H H3:=s1.trans (s2.trans s3)
    have hs3:=hs.same s23
    obtain ⟨kvs,t1,t2⟩:=hs3.ses
    obtain ⟨ks,g1,g2,g3,g4,g5,g6⟩:=se_keys inv.ses t2
    obtain ⟨dx3,ho3⟩:=hs3.ob
    have hsasc:=inv.ses.asc
    have hsm:∀ n,n∈ks↔n∈s.sessions.map fun y=>y.number:=fun n=>by
     rw [g3,List.mem_map]
    refine ⟨_,rfl,x.st,_,dx3,_,_,rfl,ho3,T.Z1,T.Z5,Z6,x.ses,kvs,ks.map (fun q:Nat=>(q:Int)),rfl,Rd.of t1,by rw [g1,List.map_map];rfl,fun ns4 p4 pp4 ps4 hp4=>?_⟩
    rw [sorted_places pp4 ps4 g2 hsasc hsm]
    have s4:=same_new (o:=.lst (ivs (s.sessions.map fun y=>y.number))) hp4
    have hsl:s.sessions.length≤8:=by
     have:=asc_len_le (n:=8) hsasc fun r hr=>by
      obtain ⟨y,hy,ey⟩:=List.mem_map.mp hr
      rw [← ey];exact (inv.ses.ok y hy).num
     simpa using this
    have hD4:=s4 _ _ hD3
    refine ⟨p4,rfl,⟨_,SqL.of upd_same⟩,fun D2 hD2=>lc_filter (K:=K) (f:=fun y:Session=>iv y.number) (xs:=s.sessions) (c:=fun y=>y.anchors.any fun q=>s.store.has q&&Vastoj.reaches s.store q z.toNat) (y:=fun y=>iv y.number) (i:=6) (by
      refine SqL.of ?_
      rw [upd_same]
      show some (HO.lst ((s.sessions.map fun x=>x.number).map iv))=_
      rw [List.map_map];rfl) hD2 (by omega) (fun H5 y Q' hy s5 kk=>?_) (fun H5 y Q' hy _ s5 kk=>⟨_,rfl,kk _ (Same.refl _)⟩) (fun v=>rfl) (fun H5 s5 hD5=>?_)⟩
    ·have s35:Same H3 H5:=s4.trans s5
     have hs5:=hs3.same s35
     have hye:=hs5.each y hy
     obtain ⟨⟨dy,oo,ii,y1,y2,y3⟩,hh⟩:=id hye
     refine ⟨_,rfl,x.st,_,dx3,_,_,rfl,s35 _ _ ho3,T.Z1,T.Z5,Z6,_,rfl,x.ses,V.ref (x.A y.number),rfl,.inl ⟨kvs,ky y.number,.inl (s35 _ _ t1),rfl,?_⟩,x.A y.number,dy,_,rfl,y1,Z4m,_,rfl,x.A y.number,x.hd y.number,e1,y,_,rfl,hye,(inv.ses.ok y hy).hlt,ins_len inv.st inv.ses hy,hset.same ((s2.trans s3).trans s35),fun H6 b s6 hbt=>⟨_,rfl,?_⟩⟩
     ·rw [t2.get]
      unfold sesF
      rw [if_pos (List.mem_map.mpr ⟨y,hy,rfl⟩)]
     ·have eb:b=y.anchors.any fun q=>s.store.has q&&Vastoj.reaches s.store q z.toNat:=by
       rw [Bool.eq_iff_iff,hbt,List.any_eq_true]
       constructor
       ·rintro ⟨q,hq,hr⟩
        refine ⟨q,hq,?_⟩
        rw [Bool.and_eq_true,reaches_iff inv.st]
        refine ⟨has_iff.mpr ?_,hr⟩
        cases hr with
        | refl=>exact has_iff.mp hv
        | step h1 h2 =>
         by_cases hpv:q∈s.store.valid
         ·exact hpv
         ·exfalso
          have:∀ {u v:Nat},Reach s.store u v→u∉s.store.valid→v=u:=by
           intro u v huv hu
           induction huv with
           | refl=>rfl
           | step _ hx ih=>rw [ih,refs_none hu] at hx;cases hx
          have h3:=this h1 hpv
          rw [h3,refs_none hpv] at h2;cases h2
       ·rintro ⟨q,hq,hr⟩
        rw [Bool.and_eq_true,reaches_iff inv.st] at hr
        exact ⟨q,hq,hr.2⟩
      rw [eb]
      exact kk _ s6
    ·have hSS:(s.sessions.filter fun y=>y.anchors.any fun q=>s.store.has q&&Vastoj.reaches s.store q z.toNat).map (fun y=>iv y.number)=ivs ((s.sessions.filter fun y=>y.anchors.any fun q=>s.store.has q&&Vastoj.reaches s.store q z.toNat).map fun y=>y.number):=by
      show _=((s.sessions.filter fun y=>y.anchors.any fun q=>s.store.has q&&Vastoj.reaches s.store q z.toNat).map fun y=>y.number).map iv
      rw [List.map_map];rfl
     rw [hSS] at hD5
     generalize hKS:((s.sessions.filter fun y=>y.anchors.any fun q=>s.store.has q&&Vastoj.reaches s.store q z.toNat).map fun y=>y.number)=KS at hD5
     have hKSl:KS.length≤8:=by
      rw [← hKS,List.length_map]
      exact Nat.le_trans (List.length_filter_le _ _) hsl
     have hDR:=s5 _ _ hD4
     have s05:Same H H5:=s23.trans (s4.trans s5)
     refine ⟨_,rfl,D,_,rfl,.inl (SqL.of hDR),by show 2≤sizeLine;decide,fun p6 hp6=>?_⟩
     have s6:=same_new (o:=.lst [V.int 0,V.int ((ivs RS).length:Nat)]) hp6
     refine ⟨_,rfl,p6,D,_,ivs RS,rfl,rfl,upd_same,s6 _ _ hDR,line_small (by rw [ivs_len];simp;omega),fun p7 hp7=>?_⟩
     have s7:=same_new (o:=.lst ([V.int 0,V.int ((ivs RS).length:Nat)]++ivs RS)) hp7
     refine ⟨_,rfl,p7,D2,_,ivs KS,rfl,rfl,upd_same,s7 _ _ (s6 _ _ hD5),line_small (by rw [List.length_append,ivs_len,ivs_len];simp;omega),fun p8 hp8=>?_⟩
     refine k.mk hs (((s05.trans s6).trans s7).trans (same_new hp8)) ?_
     rw [upd_same,enc_done]
     unfold Vastoj.why
     dsimp only
     rw [hRS,hKS,ivs_len]
     simp
end
end Go
end
section
set_option maxHeartbeats 2000000
namespace Go
open PySem PySem.Spec PyProof.Rows L2 LX VL
open Vastoj (Store Node knot closure isTop State Session Building Call step below refused done isPlace inOrder)
theorem line_sm {n:Nat} (h:n≤1000):n≤sizeLine:=Nat.le_of_lt (line_of_le (by omega))
theorem canLay_ints:∀ ns:List Int,PyData.canLayAll0 (ns.map PyData.int)=true
 | []=>rfl
 | n::r=>by rw [List.map_cons,PyData.canLayAll0,canLay_ints r];rfl
theorem depth_ints:∀ ns:List Int,PyData.depthAll (ns.map PyData.int)≤1
 | []=>by simp [PyData.depthAll]
 | n::r=>by
  have:=depth_ints r
  rw [List.map_cons,PyData.depthAll]
  simp [PyData.depth];omega
theorem shaped_ints (ns:List Int):SeqAt.shaped (.list (ns.map PyData.int))=true:=by
 unfold SeqAt.shaped
 have h1:=canLay_ints ns
 have h2:=depth_ints ns
 simp [PyData.canLay0,PyData.depth,h1];omega
theorem dp_ints {K:PySem.W.Frag}{H:Hp}:∀ ns:List Int,DpAll K H (ns.map V.int) (ns.map PyData.int)
 | []=>.nil
 | n::r=>.cons (.int n) (dp_ints r)
theorem eqv_empty (ns:List Int):PyData.eqv (.list (ns.map PyData.int)) (.list [])=ns.isEmpty:=by
 cases ns <;> rfl
theorem all_place (ns:List Int):(ns.all fun z=>decide (0≤z)&&decide (z≤127))=ns.all isPlace:=by
 congr 1
 funext z
 exact to128 z
theorem flat_ivs (l:List Nat):(ivs l).all flatV=true:=by
 rw [List.all_map];simp [flatV]
theorem Zb5 (z:Int) (l:List Nat):inV (.int z) (ivs l)=l.any fun q=>decide ((q:Int)=z):=by
 unfold inV
 rw [List.any_map]
 congr 1
theorem sorted_set_places {ns' l ns:List Int} (p:ns'.Perm l) (q:ns'.Pairwise (·≤·)) (nd:l.Nodup) (hm:∀ z,z∈l↔z∈ns) (h0:∀ z∈ns,0≤z):ns'.map V.int=ivs (inOrder (ns.map Int.toNat)):=by
 have e:l=(l.map Int.toNat).map fun x:Nat=>(x:Int):=by
  rw [List.map_map]
  conv=>lhs;rw [← List.map_id l]
  refine List.map_congr_left fun z hz=>?_
  have:=h0 z ((hm z).mp hz)
  simp only [Function.comp,id]
  omega
 rw [e] at p
 refine sorted_places p q ?_ (asc_inOrder _) fun x=>?_
 ·refine List.Pairwise.map _ (fun a b h=>h) (List.Pairwise.imp_of_mem (fun {x y} hx hy hn=>?_) nd)
  have h1:=h0 x ((hm x).mp hx)
  have h2:=h0 y ((hm y).mp hy)
  omega
 ·rw [mem_inOrder,List.mem_map,List.mem_map]
  exact ⟨fun ⟨z,h1,h2⟩=>⟨z,(hm z).mp h1,h2⟩,fun ⟨z,h1,h2⟩=>⟨z,(hm z).mpr h1,h2⟩⟩
def lockedB (s:State) (z:Int):Bool:=s.sessions.any fun y=>(outsOf y).any fun q=>decide ((q:Int)=z)
section
variable {P:Program}{w:World}{K:PySem.W.Frag}{mg:Str→Option Value}{base:Heap}{a:Ad}
def spLocked (a:Ad):Sp:=fun vs H Q _=>∃ (x:StAd) (s:State) (z:Int),vs=[.ref x.st,.int z]∧StAt a H x s∧StInv s∧∀ H',Same H H'→Q (.bl (lockedB s z)) H'
theorem Z9D (T:Txt K mg a):Pr P w K mg base 1 a.Z5l ["state","place"] (spLocked a):=by
 refine pr_of' T.Za0 Z4S fun cdv A outer s H vs Q E hr h=>?_
 obtain ⟨x,s,z,rfl,hs,inv,k⟩:=h
 refine ⟨_,(pss_one (ps_ret (pe_callB (cr_any rfl) (by rfl) T.b_any (by decide +kernel) (pa_cons (pe_lock (pe_lc (own:=[("session",2)]) rfl Z4S.nd (pi_values (pe_fld (pv 0) rfl)) (blkOk_by rfl) (fun _ _ _ _ _=>pn 2 Z4S.nd) (fun _ _ _ _ _=>pts_nil) (fun _ _ _ _ _=>(pe_cmpR (op_in_seqK (K:=K) rfl) (pv 1) (pe_fldK (K:=K) (pv 2) rfl rfl) (by with_unfolding_all rfl))))) pa_nil)))),?_⟩
 obtain ⟨dx,ho⟩:=hs.ob
 obtain ⟨kvs,s1,s2⟩:=hs.ses
 obtain ⟨ks,g1,g2,g3,g4,g5,g6⟩:=se_keys inv.ses s2
 have nso:x.st≠x.ses:=ne_dk ho s1
 refine ⟨x.ses,.dK kvs,s1,trivial,fun od=>?_⟩
 have fl:Fx [x.ses] H (upd H x.ses (.frz od (.dK kvs))):=Fx.put s1 (by intro xs z;cases z) (by simp)
 have hex:∀ k∈ks,∃ y∈s.sessions,y.number=k:=fun k hk=>(g3 k).mp hk
 refine ⟨_,rfl,x.st,_,dx,_,_,rfl,fl.at_ ho (by simpa using nso),T.Z1,T.Z5,Z6,x.ses,od,kvs,rfl,upd_same,fun D hD=>lc_mapV (l:=ks) (y:=fun k=>.bl (s.sessions.any fun y=>y.number==k&&(outsOf y).any fun q=>decide ((q:Int)=z))) s2 g4 upd_same hD (by omega) (fun H2 k Q' hk s3 kk=>?_) (fun v=>rfl) (fun H2 s3 hD2=>?_)⟩
 ·obtain ⟨y,hy,rfl⟩:=hex k hk
  obtain ⟨⟨dy,oo,ii,y1,y2,y3⟩,⟨kvh,y4,y5⟩⟩:=id (hs.each y hy)
  have nA:x.A y.number∉[x.ses]:=by simp;exact ne_dk y1 s1
  rw [g6 _ hk]
  refine ⟨_,rfl,_,rfl,x.A y.number,_,dy,_,_,rfl,s3 _ _ (fl.at_ y1 nA),T.Z7,T.Zq,ZU,oo,ivs (outsOf y),rfl,.inl (SqL.of (s3 _ _ (fl.lst y2))),rfl,flat_ivs _,?_⟩
  have e:(if false=true then !inV (V.int z) (ivs (outsOf y)) else inV (V.int z) (ivs (outsOf y)))=s.sessions.any fun w=>w.number==y.number&&(outsOf w).any fun q=>decide ((q:Int)=z):=by
   rw [if_neg Bool.false_ne_true,Zb5,Bool.eq_iff_iff,List.any_eq_true,List.any_eq_true]
   constructor
   ·intro h
    refine ⟨y,hy,?_⟩
    rw [Bool.and_eq_true]
    exact ⟨by simp,List.any_eq_true.mpr h⟩
   ·rintro ⟨w,hw,e⟩
    rw [Bool.and_eq_true] at e
    have:w=y:=ses_unique inv.ses.asc hw hy (by simpa using e.1)
    rw [← this]
    exact List.any_eq_true.mp e.2
  rw [e]
  exact kk _ (Same.refl _)
 ·refine ⟨lock_d s3,?_⟩
  have hDz:D≠x.ses:=fun q=>by rw [q,upd_same] at hD;cases hD
  refine ⟨D,ks.map fun k=>s.sessions.any fun y=>y.number==k&&(outsOf y).any fun q=>decide ((q:Int)=z),rfl,SqL.of (by rw [upd_ne hDz,hD2,List.map_map];rfl),?_⟩
  have e:(ks.map fun k=>s.sessions.any fun y=>y.number==k&&(outsOf y).any fun q=>decide ((q:Int)=z)).any id=lockedB s z:=by
   unfold lockedB
   rw [List.any_map,Bool.eq_iff_iff,List.any_eq_true,List.any_eq_true]
   constructor
   ·rintro ⟨k,hk,e⟩
    obtain ⟨y,hy,e2⟩:=List.any_eq_true.mp e
    rw [Bool.and_eq_true] at e2
    exact ⟨y,hy,e2.2⟩
   ·rintro ⟨y,hy,e⟩
    exact ⟨y.number,(g3 _).mpr ⟨y,hy,rfl⟩,List.any_eq_true.mpr ⟨y,hy,by rw [Bool.and_eq_true];exact ⟨by simp,e⟩⟩⟩
  rw [e]
  exact k _ (same_unlock s3 s1)
def spBeginRef (K:PySem.W.Frag) (a:Ad):Sp:=fun vs H Q _=>∃ (x:StAd) (s:State) (z:Int) (ol il:Addr) (outs ins:List Int),vs=[.ref x.st,.int z,.ref ol,.ref il]∧StAt a H x s∧StInv s∧H ol=some (.lst (outs.map V.int))∧H il=some (.lst (ins.map V.int))∧outs.length≤17000∧ins.length≤17000 ∧
 ∀ H',Same H H'→Q (.int (Vastoj.begin_ s z outs ins).2.value) H'
theorem any_valid {s:Store}{ns:List Int} (h:ns.all isPlace=true):(ns.any fun z=>decide (0≤z)&&s.has z.toNat)=(inOrder (ns.map Int.toNat)).any s.has:=by
 rw [Bool.eq_iff_iff,List.any_eq_true,List.any_eq_true]
 constructor
 ·rintro ⟨z,hz,e⟩
  rw [Bool.and_eq_true] at e
  exact ⟨z.toNat,mem_inOrder.mpr (List.mem_map.mpr ⟨z,hz,rfl⟩),e.2⟩
 ·rintro ⟨q,hq,e⟩
  obtain ⟨z,hz,rfl⟩:=List.mem_map.mp (mem_inOrder.mp hq)
  have:=(below_iff.mp (List.all_eq_true.mp h z hz)).1
  exact ⟨z,hz,by simp [this,e]⟩
theorem all_valid {s:Store}{ns:List Int} (h:ns.all isPlace=true):(ns.all fun z=>decide (0≤z)&&s.has z.toNat)=(inOrder (ns.map Int.toNat)).all s.has:=by
 rw [Bool.eq_iff_iff,List.all_eq_true,List.all_eq_true]
 constructor
 ·intro g q hq
  obtain ⟨z,hz,rfl⟩:=List.mem_map.mp (mem_inOrder.mp hq)
  have:=g z hz
  rw [Bool.and_eq_true] at this
  exact this.2
 ·intro g z hz
  have h0:=(below_iff.mp (List.all_eq_true.mp h z hz)).1
  have:=g z.toNat (mem_inOrder.mpr (List.mem_map.mpr ⟨z,hz,rfl⟩))
  simp [h0,this]
theorem any_locked {s:State}{ns:List Int} (h:ns.all isPlace=true):(ns.any fun z=>lockedB s z)=s.sessions.any fun y=>match y.building with
  | some b=>b.outs.any fun p=>(inOrder (ns.map Int.toNat)).contains p
  | none=>false:=by
 rw [Bool.eq_iff_iff,List.any_eq_true,List.any_eq_true]
 constructor
 ·rintro ⟨z,hz,e⟩
  obtain ⟨y,hy,e2⟩:=List.any_eq_true.mp e
  obtain ⟨q,hq,e3⟩:=List.any_eq_true.mp e2
  have e3':(q:Int)=z:=of_decide_eq_true e3
  refine ⟨y,hy,?_⟩
  unfold outsOf at hq
  cases hb:y.building with
  | none=>rw [hb] at hq;cases hq
  | some b =>
   rw [hb] at hq
   refine List.any_eq_true.mpr ⟨q,hq,?_⟩
   rw [List.contains_iff_mem,mem_inOrder,List.mem_map]
   exact ⟨z,hz,by omega⟩
 ·rintro ⟨y,hy,e⟩
  cases hb:y.building with
  | none=>rw [hb] at e;cases e
  | some b =>
   rw [hb] at e
   obtain ⟨q,hq,e2⟩:=List.any_eq_true.mp e
   rw [List.contains_iff_mem,mem_inOrder,List.mem_map] at e2
   obtain ⟨z,hz,ez⟩:=e2
   have h0:=(below_iff.mp (List.all_eq_true.mp h z hz)).1
   refine ⟨z,hz,List.any_eq_true.mpr ⟨y,hy,List.any_eq_true.mpr ⟨q,?_,decide_eq_true (by omega)⟩⟩⟩
   unfold outsOf;rw [hb];exact hq
theorem begin_err {s:State}{z n:Int}{outs ins:List Int} (h:(!below 8 z || !outs.all isPlace || !ins.all isPlace || outs.isEmpty)=false) (ho:s.opened z=.error n):Vastoj.begin_ s z outs ins=(s,refused n):=by
 unfold Vastoj.begin_;dsimp only;rw [if_neg (by rw [h];exact Bool.false_ne_true),ho]
theorem begin_open {s:State}{z:Int}{outs ins:List Int}{y:Session} (h:(!below 8 z || !outs.all isPlace || !ins.all isPlace || outs.isEmpty)=false) (ho:s.opened z=.ok y):Vastoj.begin_ s z outs ins =
  if y.building.isSome=true then (s,refused Vastoj.BUSY) else if (inOrder (outs.map Int.toNat)).any s.store.has=true then (s,refused Vastoj.THERE) else if (s.sessions.any fun y=>match y.building with
    | some b=>b.outs.any fun p=>(inOrder (outs.map Int.toNat)).contains p
    | none=>false)=true then (s,refused Vastoj.LOCKED)
   else if (!(inOrder (ins.map Int.toNat)).all s.store.has)=true then (s,refused Vastoj.ABSENT)
   else ((s.set {y with building:=some {outs:=inOrder (outs.map Int.toNat),ins:=inOrder (ins.map Int.toNat)}}).shade (inOrder (ins.map Int.toNat)),done):=by
 unfold Vastoj.begin_;dsimp only;rw [if_neg (by rw [h];exact Bool.false_ne_true),ho];rfl
theorem Z7I (T:Txt K mg a):Pr P w K mg base 3 a.Z3j ["state","k","outs","ins"] (spBeginRef K a):=by
 refine pr_of' T.Z7U Zz fun cdv A outer s H vs Q E hr h=>?_
 obtain ⟨x,s,z,ol,il,outs,ins,rfl,hs,inv,hol,hil,hl1,hl2,k⟩:=h
 refine ⟨_,(pss_cons (ps_if ((pw_or (pt_not (pt_val (pc_f (Z1H T) (hr.mono (by decide)) T.Z22 (pa_cons (pv 1) pa_nil)))) (pw_or (pt_not (pt_val (pc_f (Z6a T) (hr.mono (by decide)) T.Z6O (pa_cons (pv 2) pa_nil)))) (pw_or (pt_not (pt_val (pc_f (Z6a T) (hr.mono (by decide)) T.Z6O (pa_cons (pv 3) pa_nil)))) (pw_or1 (pt_cmpR (op_eqD hr.units) (pv 2) (pe_lst pa_nil) (nomark _)))))).pt) (pss_one (ps_ret (pk T.Z1b))) pss_nil)
   (pss_cons (ps_if (pt_cmp (pc_dnotin (hu_of hr) (pv 1) (pe_fld (pv 0) rfl))) (pss_one (ps_ret (pk T.Z33))) pss_nil)
   (pss_cons (ps_if (pt_val (pe_fld (pe_dget (hu_of hr) (pe_fld (pv 0) rfl) (pv 1) (fun _ _=>rfl)) rfl)) (pss_one (ps_ret (pk T.Z9l))) pss_nil)
   (pss_cons (ps_if (pt_val (pe_callB (cr_any rfl) (by rfl) T.b_any (by decide +kernel) (pa_cons (pe_lc (own:=[("place",4)]) rfl Zz.nd (pi_list (pv 2)) (blkOk_by rfl) (fun _ _ _ _ _=>pn 4 Zz.nd) (fun _ _ _ _ _=>pts_nil) (fun _ _ _ _ _=>(pc_m (pv 0) T.Z1 T.ZJ (ZK T) (hr.mono (by decide)) (pa_cons (pv 4) pa_nil)))) pa_nil))) (pss_one (ps_ret (pk T.ZaP))) pss_nil)
   (pss_cons (ps_if (pt_val (pe_callB (cr_any rfl) (by rfl) T.b_any (by decide +kernel) (pa_cons (pe_lc (own:=[("place",4)]) rfl Zz.nd (pi_list (pv 2)) (blkOk_by rfl) (fun _ _ _ _ _=>pn 4 Zz.nd) (fun _ _ _ _ _=>pts_nil) (fun _ _ _ _ _=>(pc_f (Z9D T) (hr.mono (by decide)) T.Z9U (pa_cons (pv 0) (pa_cons (pv 4) pa_nil))))) pa_nil))) (pss_one (ps_ret (pk T.ZaD))) pss_nil)
   (pss_cons (ps_if (pt_not (pt_val (pe_callB (cr_all rfl) (by rfl) T.b_all (by decide +kernel) (pa_cons (pe_lc (own:=[("place",4)]) rfl Zz.nd (pi_list (pv 3)) (blkOk_by rfl) (fun _ _ _ _ _=>pn 4 Zz.nd) (fun _ _ _ _ _=>pts_nil) (fun _ _ _ _ _=>(pc_m (pv 0) T.Z1 T.ZJ (ZK T) (hr.mono (by decide)) (pa_cons (pv 4) pa_nil)))) pa_nil)))) (pss_one (ps_ret (pk T.Z33))) pss_nil)
   (pss_one (ps_ret (pk T.ZC))))))))),?_⟩
 have range:(!below 8 z || !outs.all isPlace || !ins.all isPlace || outs.isEmpty)=true→Vastoj.begin_ s z outs ins=(s,refused Vastoj.RANGE):=fun h=>by
  unfold Vastoj.begin_;dsimp only;rw [if_pos h]
 refine ⟨_,rfl,z,rfl,_,rfl,?_⟩
 dsimp only
 rw [to8]
 cases hb:below 8 z with
 | false =>
  have:=k H (Same.refl _)
  rw [range (by rw [hb];rfl)] at this
  exact iteT (iteT this)
 | true =>
 refine iteF ⟨_,rfl,ol,outs,rfl,SqL.of hol,by omega,fun H1 s1=>⟨_,rfl,?_⟩⟩
 dsimp only
 rw [all_place]
 cases ho1:outs.all isPlace with
 | false =>
  have:=k H1 s1
  rw [range (by rw [hb,ho1];rfl)] at this
  exact iteT (iteT this)
 | true =>
 refine iteF ⟨_,rfl,il,ins,rfl,SqL.of (s1 _ _ hil),by omega,fun H2 s2=>⟨_,rfl,?_⟩⟩
 dsimp only
 rw [all_place]
 cases hi1:ins.all isPlace with
 | false =>
  have:=k H2 (s1.trans s2)
  rw [range (by rw [hb,ho1,hi1];rfl)] at this
  exact iteT (iteT this)
 | true =>
 refine iteF ?_
 have s02:=s1.trans s2
 refine ⟨_,rfl,Nat.zero_le _,fun e1 he1=>?_⟩
 have s3:=s02.trans (same_new (o:=.lst []) he1)
 refine ⟨.list (outs.map PyData.int),.list [],.lst (SqL.of (s3 _ _ hol)) (dp_ints outs),.lst (SqL.of upd_same) .nil,shaped_ints outs,shaped_ints [],_,rfl,?_⟩
 rw [eqv_empty]
 cases hem:outs.isEmpty with
 | true =>
  have:=k _ s3
  rw [range (by rw [hb,ho1,hi1,hem];rfl)] at this
  exact iteT this
 | false =>
 refine iteF ?_
 have hguard:(!below 8 z || !outs.all isPlace || !ins.all isPlace || outs.isEmpty)=false:=by rw [hb,ho1,hi1,hem];rfl
 generalize (upd H2 e1 (.lst []))=H3 at s3
 have hs3:=hs.same s3
 obtain ⟨dx,ho⟩:=hs3.ob
 obtain ⟨kvs,t1,t2⟩:=hs3.ses
 have hz:=below_iff.mp hb
 refine ⟨_,rfl,_,rfl,x.st,_,dx,_,_,rfl,ho,T.Z1,T.Z5,Z6,x.ses,_,rfl,.inl ⟨kvs,.inl z,.inl t1,rfl,rfl⟩,_,rfl,?_⟩
 rw [ses_get s x.A t2 hz.1]
 cases hse:s.session z.toNat with
 | none =>
  have:=k _ s3
  rw [begin_err hguard (opened_none hb hse)] at this
  exact iteT this
 | some y =>
 refine iteF ?_
 have rest:=begin_open hguard (opened_some hb hse)
 obtain ⟨hy,hnum⟩:=session_some hse
 obtain ⟨⟨dy,oo,ii,y1,y2,y3⟩,⟨kvh,y4,y5⟩⟩:=id (hs3.each y hy)
 refine ⟨_,rfl,x.st,_,dx,_,_,rfl,ho,T.Z1,T.Z5,Z6,_,rfl,x.ses,V.ref (x.A y.number),rfl,.inl ⟨kvs,.inl z,.inl t1,rfl,by rw [ses_get s x.A t2 hz.1,hse,hnum];rfl⟩,x.A y.number,_,dy,_,_,rfl,y1,T.Z7,T.ZM,Z3r,_,rfl,?_⟩
 cases hbu:y.building.isSome with
 | true =>
  have:=k _ s3
  rw [rest,if_pos hbu] at this
  exact iteT this
 | false =>
 refine iteF ?_
 rw [if_neg (by rw [hbu];exact Bool.false_ne_true)] at rest
 refine ⟨_,rfl,ol,rfl,⟨_,SqL.of (s3 _ _ hol)⟩,fun D hD=>lc_map' (f:=V.int) (y:=fun v=>.bl (decide (0≤v)&&s.store.has v.toNat)) (SqL.of (s3 _ _ hol)) hD (by omega) (fun H4 v Q' _ s4 kk=>?_) (fun v=>rfl) (fun H4 s4 hD4=>?_)⟩
 ·obtain ⟨dx4,ho4⟩:=(hs3.same s4).ob
  exact ⟨_,rfl,x.st,dx4,_,rfl,ho4,ZI,_,rfl,x,s,v,rfl,hs3.same s4,kk _ (Same.refl _)⟩
 refine ⟨D,outs.map fun v=>decide (0≤v)&&s.store.has v.toNat,rfl,SqL.of (by rw [hD4,List.map_map];rfl),_,rfl,?_⟩
 rw [List.any_map,show (id∘fun v:Int=>decide (0≤v)&&s.store.has v.toNat)=fun v=>decide (0≤v)&&s.store.has v.toNat from rfl,any_valid ho1]
 have s04:=s3.trans s4
 have hs4:=hs3.same s4
 cases hth:(inOrder (outs.map Int.toNat)).any s.store.has with
 | true =>
  have:=k _ s04
  rw [rest,if_pos hth] at this
  exact iteT this
 | false =>
 refine iteF ?_
 rw [if_neg (by rw [hth];exact Bool.false_ne_true)] at rest
 refine ⟨_,rfl,ol,rfl,⟨_,SqL.of (s04 _ _ hol)⟩,fun D2 hD2=>lc_map' (f:=V.int) (y:=fun v=>.bl (lockedB s v)) (SqL.of (s04 _ _ hol)) hD2 (by omega) (fun H5 v Q' _ s5 kk=>?_) (fun v=>rfl) (fun H5 s5 hD5=>?_)⟩
 ·exact ⟨_,rfl,_,rfl,x,s,v,rfl,hs4.same s5,inv,fun H6 s6=>kk _ s6⟩
 refine ⟨D2,outs.map fun v=>lockedB s v,rfl,SqL.of (by rw [hD5,List.map_map];rfl),_,rfl,?_⟩
 rw [List.any_map,show (id∘fun v:Int=>lockedB s v)=fun v=>lockedB s v from rfl,any_locked ho1]
 have s05:=s04.trans s5
 have hs5:=hs4.same s5
 cases hlo:(s.sessions.any fun y=>match y.building with
  | some b=>b.outs.any fun p=>(inOrder (outs.map Int.toNat)).contains p
  | none=>false) with
 | true =>
  have:=k _ s05
  rw [rest,if_pos hlo] at this
  exact iteT this
 | false =>
 refine iteF ?_
 rw [if_neg (by rw [hlo];exact Bool.false_ne_true)] at rest
 refine ⟨_,rfl,il,rfl,⟨_,SqL.of (s05 _ _ hil)⟩,fun D3 hD3=>lc_map' (f:=V.int) (y:=fun v=>.bl (decide (0≤v)&&s.store.has v.toNat)) (SqL.of (s05 _ _ hil)) hD3 (by omega) (fun H6 v Q' _ s6 kk=>?_) (fun v=>rfl) (fun H6 s6 hD6=>?_)⟩
 ·obtain ⟨dx6,ho6⟩:=(hs5.same s6).ob
  exact ⟨_,rfl,x.st,dx6,_,rfl,ho6,ZI,_,rfl,x,s,v,rfl,hs5.same s6,kk _ (Same.refl _)⟩
 refine ⟨D3,ins.map fun v=>decide (0≤v)&&s.store.has v.toNat,rfl,SqL.of (by rw [hD6,List.map_map];rfl),_,rfl,?_⟩
 dsimp only
 rw [List.all_map,show (id∘fun v:Int=>decide (0≤v)&&s.store.has v.toNat)=fun v=>decide (0≤v)&&s.store.has v.toNat from rfl,all_valid hi1]
 have s06:=s05.trans s6
 have:=k _ s06
 cases hab:(inOrder (ins.map Int.toNat)).all s.store.has with
 | false =>
  rw [rest,if_pos (by rw [hab];rfl)] at this
  exact iteT this
 | true =>
  rw [rest,if_neg (by rw [hab];exact Bool.false_ne_true)] at this
  exact iteF this
def spBegin (a:Ad):Sp:=fun vs H Q _=>∃ (x:StAd) (s:State) (z:Int) (ol il:Addr) (outs ins:List Int),vs=[.ref x.st,.int z,.ref ol,.ref il]∧StAt a H x s∧StInv s∧H ol=some (.lst (outs.map V.int))∧H il=some (.lst (ins.map V.int))∧outs.length≤200∧ins.length≤200 ∧
 Post a H x (step s (.begin_ z outs ins)).1 fun H'=>Q (.int (step s (.begin_ z outs ins)).2.value) H'
theorem begin_cases (s:State) (z:Int) (outs ins:List Int):(∃ n,n≠0∧Vastoj.begin_ s z outs ins=(s,refused n))∨∃ y,below 8 z=true∧outs.all isPlace=true∧ins.all isPlace=true∧s.session z.toNat=some y∧y.building=none∧(inOrder (ins.map Int.toNat)).all s.store.has=true ∧
  Vastoj.begin_ s z outs ins=((s.set {y with building:=some {outs:=inOrder (outs.map Int.toNat),ins:=inOrder (ins.map Int.toNat)}}).shade (inOrder (ins.map Int.toNat)),done):=by
 unfold Vastoj.begin_
 dsimp only
 split
 ·exact .inl ⟨_,by decide,rfl⟩
 ·rename_i h1
  simp only [Bool.or_eq_true,Bool.not_eq_true',not_or,Bool.not_eq_false] at h1
  cases ho:s.opened z with
  | error n =>
   refine .inl ⟨n,?_,rfl⟩
   unfold State.opened at ho
   rw [if_neg (by rw [h1.1.1.1];exact Bool.false_ne_true)] at ho
   cases hs:s.session z.toNat with
   | none=>rw [hs] at ho;cases ho;decide
   | some y=>rw [hs] at ho;cases ho
  | ok y =>
   dsimp only
   split
   ·exact .inl ⟨_,by decide,rfl⟩
   ·split
    ·exact .inl ⟨_,by decide,rfl⟩
    ·split
     ·exact .inl ⟨_,by decide,rfl⟩
     ·split
      ·exact .inl ⟨_,by decide,rfl⟩
      ·rename_i h2 h3 h4 h5
       refine .inr ⟨y,h1.1.1.1,h1.1.1.2,h1.1.2,(opened_ok ho).2,?_,?_,rfl⟩
       ·cases hb:y.building with
        | none=>rfl
        | some b=>rw [hb] at h2;exact absurd rfl h2
       ·simpa using h5
theorem Z7f (T:Txt K mg a):Pr P w K mg base 5 a.Z2W ["state","k","outs","ins"] (spBegin a):=by
 refine pr_of' T.Z7A Z2J fun cdv A outer s H vs Q E hr h=>?_
 obtain ⟨x,s,z,ol,il,outs,ins,rfl,hs,inv,hol,hil,hl1,hl2,k⟩:=h
 refine ⟨_,(pss_cons (pst 4 Z2J.nd (pc_f (Z7I T) (hr.mono (by decide)) T.Z82 (pa_cons (pv 0) (pa_cons (pv 1) (pa_cons (pv 2) (pa_cons (pv 3) pa_nil))))))
   (pss_cons (ps_if (pt_cmpR op_eq (pv 4) (pk T.ZC) (nomark _)) (pss_cons (pst 5 Z2J.nd (pe_dget (hu_of hr) (pe_fld (pv 0) rfl) (pv 1) (fun _ _=>rfl)))
   (pss_cons (ps_expr (pc_m (pv 5) T.Z7 T.Z4r (Z4n T) (hr.mono (by decide)) (pa_cons (pe_callB (cr_sortset rfl) (by rfl) T.Z28 (by decide +kernel) (pa_cons (pe_callTy (cr_set rfl) (by rfl) T.b_set (by decide +kernel) (pa_cons (pv 2) pa_nil)) pa_nil)) (pa_cons (pe_callB (cr_sortset rfl) (by rfl) T.Z28 (by decide +kernel) (pa_cons (pe_callTy (cr_set rfl) (by rfl) T.b_set (by decide +kernel) (pa_cons (pv 3) pa_nil)) pa_nil)) pa_nil))))
   (pss_one (ps_expr (pc_m (pv 0) T.Z1 T.Z2n (Z2l T) (hr.mono (by decide)) (pa_cons (pe_fld (pv 5) rfl) pa_nil)))))) pss_nil)
   (pss_one (ps_ret (pv 4))))),?_⟩
 have e:step s (.begin_ z outs ins)=Vastoj.begin_ s z outs ins:=rfl
 rw [e] at k
 refine ⟨_,rfl,_,rfl,_,rfl,_,rfl,x,s,z,ol,il,outs,ins,rfl,hs,inv,hol,hil,by omega,by omega,fun H1 s1=>?_⟩
 refine ⟨_,rfl,rfl,_,rfl,?_⟩
 rcases begin_cases s z outs ins with ⟨n,hn,e⟩ | ⟨y,hb,ho1,hi1,hse,hbu,hiv,e⟩
 ·rw [e] at k ⊢
  have:decide (V.int (s,refused n).2.value=V.int 0)=false:=decide_eq_false fun q=>hn (V.int.inj q)
  rw [this]
  exact iteF ⟨_,rfl,k.same hs s1⟩
 ·rw [e] at k ⊢
  refine iteT ?_
  have hz:=below_iff.mp hb
  have hs1:=hs.same s1
  obtain ⟨hy,hnum⟩:=session_some hse
  obtain ⟨dx,ho⟩:=hs1.ob
  obtain ⟨kvs,t1,t2⟩:=hs1.ses
  have hye:=hs1.each y hy
  obtain ⟨⟨dy,oo,ii,y1,y2,y3⟩,⟨kvh,y4,y5⟩⟩:=id hye
  have hop:∀ v∈outs,0≤v:=fun v hv=>(below_iff.mp (List.all_eq_true.mp ho1 v hv)).1
  have hip:∀ v∈ins,0≤v:=fun v hv=>(below_iff.mp (List.all_eq_true.mp hi1 v hv)).1
  refine ⟨_,rfl,x.st,_,dx,_,_,rfl,ho,T.Z1,T.Z5,Z6,_,rfl,x.ses,V.ref (x.A y.number),rfl,.inl ⟨kvs,.inl z,.inl t1,rfl,by rw [ses_get s x.A t2 hz.1,hse,hnum];rfl⟩,?_⟩
  refine ⟨_,rfl,x.A y.number,dy,_,rfl,y1,Z4q,_,rfl,ol,outs,rfl,SqL.of (s1 _ _ hol),by omega,fun p2 l2 hp2 hm2 hn2 hll2=>?_⟩
  have s2:=same_new (o:=SetO P w p2 l2) hp2
  refine ⟨p2,l2,rfl,upd_same,line_sm (by omega),fun ns3 p3 pp3 ps3 hp3=>?_⟩
  rw [sorted_set_places pp3 ps3 hn2 hm2 hop]
  have s3:=same_new (o:=.lst (ivs (inOrder (outs.map Int.toNat)))) hp3
  have s13:=s2.trans s3
  refine ⟨_,rfl,il,ins,rfl,SqL.of (s13 _ _ (s1 _ _ hil)),by omega,fun p4 l4 hp4 hm4 hn4 hll4=>?_⟩
  have s4:=same_new (o:=SetO P w p4 l4) hp4
  refine ⟨p4,l4,rfl,upd_same,line_sm (by omega),fun ns5 p5 pp5 ps5 hp5=>?_⟩
  rw [sorted_set_places pp5 ps5 hn4 hm4 hip]
  have s5:=same_new (o:=.lst (ivs (inOrder (ins.map Int.toNat)))) hp5
  have s15:=s13.trans (s4.trans s5)
  have ho5:=s5 _ _ (s4 _ _ (upd_same (H:=upd H1 p2 (SetO P w p2 l2)) (a:=p3) (o:=.lst (ivs (inOrder (outs.map Int.toNat))))))
  refine ⟨x.A y.number,x.hd y.number,p3,p5,y,rfl,hye.same s15,fun H6 f6 ⟨dy6,e6⟩=>?_⟩
  have hs5:=hs1.same s15
  have f6':Fx [x.A y.number,x.hd y.number] _ H6:=f6.mono (by simp)
  have hse6:SeAt a H6 (x.A y.number) (x.hd y.number) {y with building:=some {outs:=inOrder (outs.map Int.toNat),ins:=inOrder (ins.map Int.toNat)}} :=
   ⟨⟨dy6,p3,p5,e6,f6.lst ho5,f6.lst upd_same⟩,(hye.same s15).hd.fx f6 (by simp;exact (ne_dk y1 y4).symm)⟩
  have hs6:=hs5.se T inv (y':={y with building:=some {outs:=inOrder (outs.map Int.toNat),ins:=inOrder (ins.map Int.toNat)}}) hy rfl f6' hse6
  obtain ⟨dx6,hox6⟩:=hs6.ob
  have iv6:∀ q∈inOrder (ins.map Int.toNat),q∈s.store.valid:=fun q hq=>has_iff.mp (List.all_eq_true.mp hiv q hq)
  refine ⟨_,rfl,x.st,dx6,_,rfl,hox6,Z2m,_,rfl,x.A y.number,_,dy6,_,_,rfl,e6,T.Z7,T.Z12,Z3H,x,_,p5,inOrder (ins.map Int.toNat),rfl,hs6,inv.st,fun q hq=>inv.st.lt q (inv.mks.bval q hq),fun q hq=>inv.st.lt q (inv.mks.gval q hq),f6.lst upd_same,iv6,fun H7 f7 hs7=>?_⟩
  refine ⟨_,rfl,k H7 x rfl (((keep_same s1).trans (keep_same s15)).trans ((keep_fx f6' (hs5.own_se T hy)).trans (keep_fx f7 fun b hb=>hs6.own_tc T b (by simp at hb;rcases hb with h | h <;> simp [h])))) hs7⟩
def spBuildRef (a:Ad):Sp:=fun vs H Q _=>∃ (x:StAd) (s:State) (z:Int),vs=[.ref x.st,.int z]∧StAt a H x s∧Q (.int (match s.busy z with | .error n=>n | .ok _=>0)) H
theorem Z3s (T:Txt K mg a):Pr P w K mg base 2 a.Z1Z ["state","k"] (spBuildRef a):=by
 refine pr_of' T.Z6K Z6i fun cdv A outer s H vs Q E hr h=>?_
 obtain ⟨x,s,z,rfl,hs,k⟩:=h
 refine ⟨_,(pss_cons (ps_if (pt_not (pt_val (pc_f (Z1H T) (hr.mono (by decide)) T.Z22 (pa_cons (pv 1) pa_nil)))) (pss_one (ps_ret (pk T.Z1b))) pss_nil)
   (pss_cons (ps_if ((pw_or (pt_cmp (pc_dnotin (hu_of hr) (pv 1) (pe_fld (pv 0) rfl))) (pw_or1 (pt_not (pt_val (pe_fld (pe_dget (hu_of hr) (pe_fld (pv 0) rfl) (pv 1) (fun _ _=>rfl)) rfl))))).pt) (pss_one (ps_ret (pk T.Z33))) pss_nil)
   (pss_one (ps_ret (pk T.ZC))))),?_⟩
 obtain ⟨dx,ho⟩:=hs.ob
 obtain ⟨kvs,t1,t2⟩:=hs.ses
 refine ⟨_,rfl,z,rfl,_,rfl,?_⟩
 dsimp only
 rw [to8]
 cases hb:below 8 z with
 | false =>
  have e:s.busy z=.error Vastoj.RANGE:=by unfold State.busy;rw [opened_range hb];rfl
  rw [e] at k
  exact iteT k
 | true =>
  refine iteF ?_
  have hz:=below_iff.mp hb
  refine ⟨_,rfl,_,rfl,x.st,_,dx,_,_,rfl,ho,T.Z1,T.Z5,Z6,x.ses,_,rfl,.inl ⟨kvs,.inl z,.inl t1,rfl,rfl⟩,_,rfl,?_⟩
  rw [ses_get s x.A t2 hz.1]
  cases hse:s.session z.toNat with
  | none =>
   have e:s.busy z=.error Vastoj.ABSENT:=by unfold State.busy;rw [opened_none hb hse];rfl
   rw [e] at k
   exact iteT (iteT k)
  | some y =>
   refine iteF ?_
   obtain ⟨hy,hnum⟩:=session_some hse
   obtain ⟨⟨dy,oo,ii,y1,y2,y3⟩,⟨kvh,y4,y5⟩⟩:=id (hs.each y hy)
   refine ⟨_,rfl,x.st,_,dx,_,_,rfl,ho,T.Z1,T.Z5,Z6,_,rfl,x.ses,V.ref (x.A y.number),rfl,.inl ⟨kvs,.inl z,.inl t1,rfl,by rw [ses_get s x.A t2 hz.1,hse,hnum];rfl⟩,x.A y.number,_,dy,_,_,rfl,y1,T.Z7,T.ZM,Z3r,_,rfl,?_⟩
   dsimp only
   cases hbu:y.building with
   | none =>
    have e:s.busy z=.error Vastoj.ABSENT:=by unfold State.busy;rw [opened_some hb hse];show (match y.building with | some b=>_ | none=>_)=_;rw [hbu]
    rw [e] at k
    exact iteT k
   | some b =>
    have e:s.busy z=.ok (y,b):=by unfold State.busy;rw [opened_some hb hse];show (match y.building with | some b=>_ | none=>_)=_;rw [hbu]
    rw [e] at k
    exact iteF k
theorem busy_ne {s:State}{z n:Int} (h:s.busy z=.error n):n≠0:=by
 unfold State.busy State.opened at h
 split at h
 ·cases h;decide
 ·cases hs:s.session z.toNat with
  | none=>rw [hs] at h;cases h;decide
  | some y =>
   rw [hs] at h
   cases hb:y.building with
   | none =>
    have:(Except.error Vastoj.ABSENT:Except Int (Session×Building))=.error n:=by
     rw [← h];show _=(match y.building with | some b=>_ | none=>_);rw [hb]
    cases this;decide
   | some b =>
    have:(Except.ok (y,b):Except Int (Session×Building))=.error n:=by
     rw [← h];show _=(match y.building with | some b=>_ | none=>_);rw [hb]
    cases this
theorem Z7d (T:Txt K mg a):Pr P w K mg base 3 a.Z2X ["state","k"] (spC1 a Call.abort):=by
 refine pr_of' T.Z7Q Z4h fun cdv A outer s H vs Q E hr h=>?_
 obtain ⟨x,s,z,rfl,hs,inv,k⟩:=h
 refine ⟨_,(pss_cons (pst 2 Z4h.nd (pc_f (Z3s T) (hr.mono (by decide)) T.Z3T (pa_cons (pv 0) (pa_cons (pv 1) pa_nil))))
   (pss_cons (ps_if (pt_cmpR op_eq (pv 2) (pk T.ZC) (nomark _)) (pss_one (ps_expr (pc_m0 (pe_dget (hu_of hr) (pe_fld (pv 0) rfl) (pv 1) (fun _ _=>rfl)) T.Z7 T.Z2z (Z2r T) (hr.mono (by decide))))) pss_nil)
   (pss_one (ps_ret (pv 2))))),?_⟩
 refine ⟨_,rfl,_,rfl,x,s,z,rfl,hs,?_⟩
 refine ⟨_,rfl,rfl,_,rfl,?_⟩
 cases hbz:s.busy z with
 | error n =>
  have e:step s (.abort z)=(s,refused n):=by simp [Vastoj.step,hbz]
  rw [e] at k
  have:decide (V.int n=V.int 0)=false:=decide_eq_false fun q=>busy_ne hbz (V.int.inj q)
  dsimp only
  rw [this]
  exact iteF ⟨_,rfl,k.here hs⟩
 | ok yb =>
  obtain ⟨y,b⟩:=yb
  have e:step s (.abort z)=(s.set {y with building:=none},done):=by simp [Vastoj.step,hbz]
  rw [e] at k
  obtain ⟨hopn,hbu⟩:=busy_ok hbz
  obtain ⟨hz,hse⟩:=opened_ok hopn
  obtain ⟨hy,hnum⟩:=session_some hse
  obtain ⟨dx,ho⟩:=hs.ob
  obtain ⟨kvs,t1,t2⟩:=hs.ses
  have hye:=hs.each y hy
  obtain ⟨⟨dy,oo,ii,y1,y2,y3⟩,⟨kvh,y4,y5⟩⟩:=id hye
  refine iteT ?_
  refine ⟨_,rfl,x.st,_,dx,_,_,rfl,ho,T.Z1,T.Z5,Z6,_,rfl,x.ses,V.ref (x.A y.number),rfl,.inl ⟨kvs,.inl z,.inl t1,rfl,by rw [ses_get s x.A t2 hz.1,hse,hnum];rfl⟩,x.A y.number,dy,_,rfl,y1,Z2w,x.A y.number,x.hd y.number,y,rfl,hye,fun H1 f1 ⟨dy1,o1,i1,e1,e2,e3⟩=>?_⟩
  have f1':Fx [x.A y.number,x.hd y.number] H H1:=f1.mono (by simp)
  have hse1:SeAt a H1 (x.A y.number) (x.hd y.number) {y with building:=none}:=⟨⟨dy1,o1,i1,e1,e2,e3⟩,hye.hd.fx f1 (by simp;exact (ne_dk y1 y4).symm)⟩
  exact ⟨_,rfl,k H1 x rfl (keep_fx f1' (hs.own_se T hy)) (hs.se T inv (y':={y with building:=none}) hy rfl f1' hse1)⟩
end
end Go
end
section
set_option maxHeartbeats 2000000
namespace Go
open PySem PySem.Spec PyProof.Rows L2 LX VL
open Vastoj (Store Node knot closure isTop State Session Building Call step below refused done isPlace inOrder parted)
section
variable {P:Program}{w:World}{K:PySem.W.Frag}{mg:Str→Option Value}{base:Heap}{a:Ad}
def RowsL (H:Hp) (ra:List Addr) (rs:List (List Int)):Prop:=ra.length=rs.length∧∀ (i:Nat) (p:Addr) (r:List Int),ra[i]?=some p→rs[i]?=some r→H p=some (.lst (r.map V.int))
theorem RowsL.same {H H':Hp}{ra:List Addr}{rs:List (List Int)} (h:RowsL H ra rs) (s:Same H H'):RowsL H' ra rs:=⟨h.1,fun i p r e1 e2=>s _ _ (h.2 i p r e1 e2)⟩
def spRows:Sp:=fun vs H Q _=>∃ (rp:Addr) (refs:List Int) (n:Nat),vs=[.ref rp,.int (n:Nat)]∧H rp=some (.lst (refs.map V.int))∧n≤128 ∧
 (parted n refs=none→∀ H',Same H H'→Q .non H')∧∀ rs,parted n refs=some rs→∀ H' p ra,Same H H'→H p=none→H' p=some (.lst (ra.map V.ref))→RowsL H' ra rs→Q (.ref p) H'
theorem parted_step {n:Nat}{refs:List Int}{pos:Nat}{c:Int} (h:refs[pos]?=some c):parted (n+1) (refs.drop pos)=if c<0∨64<c∨((refs.drop (pos+1)).length:Int)<c then none else (parted n ((refs.drop (pos+1)).drop c.toNat)).map fun l=>(refs.drop (pos+1)).take c.toNat::l:=by
 have hl:=(List.getElem?_eq_some_iff.mp h).1
 have e:refs.drop pos=c::refs.drop (pos+1):=by
  rw [List.drop_eq_getElem_cons hl]
  congr 1
  exact (List.getElem?_eq_some_iff.mp h).2
 rw [e];rfl
theorem Z4d (T:Txt K mg a):Pr P w K mg base 2 a.Z32 ["refs","how_many"] (spRows):=by
 refine pr_of' T.Z7J ZY fun cdv A outer s H vs Q E hr h=>?_
 obtain ⟨rp,refs,n,rfl,hrp,hn,k1,k2⟩:=h
 refine ⟨_,(pss_cons (pst 2 ZY.nd (pe_lst pa_nil))
   (pss_cons (pst 3 ZY.nd pe_int)
   (pss_cons (ps_while PassesOwn.never (pt_cmpR op_lt (pe_callB call_len_seq (by rfl) T.b_len (by decide +kernel) (pa_cons (pv 2) pa_nil)) (pv 1) (nomark _)) (pss_cons (ps_if ((pw_or (pt_cmpR op_ge (pv 3) (pe_callB call_len_seq (by rfl) T.b_len (by decide +kernel) (pa_cons (pv 0) pa_nil)) (nomark _)) (pw_or1 (pt_not (pt_val (pc_f (Z5O T) (hr.mono (by decide)) T.Z5Z (pa_cons (pe_ix ix_list (pv 0) (pv 3) (fun _ _=>rfl)) pa_nil)))))).pt) (pss_one (ps_ret pe_non)) pss_nil)
   (pss_cons (pst 4 ZY.nd (pe_op op_add (pv 3) pe_int))
   (pss_cons (pst 3 ZY.nd (pe_op op_add (pv 4) (pe_ix ix_list (pv 0) (pv 3) (fun _ _=>rfl))))
   (pss_cons (ps_if (pt_cmpR op_gt (pv 3) (pe_callB call_len_seq (by rfl) T.b_len (by decide +kernel) (pa_cons (pv 0) pa_nil)) (nomark _)) (pss_one (ps_ret pe_non)) pss_nil)
   (pss_one (ps_expr (pe_bm PySem.F.plainAttrs_list PySem.F.slot_list_append PySem.F.type_list_append mt_append (pv 2) (pa_cons (pe_slice sl_list (pv 0) (po_some (pv 4)) (po_some (pv 3))) pa_nil)))))))))
   (pss_cons (ps_if (pt_cmpR op_lt (pv 3) (pe_callB call_len_seq (by rfl) T.b_len (by decide +kernel) (pa_cons (pv 0) pa_nil)) (nomark _)) (pss_one (ps_ret pe_non)) pss_nil)
   (pss_one (ps_ret (pv 2))))))),?_⟩
 refine ⟨Nat.zero_le _,fun rl hrl=>?_⟩
 have sl:=same_new (o:=.lst []) hrl
 refine ⟨fun m σ H'=>∃ (pos i:Nat) (v4:Option V) (ra:List Addr) (dn:List (List Int)),σ=[some (.ref rp),some (.int (n:Nat)),some (.ref rl),some (.int (pos:Nat)),v4]∧Same H H'∧H' rl=some (.lst (ra.map V.ref))∧RowsL H' ra dn∧(∀ p∈ra,p≠rl)∧ra.length=i∧i≤n∧pos≤refs.length∧m=n - i∧parted n refs=(parted (n - i) (refs.drop pos)).map fun l=>dn++l,
  ⟨n,0,0,none,[],[],rfl,sl,by rw [upd_same];rfl,⟨rfl,by simp⟩,by simp,rfl,Nat.zero_le _,Nat.zero_le _,rfl,by simp⟩,?_⟩
 rintro m σ H1 ⟨pos,i,v4,ra,dn,rfl,s1,hr1,hrw,hne,hri,hin,hpl,hm,hp⟩
 refine ⟨_,rfl,rl,_,rfl,.inl (SqL.of hr1),_,rfl,_,_,rfl,rfl,_,rfl,?_⟩
 rw [List.length_map,hri]
 have hrp1:=s1 _ _ hrp
 refine ite2 (fun h1=>?_) (fun h1=>?_)
 ·have hi:i<n:=by have:=of_decide_eq_true h1;omega
  obtain ⟨n',hn'⟩:∃ n',n - i=n'+1:=⟨n - i - 1,by omega⟩
  refine ⟨_,fun _ _ q=>q,?_⟩
  refine ⟨_,rfl,_,rfl,rp,_,rfl,.inl (SqL.of hrp1),_,_,rfl,rfl,_,rfl,?_⟩
  rw [List.length_map]
  by_cases hpos:pos<refs.length
  ·have e1:decide (((refs.length:Nat):Int)≤((pos:Nat):Int))=false:=decide_eq_false (by omega)
   rw [e1]
   obtain ⟨c,hc⟩:∃ c,refs[pos]?=some c:=⟨_,List.getElem?_eq_getElem hpos⟩
   have hst:=parted_step (n:=n') hc
   rw [hn',hst] at hp
   have hca:(refs.map V.int)[pos]?=some (.int c):=by rw [List.getElem?_map,hc];rfl
   refine iteF ⟨_,rfl,_,rfl,rp,_,((pos:Nat):Int),.int c,rfl,rfl,SqL.of hrp1,at_of (j:=pos) rfl hca,c,rfl,_,rfl,?_⟩
   dsimp only
   by_cases hcr:0≤c∧c≤64
   ·have e2:(decide (0≤c)&&decide (c≤64))=true:=by simp [hcr.1,hcr.2]
    rw [e2]
    refine iteF ?_
    refine ⟨_,rfl,_,_,rfl,rfl,?_⟩
    refine ⟨_,rfl,_,rfl,_,rfl,rp,_,((pos:Nat):Int),.int c,rfl,rfl,SqL.of hrp1,at_of (j:=pos) rfl hca,_,_,rfl,rfl,?_⟩
    refine ⟨_,rfl,_,rfl,rp,_,rfl,.inl (SqL.of hrp1),_,_,rfl,rfl,_,rfl,?_⟩
    rw [List.length_map]
    by_cases hov:(refs.length:Int)<(pos:Int)+1+c
    ·have e3:decide (((refs.length:Nat):Int)<((pos:Nat):Int)+1+c)=true:=decide_eq_true hov
     rw [e3]
     refine iteT ?_
     refine k1 ?_ H1 s1
     rw [hp,if_pos]
     ·rfl
     ·refine .inr (.inr ?_)
      rw [List.length_drop];omega
    ·have e3:decide (((refs.length:Nat):Int)<((pos:Nat):Int)+1+c)=false:=decide_eq_false hov
     rw [e3]
     refine iteF ?_
     obtain ⟨cn,rfl⟩:∃ cn:Nat,c=(cn:Int):=⟨c.toNat,by omega⟩
     have ecast:((pos:Nat):Int)+1+(cn:Int)=((pos+1+cn:Nat):Int):=by omega
     have ecast2:((pos:Nat):Int)+1=((pos+1:Nat):Int):=by omega
     refine ⟨_,rfl,.inl ⟨rfl,_,SqL.of hr1⟩,_,rfl,_,rfl,_,rfl,_,rfl,_,rfl,rp,_,rfl,SqL.of hrp1,fun p hp1=>?_⟩
     have hcut:cutV (refs.map V.int) (some (((pos:Nat):Int)+1)) (some (((pos:Nat):Int)+1+(cn:Int)))=((refs.drop (pos+1)).take cn).map V.int:=by
      rw [ecast,ecast2]
      exact cut_row (by omega)
     dsimp only
     rw [hcut]
     have s2:=same_new (o:=.lst (((refs.drop (pos+1)).take cn).map V.int)) hp1
     have hpr:p≠rl:=fun e=>by rw [e,hr1] at hp1;cases hp1
     refine ⟨rl,_,V.ref p,rfl,rfl,s2 _ _ hr1,by rw [List.length_map];exact line_of_le (by omega),?_⟩
     refine ⟨n',by omega,pos+1+cn,i+1,some (V.int (((pos:Nat):Int)+1)),ra++[p],dn++[(refs.drop (pos+1)).take cn],?_,same_upd (s1.trans s2) hrl,by rw [upd_same];simp,?_,?_,by rw [List.length_append];simp;omega,by omega,by omega,by omega,?_⟩
     ·show [some (V.ref rp),some (V.int (n:Nat)),some (V.ref rl),some (V.int (((pos:Nat):Int)+1+(cn:Int))),some (V.int (((pos:Nat):Int)+1))]=_
      rw [ecast]
     ·refine ⟨by rw [List.length_append,List.length_append,hrw.1];rfl,fun j q r e1 e2=>?_⟩
      by_cases hj:j<ra.length
      ·rw [List.getElem?_append_left hj] at e1
       rw [List.getElem?_append_left (by rw [← hrw.1];exact hj)] at e2
       rw [upd_ne (hne q (List.mem_of_getElem? e1))]
       exact s2 _ _ (hrw.2 j q r e1 e2)
      ·have hj2:j=ra.length:=by
        have:=(List.getElem?_eq_some_iff.mp e1).1
        rw [List.length_append] at this
        simp at this
        omega
       rw [hj2,List.getElem?_append_right (Nat.le_refl _)] at e1
       rw [hj2,hrw.1,List.getElem?_append_right (Nat.le_refl _)] at e2
       simp at e1 e2
       subst e1 e2
       rw [upd_ne hpr,upd_same]
     ·intro q hq
      rcases List.mem_append.mp hq with h | h
      ·exact hne q h
      ·rw [List.mem_singleton.mp h];exact hpr
     ·have e4:n - (i+1)=n':=by omega
      rw [hp,if_neg (by rw [List.length_drop];omega),e4,List.drop_drop,show (Int.toNat (cn:Int))=cn from Int.toNat_natCast cn]
      cases parted n' (refs.drop (pos+1+cn)) with
      | none=>rfl
      | some l=>simp
   ·have e2:(decide (0≤c)&&decide (c≤64))=false:=by
     rw [Bool.and_eq_false_iff]
     by_cases h2:0≤c
     ·exact .inr (by simp;omega)
     ·exact .inl (by simp;omega)
    rw [e2]
    refine iteT ?_
    refine k1 ?_ H1 s1
    rw [hp,if_pos (by omega)];rfl
  ·have e1:decide (((refs.length:Nat):Int)≤((pos:Nat):Int))=true:=decide_eq_true (by omega)
   rw [e1]
   refine iteT (iteT ?_)
   refine k1 ?_ H1 s1
   have:refs.drop pos=[]:=List.drop_eq_nil_of_le (by omega)
   rw [hp,hn',this];rfl
 ·have hi:i=n:=by
   have:¬ ((i:Nat):Int)<((n:Nat):Int):=fun q=>h1 (decide_eq_true q)
   omega
  have hni:n - i=0:=by omega
  rw [hni] at hp
  refine ⟨_,rfl,_,rfl,rp,_,rfl,.inl (SqL.of hrp1),_,_,rfl,rfl,_,rfl,?_⟩
  rw [List.length_map]
  refine ite2 (fun h2=>?_) (fun h2=>?_)
  ·have hpos:pos<refs.length:=by have:=of_decide_eq_true h2;omega
   refine k1 ?_ H1 s1
   rw [hp,List.drop_eq_getElem_cons hpos];rfl
  ·have hpos:pos=refs.length:=by
    have:¬ ((pos:Nat):Int)<((refs.length:Nat):Int):=fun q=>h2 (decide_eq_true q)
    omega
   have:refs.drop pos=[]:=List.drop_eq_nil_of_le (by omega)
   rw [this] at hp
   exact ⟨_,rfl,k2 dn (by rw [hp];show some (dn++[])=some dn;rw [List.append_nil]) H1 rl ra s1 hrl hr1 hrw⟩
def strayB (s:State) (b:Building) (rs:List (List Int)):Bool:=rs.any fun l=>l.any fun q=>decide (q<0) || !(closure s.store b.ins++b.outs).contains q.toNat
def spStray (a:Ad):Sp:=fun vs H Q _=>∃ (x:StAd) (s:State) (y:Session) (b:Building) (rl:Addr) (ra:List Addr) (rs:List (List Int)),vs=[.ref x.st,.ref (x.A y.number),.ref rl]∧StAt a H x s∧StInv s∧y∈s.sessions∧y.building=some b∧H rl=some (.lst (ra.map V.ref))∧RowsL H ra rs∧∀ H',Same H H'→Q (.bl (strayB s b rs)) H'
theorem Z9z (T:Txt K mg a):Pr P w K mg base 3 a.Z5r ["state","session","rows"] (spStray a):=by
 refine pr_of' T.Z9M Z2d fun cdv A outer s H vs Q E hr h=>?_
 obtain ⟨x,s,y,b,rl,ra,rs,rfl,hs,inv,hy,hbu,hrl,hrw,k⟩:=h
 refine ⟨_,(pss_cons (pst 3 Z2d.nd (pc_m (pe_fld (pv 0) rfl) T.Z3 T.Z2I (Z2K T) (hr.mono (by decide)) (pa_cons (pe_fld (pv 1) rfl) pa_nil)))
   (pss_cons (ps_for PassesOwn.never rfl (pi_list (pe_fld (pv 1) rfl)) (pn 4 Z2d.nd) (pss_one (ps_dput (hu_of hr) (pv 3) (pv 4) pe_bl rfl)))
   (pss_cons (ps_for PassesOwn.never rfl (pi_list (pv 2)) (pn 5 Z2d.nd) (pss_one (ps_for PassesOwn.never rfl (pi_list (pv 5)) (pn 6 Z2d.nd) (pss_one (ps_if (pt_cmp (pc_dnotin (hu_of hr) (pv 6) (pv 3))) (pss_one (ps_ret pe_bl)) pss_nil)))))
   (pss_one (ps_ret pe_bl))))),?_⟩
 obtain ⟨dx,ho⟩:=hs.ob
 obtain ⟨dt,hto⟩:=hs.th.ob
 obtain ⟨⟨dy,oo,ii,y1,y2,y3⟩,⟨kvh,y4,y5⟩⟩:=id (hs.each y hy)
 have eo:outsOf y=b.outs:=by unfold outsOf;rw [hbu];rfl
 have ei:insOf y=b.ins:=by unfold insOf;rw [hbu];rfl
 rw [eo] at y2
 rw [ei] at y3
 have hiv:=inv.ses.insV y hy b hbu
 refine ⟨_,rfl,x.st,_,dx,_,_,rfl,ho,T.Z1,T.Zj,Zk,x.t.th,dt,_,rfl,hto,Z2D,_,rfl,x.A y.number,_,dy,_,_,rfl,y1,T.Z7,T.Z12,Z3H,x.t,s.store,ii,b.ins,rfl,hs.th,inv.st,SqL.of y3,hiv,fun H1 al hal s1 ⟨kv1,a1,a2⟩=>?_⟩
 have hol:=(inv.ses.ok y hy).olt b hbu
 refine ⟨_,rfl,x.A y.number,_,dy,_,_,rfl,s1 _ _ y1,T.Z7,T.Zq,ZU,oo,rfl,⟨_,SqL.of (s1 _ _ y2)⟩,for_list (K:=K) (a:=oo) (xs:=ivs b.outs) (fun j σ H'=>∃ v4,σ=[some (.ref x.st),some (.ref (x.A y.number)),some (.ref rl),some (.ref al),v4,none,none]∧Same H H'∧SetAt H' al (fun q=>q∈closure s.store b.ins∨q∈b.outs.take j))
  ⟨none,rfl,s1,kv1,a1,a2.congr fun q=>by simp⟩ (fun j σ H' _ ⟨_,_,s,_⟩=>SqL.of (s _ _ y2)) ?_ ?_⟩
 ·rintro j v σ H2 hj ⟨v4,rfl,s2,kv,g1,g2⟩
  obtain ⟨q,hq,rfl⟩:=get_ivs hj
  have hkl:kv.length≤128:=g2.le (n:=128) fun u hu=>hu.elim (fun h=>inv.st.lt u (closure_valid inv.st hiv h)) fun h=>hol u (List.mem_of_mem_take h)
  refine ⟨_,rfl,_,rfl,al,_,rfl,DPut.k (k:=ky q) g1 (line_of_le (by omega)),_,rfl,same_upd s2 hal,_,upd_same,(g2.put q).congr fun u=>?_⟩
  rw [take_snoc' hq,List.mem_append,List.mem_singleton,or_assoc]
 ·rintro σ H2 ⟨v4,rfl,s2,kv,g1,g2⟩
  rw [ivs_len,List.take_length] at g2
  have hall:∀ q:Int,(!(valV kv (.inl q)).isSome)=(decide (q<0) || !(closure s.store b.ins++b.outs).contains q.toNat):=fun q=>by
   by_cases h0:0≤q
   ·have e1:decide (q<0)=false:=decide_eq_false (by omega)
    rw [e1,Bool.false_or]
    congr 1
    rw [z_toNat h0,Bool.eq_iff_iff,g2.has,List.contains_iff_mem,List.mem_append]
   ·have e1:decide (q<0)=true:=decide_eq_true (by omega)
    rw [e1,Bool.true_or,g2.not fun p e _=>h0 (by omega)];rfl
  have hrl2:=s2 _ _ hrl
  refine ⟨_,rfl,rl,rfl,⟨_,SqL.of hrl2⟩,for_list (K:=K) (a:=rl) (xs:=ra.map V.ref) (fun j σ H'=>∃ v5 v6,σ=[some (.ref x.st),some (.ref (x.A y.number)),some (.ref rl),some (.ref al),v4,v5,v6]∧H'=H2∧strayB s b (rs.take j)=false)
   ⟨none,none,rfl,rfl,rfl⟩ (fun j σ H' _ ⟨_,_,_,e,_⟩=>by rw [e];exact SqL.of hrl2) ?_ ?_⟩
  ·rintro j v σ H3 hj ⟨v5,v6,rfl,rfl,hst⟩
   rw [List.getElem?_map] at hj
   cases e:ra[j]? with
   | none=>rw [e] at hj;cases hj
   | some p =>
    rw [e] at hj
    obtain rfl:V.ref p=v:=Option.some.inj hj
    obtain ⟨r,hr0⟩:∃ r,rs[j]?=some r:=by
     have:=(List.getElem?_eq_some_iff.mp e).1
     exact ⟨_,List.getElem?_eq_getElem (by rw [← hrw.1];exact this)⟩
    have hrow:=s2 _ _ (hrw.2 j p r e hr0)
    refine ⟨_,rfl,p,rfl,⟨_,SqL.of hrow⟩,for_list (K:=K) (a:=p) (xs:=r.map V.int) (fun i σ H'=>∃ v6,σ=[some (.ref x.st),some (.ref (x.A y.number)),some (.ref rl),some (.ref al),v4,some (.ref p),v6]∧H'=H3∧((r.take i).any fun q=>decide (q<0) || !(closure s.store b.ins++b.outs).contains q.toNat)=false)
     ⟨v6,rfl,rfl,rfl⟩ (fun i σ H' _ ⟨_,_,e,_⟩=>by rw [e];exact SqL.of hrow) ?_ ?_⟩
    ·rintro i v σ H4 hi ⟨v6,rfl,rfl,hi2⟩
     rw [List.getElem?_map] at hi
     cases e5:r[i]? with
     | none=>rw [e5] at hi;cases hi
     | some q =>
      rw [e5] at hi
      obtain rfl:V.int q=v:=Option.some.inj hi
      refine ⟨_,rfl,_,rfl,al,_,rfl,.inl ⟨kv,.inl q,.inl g1,rfl,rfl⟩,_,rfl,?_⟩
      rw [hall]
      refine ite2 (fun h1=>?_) (fun h1=>?_)
      ·have e6:strayB s b rs=true:=List.any_eq_true.mpr ⟨r,List.mem_of_getElem? hr0,List.any_eq_true.mpr ⟨q,List.mem_of_getElem? e5,h1⟩⟩
       have:=k H4 s2
       rw [e6] at this
       exact this
      ·refine ⟨_,rfl,rfl,?_⟩
       rw [take_snoc' e5,List.any_append,hi2,List.any_cons,Bool.eq_false_iff.mpr h1];rfl
    ·rintro σ H4 ⟨v6,rfl,rfl,hi2⟩
     rw [List.length_map,List.take_length] at hi2
     refine ⟨_,_,rfl,rfl,?_⟩
     unfold strayB at hst ⊢
     rw [take_snoc' hr0,List.any_append,hst,List.any_cons,hi2];rfl
  ·rintro σ H3 ⟨v5,v6,rfl,rfl,hst⟩
   rw [List.length_map,hrw.1,List.take_length] at hst
   have:=k H3 s2
   rw [hst] at this
   exact this
end
end Go
end
section
set_option maxHeartbeats 2000000
namespace Go
open PySem PySem.Spec PyProof.Rows L2 LX VL
open Vastoj (Store Node knot closure isTop State Session Building Call step below refused done isPlace inOrder parted newNodes takeIn)
def finOut (s:State) (y:Session) (b:Building) (sizes:List Int) (rs:List (List Int)):State :=
 ((({s with store:=putAll (newNodes b.outs sizes rs) s.store}:State).set {y with holds:=takeIn b.outs y.holds,building:=none}).shade b.outs)
theorem fin_none {s:State}{z:Int}{y:Session}{b:Building}{sizes refs:List Int} (hb:s.busy z=.ok (y,b)) (h:sizes.length≠b.outs.length∨parted b.outs.length refs=none):Vastoj.finish s z sizes refs=(s,refused Vastoj.SHAPE):=by
 unfold Vastoj.finish
 rw [hb]
 dsimp only
 have:(if sizes.length=b.outs.length then parted b.outs.length refs else none)=none:=by
  rcases h with h | h
  ·rw [if_neg h]
  ·split <;> first | exact h | rfl
 rw [this]
theorem fin_some {s:State}{z:Int}{y:Session}{b:Building}{sizes refs:List Int}{rs:List (List Int)} (hb:s.busy z=.ok (y,b)) (hl:sizes.length=b.outs.length) (hp:parted b.outs.length refs=some rs):Vastoj.finish s z sizes refs =
  if (!sizes.all fun z=>decide (0≤z)&&decide (z≤9999))=true then (s,refused Vastoj.RANGE) else if strayB s b rs=true then (s,refused Vastoj.STRAY) else if s.room<s.store.load+(sizes.map Int.toNat).sum then (s,refused Vastoj.FULL) else (finOut s y b sizes rs,done):=by
 unfold Vastoj.finish
 rw [hb]
 dsimp only
 rw [if_pos hl,hp]
 rfl
theorem fin_err {s:State}{z n:Int}{sizes refs:List Int} (hb:s.busy z=.error n):Vastoj.finish s z sizes refs=(s,refused n):=by
 unfold Vastoj.finish
 rw [hb]
theorem sum_toNat:∀ {ns:List Int},(ns.all fun z=>decide (0≤z)&&decide (z≤9999))=true→ns.sum=(((ns.map Int.toNat).sum:Nat):Int)
 | [],_=>rfl
 | n::r,h=>by
  rw [List.all_cons,Bool.and_eq_true] at h
  have ih:=sum_toNat h.2
  have h1:0≤n:=by
   have:=h.1
   rw [Bool.and_eq_true] at this
   exact of_decide_eq_true this.1
  rw [List.sum_cons,List.map_cons,List.sum_cons,ih]
  omega
section
variable {P:Program}{w:World}{K:PySem.W.Frag}{mg:Str→Option Value}{base:Heap}{a:Ad}
def spFinRef (a:Ad):Sp:=fun vs H Q _=>∃ (x:StAd) (s:State) (z:Int) (sl rp:Addr) (sizes refs:List Int),vs=[.ref x.st,.int z,.ref sl,.ref rp]∧StAt a H x s∧StInv s∧H sl=some (.lst (sizes.map V.int))∧H rp=some (.lst (refs.map V.int))∧sizes.length≤17000 ∧
 ∀ H',Same H H'→Q (.int (Vastoj.finish s z sizes refs).2.value) H'
theorem Z7s (T:Txt K mg a):Pr P w K mg base 4 a.Z30 ["state","k","sizes","refs"] (spFinRef a):=by
 refine pr_of' T.Z7y Z1p fun cdv A outer s H vs Q E hr h=>?_
 obtain ⟨x,s,z,sl,rp,sizes,refs,rfl,hs,inv,hsl,hrp,hl,k⟩:=h
 refine ⟨_,(pss_cons (pst 4 Z1p.nd (pc_f (Z3s T) (hr.mono (by decide)) T.Z3T (pa_cons (pv 0) (pa_cons (pv 1) pa_nil))))
   (pss_cons (ps_if (pt_cmpR op_ne (pv 4) (pk T.ZC) (nomark _)) (pss_one (ps_ret (pv 4))) pss_nil)
   (pss_cons (pst 5 Z1p.nd (pe_dget (hu_of hr) (pe_fld (pv 0) rfl) (pv 1) (fun _ _=>rfl)))
   (pss_cons (pst 6 Z1p.nd (pc_f (Z4d T) (hr.mono (by decide)) T.Z4t (pa_cons (pv 3) (pa_cons (pe_callB call_len_seq (by rfl) T.b_len (by decide +kernel) (pa_cons (pe_fld (pv 5) rfl) pa_nil)) pa_nil))))
   (pss_cons (ps_if ((pw_or (pt_cmpR op_ne (pe_callB call_len_seq (by rfl) T.b_len (by decide +kernel) (pa_cons (pv 2) pa_nil)) (pe_callB call_len_seq (by rfl) T.b_len (by decide +kernel) (pa_cons (pe_fld (pv 5) rfl) pa_nil)) (nomark _)) (pw_or1 (pt_cmp (pc_isN (pv 6))))).pt) (pss_one (ps_ret (pk T.ZaU))) pss_nil)
   (pss_cons (ps_if (pt_not (pt_val (pc_f (Z9F T) (hr.mono (by decide)) T.Z9X (pa_cons (pv 2) pa_nil)))) (pss_one (ps_ret (pk T.Z1b))) pss_nil)
   (pss_cons (ps_if (pt_val (pc_f (Z9z T) (hr.mono (by decide)) T.Z9V (pa_cons (pv 0) (pa_cons (pv 5) (pa_cons (pv 6) pa_nil))))) (pss_one (ps_ret (pk T.ZaO))) pss_nil)
   (pss_cons (ps_if (pt_cmpR op_gt (pe_op op_add (pc_m0 (pe_fld (pv 0) rfl) T.Z3 T.Z3E (Z3G T) (hr.mono (by decide))) (pe_callB (cr_sum rfl) (by rfl) T.b_sum (by decide +kernel) (pa_cons (pv 2) pa_nil))) (pe_fld (pv 0) rfl) (nomark _)) (pss_one (ps_ret (pk T.Zak))) pss_nil)
   (pss_one (ps_ret (pk T.ZC))))))))))),?_⟩
 refine ⟨_,rfl,_,rfl,x,s,z,rfl,hs,?_⟩
 refine ⟨_,rfl,rfl,_,rfl,?_⟩
 cases hbz:s.busy z with
 | error n =>
  dsimp only
  have:(!decide (V.int n=V.int 0))=true:=by
   rw [decide_eq_false fun q=>busy_ne hbz (V.int.inj q)];rfl
  rw [this]
  have kk:=k H (Same.refl _)
  rw [fin_err hbz] at kk
  exact iteT ⟨_,rfl,kk⟩
 | ok yb =>
  obtain ⟨y,b⟩:=yb
  dsimp only
  refine iteF ?_
  obtain ⟨hopn,hbu⟩:=busy_ok hbz
  obtain ⟨hz,hse⟩:=opened_ok hopn
  obtain ⟨hy,hnum⟩:=session_some hse
  obtain ⟨dx,ho⟩:=hs.ob
  obtain ⟨dt,hto⟩:=hs.th.ob
  obtain ⟨kvs,t1,t2⟩:=hs.ses
  have hye:=hs.each y hy
  obtain ⟨⟨dy,oo,ii,y1,y2,y3⟩,⟨kvh,y4,y5⟩⟩:=id hye
  have eo:outsOf y=b.outs:=by unfold outsOf;rw [hbu];rfl
  rw [eo] at y2
  have hol:=outs_len inv.ses hy
  rw [eo] at hol
  refine ⟨_,rfl,x.st,_,dx,_,_,rfl,ho,T.Z1,T.Z5,Z6,_,rfl,x.ses,V.ref (x.A y.number),rfl,.inl ⟨kvs,.inl z,.inl t1,rfl,by rw [ses_get s x.A t2 hz.1,hse,hnum];rfl⟩,?_⟩
  have shape:∀ (H1:Hp) (v:V),Same H H1→(sizes.length≠b.outs.length∨parted b.outs.length refs=none)→(parted b.outs.length refs=none↔v=.non)→∀ t:TS,
    tIfS (tOr (tTest (tOp rNe (tCB (fun xs H Q=>∃ p ys,xs=[.ref p]∧(SqL K H p ys∨SqT K H p ys)∧Q (.int ys.length) H) (tCons (tVar 2) tNil)) (tCB (fun xs H Q=>∃ p ys,xs=[.ref p]∧(SqL K H p ys∨SqT K H p ys)∧Q (.int ys.length) H) (tCons (tFld K (tVar 5) "outs") tNil)))) (tB (tIsN (tVar 6)))) (tRet (tC (.int (-8)))) tNext {nx:=t {nx:=fun _ H'=>Q .non H',rt:=Q},rt:=Q} [some (.ref x.st),some (.int z),some (.ref sl),some (.ref rp),some (.int 0),some (.ref (x.A y.number)),some v] H1:=by
   intro H1 v s1 hc hv t
   have kk:=k H1 s1
   rw [fin_none hbz hc] at kk
   refine ⟨_,rfl,sl,_,rfl,.inl (SqL.of (s1 _ _ hsl)),_,rfl,x.A y.number,_,dy,_,_,rfl,s1 _ _ y1,T.Z7,T.Zq,ZU,oo,_,rfl,.inl (SqL.of (s1 _ _ y2)),rfl,_,rfl,?_⟩
   refine ite2 (fun h1=>iteT kk) (fun h1=>?_)
   have hlen:sizes.length=b.outs.length:=by
    refine Classical.byContradiction fun hn=>h1 ?_
    rw [List.length_map,ivs_len,decide_eq_false fun q=>hn (by have:=V.int.inj q;omega)];rfl
   have hnon:v=.non:=hv.mp (hc.resolve_left fun z=>z hlen)
   refine ⟨_,rfl,_,rfl,?_⟩
   rw [hnon]
   exact iteT kk
  have eo2:((ivs b.outs).length:Int)=((b.outs.length:Nat):Int):=by rw [ivs_len]
  refine ⟨_,rfl,_,rfl,x.A y.number,_,dy,_,_,rfl,y1,T.Z7,T.Zq,ZU,oo,_,rfl,.inl (SqL.of y2),rp,refs,b.outs.length,by rw [eo2],hrp,hol,fun hnone H1 s1=>?_,fun rs hrs H1 pr ra s1 hprn hpr hrw=>?_⟩
  ·exact shape H1 .non s1 (.inr hnone) ⟨fun _=>rfl,fun _=>hnone⟩ _
  ·by_cases hlen:sizes.length=b.outs.length
   ·refine ⟨_,rfl,sl,_,rfl,.inl (SqL.of (s1 _ _ hsl)),_,rfl,x.A y.number,_,dy,_,_,rfl,s1 _ _ y1,T.Z7,T.Zq,ZU,oo,_,rfl,.inl (SqL.of (s1 _ _ y2)),rfl,_,rfl,?_⟩
    have e1:(!decide (V.int (((sizes.map V.int).length:Nat):Int)=V.int (((ivs b.outs).length:Nat):Int)))=false:=by
     rw [List.length_map,ivs_len,hlen,decide_eq_true rfl];rfl
    rw [e1]
    refine iteF ⟨_,rfl,_,rfl,?_⟩
    have e2:decide (V.ref pr=V.non)=false:=decide_eq_false (by intro q;cases q)
    rw [e2]
    refine iteF ?_
    have fs:=fin_some hbz hlen hrs
    refine ⟨_,rfl,sl,sizes,rfl,SqL.of (s1 _ _ hsl),by omega,fun H2 s2=>⟨_,rfl,?_⟩⟩
    have s02:=s1.trans s2
    dsimp only
    cases hsz:sizes.all fun z=>decide (0≤z)&&decide (z≤9999) with
    | false =>
     have kk:=k H2 s02
     rw [fs,if_pos (by rw [hsz];rfl)] at kk
     exact iteT kk
    | true =>
    refine iteF ?_
    rw [if_neg (by rw [hsz];exact Bool.false_ne_true)] at fs
    refine ⟨_,rfl,_,rfl,_,rfl,x,s,y,b,pr,ra,rs,rfl,hs.same s02,inv,hy,hbu,s2 _ _ hpr,hrw.same s2,fun H3 s3=>⟨_,rfl,?_⟩⟩
    have s03:=s02.trans s3
    cases hst:strayB s b rs with
    | true =>
     have kk:=k H3 s03
     rw [fs,if_pos hst] at kk
     exact iteT kk
    | false =>
    refine iteF ?_
    rw [if_neg (by rw [hst];exact Bool.false_ne_true)] at fs
    refine ⟨_,rfl,x.st,_,dx,_,_,rfl,s03 _ _ ho,T.Z1,T.Zj,Zk,x.t.th,dt,_,rfl,s03 _ _ hto,Z3I,x.t,s.store,rfl,(hs.same s03).th,inv.st,fun H4 s4=>?_⟩
    have s04:=s03.trans s4
    refine ⟨_,rfl,sl,sizes,rfl,SqL.of (s04 _ _ hsl),_,_,rfl,rfl,_,rfl,x.st,_,dx,_,_,rfl,s04 _ _ ho,T.Z1,T.Z3Y,Z9i,_,_,rfl,rfl,_,rfl,?_⟩
    have kk:=k H4 s04
    rw [sum_toNat hsz]
    refine ite2 (fun h1=>?_) (fun h1=>?_)
    ·have h2:s.room<s.store.load+(sizes.map Int.toNat).sum:=by have:=of_decide_eq_true h1;omega
     rw [fs,if_pos h2] at kk
     exact kk
    ·have h2:¬ s.room<s.store.load+(sizes.map Int.toNat).sum:=fun q=>h1 (decide_eq_true (by omega))
     rw [fs,if_neg h2] at kk
     exact kk
   ·exact shape H1 _ s1 (.inl hlen) ⟨fun q=>(by rw [hrs] at q;cases q),fun q=>(by cases q)⟩ _
theorem exists_ar:∀ {outs:List Nat}{as:List Addr},outs.Nodup→as.length=outs.length→∃ AR:Nat→Addr,as=outs.map AR
 | [],[],_,_=>⟨fun _=>0,rfl⟩
 | [],_::_,_,h=>by simp at h
 | _::_,[],_,h=>by simp at h
 | o::outs,p::as,hn,h=>by
  obtain ⟨n1,n2⟩:=List.nodup_cons.mp hn
  obtain ⟨AR,e⟩:=exists_ar n2 (by simpa using h)
  refine ⟨fun q=>if q=o then p else AR q,?_⟩
  rw [List.map_cons,if_pos rfl,e]
  congr 1
  refine List.map_congr_left fun q hq=>?_
  have hqo:q≠o:=fun z=>n1 (by rw [← z];exact hq)
  rw [if_neg hqo]
def spEnterOuts (a:Ad):Sp:=fun vs H Q _=>∃ (x:StAd) (s:State) (y:Session) (b:Building) (sl rp:Addr) (sizes refs:List Int) (rs:List (List Int)),vs=[.ref x.st,.ref (x.A y.number),.ref sl,.ref rp]∧StAt a H x s∧StInv s∧y∈s.sessions∧y.building=some b∧H sl=some (.lst (sizes.map V.int))∧H rp=some (.lst (refs.map V.int))∧refs.length≤2000 ∧
 sizes.length=b.outs.length∧parted b.outs.length refs=some rs∧(sizes.all fun z=>decide (0≤z)&&decide (z≤9999))=true∧strayB s b rs=false∧Post a H x (finOut s y b sizes rs) (Q .non)
theorem parted_row_len:∀ {n:Nat}{l:List Int}{rs:List (List Int)},parted n l=some rs→∀ r∈rs,r.length≤l.length
 | 0,[],rs,h=>by cases h;simp
 | 0,_::_,rs,h=>by cases h
 | n+1,[],rs,h=>by cases h
 | n+1,c::l,rs,h=>by
  unfold parted at h
  split at h
  ·cases h
  ·obtain ⟨l',h1,h2⟩:=Option.map_eq_some_iff.mp h
   subst h2
   intro r hr
   rcases List.mem_cons.mp hr with e | e
   ·rw [e,List.length_take,List.length_cons];omega
   ·have:=parted_row_len h1 r e
    rw [List.length_drop] at this
    rw [List.length_cons];omega
theorem Z98 (T:Txt K mg a):Pr P w K mg base 5 a.Z4P ["state","session","sizes","refs"] (spEnterOuts a):=by
 refine pr_of' T.Z9x Z2U fun cdv A outer s H vs Q E hr h=>?_
 obtain ⟨x,s,y,b,sl,rp,sizes,refs,rs,rfl,hs,inv,hy,hbu,hsl,hrp,hrl,hlen,hprt,hsz,hst,k⟩:=h
 refine ⟨_,(pss_cons (pst 4 Z2U.nd (pe_fld (pv 1) rfl))
   (pss_cons (ps_setLc (i:=5) (own:=[("row",6)]) rfl Z2U.nd rfl rfl (by rfl) (pi_list (pc_f (Z4d T) (hr.mono (by decide)) T.Z4t (pa_cons (pv 3) (pa_cons (pe_callB call_len_seq (by rfl) T.b_len (by decide +kernel) (pa_cons (pv 4) pa_nil)) pa_nil)))) (blkOk_by rfl) (fun _ _ _ _ _=>pn 6 Z2U.nd) (fun _ _ _ _ _=>pts_nil) (fun _ _ _ _ _=>(pe_callB (cr_sortsetK (P:=P) (w:=w) rfl rfl rfl) (by rfl) T.Z28 (by decide +kernel) (pa_cons (pe_callTy (cr_setK (P:=P) (w:=w) (K:=K) rfl rfl rfl rfl) (by rfl) T.b_set (by decide +kernel) (pa_cons (pv 6) pa_nil)) pa_nil))))
   (pss_cons (ps_expr (pc_m (pe_fld (pv 0) rfl) T.Z3 T.Z6g (Z6u T) (hr.mono (by decide)) (pa_cons (pv 4) (pa_cons (pv 2) (pa_cons (pv 5) pa_nil)))))
   (pss_cons (ps_expr (pc_m0 (pv 1) T.Z7 T.Z2z (Z2r T) (hr.mono (by decide))))
   (pss_cons (ps_expr (pc_m (pv 1) T.Z7 T.Z3t (Z3n T) (hr.mono (by decide)) (pa_cons (pv 4) pa_nil)))
   (pss_one (ps_expr (pc_m (pv 0) T.Z1 T.Z2n (Z2l T) (hr.mono (by decide)) (pa_cons (pv 4) pa_nil))))))))),?_⟩
 have hye:=hs.each y hy
 obtain ⟨⟨dy,oo,ii,y1,y2,y3⟩,⟨kvh,y4,y5⟩⟩:=id hye
 have eo:outsOf y=b.outs:=by unfold outsOf;rw [hbu];rfl
 rw [eo] at y2
 have hol:=outs_len inv.ses hy
 rw [eo] at hol
 have hyo:=inv.ses.ok y hy
 have oasc:=hyo.oasc b hbu
 have olt:=hyo.olt b hbu
 have hrsl:rs.length=b.outs.length:=parted_len hprt
 have hz:∀ v∈sizes,0≤v∧v≤9999:=fun v hv=>by
  have:=List.all_eq_true.mp hsz v hv
  rw [Bool.and_eq_true] at this
  exact ⟨of_decide_eq_true this.1,of_decide_eq_true this.2⟩
 have hrr:∀ l∈rs,∀ q∈l,0≤q∧q.toNat∈closure s.store b.ins++b.outs:=fun l hl q hq=>by
  have h1:(decide (q<0) || !(closure s.store b.ins++b.outs).contains q.toNat)=false:=by
   cases e:(decide (q<0) || !(closure s.store b.ins++b.outs).contains q.toNat) with
   | false=>rfl
   | true =>
    have:strayB s b rs=true:=List.any_eq_true.mpr ⟨l,hl,List.any_eq_true.mpr ⟨q,hq,e⟩⟩
    rw [this] at hst;cases hst
  rw [Bool.or_eq_false_iff] at h1
  refine ⟨by have:=of_decide_eq_false h1.1;omega,?_⟩
  have:=h1.2
  rw [Bool.not_eq_false',List.contains_iff_mem] at this
  exact this
 have sok:=storeOk_putAll inv.st oasc olt (inv.ses.outsV y hy b hbu) (inv.ses.insV y hy b hbu) hlen hrsl hz hrr
 have hpl:=newNodes_places hlen hrsl
 refine ⟨_,rfl,x.A y.number,_,dy,_,_,rfl,y1,T.Z7,T.Zq,ZU,?_⟩
 have eo2:((ivs b.outs).length:Int)=((b.outs.length:Nat):Int):=by rw [ivs_len]
 refine ⟨_,rfl,_,rfl,oo,_,rfl,.inl (SqL.of y2),rp,refs,b.outs.length,by rw [eo2],hrp,hol,fun hnone=>(by rw [hprt] at hnone;cases hnone),fun rs' hrs' H1 pr ra s1 hprn hpr hrw=>?_⟩
 obtain rfl:rs=rs':=Option.some.inj (hprt.symm.trans hrs')
 refine ⟨pr,rfl,⟨_,SqL.of hpr⟩,fun D hD=>lc_list (K:=K) (a:=pr) (xs:=ra.map V.ref) (fun j H'=>Same H1 H'∧∃ as:List Addr,as.length=j∧H' D=some (.lst (as.map V.ref))∧∀ (i:Nat) (p:Addr) (r:List Int),as[i]?=some p→rs[i]?=some r→p≠D∧H' p=some (.lst (ivs (inOrder (r.map Int.toNat)))))
  ⟨same_new hD,[],rfl,by rw [upd_same];rfl,by simp⟩ (fun j H' _ h=>SqL.of (h.1 _ _ hpr)) (fun j v H2 hv ⟨s2,as,ha1,ha2,ha3⟩=>?_) (fun H2 ⟨s2,as,ha1,ha2,ha3⟩=>?_)⟩
 ·rw [List.getElem?_map] at hv
  cases e:ra[j]? with
  | none=>rw [e] at hv;cases hv
  | some p =>
   rw [e] at hv
   obtain rfl:V.ref p=v:=Option.some.inj hv
   have hjl:=(List.getElem?_eq_some_iff.mp e).1
   obtain ⟨r,hr0⟩:∃ r,rs[j]?=some r:=⟨_,List.getElem?_eq_getElem (by rw [← hrw.1];exact hjl)⟩
   have hrow:=s2 _ _ (hrw.2 j p r e hr0)
   have hrm:=List.mem_of_getElem? hr0
   have hrlen:=parted_row_len hprt r hrm
   refine ⟨rfl,?_⟩
   unfold tYes
   dsimp only
   rw [if_pos rfl]
   refine ⟨_,rfl,p,r,rfl,SqL.of hrow,by omega,fun p2 l2 hp2 hm2 hn2 hll2=>?_⟩
   have s3:=same_new (o:=SetO P w p2 l2) hp2
   refine ⟨p2,l2,rfl,upd_same,Nat.le_of_lt (line_of_le (by omega)),fun ns3 p3 pp3 ps3 hp3=>?_⟩
   rw [sorted_set_places pp3 ps3 hn2 hm2 fun v hv=>(hrr r hrm v hv).1]
   have s4:=same_new (o:=.lst (ivs (inOrder (r.map Int.toNat)))) hp3
   have s24:=s3.trans s4
   have hp3D:p3≠D:=fun q=>by
    rw [q,s3 _ _ ha2] at hp3;cases hp3
   refine ⟨_,s24 _ _ ha2,by rw [List.length_map,ha1];exact line_of_le (by rw [hrw.1,hrsl] at hjl;omega),same_upd (s2.trans s24) hD,as++[p3],by rw [List.length_append,ha1];rfl,by rw [upd_same];simp,fun i q r' e1 e2=>?_⟩
   by_cases hi:i<as.length
   ·rw [List.getElem?_append_left hi] at e1
    obtain ⟨b1,b2⟩:=ha3 i q r' e1 e2
    exact ⟨b1,by rw [upd_ne b1];exact s24 _ _ b2⟩
   ·have hi2:i=as.length:=by
     have:=(List.getElem?_eq_some_iff.mp e1).1
     rw [List.length_append] at this
     simp at this
     omega
    rw [hi2,List.getElem?_append_right (Nat.le_refl _)] at e1
    rw [hi2,ha1,hr0] at e2
    simp at e1 e2
    subst e1 e2
    exact ⟨hp3D,by rw [upd_ne hp3D,upd_same]⟩
 ·rw [List.length_map,hrw.1,hrsl] at ha1
  obtain ⟨AR,hAR⟩:=exists_ar oasc.nodup ha1
  have s12:=s1.trans s2
  have hs2:=hs.same s12
  obtain ⟨dx,ho⟩:=hs2.ob
  obtain ⟨dt,hto⟩:=hs2.th.ob
  have hnode:∀ (i:Nat) (o:Nat),b.outs[i]?=some o→∃ v r,sizes[i]?=some v∧rs[i]?=some r∧(⟨o,v.toNat,inOrder (r.map Int.toNat)⟩:Node)∈newNodes b.outs sizes rs:=fun i o hi=>by
   have hil:=(List.getElem?_eq_some_iff.mp hi).1
   obtain ⟨v,hv⟩:∃ v,sizes[i]?=some v:=⟨_,List.getElem?_eq_getElem (by rw [hlen];exact hil)⟩
   obtain ⟨r,hr0⟩:∃ r,rs[i]?=some r:=⟨_,List.getElem?_eq_getElem (by rw [hrsl];exact hil)⟩
   refine ⟨v,r,hv,hr0,?_⟩
   unfold newNodes
   refine List.mem_map.mpr ⟨(o,v,r),?_,rfl⟩
   refine List.mem_of_getElem? (i:=i) ?_
   rw [List.getElem?_zip_eq_some,List.getElem?_zip_eq_some]
   exact ⟨hi,hv,hr0⟩
  have hinS:∀ n∈newNodes b.outs sizes rs,n∈putAll (newNodes b.outs sizes rs) s.store:=fun n hn=>mem_putAll.mpr (.inl hn)
  have hsizes:sizes.map V.int=b.outs.map fun p=>V.int (sizeOf (putAll (newNodes b.outs sizes rs) s.store) p:Nat):=by
   apply List.ext_getElem?
   intro i
   rw [List.getElem?_map,List.getElem?_map]
   cases e:b.outs[i]? with
   | none =>
    have:sizes[i]?=none:=by
     rw [List.getElem?_eq_none_iff] at e ⊢;omega
    rw [this];rfl
   | some o =>
    obtain ⟨v,r,hv,hr0,hn⟩:=hnode i o e
    rw [hv]
    have:=size_node sok.asc (hinS _ hn)
    show some (V.int v)=some (V.int _)
    rw [this]
    have:=(hz v (List.mem_of_getElem? hv)).1
    show some (V.int v)=some (V.int ((v.toNat:Nat):Int))
    rw [Int.toNat_of_nonneg this]
  have hrows:∀ p∈b.outs,H2 (AR p)=some (.lst (ivs ((putAll (newNodes b.outs sizes rs) s.store).refs p))):=fun p hp=>by
   obtain ⟨i,hil,e⟩:=List.mem_iff_getElem.mp hp
   have hi:b.outs[i]?=some p:=by rw [List.getElem?_eq_getElem hil,e]
   obtain ⟨v,r,hv,hr0,hn⟩:=hnode i p hi
   have h1:=refs_node sok.asc (hinS _ hn)
   have h2:=ha3 i (AR p) r (by rw [hAR,List.getElem?_map,hi];rfl) hr0
   show _=some (HO.lst (ivs (Store.refs _ p)))
   rw [show Store.refs (putAll (newNodes b.outs sizes rs) s.store) p=inOrder (r.map Int.toNat) from h1]
   exact h2.2
  refine ⟨_,rfl,x.st,_,dx,_,_,rfl,ho,T.Z1,T.Zj,Zk,x.t.th,dt,_,rfl,hto,Z6v,_,rfl,_,rfl,_,rfl,x.t,s.store,newNodes b.outs sizes rs,b.outs,oo,sl,D,AR,rfl,hs2.th,inv.st,sok,hpl.symm,oasc,fun n hn=>inv.ses.outsV y hy b hbu _ (mem_newNodes hn).1,s12 _ _ y2,by rw [← hsizes];exact s12 _ _ hsl,by rw [ha2,hAR,List.map_map];rfl,hrows,fun H3 f3 ht3=>?_⟩
  have f3':Fx [x.c.co,x.c.bl,x.c.gr,x.t.siz,x.t.rf,x.t.kn,x.t.me] H2 H3:=f3.mono (by simp)
  have hc3:CoAt a H3 x.c s.phase s.black s.grey s.need s.won:=by
   have hx:=(apart_t hs2.apart).1
   have nT:=th_apart hs2.th hs2.co (ne_TC T) hs2.apart
   refine hs2.co.fx f3 fun d hd hm=>?_
   exact nT d (by simp at hm ⊢;exact .inr hm) hd
  have hs3:=hs2.tc T f3' ⟨rfl,.inl rfl⟩ ht3 hc3
  have hs3':StAt a H3 x {s with store:=putAll (newNodes b.outs sizes rs) s.store}:=hs3
  have hye3:=hs3'.each y hy
  obtain ⟨⟨dy3,oo3,ii3,z1,z2,z3⟩,⟨kvh3,z4,z5⟩⟩:=id hye3
  refine ⟨_,rfl,x.A y.number,dy3,_,rfl,z1,Z2w,x.A y.number,x.hd y.number,y,rfl,hye3,fun H4 f4 ⟨dy4,o4,i4,e41,e42,e43⟩=>?_⟩
  have hye4:SeAt a H4 (x.A y.number) (x.hd y.number) {y with building:=none}:=⟨⟨dy4,o4,i4,e41,e42,e43⟩,hye3.hd.fx f4 (by simp;exact (ne_dk z1 z4).symm)⟩
  have hoo4:H4 oo=some (.lst (ivs b.outs)):=f4.lst (f3.lst (s12 _ _ y2))
  refine ⟨_,rfl,x.A y.number,dy4,_,rfl,e41,Z3w,_,rfl,x.A y.number,x.hd y.number,_,oo,b.outs,rfl,hye4,hoo4,olt,hyo.hlt,fun H5 f5 hset=>?_⟩
  have f45:Fx [x.A y.number,x.hd y.number] H3 H5:=(f4.mono (by simp)).trans (f5.mono (by simp))
  have nAh:x.A y.number≠x.hd y.number:=ne_dk z1 z4
  have hye5:SeAt a H5 (x.A y.number) (x.hd y.number) {y with holds:=takeIn b.outs y.holds,building:=none}:=by
   refine ⟨⟨dy4,o4,i4,f5.at_ e41 (by simpa using nAh),f5.lst e42,f5.lst e43⟩,?_⟩
   obtain ⟨kv,g1,g2⟩:=hset
   exact ⟨kv,g1,g2.congr fun q=>by rw [mem_takeIn];exact Or.comm⟩
  have hs5:StAt a H5 x (({s with store:=putAll (newNodes b.outs sizes rs) s.store}:State).set {y with holds:=takeIn b.outs y.holds,building:=none}):=by
   have invD:StInv s:=inv
   exact hs3'.se' T hy rfl f45 hye5
  have hoo5:H5 oo=some (.lst (ivs b.outs)):=f5.lst hoo4
  obtain ⟨dx5,ho5⟩:=hs5.ob
  refine ⟨_,rfl,x.st,dx5,_,rfl,ho5,Z2m,_,rfl,x,_,oo,b.outs,rfl,hs5,sok,fun q hq=>inv.st.lt q (inv.mks.bval q hq),fun q hq=>inv.st.lt q (inv.mks.gval q hq),hoo5,fun q hq=>by
   show q∈(putAll (newNodes b.outs sizes rs) s.store).valid
   rw [valid_putAll,hpl];exact .inl hq,fun H6 f6 hs6=>?_⟩
  refine k H6 x rfl ?_ hs6
  exact (keep_same s12).trans ((keep_fx f3' (hs2.own_tc T)).trans ((keep_fx f45 (hs3'.own_se T hy)).trans (keep_fx f6 fun d hd=>hs5.own_tc T d (by simp at hd;rcases hd with h | h <;> simp [h]))))
def spFinish (a:Ad):Sp:=fun vs H Q _=>∃ (x:StAd) (s:State) (z:Int) (sl rp:Addr) (sizes refs:List Int),vs=[.ref x.st,.int z,.ref sl,.ref rp]∧StAt a H x s∧StInv s∧H sl=some (.lst (sizes.map V.int))∧H rp=some (.lst (refs.map V.int))∧sizes.length≤200∧refs.length≤2000 ∧
 Post a H x (step s (.finish z sizes refs)).1 fun H'=>Q (.int (step s (.finish z sizes refs)).2.value) H'
theorem fin_cases (s:State) (z:Int) (sizes refs:List Int):(∃ n,n≠0∧Vastoj.finish s z sizes refs=(s,refused n))∨∃ y b rs,s.busy z=.ok (y,b)∧sizes.length=b.outs.length∧parted b.outs.length refs=some rs∧(sizes.all fun z=>decide (0≤z)&&decide (z≤9999))=true∧strayB s b rs=false∧Vastoj.finish s z sizes refs=(finOut s y b sizes rs,done):=by
 cases hb:s.busy z with
 | error n=>exact .inl ⟨n,busy_ne hb,fin_err hb⟩
 | ok yb =>
  obtain ⟨y,b⟩:=yb
  by_cases hl:sizes.length=b.outs.length
  ·cases hp:parted b.outs.length refs with
   | none=>exact .inl ⟨_,by decide,fin_none hb (.inr hp)⟩
   | some rs =>
    have fs:=fin_some hb hl hp
    cases h1:(sizes.all fun z=>decide (0≤z)&&decide (z≤9999)) with
    | false=>rw [if_pos (by rw [h1];rfl)] at fs;exact .inl ⟨_,by decide,fs⟩
    | true =>
     rw [if_neg (by rw [h1];exact Bool.false_ne_true)] at fs
     cases h2:strayB s b rs with
     | true=>rw [if_pos h2] at fs;exact .inl ⟨_,by decide,fs⟩
     | false =>
      rw [if_neg (by rw [h2];exact Bool.false_ne_true)] at fs
      by_cases h3:s.room<s.store.load+(sizes.map Int.toNat).sum
      ·rw [if_pos h3] at fs;exact .inl ⟨_,by decide,fs⟩
      ·rw [if_neg h3] at fs
       exact .inr ⟨y,b,rs,rfl,hl,hp,by first | exact h1 | rfl,by first | exact h2 | rfl,fs⟩
  ·exact .inl ⟨_,by decide,fin_none hb (.inl hl)⟩
theorem Z6y (T:Txt K mg a):Pr P w K mg base 6 a.Z2G ["state","k","sizes","refs"] (spFinish a):=by
 refine pr_of' T.Z7m Z3R fun cdv A outer s H vs Q E hr h=>?_
 obtain ⟨x,s,z,sl,rp,sizes,refs,rfl,hs,inv,hsl,hrp,hl1,hl2,k⟩:=h
 refine ⟨_,(pss_cons (pst 4 Z3R.nd (pc_f (Z7s T) (hr.mono (by decide)) T.Z7E (pa_cons (pv 0) (pa_cons (pv 1) (pa_cons (pv 2) (pa_cons (pv 3) pa_nil))))))
   (pss_cons (ps_if (pt_cmpR op_eq (pv 4) (pk T.ZC) (nomark _)) (pss_one (ps_expr (pc_f (Z98 T) (hr.mono (by decide)) T.Z9E (pa_cons (pv 0) (pa_cons (pe_dget (hu_of hr) (pe_fld (pv 0) rfl) (pv 1) (fun _ _=>rfl)) (pa_cons (pv 2) (pa_cons (pv 3) pa_nil))))))) pss_nil)
   (pss_one (ps_ret (pv 4))))),?_⟩
 have e:step s (.finish z sizes refs)=Vastoj.finish s z sizes refs:=rfl
 rw [e] at k
 refine ⟨_,rfl,_,rfl,_,rfl,_,rfl,x,s,z,sl,rp,sizes,refs,rfl,hs,inv,hsl,hrp,by omega,fun H1 s1=>?_⟩
 refine ⟨_,rfl,rfl,_,rfl,?_⟩
 rcases fin_cases s z sizes refs with ⟨n,hn,e⟩ | ⟨y,b,rs,hb,hlen,hprt,hsz,hst,e⟩
 ·rw [e] at k ⊢
  have:decide (V.int (s,refused n).2.value=V.int 0)=false:=decide_eq_false fun q=>hn (V.int.inj q)
  rw [this]
  exact iteF ⟨_,rfl,k.same hs s1⟩
 ·rw [e] at k ⊢
  refine iteT ?_
  have hs1:=hs.same s1
  obtain ⟨hopn,hbu⟩:=busy_ok hb
  obtain ⟨hz,hse⟩:=opened_ok hopn
  obtain ⟨hy,hnum⟩:=session_some hse
  obtain ⟨dx,ho⟩:=hs1.ob
  obtain ⟨kvs,t1,t2⟩:=hs1.ses
  refine ⟨_,rfl,_,rfl,x.st,_,dx,_,_,rfl,ho,T.Z1,T.Z5,Z6,_,rfl,x.ses,V.ref (x.A y.number),rfl,.inl ⟨kvs,.inl z,.inl t1,rfl,by rw [ses_get s x.A t2 hz.1,hse,hnum];rfl⟩,_,rfl,_,rfl,x,s,y,b,sl,rp,sizes,refs,rs,rfl,hs1,inv,hy,hbu,s1 _ _ hsl,s1 _ _ hrp,hl2,hlen,hprt,hsz,hst,fun H2 x' ex kp hs2=>?_⟩
  exact ⟨_,rfl,k H2 x' ex ((keep_same s1).trans kp) hs2⟩
end
end Go
end
section
set_option maxHeartbeats 1000000
namespace Go
open Vastoj (State Call step)
def Parse (n:Nat) (l:List Int) (c:Call) (t:List Int):Prop:=match n with
 | 0=>∃ k,l=k::t∧c=.open_ k
 | 1=>∃ k,l=k::t∧c=.close k
 | 2=>∃ k p,l=k::p::t∧c=.hold k p
 | 3=>∃ k o i,l=k::(o.length:Int)::(o++(i.length:Int)::(i++t))∧o.length≤200∧i.length≤200∧c=.begin_ k o i
 | 4=>∃ k o i,l=k::(o.length:Int)::(o++(i.length:Int)::(i++t))∧o.length≤200∧i.length≤2000∧c=.finish k o i
 | 5=>∃ k,l=k::t∧c=.abort k
 | 6=>∃ r p,l=r::p::t∧c=.root r p
 | 7=>∃ r,l=r::t∧c=.unroot r
 | 8=>∃ k,l=k::t∧c=.collect k
 | 9=>∃ k,l=k::t∧c=.work k
 | 10=>l=t∧c=.cancel
 | 11=>∃ k,l=k::t∧c=.room k
 | 12=>l=t∧c=.valid
 | 13=>l=t∧c=.live
 | 14=>∃ k,l=k::t∧c=.why k
 | 15=>l=t∧c=.counts
 | _=>False
theorem row_some {l x t:List Int} (h:PyFlat.row l=some (x,t)):l=(x.length:Int)::(x++t):=by
 cases l with
 | nil=>cases h
 | cons n r =>
  have h':(if 0≤n∧n.toNat≤r.length then some (r.take n.toNat,r.drop n.toNat) else none)=some (x,t):=h
  by_cases hn:0≤n∧n.toNat≤r.length
  ·rw [if_pos hn] at h'
   cases h'
   rw [List.length_take,Nat.min_eq_left hn.2,List.take_append_drop,Int.toNat_of_nonneg hn.1]
  ·rw [if_neg hn] at h'
   cases h'
theorem rows_two {l t:List Int}{xs:List (List Int)} (h:PyFlat.rows 2 l=some (xs,t)):∃ o i,xs=[o,i]∧l=(o.length:Int)::(o++(i.length:Int)::(i++t)):=by
 unfold PyFlat.rows at h
 cases h1:PyFlat.row l with
 | none=>rw [h1] at h;cases h
 | some p =>
  obtain ⟨o,s⟩:=p
  rw [h1] at h
  dsimp only at h
  unfold PyFlat.rows at h
  cases h2:PyFlat.row s with
  | none=>rw [h2] at h;cases h
  | some q =>
   obtain ⟨i,t'⟩:=q
   rw [h2] at h
   dsimp only [PyFlat.rows] at h
   cases h
   exact ⟨o,i,rfl,by rw [row_some h1,row_some h2]⟩
theorem one_of {r:List Int} (h:¬ r.length<1):∃ k r',r=k::r':=by
 cases r with
 | nil=>simp at h
 | cons k r'=>exact ⟨k,r',rfl⟩
theorem two_of {r:List Int} (h:¬ r.length<2):∃ k p r',r=k::p::r':=by
 match r,h with
 | [],h=>simp at h
 | [_],h=>simp at h
 | k::p::r',_=>exact ⟨k,p,r',rfl⟩
theorem parse_of {p:Int}{r:List Int}{c:List (List Int)}{t:List Int} (h:PyFlat.call PyVastoj.shape (p::r)=some (c,t)) (ha:VastojNeutral.asked1 (PyVastoj.whole c)=true) :
  ∃ (n:Nat) (cl:Call),p=(n:Int)∧n<16∧VastojNeutral.callOf (PyVastoj.whole c)=some cl∧Parse n r cl t:=by
 unfold PyFlat.call at h
 dsimp only at h
 have hsh:∀ {a b:Nat},PyVastoj.shape p=some (a,b)→(if r.length<a then none else match PyFlat.rows b (r.drop a) with
   | none=>none
   | some (xs,t)=>some ((p::r.take a)::xs,t))=some (c,t):=fun e=>by rw [e] at h;exact h
 have zero:∀ {a:Nat},PyVastoj.shape p=some (a,0)→¬ r.length<a∧c=[p::r.take a]∧t=r.drop a:=fun {a} e=>by
  have:=hsh e
  split at this
  ·cases this
  ·rename_i hl
   dsimp only [PyFlat.rows] at this
   cases this
   exact ⟨hl,rfl,rfl⟩
 have two:∀ {a:Nat},PyVastoj.shape p=some (a,2)→¬ r.length<a∧∃ o i,c=[p::r.take a,o,i]∧r.drop a=(o.length:Int)::(o++(i.length:Int)::(i++t)):=fun {a} e=>by
  have:=hsh e
  split at this
  ·cases this
  ·rename_i hl
   cases h2:PyFlat.rows 2 (r.drop a) with
   | none=>rw [h2] at this;cases this
   | some q =>
    obtain ⟨xs,t'⟩:=q
    rw [h2] at this
    cases this
    obtain ⟨o,i,rfl,e2⟩:=rows_two h2
    exact ⟨hl,o,i,rfl,e2⟩
 by_cases p0:p=0
 ·subst p0
  obtain ⟨hl,rfl,rfl⟩:=zero (a:=1) rfl
  obtain ⟨k,r',rfl⟩:=one_of hl
  exact ⟨0,_,rfl,by decide,rfl,k,rfl,rfl⟩
 by_cases p1:p=1
 ·subst p1
  obtain ⟨hl,rfl,rfl⟩:=zero (a:=1) rfl
  obtain ⟨k,r',rfl⟩:=one_of hl
  exact ⟨1,_,rfl,by decide,rfl,k,rfl,rfl⟩
 by_cases p2:p=2
 ·subst p2
  obtain ⟨hl,rfl,rfl⟩:=zero (a:=2) rfl
  obtain ⟨k,q,r',rfl⟩:=two_of hl
  exact ⟨2,_,rfl,by decide,rfl,k,q,rfl,rfl⟩
 by_cases p3:p=3
 ·subst p3
  obtain ⟨hl,o,i,rfl,e⟩:=two (a:=1) rfl
  obtain ⟨k,r',rfl⟩:=one_of hl
  have h2:(VastojNeutral.whole60 k&&(((o.all (fun (z:Int)=>VastojNeutral.whole60 z))&&decide (o.length≤200))&&((i.all (fun (z:Int)=>VastojNeutral.whole60 z))&&decide (i.length≤200))))=true:=ha
  simp only [Bool.and_eq_true,decide_eq_true_eq] at h2
  exact ⟨3,_,rfl,by decide,rfl,k,o,i,by rw [← e];rfl,h2.2.1.2,h2.2.2.2,rfl⟩
 by_cases p4:p=4
 ·subst p4
  obtain ⟨hl,o,i,rfl,e⟩:=two (a:=1) rfl
  obtain ⟨k,r',rfl⟩:=one_of hl
  have h2:(VastojNeutral.whole60 k&&(((o.all (fun (z:Int)=>VastojNeutral.whole60 z))&&decide (o.length≤200))&&((i.all (fun (z:Int)=>VastojNeutral.whole60 z))&&decide (i.length≤2000))))=true:=ha
  simp only [Bool.and_eq_true,decide_eq_true_eq] at h2
  exact ⟨4,_,rfl,by decide,rfl,k,o,i,by rw [← e];rfl,h2.2.1.2,h2.2.2.2,rfl⟩
 by_cases p5:p=5
 ·subst p5
  obtain ⟨hl,rfl,rfl⟩:=zero (a:=1) rfl
  obtain ⟨k,r',rfl⟩:=one_of hl
  exact ⟨5,_,rfl,by decide,rfl,k,rfl,rfl⟩
 by_cases p6:p=6
 ·subst p6
  obtain ⟨hl,rfl,rfl⟩:=zero (a:=2) rfl
  obtain ⟨k,q,r',rfl⟩:=two_of hl
  exact ⟨6,_,rfl,by decide,rfl,k,q,rfl,rfl⟩
 by_cases p7:p=7
 ·subst p7
  obtain ⟨hl,rfl,rfl⟩:=zero (a:=1) rfl
  obtain ⟨k,r',rfl⟩:=one_of hl
  exact ⟨7,_,rfl,by decide,rfl,k,rfl,rfl⟩
 by_cases p8:p=8
 ·subst p8
  obtain ⟨hl,rfl,rfl⟩:=zero (a:=1) rfl
  obtain ⟨k,r',rfl⟩:=one_of hl
  exact ⟨8,_,rfl,by decide,rfl,k,rfl,rfl⟩
 by_cases p9:p=9
 ·subst p9
  obtain ⟨hl,rfl,rfl⟩:=zero (a:=1) rfl
  obtain ⟨k,r',rfl⟩:=one_of hl
  exact ⟨9,_,rfl,by decide,rfl,k,rfl,rfl⟩
 by_cases p10:p=10
 ·subst p10
  obtain ⟨hl,rfl,rfl⟩:=zero (a:=0) rfl
  exact ⟨10,_,rfl,by decide,rfl,rfl,rfl⟩
 by_cases p11:p=11
 ·subst p11
  obtain ⟨hl,rfl,rfl⟩:=zero (a:=1) rfl
  obtain ⟨k,r',rfl⟩:=one_of hl
  exact ⟨11,_,rfl,by decide,rfl,k,rfl,rfl⟩
 by_cases p12:p=12
 ·subst p12
  obtain ⟨hl,rfl,rfl⟩:=zero (a:=0) rfl
  exact ⟨12,_,rfl,by decide,rfl,rfl,rfl⟩
 by_cases p13:p=13
 ·subst p13
  obtain ⟨hl,rfl,rfl⟩:=zero (a:=0) rfl
  exact ⟨13,_,rfl,by decide,rfl,rfl,rfl⟩
 by_cases p14:p=14
 ·subst p14
  obtain ⟨hl,rfl,rfl⟩:=zero (a:=1) rfl
  obtain ⟨k,r',rfl⟩:=one_of hl
  exact ⟨14,_,rfl,by decide,rfl,k,rfl,rfl⟩
 by_cases p15:p=15
 ·subst p15
  obtain ⟨hl,rfl,rfl⟩:=zero (a:=0) rfl
  exact ⟨15,_,rfl,by decide,rfl,rfl,rfl⟩
 exfalso
 have:PyVastoj.shape p=none:=by
  unfold PyVastoj.shape
  simp [p0,p1,p2,p3,p4,p5,p6,p7,p8,p9,p10,p11,p12,p13,p14,p15]
 rw [this] at h
 cases h
theorem calls_cons {f:Nat}{p:Int}{r:List Int}{cs:List (List (List Int))} (h:PyFlat.calls PyVastoj.shape f (p::r)=some cs):∃ f' c t cs',f=f'+1∧PyFlat.call PyVastoj.shape (p::r)=some (c,t)∧PyFlat.calls PyVastoj.shape f' t=some cs'∧cs=c::cs':=by
 cases f with
 | zero=>cases h
 | succ f' =>
  unfold PyFlat.calls at h
  cases h1:PyFlat.call PyVastoj.shape (p::r) with
  | none=>rw [h1] at h;cases h
  | some q =>
   obtain ⟨c,t⟩:=q
   rw [h1] at h
   dsimp only at h
   cases h2:PyFlat.calls PyVastoj.shape f' t with
   | none=>rw [h2] at h;cases h
   | some cs' =>
    rw [h2] at h
    cases h
    exact ⟨f',c,t,cs',rfl,rfl,h2,rfl⟩
theorem calls_nil {f:Nat}{cs:List (List (List Int))} (h:PyFlat.calls PyVastoj.shape f []=some cs):cs=[]:=by
 cases f <;> (unfold PyFlat.calls at h;cases h;rfl)
end Go
end
section
set_option maxHeartbeats 2000000
namespace Go
open PySem PySem.Spec PyProof.Rows L2 LX VL
open Vastoj (Store State Session Call step refused done)
open VastojNeutral (encode)
def KeepL (H H':Hp):Prop:=∀ b o,H b=some o→(∀ kvs,o≠.dK kvs)→(∀ C dx fs,o≠.ins C dx fs)→H' b=some o
theorem KeepL.trans {H H1 H2:Hp} (x:KeepL H H1) (y:KeepL H1 H2):KeepL H H2:=fun b o h h1 h2=>y b o (x b o h h1 h2) h1 h2
theorem keepL_of {a:Ad}{H H':Hp} (k:Keep a H H'):KeepL H H':=fun b o h h1 h2=>k b o h h1 fun C dx fs e=>absurd e (h2 C dx fs)
theorem keepL_same {H H':Hp} (s:Same H H'):KeepL H H':=fun b o h _ _=>s b o h
theorem keepL_rd {H H':Hp}{r C dr:Addr}{fs:List (Str×V)} (f:Fx [r] H H') (h:H r=some (.ins C dr fs)):KeepL H H':=fun b o e h1 h2=>f.at_ e (by
 simp
 exact fun q=>by rw [q,h] at e;cases e;exact h2 _ _ _ rfl)
theorem KeepL.seq {K:PySem.W.Frag}{H H':Hp}{p:Addr}{xs:List V} (k:KeepL H H') (h:SqL K H p xs):SqL K H' p xs:=by
 rcases h with (h | ⟨o,h⟩) | h
 ·exact .inl (.inl (k _ _ h (by intro kvs z;cases z) (by intro C dx fs z;cases z)))
 ·exact .inl (.inr ⟨o,k _ _ h (by intro kvs z;cases z) (by intro C dx fs z;cases z)⟩)
 ·exact .inr h
section
variable {P:Program}{w:World}{K:PySem.W.Frag}{mg:Str→Option Value}{base:Heap}{a:Ad}
theorem StAt.rd (T:Txt K mg a) {H H':Hp}{x:StAd}{s:State}{r dr:Addr}{fs:List (Str×V)} (h:StAt a H x s) (hr:H r=some (.ins a.Zf dr fs)) (f:Fx [r] H H'):StAt a H' x s:=by
 have n:∀ b o,H b=some o→(∀ dx fs,o≠.ins a.Zf dx fs)→H' b=some o:=fun b o e hn=>f.at_ e (by
  simp
  exact fun q=>by rw [q,hr] at e;cases e;exact hn _ _ rfl)
 have nd:∀ b kvs,H b=some (.dK kvs)→H' b=some (.dK kvs):=fun b kvs e=>n b _ e (by intro _ _ z;cases z)
 have ni:∀ b C d fs,H b=some (.ins C d fs)→C≠a.Zf→H' b=some (.ins C d fs):=fun b C d fs e hn=>n b _ e (by intro _ _ z;injection z with z1;exact hn z1)
 have nl:∀ b xs,H b=some (.lst xs)→H' b=some (.lst xs):=fun b xs e=>n b _ e (by intro _ _ z;cases z)
 obtain ⟨⟨dx,h1⟩,⟨⟨dt,t1⟩,⟨kz,z1,z2⟩,⟨kr,r1,RA,r2,r3⟩,⟨kk,k1,KA,k2,k3⟩,⟨km,m1,m2⟩,tn⟩,⟨⟨dc,c1⟩,⟨kb,b1,b2⟩,⟨kg,g1,g2⟩,cn⟩,⟨ks,s1,s2⟩,hE,⟨kt,q1,q2⟩,n1,n2,n3,n4⟩:=h
 refine ⟨⟨dx,ni _ _ _ _ h1 (ne_SR T)⟩,⟨⟨dt,ni _ _ _ _ t1 (ne_TR T)⟩,⟨kz,nd _ _ z1,z2⟩,⟨kr,nd _ _ r1,RA,r2,fun p r e=>nl _ _ (r3 p r e)⟩,⟨kk,nd _ _ k1,KA,k2,fun p r e=>nl _ _ (k3 p r e)⟩,⟨km,nd _ _ m1,m2⟩,tn⟩,⟨⟨dc,ni _ _ _ _ c1 (ne_CR T)⟩,⟨kb,nd _ _ b1,b2⟩,⟨kg,nd _ _ g1,g2⟩,cn⟩,⟨ks,nd _ _ s1,s2⟩,fun y hy=>?_,⟨kt,nd _ _ q1,q2⟩,n1,n2,n3,n4⟩
 obtain ⟨⟨dy,oo,ii,y1,y2,y3⟩,⟨kh,y4,y5⟩⟩:=hE y hy
 exact ⟨⟨dy,oo,ii,ni _ _ _ _ y1 (ne_ER T),nl _ _ y2,nl _ _ y3⟩,⟨kh,nd _ _ y4,y5⟩⟩
def PostA (a:Ad) (H:Hp) (x:StAd) (o:State×Vastoj.Answer) (r nl:Addr) (ns t:List Int) (Q:VK):Prop:=∀ H' x' p pos',x'.st=x.st→KeepL H H'→StAt a H' x' o.1→RdAt a H' r nl pos'→pos'≤ns.length→ns.drop pos'=t→H' p=some (.lst ((encode o.2).map V.int))→Q (.ref p) H'
def spAnswer (K:PySem.W.Frag) (a:Ad) (n:Nat):Sp:=fun vs H Q _=>∃ (x:StAd) (s:State) (r nl:Addr) (pos:Nat) (ns:List Int) (c:Call) (t:List Int),vs=[.ref x.st,.ref r]∧StAt a H x s∧StInv s∧RdAt a H r nl pos∧SqL K H nl (ns.map V.int)∧pos≤ns.length∧Parse n (ns.drop pos) c t∧PostA a H x (step s c) r nl ns t Q
theorem drop_cons {ns:List Int}{pos:Nat}{k:Int}{t:List Int} (h:ns.drop pos=k::t):ns[pos]?=some k∧ns.drop (pos+1)=t∧pos+1≤ns.length:=by
 have hl:pos<ns.length:=by
  refine Classical.byContradiction fun hn=>?_
  rw [List.drop_eq_nil_of_le (by omega)] at h;cases h
 rw [List.drop_eq_getElem_cons hl] at h
 have h1:=(List.cons.inj h).1
 exact ⟨by rw [List.getElem?_eq_getElem hl,h1],(List.cons.inj h).2,hl⟩
abbrev tNum (K:PySem.W.Frag) (a:Ad):TE:=tMt a.Zf "number" (spNumber K a) (tVar 1) tNil
theorem rd_number (T:Txt K mg a) {H:Hp}{x:StAd}{s:State}{r nl:Addr}{pos:Nat}{ns t:List Int}{k:Int}{σ:L2.St}{Q:VK} (hσ:σ[1]?=some (some (.ref r))) (hs:StAt a H x s) (hr:RdAt a H r nl pos) (hn:SqL K H nl (ns.map V.int)) (hd:ns.drop pos=k::t)
  (q:∀ H1,KeepL H H1→StAt a H1 x s→RdAt a H1 r nl (pos+1)→SqL K H1 nl (ns.map V.int)→pos+1≤ns.length→ns.drop (pos+1)=t→Q (.int k) H1):tNum K a σ H Q:=by
 obtain ⟨dr,ho⟩:=id hr
 obtain ⟨h1,h2,h3⟩:=drop_cons hd
 refine ⟨_,hσ,r,dr,_,rfl,ho,Z4H,r,nl,pos,ns,k,rfl,hr,hn,h1,fun H1 f1 r1=>?_⟩
 have kl:=keepL_rd f1 ho
 exact q H1 kl (hs.rd T ho f1) r1 (kl.seq hn) h3 h2
abbrev tRow (K:PySem.W.Frag) (a:Ad):TE:=tMt a.Zf "row" (spRow K a) (tVar 1) tNil
theorem rd_row (T:Txt K mg a) {H:Hp}{x:StAd}{s:State}{r nl:Addr}{pos:Nat}{ns t l:List Int}{σ:L2.St}{Q:VK} (hσ:σ[1]?=some (some (.ref r))) (hs:StAt a H x s) (hr:RdAt a H r nl pos) (hn:SqL K H nl (ns.map V.int)) (hd:ns.drop pos=(l.length:Int)::(l++t))
  (q:∀ H1 p pos',KeepL H H1→StAt a H1 x s→RdAt a H1 r nl pos'→SqL K H1 nl (ns.map V.int)→pos'≤ns.length→ns.drop pos'=t→H1 p=some (.lst (l.map V.int))→Q (.ref p) H1):tRow K a σ H Q:=by
 obtain ⟨dr,ho⟩:=id hr
 obtain ⟨h1,h2,h3⟩:=drop_cons hd
 have hlen:pos+1+l.length≤ns.length:=by
  have:=congrArg List.length h2
  rw [List.length_drop,List.length_append] at this
  omega
 refine ⟨_,hσ,r,dr,_,rfl,ho,Z8Z,r,nl,pos,l.length,ns,rfl,hr,hn,fun H' f=>(keepL_rd f ho).seq hn,h1,hlen,fun H1 p hp f1 r1 hl=>?_⟩
 have kl:=keepL_rd f1 ho
 refine q H1 p _ kl (hs.rd T ho f1) r1 (kl.seq hn) hlen ?_ ?_
 ·rw [← List.drop_drop,h2,List.drop_left]
 ·rw [h2,List.take_left] at hl;exact hl
theorem end_one {H H2:Hp}{x x':StAd}{o:State×Vastoj.Answer}{r nl:Addr}{pos:Nat}{ns t:List Int}{Q:VK} (k:PostA a H x o r nl ns t Q) (hn:o.2.numbers=[]) (ex:x'.st=x.st) (kl:KeepL H H2) (hs:StAt a H2 x' o.1) (hr:RdAt a H2 r nl pos) (hp:pos≤ns.length) (hd:ns.drop pos=t) :
  [V.int o.2.value].length≤sizeLine∧∀ p,H2 p=none→Q (.ref p) (upd H2 p (.lst [V.int o.2.value])):=by
 refine ⟨by show 1≤sizeLine;decide,fun p hp2=>?_⟩
 have s:=same_new (o:=.lst [V.int o.2.value]) hp2
 obtain ⟨dr,hr⟩:=hr
 refine k _ x' p pos ex (kl.trans (keepL_same s)) (hs.same s) ⟨dr,s _ _ hr⟩ hp hd ?_
 rw [upd_same]
 unfold encode
 rw [hn];rfl
theorem ans1 (T:Txt K mg a) (c:Int→Call) (hc:∀ s z,(step s (c z)).2.numbers=[]) {H:Hp}{x:StAd}{s:State}{r nl:Addr}{pos:Nat}{ns t:List Int}{k:Int}{Q:VK}{nx:L2.St→Hp→Prop} (hs:StAt a H x s) (inv:StInv s) (hr:RdAt a H r nl pos) (hn:SqL K H nl (ns.map V.int)) (hd:ns.drop pos=k::t) (post:PostA a H x (step s (c k)) r nl ns t Q) :
  tRet (tLst (tCons (tCl (spC1 a c) (tCons (tVar 0) (tCons (tNum K a) tNil))) tNil)) {nx:=nx,rt:=Q} [some (.ref x.st),some (.ref r)] H:=by
 refine ⟨_,rfl,rd_number T rfl hs hr hn hd fun H1 k1 hs1 hr1 hn1 hp1 hd1=>?_⟩
 exact ⟨x,s,k,rfl,hs1,inv,fun H2 x' ex kp hs2=>end_one post (hc s k) ex (k1.trans (keepL_of kp)) hs2 (hr1.keep kp) hp1 hd1⟩
theorem ansL (T:Txt K mg a) (c:Int→Call) {H:Hp}{x:StAd}{s:State}{r nl:Addr}{pos:Nat}{ns t:List Int}{k:Int}{Q:VK}{nx:L2.St→Hp→Prop} (hs:StAt a H x s) (inv:StInv s) (hr:RdAt a H r nl pos) (hn:SqL K H nl (ns.map V.int)) (hd:ns.drop pos=k::t) (post:PostA a H x (step s (c k)) r nl ns t Q) :
  tRet (tCl (spL1 a c) (tCons (tVar 0) (tCons (tNum K a) tNil))) {nx:=nx,rt:=Q} [some (.ref x.st),some (.ref r)] H:=by
 refine ⟨_,rfl,rd_number T rfl hs hr hn hd fun H1 k1 hs1 hr1 hn1 hp1 hd1=>?_⟩
 exact ⟨x,s,k,rfl,hs1,inv,fun H2 x' p ex kp hs2 hp=>post H2 x' p _ ex (k1.trans (keepL_of kp)) hs2 (hr1.keep kp) hp1 hd1 hp⟩
theorem ans0 (c:Call) {H:Hp}{x:StAd}{s:State}{r nl:Addr}{pos:Nat}{ns t:List Int}{Q:VK}{nx:L2.St→Hp→Prop} (hs:StAt a H x s) (inv:StInv s) (hr:RdAt a H r nl pos) (hp:pos≤ns.length) (hd:ns.drop pos=t) (post:PostA a H x (step s c) r nl ns t Q) :
  tRet (tCl (spL0 a c) (tCons (tVar 0) tNil)) {nx:=nx,rt:=Q} [some (.ref x.st),some (.ref r)] H :=
 ⟨_,rfl,x,s,rfl,hs,inv,fun H2 x' p ex kp hs2 hp2=>post H2 x' p _ ex (keepL_of kp) hs2 (hr.keep kp) hp hd hp2⟩
theorem ref_nil (n:Int):(refused n).numbers=[]:=rfl
theorem Z8u (T:Txt K mg a):Pr P w K mg base 4 a.Z1K ["state","reader"] (spAnswer K a 0):=by
 refine pr_of' T.Z9a Z8K fun cdv A outer s H vs Q E hr h=>?_
 obtain ⟨x,s,r,nl,pos,ns,c,t,rfl,hs,inv,hr1,hn,hp,⟨k,hd,rfl⟩,post⟩:=h
 refine ⟨_,(pss_one (ps_ret (pe_lst (pa_cons (pc_f (Z7X T) (hr.mono (by decide)) T.Z8A (pa_cons (pv 0) (pa_cons (pc_m0 (pv 1) T.Z8 T.Z9 (Zb T) (hr.mono (by decide))) pa_nil))) pa_nil)))),?_⟩
 refine ans1 T Call.open_ (fun s z=>?_) hs inv hr1 hn hd post
 unfold Vastoj.step;dsimp only;split
 ·rfl
 ·split <;> rfl
theorem Z8g (T:Txt K mg a):Pr P w K mg base 3 a.Z1z ["state","reader"] (spAnswer K a 1):=by
 refine pr_of' T.Z8j Z83 fun cdv A outer s H vs Q E hr h=>?_
 obtain ⟨x,s,r,nl,pos,ns,c,t,rfl,hs,inv,hr1,hn,hp,⟨k,hd,rfl⟩,post⟩:=h
 refine ⟨_,(pss_one (ps_ret (pe_lst (pa_cons (pc_f (Z7z T) (hr.mono (by decide)) T.Z7V (pa_cons (pv 0) (pa_cons (pc_m0 (pv 1) T.Z8 T.Z9 (Zb T) (hr.mono (by decide))) pa_nil))) pa_nil)))),?_⟩
 refine ans1 T Call.close (fun s z=>?_) hs inv hr1 hn hd post
 unfold Vastoj.step;dsimp only;split <;> rfl
theorem Z8a (T:Txt K mg a):Pr P w K mg base 4 a.Z1y ["state","reader"] (spAnswer K a 5):=by
 refine pr_of' T.Z8z Z7W fun cdv A outer s H vs Q E hr h=>?_
 obtain ⟨x,s,r,nl,pos,ns,c,t,rfl,hs,inv,hr1,hn,hp,⟨k,hd,rfl⟩,post⟩:=h
 refine ⟨_,(pss_one (ps_ret (pe_lst (pa_cons (pc_f (Z7d T) (hr.mono (by decide)) T.Z7G (pa_cons (pv 0) (pa_cons (pc_m0 (pv 1) T.Z8 T.Z9 (Zb T) (hr.mono (by decide))) pa_nil))) pa_nil)))),?_⟩
 refine ans1 T Call.abort (fun s z=>?_) hs inv hr1 hn hd post
 unfold Vastoj.step;dsimp only;split <;> rfl
theorem Z7H (T:Txt K mg a):Pr P w K mg base 3 a.Z1c ["state","reader"] (spAnswer K a 7):=by
 refine pr_of' T.Z86 Z7M fun cdv A outer s H vs Q E hr h=>?_
 obtain ⟨x,s,r,nl,pos,ns,c,t,rfl,hs,inv,hr1,hn,hp,⟨k,hd,rfl⟩,post⟩:=h
 refine ⟨_,(pss_one (ps_ret (pe_lst (pa_cons (pc_f (Z9f T) (hr.mono (by decide)) T.Z9K (pa_cons (pv 0) (pa_cons (pc_m0 (pv 1) T.Z8 T.Z9 (Zb T) (hr.mono (by decide))) pa_nil))) pa_nil)))),?_⟩
 refine ans1 T Call.unroot (fun s z=>?_) hs inv hr1 hn hd post
 unfold Vastoj.step;dsimp only;split <;> rfl
theorem Z7g (T:Txt K mg a):Pr P w K mg base 5 a.Z14 ["state","reader"] (spAnswer K a 8):=by
 refine pr_of' T.Z7P Z7n fun cdv A outer s H vs Q E hr h=>?_
 obtain ⟨x,s,r,nl,pos,ns,c,t,rfl,hs,inv,hr1,hn,hp,⟨k,hd,rfl⟩,post⟩:=h
 refine ⟨_,(pss_one (ps_ret (pe_lst (pa_cons (pc_f (Z6m T) (hr.mono (by decide)) T.Z6F (pa_cons (pv 0) (pa_cons (pc_m0 (pv 1) T.Z8 T.Z9 (Zb T) (hr.mono (by decide))) pa_nil))) pa_nil)))),?_⟩
 refine ans1 T Call.collect (fun s z=>?_) hs inv hr1 hn hd post
 unfold Vastoj.step;dsimp only;split
 ·rfl
 ·split <;> rfl
theorem Z8L (T:Txt K mg a):Pr P w K mg base 3 a.Z1G ["state","reader"] (spAnswer K a 11):=by
 refine pr_of' T.Z8X Z8F fun cdv A outer s H vs Q E hr h=>?_
 obtain ⟨x,s,r,nl,pos,ns,c,t,rfl,hs,inv,hr1,hn,hp,⟨k,hd,rfl⟩,post⟩:=h
 refine ⟨_,(pss_one (ps_ret (pe_lst (pa_cons (pc_f (Za1 T) (hr.mono (by decide)) T.Zah (pa_cons (pv 0) (pa_cons (pc_m0 (pv 1) T.Z8 T.Z9 (Zb T) (hr.mono (by decide))) pa_nil))) pa_nil)))),?_⟩
 refine ans1 T Call.room (fun s z=>?_) hs inv hr1 hn hd post
 unfold Vastoj.step;dsimp only;split
 ·rfl
 ·split <;> rfl
theorem Z8v (T:Txt K mg a):Pr P w K mg base 6 a.Z1J ["state","reader"] (spAnswer K a 9):=by
 refine pr_of' T.Z97 Z8s fun cdv A outer s H vs Q E hr h=>?_
 obtain ⟨x,s,r,nl,pos,ns,c,t,rfl,hs,inv,hr1,hn,hp,⟨k,hd,rfl⟩,post⟩:=h
 refine ⟨_,(pss_one (ps_ret (pc_f (Z92 T) (hr.mono (by decide)) T.Z9J (pa_cons (pv 0) (pa_cons (pc_m0 (pv 1) T.Z8 T.Z9 (Zb T) (hr.mono (by decide))) pa_nil))))),?_⟩
 exact ansL T Call.work hs inv hr1 hn hd post
theorem Z9e (T:Txt K mg a):Pr P w K mg base 4 a.Z1W ["state","reader"] (spAnswer K a 14):=by
 refine pr_of' T.Z9v Z9h fun cdv A outer s H vs Q E hr h=>?_
 obtain ⟨x,s,r,nl,pos,ns,c,t,rfl,hs,inv,hr1,hn,hp,⟨k,hd,rfl⟩,post⟩:=h
 refine ⟨_,(pss_one (ps_ret (pc_f (Z9Z T) (hr.mono (by decide)) T.Za9 (pa_cons (pv 0) (pa_cons (pc_m0 (pv 1) T.Z8 T.Z9 (Zb T) (hr.mono (by decide))) pa_nil))))),?_⟩
 exact ansL T Call.why hs inv hr1 hn hd post
theorem Z8e (T:Txt K mg a):Pr P w K mg base 2 a.Z1w ["state","reader"] (spAnswer K a 12):=by
 refine pr_of' T.Z8q Z89 fun cdv A outer s H vs Q E hr h=>?_
 obtain ⟨x,s,r,nl,pos,ns,c,t,rfl,hs,inv,hr1,hn,hp,⟨hd,rfl⟩,post⟩:=h
 refine ⟨_,(pss_one (ps_ret (pc_f (Z9b T) (hr.mono (by decide)) T.Z9s (pa_cons (pv 0) pa_nil)))),?_⟩
 exact ans0 .valid hs inv hr1 hp hd post
theorem Z8w (T:Txt K mg a):Pr P w K mg base 5 a.Z1D ["state","reader"] (spAnswer K a 13):=by
 refine pr_of' T.Z8V Z8E fun cdv A outer s H vs Q E hr h=>?_
 obtain ⟨x,s,r,nl,pos,ns,c,t,rfl,hs,inv,hr1,hn,hp,⟨hd,rfl⟩,post⟩:=h
 refine ⟨_,(pss_one (ps_ret (pc_f (Z9y T) (hr.mono (by decide)) T.Z9T (pa_cons (pv 0) pa_nil)))),?_⟩
 exact ans0 .live hs inv hr1 hp hd post
theorem Z7F (T:Txt K mg a):Pr P w K mg base 3 a.Z1d ["state","reader"] (spAnswer K a 15):=by
 refine pr_of' T.Z7Y Z7B fun cdv A outer s H vs Q E hr h=>?_
 obtain ⟨x,s,r,nl,pos,ns,c,t,rfl,hs,inv,hr1,hn,hp,⟨hd,rfl⟩,post⟩:=h
 refine ⟨_,(pss_one (ps_ret (pc_f (Z8p T) (hr.mono (by decide)) T.Z96 (pa_cons (pv 0) pa_nil)))),?_⟩
 exact ans0 .counts hs inv hr1 hp hd post
theorem Z7C (T:Txt K mg a):Pr P w K mg base 3 a.Z1e ["state","reader"] (spAnswer K a 10):=by
 refine pr_of' T.Z8h Z7L fun cdv A outer s H vs Q E hr h=>?_
 obtain ⟨x,s,r,nl,pos,ns,c,t,rfl,hs,inv,hr1,hn,hp,⟨hd,rfl⟩,post⟩:=h
 refine ⟨_,(pss_one (ps_ret (pe_lst (pa_cons (pc_f (Z5R T) (hr.mono (by decide)) T.Z6o (pa_cons (pv 0) pa_nil)) pa_nil)))),?_⟩
 exact ⟨_,rfl,x,s,rfl,hs,inv,fun H2 x' ex kp hs2=>end_one post rfl ex (keepL_of kp) hs2 (hr1.keep kp) hp hd⟩
theorem Z8i (T:Txt K mg a):Pr P w K mg base 6 a.Z1M ["state","reader"] (spAnswer K a 2):=by
 refine pr_of' T.Z9g Z3C fun cdv A outer s H vs Q E hr h=>?_
 obtain ⟨x,s,r,nl,pos,ns,c,t,rfl,hs,inv,hr1,hn,hp,⟨k,p,hd,rfl⟩,post⟩:=h
 refine ⟨_,(pss_cons (pst 2 Z3C.nd (pc_m0 (pv 1) T.Z8 T.Z9 (Zb T) (hr.mono (by decide))))
   (pss_cons (pst 3 Z3C.nd (pc_m0 (pv 1) T.Z8 T.Z9 (Zb T) (hr.mono (by decide))))
   (pss_one (ps_ret (pe_lst (pa_cons (pc_f (Z8R T) (hr.mono (by decide)) T.Z9L (pa_cons (pv 0) (pa_cons (pv 2) (pa_cons (pv 3) pa_nil)))) pa_nil)))))),?_⟩
 refine rd_number T rfl hs hr1 hn hd fun H1 k1 hs1 hr2 hn1 hp1 hd1=>?_
 refine rd_number T rfl hs1 hr2 hn1 hd1 fun H2 k2 hs2 hr3 hn2 hp2 hd2=>?_
 refine ⟨_,rfl,_,rfl,_,rfl,x,s,k,p,rfl,hs2,inv,fun H3 x' ex kp hs3=>end_one post ?_ ex (k1.trans (k2.trans (keepL_of kp))) hs3 (hr3.keep kp) hp2 hd2⟩
 unfold Vastoj.step;dsimp only;split
 ·rfl
 ·split <;> rfl
theorem Z8x (T:Txt K mg a):Pr P w K mg base 6 a.Z1L ["state","reader"] (spAnswer K a 6):=by
 refine pr_of' T.Z8U Z3F fun cdv A outer s H vs Q E hr h=>?_
 obtain ⟨x,s,r,nl,pos,ns,c,t,rfl,hs,inv,hr1,hn,hp,⟨k,p,hd,rfl⟩,post⟩:=h
 refine ⟨_,(pss_cons (pst 2 Z3F.nd (pc_m0 (pv 1) T.Z8 T.Z9 (Zb T) (hr.mono (by decide))))
   (pss_cons (pst 3 Z3F.nd (pc_m0 (pv 1) T.Z8 T.Z9 (Zb T) (hr.mono (by decide))))
   (pss_one (ps_ret (pe_lst (pa_cons (pc_f (Z9R T) (hr.mono (by decide)) T.Zad (pa_cons (pv 0) (pa_cons (pv 2) (pa_cons (pv 3) pa_nil)))) pa_nil)))))),?_⟩
 refine rd_number T rfl hs hr1 hn hd fun H1 k1 hs1 hr2 hn1 hp1 hd1=>?_
 refine rd_number T rfl hs1 hr2 hn1 hd1 fun H2 k2 hs2 hr3 hn2 hp2 hd2=>?_
 refine ⟨_,rfl,_,rfl,_,rfl,x,s,k,p,rfl,hs2,inv,fun H3 x' ex kp hs3=>end_one post ?_ ex (k1.trans (k2.trans (keepL_of kp))) hs3 (hr3.keep kp) hp2 hd2⟩
 unfold Vastoj.step;dsimp only;split
 ·rfl
 ·split <;> rfl
theorem Z7Z (T:Txt K mg a):Pr P w K mg base 6 a.Z1s ["state","reader"] (spAnswer K a 3):=by
 refine pr_of' T.Z8C Z1U fun cdv A outer s H vs Q E hr h=>?_
 obtain ⟨x,s,r,nl,pos,ns,c,t,rfl,hs,inv,hr1,hn,hp,⟨k,o,i,hd,ho,hi,rfl⟩,post⟩:=h
 refine ⟨_,(pss_cons (pst 2 Z1U.nd (pc_m0 (pv 1) T.Z8 T.Z9 (Zb T) (hr.mono (by decide))))
   (pss_cons (pst 3 Z1U.nd (pc_m0 (pv 1) T.Z8 T.Z2S (Z2T T) (hr.mono (by decide))))
   (pss_cons (pst 4 Z1U.nd (pc_m0 (pv 1) T.Z8 T.Z2S (Z2T T) (hr.mono (by decide))))
   (pss_one (ps_ret (pe_lst (pa_cons (pc_f (Z7f T) (hr.mono (by decide)) T.Z7R (pa_cons (pv 0) (pa_cons (pv 2) (pa_cons (pv 3) (pa_cons (pv 4) pa_nil))))) pa_nil))))))),?_⟩
 refine rd_number T rfl hs hr1 hn hd fun H1 k1 hs1 hr2 hn1 hp1 hd1=>?_
 refine rd_row T rfl hs1 hr2 hn1 hd1 fun H2 p2 pos2 k2 hs2 hr3 hn2 hp2 hd2 hl2=>?_
 refine rd_row T rfl hs2 hr3 hn2 hd2 fun H3 p3 pos3 k3 hs3 hr4 hn3 hp3 hd3 hl3=>?_
 have hl2':H3 p2=some (.lst (o.map V.int)):=k3 _ _ hl2 (by intro _ z;cases z) (by intro _ _ _ z;cases z)
 refine ⟨_,rfl,_,rfl,_,rfl,_,rfl,x,s,k,p2,p3,o,i,rfl,hs3,inv,hl2',hl3,ho,hi,fun H4 x' ex kp hs4=>end_one post ?_ ex (k1.trans (k2.trans (k3.trans (keepL_of kp)))) hs4 (hr4.keep kp) hp3 hd3⟩
 show (Vastoj.begin_ s k o i).2.numbers=[]
 rcases begin_cases s k o i with ⟨n,_,e⟩ | ⟨y,_,_,_,_,_,_,e⟩ <;> rw [e] <;> rfl
theorem Z7K (T:Txt K mg a):Pr P w K mg base 7 a.Z1f ["state","reader"] (spAnswer K a 4):=by
 refine pr_of' T.Z84 Z1B fun cdv A outer s H vs Q E hr h=>?_
 obtain ⟨x,s,r,nl,pos,ns,c,t,rfl,hs,inv,hr1,hn,hp,⟨k,o,i,hd,ho,hi,rfl⟩,post⟩:=h
 refine ⟨_,(pss_cons (pst 2 Z1B.nd (pc_m0 (pv 1) T.Z8 T.Z9 (Zb T) (hr.mono (by decide))))
   (pss_cons (pst 3 Z1B.nd (pc_m0 (pv 1) T.Z8 T.Z2S (Z2T T) (hr.mono (by decide))))
   (pss_cons (pst 4 Z1B.nd (pc_m0 (pv 1) T.Z8 T.Z2S (Z2T T) (hr.mono (by decide))))
   (pss_one (ps_ret (pe_lst (pa_cons (pc_f (Z6y T) (hr.mono (by decide)) T.Z7k (pa_cons (pv 0) (pa_cons (pv 2) (pa_cons (pv 3) (pa_cons (pv 4) pa_nil))))) pa_nil))))))),?_⟩
 refine rd_number T rfl hs hr1 hn hd fun H1 k1 hs1 hr2 hn1 hp1 hd1=>?_
 refine rd_row T rfl hs1 hr2 hn1 hd1 fun H2 p2 pos2 k2 hs2 hr3 hn2 hp2 hd2 hl2=>?_
 refine rd_row T rfl hs2 hr3 hn2 hd2 fun H3 p3 pos3 k3 hs3 hr4 hn3 hp3 hd3 hl3=>?_
 have hl2':H3 p2=some (.lst (o.map V.int)):=k3 _ _ hl2 (by intro _ z;cases z) (by intro _ _ _ z;cases z)
 refine ⟨_,rfl,_,rfl,_,rfl,_,rfl,x,s,k,p2,p3,o,i,rfl,hs3,inv,hl2',hl3,ho,hi,fun H4 x' ex kp hs4=>end_one post ?_ ex (k1.trans (k2.trans (k3.trans (keepL_of kp)))) hs4 (hr4.keep kp) hp3 hd3⟩
 show (Vastoj.finish s k o i).2.numbers=[]
 rcases fin_cases s k o i with ⟨n,_,e⟩ | ⟨y,b,rs,_,_,_,_,_,e⟩ <;> rw [e] <;> rfl
end
end Go
end
section
set_option maxHeartbeats 2000000
namespace Go
open PySem PySem.Spec PyProof.Rows L2 LX VL
open Vastoj (Store State Session Call step refused done knot)
open VastojNeutral (encode)
theorem filter_len {α:Type} (f:α→Bool):∀ l:List α,(l.filter f).length+(l.filter fun x=>!f x).length=l.length
 | []=>rfl
 | x::r=>by
  have:=filter_len f r
  cases e:f x <;> simp [e] <;> omega
theorem unit_len {s:State} (inv:StInv s):s.unit.2.length+s.unit.1.store.length≤s.store.length:=by
 unfold State.unit
 split
 ·unfold State.mark
  split <;> simp
 ·split
  ·unfold State.sweep
   split
   ·show 0+s.idle.store.length≤_
    show 0+s.store.length≤_
    omega
   ·cases e:s.next with
    | none=>simp
    | some p =>
     obtain ⟨p1,_,_⟩:=next_some e
     have h1:=congrArg List.length (within_valid inv.st p1)
     have h2:=filter_len (fun n=>(knot s.store p).contains n.place) s.store
     unfold Store.valid at h1
     rw [List.length_map] at h1
     unfold within at h1
     show (knot s.store p).length+(s.store.filter fun n=>!(knot s.store p).contains n.place).length≤s.store.length
     omega
  ·simp
theorem work_len:∀ (n:Nat) {s:State},StInv s→(Vastoj.work n s).2.length≤s.store.length
 | 0,s,_=>by simp [Vastoj.work]
 | n+1,s,inv=>by
  have h1:=unit_len inv
  have h2:=work_len n inv.unit
  show (s.unit.2++(Vastoj.work n s.unit.1).2).length≤_
  rw [List.length_append];omega
theorem store_len {s:Store} (ok:StoreOk s):s.length≤128:=by
 have:=asc_len_le ok.asc ok.lt
 unfold Store.valid at this
 rwa [List.length_map] at this
theorem ans_len {s:State} (inv:StInv s) (c:Call):(step s c).2.numbers.length≤130:=by
 have hst:=store_len inv.st
 cases c with
 | open_ k =>
  unfold Vastoj.step;dsimp only;split
  ·exact Nat.zero_le _
  ·split <;> exact Nat.zero_le _
 | close k=>unfold Vastoj.step;dsimp only;split <;> exact Nat.zero_le _
 | hold k p =>
  unfold Vastoj.step;dsimp only;split
  ·exact Nat.zero_le _
  ·split <;> exact Nat.zero_le _
 | begin_ k o i =>
  show (Vastoj.begin_ s k o i).2.numbers.length≤130
  rcases begin_cases s k o i with ⟨n,_,e⟩ | ⟨y,_,_,_,_,_,_,e⟩ <;> rw [e] <;> exact Nat.zero_le _
 | finish k o i =>
  show (Vastoj.finish s k o i).2.numbers.length≤130
  rcases fin_cases s k o i with ⟨n,_,e⟩ | ⟨y,b,rs,_,_,_,_,_,e⟩ <;> rw [e] <;> exact Nat.zero_le _
 | abort k=>unfold Vastoj.step;dsimp only;split <;> exact Nat.zero_le _
 | root r p =>
  unfold Vastoj.step;dsimp only;split
  ·exact Nat.zero_le _
  ·split <;> exact Nat.zero_le _
 | unroot r=>unfold Vastoj.step;dsimp only;split <;> exact Nat.zero_le _
 | collect n =>
  unfold Vastoj.step;dsimp only;split
  ·exact Nat.zero_le _
  ·split <;> exact Nat.zero_le _
 | work n =>
  unfold Vastoj.step;dsimp only;split
  ·exact Nat.zero_le _
  ·have:=work_len n.toNat inv
   dsimp only
   omega
 | cancel=>exact Nat.zero_le _
 | room n =>
  unfold Vastoj.step;dsimp only;split
  ·exact Nat.zero_le _
  ·split <;> exact Nat.zero_le _
 | valid =>
  show s.store.valid.length≤130
  unfold Store.valid
  rw [List.length_map];omega
 | live =>
  show s.live.length≤130
  have:=asc_len_le (asc_closure s.store s.anchored) fun q hq=>inv.st.lt q (closure_valid inv.st (fun p hp=>(mem_anchored.mp hp).1) hq)
  show (Vastoj.closure s.store s.anchored).length≤130
  omega
 | why p =>
  unfold Vastoj.step;dsimp only
  split
  ·exact Nat.zero_le _
  ·split
   ·exact Nat.zero_le _
   ·show (Vastoj.why s p.toNat).length≤130
    unfold Vastoj.why
    dsimp only
    rw [List.length_cons,List.length_append,List.length_map,List.length_map]
    have h1:=List.length_filter_le (fun r:Nat×Nat=>s.store.has r.2&&Vastoj.reaches s.store r.2 p.toNat) s.roots
    have h2:=List.length_filter_le (fun x:Session=>x.anchors.any fun q=>s.store.has q&&Vastoj.reaches s.store q p.toNat) s.sessions
    have h3:=asc_len_le (n:=32) inv.roots.asc fun r hr=>by
     obtain ⟨y,hy,ey⟩:=List.mem_map.mp hr
     rw [← ey];exact (inv.roots.lt y hy).1
    have h4:=asc_len_le (n:=8) inv.ses.asc fun r hr=>by
     obtain ⟨y,hy,ey⟩:=List.mem_map.mp hr
     rw [← ey];exact (inv.ses.ok y hy).num
    rw [List.length_map] at h3 h4
    omega
 | counts=>show 6≤130;decide
section
variable {P:Program}{w:World}{K:PySem.W.Frag}{mg:Str→Option Value}{base:Heap}{a:Ad}
def spOne (K:PySem.W.Frag) (a:Ad):Sp:=fun vs H Q _=>∃ (x:StAd) (s:State) (r nl:Addr) (pos:Nat) (ns:List Int) (n:Nat) (rest:List Int) (c:Call) (t:List Int),vs=[.ref x.st,.ref r]∧StAt a H x s∧StInv s∧RdAt a H r nl pos∧SqL K H nl (ns.map V.int)∧ns.drop pos=(n:Int)::rest∧n<16∧Parse n rest c t∧PostA a H x (step s c) r nl ns t Q
def tabFs (a:Ad):List Addr:=[a.Z1K,a.Z1z,a.Z1M,a.Z1s,a.Z1f,a.Z1y,a.Z1L,a.Z1c,a.Z14,a.Z1J,a.Z1e,a.Z1G,a.Z1w,a.Z1D,a.Z1W,a.Z1d]
theorem table (T:Txt K mg a) (n:Nat) (h:n<16):∃ f,(tabFs a)[n]?=some f∧Pr P w K mg base 7 f ["state","reader"] (spAnswer K a n):=by
 match n,h with
 | 0,_=>exact ⟨_,rfl,(Z8u T).mono (by decide)⟩
 | 1,_=>exact ⟨_,rfl,(Z8g T).mono (by decide)⟩
 | 2,_=>exact ⟨_,rfl,(Z8i T).mono (by decide)⟩
 | 3,_=>exact ⟨_,rfl,(Z7Z T).mono (by decide)⟩
 | 4,_=>exact ⟨_,rfl,(Z7K T).mono (by decide)⟩
 | 5,_=>exact ⟨_,rfl,(Z8a T).mono (by decide)⟩
 | 6,_=>exact ⟨_,rfl,(Z8x T).mono (by decide)⟩
 | 7,_=>exact ⟨_,rfl,(Z7H T).mono (by decide)⟩
 | 8,_=>exact ⟨_,rfl,(Z7g T).mono (by decide)⟩
 | 9,_=>exact ⟨_,rfl,(Z8v T).mono (by decide)⟩
 | 10,_=>exact ⟨_,rfl,(Z7C T).mono (by decide)⟩
 | 11,_=>exact ⟨_,rfl,(Z8L T).mono (by decide)⟩
 | 12,_=>exact ⟨_,rfl,(Z8e T).mono (by decide)⟩
 | 13,_=>exact ⟨_,rfl,(Z8w T).mono (by decide)⟩
 | 14,_=>exact ⟨_,rfl,(Z9e T).mono (by decide)⟩
 | 15,_=>exact ⟨_,rfl,(Z7F T).mono (by decide)⟩
 | n+16,h=>omega
theorem Z90 (T:Txt K mg a):Pr P w K mg base 8 a.Z4G ["state","reader"] (spOne K a):=by
 refine pr_of' T.Z9G Z6f fun cdv A outer s H vs Q E hr h=>?_
 obtain ⟨x,s,r,nl,pos,ns,n,rest,c,t,rfl,hs,inv,hr1,hn,hd,hn16,hpa,post⟩:=h
 refine ⟨_,(pss_cons (pst 2 Z6f.nd (pe_tab T.ZaN T.ZaX (pc_m0 (pv 1) T.Z8 T.Z9 (Zb T) (hr.mono (by decide)))))
   (pss_one (ps_ret (pe_callv (k:=7) (pv 2) (hr.mono (by decide)) (pa_cons (pv 0) (pa_cons (pv 1) pa_nil)))))),?_⟩
 obtain ⟨f,hf,fd,F,bi,kp⟩:=table (P:=P) (w:=w) (base:=base) T n hn16
 refine rd_number T rfl hs hr1 hn hd fun H1 k1 hs1 hr2 hn1 hp1 hd1=>⟨n,f,rfl,hf,?_⟩
 refine ⟨_,rfl,f,fd,_,_,rfl,F,kp,bi,_,rfl,_,rfl,x,s,r,nl,pos+1,ns,c,t,rfl,hs1,inv,hr2,hn1,hp1,by rw [hd1];exact hpa,fun H2 x' p pos' ex kl hs2 hr3 hp3 hd3 hl=>?_⟩
 exact post H2 x' p pos' ex (k1.trans kl) hs2 hr3 hp3 hd3 hl
def spAns (K:PySem.W.Frag):Sp:=fun vs H Q _=>∃ (nl:Addr) (ns:List Int),vs=[.ref nl]∧SqL K H nl (ns.map V.int)∧PyVastoj.answers_asked ns=true∧∀ (H':Hp) (p:Addr),H' p=some (.lst ((PyVastoj.answers ns).map V.int))→Q (.ref p) H'
theorem keepL_fresh {H H':Hp}{g:Addr}{o:HO} (k:KeepL H H') (h:H g=none):KeepL H (upd H' g o):=fun b u e h1 h2=>by
 rw [upd_ne (ne_of_none e h)];exact k b u e h1 h2
theorem step_of {s:State}{c:List (List Int)}{cl:Call} (h:VastojNeutral.callOf c=some cl):VastojNeutral.step s c=((step s cl).1,encode (step s cl).2):=by
 unfold VastojNeutral.step
 rw [h]
theorem Zag {fd:FuncData} (F:Fun K "answers" "answers" Z6J a.Z58 fd) (T:Txt K mg a):FnOk P w K mg base CX0 9 a.Z58 fd ["calls"] (spAns K):=by
 refine F.ok Z3c (fun vs H Q E h=>by (repeat (obtain ⟨_,h⟩:=h));subst_vars;rfl) (fun cdv A outer s H vs Q E hr h=>?_)
 obtain ⟨nl,ns,rfl,hn,hask,k⟩:=h
 refine ⟨_,(pss_cons (pst 1 Z3c.nd (pc_k0 T.Z4M (Z8S T) (hr.mono (by decide)) T.ZaT))
   (pss_cons (pst 2 Z3c.nd (pc_k T.Z3S (Z8n T) (hr.mono (by decide)) T.ZaC (pa_cons (pv 0) pa_nil)))
   (pss_cons (pst 3 Z3c.nd (pe_lst pa_nil))
   (pss_cons (ps_while PassesOwn.never (pt_val (pc_m0 (pv 2) T.Z8 T.Z6M (Z6w T) (hr.mono (by decide)))) (pss_cons (ps_lock (pst 4 Z3c.nd (pc_f (Z90 T) (hr.mono (by decide)) T.Z9q (pa_cons (pv 1) (pa_cons (pv 2) pa_nil)))))
   (pss_cons (ps_expr (pe_bm PySem.F.plainAttrs_list PySem.F.slot_list_append PySem.F.type_list_append mt_append (pv 3) (pa_cons (pe_callB call_len_seq (by rfl) T.b_len (by decide +kernel) (pa_cons (pv 4) pa_nil)) pa_nil)))
   (pss_one (ps_expr (pe_bm PySem.F.plainAttrs_list PySem.F.slot_list_extend PySem.F.type_list_extend mt_extend (pv 3) (pa_cons (pv 4) pa_nil)))))))
   (pss_one (ps_ret (pv 3))))))),?_⟩
 obtain ⟨cs0,hcs0,hall,hmost,hans⟩:∃ cs,PyFlat.calls PyVastoj.shape ns.length ns=some cs∧(∀ c∈cs,VastojNeutral.asked1 (PyVastoj.whole c)=true)∧cs.length≤400∧PyVastoj.answers ns=PyFlat.told (PyFlat.played VastojNeutral.step VastojNeutral.start (cs.map PyVastoj.whole)):=by
  unfold PyVastoj.answers_asked PyVastoj.calls at hask
  unfold PyVastoj.answers PyVastoj.calls
  cases e:PyFlat.calls PyVastoj.shape ns.length ns with
  | none=>rw [e] at hask;cases hask
  | some cs =>
   rw [e] at hask
   dsimp only at hask ⊢
   unfold PyFlat.atMost VastojNeutral.asked at hask
   simp only [Bool.and_eq_true,decide_eq_true_eq,List.length_map] at hask
   refine ⟨cs,rfl,fun c hc=>?_,hask.1,rfl⟩
   exact List.all_eq_true.mp hask.2.1 _ (List.mem_map.mpr ⟨c,hc,rfl⟩)
 intro st dst h1 h2 h3
 refine ⟨st,dst,rfl,upd_same,fun H1 x ex hs k1=>⟨rfl,?_⟩⟩
 have s1:Same H H1:=made_same h1 h2 k1
 refine ⟨_,rfl,?_⟩
 intro rd drd h4 h5 h6
 refine ⟨rd,drd,nl,rfl,upd_same,fun H2 hr2 k2=>⟨rfl,?_⟩⟩
 have s2:Same H1 H2:=made_same h4 h5 k2
 refine ⟨Nat.zero_le _,fun tl htl=>?_⟩
 have s3:∀ o,Same H2 (upd H2 tl o):=fun o=>same_new htl
 have s02:Same H H2:=s1.trans s2
 have hHtl:H tl=none:=s02.free htl
 refine ⟨fun m σ H'=>∃ (x':StAd) (s':State) (pos:Nat) (v4:Option V) (tld:List Int) (cs:List (List (List Int))) (f:Nat),σ=[some (.ref nl),some (.ref st),some (.ref rd),some (.ref tl),v4]∧x'.st=st∧KeepL H H'∧(∀ o,StAt a (upd H' tl o) x' s')∧StInv s'∧(∀ o,RdAt a (upd H' tl o) rd nl pos)∧pos≤ns.length ∧
   PyFlat.calls PyVastoj.shape f (ns.drop pos)=some cs∧(∀ c∈cs,VastojNeutral.asked1 (PyVastoj.whole c)=true)∧H' tl=some (.lst (tld.map V.int))∧PyVastoj.answers ns=tld++PyFlat.told (PyFlat.played VastojNeutral.step s' (cs.map PyVastoj.whole))∧tld.length+cs.length*140≤400*140∧m=cs.length,
  ⟨_,x,Vastoj.start,0,none,[],cs0,ns.length,rfl,ex,keepL_same (s02.trans (s3 _)),fun o=>by rw [upd_upd];exact (hs.same s2).same (s3 o),inv_start,fun o=>by
   rw [upd_upd]
   obtain ⟨dr,e⟩:=hr2
   exact ⟨dr,s3 o _ _ e⟩,Nat.zero_le _,hcs0,hall,by rw [upd_same];rfl,hans,by simp;omega,rfl⟩,?_⟩
 rintro m σ H3 ⟨x',s',pos,v4,tld,cs,f,rfl,ex',kl,hsa,inv,hra,hpos,hcs,hask',htl3,hans3,hlen,hm⟩
 have hid:upd H3 tl (.lst (tld.map V.int))=H3:=upd_id htl3
 have hr3:RdAt a H3 rd nl pos:=by
  have:=hra (.lst (tld.map V.int))
  rw [hid] at this
  exact this
 obtain ⟨dr3,ho3⟩:=id hr3
 refine ⟨_,rfl,rd,dr3,_,rfl,ho3,Z6X,rd,nl,pos,ns,rfl,hr3,kl.seq hn,_,rfl,?_⟩
 by_cases hmore:pos<ns.length
 ·have e1:decide (pos<ns.length)=true:=decide_eq_true hmore
  rw [e1]
  refine iteT ⟨_,fun _ _ q=>q,?_⟩
  have hdrop:=List.drop_eq_getElem_cons hmore
  rw [hdrop] at hcs
  obtain ⟨f',c,t,cs',hf',hcall,hcs',rfl⟩:=calls_cons hcs
  obtain ⟨n,cl,hnp,hn16,hcl,hparse⟩:=parse_of hcall (hask' c (by simp))
  refine ⟨tl,.lst (tld.map V.int),htl3,trivial,fun od=>?_⟩
  have hsl:=hsa (.frz od (.lst (tld.map V.int)))
  have hrl:=hra (.frz od (.lst (tld.map V.int)))
  have kll:KeepL H (upd H3 tl (.frz od (.lst (tld.map V.int)))):=keepL_fresh kl hHtl
  refine ⟨_,rfl,_,rfl,x',s',rd,nl,pos,ns,n,_,cl,t,by rw [ex'],hsl,inv,hrl,kll.seq hn,by rw [hdrop,hnp],hn16,hparse,fun H4 x4 p pos4 ex4 kl4 hs4 hr4 hp4 hd4 hl4=>?_⟩
  have htl4:H4 tl=some (.frz od (.lst (tld.map V.int))):=kl4 _ _ upd_same (by intro _ z;cases z) (by intro _ _ _ z;cases z)
  have hptl:p≠tl:=fun e=>by rw [e,htl4] at hl4;cases hl4
  have hal:=ans_len inv cl
  have hencl:(encode (step s' cl).2).length≤131:=by unfold encode;rw [List.length_cons,List.length_map];omega
  have htb:tld.length+140+cs'.length*140≤400*140:=by
   rw [List.length_cons] at hlen;omega
  refine ⟨htl4,?_⟩
  have hl5:∀ o,(upd H4 tl o) p=some (.lst ((encode (step s' cl).2).map V.int)):=fun o=>by rw [upd_ne hptl];exact hl4
  refine ⟨_,rfl,.inl ⟨rfl,_,SqL.of upd_same⟩,_,rfl,p,_,rfl,.inl (SqL.of (hl5 _)),tl,_,.int (((encode (step s' cl).2).map V.int).length:Nat),rfl,rfl,upd_same,by rw [List.length_map];exact line_of_le (by omega),?_⟩
  rw [upd_upd]
  refine ⟨_,rfl,.inl ⟨rfl,_,SqL.of upd_same⟩,_,rfl,tl,p,_,_,rfl,rfl,upd_same,hl5 _,by rw [List.length_append,List.length_map,List.length_map];exact Nat.le_of_lt (line_of_le (by simp;omega)),?_⟩
  rw [upd_upd]
  have kl5:KeepL H H4:=fun b o e q1 q2=>kl4 b o (kll b o e q1 q2) q1 q2
  refine ⟨cs'.length,by rw [hm,List.length_cons];exact Nat.lt_succ_self _,x4,(step s' cl).1,pos4,_,tld++((encode (step s' cl).2).length:Int)::encode (step s' cl).2,cs',f',rfl,ex4.trans ex',keepL_fresh kl5 hHtl,fun o=>by rw [upd_upd];exact hs4.at_lock htl4 o,inv.step cl,fun o=>?_,hp4,by rw [hd4];exact hcs',fun c' hc'=>hask' c' (by simp [hc']),?_,?_,?_,rfl⟩
  ·rw [upd_upd]
   obtain ⟨dr,e⟩:=hr4
   exact ⟨dr,by rw [upd_ne (fun q=>by rw [q,htl4] at e;cases e)];exact e⟩
  ·rw [upd_same];simp
  ·rw [hans3,List.map_cons]
   show tld++PyFlat.told ((VastojNeutral.step s' (PyVastoj.whole c)).2::PyFlat.played VastojNeutral.step (VastojNeutral.step s' (PyVastoj.whole c)).1 (cs'.map PyVastoj.whole))=_
   rw [step_of hcl]
   unfold PyFlat.told
   rw [List.flatMap_cons,List.append_assoc]
  ·rw [List.length_append,List.length_cons];omega
 ·have e1:decide (pos<ns.length)=false:=decide_eq_false hmore
  rw [e1]
  refine iteF ?_
  have:ns.drop pos=[]:=List.drop_eq_nil_of_le (by omega)
  rw [this] at hcs
  have e2:=calls_nil hcs
  rw [e2] at hans3
  have e3:PyVastoj.answers ns=tld:=by rw [hans3];simp [PyFlat.played,PyFlat.told]
  exact ⟨_,rfl,k H3 tl (by rw [e3];exact htl3)⟩
theorem fin (T:Txt K mg a) {fa:Addr} (hfa:mg "answers"=some (.ref fa)) :
  ∃ fd:FuncData,(∀ (s:Shared) (us:List Value),us.length=(["calls"]:List Str).length→BindsTo s fd ⟨us,[]⟩ ((["calls"]:List Str).zip us))∧∀ base:Heap,K.In base→base.Ns mainGlobals mg→FnOk P w K mg base CX0 9 fa fd ["calls"] (spAns K):=by
 have e:=hfa.symm.trans T.Zal
 cases e
 obtain ⟨fd,F⟩:=T.Zau
 refine ⟨fd,fun s us hu=>?_,fun base _ _=>Zag F T⟩
 obtain ⟨oc,od,kV,doc,pm,an,cdv,ct,osl,rfl,lk,hcd⟩:=F.ex
 exact match us,hu with | [_],_=>.of_eq rfl
end
end Go
end
namespace PySem.W.Fast
def tw17664088009691164000:=0
def tw16338850896030942849:=0
def tw9526104861392782810:=0
def tw8750690498103368780:=0
def tw3413089397512190262:=0
def tw9218109851917504229:=0
def tw9948234419042753720:=0
def tw17388016022914999371:=0
def tw18280494306948668842:=0
def tw6233417795196246980:=0
def tw8337968697551820144:=0
def tw6056479088298553194:=0
def tw18324783888698913940:=0
def tw6802237358170824231:=0
def tw3730466569504533563:=0
def tw888737862553313924:=0
def tw7861504550099349601:=0
def tw5372768300973025502:=0
def tw11670095697291105616:=0
def tw15004341734310482065:=0
def tw16657724547032796431:=0
def tw8683206874681888311:=0
def tw8088374231542276234:=0
def tw16765566390087800096:=0
def tw2194056236147613797:=0
def tw1067972458221083399:=0
def tw13878193145344042232:=0
def tw9623600693383493854:=0
def tw112852366351034779:=0
def tw636867100029804170:=0
def tw6885494401254240721:=0
def tw12822044623841976163:=0
def tw16904139523053481207:=0
def tw15424653878920595854:=0
def tw11510958466685723146:=0
def tw190583954437840397:=0
def tw2259239446507123241:=0
def tw2620266402522912019:=0
def tw17741131149854729310:=0
def tw12114756693480049231:=0
def tw13511870670907996666:=0
def tw14298831423639142599:=0
def tw6536483694742684727:=0
def tw12208384064546204523:=0
def tw10187417488508465264:=0
def tw18396827549059995524:=0
def tw2895161594382242826:=0
def tw9442063810328507371:=0
def tw999990126021185668:=0
def tw16594949028531411510:=0
def tw1931872813672125924:=0
def tw6310515048981994403:=0
def tw15408132385424515579:=0
def tw12663550433645501618:=0
def tw6702125937738879858:=0
def tw4898389550775087439:=0
def tw12436165907888562629:=0
def tw5748757778838727852:=0
def tw18056879240166003312:=0
def tw17761069373923696955:=0
def tw3318494875804720657:=0
def tw11678715010822912723:=0
def tw14695986180067382860:=0
def tw15164671639610185041:=0
def tw5401061666375921080:=0
def tw15499260455669041223:=0
def tw1770663756423081375:=0
def tw6404064949882862253:=0
def tw1873296626613667476:=0
def tw2308100422884233085:=0
def tw17918872299244073881:=0
def tw10043772640202906514:=0
def tw10992396644824264503:=0
def tw10529557613240434061:=0
def tw11745686610941167649:=0
def tw14689318174806500414:=0
def tw17149056298261725590:=0
def tw1801571981610200580:=0
def tw7522301258068131416:=0
def tw8167219148986189015:=0
def tw7218676188233115682:=0
def tw8089355538571565074:=0
def tw704603045784252260:=0
def tw3519123859083038293:=0
def tw15776812446937895532:=0
def tw11184517842611067164:=0
def tw5998214211950630905:=0
def tw10973554846914672356:=0
def tw10020976360670930297:=0
def tw1635632934699978458:=0
def tw804842482624818700:=0
def tw17820837458347098748:=0
def tw15445678198186095935:=0
def tw13435889404659634887:=0
def tw393385230333183787:=0
def tw3138384803565011429:=0
def tw14689105619469294180:=0
def tw6386066103070197884:=0
def tw12654118911782366996:=0
def tw11171588797922714936:=0
def tw10510358992505476387:=0
def tw1247652748856503907:=0
def tw9781205471205254543:=0
def tw16480258109728585002:=0
def tw7408730978781573294:=0
def tw14295255018729839963:=0
def tw5055863376660421222:=0
def tw14803728844741769656:=0
def tw6637555610419827071:=0
def tw7540326402892421465:=0
def tw9978440455905110011:=0
def tw14704754800676082767:=0
def tw8446661014999170835:=0
def tw16816140906626390710:=0
def tw11526795162418902448:=0
def tw9946345128220241799:=0
def tw1045819952001675269:=0
def tw8052321526493772614:=0
def tw5576582419358105816:=0
def tw17366627893597781122:=0
def tw11583445994515897244:=0
def tw8947820771168814150:=0
def tw18357590955628868267:=0
def tw12499053079790135631:=0
def tw9711183007245337641:=0
def tw18133968647950775543:=0
def tw11122049008226331018:=0
def tw12879607780655607312:=0
def tw13932014839252107017:=0
def tw4958053240848942185:=0
def tw12222545240345311647:=0
def tw11227553524562223388:=0
def tw6064823822330270415:=0
def tw15413841074465553697:=0
def tw5468867336414086584:=0
def tw17675263830219263435:=0
def tw16519596543432055079:=0
def tw2101200878918313252:=0
def tw16540291293843557667:=0
def tw8045053599482871933:=0
def tw8252883346181616295:=0
def tw9804464851675289465:=0
def tw4710769645355927346:=0
def tw2941260848771935170:=0
def tw503354430405538345:=0
def tw15906140044860533354:=0
def tw10035594816678209527:=0
def tw1147805649734672032:=0
def tw7384417789013742497:=0
def tw13130232516101088046:=0
def tw2247312142036995827:=0
def tw2287792777827760571:=0
def tw15420160683595761702:=0
def tw355081551158042400:=0
def tw17157214036576687955:=0
def tw2309862803558184269:=0
def tw13961975738947773711:=0
def tw8897878690815508482:=0
def tw878046228771343456:=0
def tw15350333276628006494:=0
def tw14726136265576526178:=0
def tw12677258012214731042:=0
def tw248364984955449337:=0
def tw14228822793744673410:=0
def tw795517201408295346:=0
def tw8222794044183490107:=0
def tw16751435162184551135:=0
def tw3558294866754231863:=0
def tw14881523867090253612:=0
def tw7888803384320178274:=0
def tw2552558145083386888:=0
def tw16861199255630686060:=0
def tw10257796173012994864:=0
def tw4478873705571041345:=0
def tw15958243047108424995:=0
def tw11441430341311560364:=0
def tw4985821071447022243:=0
def tw5593862451783326565:=0
def tw8019782556417809911:=0
def tw17137695564431850216:=0
def tw15467712319422710290:=0
def tw8524977334066060932:=0
def tw9879217971750991810:=0
def tw15247515096709128703:=0
def tw17200350549145358156:=0
def tw10704099563474469009:=0
def tw10610952439764893012:=0
def tw12635048436413153546:=0
def tw10562063370453060512:=0
def tw18290526523307305994:=0
def tw1326401973108050394:=0
def tw1268779132729862293:=0
def tw15882936596608878731:=0
def tw7231990701285502082:=0
def tw12918610255273956948:=0
def tw13474971120612129438:=0
def tw13001191940586862088:=0
def tw5144016188325257324:=0
def tw5355976446727992832:=0
def tw15971837808218019485:=0
def tw8100398849356471222:=0
def tw15182522337605872455:=0
def tw13440114410103678778:=0
def tw1962245307625100048:=0
def tw12500301024507123207:=0
def tw12098679008218432347:=0
def tw8671988690819208638:=0
def tw354035099803269129:=0
def tw16681287401041888230:=0
def tw9834249507784939260:=0
def tw6831347124919858797:=0
def tw14638911124287121152:=0
def tw15891575796676551813:=0
def tw2571529363433830961:=0
def tw3479400835768498977:=0
def tw3074357234206373342:=0
def tw2205923127296048363:=0
def tw16107959321634626958:=0
def tw6566606213581301772:=0
def tw3978330090006221271:=0
def tw17472160928300129702:=0
def tw6800330763102743172:=0
def tw14696385131396200531:=0
def tw5000308701782775433:=0
def tw13428726300027260951:=0
def tw14612643475636761689:=0
def tw16349189951223829674:=0
def tw2311133736177948731:=0
def tw4687699673620419657:=0
def tw15543383835166820987:=0
def tw5672838191068724193:=0
def tw11028525933370789499:=0
def tw17978850150599043096:=0
def tw3382137367723325002:=0
def tw1766309083925083038:=0
def tw11107463372501396227:=0
def tw9957154041821770164:=0
def tw16517762520921435808:=0
def tw1419336581599510675:=0
def tw11806352484966983611:=0
def tw16299341700406644474:=0
def tw11703953583479491855:=0
def tw11606628952110334746:=0
def tw8468577297610665091:=0
def tw10326508861400656383:=0
def tw9850637680390824612:=0
def tw14844677989100394975:=0
def tw4030422252347529090:=0
def tw2810418769990358758:=0
def tw9534783332285403855:=0
def tw2742275046484246860:=0
def tw1033295372485866800:=0
def tw12409659084868281045:=0
def tw5864266936658066095:=0
def tw13320993429908877863:=0
def tw7819962426234367687:=0
def tw18446509927677555288:=0
def tw7051623067913207808:=0
def tw13907566263277038131:=0
def tw7074971467674913049:=0
def tw1059974452945836525:=0
def tw15828822243978461487:=0
def tw7964804546804547312:=0
def tw16766977238021310049:=0
def tw4664196789182901786:=0
def tw8406371001451468755:=0
def tw8458144184923305980:=0
def tw4931895846505148658:=0
def tw7520808221481734823:=0
def tw7812058184370177072:=0
def tw8936591387773699821:=0
def tw9444901503865764171:=0
def tw13633907709087060321:=0
def tw15414802180822365984:=0
def tw763553922882117936:=0
def tw7862792809121873266:=0
def tw1971030302696361840:=0
def tw9168532505770391026:=0
def tw1245838943734720351:=0
def tw3600799245783816434:=0
def tw15484021688453132928:=0
def tw6152612645924411872:=0
def tw14397170571082268440:=0
def tw13720624956559243083:=0
def tw7222728016670651300:=0
def tw4479081342427118310:=0
def tw2429689692260267823:=0
def tw3630091246154282421:=0
def tw15973254910194614980:=0
def tw2695056036050061921:=0
def tw3353577959830976690:=0
def tw14327985117424016443:=0
def tw16084017805179735927:=0
def tw715935289116391787:=0
def tw10639937262311508391:=0
def tw8627918144189845437:=0
def tw1808423426455770405:=0
def tw15138954420121740214:=0
def tw10104089577451982561:=0
def tw1563840862349614476:=0
def tw10393922712031024069:=0
def tw16093670435417915872:=0
def tw11497606220234261211:=0
def tw1664158507261106003:=0
def tw12462174634070037500:=0
def tw1585515681776779410:=0
def tw10863590226437722770:=0
def tw13379992142817728218:=0
def tw5890569159667595976:=0
def tw4077817161401038514:=0
def tw1897737104416441680:=0
def tw11031955577230402616:=0
def tw11683961197506608083:=0
def tw4418412066376012586:=0
def tw9341935818095027062:=0
def tw2742414341769528050:=0
def tw10543192319225002274:=0
def tw6422383365868277533:=0
def tw2747128004849437742:=0
def tw1464915916256333510:=0
def tw7309684183842445421:=0
def tw16942266497566810878:=0
def tw2408187984317483293:=0
def tw14723555629656253774:=0
def tw5624760871313750420:=0
def tw6400172495429806656:=0
def tw10971438146511647824:=0
def tw7428876208660983004:=0
def tw194807381816664493:=0
def tw1137043973240816865:=0
def tw11362568215748430800:=0
def tw1270223883473711541:=0
def tw2051427884698741659:=0
def tw4171448863187961787:=0
def tw99826560165199671:=0
def tw17828176839309883090:=0
def tw1992554477805513695:=0
def tw16144664110636991775:=0
def tw4106632314470980571:=0
def tw7904705311319829504:=0
def tw12316226246015917224:=0
def tw3321763387914632348:=0
def tw4112351705766513330:=0
def tw3778262952830582342:=0
def tw4662959512498269405:=0
def tw16719214877845766255:=0
def tw6412588159773298589:=0
def tw532574379782087313:=0
def tw4501039741765373340:=0
def tw17903066630165139190:=0
def tw16666136092514806971:=0
def tw1016875789513166929:=0
def tw5300988736151908158:=0
def tw17673683771372609487:=0
def tw15291741026737985106:=0
def tw10537470486237744551:=0
def tw12838584377619936473:=0
def tw17753158257708746092:=0
def tw721631963843122322:=0
def tw15464219966646517957:=0
def tw1652757357779799609:=0
def tw7276663562182165522:=0
def tw8470310001784166623:=0
def tw15253835476742974531:=0
def tw1740585083034012230:=0
def tw7234735853790934242:=0
def tw15633191034670921713:=0
def tw1451688957561533949:=0
def tw9634397324211343304:=0
def tw8324289722157307870:=0
def tw4837933830273917506:=0
def tw7159520616648350572:=0
def tw13533106318858134431:=0
def tw2491800167003295626:=0
def tw12601410290022906338:=0
def tw1731289077781026842:=0
def tw4864310781084405047:=0
def tw13780336115915855568:=0
def tw13747871280081032529:=0
def tw14599465753117671446:=0
def tw6900991632115530971:=0
def tw5555607083961513127:=0
def tw3111050464574439494:=0
def tw3669533649519819212:=0
def tw10533200770347671620:=0
def tw12733923462284190487:=0
def tw7340287064168651927:=0
def tw10997464841209627065:=0
def tw7419484951317803467:=0
def tw9819380889574937062:=0
def tw13318982471054385415:=0
def tw12543065340094887944:=0
def tw17406235207905564587:=0
def tw13960407815542723304:=0
def tw16954445733962156584:=0
def tw13296419702091817442:=0
def tw6681209541210168325:=0
def tw5284922342752952291:=0
def tw9728334745237006330:=0
def tw11042085965547292423:=0
def tw10470198619763606847:=0
def tw13834011663376539718:=0
def tw3743502903370804133:=0
def tw6250857415450451201:=0
def tw16962524966817842547:=0
def tw3912565129358624243:=0
def tw12154083700402301102:=0
def tw12440956243614317958:=0
def tw8566098498665736681:=0
def tw8751780309121778463:=0
def tw17795046703223778111:=0
def tw1766053115125936907:=0
def tw16230734311950401201:=0
def tw7844100705438108519:=0
def tw8433991452649574238:=0
def tw4626940398417013875:=0
def tw11738133695348956889:=0
def tw17701391659548224882:=0
def tw655682028422065148:=0
def tw15083004165828287895:=0
def tw4429305906924596805:=0
def tw12454710262553198376:=0
def tw15210865636448457851:=0
def tw6976272630896961743:=0
def tw16948418169959406178:=0
def tw17626389368719337562:=0
def tw2779170218523203441:=0
def tw2284328701930995517:=0
def tw12468764662843682890:=0
def tw11597372385203467980:=0
def tw14080019290193369183:=0
def tw14142696590157946238:=0
def tw17165310514746796869:=0
def tw5797325589408282353:=0
def tw11880030792309435367:=0
def tw5671667034432121705:=0
def tw12506882555367821597:=0
def tw370212320392378516:=0
def tw16869874175911403451:=0
def tw6945296555671861042:=0
def tw6363317418471211497:=0
def tw11560936491996005546:=0
def tw14230723110163024819:=0
def tw13197554452949984822:=0
def tw8249776267844173954:=0
def tw1266748563156517615:=0
def tw17175789347178440743:=0
def tw18376007958266720514:=0
def tw9470273956517547716:=0
def tw74970573943849943:=0
def tw1447316925857221607:=0
def tw7732267799288638566:=0
def tw12070569851850594507:=0
def tw11280556305618296824:=0
def tw1836041697877771321:=0
def tw18369549799304235884:=0
def tw9078883678902984318:=0
def tw10770264297553209503:=0
def tw8240668294968487084:=0
def tw15130519210863686538:=0
def tw7939720406943439628:=0
def tw1870127402897992608:=0
def tw9393602647965153871:=0
def tw2093490110606984816:=0
def tw14172041381860450095:=0
def tw16583693360974393734:=0
def tw1488972821935809319:=0
def tw10513331954799428658:=0
def tw11773973321567734598:=0
def tw16931290226956859445:=0
def tw15322286896966480536:=0
def tw9193327755263800277:=0
def tw10102140807905406033:=0
def tw7232342437067545043:=0
def tw14495696870399522608:=0
def tw3844242357355993086:=0
def tw8499426913838077496:=0
def tw2488344693415715487:=0
def tw15537039328051918614:=0
def tw17605192077146249785:=0
def tw4481917567095010352:=0
def tw4565615881969725886:=0
def tw1232633513794955936:=0
def tw10654227347144673443:=0
def tw11993791060506560263:=0
def tw8063883810152736982:=0
def tw8533800478111577499:=0
def tw14266321694661558219:=0
def tw6913034708081626725:=0
def tw17757558031946338910:=0
def tw5074965606428002510:=0
def tw6712248158678829372:=0
def tw2899578544951508218:=0
def tw617300013608603350:=0
def tw16281953045230743580:=0
def tw5956748306045885591:=0
def tw2645921503529862190:=0
def tw4197566606931131697:=0
def tw2344719453834279916:=0
def tw3104874744853001:=0
def tw2932431468681779568:=0
def tw14167847117118736559:=0
def tw4199976901962239417:=0
def tw6941940116249915974:=0
def tw9017757268590132512:=0
def tw1102859709681958304:=0
def tw8235153804757460227:=0
def tw3003118137911670353:=0
def tw6360904590005416171:=0
def tw784687268975621865:=0
def tw10537689338815846403:=0
def tw17065023562454163517:=0
def tw15219021497284592550:=0
def tw12636926767477411592:=0
def tw5366464933145399547:=0
def tw15991159807628750549:=0
def tw17294678480239156909:=0
def tw497880578210509445:=0
def tw6570918897363922606:=0
def tw15674332167922852044:=0
def tw4780219131579977752:=0
def tw17462249819311376710:=0
def tw11577983677699355349:=0
def tw15852246879548970490:=0
def tw11434778676897046859:=0
def tw15860225743605729398:=0
def tw8082945977536316533:=0
def tw9965379362934844585:=0
def tw4365721383041263930:=0
def tw6710219335945284336:=0
def tw8346778449665933718:=0
def tw311387998165996040:=0
def tw16149063776916542689:=0
def tw16079021269877049315:=0
def tw2877425992067067141:=0
def tw16355641967693259361:=0
def tw7213607148695597568:=0
def tw12593808123454044123:=0
def tw15677464716951500476:=0
def tw15129019199626392932:=0
def tw15506324560753767431:=0
def tw2783969149324249833:=0
def tw9881478948634450973:=0
def tw11838241461494502794:=0
def tw193013820718236707:=0
def tw5131505519556244613:=0
def tw17239203482813721938:=0
def tw17275753542587238703:=0
def tw1940760880792689066:=0
def tw9628649270545055476:=0
def tw2509996192088344513:=0
def tw288645049031067461:=0
def tw11137216327888117652:=0
def tw7819381099956273575:=0
def tw17641475502306740450:=0
def tw14327775919789655763:=0
def tw16667402928553566776:=0
def tw11152411616555033692:=0
def tw15437906250092197679:=0
def tw7090211929198475862:=0
def tw69373788767256912:=0
def tw10438048152141880668:=0
def tw1658124784838208015:=0
def tw2590512493586265565:=0
def tw4873055820743795146:=0
def tw17881648961328110154:=0
def tw10217393578344325524:=0
def tw14129202469010258838:=0
def tw10977112977455816952:=0
def tw6163935386360188504:=0
def tw13020459984926471314:=0
def tw4646227864758630306:=0
def tw16455538232995439695:=0
def tw14290273259669462019:=0
def tw2141576545015367529:=0
def tw13414081421723976275:=0
def tw9671919120773531513:=0
def tw7045895625352577564:=0
def tw7930936080339524427:=0
def tw339733199743844409:=0
def tw4369907690773004620:=0
def tw8333869399250042373:=0
def tw16832852735432818571:=0
def tw1855536136913950420:=0
def tw11996698778345159521:=0
def tw2087981286225949248:=0
def tw11390973146457013476:=0
def tw1749649983036790325:=0
def tw932715784466221550:=0
def tw4456790934611871570:=0
def tw5047833529618266686:=0
def tw10829751442154868261:=0
def tw15076771284147249775:=0
def tw14231988010011999895:=0
def tw951501418545706335:=0
def tw6069819777497779419:=0
def tw193913615866128455:=0
def tw3646059561960220306:=0
def tw1579401286092928557:=0
def tw16226451216095659070:=0
def tw17233062416543772721:=0
def tw2905482474459256531:=0
def tw10774272143332449956:=0
def tw9447828499410127780:=0
def tw12450217140343109357:=0
def tw11950083903778910120:=0
def tw14438080715769498279:=0
def tw3791732153730176966:=0
def tw13097276341310118127:=0
def tw13450680447834737169:=0
def tw4857401248201392650:=0
def tw17356358270342032889:=0
def tw2935483498156477998:=0
def tw2353081891893609287:=0
def tw6973313886285492923:=0
def tw13030720203220425584:=0
def tw6424566252278337440:=0
def tw15780524543341741141:=0
def tw15169576372472421250:=0
def tw16448558540876721228:=0
def tw14305356322117614210:=0
def tw9294419632840377204:=0
def tw4583028897335454204:=0
def tw5847558786010115124:=0
def tw17554002753543448065:=0
def tw13381981295478374400:=0
def tw10762766410514825442:=0
def tw7024515224700010837:=0
def tw11029856893433702278:=0
def tw15840964880116137113:=0
def tw3407828293834688770:=0
def tw11733768288080953217:=0
def tw14831734928795217339:=0
def tw1817786036497824963:=0
def tw17690937680889644354:=0
def tw13680211928400794682:=0
end PySem.W.Fast
section
section
open PySem PySem.W PyProof.Rows
local macro_rules | `(tactic| walk_at "hd") => `(tactic| first
  | exact mg_of (by assumption) (by assumption) (by k_is)
  | exact ⟨_, mg_of (by assumption) (by assumption) (by k_is)⟩
  | exact mg_none_of (by assumption) (by assumption) (by k_is)
  | exact ⟨_, L2.fun_mk (by k_is) (by k_is) (by k_is)⟩
  | exact L2.Meth.mk (by k_is) (by k_is) (by k_is)
  | exact L2.Cls.mk (by k_is) (by k_is) (by k_is) (by k_is)
  | exact L2.Mk.mk (by k_is) (by k_is) (by k_is) (by k_is)
  | (show findIn _ _ _ = some none; k_is)
  | (unfold L2.NoAttr; k_is)
  | exact ⟨_, _, (by k_is), by repeat (first | exact trivial | refine ⟨by decide, ⟨_, rfl⟩, rfl, ?_⟩)⟩)
theorem Go.fin2 {x0 x1 x2 x3 x4 x5 x6 x7 x8 x9 x10 x11 x12 x13 x14 x15 x16 x17 x18 x19 x20 x21 x22 x23 x24 x25 x26 x27 x28 x29 x30 x31 x32 x33 x34 x35 x36 x37 x38 x39 x40 x41 x42 x43 x44 x45 x46 x47 x48 x49 x50 x51 x52 x53 x54 x55 x56 x57 x58 x59 x60 x61 x62 x63 x64 x65 x66 x67 x68 x69 x70 x71 x72 x73 x74 x75 x76 x77 x78 x79 x80 x81 x82 x83 x84 x85 x86 x87 x88 x89 x90 x91 x92 x93 x94 x95 : Addr} {K : PySem.W.Frag} {mg : Str → Option Value} {R : Prop} (g : Go.Txt K mg ⟨x0, x1, x2, x3, x4, x5, x6, x7, x8, x9, x10, x11, x12, x13, x14, x15, x16, x17, x18, x19, x20, x21, x22, x23, x24, x25, x26, x27, x28, x29, x30, x31, x32, x33, x34, x35, x36, x37, x38, x39, x40, x41, x42, x43, x44, x45, x46, x47, x48, x49, x50, x51, x52, x53, x54, x55, x56, x57, x58, x59, x60, x61, x62, x63, x64, x65, x66, x67, x68, x69, x70, x71, x72, x73, x74, x75, x76, x77, x78, x79, x80, x81, x82, x83, x84, x85, x86, x87, x88, x89, x90, x91, x92, x93, x94, x95⟩ → R) (T : Go.Txt K mg ⟨x0, x1, x2, x3, x4, x5, x6, x7, x8, x9, x10, x11, x12, x13, x14, x15, x16, x17, x18, x19, x20, x21, x22, x23, x24, x25, x26, x27, x28, x29, x30, x31, x32, x33, x34, x35, x36, x37, x38, x39, x40, x41, x42, x43, x44, x45, x46, x47, x48, x49, x50, x51, x52, x53, x54, x55, x56, x57, x58, x59, x60, x61, x62, x63, x64, x65, x66, x67, x68, x69, x70, x71, x72, x73, x74, x75, x76, x77, x78, x79, x80, x81, x82, x83, x84, x85, x86, x87, x88, x89, x90, x91, x92, x93, x94, x95⟩) : R := g T
set_option maxRecDepth 100000 in
set_option maxHeartbeats 0 in
theorem PySem.Challenge.cw_stepsweep_s01_answers_holds : PySem.Challenge.rw_stepsweep_s01_answers.Holds := by
  w_on; k_headS; (case hw => exact ⟨[.list [.int 15]], by decide +kernel, by decide +kernel⟩)
  k_fillS
  refine L2.walk_specK (r := PySem.Challenge.rw_stepsweep_s01_answers) (k := 9) (CX := L2.CX0) (ps := ["calls"]) (sp := Go.spAns) (by decide +kernel) rfl rfl ⟨rfl, by decide, by decide⟩ (fun w h Y => PySem.W.kIn_of Y) ?F ?S (fun _ _ _ _ z => z)
  case F =>
    intro w mg fa h Y KX G hmg
    refine' Go.fin2 (fun T => Go.fin T hmg) ⟨?_, ?_, ?_, ?_, ?_, ?_, ?_, ?_, ?_, ?_, ?_, ?_, ?_, ?_, ?_, ?_, ?_, ?_, ?_, ?_, ?_, ?_, ?_, ?_, ?_, ?_, ?_, ?_, ?_, ?_, ?_, ?_, ?_, ?_, ?_, ?_, ?_, ?_, ?_, ?_, ?_, ?_, ?_, ?_, ?_, ?_, ?_, ?_, ?_, ?_, ?_, ?_, ?_, ?_, ?_, ?_, ?_, ?_, ?_, ?_, ?_, ?_, ?_, ?_, ?_, ?_, ?_, ?_, ?_, ?_, ?_, ?_, ?_, ?_, ?_, ?_, ?_, ?_, ?_, ?_, ?_, ?_, ?_, ?_, ?_, ?_, ?_, ?_, ?_, ?_, ?_, ?_, ?_, ?_, ?_, ?_, ?_, ?_, ?_, ?_, ?_, ?_, ?_, ?_, ?_, ?_, ?_, ?_, ?_, ?_, ?_, ?_, ?_, ?_, ?_, ?_, ?_, ?_, ?_, ?_, ?_, ?_, ?_, ?_, ?_, ?_, ?_, ?_, ?_, ?_, ?_, ?_, ?_, ?_, ?_, ?_, ?_, ?_, ?_, ?_, ?_, ?_, ?_, ?_, ?_, ?_, ?_, ?_, ?_, ?_, ?_, ?_, ?_, ?_, ?_, ?_, ?_, ?_, ?_, ?_, ?_, ?_, ?_, ?_, ?_, ?_, ?_, ?_, ?_, ?_, ?_, ?_, ?_, ?_, ?_, ?_, ?_, ?_, ?_, ?_, ?_, ?_, ?_, ?_, ?_, ?_, ?_, ?_, ?_, ?_, ?_, ?_, ?_, ?_, ?_, ?_, ?_, ?_, ?_, ?_, ?_, ?_, ?_, ?_, ?_, ?_, ?_, ?_, ?_, ?_, ?_, ?_, ?_, ?_, ?_, ?_, ?_, ?_, ?_, ?_, ?_, ?_, ?_, ?_, ?_, ?_, ?_, ?_, ?_, ?_, ?_, ?_, ?_, ?_, ?_, ?_, ?_, ?_, ?_, ?_, ?_⟩
    all_goals (try dsimp only)
    all_goals (try walk_at "hd")
    all_goals (try walk_at "hd")
  case S =>
    intro K H xs a hO hwi hask hx
    cases hx with
    | cons h1 h2 =>
      cases h2
      cases h1 with
      | lst hs ha =>
        have e := L2.ints_dw a.1 _ ha
        subst e
        exact ⟨_, a.1, rfl, hs, hask, fun H' p hp => .lst (L2.SqL.of hp) (L2.dw_ints _)⟩
end
end
